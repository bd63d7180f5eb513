/- The faces New, Check, Test, Turn; bytes.Clone. -/
import Derived.Test.YtlpipnpcgancmaaDoorTTurn
import Derived.Test.YtlpipnpcgancmaaDoorWAny
import Derived.Test.YtlpipnpcgancmaaDoorMk
import Derived.Deep.QuietTactic
import Derived.BigQuiet
namespace Go.Proofs.YtlpipnpcgancmaaDoor.TFace
open Go.RowKit WMem WPlain WAppend WCrc WSeal WAny TPlain TBits TSet TWalk TOrd TCut TTurn

set_option maxHeartbeats 400000 in
theorem Clone_256 (l : List UInt8) (hl : l.length = 256) (B : Nat) (A : Option Addr) (c : Nat) (w : World) (hB : B ≤ w.heap.size) (hA : Sl w B A (l.map u8v)) :
    Calls Tryd.prog 32 #[.slice A 256 c] w fun e w' => ∃ g cap rest, e = .returned (.slice (some ⟨g, 0, none⟩) 256 cap) ∧ w.heap.size ≤ g ∧ 256 ≤ cap ∧ Row w' g l rest ∧ Below w.heap.size w w' := by
  obtain ⟨a, rfl, hab, hcc⟩ := hA.u8 (k := 0) (by omega)
  clear hcc
  have HS : Hid (Sl (w.alloc (.cells #[] 5)) B (some a) (l.map u8v)) := Lib.hid (hA.keep fun q hq => World.cell?_alloc_lt w _ q (by omega))
  have HO : Hid ((w.alloc (.cells #[] 5)).ownsRow w.heap.size 5 1 (.slice (some ⟨w.heap.size, 0, none⟩) 0 0) 0 []) := Lib.hid (World.ownsRow_made w #[] 0 (Nat.le_refl _) (by decide) rfl)
  have HL := Lib.hid hl
  clear hA hl
  have hnil : ∀ w : World, (binOp .eql 22 (.slice (some a) 256 c) (.slice none 0 0)).run Tryd.prog w = .ok (.bool false) w := fun w => Lib.run_eql_slice_nil (P := Tryd.prog) w 22 5 (some a) 256 c 0 0 (by kernel_rfl)
  go_enter Tryd.func32, Tryd.ntmps32
  go_wp2_with (at_builtin; refine wl_append rfl (.tmp 5) (.tmp 6) 22 rfl w.heap.size 5 1 Mk.elem8 (.slice (some ⟨w.heap.size, 0, none⟩) 0 0) 0 [] rfl HO.out B (some a) 256 c (l.map u8v) rfl (by simp [HL.out]) HS.out (Mk.one_u8 l) (by omega) (by unfold maxLen; omega) (by simp) ?_; intro v1 w1 h1 h2 h3)
  rw [List.nil_append] at h1
  obtain ⟨g, cap, rest, hv, hg, hcap, hrow, hlen, hmax⟩ := WHelp.row_of_own h1 (by omega)
  subst hv
  go_ret
  refine ⟨g, cap, rest, rfl, hg, by omega, by simpa [Row] using hrow, ?_⟩
  refine ((Below.refl _ _).alloc (Nat.le_refl _) _).grown h2 (by simp) ?_
  intro k hk
  simp [Value.ownBlock] at hk
  omega
theorem sealE_256 {l : List UInt8} (hl : l.length = 256) : sealE l = 0 := by unfold sealE; rw [if_pos (by omega)]
set_option maxHeartbeats 400000 in
theorem sealed_any (l : List UInt8) (rest : List Value) (g c seed : Nat) (w : World) (hs : seed < 4294967296) (hl : l.length = 256) (hc : 256 ≤ c) (hR : Row w g l rest) (hT : Tab w) :
    Calls Tryd.prog 29 #[.slice (some ⟨g, 0, none⟩) 256 c, .int .u32 seed] w fun e w' => e = .returned (.tuple #[.slice (some ⟨g, 0, none⟩) 256 c, .int .i64 0]) ∧ Row w' g (sealL l seed) rest ∧ w.grownBy w' (some g) := by
  have H := Lib.hid (Seal_any l c w rest g seed hs (by omega) (by omega) hR hT)
  rw [hl, sealE_256 hl] at H
  clear hR hT
  have HL := Lib.hid hl
  clear hl
  go_enter Tryd.func29, Tryd.ntmps29
  go_wp2_with (go_at_call 44; refine H.out.mono ?_; rintro e w1 ⟨rfl, hR, hG⟩)
  go_ret2
  exact ⟨rfl, hR, hG⟩

/-- a bitmap of n, all free -/
def newB (n seed : Nat) : List UInt8 := sealL (flips (List.replicate 256 0) n (2016 - n)) seed
theorem newB_len (n seed : Nat) : (newB n seed).length = 256 := by
  unfold newB
  rw [sealL_len, flips_len, List.length_replicate]
theorem zrow_row (w : World) : Row (w.alloc (.cells (Mk.zrow 256) 5)) w.heap.size (List.replicate 256 0) [] := Mk.zrow_row w 256
set_option maxHeartbeats 400000 in
set_option maxRecDepth 100000 in
theorem New_no (n : Int) (seed : Nat) (w : World) (h : sizeB n = false) :
    Calls Tryd.prog 12 #[.int .i64 n, .int .u32 seed] w fun e w' => e = .returned (.tuple #[.slice none 0 0, .int .i64 22]) ∧ Below w.heap.size w w' := by
  have H := Lib.hid (sizeMayBe_any n w)
  rw [h] at H
  clear h
  go_enter Tryd.func12, Tryd.ntmps12
  go_wp2_with (go_at_call 27; refine H.out.mono ?_; rintro e w' ⟨rfl, rfl⟩)
  go_ret2
  exact ⟨rfl, Below.refl _ _⟩
set_option maxHeartbeats 400000 in
set_option maxRecDepth 100000 in
theorem New_yes (n seed : Nat) (w : World) (h : n ≤ 2016) (hs : seed < 4294967296) (hT : Tab w) :
    Calls Tryd.prog 12 #[.int .i64 n, .int .u32 seed] w fun e w' => ∃ g, e = .returned (.tuple #[.slice (some ⟨g, 0, none⟩) 256 256, .int .i64 0]) ∧ w.heap.size ≤ g ∧ Row w' g (newB n seed) [] ∧ Below w.heap.size w w' := by
  have H := Lib.hid (sizeMayBe_any (n : Int) w)
  rw [show sizeB (n : Int) = true by simp [sizeB]; omega] at H
  have hmk := Mk.make256
  have hsub : (2016 : Int) - (n : Int) = ((2016 - n : Nat) : Int) := by omega
  have HZ := Lib.hid (zrow_row w)
  have HT := Lib.hid (Tab.alloc hT (.cells (Mk.zrow 256) 5))
  have hlt := Tab.lt hT
  clear hT
  go_enter Tryd.func12, Tryd.ntmps12
  go_wp2_with (first
    | (go_at_call 27; refine H.out.mono ?_; rintro e w' ⟨rfl, rfl⟩)
    | (go_at_call 28; refine (turn_any (List.replicate 256 0) [] w.heap.size 256 n (2016 - n) _ (List.length_replicate ..) (by omega) HZ.out).mono ?_; rintro e w1 ⟨rfl, hR1, hG1⟩
       have HR1 := Lib.hid hR1
       have HG1 := Lib.hid hG1
       have HT1 := Lib.hid (Tab.grown HT.out hG1 (by intro e; injection e with e; omega))
       clear hR1 hG1)
    | (go_at_call 29; refine (sealed_any (flips (List.replicate 256 0) n (2016 - n)) [] w.heap.size 256 seed _ hs (by rw [flips_len, List.length_replicate]) (Nat.le_refl _) HR1.out HT1.out).mono ?_; rintro e w2 ⟨rfl, hR2, hG2⟩
       have HR2 := Lib.hid hR2
       have HG2 := Lib.hid hG2
       clear hR2 hG2))
  go_ret2
  exact ⟨w.heap.size, rfl, Nat.le_refl _, HR2.out, ((Below.refl _ _).alloc (Nat.le_refl _) _).trans ((grown_below (grown_trans HG1.out HG2.out) (Nat.le_refl _) (by simp)))⟩

/-- is it a bitmap of n? -/
def isMap (l : List UInt8) (n seed : Nat) : Bool := decide (l.length = 256) && (sealB l seed && allB l n (2016 - n) true)
def chkE (l : List UInt8) (n : Int) (seed : Nat) : Int := if sizeB n = true then (if isMap l n.toNat seed = true then 0 else 117) else 22
theorem chkE_no {l : List UInt8} {n : Int} {seed : Nat} (h : sizeB n = false) : chkE l n seed = 22 := by simp [chkE, h]
theorem chkE_not {l : List UInt8} {n : Int} {seed : Nat} (h : sizeB n = true) (h2 : isMap l n.toNat seed = false) : chkE l n seed = 117 := by simp [chkE, h, h2]
theorem chkE_ok {l : List UInt8} {n : Int} {seed : Nat} (h : sizeB n = true) (h2 : isMap l n.toNat seed = true) : chkE l n seed = 0 := by simp [chkE, h, h2]
theorem sizeB_nat {n : Int} (h : sizeB n = true) : ∃ m : Nat, n = (m : Int) ∧ m ≤ 2016 := by
  have h2 : 0 ≤ n ∧ n ≤ 2016 := by simpa [sizeB] using h
  exact ⟨n.toNat, by omega, by omega⟩
theorem Sealed_256 (l : List UInt8) (hl : l.length = 256) (q : Bool) (seed : Nat) (hq : sealB l seed = q) (B : Nat) (A : Option Addr) (c : Nat) (w : World) (hs : seed < 4294967296) (hc : 256 ≤ c) (hA : Sl w B A (l.map u8v)) (hT : Tab w) :
    Calls Tryd.prog 36 #[.slice A 256 c, .int .u32 seed] w fun e w' => e = .returned (.bool q) ∧ ∃ n, w' = w.drewN n := by
  have h := Sealed_any l B A c seed w hs (by omega) (by omega) hA hT
  rw [hl, hq] at h
  exact h
def Drew (w w' : World) : Prop := ∃ n, w' = w.drewN n
theorem Drew.refl (w : World) : Drew w w := ⟨0, rfl⟩
theorem Drew.at_ (w : World) (n : Nat) : Drew w (w.drewN n) := ⟨n, rfl⟩
set_option maxHeartbeats 400000 in
set_option maxRecDepth 100000 in
theorem Check_no (len : Nat) (A : Option Addr) (c : Nat) (n : Int) (seed : Nat) (w : World) (h : sizeB n = false) :
    Calls Tryd.prog 19 #[.slice A len c, .int .i64 n, .int .u32 seed] w fun e w' => e = .returned (.int .i64 22) ∧ Drew w w' := by
  have H := Lib.hid (sizeMayBe_any n w)
  rw [h] at H
  clear h
  go_enter Tryd.func19, Tryd.ntmps19
  go_wp2_with (go_at_call 27; refine H.out.mono ?_; rintro e w' ⟨rfl, rfl⟩)
  go_ret
  exact ⟨rfl, Drew.refl _⟩
set_option maxHeartbeats 400000 in
set_option maxRecDepth 100000 in
theorem Check_len (len : Nat) (A : Option Addr) (c : Nat) (n : Int) (seed : Nat) (w : World) (h : sizeB n = true) (hl : len ≠ 256) :
    Calls Tryd.prog 19 #[.slice A len c, .int .i64 n, .int .u32 seed] w fun e w' => e = .returned (.int .i64 117) ∧ Drew w w' := by
  have H := Lib.hid (sizeMayBe_any n w)
  rw [h] at H
  have d1 : ((len : Int) == 256) = false := by rw [beq_eq_false_iff_ne]; omega
  have d2 : ((len : Int) != 256) = true := by rw [bne, d1]; rfl
  clear h hl
  go_enter Tryd.func19, Tryd.ntmps19
  go_wp2_with (go_at_call 27; refine H.out.mono ?_; rintro e w' ⟨rfl, rfl⟩)
  go_ret
  exact ⟨rfl, Drew.refl _⟩
set_option maxHeartbeats 400000 in
set_option maxRecDepth 100000 in
theorem Check_seal (l : List UInt8) (hl : l.length = 256) (B : Nat) (A : Option Addr) (c n seed : Nat) (w : World) (hn : n ≤ 2016) (hs : seed < 4294967296) (hc : 256 ≤ c) (hq : sealB l seed = false) (hA : Sl w B A (l.map u8v)) (hT : Tab w) :
    Calls Tryd.prog 19 #[.slice A 256 c, .int .i64 n, .int .u32 seed] w fun e w' => e = .returned (.int .i64 117) ∧ Drew w w' := by
  have H := Lib.hid (sizeMayBe_any (n : Int) w)
  rw [show sizeB (n : Int) = true by simp [sizeB]; omega] at H
  have HS := Lib.hid (Sealed_256 l hl false seed hq B A c w hs hc hA hT)
  clear hl hq hA hT
  go_enter Tryd.func19, Tryd.ntmps19
  go_wp2_with (first
    | (go_at_call 27; refine H.out.mono ?_; rintro e w' ⟨rfl, rfl⟩)
    | (go_at_call 36; refine HS.out.mono ?_; rintro e w' ⟨rfl, m, rfl⟩))
  go_ret
  exact ⟨rfl, Drew.at_ _ _⟩
set_option maxHeartbeats 400000 in
set_option maxRecDepth 100000 in
theorem Check_bits (l : List UInt8) (hl : l.length = 256) (B : Nat) (A : Option Addr) (c n seed : Nat) (w : World) (hn : n ≤ 2016) (hs : seed < 4294967296) (hc : 256 ≤ c) (hq : sealB l seed = true) (hA : Sl w B A (l.map u8v)) (hT : Tab w) (q : Bool) (r : Int) (hr : r = if q = true then 0 else 117) (hb : allB l n (2016 - n) true = q) :
    Calls Tryd.prog 19 #[.slice A 256 c, .int .i64 n, .int .u32 seed] w fun e w' => e = .returned (.int .i64 r) ∧ Drew w w' := by
  have H := Lib.hid (sizeMayBe_any (n : Int) w)
  rw [show sizeB (n : Int) = true by simp [sizeB]; omega] at H
  have HS := Lib.hid (Sealed_256 l hl true seed hq B A c w hs hc hA hT)
  have hsub : (2016 : Int) - (n : Int) = ((2016 - n : Nat) : Int) := by omega
  have HA := Lib.hid (fun W (h : Sl W B A (l.map u8v)) => allAre_any l 256 hl B A c n (2016 - n) (n : Int) ((2016 - n : Nat) : Int) rfl rfl true W (by omega) (by omega) h)
  rw [hb] at HA
  have HA0 := Lib.hid hA
  clear hl hq hA hT hb
  cases q
  all_goals
    subst hr
    go_enter Tryd.func19, Tryd.ntmps19
    go_wp2_with (first
      | (go_at_call 27; refine H.out.mono ?_; rintro e w' ⟨rfl, rfl⟩)
      | (go_at_call 36; refine HS.out.mono ?_; rintro e w' ⟨rfl, m, rfl⟩)
      | (go_at_call 31; refine (HA.out _ (HA0.out.drewN _)).mono ?_; rintro e w' ⟨rfl, rfl⟩))
    go_ret
    exact ⟨rfl, Drew.at_ _ _⟩
theorem Check_any (l : List UInt8) (len : Nat) (hlen : l.length = len) (B : Nat) (A : Option Addr) (c : Nat) (n : Int) (seed : Nat) (w : World) (hs : seed < 4294967296) (hc : len ≤ c) (hA : Sl w B A (l.map u8v)) (hT : Tab w) :
    Calls Tryd.prog 19 #[.slice A len c, .int .i64 n, .int .u32 seed] w fun e w' => e = .returned (.int .i64 (chkE l n seed)) ∧ Drew w w' := by
  subst hlen
  cases h : sizeB n with
  | false => rw [chkE_no h]; exact Check_no _ A c n seed w h
  | true =>
    obtain ⟨m, rfl, hm⟩ := sizeB_nat h
    by_cases hl : l.length = 256
    · rw [hl]
      cases hq : sealB l seed with
      | false =>
        rw [chkE_not h (by simp [isMap, hq])]
        exact Check_seal l hl B A c m seed w hm hs (by omega) hq hA hT
      | true =>
        refine Check_bits l hl B A c m seed w hm hs (by omega) hq hA hT (allB l m (2016 - m) true) _ ?_ rfl
        simp [chkE, h, isMap, hl, hq]
    · rw [chkE_not h (by simp [isMap, hl])]
      exact Check_len _ A c (m : Int) seed w h hl
def tstB (l : List UInt8) (i : Int) : Bool := if placeB i = true then !fr l i.toNat else false
def tstE (i : Int) : Int := if placeB i = true then 0 else 22
set_option maxHeartbeats 400000 in
set_option maxRecDepth 100000 in
theorem Test_any (l : List UInt8) (len : Nat) (hlen : l.length = len) (B : Nat) (A : Option Addr) (c : Nat) (i : Int) (w : World) (hl : len ≤ 140737488355328) (hA : Sl w B A (l.map u8v)) :
    Calls Tryd.prog 16 #[.slice A len c, .int .i64 i] w fun e w' => e = .returned (.tuple #[.bool (tstB l i), .int .i64 (tstE i)]) ∧ w = w' := by
  have H := Lib.hid (isPlace_any i w)
  cases h : placeB i with
  | false =>
    rw [h] at H
    have e1 : tstB l i = false := by simp [tstB, h]
    have e2 : tstE i = 22 := by simp [tstE, h]
    rw [e1, e2]
    clear e1 e2 h hA
    go_enter Tryd.func16, Tryd.ntmps16
    go_wp2_with (go_at_call 34; refine H.out.mono ?_; rintro e w' ⟨rfl, rfl⟩)
    go_ret2
    exact ⟨rfl, rfl⟩
  | true =>
    rw [h] at H
    have hp : 0 ≤ i ∧ i < 2016 := by simpa [placeB] using h
    obtain ⟨m, rfl⟩ := Int.eq_ofNat_of_zero_le hp.1
    have e1 : tstB l (m : Int) = !fr l m := by simp [tstB, h]
    have e2 : tstE (m : Int) = 0 := by simp [tstE, h]
    rw [e1, e2]
    clear e1 e2 h
    have hm : m < 2016 := by omega
    obtain ⟨q, hq⟩ : ∃ q, fr l m = q := ⟨_, rfl⟩
    have HS := Lib.hid (isSet_at l len hlen B A c m _ rfl q hq w hm hl hA)
    rw [hq]
    clear hq hA hlen
    go_enter Tryd.func16, Tryd.ntmps16
    go_wp2_with (first
      | (go_at_call 34; refine H.out.mono ?_; rintro e w' ⟨rfl, rfl⟩)
      | (go_at_call 35; refine HS.out.mono ?_; rintro e w' ⟨rfl, rfl⟩))
    go_ret2
    exact ⟨rfl, rfl⟩
end Go.Proofs.YtlpipnpcgancmaaDoor.TFace
