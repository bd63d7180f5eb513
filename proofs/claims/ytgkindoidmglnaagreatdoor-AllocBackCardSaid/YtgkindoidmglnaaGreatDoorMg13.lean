/- The faces New, Check, Test, Turn; bytes.Clone. -/
import Derived.Test.YtgkindoidmglnaaGreatDoorMg4
import Derived.Test.YtgkindoidmglnaaGreatDoorMg10
import Derived.Test.YtgkindoidmglnaaGreatDoorMg12
import Derived.Deep.QuietTactic
import Derived.BigQuiet
namespace Go.Proofs.YtgkindoidmglnaaGreatDoor.TFace
open Go.RowKit WMem WPlain WAppend WCrc WSeal WAny TPlain TBits TSet TWalk TOrd TCut TTurn

set_option maxHeartbeats 400000 in
theorem Clone_256 (l : List UInt8) (hl : l.length = 256) (B : Nat) (A : Option Addr) (c : Nat) (w : World) (hB : B ≤ w.heap.size) (hA : Sl w B A (l.map u8v)) :
    Calls Tryz.prog 77 #[.slice A 256 c] w fun e w' => ∃ g cap rest, e = .returned (.slice (some ⟨g, 0, none⟩) 256 cap) ∧ w.heap.size ≤ g ∧ 256 ≤ cap ∧ Row w' g l rest ∧ Below w.heap.size w w' := by
  obtain ⟨a, rfl, hab, hcc⟩ := hA.u8 (k := 0) (by omega)
  clear hcc
  have HS : Hid (Sl (w.alloc (.cells #[] 5)) B (some a) (l.map u8v)) := Lib.hid (hA.keep fun q hq => World.cell?_alloc_lt w _ q (by omega))
  have HO : Hid ((w.alloc (.cells #[] 5)).ownsRow w.heap.size 5 1 (.slice (some ⟨w.heap.size, 0, none⟩) 0 0) 0 []) := Lib.hid (World.ownsRow_made w #[] 0 (Nat.le_refl _) (by decide) rfl)
  have HL := Lib.hid hl
  clear hA hl
  have hnil : ∀ w : World, (binOp .eql 77 (.slice (some a) 256 c) (.slice none 0 0)).run Tryz.prog w = .ok (.bool false) w := fun w => Lib.run_eql_slice_nil (P := Tryz.prog) w 77 5 (some a) 256 c 0 0 (by kernel_rfl)
  go_enter Tryz.func77, Tryz.ntmps77
  go_wp2_with (at_builtin; refine wl_append rfl (.tmp 5) (.tmp 6) 77 rfl w.heap.size 5 1 Mk.elem8 (.slice (some ⟨w.heap.size, 0, none⟩) 0 0) 0 [] rfl HO.out B (some a) 256 c (l.map u8v) rfl (by simp [HL.out]) HS.out (Mk.one_u8 l) (by omega) (by unfold maxLen; omega) (by simp) ?_; intro v1 w1 h1 h2 h3)
  rw [List.nil_append] at h1
  obtain ⟨g, cap, rest, hv, hg, hcap, hrow, hlen, hmax⟩ := WHelp.row_of_own h1 (by omega)
  subst hv
  go_ret
  refine ⟨g, cap, rest, rfl, hg, by omega, by simpa [Row] using hrow, ?_⟩
  refine ((Below.refl _ _).alloc (Nat.le_refl _) _).grown h2 (by simp) ?_
  intro k hk
  simp [Value.ownBlock] at hk
  omega
theorem sealE_256 {l : List UInt8} (hl : l.length = 256) : sealE l = 0 := by unfold sealE; rw [if_pos (by omega)]
set_option maxHeartbeats 400000 in
theorem sealed_any (l : List UInt8) (rest : List Value) (g c seed : Nat) (w : World) (hs : seed < 4294967296) (hl : l.length = 256) (hc : 256 ≤ c) (hR : Row w g l rest) (hT : Tab w) :
    Calls Tryz.prog 129 #[.slice (some ⟨g, 0, none⟩) 256 c, .int .u32 seed] w fun e w' => e = .returned (.tuple #[.slice (some ⟨g, 0, none⟩) 256 c, .int .i64 0]) ∧ Row w' g (sealL l seed) rest ∧ w.grownBy w' (some g) := by
  have H := Lib.hid (Seal_any l c w rest g seed hs (by omega) (by omega) hR hT)
  rw [hl, sealE_256 hl] at H
  clear hR hT
  have HL := Lib.hid hl
  clear hl
  go_enter Tryz.func129, Tryz.ntmps129
  go_wp2_with (go_at_call 143; refine H.out.mono ?_; rintro e w1 ⟨rfl, hR, hG⟩)
  go_ret2
  exact ⟨rfl, hR, hG⟩

/-- a bitmap of n, all free -/
def newB (n seed : Nat) : List UInt8 := sealL (flips (List.replicate 256 0) n (2016 - n)) seed
theorem newB_len (n seed : Nat) : (newB n seed).length = 256 := by
  unfold newB
  rw [sealL_len, flips_len, List.length_replicate]
theorem zrow_row (w : World) : Row (w.alloc (.cells (Mk.zrow 256) 5)) w.heap.size (List.replicate 256 0) [] := Mk.zrow_row w 256
set_option maxHeartbeats 400000 in
set_option maxRecDepth 100000 in
theorem New_no (n : Int) (seed : Nat) (w : World) (h : sizeB n = false) :
    Calls Tryz.prog 123 #[.int .i64 n, .int .u32 seed] w fun e w' => e = .returned (.tuple #[.slice none 0 0, .int .i64 22]) ∧ Below w.heap.size w w' := by
  have H := Lib.hid (sizeMayBe_any n w)
  rw [h] at H
  clear h
  go_enter Tryz.func123, Tryz.ntmps123
  go_wp2_with (go_at_call 87; refine H.out.mono ?_; rintro e w' ⟨rfl, rfl⟩)
  go_ret2
  exact ⟨rfl, Below.refl _ _⟩
set_option maxHeartbeats 400000 in
set_option maxRecDepth 100000 in
theorem New_yes (n seed : Nat) (w : World) (h : n ≤ 2016) (hs : seed < 4294967296) (hT : Tab w) :
    Calls Tryz.prog 123 #[.int .i64 n, .int .u32 seed] w fun e w' => ∃ g, e = .returned (.tuple #[.slice (some ⟨g, 0, none⟩) 256 256, .int .i64 0]) ∧ w.heap.size ≤ g ∧ Row w' g (newB n seed) [] ∧ Below w.heap.size w w' := by
  have H := Lib.hid (sizeMayBe_any (n : Int) w)
  rw [show sizeB (n : Int) = true by simp [sizeB]; omega] at H
  have hmk := Mk.make256
  have hsub : (2016 : Int) - (n : Int) = ((2016 - n : Nat) : Int) := by omega
  have HZ := Lib.hid (zrow_row w)
  have HT := Lib.hid (Tab.alloc hT (.cells (Mk.zrow 256) 5))
  have hlt := Tab.lt hT
  clear hT
  go_enter Tryz.func123, Tryz.ntmps123
  go_wp2_with (first
    | (go_at_call 87; refine H.out.mono ?_; rintro e w' ⟨rfl, rfl⟩)
    | (go_at_call 128; refine (turn_any (List.replicate 256 0) [] w.heap.size 256 n (2016 - n) _ (List.length_replicate ..) (by omega) HZ.out).mono ?_; rintro e w1 ⟨rfl, hR1, hG1⟩
       have HR1 := Lib.hid hR1
       have HG1 := Lib.hid hG1
       have HT1 := Lib.hid (Tab.grown HT.out hG1 (by intro e; injection e with e; omega))
       clear hR1 hG1)
    | (go_at_call 129; refine (sealed_any (flips (List.replicate 256 0) n (2016 - n)) [] w.heap.size 256 seed _ hs (by rw [flips_len, List.length_replicate]) (Nat.le_refl _) HR1.out HT1.out).mono ?_; rintro e w2 ⟨rfl, hR2, hG2⟩
       have HR2 := Lib.hid hR2
       have HG2 := Lib.hid hG2
       clear hR2 hG2))
  go_ret2
  exact ⟨w.heap.size, rfl, Nat.le_refl _, HR2.out, ((Below.refl _ _).alloc (Nat.le_refl _) _).trans ((grown_below (grown_trans HG1.out HG2.out) (Nat.le_refl _) (by simp)))⟩

/-- is it a bitmap of n? -/
def isMap (l : List UInt8) (n seed : Nat) : Bool := decide (l.length = 256) && (sealB l seed && allB l n (2016 - n) true)
def chkE (l : List UInt8) (n : Int) (seed : Nat) : Int := if sizeB n = true then (if isMap l n.toNat seed = true then 0 else 117) else 22
theorem chkE_no {l : List UInt8} {n : Int} {seed : Nat} (h : sizeB n = false) : chkE l n seed = 22 := by simp [chkE, h]
theorem chkE_not {l : List UInt8} {n : Int} {seed : Nat} (h : sizeB n = true) (h2 : isMap l n.toNat seed = false) : chkE l n seed = 117 := by simp [chkE, h, h2]
theorem chkE_ok {l : List UInt8} {n : Int} {seed : Nat} (h : sizeB n = true) (h2 : isMap l n.toNat seed = true) : chkE l n seed = 0 := by simp [chkE, h, h2]
theorem sizeB_nat {n : Int} (h : sizeB n = true) : ∃ m : Nat, n = (m : Int) ∧ m ≤ 2016 := by
  have h2 : 0 ≤ n ∧ n ≤ 2016 := by simpa [sizeB] using h
  exact ⟨n.toNat, by omega, by omega⟩
theorem Sealed_256 (l : List UInt8) (hl : l.length = 256) (q : Bool) (seed : Nat) (hq : sealB l seed = q) (B : Nat) (A : Option Addr) (c : Nat) (w : World) (hs : seed < 4294967296) (hc : 256 ≤ c) (hA : Sl w B A (l.map u8v)) (hT : Tab w) :
    Calls Tryz.prog 88 #[.slice A 256 c, .int .u32 seed] w fun e w' => e = .returned (.bool q) ∧ ∃ n, w' = w.drewN n := by
  have h := Sealed_any l B A c seed w hs (by omega) (by omega) hA hT
  rw [hl, hq] at h
  exact h
def Drew (w w' : World) : Prop := ∃ n, w' = w.drewN n
theorem Drew.refl (w : World) : Drew w w := ⟨0, rfl⟩
theorem Drew.at_ (w : World) (n : Nat) : Drew w (w.drewN n) := ⟨n, rfl⟩
set_option maxHeartbeats 400000 in
set_option maxRecDepth 100000 in
theorem Check_no (len : Nat) (A : Option Addr) (c : Nat) (n : Int) (seed : Nat) (w : World) (h : sizeB n = false) :
    Calls Tryz.prog 39 #[.slice A len c, .int .i64 n, .int .u32 seed] w fun e w' => e = .returned (.int .i64 22) ∧ Drew w w' := by
  have H := Lib.hid (sizeMayBe_any n w)
  rw [h] at H
  clear h
  go_enter Tryz.func39, Tryz.ntmps39
  go_wp2_with (go_at_call 87; refine H.out.mono ?_; rintro e w' ⟨rfl, rfl⟩)
  go_ret
  exact ⟨rfl, Drew.refl _⟩
set_option maxHeartbeats 400000 in
set_option maxRecDepth 100000 in
theorem Check_len (len : Nat) (A : Option Addr) (c : Nat) (n : Int) (seed : Nat) (w : World) (h : sizeB n = true) (hl : len ≠ 256) :
    Calls Tryz.prog 39 #[.slice A len c, .int .i64 n, .int .u32 seed] w fun e w' => e = .returned (.int .i64 117) ∧ Drew w w' := by
  have H := Lib.hid (sizeMayBe_any n w)
  rw [h] at H
  have d1 : ((len : Int) == 256) = false := by rw [beq_eq_false_iff_ne]; omega
  have d2 : ((len : Int) != 256) = true := by rw [bne, d1]; rfl
  clear h hl
  go_enter Tryz.func39, Tryz.ntmps39
  go_wp2_with (go_at_call 87; refine H.out.mono ?_; rintro e w' ⟨rfl, rfl⟩)
  go_ret
  exact ⟨rfl, Drew.refl _⟩
set_option maxHeartbeats 400000 in
set_option maxRecDepth 100000 in
theorem Check_seal (l : List UInt8) (hl : l.length = 256) (B : Nat) (A : Option Addr) (c n seed : Nat) (w : World) (hn : n ≤ 2016) (hs : seed < 4294967296) (hc : 256 ≤ c) (hq : sealB l seed = false) (hA : Sl w B A (l.map u8v)) (hT : Tab w) :
    Calls Tryz.prog 39 #[.slice A 256 c, .int .i64 n, .int .u32 seed] w fun e w' => e = .returned (.int .i64 117) ∧ Drew w w' := by
  have H := Lib.hid (sizeMayBe_any (n : Int) w)
  rw [show sizeB (n : Int) = true by simp [sizeB]; omega] at H
  have HS := Lib.hid (Sealed_256 l hl false seed hq B A c w hs hc hA hT)
  clear hl hq hA hT
  go_enter Tryz.func39, Tryz.ntmps39
  go_wp2_with (first
    | (go_at_call 87; refine H.out.mono ?_; rintro e w' ⟨rfl, rfl⟩)
    | (go_at_call 88; refine HS.out.mono ?_; rintro e w' ⟨rfl, m, rfl⟩))
  go_ret
  exact ⟨rfl, Drew.at_ _ _⟩
set_option maxHeartbeats 400000 in
set_option maxRecDepth 100000 in
theorem Check_bits (l : List UInt8) (hl : l.length = 256) (B : Nat) (A : Option Addr) (c n seed : Nat) (w : World) (hn : n ≤ 2016) (hs : seed < 4294967296) (hc : 256 ≤ c) (hq : sealB l seed = true) (hA : Sl w B A (l.map u8v)) (hT : Tab w) (q : Bool) (r : Int) (hr : r = if q = true then 0 else 117) (hb : allB l n (2016 - n) true = q) :
    Calls Tryz.prog 39 #[.slice A 256 c, .int .i64 n, .int .u32 seed] w fun e w' => e = .returned (.int .i64 r) ∧ Drew w w' := by
  have H := Lib.hid (sizeMayBe_any (n : Int) w)
  rw [show sizeB (n : Int) = true by simp [sizeB]; omega] at H
  have HS := Lib.hid (Sealed_256 l hl true seed hq B A c w hs hc hA hT)
  have hsub : (2016 : Int) - (n : Int) = ((2016 - n : Nat) : Int) := by omega
  have HA := Lib.hid (fun W (h : Sl W B A (l.map u8v)) => allAre_any l 256 hl B A c n (2016 - n) (n : Int) ((2016 - n : Nat) : Int) rfl rfl true W (by omega) (by omega) h)
  rw [hb] at HA
  have HA0 := Lib.hid hA
  clear hl hq hA hT hb
  cases q
  all_goals
    subst hr
    go_enter Tryz.func39, Tryz.ntmps39
    go_wp2_with (first
      | (go_at_call 87; refine H.out.mono ?_; rintro e w' ⟨rfl, rfl⟩)
      | (go_at_call 88; refine HS.out.mono ?_; rintro e w' ⟨rfl, m, rfl⟩)
      | (go_at_call 89; refine (HA.out _ (HA0.out.drewN _)).mono ?_; rintro e w' ⟨rfl, rfl⟩))
    go_ret
    exact ⟨rfl, Drew.at_ _ _⟩
theorem Check_any (l : List UInt8) (len : Nat) (hlen : l.length = len) (B : Nat) (A : Option Addr) (c : Nat) (n : Int) (seed : Nat) (w : World) (hs : seed < 4294967296) (hc : len ≤ c) (hA : Sl w B A (l.map u8v)) (hT : Tab w) :
    Calls Tryz.prog 39 #[.slice A len c, .int .i64 n, .int .u32 seed] w fun e w' => e = .returned (.int .i64 (chkE l n seed)) ∧ Drew w w' := by
  subst hlen
  cases h : sizeB n with
  | false => rw [chkE_no h]; exact Check_no _ A c n seed w h
  | true =>
    obtain ⟨m, rfl, hm⟩ := sizeB_nat h
    by_cases hl : l.length = 256
    · rw [hl]
      cases hq : sealB l seed with
      | false =>
        rw [chkE_not h (by simp [isMap, hq])]
        exact Check_seal l hl B A c m seed w hm hs (by omega) hq hA hT
      | true =>
        refine Check_bits l hl B A c m seed w hm hs (by omega) hq hA hT (allB l m (2016 - m) true) _ ?_ rfl
        simp [chkE, h, isMap, hl, hq]
    · rw [chkE_not h (by simp [isMap, hl])]
      exact Check_len _ A c (m : Int) seed w h hl
def tstB (l : List UInt8) (i : Int) : Bool := if placeB i = true then !fr l i.toNat else false
def tstE (i : Int) : Int := if placeB i = true then 0 else 22
set_option maxHeartbeats 400000 in
set_option maxRecDepth 100000 in
theorem Test_any (l : List UInt8) (len : Nat) (hlen : l.length = len) (B : Nat) (A : Option Addr) (c : Nat) (i : Int) (w : World) (hl : len ≤ 140737488355328) (hA : Sl w B A (l.map u8v)) :
    Calls Tryz.prog 111 #[.slice A len c, .int .i64 i] w fun e w' => e = .returned (.tuple #[.bool (tstB l i), .int .i64 (tstE i)]) ∧ w = w' := by
  have H := Lib.hid (isPlace_any i w)
  cases h : placeB i with
  | false =>
    rw [h] at H
    have e1 : tstB l i = false := by simp [tstB, h]
    have e2 : tstE i = 22 := by simp [tstE, h]
    rw [e1, e2]
    clear e1 e2 h hA
    go_enter Tryz.func111, Tryz.ntmps111
    go_wp2_with (go_at_call 103; refine H.out.mono ?_; rintro e w' ⟨rfl, rfl⟩)
    go_ret2
    exact ⟨rfl, rfl⟩
  | true =>
    rw [h] at H
    have hp : 0 ≤ i ∧ i < 2016 := by simpa [placeB] using h
    obtain ⟨m, rfl⟩ := Int.eq_ofNat_of_zero_le hp.1
    have e1 : tstB l (m : Int) = !fr l m := by simp [tstB, h]
    have e2 : tstE (m : Int) = 0 := by simp [tstE, h]
    rw [e1, e2]
    clear e1 e2 h
    have hm : m < 2016 := by omega
    obtain ⟨q, hq⟩ : ∃ q, fr l m = q := ⟨_, rfl⟩
    have HS := Lib.hid (isSet_at l len hlen B A c m _ rfl q hq w hm hl hA)
    rw [hq]
    clear hq hA hlen
    go_enter Tryz.func111, Tryz.ntmps111
    go_wp2_with (first
      | (go_at_call 103; refine H.out.mono ?_; rintro e w' ⟨rfl, rfl⟩)
      | (go_at_call 90; refine HS.out.mono ?_; rintro e w' ⟨rfl, rfl⟩))
    go_ret2
    exact ⟨rfl, rfl⟩
end Go.Proofs.YtgkindoidmglnaaGreatDoor.TFace
/- Bits that are turned or laid, in plain mathematics: two blocks whose bits are the same are the same once they are sealed. -/
namespace Go.Proofs.YtgkindoidmglnaaGreatDoor.TSame
open WPlain WAny TPlain TBits TTurn

theorem flipB_bit (x : UInt8) (s t : Nat) (hs : s < 8) : (flipB x s).toNat.testBit t = (x.toNat.testBit t != decide (s = t)) := by
  have hx := byte_lt x
  have h2 : 2 ^ s < 256 := Nat.lt_of_le_of_lt (Nat.pow_le_pow_right (by decide) (show s ≤ 7 by omega)) (by decide)
  have h4 : x.toNat ^^^ 2 ^ s < 256 := Nat.xor_lt_two_pow (n := 8) hx h2
  have e : (flipB x s).toNat = x.toNat ^^^ 2 ^ s := by
    unfold flipB
    simp only [UInt8.toNat_ofNat']
    exact Nat.mod_eq_of_lt h4
  rw [e, Nat.testBit_xor, Nat.testBit_two_pow]
theorem fr_get {l : List UInt8} (hl : l.length = 256) {i : Nat} (hi : i < 2016) : fr l i = !((l.getD (i / 8) 0).toNat.testBit (i % 8)) := by
  have h : i / 8 < l.length := by omega
  simp [fr, hi, h]
theorem fr_flip {l : List UInt8} (hl : l.length = 256) {i j : Nat} (hi : i < 2016) (_hj : j < 2016) : fr (flip l j) i = (fr l i != decide (i = j)) := by
  rw [fr_get (by rw [flip_len]; exact hl) hi, fr_get hl hi]
  unfold TTurn.flip
  by_cases h : j / 8 = i / 8
  · have e : (l.set (j / 8) (flipB (l.getD (j / 8) 0) (j % 8))).getD (i / 8) 0 = flipB (l.getD (i / 8) 0) (j % 8) := by
      rw [← h, List.getD_eq_getElem?_getD, List.getElem?_set_self (by omega)]
      rfl
    rw [e, flipB_bit _ _ _ (by omega)]
    have : decide (j % 8 = i % 8) = decide (i = j) := by rw [Bool.eq_iff_iff]; simp only [decide_eq_true_eq]; omega
    rw [this]
    cases (l.getD (i / 8) 0).toNat.testBit (i % 8) <;> cases decide (i = j) <;> rfl
  · have e : (l.set (j / 8) (flipB (l.getD (j / 8) 0) (j % 8))).getD (i / 8) 0 = l.getD (i / 8) 0 := by
      rw [List.getD_eq_getElem?_getD, List.getElem?_set_ne h, ← List.getD_eq_getElem?_getD]
    rw [e]
    have : decide (i = j) = false := by simp; intro h2; exact h (by rw [h2])
    rw [this]
    simp
theorem fr_flips {l : List UInt8} (hl : l.length = 256) {i a : Nat} (hi : i < 2016) : ∀ n, a + n ≤ 2016 → fr (flips l a n) i = (fr l i != decide (a ≤ i ∧ i < a + n))
  | 0, _ => by
    have : decide (a ≤ i ∧ i < a + 0) = false := by simp
    rw [this]
    simp [flips]
  | n + 1, h => by
    have ih := fr_flips hl hi n (a := a) (by omega)
    simp only [flips]
    rw [fr_flip (by rw [flips_len]; exact hl) hi (by omega), ih]
    by_cases h1 : a ≤ i ∧ i < a + n
    · have e1 : decide (a ≤ i ∧ i < a + n) = true := by simp; omega
      have e2 : decide (i = a + n) = false := by simp; omega
      have e3 : decide (a ≤ i ∧ i < a + (n + 1)) = true := by simp; omega
      rw [e1, e2, e3]; simp
    · have e1 : decide (a ≤ i ∧ i < a + n) = false := by simp; omega
      by_cases h2 : i = a + n
      · have e2 : decide (i = a + n) = true := by simpa using h2
        have e3 : decide (a ≤ i ∧ i < a + (n + 1)) = true := by simp; omega
        rw [e1, e2, e3]; simp
      · have e2 : decide (i = a + n) = false := by simpa using h2
        have e3 : decide (a ≤ i ∧ i < a + (n + 1)) = false := by simp; omega
        rw [e1, e2, e3]; simp

/-! Bits that are laid one by one. -/
def setB (x : UInt8) (s : Nat) : UInt8 := UInt8.ofNat (x.toNat ||| 2 ^ s)
def lay1 (l : List UInt8) (i : Nat) : List UInt8 := l.set (i / 8) (setB (l.getD (i / 8) 0) (i % 8))
/-- a block in which the first n bits are set as P says -/
def lay (P : Nat → Bool) : Nat → List UInt8
  | 0 => List.replicate 256 0
  | n + 1 => if P n = true then lay1 (lay P n) n else lay P n
theorem lay1_len (l : List UInt8) (i : Nat) : (lay1 l i).length = l.length := by simp [lay1]
theorem lay_len (P : Nat → Bool) (n : Nat) : (lay P n).length = 256 := by
  induction n with
  | zero => exact List.length_replicate ..
  | succ n ih =>
    simp only [lay]
    split
    · rw [lay1_len, ih]
    · exact ih
theorem setB_bit (x : UInt8) (s t : Nat) (hs : s < 8) : (setB x s).toNat.testBit t = (x.toNat.testBit t || decide (s = t)) := by
  have hx := byte_lt x
  have h2 : 2 ^ s < 256 := Nat.lt_of_le_of_lt (Nat.pow_le_pow_right (by decide) (show s ≤ 7 by omega)) (by decide)
  have h4 : x.toNat ||| 2 ^ s < 256 := Nat.or_lt_two_pow (n := 8) hx h2
  have e : (setB x s).toNat = x.toNat ||| 2 ^ s := by
    unfold setB
    simp only [UInt8.toNat_ofNat']
    exact Nat.mod_eq_of_lt h4
  rw [e, Nat.testBit_or, Nat.testBit_two_pow]
theorem fr_lay1 {l : List UInt8} (hl : l.length = 256) {i j : Nat} (hi : i < 2016) (_hj : j < 2016) : fr (lay1 l j) i = (fr l i && !decide (i = j)) := by
  rw [fr_get (by rw [lay1_len]; exact hl) hi, fr_get hl hi]
  unfold lay1
  by_cases h : j / 8 = i / 8
  · have e : (l.set (j / 8) (setB (l.getD (j / 8) 0) (j % 8))).getD (i / 8) 0 = setB (l.getD (i / 8) 0) (j % 8) := by
      rw [← h, List.getD_eq_getElem?_getD, List.getElem?_set_self (by omega)]
      rfl
    rw [e, setB_bit _ _ _ (by omega)]
    have : decide (j % 8 = i % 8) = decide (i = j) := by rw [Bool.eq_iff_iff]; simp only [decide_eq_true_eq]; omega
    rw [this]
    cases (l.getD (i / 8) 0).toNat.testBit (i % 8) <;> cases decide (i = j) <;> rfl
  · have e : (l.set (j / 8) (setB (l.getD (j / 8) 0) (j % 8))).getD (i / 8) 0 = l.getD (i / 8) 0 := by
      rw [List.getD_eq_getElem?_getD, List.getElem?_set_ne h, ← List.getD_eq_getElem?_getD]
    rw [e]
    have : decide (i = j) = false := by simp; intro h2; exact h (by rw [h2])
    rw [this]
    simp
theorem fr_blank {i : Nat} (hi : i < 2016) : fr (List.replicate 256 0) i = true := by
  rw [fr_get (List.length_replicate ..) hi, List.getD_eq_getElem?_getD, List.getElem?_replicate]
  rw [if_pos (by omega)]
  simp
theorem fr_lay (P : Nat → Bool) {i : Nat} (hi : i < 2016) : ∀ n, n ≤ 2016 → fr (lay P n) i = !(decide (i < n) && P i)
  | 0, _ => by rw [lay, fr_blank hi]; simp
  | n + 1, h => by
    have ih := fr_lay P hi n (by omega)
    simp only [lay]
    by_cases hn : i = n
    · subst hn
      have e1 : decide (i < i) = false := by simp
      have e2 : decide (i < i + 1) = true := by simp
      rw [e1] at ih
      rw [e2]
      cases hp : P i with
      | true =>
        rw [if_pos rfl, fr_lay1 (lay_len _ _) hi (by omega), ih]
        simp
      | false =>
        rw [if_neg (by simp), ih]
        simp
    · have e1 : decide (i < n + 1) = decide (i < n) := by rw [Bool.eq_iff_iff]; simp only [decide_eq_true_eq]; omega
      rw [e1, ← ih]
      split
      · rw [fr_lay1 (lay_len _ _) hi (by omega)]
        have : decide (i = n) = false := by simpa using hn
        rw [this]; simp
      · rfl
/-- the same bits: the same bytes, but for the seal's -/
theorem take_same {l r : List UInt8} (hl : l.length = 256) (hr : r.length = 256) (h : ∀ i, i < 2016 → fr l i = fr r i) : l.take 252 = r.take 252 := by
  apply List.ext_getElem?
  intro j
  by_cases hj : j < 252
  · rw [List.getElem?_take_of_lt hj, List.getElem?_take_of_lt hj, List.getElem?_eq_getElem (by omega), List.getElem?_eq_getElem (by omega)]
    congr 1
    apply UInt8.toNat_inj.1
    apply Nat.eq_of_testBit_eq
    intro s
    by_cases hs : s < 8
    · have := h (8 * j + s) (by omega)
      rw [fr_get hl (by omega), fr_get hr (by omega), show (8 * j + s) / 8 = j by omega, show (8 * j + s) % 8 = s by omega] at this
      simp only [List.getD_eq_getElem?_getD, List.getElem?_eq_getElem (show j < l.length by omega), List.getElem?_eq_getElem (show j < r.length by omega), Option.getD_some] at this
      exact Bool.not_inj this
    · have big : ∀ x : UInt8, x.toNat.testBit s = false := fun x => Nat.testBit_lt_two_pow (Nat.lt_of_lt_of_le (byte_lt x) (by
        have := Nat.pow_le_pow_right (show 0 < 2 by decide) (show 8 ≤ s by omega)
        exact this))
      rw [big, big]
  · rw [List.getElem?_eq_none (by simp; omega), List.getElem?_eq_none (by simp; omega)]
theorem sealL_256 {l : List UInt8} (hl : l.length = 256) (seed : Nat) : sealL l seed = l.take 252 ++ dig 4 (crc seed (l.take 252)) := by
  unfold sealL
  rw [if_pos (by omega), hl]
  unfold patch
  rw [dig_length]
  rw [List.drop_eq_nil_of_le (by omega), List.append_nil]
theorem seal_same {l r : List UInt8} (hl : l.length = 256) (hr : r.length = 256) (h : ∀ i, i < 2016 → fr l i = fr r i) (seed : Nat) : sealL l seed = sealL r seed := by
  rw [sealL_256 hl, sealL_256 hr, take_same hl hr h]
/-- the seal turns no bit -/
theorem fr_seal {l : List UInt8} (hl : l.length = 256) (seed : Nat) {i : Nat} : fr (sealL l seed) i = fr l i := by
  by_cases hi : i < 2016
  · rw [fr_get (by rw [sealL_len]; exact hl) hi, fr_get hl hi, sealL_256 hl, List.getD_eq_getElem?_getD, List.getElem?_append_left (by simp; omega), List.getElem?_take_of_lt (by omega), ← List.getD_eq_getElem?_getD]
  · rw [fr_big (by omega), fr_big (by omega)]
/-- a block that is sealed is what its bits say -/
theorem sealed_is {l : List UInt8} (hl : l.length = 256) {seed : Nat} (h : WSeal.sealB l seed = true) : sealL l seed = l := by
  unfold WSeal.sealB at h
  simp only [Bool.and_eq_true, decide_eq_true_eq, beq_iff_eq] at h
  have h2 := h.2
  rw [hl] at h2
  rw [sealL_256 hl, ← h2, show dig 4 (num (l.drop (256 - 4))) = l.drop 252 by
    have := dig_num (l.drop 252)
    rw [List.length_drop, hl] at this
    exact this]
  exact List.take_append_drop 252 l
/-- bits that are turned are so many free ones less -/
theorem zer_turn {F G : Nat → Bool} {a k : Nat} (h1 : ∀ i, a ≤ i → i < a + k → F i = true ∧ G i = false) (h2 : ∀ i, ¬ (a ≤ i ∧ i < a + k) → G i = F i) : ∀ p, zer G p + (min p (a + k) - min p a) = zer F p
  | 0 => by simp [zer]
  | p + 1 => by
    have ih := zer_turn h1 h2 p
    simp only [zer]
    by_cases hp : a ≤ p ∧ p < a + k
    · obtain ⟨e1, e2⟩ := h1 p hp.1 hp.2
      rw [e1, e2]
      simp
      omega
    · rw [h2 p hp]
      split <;> omega
end Go.Proofs.YtgkindoidmglnaaGreatDoor.TSame
/- The face Turn. -/
namespace Go.Proofs.YtgkindoidmglnaaGreatDoor.TTurnF
open Go.RowKit WMem WPlain WAppend WCrc WSeal WAny TPlain TBits TSet TWalk TOrd TCut TTurn TFace

def rangeB (n a k : Int) : Bool := decide (1 ≤ k ∧ 0 ≤ a ∧ a + k ≤ n)
/-- Turn's error -/
def turnE (l : List UInt8) (n a k : Int) (on : Bool) (seed : Nat) : Int :=
  if chkE l n seed = 0 then (if rangeB n a k = true then (if allB l a.toNat k.toNat (!on) = true then 0 else 117) else 22) else chkE l n seed
/-- the bitmap that it answers -/
def turnL (l : List UInt8) (a k : Int) (seed : Nat) : List UInt8 := sealL (flips l a.toNat k.toNat) seed
theorem chkE_zero {l : List UInt8} {n : Int} {seed : Nat} (h : chkE l n seed = 0) : ∃ m : Nat, n = (m : Int) ∧ m ≤ 2016 ∧ l.length = 256 ∧ sealB l seed = true ∧ allB l m (2016 - m) true = true := by
  unfold chkE at h
  split at h
  · rename_i h1
    obtain ⟨m, rfl, hm⟩ := sizeB_nat h1
    split at h
    · rename_i h2
      rw [Int.toNat_natCast] at h2
      simp only [isMap, Bool.and_eq_true, decide_eq_true_eq] at h2
      exact ⟨m, rfl, hm, h2.1, h2.2.1, h2.2.2⟩
    · omega
  · omega
theorem drew_below {w w' : World} (h : Drew w w') : Below w.heap.size w w' := by
  obtain ⟨n, rfl⟩ := h
  exact below_drewN (Below.refl _ _) n
set_option maxHeartbeats 400000 in
set_option maxRecDepth 100000 in
theorem Turn_chk (len : Nat) (A : Option Addr) (c : Nat) (n a k e0 : Int) (on : Bool) (seed : Nat) (w : World) (h0 : e0 ≠ 0)
    (H : Calls Tryz.prog 39 #[.slice A len c, .int .i64 n, .int .u32 seed] w fun e w' => e = .returned (.int .i64 e0) ∧ Drew w w') :
    Calls Tryz.prog 108 #[.slice A len c, .int .i64 n, .int .i64 a, .int .i64 k, .bool on, .int .u32 seed] w fun e w' => e = .returned (.tuple #[.slice none 0 0, .int .i64 e0]) ∧ Below w.heap.size w w' := by
  have HC := Lib.hid H
  have d1 : (e0 == 0) = false := by rw [beq_eq_false_iff_ne]; exact h0
  have d2 : (e0 != 0) = true := by rw [bne, d1]; rfl
  clear H h0
  go_enter Tryz.func108, Tryz.ntmps108
  go_wp2_with (go_at_call 39; refine HC.out.mono ?_; rintro e w1 ⟨rfl, hd⟩)
  go_ret2
  exact ⟨rfl, (drew_below hd)⟩
set_option maxHeartbeats 400000 in
set_option maxRecDepth 100000 in
theorem Turn_range (len : Nat) (A : Option Addr) (c n : Nat) (a k : Int) (on : Bool) (seed : Nat) (w : World) (hn : n ≤ 2016) (ha : a ≤ 9223372036854775807) (hr : rangeB n a k = false)
    (H : Calls Tryz.prog 39 #[.slice A len c, .int .i64 n, .int .u32 seed] w fun e w' => e = .returned (.int .i64 0) ∧ Drew w w') :
    Calls Tryz.prog 108 #[.slice A len c, .int .i64 n, .int .i64 a, .int .i64 k, .bool on, .int .u32 seed] w fun e w' => e = .returned (.tuple #[.slice none 0 0, .int .i64 22]) ∧ Below w.heap.size w w' := by
  have HC := Lib.hid H
  have hr2 : ¬ (1 ≤ k ∧ 0 ≤ a ∧ a + k ≤ n) := by simpa [rangeB] using hr
  clear H hr
  by_cases h1 : k < 1
  · have d1 : decide (k < 1) = true := by simpa using h1
    clear hr2 h1
    go_enter Tryz.func108, Tryz.ntmps108
    go_wp2_with (go_at_call 39; refine HC.out.mono ?_; rintro e w1 ⟨rfl, hd⟩)
    go_ret2
    exact ⟨rfl, (drew_below hd)⟩
  · have d1 : decide (k < 1) = false := by simp; omega
    by_cases h2 : a < 0
    · have d2 : decide (a < 0) = true := by simpa using h2
      clear hr2 h1 h2
      go_enter Tryz.func108, Tryz.ntmps108
      go_wp2_with (go_at_call 39; refine HC.out.mono ?_; rintro e w1 ⟨rfl, hd⟩)
      go_ret2
      exact ⟨rfl, (drew_below hd)⟩
    · have d2 : decide (a < 0) = false := by simp; omega
      obtain ⟨y, hy⟩ : ∃ y : Int, (n : Int) - a = y := ⟨_, rfl⟩
      have hw : wrap64 y = y := IntWalk.wrap64_in _ ⟨by omega, by omega⟩
      have d3 : decide (y < k) = true := by simp; omega
      clear hr2 h1 h2
      go_enter Tryz.func108, Tryz.ntmps108
      go_wp2_with (go_at_call 39; refine HC.out.mono ?_; rintro e w1 ⟨rfl, hd⟩)
      go_ret2
      exact ⟨rfl, (drew_below hd)⟩
theorem tab_drew {w w' : World} (h : Tab w) (hd : Drew w w') : Tab w' := by
  obtain ⟨n, rfl⟩ := hd
  exact Tab.drewN h n
set_option maxHeartbeats 1000000 in
set_option maxRecDepth 100000 in
theorem Turn_bits (l : List UInt8) (hl : l.length = 256) (B : Nat) (A : Option Addr) (c n a k : Nat) (on : Bool) (seed : Nat) (w : World) (hB : B ≤ w.heap.size) (hn : n ≤ 2016) (hk : 1 ≤ k) (hak : a + k ≤ n) (hb : allB l a k (!on) = false) (hA : Sl w B A (l.map u8v))
    (H : Calls Tryz.prog 39 #[.slice A 256 c, .int .i64 n, .int .u32 seed] w fun e w' => e = .returned (.int .i64 0) ∧ Drew w w') :
    Calls Tryz.prog 108 #[.slice A 256 c, .int .i64 n, .int .i64 a, .int .i64 k, .bool on, .int .u32 seed] w fun e w' => e = .returned (.tuple #[.slice none 0 0, .int .i64 117]) ∧ Below w.heap.size w w' := by
  have HC := Lib.hid H
  have HA := Lib.hid (fun W (h : Sl W B A (l.map u8v)) => allAre_any l 256 hl B A c a k (a : Int) (k : Int) rfl rfl (!on) W (by omega) (by omega) h)
  rw [hb] at HA
  have HS := Lib.hid hA
  have HB := Lib.hid hB
  have hw : wrap64 ((n : Int) - (a : Int)) = ((n - a : Nat) : Int) := by rw [IntWalk.wrap64_in _ ⟨by omega, by omega⟩]; omega
  have hw2 : (n : Int) - (a : Int) = ((n - a : Nat) : Int) := by omega
  have d1 : decide ((k : Int) < 1) = false := by simp; omega
  have d2 : decide ((a : Int) < 0) = false := by simp
  have d3 : decide (((n - a : Nat) : Int) < (k : Int)) = false := by simp; omega
  have d4 : decide (n - a < k) = false := by simp; omega
  clear H hb hA hB hl
  go_enter Tryz.func108, Tryz.ntmps108
  go_wp2_with (first
    | (go_at_call 39; refine HC.out.mono ?_; rintro e w1 ⟨rfl, hd⟩
       have HS1 : Hid (Sl w1 B A (l.map u8v)) := Lib.hid (HS.out.below_le (drew_below hd) HB.out)
       have HD := Lib.hid hd
       clear hd)
    | (go_at_call 89; refine (HA.out _ HS1.out).mono ?_; rintro e w' ⟨rfl, rfl⟩))
  go_ret2
  exact ⟨rfl, (drew_below HD.out)⟩
set_option maxHeartbeats 1000000 in
set_option maxRecDepth 100000 in
theorem Turn_yes (l : List UInt8) (hl : l.length = 256) (B : Nat) (A : Option Addr) (c n a k : Nat) (on : Bool) (seed : Nat) (w : World) (hs : seed < 4294967296) (hB : B ≤ w.heap.size) (hn : n ≤ 2016) (hk : 1 ≤ k) (hak : a + k ≤ n) (hb : allB l a k (!on) = true) (hA : Sl w B A (l.map u8v)) (hT : Tab w)
    (H : Calls Tryz.prog 39 #[.slice A 256 c, .int .i64 n, .int .u32 seed] w fun e w' => e = .returned (.int .i64 0) ∧ Drew w w') :
    Calls Tryz.prog 108 #[.slice A 256 c, .int .i64 n, .int .i64 a, .int .i64 k, .bool on, .int .u32 seed] w fun e w' => ∃ g cap rest, e = .returned (.tuple #[.slice (some ⟨g, 0, none⟩) 256 cap, .int .i64 0]) ∧ w.heap.size ≤ g ∧ 256 ≤ cap ∧ Row w' g (sealL (flips l a k) seed) rest ∧ Below w.heap.size w w' := by
  have HC := Lib.hid H
  have HA := Lib.hid (fun W (h : Sl W B A (l.map u8v)) => allAre_any l 256 hl B A c a k (a : Int) (k : Int) rfl rfl (!on) W (by omega) (by omega) h)
  rw [hb] at HA
  have HS := Lib.hid hA
  have HB := Lib.hid hB
  have HL := Lib.hid hl
  have HT := Lib.hid hT
  have hlt := Tab.lt hT
  have HK : Hid (a + k ≤ 2016) := Lib.hid (by omega)
  have hw : wrap64 ((n : Int) - (a : Int)) = ((n - a : Nat) : Int) := by rw [IntWalk.wrap64_in _ ⟨by omega, by omega⟩]; omega
  have hw2 : (n : Int) - (a : Int) = ((n - a : Nat) : Int) := by omega
  have d1 : decide ((k : Int) < 1) = false := by simp; omega
  have d2 : decide ((a : Int) < 0) = false := by simp
  have d3 : decide (((n - a : Nat) : Int) < (k : Int)) = false := by simp; omega
  have d4 : decide (n - a < k) = false := by simp; omega
  clear H hb hA hB hl hT
  go_enter Tryz.func108, Tryz.ntmps108
  go_wp2_with (first
    | (go_at_call 39; refine HC.out.mono ?_; rintro e w1 ⟨rfl, hd⟩
       have HS1 : Hid (Sl w1 B A (l.map u8v)) := Lib.hid (HS.out.below_le (drew_below hd) HB.out)
       have HT1 := Lib.hid (tab_drew HT.out hd)
       have HD := Lib.hid (drew_below hd)
       have hsz1 := (drew_below hd).size
       clear hd)
    | (go_at_call 89; refine (HA.out _ HS1.out).mono ?_; rintro e w' ⟨rfl, rfl⟩)
    | (go_at_call 77; refine (Clone_256 l HL.out B A c _ (by have := HB.out; omega) HS1.out).mono ?_; rintro e w2 ⟨g, cap, rest, rfl, hg, hcap, hR2, hb2⟩
       have HR2 := Lib.hid hR2
       have HB2 := Lib.hid (HD.out.trans (hb2.mono hsz1))
       have HT2 := Lib.hid (Tab.below HT1.out hb2 (by omega))
       clear hR2 hb2)
    | (go_at_call 128; refine (turn_any l rest g cap a k _ HL.out HK.out HR2.out).mono ?_; rintro e w3 ⟨rfl, hR3, hG3⟩
       have HR3 := Lib.hid hR3
       have HT3 := Lib.hid (Tab.grown HT2.out hG3 (by intro e; injection e with e; omega))
       have HG3 := Lib.hid hG3
       clear hR3 hG3)
    | (go_at_call 129; refine (sealed_any (flips l a k) rest g cap seed _ hs (by rw [flips_len]; exact HL.out) hcap HR3.out HT3.out).mono ?_; rintro e w4 ⟨rfl, hR4, hG4⟩
       have HR4 := Lib.hid hR4
       have HG4 := Lib.hid hG4
       clear hR4 hG4))
  go_ret2
  exact ⟨g, cap, rest, rfl, by omega, hcap, HR4.out, HB2.out.grown (grown_trans HG3.out HG4.out) HB2.out.size (by intro i hi; injection hi with hi; omega)⟩
end Go.Proofs.YtgkindoidmglnaaGreatDoor.TTurnF
