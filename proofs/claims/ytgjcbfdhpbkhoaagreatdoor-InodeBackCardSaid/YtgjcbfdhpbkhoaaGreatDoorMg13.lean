/- The faces New, Check, Test, Turn; bytes.Clone. -/
import Derived.Test.YtgjcbfdhpbkhoaaGreatDoorMg4
import Derived.Test.YtgjcbfdhpbkhoaaGreatDoorMg10
import Derived.Test.YtgjcbfdhpbkhoaaGreatDoorMg12
import Derived.Deep.QuietTactic
import Derived.BigQuiet
import Derived.Test.YtgjcbfdhpbkhoaaGreatDoorMg9
import Derived.StillTailTactics
namespace Go.Proofs.YtgjcbfdhpbkhoaaGreatDoor.TFace
open Go.RowKit WMem WPlain WAppend WCrc WSeal WAny TPlain TBits TSet TWalk TOrd TCut TTurn
set_option maxHeartbeats 400000 in
theorem Clone_256 (l : List UInt8) (hl : l.length = 256) (B : Nat) (A : Option Addr) (c : Nat) (w : World) (hB : B ≤ w.heap.size) (hA : Sl w B A (l.map u8v)) :
    Calls Tryz.prog 51 #[.slice A 256 c] w fun e w' => ∃ g cap rest, e = .returned (.slice (some ⟨g, 0, none⟩) 256 cap) ∧ w.heap.size ≤ g ∧ 256 ≤ cap ∧ Row w' g l rest ∧ Below w.heap.size w w' := by
  obtain ⟨a, rfl, hab, hcc⟩ := hA.u8 (k := 0) (by omega)
  clear hcc
  have HS : Hid (Sl (w.alloc (.cells #[] 5)) B (some a) (l.map u8v)) := Lib.hid (hA.keep fun q hq => World.cell?_alloc_lt w _ q (by omega))
  have HO : Hid ((w.alloc (.cells #[] 5)).ownsRow w.heap.size 5 1 (.slice (some ⟨w.heap.size, 0, none⟩) 0 0) 0 []) := Lib.hid (World.ownsRow_made w #[] 0 (Nat.le_refl _) (by decide) rfl)
  have HL := Lib.hid hl
  clear hA hl
  have hnil : ∀ w : World, (binOp .eql 22 (.slice (some a) 256 c) (.slice none 0 0)).run Tryz.prog w = .ok (.bool false) w := fun w => Lib.run_eql_slice_nil (P := Tryz.prog) w 22 5 (some a) 256 c 0 0 (by kernel_rfl)
  go_enter Tryz.func51, Tryz.ntmps51
  go_wp2_with (at_builtin; refine wl_append rfl (.tmp 5) (.tmp 6) 22 rfl w.heap.size 5 1 Mk.elem8 (.slice (some ⟨w.heap.size, 0, none⟩) 0 0) 0 [] rfl HO.out B (some a) 256 c (l.map u8v) rfl (by simp [HL.out]) HS.out (Mk.one_u8 l) (by omega) (by unfold maxLen; omega) (by simp) ?_; intro v1 w1 h1 h2 h3)
  rw [List.nil_append] at h1
  obtain ⟨g, cap, rest, hv, hg, hcap, hrow, hlen, hmax⟩ := WHelp.row_of_own h1 (by omega)
  subst hv
  go_ret
  refine ⟨g, cap, rest, rfl, hg, by omega, by simpa [Row] using hrow, ?_⟩
  refine ((Below.refl _ _).alloc (Nat.le_refl _) _).grown h2 (by simp) ?_
  intro k hk
  simp [Value.ownBlock] at hk
  omega
theorem sealE_256 {l : List UInt8} (hl : l.length = 256) : sealE l = 0 := by unfold sealE; rw [if_pos (by omega)]
set_option maxHeartbeats 400000 in
theorem sealed_any (l : List UInt8) (rest : List Value) (g c seed : Nat) (w : World) (hs : seed < 4294967296) (hl : l.length = 256) (hc : 256 ≤ c) (hR : Row w g l rest) (hT : Tab w) :
    Calls Tryz.prog 140 #[.slice (some ⟨g, 0, none⟩) 256 c, .int .u32 seed] w fun e w' => e = .returned (.tuple #[.slice (some ⟨g, 0, none⟩) 256 c, .int .i64 0]) ∧ Row w' g (sealL l seed) rest ∧ w.grownBy w' (some g) := by
  have H := Lib.hid (Seal_any l c w rest g seed hs (by omega) (by omega) hR hT)
  rw [hl, sealE_256 hl] at H
  clear hR hT
  have HL := Lib.hid hl
  clear hl
  go_enter Tryz.func140, Tryz.ntmps140
  go_wp2_with (go_at_call 45; refine H.out.mono ?_; rintro e w1 ⟨rfl, hR, hG⟩)
  go_ret2
  exact ⟨rfl, hR, hG⟩
def newB (n seed : Nat) : List UInt8 := sealL (flips (List.replicate 256 0) n (2016 - n)) seed
theorem newB_len (n seed : Nat) : (newB n seed).length = 256 := by
  unfold newB
  rw [sealL_len, flips_len, List.length_replicate]
theorem zrow_row (w : World) : Row (w.alloc (.cells (Mk.zrow 256) 5)) w.heap.size (List.replicate 256 0) [] := Mk.zrow_row w 256
set_option maxHeartbeats 400000 in
set_option maxRecDepth 100000 in
theorem New_yes (n seed : Nat) (w : World) (h : n ≤ 2016) (hs : seed < 4294967296) (hT : Tab w) :
    Calls Tryz.prog 116 #[.int .i64 n, .int .u32 seed] w fun e w' => ∃ g, e = .returned (.tuple #[.slice (some ⟨g, 0, none⟩) 256 256, .int .i64 0]) ∧ w.heap.size ≤ g ∧ Row w' g (newB n seed) [] ∧ Below w.heap.size w w' := by
  have H := Lib.hid (sizeMayBe_any (n : Int) w)
  rw [show sizeB (n : Int) = true by simp [sizeB]; omega] at H
  have hmk := Mk.make256
  have hsub : (2016 : Int) - (n : Int) = ((2016 - n : Nat) : Int) := by omega
  have HZ := Lib.hid (zrow_row w)
  have HT := Lib.hid (Tab.alloc hT (.cells (Mk.zrow 256) 5))
  have hlt := Tab.lt hT
  clear hT
  go_enter Tryz.func116, Tryz.ntmps116
  go_wp2_with (first
    | (go_at_call 138; refine H.out.mono ?_; rintro e w' ⟨rfl, rfl⟩)
    | (go_at_call 139; refine (turn_any (List.replicate 256 0) [] w.heap.size 256 n (2016 - n) _ (List.length_replicate ..) (by omega) HZ.out).mono ?_; rintro e w1 ⟨rfl, hR1, hG1⟩
       have HR1 := Lib.hid hR1
       have HG1 := Lib.hid hG1
       have HT1 := Lib.hid (Tab.grown HT.out hG1 (by intro e; injection e with e; omega))
       clear hR1 hG1)
    | (go_at_call 140; refine (sealed_any (flips (List.replicate 256 0) n (2016 - n)) [] w.heap.size 256 seed _ hs (by rw [flips_len, List.length_replicate]) (Nat.le_refl _) HR1.out HT1.out).mono ?_; rintro e w2 ⟨rfl, hR2, hG2⟩
       have HR2 := Lib.hid hR2
       have HG2 := Lib.hid hG2
       clear hR2 hG2))
  go_ret2
  exact ⟨w.heap.size, rfl, Nat.le_refl _, HR2.out, ((Below.refl _ _).alloc (Nat.le_refl _) _).trans ((grown_below (grown_trans HG1.out HG2.out) (Nat.le_refl _) (by simp)))⟩
def isMap (l : List UInt8) (n seed : Nat) : Bool := decide (l.length = 256) && (sealB l seed && allB l n (2016 - n) true)
def chkE (l : List UInt8) (n : Int) (seed : Nat) : Int := if sizeB n = true then (if isMap l n.toNat seed = true then 0 else 117) else 22
theorem chkE_no {l : List UInt8} {n : Int} {seed : Nat} (h : sizeB n = false) : chkE l n seed = 22 := by simp [chkE, h]
theorem chkE_not {l : List UInt8} {n : Int} {seed : Nat} (h : sizeB n = true) (h2 : isMap l n.toNat seed = false) : chkE l n seed = 117 := by simp [chkE, h, h2]
theorem sizeB_nat {n : Int} (h : sizeB n = true) : ∃ m : Nat, n = (m : Int) ∧ m ≤ 2016 := by
  have h2 : 0 ≤ n ∧ n ≤ 2016 := by simpa [sizeB] using h
  exact ⟨n.toNat, by omega, by omega⟩
theorem Sealed_256 (l : List UInt8) (hl : l.length = 256) (q : Bool) (seed : Nat) (hq : sealB l seed = q) (B : Nat) (A : Option Addr) (c : Nat) (w : World) (hs : seed < 4294967296) (hc : 256 ≤ c) (hA : Sl w B A (l.map u8v)) (hT : Tab w) :
    Calls Tryz.prog 154 #[.slice A 256 c, .int .u32 seed] w fun e w' => e = .returned (.bool q) ∧ ∃ n, w' = w.drewN n := by
  have h := Sealed_any l B A c seed w hs (by omega) (by omega) hA hT
  rw [hl, hq] at h
  exact h
def Drew (w w' : World) : Prop := ∃ n, w' = w.drewN n
theorem Drew.refl (w : World) : Drew w w := ⟨0, rfl⟩
theorem Drew.at_ (w : World) (n : Nat) : Drew w (w.drewN n) := ⟨n, rfl⟩
set_option maxHeartbeats 400000 in
set_option maxRecDepth 100000 in
theorem Check_no (len : Nat) (A : Option Addr) (c : Nat) (n : Int) (seed : Nat) (w : World) (h : sizeB n = false) :
    Calls Tryz.prog 141 #[.slice A len c, .int .i64 n, .int .u32 seed] w fun e w' => e = .returned (.int .i64 22) ∧ Drew w w' := by
  have H := Lib.hid (sizeMayBe_any n w)
  rw [h] at H
  clear h
  go_enter Tryz.func141, Tryz.ntmps141
  go_wp2_with (go_at_call 138; refine H.out.mono ?_; rintro e w' ⟨rfl, rfl⟩)
  go_ret
  exact ⟨rfl, Drew.refl _⟩
set_option maxHeartbeats 400000 in
set_option maxRecDepth 100000 in
theorem Check_len (len : Nat) (A : Option Addr) (c : Nat) (n : Int) (seed : Nat) (w : World) (h : sizeB n = true) (hl : len ≠ 256) :
    Calls Tryz.prog 141 #[.slice A len c, .int .i64 n, .int .u32 seed] w fun e w' => e = .returned (.int .i64 117) ∧ Drew w w' := by
  have H := Lib.hid (sizeMayBe_any n w)
  rw [h] at H
  have d1 : ((len : Int) == 256) = false := by rw [beq_eq_false_iff_ne]; omega
  have d2 : ((len : Int) != 256) = true := by rw [bne, d1]; rfl
  clear h hl
  go_enter Tryz.func141, Tryz.ntmps141
  go_wp2_with (go_at_call 138; refine H.out.mono ?_; rintro e w' ⟨rfl, rfl⟩)
  go_ret
  exact ⟨rfl, Drew.refl _⟩
set_option maxHeartbeats 400000 in
set_option maxRecDepth 100000 in
theorem Check_seal (l : List UInt8) (hl : l.length = 256) (B : Nat) (A : Option Addr) (c n seed : Nat) (w : World) (hn : n ≤ 2016) (hs : seed < 4294967296) (hc : 256 ≤ c) (hq : sealB l seed = false) (hA : Sl w B A (l.map u8v)) (hT : Tab w) :
    Calls Tryz.prog 141 #[.slice A 256 c, .int .i64 n, .int .u32 seed] w fun e w' => e = .returned (.int .i64 117) ∧ Drew w w' := by
  have H := Lib.hid (sizeMayBe_any (n : Int) w)
  rw [show sizeB (n : Int) = true by simp [sizeB]; omega] at H
  have HS := Lib.hid (Sealed_256 l hl false seed hq B A c w hs hc hA hT)
  clear hl hq hA hT
  go_enter Tryz.func141, Tryz.ntmps141
  go_wp2_with (first
    | (go_at_call 138; refine H.out.mono ?_; rintro e w' ⟨rfl, rfl⟩)
    | (go_at_call 154; refine HS.out.mono ?_; rintro e w' ⟨rfl, m, rfl⟩))
  go_ret
  exact ⟨rfl, Drew.at_ _ _⟩
set_option maxHeartbeats 400000 in
set_option maxRecDepth 100000 in
theorem Check_bits (l : List UInt8) (hl : l.length = 256) (B : Nat) (A : Option Addr) (c n seed : Nat) (w : World) (hn : n ≤ 2016) (hs : seed < 4294967296) (hc : 256 ≤ c) (hq : sealB l seed = true) (hA : Sl w B A (l.map u8v)) (hT : Tab w) (q : Bool) (r : Int) (hr : r = if q = true then 0 else 117) (hb : allB l n (2016 - n) true = q) :
    Calls Tryz.prog 141 #[.slice A 256 c, .int .i64 n, .int .u32 seed] w fun e w' => e = .returned (.int .i64 r) ∧ Drew w w' := by
  have H := Lib.hid (sizeMayBe_any (n : Int) w)
  rw [show sizeB (n : Int) = true by simp [sizeB]; omega] at H
  have HS := Lib.hid (Sealed_256 l hl true seed hq B A c w hs hc hA hT)
  have hsub : (2016 : Int) - (n : Int) = ((2016 - n : Nat) : Int) := by omega
  have HA := Lib.hid (fun W (h : Sl W B A (l.map u8v)) => allAre_any l 256 hl B A c n (2016 - n) (n : Int) ((2016 - n : Nat) : Int) rfl rfl true W (by omega) (by omega) h)
  rw [hb] at HA
  have HA0 := Lib.hid hA
  clear hl hq hA hT hb
  cases q
  all_goals
    subst hr
    go_enter Tryz.func141, Tryz.ntmps141
    go_wp2_with (first
      | (go_at_call 138; refine H.out.mono ?_; rintro e w' ⟨rfl, rfl⟩)
      | (go_at_call 154; refine HS.out.mono ?_; rintro e w' ⟨rfl, m, rfl⟩)
      | (go_at_call 142; refine (HA.out _ (HA0.out.drewN _)).mono ?_; rintro e w' ⟨rfl, rfl⟩))
    go_ret
    exact ⟨rfl, Drew.at_ _ _⟩
theorem Check_any (l : List UInt8) (len : Nat) (hlen : l.length = len) (B : Nat) (A : Option Addr) (c : Nat) (n : Int) (seed : Nat) (w : World) (hs : seed < 4294967296) (hc : len ≤ c) (hA : Sl w B A (l.map u8v)) (hT : Tab w) :
    Calls Tryz.prog 141 #[.slice A len c, .int .i64 n, .int .u32 seed] w fun e w' => e = .returned (.int .i64 (chkE l n seed)) ∧ Drew w w' := by
  subst hlen
  cases h : sizeB n with
  | false => rw [chkE_no h]; exact Check_no _ A c n seed w h
  | true =>
    obtain ⟨m, rfl, hm⟩ := sizeB_nat h
    by_cases hl : l.length = 256
    · rw [hl]
      cases hq : sealB l seed with
      | false =>
        rw [chkE_not h (by simp [isMap, hq])]
        exact Check_seal l hl B A c m seed w hm hs (by omega) hq hA hT
      | true =>
        refine Check_bits l hl B A c m seed w hm hs (by omega) hq hA hT (allB l m (2016 - m) true) _ ?_ rfl
        simp [chkE, h, isMap, hl, hq]
    · rw [chkE_not h (by simp [isMap, hl])]
      exact Check_len _ A c (m : Int) seed w h hl
end Go.Proofs.YtgjcbfdhpbkhoaaGreatDoor.TFace
/- Bits that are turned or laid, in plain mathematics: two blocks whose bits are the same are the same once they are sealed. -/
namespace Go.Proofs.YtgjcbfdhpbkhoaaGreatDoor.TSame
open WPlain WAny TPlain TBits TTurn
theorem flipB_bit (x : UInt8) (s t : Nat) (hs : s < 8) : (flipB x s).toNat.testBit t = (x.toNat.testBit t != decide (s = t)) := by
  have hx := byte_lt x
  have h2 : 2 ^ s < 256 := Nat.lt_of_le_of_lt (Nat.pow_le_pow_right (by decide) (show s ≤ 7 by omega)) (by decide)
  have h4 : x.toNat ^^^ 2 ^ s < 256 := Nat.xor_lt_two_pow (n := 8) hx h2
  have e : (flipB x s).toNat = x.toNat ^^^ 2 ^ s := by
    unfold flipB
    simp only [UInt8.toNat_ofNat']
    exact Nat.mod_eq_of_lt h4
  rw [e, Nat.testBit_xor, Nat.testBit_two_pow]
theorem fr_get {l : List UInt8} (hl : l.length = 256) {i : Nat} (hi : i < 2016) : fr l i = !((l.getD (i / 8) 0).toNat.testBit (i % 8)) := by
  have h : i / 8 < l.length := by omega
  simp [fr, hi, h]
theorem fr_flip {l : List UInt8} (hl : l.length = 256) {i j : Nat} (hi : i < 2016) (_hj : j < 2016) : fr (flip l j) i = (fr l i != decide (i = j)) := by
  rw [fr_get (by rw [flip_len]; exact hl) hi, fr_get hl hi]
  unfold TTurn.flip
  by_cases h : j / 8 = i / 8
  · have e : (l.set (j / 8) (flipB (l.getD (j / 8) 0) (j % 8))).getD (i / 8) 0 = flipB (l.getD (i / 8) 0) (j % 8) := by
      rw [← h, List.getD_eq_getElem?_getD, List.getElem?_set_self (by omega)]
      rfl
    rw [e, flipB_bit _ _ _ (by omega)]
    have : decide (j % 8 = i % 8) = decide (i = j) := by rw [Bool.eq_iff_iff]; simp only [decide_eq_true_eq]; omega
    rw [this]
    cases (l.getD (i / 8) 0).toNat.testBit (i % 8) <;> cases decide (i = j) <;> rfl
  · have e : (l.set (j / 8) (flipB (l.getD (j / 8) 0) (j % 8))).getD (i / 8) 0 = l.getD (i / 8) 0 := by
      rw [List.getD_eq_getElem?_getD, List.getElem?_set_ne h, ← List.getD_eq_getElem?_getD]
    rw [e]
    have : decide (i = j) = false := by simp; intro h2; exact h (by rw [h2])
    rw [this]
    simp
theorem fr_flips {l : List UInt8} (hl : l.length = 256) {i a : Nat} (hi : i < 2016) : ∀ n, a + n ≤ 2016 → fr (flips l a n) i = (fr l i != decide (a ≤ i ∧ i < a + n))
  | 0, _ => by
    have : decide (a ≤ i ∧ i < a + 0) = false := by simp
    rw [this]
    simp [flips]
  | n + 1, h => by
    have ih := fr_flips hl hi n (a := a) (by omega)
    simp only [flips]
    rw [fr_flip (by rw [flips_len]; exact hl) hi (by omega), ih]
    by_cases h1 : a ≤ i ∧ i < a + n
    · have e1 : decide (a ≤ i ∧ i < a + n) = true := by simp; omega
      have e2 : decide (i = a + n) = false := by simp; omega
      have e3 : decide (a ≤ i ∧ i < a + (n + 1)) = true := by simp; omega
      rw [e1, e2, e3]; simp
    · have e1 : decide (a ≤ i ∧ i < a + n) = false := by simp; omega
      by_cases h2 : i = a + n
      · have e2 : decide (i = a + n) = true := by simpa using h2
        have e3 : decide (a ≤ i ∧ i < a + (n + 1)) = true := by simp; omega
        rw [e1, e2, e3]; simp
      · have e2 : decide (i = a + n) = false := by simpa using h2
        have e3 : decide (a ≤ i ∧ i < a + (n + 1)) = false := by simp; omega
        rw [e1, e2, e3]; simp
def setB (x : UInt8) (s : Nat) : UInt8 := UInt8.ofNat (x.toNat ||| 2 ^ s)
def lay1 (l : List UInt8) (i : Nat) : List UInt8 := l.set (i / 8) (setB (l.getD (i / 8) 0) (i % 8))
def lay (P : Nat → Bool) : Nat → List UInt8
  | 0 => List.replicate 256 0
  | n + 1 => if P n = true then lay1 (lay P n) n else lay P n
theorem lay1_len (l : List UInt8) (i : Nat) : (lay1 l i).length = l.length := by simp [lay1]
theorem lay_len (P : Nat → Bool) (n : Nat) : (lay P n).length = 256 := by
  induction n with
  | zero => exact List.length_replicate ..
  | succ n ih =>
    simp only [lay]
    split
    · rw [lay1_len, ih]
    · exact ih
theorem setB_bit (x : UInt8) (s t : Nat) (hs : s < 8) : (setB x s).toNat.testBit t = (x.toNat.testBit t || decide (s = t)) := by
  have hx := byte_lt x
  have h2 : 2 ^ s < 256 := Nat.lt_of_le_of_lt (Nat.pow_le_pow_right (by decide) (show s ≤ 7 by omega)) (by decide)
  have h4 : x.toNat ||| 2 ^ s < 256 := Nat.or_lt_two_pow (n := 8) hx h2
  have e : (setB x s).toNat = x.toNat ||| 2 ^ s := by
    unfold setB
    simp only [UInt8.toNat_ofNat']
    exact Nat.mod_eq_of_lt h4
  rw [e, Nat.testBit_or, Nat.testBit_two_pow]
theorem fr_lay1 {l : List UInt8} (hl : l.length = 256) {i j : Nat} (hi : i < 2016) (_hj : j < 2016) : fr (lay1 l j) i = (fr l i && !decide (i = j)) := by
  rw [fr_get (by rw [lay1_len]; exact hl) hi, fr_get hl hi]
  unfold lay1
  by_cases h : j / 8 = i / 8
  · have e : (l.set (j / 8) (setB (l.getD (j / 8) 0) (j % 8))).getD (i / 8) 0 = setB (l.getD (i / 8) 0) (j % 8) := by
      rw [← h, List.getD_eq_getElem?_getD, List.getElem?_set_self (by omega)]
      rfl
    rw [e, setB_bit _ _ _ (by omega)]
    have : decide (j % 8 = i % 8) = decide (i = j) := by rw [Bool.eq_iff_iff]; simp only [decide_eq_true_eq]; omega
    rw [this]
    cases (l.getD (i / 8) 0).toNat.testBit (i % 8) <;> cases decide (i = j) <;> rfl
  · have e : (l.set (j / 8) (setB (l.getD (j / 8) 0) (j % 8))).getD (i / 8) 0 = l.getD (i / 8) 0 := by
      rw [List.getD_eq_getElem?_getD, List.getElem?_set_ne h, ← List.getD_eq_getElem?_getD]
    rw [e]
    have : decide (i = j) = false := by simp; intro h2; exact h (by rw [h2])
    rw [this]
    simp
theorem fr_blank {i : Nat} (hi : i < 2016) : fr (List.replicate 256 0) i = true := by
  rw [fr_get (List.length_replicate ..) hi, List.getD_eq_getElem?_getD, List.getElem?_replicate]
  rw [if_pos (by omega)]
  simp
theorem fr_lay (P : Nat → Bool) {i : Nat} (hi : i < 2016) : ∀ n, n ≤ 2016 → fr (lay P n) i = !(decide (i < n) && P i)
  | 0, _ => by rw [lay, fr_blank hi]; simp
  | n + 1, h => by
    have ih := fr_lay P hi n (by omega)
    simp only [lay]
    by_cases hn : i = n
    · subst hn
      have e1 : decide (i < i) = false := by simp
      have e2 : decide (i < i + 1) = true := by simp
      rw [e1] at ih
      rw [e2]
      cases hp : P i with
      | true =>
        rw [if_pos rfl, fr_lay1 (lay_len _ _) hi (by omega), ih]
        simp
      | false =>
        rw [if_neg (by simp), ih]
        simp
    · have e1 : decide (i < n + 1) = decide (i < n) := by rw [Bool.eq_iff_iff]; simp only [decide_eq_true_eq]; omega
      rw [e1, ← ih]
      split
      · rw [fr_lay1 (lay_len _ _) hi (by omega)]
        have : decide (i = n) = false := by simpa using hn
        rw [this]; simp
      · rfl
theorem take_same {l r : List UInt8} (hl : l.length = 256) (hr : r.length = 256) (h : ∀ i, i < 2016 → fr l i = fr r i) : l.take 252 = r.take 252 := by
  apply List.ext_getElem?
  intro j
  by_cases hj : j < 252
  · rw [List.getElem?_take_of_lt hj, List.getElem?_take_of_lt hj, List.getElem?_eq_getElem (by omega), List.getElem?_eq_getElem (by omega)]
    congr 1
    apply UInt8.toNat_inj.1
    apply Nat.eq_of_testBit_eq
    intro s
    by_cases hs : s < 8
    · have := h (8 * j + s) (by omega)
      rw [fr_get hl (by omega), fr_get hr (by omega), show (8 * j + s) / 8 = j by omega, show (8 * j + s) % 8 = s by omega] at this
      simp only [List.getD_eq_getElem?_getD, List.getElem?_eq_getElem (show j < l.length by omega), List.getElem?_eq_getElem (show j < r.length by omega), Option.getD_some] at this
      exact Bool.not_inj this
    · have big : ∀ x : UInt8, x.toNat.testBit s = false := fun x => Nat.testBit_lt_two_pow (Nat.lt_of_lt_of_le (byte_lt x) (by
        have := Nat.pow_le_pow_right (show 0 < 2 by decide) (show 8 ≤ s by omega)
        exact this))
      rw [big, big]
  · rw [List.getElem?_eq_none (by simp; omega), List.getElem?_eq_none (by simp; omega)]
theorem sealL_256 {l : List UInt8} (hl : l.length = 256) (seed : Nat) : sealL l seed = l.take 252 ++ dig 4 (crc seed (l.take 252)) := by
  unfold sealL
  rw [if_pos (by omega), hl]
  unfold patch
  rw [dig_length]
  rw [List.drop_eq_nil_of_le (by omega), List.append_nil]
theorem seal_same {l r : List UInt8} (hl : l.length = 256) (hr : r.length = 256) (h : ∀ i, i < 2016 → fr l i = fr r i) (seed : Nat) : sealL l seed = sealL r seed := by
  rw [sealL_256 hl, sealL_256 hr, take_same hl hr h]
theorem fr_seal {l : List UInt8} (hl : l.length = 256) (seed : Nat) {i : Nat} : fr (sealL l seed) i = fr l i := by
  by_cases hi : i < 2016
  · rw [fr_get (by rw [sealL_len]; exact hl) hi, fr_get hl hi, sealL_256 hl, List.getD_eq_getElem?_getD, List.getElem?_append_left (by simp; omega), List.getElem?_take_of_lt (by omega), ← List.getD_eq_getElem?_getD]
  · rw [fr_big (by omega), fr_big (by omega)]
theorem zer_turn {F G : Nat → Bool} {a k : Nat} (h1 : ∀ i, a ≤ i → i < a + k → F i = true ∧ G i = false) (h2 : ∀ i, ¬ (a ≤ i ∧ i < a + k) → G i = F i) : ∀ p, zer G p + (min p (a + k) - min p a) = zer F p
  | 0 => by simp [zer]
  | p + 1 => by
    have ih := zer_turn h1 h2 p
    simp only [zer]
    by_cases hp : a ≤ p ∧ p < a + k
    · obtain ⟨e1, e2⟩ := h1 p hp.1 hp.2
      rw [e1, e2]
      simp
      omega
    · rw [h2 p hp]
      split <;> omega
end Go.Proofs.YtgjcbfdhpbkhoaaGreatDoor.TSame
/- The face Turn. -/
namespace Go.Proofs.YtgjcbfdhpbkhoaaGreatDoor.TTurnF
open Go.RowKit WMem WPlain WAppend WCrc WSeal WAny TPlain TBits TSet TWalk TOrd TCut TTurn TFace
def turnL (l : List UInt8) (a k : Int) (seed : Nat) : List UInt8 := sealL (flips l a.toNat k.toNat) seed
theorem drew_below {w w' : World} (h : Drew w w') : Below w.heap.size w w' := by
  obtain ⟨n, rfl⟩ := h
  exact below_drewN (Below.refl _ _) n
theorem tab_drew {w w' : World} (h : Tab w) (hd : Drew w w') : Tab w' := by
  obtain ⟨n, rfl⟩ := hd
  exact Tab.drewN h n
set_option maxHeartbeats 1000000 in
set_option maxRecDepth 100000 in
theorem Turn_yes (l : List UInt8) (hl : l.length = 256) (B : Nat) (A : Option Addr) (c n a k : Nat) (on : Bool) (seed : Nat) (w : World) (hs : seed < 4294967296) (hB : B ≤ w.heap.size) (hn : n ≤ 2016) (hk : 1 ≤ k) (hak : a + k ≤ n) (hb : allB l a k (!on) = true) (hA : Sl w B A (l.map u8v)) (hT : Tab w)
    (H : Calls Tryz.prog 141 #[.slice A 256 c, .int .i64 n, .int .u32 seed] w fun e w' => e = .returned (.int .i64 0) ∧ Drew w w') :
    Calls Tryz.prog 117 #[.slice A 256 c, .int .i64 n, .int .i64 a, .int .i64 k, .bool on, .int .u32 seed] w fun e w' => ∃ g cap rest, e = .returned (.tuple #[.slice (some ⟨g, 0, none⟩) 256 cap, .int .i64 0]) ∧ w.heap.size ≤ g ∧ 256 ≤ cap ∧ Row w' g (sealL (flips l a k) seed) rest ∧ Below w.heap.size w w' := by
  have HC := Lib.hid H
  have HA := Lib.hid (fun W (h : Sl W B A (l.map u8v)) => allAre_any l 256 hl B A c a k (a : Int) (k : Int) rfl rfl (!on) W (by omega) (by omega) h)
  rw [hb] at HA
  have HS := Lib.hid hA
  have HB := Lib.hid hB
  have HL := Lib.hid hl
  have HT := Lib.hid hT
  have hlt := Tab.lt hT
  have HK : Hid (a + k ≤ 2016) := Lib.hid (by omega)
  have hw : wrap64 ((n : Int) - (a : Int)) = ((n - a : Nat) : Int) := by rw [IntWalk.wrap64_in _ ⟨by omega, by omega⟩]; omega
  have hw2 : (n : Int) - (a : Int) = ((n - a : Nat) : Int) := by omega
  have d1 : decide ((k : Int) < 1) = false := by simp; omega
  have d2 : decide ((a : Int) < 0) = false := by simp
  have d3 : decide (((n - a : Nat) : Int) < (k : Int)) = false := by simp; omega
  have d4 : decide (n - a < k) = false := by simp; omega
  clear H hb hA hB hl hT
  go_enter Tryz.func117, Tryz.ntmps117
  go_wp2_with (first
    | (go_at_call 141; refine HC.out.mono ?_; rintro e w1 ⟨rfl, hd⟩
       have HS1 : Hid (Sl w1 B A (l.map u8v)) := Lib.hid (HS.out.below_le (drew_below hd) HB.out)
       have HT1 := Lib.hid (tab_drew HT.out hd)
       have HD := Lib.hid (drew_below hd)
       have hsz1 := (drew_below hd).size
       clear hd)
    | (go_at_call 142; refine (HA.out _ HS1.out).mono ?_; rintro e w' ⟨rfl, rfl⟩)
    | (go_at_call 51; refine (Clone_256 l HL.out B A c _ (by have := HB.out; omega) HS1.out).mono ?_; rintro e w2 ⟨g, cap, rest, rfl, hg, hcap, hR2, hb2⟩
       have HR2 := Lib.hid hR2
       have HB2 := Lib.hid (HD.out.trans (hb2.mono hsz1))
       have HT2 := Lib.hid (Tab.below HT1.out hb2 (by omega))
       clear hR2 hb2)
    | (go_at_call 139; refine (turn_any l rest g cap a k _ HL.out HK.out HR2.out).mono ?_; rintro e w3 ⟨rfl, hR3, hG3⟩
       have HR3 := Lib.hid hR3
       have HT3 := Lib.hid (Tab.grown HT2.out hG3 (by intro e; injection e with e; omega))
       have HG3 := Lib.hid hG3
       clear hR3 hG3)
    | (go_at_call 140; refine (sealed_any (flips l a k) rest g cap seed _ hs (by rw [flips_len]; exact HL.out) hcap HR3.out HT3.out).mono ?_; rintro e w4 ⟨rfl, hR4, hG4⟩
       have HR4 := Lib.hid hR4
       have HG4 := Lib.hid hG4
       clear hR4 hG4))
  go_ret2
  exact ⟨g, cap, rest, rfl, by omega, hcap, HR4.out, HB2.out.grown (grown_trans HG3.out HG4.out) HB2.out.size (by intro i hi; injection hi with hi; omega)⟩
end Go.Proofs.YtgjcbfdhpbkhoaaGreatDoor.TTurnF
/- The document's answers: bytes, New, Check, Test, Turn. -/
namespace Go.Proofs.YtgjcbfdhpbkhoaaGreatDoor.TRef
open Go.RowKit WMem WPlain WAppend WCrc WSeal WAny WRefSeal TPlain TBits TSet TWalk TOrd TCut TTurn TFace TTurnF TSame
theorem below_drew {B : Nat} {a w : World} (h : Below B a w) : Below B a w.drew := ⟨h.os, h.tape, h.output, h.size, h.block⟩
theorem or_go (x : UInt8) (s : Nat) (hs : s < 8) : bits BinOp.or IntKind.u8 (x.toNat : Int) (IntKind.u8.wrap (2 ^ s)) = ((setB x s).toNat : Int) := by
  have hx := byte_lt x
  have h2 : 2 ^ s < 256 := Nat.lt_of_le_of_lt (Nat.pow_le_pow_right (by decide) (show s ≤ 7 by omega)) (by decide)
  have h0 : IntKind.u8.wrap (2 ^ s) = (2 ^ s : Int) := by
    rw [show (2 : Int) ^ s = ((2 ^ s : Nat) : Int) by push_cast; rfl, IntKind.wrap_u8']
    generalize 2 ^ s = m at h2 ⊢
    omega
  rw [h0]
  show IntKind.u8.wrap ((BitVec.ofInt 8 (x.toNat : Int) ||| BitVec.ofInt 8 (2 ^ s)).toNat : Int) = _
  have h : (BitVec.ofInt 8 (x.toNat : Int) ||| BitVec.ofInt 8 (2 ^ s)).toNat = x.toNat ||| 2 ^ s := by
    rw [BitVec.toNat_or]
    have h1 : (BitVec.ofInt 8 (x.toNat : Int)).toNat = x.toNat := by simp
    have h3 : (BitVec.ofInt 8 (2 ^ s)).toNat = 2 ^ s := by
      rw [show (2 : Int) ^ s = ((2 ^ s : Nat) : Int) by push_cast; rfl]
      simp only [BitVec.ofInt_natCast, BitVec.toNat_ofNat]
      exact Nat.mod_eq_of_lt h2
    rw [h1, h3]
  have h4 : x.toNat ||| 2 ^ s < 256 := Nat.or_lt_two_pow (n := 8) hx h2
  rw [h, IntKind.wrap_u8']
  unfold setB
  simp only [UInt8.toNat_ofNat']
  omega
def bv (P : Nat → Bool) (n : Nat) : List Value := (List.range n).map fun i => .bool (P i)
theorem bv_len (P : Nat → Bool) (n : Nat) : (bv P n).length = n := by simp [bv]
theorem bv_at (P : Nat → Bool) {n i : Nat} (hi : i < n) : (bv P n)[i]? = some (.bool (P i)) := by
  simp [bv, List.getElem?_map, List.getElem?_range hi]
set_option maxHeartbeats 1000000 in
set_option maxRecDepth 100000 in
theorem refBytes_any (P : Nat → Bool) (z : List UInt8) (hz : lay P 2016 = z) (B : Nat) (A : Option Addr) (c seed : Nat) (w : World) (hs : seed < 4294967296) (hB : B ≤ w.heap.size) (hA : Sl w B A (bv P 2016)) :
    Calls Tryz.prog 120 #[.slice A 2016 c, .int .u32 seed] w fun e w' => ∃ g, e = .returned (.slice (some ⟨g, 0, none⟩) 256 256) ∧ w.heap.size ≤ g ∧ (∃ rest, Row w' g (sealL z seed) rest) ∧ Below w.heap.size w w' := by
  have HE := Lib.hid hz
  clear hz
  have HZ := Lib.hid (zrow_row w)
  have HA := Lib.hid hA
  have HB := Lib.hid hB
  have hmk := Mk.make256
  clear hA hB
  go_enter Tryz.func120, Tryz.ntmps120
  go_wp2
  go_loopw [6] (fun i wr => ∃ k : Nat, k ≤ 2016 ∧ i = .int .i64 k ∧ Row wr w.heap.size (lay P k) [] ∧ Below w.heap.size w wr) (fun i _ => 2016 - (intOf i).toNat)
  case atStart => exact ⟨0, Nat.zero_le _, rfl, HZ.out, (Below.refl _ _).alloc (Nat.le_refl _) _⟩
  case round =>
    obtain ⟨k, hk, rfl, hR, hb⟩ := hrel
    have HR := Lib.hid hR
    have HG := Lib.hid hb
    clear hR hb
    by_cases hlt : k < 2016
    · obtain ⟨a, rfl, hab, hcp⟩ := HA.out k (.bool (P k)) (bv_at P hlt)
      have hcp2 : wr.cell? (a.add k) = some (.bool (P k)) := (HG.out.cell (p := a.add k) (by have := HB.out; rw [addr_add_block]; omega)).trans hcp
      clear hcp
      cases hP : P k with
      | false =>
        rw [hP] at hcp2
        have HN : Hid (lay P (k + 1) = lay P k) := Lib.hid (by simp only [lay, hP]; rfl)
        clear hP
        go_wp2
        go_roundw
        case rel => exact ⟨k + 1, by omega, by go_num, by rw [HN.out]; exact HR.out, HG.out⟩
        case measure => simp [intOf]; omega
      | true =>
        rw [hP] at hcp2
        have hlen : (lay P k).length = 256 := lay_len P k
        have hi2 : k / 8 < (lay P k).length := by omega
        have hc := HR.out.cell (i := k / 8) hi2
        have hf := HR.out.free (k / 8)
        obtain ⟨x, hxe⟩ : ∃ x, (lay P k)[k / 8]'hi2 = x := ⟨_, rfl⟩
        rw [hxe] at hc
        have HX : Hid ((lay P k).getD (k / 8) 0 = x) := Lib.hid (by rw [← hxe]; simp [hi2])
        have hx := byte_lt x
        have HLEN := Lib.hid hlen
        clear hxe
        obtain ⟨j, hj⟩ : ∃ j, k / 8 = j := ⟨_, rfl⟩
        obtain ⟨s, hs2⟩ : ∃ s, k % 8 = s := ⟨_, rfl⟩
        have hs8 : s < 8 := by omega
        have hsI : (s : Int) < 8 := by omega
        have hjI : (j : Int) < 256 := by omega
        have hj0 : (0 : Int) ≤ (j : Int) := by omega
        have hq1 : IntKind.i64.wrap ((k : Int) / 8) = (j : Int) := by rw [IntKind.wrap_i64]; omega
        have hq2 : IntKind.i64.wrap ((k : Int) % 8) = (s : Int) := by rw [IntKind.wrap_i64]; omega
        have hq3 : (k : Int).tmod 8 = (s : Int) := by rw [Int.tmod_eq_emod_of_nonneg (by omega)]; omega
        have hv := or_go x s hs8
        obtain ⟨y, hy⟩ : ∃ y, setB x s = y := ⟨_, rfl⟩
        rw [hy] at hv
        rw [hj] at hc hf HX
        have HN : Hid (lay P (k + 1) = (lay P k).set j y) := Lib.hid (by
          simp only [lay, hP, if_true]
          unfold lay1
          rw [hj, hs2, HX.out, hy])
        clear hy hj hs2 hlen hi2 hP
        go_wp2
        go_still_tail 13, (by kernel_rfl)
        change wpList _ _ _ _ _ wr.drew
        go_wp2
        go_roundw
        case rel => exact ⟨k + 1, by omega, by go_num, by rw [HN.out]; exact HR.out.set (by have := HLEN.out; omega) y, below_drew (HG.out.setCell (Nat.le_refl _) _)⟩
        case measure => simp [intOf]; omega
    · obtain rfl : k = 2016 := by omega
      have hzl : z.length = 256 := by rw [← HE.out]; exact lay_len P 2016
      have HR : Hid (Row wr w.heap.size z []) := Lib.hid (by rw [← HE.out]; exact HR.out)
      have HO : Hid (Own wr w.heap.size (.slice (some ⟨w.heap.size, 0, none⟩) 256 256) z) := Lib.hid (.inr ⟨w.heap.size, 256, [], by rw [hzl], Nat.le_refl _, by omega, HR.out⟩)
      have HL := Lib.hid hzl
      clear hzl
      go_wp2_with (go_at_call 24; refine (refSeal_any z w.heap.size _ seed _ hs (by have := HL.out; omega) HO.out).mono ?_; rintro e w2 ⟨rfl, hO2, hG2⟩
                   have HO2 := Lib.hid hO2
                   have HG2 := Lib.hid hG2
                   clear hO2 hG2)
      go_ret
      have hO2 := HO2.out
      rcases hO2 with ⟨h, _⟩ | ⟨g, c2, rest, h, hg, hc, hR⟩
      · cases h
      · injection h with h1 h2 h3
        injection h1 with h1
        injection h1 with h1
        subst h1
        subst h3
        exact ⟨w.heap.size, rfl, Nat.le_refl _, ⟨rest, hR⟩, HG.out.grown HG2.out HG.out.size (by intro i hi; simp [Value.ownBlock] at hi; omega)⟩
theorem bv_congr {P Q : Nat → Bool} {n : Nat} (h : ∀ j, j < n → P j = Q j) : bv P n = bv Q n := by
  unfold bv
  apply List.map_congr_left
  intro j hj
  rw [h j (by simpa using hj)]
theorem bv_set {P Q : Nat → Bool} {n k : Nat} (b : Bool) (hk : k < n) (h1 : Q k = b) (h2 : ∀ j, j < n → j ≠ k → Q j = P j) : (bv P n).set k (.bool b) = bv Q n := by
  apply List.ext_getElem?
  intro i
  by_cases hi : i < n
  · by_cases e : i = k
    · subst e
      rw [List.getElem?_set_self (by rw [bv_len]; exact hi), bv_at Q hi, h1]
    · rw [List.getElem?_set_ne (by omega), bv_at P hi, bv_at Q hi, h2 i hi e]
  · rw [List.getElem?_eq_none (by rw [List.length_set, bv_len]; omega), List.getElem?_eq_none (by rw [bv_len]; omega)]
theorem bv_snoc (P : Nat → Bool) (n : Nat) : bv P (n + 1) = bv P n ++ [.bool (P n)] := by simp [bv, List.range_succ]
def brow (n : Nat) : Array Value := (bv (fun _ => false) n).toArray
theorem made_bools (n : Nat) (hn : n ≤ 4096) (w : World) : (Instr.makeSlice 125 (.int .i64 (n : Int)) (.int .i64 (n : Int))).run Tryz.prog w = .ok (.slice (some ⟨w.heap.size, 0, none⟩) n n) (w.alloc (.cells (brow n) 4)) := by
  obtain ⟨i, h1, h2, h3, h4⟩ := info_parts (P := Tryz.prog) (e := 4) (z := .bool false) (size := 1) (bytes := 1) (by kernel_rfl)
  have h := run_make (P := Tryz.prog) w 125 4 i (.bool false) (by kernel_rfl) h1 h2 .i64 .i64 n n (by omega) (by omega) (by rw [h4]; omega) (by omega)
  have he : bv (fun _ => false) n = List.replicate n (Value.bool false) := by
    apply List.ext_getElem?
    intro j
    by_cases hj : j < n
    · rw [bv_at _ hj, List.getElem?_replicate, if_pos hj]
    · rw [List.getElem?_eq_none (by rw [bv_len]; omega), List.getElem?_eq_none (by rw [List.length_replicate]; omega)]
  have hb : brow n = madeCells #[Value.bool false] n := by
    rw [Mk.made_one]
    unfold brow
    rw [he]
  rw [h]
  simp only [Int.toNat_natCast, h3, Nat.mul_one]
  rw [hb]
  rfl
theorem make_bools (w : World) : (Instr.makeSlice 125 (.int .i64 2016) (.int .i64 2016)).run Tryz.prog w = .ok (.slice (some ⟨w.heap.size, 0, none⟩) 2016 2016) (w.alloc (.cells (brow 2016) 4)) := made_bools 2016 (by decide) w
theorem newB_lay (n seed : Nat) (hn : n ≤ 2016) : sealL (lay (fun i => decide (n ≤ i)) 2016) seed = newB n seed := by
  unfold newB
  refine seal_same (lay_len _ _) (by rw [flips_len, List.length_replicate]) (fun i hi => ?_) seed
  rw [fr_lay _ hi 2016 (Nat.le_refl _), fr_flips (List.length_replicate ..) hi (2016 - n) (by omega), fr_blank hi]
  have e1 : decide (i < 2016) = true := by simpa using hi
  have e2 : decide (n ≤ i ∧ i < n + (2016 - n)) = decide (n ≤ i) := by rw [Bool.eq_iff_iff]; simp only [decide_eq_true_eq]; omega
  rw [e1, e2]
  cases decide (n ≤ i) <;> rfl
set_option maxHeartbeats 1000000 in
set_option maxRecDepth 100000 in
theorem refNew_yes (n seed : Nat) (w : World) (hn : n ≤ 2016) (hs : seed < 4294967296) :
    Calls Tryz.prog 96 #[.int .i64 n, .int .u32 seed] w fun e w' => ∃ g cap rest, e = .returned (.tuple #[.slice (some ⟨g, 0, none⟩) 256 cap, .int .i64 0]) ∧ w.heap.size ≤ g ∧ 256 ≤ cap ∧ Row w' g (newB n seed) rest ∧ Below w.heap.size w w' := by
  have hmk := make_bools
  have HZ : Hid (RowV (w.alloc (.cells (brow 2016) 4)) w.heap.size 4 (bv (fun _ => false) 2016)) := Lib.hid (row_new w _)
  have HN := Lib.hid (newB_lay n seed hn)
  have d0 : decide ((n : Int) < 0) = false := by simp
  have d1 : decide ((2016 : Int) < (n : Int)) = false := by simp; omega
  go_enter Tryz.func96, Tryz.ntmps96
  go_wp2
  go_loopw [7] (fun i wr => ∃ k : Nat, n ≤ k ∧ k ≤ 2016 ∧ i = .int .i64 k ∧ RowV wr w.heap.size 4 (bv (fun j => decide (n ≤ j ∧ j < k)) 2016) ∧ Below w.heap.size w wr) (fun i _ => 2016 - (intOf i).toNat)
  case atStart =>
    refine ⟨n, Nat.le_refl _, hn, rfl, ?_, (Below.refl _ _).alloc (Nat.le_refl _) _⟩
    rw [bv_congr (Q := fun _ => false) (fun j _ => decide_eq_false (by omega))]
    exact HZ.out
  case round =>
    obtain ⟨k, hnk, hk, rfl, hR, hb⟩ := hrel
    have HR := Lib.hid hR
    have HG := Lib.hid hb
    clear hR hb
    by_cases hlt : k < 2016
    · obtain ⟨x, hx⟩ : ∃ x, (bv (fun j => decide (n ≤ j ∧ j < k)) 2016)[k]? = some x := ⟨_, bv_at _ hlt⟩
      have hc : wr.cell? ⟨w.heap.size, k, none⟩ = some x := (row_cell HR.out k).trans (by rw [List.getElem?_toArray]; exact hx)
      have hf := row_free HR.out k
      have HS : Hid (RowV (wr.setCell ⟨w.heap.size, k, none⟩ (.bool true)) w.heap.size 4 (bv (fun j => decide (n ≤ j ∧ j < k + 1)) 2016)) := Lib.hid (by
        have := HR.out.set k (.bool true)
        rw [bv_set (Q := fun j => decide (n ≤ j ∧ j < k + 1)) true hlt (by simp [hnk]) (fun j _ hj => by rw [Bool.eq_iff_iff]; simp only [decide_eq_true_eq]; omega)] at this
        exact this)
      clear hx
      go_wp2
      go_roundw
      case rel => exact ⟨k + 1, by omega, by omega, by go_num, HS.out, HG.out.setCell (Nat.le_refl _) _⟩
      case measure => simp [intOf]; omega
    · obtain rfl : k = 2016 := by omega
      have HP : Hid (Sl wr wr.heap.size (some ⟨w.heap.size, 0, none⟩) (bv (fun i => decide (n ≤ i)) 2016)) := Lib.hid (by
        have := HR.out.sl HR.out.lt
        rw [bv_congr (Q := fun i => decide (n ≤ i)) (fun j hj => by rw [Bool.eq_iff_iff]; simp only [decide_eq_true_eq]; omega)] at this
        exact this)
      go_wp2_with (go_at_call 120; refine (refBytes_any (fun i => decide (n ≤ i)) _ rfl _ _ _ seed _ hs (Nat.le_refl _) HP.out).mono ?_; rintro e w2 ⟨g, rfl, hg, ⟨rest, hR2⟩, hb2⟩
                   have HR2 := Lib.hid hR2
                   have HG2 := Lib.hid hb2
                   clear hR2 hb2)
      go_ret2
      exact ⟨g, 256, rest, rfl, by have := HG.out.size; omega, Nat.le_refl _, by rw [← HN.out]; exact HR2.out, HG.out.trans (HG2.out.mono HG.out.size)⟩
end Go.Proofs.YtgjcbfdhpbkhoaaGreatDoor.TRef
/- The document's answers: Check, Test, Turn. -/
namespace Go.Proofs.YtgjcbfdhpbkhoaaGreatDoor.TRef2
open Go.RowKit WMem WPlain WAppend WCrc WSeal WAny WRefSeal TPlain TBits TSet TWalk TOrd TCut TTurn TFace TTurnF TSame TRef
theorem refSealed_256 (l : List UInt8) (hl : l.length = 256) (q : Bool) (seed : Nat) (hq : sealB l seed = q) (B : Nat) (A : Option Addr) (c : Nat) (w : World) (hs : seed < 4294967296) (hc : 256 ≤ c) (hA : Sl w B A (l.map u8v)) :
    Calls Tryz.prog 148 #[.slice A 256 c, .int .u32 seed] w fun e w' => e = .returned (.bool q) ∧ w = w' := by
  have h := refSealed_any l B A c seed w hs (by omega) (by omega) hA
  rw [hl, hq] at h
  exact h
set_option maxHeartbeats 1000000 in
set_option maxRecDepth 100000 in
theorem refCheck_no (len : Nat) (A : Option Addr) (c : Nat) (n : Int) (seed : Nat) (w : World) (h : sizeB n = false) :
    Calls Tryz.prog 121 #[.slice A len c, .int .i64 n, .int .u32 seed] w fun e w' => e = .returned (.int .i64 22) ∧ w = w' := by
  have h2 : ¬ (0 ≤ n ∧ n ≤ 2016) := by simpa [sizeB] using h
  clear h
  by_cases h0 : n < 0
  · have d0 : decide (n < 0) = true := by simpa using h0
    clear h2 h0
    go_enter Tryz.func121, Tryz.ntmps121
    go_wp2
    go_ret
    exact ⟨rfl, rfl⟩
  · have d0 : decide (n < 0) = false := by simp; omega
    have d1 : decide ((2016 : Int) < n) = true := by simp; omega
    clear h2 h0
    go_enter Tryz.func121, Tryz.ntmps121
    go_wp2
    go_ret
    exact ⟨rfl, rfl⟩
set_option maxHeartbeats 1000000 in
set_option maxRecDepth 100000 in
theorem refCheck_len (len : Nat) (A : Option Addr) (c n : Nat) (seed : Nat) (w : World) (hn : n ≤ 2016) (hl : len ≠ 256) :
    Calls Tryz.prog 121 #[.slice A len c, .int .i64 n, .int .u32 seed] w fun e w' => e = .returned (.int .i64 117) ∧ w = w' := by
  have d0 : decide ((n : Int) < 0) = false := by simp
  have d1 : decide ((2016 : Int) < (n : Int)) = false := by simp; omega
  have d2 : ((len : Int) == 256) = false := by rw [beq_eq_false_iff_ne]; omega
  have d3 : ((len : Int) != 256) = true := by rw [bne, d2]; rfl
  clear hl
  go_enter Tryz.func121, Tryz.ntmps121
  go_wp2
  go_ret
  exact ⟨rfl, rfl⟩
set_option maxHeartbeats 1000000 in
set_option maxRecDepth 100000 in
theorem refCheck_seal (l : List UInt8) (hl : l.length = 256) (B : Nat) (A : Option Addr) (c n seed : Nat) (w : World) (hn : n ≤ 2016) (hs : seed < 4294967296) (hc : 256 ≤ c) (hq : sealB l seed = false) (hA : Sl w B A (l.map u8v)) :
    Calls Tryz.prog 121 #[.slice A 256 c, .int .i64 n, .int .u32 seed] w fun e w' => e = .returned (.int .i64 117) ∧ w = w' := by
  have d0 : decide ((n : Int) < 0) = false := by simp
  have d1 : decide ((2016 : Int) < (n : Int)) = false := by simp; omega
  have HS := Lib.hid (refSealed_256 l hl false seed hq B A c w hs hc hA)
  clear hl hq hA
  go_enter Tryz.func121, Tryz.ntmps121
  go_wp2_with (go_at_call 148; refine HS.out.mono ?_; rintro e w' ⟨rfl, rfl⟩)
  go_ret
  exact ⟨rfl, rfl⟩
def bitsE (l : List UInt8) (n : Nat) : Int := if allB l n (2016 - n) true = true then 0 else 117
set_option maxHeartbeats 1000000 in
set_option maxRecDepth 100000 in
theorem refCheck_bits (l : List UInt8) (hl : l.length = 256) (B : Nat) (A : Option Addr) (c n seed : Nat) (w : World) (hn : n ≤ 2016) (hs : seed < 4294967296) (hc : 256 ≤ c) (hq : sealB l seed = true) (hA : Sl w B A (l.map u8v)) :
    Calls Tryz.prog 121 #[.slice A 256 c, .int .i64 n, .int .u32 seed] w fun e w' => e = .returned (.int .i64 (bitsE l n)) ∧ w = w' := by
  have d0 : decide ((n : Int) < 0) = false := by simp
  have d1 : decide ((2016 : Int) < (n : Int)) = false := by simp; omega
  have HS := Lib.hid (refSealed_256 l hl true seed hq B A c w hs hc hA)
  have HL := Lib.hid hl
  have HA := Lib.hid hA
  clear hl hq hA
  go_enter Tryz.func121, Tryz.ntmps121
  go_wp2_with (go_at_call 148; refine HS.out.mono ?_; rintro e w' ⟨rfl, rfl⟩)
  go_loop [7] (fun i => ∃ k : Nat, n ≤ k ∧ k ≤ 2016 ∧ i = .int .i64 k ∧ ∀ j, n ≤ j → j < k → fr l j = false) (fun i => 2016 - (intOf i).toNat)
  case atStart => exact ⟨n, Nat.le_refl _, hn, rfl, fun j h1 h2 => by omega⟩
  case round =>
    obtain ⟨k, hnk, hk, rfl, hall⟩ := hrel
    have H := Lib.hid hall
    clear hall
    by_cases hlt : k < 2016
    · cases hq : fr l k with
      | true =>
        have HQ := Lib.hid hq
        clear hq
        go_wp2_with (go_at_call 122; refine (refSet_nat l 256 HL.out B A c k _ rfl true HQ.out _ (by omega) HA.out).mono ?_; rintro e w' ⟨rfl, rfl⟩)
        go_ret
        refine ⟨ret_i ?_, rfl⟩
        have : allB l n (2016 - n) true = false := allB_no (j := k - n) (by omega) (by rw [show n + (k - n) = k by omega, HQ.out]; simp)
        simp [bitsE, this]
      | false =>
        have HQ := Lib.hid hq
        clear hq
        go_wp2_with (go_at_call 122; refine (refSet_nat l 256 HL.out B A c k _ rfl false HQ.out _ (by omega) HA.out).mono ?_; rintro e w' ⟨rfl, rfl⟩)
        go_round
        case rel =>
          refine ⟨k + 1, by omega, by omega, by go_num, fun j h1 h2 => ?_⟩
          by_cases e : j = k
          · subst e; exact HQ.out
          · exact H.out j h1 (by omega)
        case measure => simp [intOf]; omega
    · obtain rfl : k = 2016 := by omega
      go_wp2
      go_ret
      refine ⟨ret_i ?_, rfl⟩
      have : allB l n (2016 - n) true = true := allB_iff.2 fun j hj => by rw [H.out (n + j) (by omega) (by omega)]; rfl
      simp [bitsE, this]
theorem refCheck_any (l : List UInt8) (len : Nat) (hlen : l.length = len) (B : Nat) (A : Option Addr) (c : Nat) (n : Int) (seed : Nat) (w : World) (hs : seed < 4294967296) (hc : len ≤ c) (hA : Sl w B A (l.map u8v)) :
    Calls Tryz.prog 121 #[.slice A len c, .int .i64 n, .int .u32 seed] w fun e w' => e = .returned (.int .i64 (chkE l n seed)) ∧ w = w' := by
  subst hlen
  cases h : sizeB n with
  | false => rw [chkE_no h]; exact refCheck_no _ A c n seed w h
  | true =>
    obtain ⟨m, rfl, hm⟩ := sizeB_nat h
    by_cases hl : l.length = 256
    · rw [hl]
      cases hq : sealB l seed with
      | false =>
        rw [chkE_not h (by simp [isMap, hq])]
        exact refCheck_seal l hl B A c m seed w hm hs (by omega) hq hA
      | true =>
        have e : chkE l (m : Int) seed = bitsE l m := by simp [chkE, h, isMap, hl, hq, bitsE]
        rw [e]
        exact refCheck_bits l hl B A c m seed w hm hs (by omega) hq hA
    · rw [chkE_not h (by simp [isMap, hl])]
      exact refCheck_len _ A c m seed w hm hl
end Go.Proofs.YtgjcbfdhpbkhoaaGreatDoor.TRef2
/- The document's Turn. -/
namespace Go.Proofs.YtgjcbfdhpbkhoaaGreatDoor.TRef3
open Go.RowKit WMem WPlain WAppend WCrc WSeal WAny WRefSeal TPlain TBits TSet TWalk TOrd TCut TTurn TFace TTurnF TSame TRef TRef2
def newP (l : List UInt8) (a k : Nat) (on : Bool) (i : Nat) : Bool := if a ≤ i ∧ i < a + k then on else !fr l i
def RefTurned (l : List UInt8) (a k : Nat) (on : Bool) (seed : Nat) (w : World) (e : Ending) (w' : World) : Prop :=
  if allB l a k (!on) = true then ∃ g cap rest, e = .returned (.tuple #[.slice (some ⟨g, 0, none⟩) 256 cap, .int .i64 0]) ∧ w.heap.size ≤ g ∧ 256 ≤ cap ∧ Row w' g (sealL (flips l a k) seed) rest ∧ Below w.heap.size w w'
  else e = .returned (.tuple #[.slice none 0 0, .int .i64 117]) ∧ Below w.heap.size w w'
theorem turned_lay {l : List UInt8} (hl : l.length = 256) {a k : Nat} {on : Bool} (hk : a + k ≤ 2016) (h : allB l a k (!on) = true) (seed : Nat) : sealL (lay (newP l a k on) 2016) seed = sealL (flips l a k) seed := by
  refine seal_same (lay_len _ _) (by rw [flips_len]; exact hl) (fun i hi => ?_) seed
  rw [fr_lay _ hi 2016 (Nat.le_refl _), fr_flips hl hi k hk]
  have e1 : decide (i < 2016) = true := by simpa using hi
  rw [e1]
  unfold newP
  by_cases hin : a ≤ i ∧ i < a + k
  · have e2 : decide (a ≤ i ∧ i < a + k) = true := by simpa using hin
    rw [if_pos hin, e2]
    have := allB_iff.1 h (i - a) (by omega)
    rw [show a + (i - a) = i by omega] at this
    revert this
    cases fr l i <;> cases on <;> simp
  · have e2 : decide (a ≤ i ∧ i < a + k) = false := by simpa using hin
    rw [if_neg hin, e2]
    simp
theorem elemB : Elem Tryz.prog 125 4 1 := ⟨by kernel_rfl, by
  obtain ⟨i, h1, h2, h3, h4⟩ := info_parts (P := Tryz.prog) (e := 4) (z := .bool false) (size := 1) (bytes := 1) (by kernel_rfl)
  exact ⟨i, _, h1, h2, h3, h4, rfl⟩⟩
theorem own_ge {w : World} {base : Nat} {e : TypeId} {size : Nat} {v : Value} {n : Nat} {xs : List Value} (h : w.ownsRow base e size v n xs) : ∀ k, v.ownBlock = some k → base ≤ k := by
  intro k hk
  rcases h.2 with ⟨rfl, _⟩ | ⟨g, cap, cur, rfl, hb, _⟩
  · simp [Value.ownBlock] at hk
  · simp [Value.ownBlock] at hk
    omega
set_option maxHeartbeats 1000000 in
set_option maxRecDepth 100000 in
theorem refTurn_main (l : List UInt8) (hl : l.length = 256) (B : Nat) (A : Option Addr) (c n a k : Nat) (on : Bool) (seed : Nat) (w : World) (hs : seed < 4294967296) (hB : B ≤ w.heap.size) (hn : n ≤ 2016) (hk : 1 ≤ k) (hak : a + k ≤ n) (hA : Sl w B A (l.map u8v))
    (H : Calls Tryz.prog 121 #[.slice A 256 c, .int .i64 n, .int .u32 seed] w fun e w' => e = .returned (.int .i64 0) ∧ w = w') :
    Calls Tryz.prog 97 #[.slice A 256 c, .int .i64 n, .int .i64 a, .int .i64 k, .bool on, .int .u32 seed] w (RefTurned l a k on seed w) := by
  have HC := Lib.hid H
  have HA := Lib.hid hA
  have HB := Lib.hid hB
  have HL := Lib.hid hl
  have d1 : decide ((k : Int) < 1) = false := by simp; omega
  have d2 : decide ((2016 : Int) < (k : Int)) = false := by simp; omega
  have d3 : decide ((a : Int) < 0) = false := by simp
  have d4 : decide ((n : Int) < (a : Int)) = false := by simp; omega
  have d4' : decide (n < a) = false := by simp; omega
  have d5 : decide ((n : Int) < (a : Int) + (k : Int)) = false := by simp; omega
  clear H hA hB hl
  go_enter Tryz.func97, Tryz.ntmps97
  go_wp2_with (go_at_call 121; refine HC.out.mono ?_; rintro e w1 ⟨rfl, rfl⟩)
  go_loopw [15, 16] (fun v i wr => ∃ m : Nat, m ≤ 2016 ∧ i = .int .i64 m ∧ wr.ownsRow w.heap.size 4 1 v m (bv (newP l a k on) m) ∧ Below w.heap.size w wr ∧ ∀ j, a ≤ j → j < a + k → j < m → (!fr l j) = !on) (fun _ i _ => 2016 - (intOf i).toNat)
  case atStart => exact ⟨0, Nat.zero_le _, rfl, World.ownsRow_nil _ _ _ _, Below.refl _ _, fun j h1 h2 h3 => by omega⟩
  case round =>
    obtain ⟨m, hm, rfl, hown, hb, hall⟩ := hrel
    have HO := Lib.hid hown
    have HG := Lib.hid hb
    have HF := Lib.hid hall
    have hsz := hb.size
    have HS : Hid (Sl wr B A (l.map u8v)) := Lib.hid (HA.out.below_le hb HB.out)
    clear hown hb hall
    by_cases hlt : m < 2016
    · obtain ⟨q, hq⟩ : ∃ q, fr l m = q := ⟨_, rfl⟩
      have HQ := Lib.hid hq
      clear hq
      by_cases hin : a ≤ m ∧ m < a + k
      · have g1 : decide ((a : Int) ≤ (m : Int)) = true := by simp; omega
        have g1' : decide (a ≤ m) = true := by simp; omega
        have g2 : decide ((m : Int) < (a : Int) + (k : Int)) = true := by simp; omega
        by_cases hs2 : (!q) = on
        · have g3 : ((!q) == on) = true := by rw [hs2]; simp
          have HN := Lib.hid hs2
          clear hs2
          go_wp2_with (go_at_call 122; refine (refSet_nat l 256 HL.out B A c m _ rfl q HQ.out _ (by omega) HS.out).mono ?_; rintro e w' ⟨rfl, rfl⟩)
          go_ret2
          have hno : allB l a k (!on) = false := allB_no (j := m - a) (by omega) (by
            rw [show a + (m - a) = m by omega, HQ.out, HN.out]
            cases on <;> simp)
          unfold RefTurned
          rw [if_neg (by rw [hno]; simp)]
          exact ⟨rfl, HG.out⟩
        · have g3 : ((!q) == on) = false := by simpa using hs2
          have HN : Hid ((!q) = !on) := Lib.hid (by revert hs2; cases q <;> cases on <;> simp)
          have HP : Hid (newP l a k on m = on) := Lib.hid (by unfold newP; rw [if_pos hin])
          clear hs2
          have HX : Hid (Sl (wr.alloc (.cells #[.bool on] 4)) (wr.heap.size + 1) (some ⟨wr.heap.size, 0, none⟩) [.bool on]) := Lib.hid (Sl.of_row (n := 1) (row_new _ _) (by omega) rfl)
          have HU : Hid (∀ x, u15.ownBlock = some x → w.heap.size ≤ x) := Lib.hid (own_ge HO.out)
          go_wp2_with (first
            | (go_at_call 122; refine (refSet_nat l 256 HL.out B A c m _ rfl q HQ.out _ (by omega) HS.out).mono ?_; rintro e w' ⟨rfl, rfl⟩)
            | (at_builtin; refine wl_append rfl (.tmp 68) (.tmp 70) 125 rfl w.heap.size 4 1 elemB u15 m (bv (newP l a k on) m) rfl (HO.out.alloc _) (wr.heap.size + 1) (some ⟨wr.heap.size, 0, none⟩) 1 1 [.bool on] rfl rfl HX.out (by simp [Value.oneCell']) (by omega) (by unfold maxLen; omega) (by simp; omega) ?_; intro v1 w1 h1 h2 h3
               have H1 : Hid (w1.ownsRow w.heap.size 4 1 v1 (m + 1) (bv (newP l a k on) (m + 1))) := Lib.hid (by rw [bv_snoc, HP.out]; exact h1)
               have H2 : Hid (Below w.heap.size w w1) := Lib.hid ((HG.out.alloc hsz _).grown h2 (by simp; omega) HU.out)
               clear h1 h2 h3))
          go_roundw
          case rel =>
            refine ⟨m + 1, by omega, by go_num, H1.out, H2.out, fun j j1 j2 j3 => ?_⟩
            by_cases e : j = m
            · subst e; rw [HQ.out]; exact HN.out
            · exact HF.out j j1 j2 (by omega)
          case measure => simp [intOf]; omega
      · have HI := Lib.hid hin
        have HP : Hid (newP l a k on m = !q) := Lib.hid (by unfold newP; rw [if_neg hin, HQ.out])
        by_cases hin2 : a ≤ m
        · have g1 : decide ((a : Int) ≤ (m : Int)) = true := by simp; omega
          have g1' : decide (a ≤ m) = true := by simp; omega
          have g2 : decide ((m : Int) < (a : Int) + (k : Int)) = false := by simp; omega
          clear hin hin2
          have HX : Hid (Sl (wr.alloc (.cells #[.bool (!q)] 4)) (wr.heap.size + 1) (some ⟨wr.heap.size, 0, none⟩) [.bool (!q)]) := Lib.hid (Sl.of_row (n := 1) (row_new _ _) (by omega) rfl)
          have HU : Hid (∀ x, u15.ownBlock = some x → w.heap.size ≤ x) := Lib.hid (own_ge HO.out)
          go_wp2_with (first
            | (go_at_call 122; refine (refSet_nat l 256 HL.out B A c m _ rfl q HQ.out _ (by omega) HS.out).mono ?_; rintro e w' ⟨rfl, rfl⟩)
            | (at_builtin; refine wl_append rfl (.tmp 68) (.tmp 70) 125 rfl w.heap.size 4 1 elemB u15 m (bv (newP l a k on) m) rfl (HO.out.alloc _) (wr.heap.size + 1) (some ⟨wr.heap.size, 0, none⟩) 1 1 [.bool (!q)] rfl rfl HX.out (by simp [Value.oneCell']) (by omega) (by unfold maxLen; omega) (by simp; omega) ?_; intro v1 w1 h1 h2 h3
               have H1 : Hid (w1.ownsRow w.heap.size 4 1 v1 (m + 1) (bv (newP l a k on) (m + 1))) := Lib.hid (by rw [bv_snoc, HP.out]; exact h1)
               have H2 : Hid (Below w.heap.size w w1) := Lib.hid ((HG.out.alloc hsz _).grown h2 (by simp; omega) HU.out)
               clear h1 h2 h3))
          go_roundw
          case rel =>
            refine ⟨m + 1, by omega, by go_num, H1.out, H2.out, fun j j1 j2 j3 => ?_⟩
            by_cases e : j = m
            · subst e; exact absurd ⟨j1, j2⟩ HI.out
            · exact HF.out j j1 j2 (by omega)
          case measure => simp [intOf]; omega
        · have g1 : decide ((a : Int) ≤ (m : Int)) = false := by simp; omega
          have g1' : decide (a ≤ m) = false := by simp; omega
          clear hin hin2
          have HX : Hid (Sl (wr.alloc (.cells #[.bool (!q)] 4)) (wr.heap.size + 1) (some ⟨wr.heap.size, 0, none⟩) [.bool (!q)]) := Lib.hid (Sl.of_row (n := 1) (row_new _ _) (by omega) rfl)
          have HU : Hid (∀ x, u15.ownBlock = some x → w.heap.size ≤ x) := Lib.hid (own_ge HO.out)
          go_wp2_with (first
            | (go_at_call 122; refine (refSet_nat l 256 HL.out B A c m _ rfl q HQ.out _ (by omega) HS.out).mono ?_; rintro e w' ⟨rfl, rfl⟩)
            | (at_builtin; refine wl_append rfl (.tmp 68) (.tmp 70) 125 rfl w.heap.size 4 1 elemB u15 m (bv (newP l a k on) m) rfl (HO.out.alloc _) (wr.heap.size + 1) (some ⟨wr.heap.size, 0, none⟩) 1 1 [.bool (!q)] rfl rfl HX.out (by simp [Value.oneCell']) (by omega) (by unfold maxLen; omega) (by simp; omega) ?_; intro v1 w1 h1 h2 h3
               have H1 : Hid (w1.ownsRow w.heap.size 4 1 v1 (m + 1) (bv (newP l a k on) (m + 1))) := Lib.hid (by rw [bv_snoc, HP.out]; exact h1)
               have H2 : Hid (Below w.heap.size w w1) := Lib.hid ((HG.out.alloc hsz _).grown h2 (by simp; omega) HU.out)
               clear h1 h2 h3))
          go_roundw
          case rel =>
            refine ⟨m + 1, by omega, by go_num, H1.out, H2.out, fun j j1 j2 j3 => ?_⟩
            by_cases e : j = m
            · subst e; exact absurd ⟨j1, j2⟩ HI.out
            · exact HF.out j j1 j2 (by omega)
          case measure => simp [intOf]; omega
    · obtain rfl : m = 2016 := by omega
      have hyes : allB l a k (!on) = true := allB_iff.2 fun j hj => HF.out (a + j) (by omega) (by omega) (by omega)
      have HE := Lib.hid (turned_lay HL.out (by omega) hyes seed)
      have HY := Lib.hid hyes
      clear hyes
      obtain ⟨A2, c2, rfl, hA2, hc2⟩ := WHelp.own_sl HO.out
      have HA2 := Lib.hid hA2
      clear hA2
      go_wp2_with (go_at_call 120; refine (refBytes_any (newP l a k on) _ rfl _ A2 c2 seed _ hs (Nat.le_refl _) HA2.out).mono ?_; rintro e w2 ⟨g, rfl, hg, ⟨rest, hR2⟩, hb2⟩
                   have HR2 := Lib.hid hR2
                   have HG2 := Lib.hid hb2
                   clear hR2 hb2)
      go_ret2
      unfold RefTurned
      rw [if_pos HY.out, ← HE.out]
      exact ⟨g, 256, rest, rfl, by omega, Nat.le_refl _, HR2.out, HG.out.trans (HG2.out.mono hsz)⟩
end Go.Proofs.YtgjcbfdhpbkhoaaGreatDoor.TRef3
/- Turn, the program's and the document's, each by one contract: refused, or done. -/
namespace Go.Proofs.YtgjcbfdhpbkhoaaGreatDoor.TTop
open Go.RowKit WMem WPlain WAppend WCrc WSeal WAny TPlain TBits TSet TWalk TOrd TCut TTurn TFace TTurnF TSame TRef TRef2 TRef3
section
variable (l : List UInt8) (len : Nat) (hlen : l.length = len) (B : Nat) (A : Option Addr) (c : Nat) (n a k : Int) (on : Bool) (seed : Nat) (w : World) (hs : seed < 4294967296) (hc : len ≤ c) (ha : a ≤ 9223372036854775807) (hB : B ≤ w.heap.size) (hA : Sl w B A (l.map u8v))
include hlen hs hc hB hA
end
end Go.Proofs.YtgjcbfdhpbkhoaaGreatDoor.TTop
/- The document's answer Pack; two lists of numbers that are the same. -/
namespace Go.Proofs.YtgjcbfdhpbkhoaaGreatDoor.WRefPack
open Go.RowKit WMem WPlain WGive WGet WPut WAppend WHelp WList WPack WUnpack WFace WFace2 WSeal WRef WAny WWide WRefList
set_option maxRecDepth 20000 in
set_option maxHeartbeats 1000000 in
theorem refPack_ok (xs : List UInt64) (ws : List Int) (size : Nat) (B : Nat) (A A' : Option Addr) (c c' : Nat) (w : World) (hB : B ≤ w.heap.size) (h : packs xs ws (size : Int)) (hx : fit (nats ws) xs) (hA : Sl w B A (xs.map u64v)) (hA' : Sl w B A' (ws.map i64v)) :
    Calls Tryz.prog 23 #[.slice A xs.length c, .slice A' ws.length c', .int .i64 (size : Int)] w fun e w' =>
      ∃ g, e = .returned (.tuple #[.slice (some ⟨g, 0, none⟩) size size, .int .i64 0]) ∧ w.heap.size ≤ g ∧ Row w' g (bytesOf_ xs ws (size : Int)) [] ∧ Below w.heap.size w w' := by
  obtain ⟨h1, h2, h3, h4⟩ := h
  have hn := (tot_le (nats ws) (nats_fine ws h2)).1
  rw [nats_len] at hn
  have hwl : ws.length ≤ 4096 := by omega
  have hmk := make_bytes size (by omega)
  have HF := Lib.hid h2
  have HX := Lib.hid hx
  have HA := Lib.hid hA
  have HA' := Lib.hid hA'
  have HE := Lib.hid h1
  have hxl : xs.length ≤ 4096 := by omega
  have e1 : ((xs.length : Int) != (ws.length : Int)) = false := by rw [bne_eq_false_iff_eq]; omega
  have e1' : (xs.length != ws.length) = false := by rw [bne_eq_false_iff_eq]; omega
  have e2 : decide ((size : Int) < 0) = false := by simp
  have e3 : decide ((4096 : Int) < (size : Int)) = false := by simp; omega
  have e3' : decide (4096 < size) = false := by simp; omega
  have e4 : decide ((size : Int) < (tot (nats ws) : Int)) = false := by simp; omega
  have e4' : decide (size < tot (nats ws)) = false := by simp; omega
  have ht : tot (nats ws) ≤ size := by omega
  clear h2 hx hA hA' h1 h3
  go_enter Tryz.func23, Tryz.ntmps23
  go_wp2_with (go_at_call 46; refine (refsum_ok ws B A' c' _ HF.out (by omega) HA'.out).mono ?_; rintro e w' ⟨rfl, rfl⟩)
  clear hmk e1 e1' e2 e3 e3' e4 e4'
  go_loopw [11, 12] (fun v i wr => ∃ k : Nat, k ≤ xs.length ∧ i = .int .i64 k ∧ v = .int .i64 (tot ((nats ws).take k) : Nat) ∧ Row wr w.heap.size (WPack.part size (nats ws) xs k) [] ∧ Below w.heap.size w wr) (fun _ i _ => xs.length - (intOf i).toNat)
  case atStart => exact ⟨0, Nat.zero_le _, rfl, by simp [tot], by rw [part_zero]; exact zrow_row w size, (Below.refl _ _).alloc (Nat.le_refl _) _⟩
  case round =>
    obtain ⟨k, hk, rfl, rfl, hR, hb⟩ := hrel
    have HR := Lib.hid hR
    have HB := Lib.hid hb
    have hgl := hR.lt
    clear hR hb
    by_cases hlt : k < xs.length
    · have hkw : k < ws.length := by have := HE.out; omega
      have hkn : k < (nats ws).length := by rw [nats_len]; exact hkw
      obtain ⟨a', rfl, hab', hc0⟩ := HA'.out.i64 hkw
      rw [nat_get ws HF.out k hkw] at hc0
      have hc' := (HB.out.cell (p := a'.add k) (by rw [addr_add_block]; omega)).trans hc0
      have HC0 := Lib.hid hc0
      clear hc0
      obtain ⟨a, rfl, hab, hc⟩ := (HA.out.below_le HB.out hB).u64 hlt
      obtain ⟨f1, f2⟩ := fine_get (nats_fine ws HF.out) hkn
      have t3 := tot_take_le (nats ws) (k + 1)
      rw [tot_take_succ (nats ws) k hkn] at t3
      have HS := Lib.hid (tot_take_succ (nats ws) k hkn)
      have HP := Lib.hid (part_next size (nats ws) xs k (by rw [nats_len]; exact HE.out.symm) hkn)
      have HL := Lib.hid (part_len size (nats ws) xs k (by rw [nats_len]; exact HE.out.symm) ht)
      have HG := Lib.hid (fit_get (by rw [nats_len]; exact HE.out.symm) HX.out hkn)
      generalize tot ((nats ws).take k) = d at *
      generalize (nats ws)[k] = n at *
      generalize xs[k] = x at *
      generalize WPack.part size (nats ws) xs k = pt at *
      clear hkn
      go_wp2
      go_still_tail 10, (by kernel_rfl)
      go_wp2_with fail
      refine (refPut_ok size pt HL.out [] w.heap.size size d n x.toNat _ f1 f2 (by omega) (by omega) HG.out (show Row wr.drew _ pt [] from HR.out)).mono ?_
      rintro e w1 ⟨rfl, hR1, hG1⟩
      have b1 : Below w.heap.size w w1 := HB.out.drew.trans (grown_below hG1 (Nat.le_refl _) hgl)
      have hc1 := (b1.cell (p := a'.add k) (by rw [addr_add_block]; omega)).trans HC0.out
      have HB1 := Lib.hid b1
      have HR1 := Lib.hid hR1
      clear hR1 hG1 b1
      go_wp2
      go_roundw
      case rel =>
        exact ⟨k + 1, by omega, by go_num, by rw [HS.out]; go_num, by rw [← HP.out]; exact HR1.out, HB1.out⟩
      case measure => simp [intOf]; omega
    · obtain rfl : k = xs.length := by omega
      have he : xs.length = (nats ws).length := by rw [nats_len]; exact HE.out
      have HZ := Lib.hid he
      clear he
      go_wp2
      go_ret2
      refine ⟨w.heap.size, rfl, Nat.le_refl _, ?_, HB.out⟩
      simp only [bytesOf_, Int.toNat_natCast]
      rw [← HZ.out]
      exact HR.out
end Go.Proofs.YtgjcbfdhpbkhoaaGreatDoor.WRefPack
