/- The law BitsTurned. -/
import Derived.Test.YtlpipnpcgancmaaDoorTGoal
import Derived.Test.YtlpipnpcgancmaaDoorTTop
import Derived.Test.YtlpipnpcgancmaaDoorWTurn
namespace Go.Proofs.YtlpipnpcgancmaaDoor.TTurned
open Go.RowKit WMem WPlain WAppend WCrc WSeal WAny TPlain TBits TSet TWalk TOrd TCut TBud TTurn TFace TTurnF TSame TTop TFind TAwM TAwake TFacts TGoal

theorem turned_len {l : List UInt8} (hl : l.length = 256) (a k : Int) (seed : Nat) : (turnL l a k seed).length = 256 := by
  unfold turnL
  rw [sealL_len, flips_len, hl]
theorem turned_seal {l : List UInt8} (hl : l.length = 256) (a k : Int) (seed : Nat) : sealB (turnL l a k seed) seed = true := by
  unfold turnL
  exact WTurn.sealed_sealL _ _ (by rw [flips_len, hl]; omega)
/-- what was turned on, told of the bits -/
theorem turned_bits {l : List UInt8} {m x y seed : Nat} (hl : l.length = 256) (hm : m ≤ 2016) (hxy : x + y ≤ m) (hb : allB l x y false = true) (ha : allB l m (2016 - m) true = true) :
    zeros (turnL l (x : Int) (y : Int) seed) + y = zeros l ∧ allB (turnL l (x : Int) (y : Int) seed) m (2016 - m) true = true ∧
      (∀ i, fr (turnL l (x : Int) (y : Int) seed) i = (fr l i && !decide (x ≤ i ∧ i < x + y))) ∧ ∀ i, x ≤ i → i < x + y → fr l i = true := by
  have h1 : ∀ i, x ≤ i → i < x + y → fr l i = true := fun i i1 i2 => by
    have := allB_iff.1 hb (i - x) (by omega)
    rw [show x + (i - x) = i by omega] at this
    simpa using this
  have h2 : ∀ i, fr (turnL l (x : Int) (y : Int) seed) i = (fr l i && !decide (x ≤ i ∧ i < x + y)) := fun i => by
    rw [fr_turnL hl (by omega)]
    by_cases hin : x ≤ i ∧ i < x + y
    · rw [decide_eq_true hin, h1 i hin.1 hin.2]; rfl
    · rw [decide_eq_false hin]; cases fr l i <;> rfl
  refine ⟨?_, ?_, h2, h1⟩
  · have := zer_turn (F := fr l) (G := fr (turnL l (x : Int) (y : Int) seed)) (a := x) (k := y)
      (fun i i1 i2 => ⟨h1 i i1 i2, by rw [h2 i, decide_eq_true ⟨i1, i2⟩]; simp⟩) (fun i hi => by rw [h2 i, decide_eq_false hi]; simp) 2016
    unfold zeros
    omega
  · refine allB_iff.2 fun j hj => ?_
    have h3 := allB_iff.1 ha j hj
    rw [h2]
    simp at h3
    simp [h3]
section
variable (l : List UInt8) (len : Nat) (hlen : l.length = len) (B : Nat) (A : Option Addr) (c : Nat) (n a k : Int) (seed : Nat) (at_ : Int) (w : World) (hs : seed < 4294967296) (hc : len ≤ c) (ha : a ≤ 9223372036854775807) (hl : len ≤ 140737488355328) (hB : B ≤ w.heap.size) (hA : Sl w B A (l.map u8v)) (hT : Tab w)
include hlen hs hc ha hl hB hA hT
omit hl in
set_option maxHeartbeats 1000000 in
set_option maxRecDepth 100000 in
theorem turned_no (e0 : Int) (hv : turnE l n a k true seed = e0) (h0 : e0 ≠ 0) :
    Calls Tryd.prog 9 #[.slice A len c, .int .i64 n, .int .i64 a, .int .i64 k, .int .u32 seed, .int .i64 at_] w fun e w' => e = .returned (.bool true) ∧ Below w.heap.size w w' := by
  have ht := Tab.lt hT
  have HL := Lib.hid hlen
  have HA := Lib.hid hA
  have HB := Lib.hid hB
  have HT := Lib.hid hT
  have HV := Lib.hid hv
  have HAA := Lib.hid ha
  have H0 := Lib.hid h0
  have d1 : (e0 == 0) = false := by rw [beq_eq_false_iff_ne]; exact h0
  have d2 : (e0 != 0) = true := by rw [bne, d1]; rfl
  clear hlen hA hB hT hv ha h0
  go_enter Tryd.func9, Tryd.ntmps9
  go_wp2_with fail
  refine (awake_any w HT.out).mono ?_
  rintro e w1 ⟨rfl, hb1⟩
  have B1 := Lib.hid hb1
  have s1 := hb1.size
  have S1 := Lib.hid (HA.out.below_le hb1 HB.out)
  have T1 := Lib.hid (Tab.below HT.out hb1 ht)
  clear hb1
  go_wp2_with fail
  refine (Turn_fail l len HL.out B A c n a k true seed w1 hs hc HAA.out (by have := HB.out; omega) S1.out T1.out e0 HV.out H0.out).mono ?_
  rintro e w2 ⟨rfl, hb2⟩
  have B2 := Lib.hid (B1.out.trans (hb2.mono s1))
  clear hb2
  go_wp2
  go_ret
  exact ⟨rfl, B2.out⟩
set_option maxHeartbeats 1000000 in
set_option maxRecDepth 100000 in
theorem turned_out (r : List UInt8) (hr : turnL l a k seed = r) (hv : turnE l n a k true seed = 0) (hrl : r.length = 256) (z y : Nat) (hz : zeros l = z) (hz2 : zeros r + y = z) (hy : k = (y : Int)) (hck : chkE r n seed = 0) (hle : z ≤ 2016) (ha0 : 0 ≤ a) (hak : a + k ≤ 2016) (hx1 : tstB l at_ = false) (hx2 : tstB r at_ = false) (hE : tstE at_ = 22) (u v : Bool) (hu : decide (a ≤ at_) = u) (hvv : decide (at_ < a + k) = v) :
    Calls Tryd.prog 9 #[.slice A len c, .int .i64 n, .int .i64 a, .int .i64 k, .int .u32 seed, .int .i64 at_] w fun e w' => e = .returned (.bool true) ∧ Below w.heap.size w w' := by
  have ht := Tab.lt hT
  have HL := Lib.hid hlen
  have HA := Lib.hid hA
  have HB := Lib.hid hB
  have HT := Lib.hid hT
  have HV := Lib.hid hv
  have HAA := Lib.hid ha
  have HR := Lib.hid hr
  have HRL := Lib.hid hrl
  have HZ := Lib.hid hz
  have HCK := Lib.hid hck
  obtain ⟨z2, hzz⟩ : ∃ z2, zeros r = z2 := ⟨_, rfl⟩
  have HZ2 := Lib.hid hzz
  rw [hzz] at hz2
  have hsub : wrap64 ((z : Int) - k) = (z2 : Int) := by rw [IntWalk.wrap64_in _ ⟨by omega, by omega⟩]; omega
  have d9 : ((z2 : Int) == (z2 : Int)) = true := by simp
  have d10 : ((z2 : Int) == (z : Int) - k) = true := by rw [beq_iff_eq]; omega
  have HX1 := Lib.hid hx1
  have HX2 := Lib.hid hx2
  have HE := Lib.hid hE
  have hw1 : wrap64 (a + k) = a + k := IntWalk.wrap64_in _ ⟨by omega, by omega⟩
  clear hlen hA hB hT hv ha hr hrl hz hck hzz hz2 hy hx1 hx2 hE
  cases u <;> cases v
  all_goals
    go_enter Tryd.func9, Tryd.ntmps9
    go_wp2_with fail
    refine (awake_any w HT.out).mono ?_
    rintro e w1 ⟨rfl, hb1⟩
    have B1 := Lib.hid hb1
    have s1 := hb1.size
    have S1 := Lib.hid (HA.out.below_le hb1 HB.out)
    have T1 := Lib.hid (Tab.below HT.out hb1 ht)
    clear hb1
    go_wp2_with fail
    refine (Turn_done l len HL.out B A c n a k true seed w1 hs hc (by have := HB.out; omega) S1.out T1.out HV.out).mono ?_
    rintro e w2 ⟨g, cap, rest, rfl, hg, hcap, hR, hb2⟩
    rw [HR.out] at hR
    have B2 := Lib.hid (B1.out.trans (hb2.mono s1))
    have S2 := Lib.hid (HA.out.below_le B2.out HB.out)
    have T2 := Lib.hid (Tab.below T1.out hb2 (by omega))
    have R2 := Lib.hid (hR.sl hR.lt)
    have X1 := Lib.hid (Test_any l len HL.out B A c at_ w2 hl S2.out)
    have X2 := Lib.hid (Test_any r 256 HRL.out _ _ cap at_ w2 (by omega) R2.out)
    rw [HX1.out] at X1
    rw [HX2.out] at X2
    rw [HE.out] at X1 X2
    have Z1 := Lib.hid (Zeros_any l len HL.out B A c w2 hl S2.out)
    rw [HZ.out] at Z1
    have Z2 := Lib.hid (Zeros_any r 256 HRL.out _ _ cap w2 (by omega) R2.out)
    rw [HZ2.out] at Z2
    have C2 := Lib.hid (Check_any r 256 HRL.out _ _ cap n seed w2 hs hcap R2.out T2.out)
    rw [HCK.out] at C2
    clear hb2 hR
    go_wp2_with (first
      | (go_at_call 16; (with_reducible refine X1.out.mono ?_); rintro e w' ⟨rfl, rfl⟩)
      | (go_at_call 16; (with_reducible refine X2.out.mono ?_); rintro e w' ⟨rfl, rfl⟩)
      | (go_at_call 23; (with_reducible refine Z1.out.mono ?_); rintro e w' ⟨rfl, rfl⟩)
      | (go_at_call 23; (with_reducible refine Z2.out.mono ?_); rintro e w' ⟨rfl, rfl⟩)
      | (go_at_call 19; (with_reducible refine C2.out.mono ?_); rintro e w3 ⟨rfl, hd⟩))
    go_ret
    exact ⟨rfl, B2.out.trans ((drew_below hd).mono B2.out.size)⟩
set_option maxHeartbeats 1000000 in
set_option maxRecDepth 100000 in
theorem turned_in (r : List UInt8) (hr : turnL l a k seed = r) (hv : turnE l n a k true seed = 0) (hrl : r.length = 256) (z y : Nat) (hz : zeros l = z) (hz2 : zeros r + y = z) (hy : k = (y : Int)) (hck : chkE r n seed = 0) (hle : z ≤ 2016) (ha0 : 0 ≤ a) (hak : a + k ≤ 2016) (hx1 : tstB l at_ = false) (hx2 : tstB r at_ = true) (hE : tstE at_ = 0) (h1 : a ≤ at_) (h2 : at_ < a + k) :
    Calls Tryd.prog 9 #[.slice A len c, .int .i64 n, .int .i64 a, .int .i64 k, .int .u32 seed, .int .i64 at_] w fun e w' => e = .returned (.bool true) ∧ Below w.heap.size w w' := by
  have ht := Tab.lt hT
  have HL := Lib.hid hlen
  have HA := Lib.hid hA
  have HB := Lib.hid hB
  have HT := Lib.hid hT
  have HV := Lib.hid hv
  have HAA := Lib.hid ha
  have HR := Lib.hid hr
  have HRL := Lib.hid hrl
  have HZ := Lib.hid hz
  have HCK := Lib.hid hck
  obtain ⟨z2, hzz⟩ : ∃ z2, zeros r = z2 := ⟨_, rfl⟩
  have HZ2 := Lib.hid hzz
  rw [hzz] at hz2
  have hsub : wrap64 ((z : Int) - k) = (z2 : Int) := by rw [IntWalk.wrap64_in _ ⟨by omega, by omega⟩]; omega
  have d9 : ((z2 : Int) == (z2 : Int)) = true := by simp
  have d10 : ((z2 : Int) == (z : Int) - k) = true := by rw [beq_iff_eq]; omega
  have HX1 := Lib.hid hx1
  have HX2 := Lib.hid hx2
  have HE := Lib.hid hE
  have hw1 : wrap64 (a + k) = a + k := IntWalk.wrap64_in _ ⟨by omega, by omega⟩
  have d3 : decide (a ≤ at_) = true := by simpa using h1
  have d4 : decide (at_ < a + k) = true := by simpa using h2
  clear hlen hA hB hT hv ha hr hrl hz hck hzz hz2 hy hx1 hx2 hE
  go_enter Tryd.func9, Tryd.ntmps9
  go_wp2_with fail
  refine (awake_any w HT.out).mono ?_
  rintro e w1 ⟨rfl, hb1⟩
  have B1 := Lib.hid hb1
  have s1 := hb1.size
  have S1 := Lib.hid (HA.out.below_le hb1 HB.out)
  have T1 := Lib.hid (Tab.below HT.out hb1 ht)
  clear hb1
  go_wp2_with fail
  refine (Turn_done l len HL.out B A c n a k true seed w1 hs hc (by have := HB.out; omega) S1.out T1.out HV.out).mono ?_
  rintro e w2 ⟨g, cap, rest, rfl, hg, hcap, hR, hb2⟩
  rw [HR.out] at hR
  have B2 := Lib.hid (B1.out.trans (hb2.mono s1))
  have S2 := Lib.hid (HA.out.below_le B2.out HB.out)
  have T2 := Lib.hid (Tab.below T1.out hb2 (by omega))
  have R2 := Lib.hid (hR.sl hR.lt)
  have X1 := Lib.hid (Test_any l len HL.out B A c at_ w2 hl S2.out)
  have X2 := Lib.hid (Test_any r 256 HRL.out _ _ cap at_ w2 (by omega) R2.out)
  rw [HX1.out] at X1
  rw [HX2.out] at X2
  rw [HE.out] at X1 X2
  have Z1 := Lib.hid (Zeros_any l len HL.out B A c w2 hl S2.out)
  rw [HZ.out] at Z1
  have Z2 := Lib.hid (Zeros_any r 256 HRL.out _ _ cap w2 (by omega) R2.out)
  rw [HZ2.out] at Z2
  have C2 := Lib.hid (Check_any r 256 HRL.out _ _ cap n seed w2 hs hcap R2.out T2.out)
  rw [HCK.out] at C2
  clear hb2 hR
  go_wp2_with (first
    | (go_at_call 16; (with_reducible refine X1.out.mono ?_); rintro e w' ⟨rfl, rfl⟩)
    | (go_at_call 16; (with_reducible refine X2.out.mono ?_); rintro e w' ⟨rfl, rfl⟩)
    | (go_at_call 23; (with_reducible refine Z1.out.mono ?_); rintro e w' ⟨rfl, rfl⟩)
    | (go_at_call 23; (with_reducible refine Z2.out.mono ?_); rintro e w' ⟨rfl, rfl⟩)
    | (go_at_call 19; (with_reducible refine C2.out.mono ?_); rintro e w3 ⟨rfl, hd⟩))
  go_ret
  exact ⟨rfl, B2.out.trans ((drew_below hd).mono B2.out.size)⟩
set_option maxHeartbeats 1000000 in
set_option maxRecDepth 100000 in
theorem turned_low (r : List UInt8) (hr : turnL l a k seed = r) (hv : turnE l n a k true seed = 0) (hrl : r.length = 256) (z y : Nat) (hz : zeros l = z) (hz2 : zeros r + y = z) (hy : k = (y : Int)) (hck : chkE r n seed = 0) (hle : z ≤ 2016) (ha0 : 0 ≤ a) (hak : a + k ≤ 2016) (q : Bool) (hx1 : tstB l at_ = q) (hx2 : tstB r at_ = q) (hE : tstE at_ = 0) (h1 : ¬ a ≤ at_) :
    Calls Tryd.prog 9 #[.slice A len c, .int .i64 n, .int .i64 a, .int .i64 k, .int .u32 seed, .int .i64 at_] w fun e w' => e = .returned (.bool true) ∧ Below w.heap.size w w' := by
  have ht := Tab.lt hT
  have HL := Lib.hid hlen
  have HA := Lib.hid hA
  have HB := Lib.hid hB
  have HT := Lib.hid hT
  have HV := Lib.hid hv
  have HAA := Lib.hid ha
  have HR := Lib.hid hr
  have HRL := Lib.hid hrl
  have HZ := Lib.hid hz
  have HCK := Lib.hid hck
  obtain ⟨z2, hzz⟩ : ∃ z2, zeros r = z2 := ⟨_, rfl⟩
  have HZ2 := Lib.hid hzz
  rw [hzz] at hz2
  have hsub : wrap64 ((z : Int) - k) = (z2 : Int) := by rw [IntWalk.wrap64_in _ ⟨by omega, by omega⟩]; omega
  have d9 : ((z2 : Int) == (z2 : Int)) = true := by simp
  have d10 : ((z2 : Int) == (z : Int) - k) = true := by rw [beq_iff_eq]; omega
  have HX1 := Lib.hid hx1
  have HX2 := Lib.hid hx2
  have HE := Lib.hid hE
  have hw1 : wrap64 (a + k) = a + k := IntWalk.wrap64_in _ ⟨by omega, by omega⟩
  have d3 : decide (a ≤ at_) = false := by simpa using h1
  clear hlen hA hB hT hv ha hr hrl hz hck hzz hz2 hy hx1 hx2 hE
  cases q
  all_goals
    go_enter Tryd.func9, Tryd.ntmps9
    go_wp2_with fail
    refine (awake_any w HT.out).mono ?_
    rintro e w1 ⟨rfl, hb1⟩
    have B1 := Lib.hid hb1
    have s1 := hb1.size
    have S1 := Lib.hid (HA.out.below_le hb1 HB.out)
    have T1 := Lib.hid (Tab.below HT.out hb1 ht)
    clear hb1
    go_wp2_with fail
    refine (Turn_done l len HL.out B A c n a k true seed w1 hs hc (by have := HB.out; omega) S1.out T1.out HV.out).mono ?_
    rintro e w2 ⟨g, cap, rest, rfl, hg, hcap, hR, hb2⟩
    rw [HR.out] at hR
    have B2 := Lib.hid (B1.out.trans (hb2.mono s1))
    have S2 := Lib.hid (HA.out.below_le B2.out HB.out)
    have T2 := Lib.hid (Tab.below T1.out hb2 (by omega))
    have R2 := Lib.hid (hR.sl hR.lt)
    have X1 := Lib.hid (Test_any l len HL.out B A c at_ w2 hl S2.out)
    have X2 := Lib.hid (Test_any r 256 HRL.out _ _ cap at_ w2 (by omega) R2.out)
    rw [HX1.out] at X1
    rw [HX2.out] at X2
    rw [HE.out] at X1 X2
    have Z1 := Lib.hid (Zeros_any l len HL.out B A c w2 hl S2.out)
    rw [HZ.out] at Z1
    have Z2 := Lib.hid (Zeros_any r 256 HRL.out _ _ cap w2 (by omega) R2.out)
    rw [HZ2.out] at Z2
    have C2 := Lib.hid (Check_any r 256 HRL.out _ _ cap n seed w2 hs hcap R2.out T2.out)
    rw [HCK.out] at C2
    clear hb2 hR
    go_wp2_with (first
      | (go_at_call 16; (with_reducible refine X1.out.mono ?_); rintro e w' ⟨rfl, rfl⟩)
      | (go_at_call 16; (with_reducible refine X2.out.mono ?_); rintro e w' ⟨rfl, rfl⟩)
      | (go_at_call 23; (with_reducible refine Z1.out.mono ?_); rintro e w' ⟨rfl, rfl⟩)
      | (go_at_call 23; (with_reducible refine Z2.out.mono ?_); rintro e w' ⟨rfl, rfl⟩)
      | (go_at_call 19; (with_reducible refine C2.out.mono ?_); rintro e w3 ⟨rfl, hd⟩))
    go_ret
    exact ⟨rfl, B2.out.trans ((drew_below hd).mono B2.out.size)⟩
set_option maxHeartbeats 1000000 in
set_option maxRecDepth 100000 in
theorem turned_high (r : List UInt8) (hr : turnL l a k seed = r) (hv : turnE l n a k true seed = 0) (hrl : r.length = 256) (z y : Nat) (hz : zeros l = z) (hz2 : zeros r + y = z) (hy : k = (y : Int)) (hck : chkE r n seed = 0) (hle : z ≤ 2016) (ha0 : 0 ≤ a) (hak : a + k ≤ 2016) (q : Bool) (hx1 : tstB l at_ = q) (hx2 : tstB r at_ = q) (hE : tstE at_ = 0) (h1 : a ≤ at_) (h2 : ¬ at_ < a + k) :
    Calls Tryd.prog 9 #[.slice A len c, .int .i64 n, .int .i64 a, .int .i64 k, .int .u32 seed, .int .i64 at_] w fun e w' => e = .returned (.bool true) ∧ Below w.heap.size w w' := by
  have ht := Tab.lt hT
  have HL := Lib.hid hlen
  have HA := Lib.hid hA
  have HB := Lib.hid hB
  have HT := Lib.hid hT
  have HV := Lib.hid hv
  have HAA := Lib.hid ha
  have HR := Lib.hid hr
  have HRL := Lib.hid hrl
  have HZ := Lib.hid hz
  have HCK := Lib.hid hck
  obtain ⟨z2, hzz⟩ : ∃ z2, zeros r = z2 := ⟨_, rfl⟩
  have HZ2 := Lib.hid hzz
  rw [hzz] at hz2
  have hsub : wrap64 ((z : Int) - k) = (z2 : Int) := by rw [IntWalk.wrap64_in _ ⟨by omega, by omega⟩]; omega
  have d9 : ((z2 : Int) == (z2 : Int)) = true := by simp
  have d10 : ((z2 : Int) == (z : Int) - k) = true := by rw [beq_iff_eq]; omega
  have HX1 := Lib.hid hx1
  have HX2 := Lib.hid hx2
  have HE := Lib.hid hE
  have hw1 : wrap64 (a + k) = a + k := IntWalk.wrap64_in _ ⟨by omega, by omega⟩
  have d3 : decide (a ≤ at_) = true := by simpa using h1
  have d4 : decide (at_ < a + k) = false := by simpa using h2
  clear hlen hA hB hT hv ha hr hrl hz hck hzz hz2 hy hx1 hx2 hE
  cases q
  all_goals
    go_enter Tryd.func9, Tryd.ntmps9
    go_wp2_with fail
    refine (awake_any w HT.out).mono ?_
    rintro e w1 ⟨rfl, hb1⟩
    have B1 := Lib.hid hb1
    have s1 := hb1.size
    have S1 := Lib.hid (HA.out.below_le hb1 HB.out)
    have T1 := Lib.hid (Tab.below HT.out hb1 ht)
    clear hb1
    go_wp2_with fail
    refine (Turn_done l len HL.out B A c n a k true seed w1 hs hc (by have := HB.out; omega) S1.out T1.out HV.out).mono ?_
    rintro e w2 ⟨g, cap, rest, rfl, hg, hcap, hR, hb2⟩
    rw [HR.out] at hR
    have B2 := Lib.hid (B1.out.trans (hb2.mono s1))
    have S2 := Lib.hid (HA.out.below_le B2.out HB.out)
    have T2 := Lib.hid (Tab.below T1.out hb2 (by omega))
    have R2 := Lib.hid (hR.sl hR.lt)
    have X1 := Lib.hid (Test_any l len HL.out B A c at_ w2 hl S2.out)
    have X2 := Lib.hid (Test_any r 256 HRL.out _ _ cap at_ w2 (by omega) R2.out)
    rw [HX1.out] at X1
    rw [HX2.out] at X2
    rw [HE.out] at X1 X2
    have Z1 := Lib.hid (Zeros_any l len HL.out B A c w2 hl S2.out)
    rw [HZ.out] at Z1
    have Z2 := Lib.hid (Zeros_any r 256 HRL.out _ _ cap w2 (by omega) R2.out)
    rw [HZ2.out] at Z2
    have C2 := Lib.hid (Check_any r 256 HRL.out _ _ cap n seed w2 hs hcap R2.out T2.out)
    rw [HCK.out] at C2
    clear hb2 hR
    go_wp2_with (first
      | (go_at_call 16; (with_reducible refine X1.out.mono ?_); rintro e w' ⟨rfl, rfl⟩)
      | (go_at_call 16; (with_reducible refine X2.out.mono ?_); rintro e w' ⟨rfl, rfl⟩)
      | (go_at_call 23; (with_reducible refine Z1.out.mono ?_); rintro e w' ⟨rfl, rfl⟩)
      | (go_at_call 23; (with_reducible refine Z2.out.mono ?_); rintro e w' ⟨rfl, rfl⟩)
      | (go_at_call 19; (with_reducible refine C2.out.mono ?_); rintro e w3 ⟨rfl, hd⟩))
    go_ret
    exact ⟨rfl, B2.out.trans ((drew_below hd).mono B2.out.size)⟩
end
theorem turned (l : List UInt8) (B : Nat) (A : Option Addr) (c : Nat) (n a k : Int) (seed : Nat) (at_ : Int) (w : World) (hs : seed < 4294967296) (hc : l.length ≤ c) (ha : a ≤ 9223372036854775807) (hl : l.length ≤ 140737488355328) (hB : B ≤ w.heap.size) (hA : Sl w B A (l.map u8v)) (hT : Tab w) :
    Calls Tryd.prog 9 #[.slice A l.length c, .int .i64 n, .int .i64 a, .int .i64 k, .int .u32 seed, .int .i64 at_] w fun e w' => e = .returned (.bool true) ∧ Below w.heap.size w w' := by
  by_cases he : turnE l n a k true seed = 0
  · rcases turnE_cases (l := l) (n := n) (a := a) (k := k) (on := true) (seed := seed) with ⟨h1, h2⟩ | ⟨h1, m, rfl, hm, hl2, hsl, hall, h3 | ⟨x, y, rfl, rfl, hy, hxy, h3 | h3⟩⟩
    · rw [he] at h2; exact absurd h2.symm h1
    · rw [h3.2] at he; cases he
    · rw [h3.2] at he; cases he
    · obtain ⟨k1, k2, k3, k4⟩ := turned_bits (seed := seed) hl2 hm hxy h3.1 hall
      have hck : chkE (turnL l (x : Int) (y : Int) seed) (m : Int) seed = 0 := by
        refine chkE_ok (by simp [sizeB]; omega) ?_
        rw [Int.toNat_natCast]
        simp only [isMap, turned_len hl2, turned_seal hl2, k2]
        rfl
      have hz := zer_le (fr l) 2016
      cases hp : placeB at_ with
      | false => exact turned_out l _ rfl B A c _ _ _ seed at_ w hs hc ha hl hB hA hT _ rfl he (turned_len hl2 _ _ _) _ y rfl k1 rfl hck hz (by omega) (by omega) (by simp [tstB, hp]) (by simp [tstB, hp]) (by simp [tstE, hp]) _ _ rfl rfl
      | true =>
        have hpp : 0 ≤ at_ ∧ at_ < 2016 := by simpa [placeB] using hp
        obtain ⟨i, rfl⟩ := Int.eq_ofNat_of_zero_le hpp.1
        have hi : i < 2016 := by omega
        by_cases i1 : x ≤ i
        · by_cases i2 : i < x + y
          · refine turned_in l _ rfl B A c _ _ _ seed _ w hs hc ha hl hB hA hT _ rfl he (turned_len hl2 _ _ _) _ y rfl k1 rfl hck hz (by omega) (by omega) ?_ ?_ (tstE_in hi) (by omega) (by omega)
            · rw [tstB_in hi, k4 i i1 i2]; rfl
            · rw [tstB_in hi, k3, decide_eq_true ⟨i1, i2⟩]; simp
          · refine turned_high l _ rfl B A c _ _ _ seed _ w hs hc ha hl hB hA hT _ rfl he (turned_len hl2 _ _ _) _ y rfl k1 rfl hck hz (by omega) (by omega) (!fr l i) ?_ ?_ (tstE_in hi) (by omega) (by omega)
            · rw [tstB_in hi]
            · rw [tstB_in hi, k3, decide_eq_false (by omega)]; simp
        · refine turned_low l _ rfl B A c _ _ _ seed _ w hs hc ha hl hB hA hT _ rfl he (turned_len hl2 _ _ _) _ y rfl k1 rfl hck hz (by omega) (by omega) (!fr l i) ?_ ?_ (tstE_in hi) (by omega)
          · rw [tstB_in hi]
          · rw [tstB_in hi, k3, decide_eq_false (by omega)]; simp
  · exact turned_no l _ rfl B A c n a k seed at_ w hs hc ha hB hA hT _ rfl he
end Go.Proofs.YtlpipnpcgancmaaDoor.TTurned
