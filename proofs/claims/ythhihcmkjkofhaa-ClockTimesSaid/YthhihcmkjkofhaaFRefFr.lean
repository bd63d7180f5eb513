/- The document's From and Resolve; the law ClockTimes. -/
import Derived.Test.YthhihcmkjkofhaaFRef5
import Derived.Test.YthhihcmkjkofhaaFLaws2
namespace Go.Proofs.Ythhihcmkjkofhaa.FRefFr
open Go.RowKit WMem WAppend FPlain FWord FNear FRows FMath FCmp FExp FLd FCut FNano FFrom FSec FAwake FFacts FLaws FRefC FLaws2 FRef1 FRef2 FRef3 FRef4 FRef5

/-- the parts of a float, as the document has them -/
def pm (x : Nat) : Nat := if rg x < 4503599627370496 then rg x else 4503599627370496 + rg x % 4503599627370496
def pn (x : Nat) : Nat := if rg x < 4503599627370496 then 1074 else 1075 - rg x / 4503599627370496
theorem pm_pn {x : Nat} (h : rg x < 4755801206503243776) : fromN (rg x) = rnd (pm x * 1000000000) (2 ^ pn x) ∧ pm x < 9007199254740992 ∧ 20 ≤ pn x ∧ pn x ≤ 1074 := by
  have hu := un_eq
  unfold pm pn
  by_cases hs : rg x < 4503599627370496
  · rw [if_pos hs, if_pos hs]
    refine ⟨?_, by omega, by omega, by omega⟩
    unfold fromN
    rw [amt_small (by omega), un_eq]
  · rw [if_neg hs, if_neg hs]
    refine ⟨?_, by omega, by omega, by omega⟩
    unfold fromN amt
    rw [if_neg hs]
    obtain ⟨t, ht⟩ : ∃ t, t = rg x / 4503599627370496 - 1 := ⟨_, rfl⟩
    obtain ⟨k, hk⟩ : ∃ k, k = 1075 - rg x / 4503599627370496 := ⟨_, rfl⟩
    rw [← ht, ← hk]
    have e : un = k + t := by omega
    rw [e, Nat.pow_add, Nat.mul_right_comm, rnd_scale _ _ _ (Nat.two_pow_pos t)]
theorem ret_3 {a a' b b' : Int} {p q : Bool} (h1 : a = a') (h2 : b = b') (h3 : p = q) : Ending.returned (.tuple #[.int .u64 a, .int .i64 b, .bool p]) = .returned (.tuple #[.int .u64 a', .int .i64 b', .bool q]) := by rw [h1, h2, h3]
theorem parts_nums (x : Nat) (hx : x < 18446744073709551616) (hl : rg x < 4755801206503243776) : ∃ m v e : Nat, (x : Int) % 4503599627370496 = (m : Int) ∧ m < 4503599627370496 ∧ (x : Int) / 4503599627370496 = (v : Int) ∧ IntKind.u64.wrap (v : Int) = (v : Int) ∧ (v : Int).tmod 2048 = (e : Int) ∧ (v : Int) % 2048 = (e : Int) ∧ e < 1056 ∧ rg x % 4503599627370496 = m ∧ rg x / 4503599627370496 = e ∧ wrap64 (e : Int) = (e : Int) ∧ wrap64 ((e : Int) - 1075) = (e : Int) - 1075 := by
  refine ⟨rg x % 4503599627370496, x / 4503599627370496, rg x / 4503599627370496, by unfold rg; omega, by omega, by omega, ?_, ?_, by unfold rg at *; omega, by omega, rfl, rfl, wr (by omega), wr (by omega)⟩
  · rw [IntKind.wrap_u64]; omega
  · rw [Int.tmod_eq_emod_of_nonneg (by omega)]; unfold rg at *; omega
set_option maxHeartbeats 400000 in
theorem parts_any (x : Nat) (h : x < 18446744073709551616) (hl : rg x < 4755801206503243776) (w : World) : Calls Try.prog 32 #[.float .f64 x] w fun e w' => e = .returned (.tuple #[.int .u64 (pm x : Nat), .int .i64 (-(pn x : Int)), .bool (sg x)]) ∧ w = w' := by
  have hs : decide ((9223372036854775808 : Int) ≤ (x : Int)) = sg x := by unfold sg; rw [Bool.eq_iff_iff]; simp only [decide_eq_true_eq]; omega
  have hs' : decide (9223372036854775808 ≤ x) = sg x := rfl
  have hq : (pm x = if rg x < 4503599627370496 then rg x else 4503599627370496 + rg x % 4503599627370496) ∧ (pn x = if rg x < 4503599627370496 then 1074 else 1075 - rg x / 4503599627370496) := ⟨rfl, rfl⟩
  obtain ⟨q1, q2⟩ := hq
  by_cases hr : rg x < 4503599627370496
  · rw [if_pos hr] at q1 q2
    obtain ⟨m, v, e, m1, m2, v1, v2, v3, v4, e2, m3, e3, g1, g2⟩ := parts_nums x h hl
    have h0 : e = 0 := by clear g1 g2 v2; omega
    have hd : ((e : Int) == 0) = true := by rw [h0]; rfl
    have hz1 : ((m : Nat) : Int) = (pm x : Int) := by rw [q1]; clear g1 g2 v2; omega
    have hz2 : (-1074 : Int) = -(pn x : Int) := by rw [q2]; rfl
    generalize pm x = pmx at *
    generalize pn x = pnx at *
    have Z1 := Lib.hid hz1
    have Z2 := Lib.hid hz2
    clear hr m3 e3 hl h h0 q1 q2 hz1 hz2 g2
    go_enter Try.func32, Try.ntmps32
    go_wp2
    go_ret3
    exact ⟨ret_3 (m1.trans Z1.out) Z2.out rfl, rfl⟩
  · rw [if_neg hr] at q1 q2
    obtain ⟨m, v, e, m1, m2, v1, v2, v3, v4, e2, m3, e3, g1, g2⟩ := parts_nums x h hl
    have h0 : 1 ≤ e := by clear g1 g2 v2; omega
    have hd : ((e : Int) == 0) = false := by rw [beq_eq_false_iff_ne]; clear g1 g2 v2; omega
    have hz1 : ((m : Nat) : Int) + 4503599627370496 = (pm x : Int) := by rw [q1]; clear g1 g2 v2; omega
    have hz2 : (e : Int) - 1075 = -(pn x : Int) := by rw [q2]; clear g1 g2 v2; omega
    have hw : IntKind.u64.wrap ((m : Int) + 4503599627370496) = (m : Int) + 4503599627370496 := by clear g1 g2 v2; rw [IntKind.wrap_u64]; omega
    generalize pm x = pmx at *
    generalize pn x = pnx at *
    have Z1 := Lib.hid hz1
    have Z2 := Lib.hid hz2
    clear hr m3 e3 hl h h0 q1 q2 hz1 hz2
    go_enter Try.func32, Try.ntmps32
    go_wp2
    go_ret3
    exact ⟨ret_3 Z1.out Z2.out rfl, rfl⟩
theorem sk_low : sk 13979173243358019584 = -4755801206503243776 := by
  have h1 : sg 13979173243358019584 = true := by unfold sg; simp
  have h2 : rg 13979173243358019584 = 4755801206503243776 := by unfold rg; omega
  unfold sk
  rw [h1, h2]; simp
theorem nan_low : nanW 13979173243358019584 = false := by
  have h2 : rg 13979173243358019584 = 4755801206503243776 := by unfold rg; omega
  unfold nanW
  rw [h2]; simp
/-- where a float is too great, or too far below 0 -/
theorem far_cmp {x : Nat} (hx : x < 18446744073709551616) (hn : nanW x = false) :
    (FloatKind.f64.format.order x 4755801206503243776 == some .gt || FloatKind.f64.format.order x 4755801206503243776 == some .eq) = decide ((4755801206503243776 : Int) ≤ sk x) ∧
    (FloatKind.f64.format.order x 13979173243358019584 == some .lt || FloatKind.f64.format.order x 13979173243358019584 == some .eq) = decide (sk x ≤ (-4755801206503243776 : Int)) := by
  have e1 : sk 4755801206503243776 = 4755801206503243776 := by rw [sk_pos (by omega)]; rfl
  have n1 := nan_pos (a := 4755801206503243776) (by omega)
  constructor
  · rw [ord_ge hx (by omega) hn n1, e1]
  · rw [ord_le hx (by omega) hn nan_low, sk_low]
theorem sk_far {x : Nat} : (4755801206503243776 ≤ rg x → (4755801206503243776 : Int) ≤ sk x ∨ sk x ≤ (-4755801206503243776 : Int)) ∧ (rg x < 4755801206503243776 → ¬ (4755801206503243776 : Int) ≤ sk x ∧ ¬ sk x ≤ (-4755801206503243776 : Int)) := by
  unfold sk
  cases sg x <;> simp only [if_true, if_false, Bool.false_eq_true] <;> constructor <;> intro h <;> omega
theorem time_sg (x : Nat) : timeOf x = if sg x then -(fromN (rg x) : Int) else (fromN (rg x) : Int) := by
  unfold timeOf sk
  have hz : rg x = 0 → fromN (rg x) = 0 := by intro h; rw [h, fromN_zero]
  generalize fromN (rg x) = z at *
  cases sg x <;> simp only [if_true, if_false, Bool.false_eq_true]
  · rw [if_neg (by omega)]
  · by_cases h : rg x = 0
    · rw [if_neg (by omega), hz h]; rfl
    · rw [if_pos (by omega)]
def RFIs (x : Nat) (w : World) (e : Ending) (w' : World) : Prop := e = .returned (.tuple #[.int .i64 (fromT x), .int .i64 (fromE x)]) ∧ Below w.heap.size w w'
theorem near_nums {x : Nat} (hl : rg x < 4755801206503243776) : ∃ z m k : Nat, fromN (rg x) = z ∧ pm x = m ∧ pn x = k ∧ z = rnd (m * 1000000000) (2 ^ k) ∧ m < 9007199254740992 ∧ 1 ≤ k ∧ k ≤ 5000 ∧ -(-(k : Int)) = (k : Int) ∧ wrap64 (k : Int) = (k : Int) ∧ m * 1000000000 / 2 ^ k < 9223372036854775808 ∧ wrap64 (z : Int) = (z : Int) ∧ wrap64 (-(z : Int)) = -(z : Int) := by
  have hle := fromN_le hl
  obtain ⟨p1, p2, p3, p4⟩ := pm_pn hl
  refine ⟨_, _, _, rfl, rfl, rfl, p1, p2, by omega, by omega, by omega, wr (by omega), ?_, wr (by omega), wr (by omega)⟩
  have h20 : 2 ^ 20 ≤ 2 ^ pn x := Nat.pow_le_pow_right (by decide) p3
  rw [Nat.div_lt_iff_lt_mul (Nat.two_pow_pos _)]
  generalize 2 ^ pn x = y at *
  generalize pm x = m at *
  clear p1
  omega
set_option maxHeartbeats 400000 in
theorem rf_near (x : Nat) (h : x < 18446744073709551616) (hl : rg x < 4755801206503243776) (w : World) : Calls Try.prog 15 #[.float .f64 x] w (RFIs x w) := by
  have hn : nanW x = false := by unfold nanW; simp; omega
  have s1 : fromT x = timeOf x := by unfold fromT; rw [if_neg (by rw [hn]; decide), if_neg (by omega)]
  have s2 : fromE x = 0 := by unfold fromE; rw [if_neg (by rw [hn]; decide), if_neg (by omega)]
  unfold RFIs
  rw [s1, s2, time_sg]
  obtain ⟨k1, k2⟩ := far_cmp h hn
  obtain ⟨f1, f2⟩ := (sk_far (x := x)).2 hl
  rw [decide_eq_false f1] at k1
  rw [decide_eq_false f2] at k2
  have hN := fun w => none_any x h w
  rw [hn] at hN
  have HN := Lib.hid hN
  have hP := fun w => parts_any x h hl w
  obtain ⟨z, m, k, z1, z2, z3, p1, p2, p3, p4, hnn, hwk, hsm, hm, hmn⟩ := near_nums hl
  rw [z1]
  rw [z2, z3] at hP
  have HP := Lib.hid hP
  have HR := Lib.hid (row_any m (Nat.lt_trans p2 (by decide)))
  have HZ := Lib.hid p1
  have P3 := Lib.hid p3
  have P4 := Lib.hid p4
  have HSM := Lib.hid hsm
  obtain ⟨q, hq⟩ : ∃ q, q = sg x := ⟨_, rfl⟩
  rw [← hq] at HP ⊢
  clear hN hP hn s1 s2 h hl p1 p2 p3 p4 f1 f2 hq hsm z1 z2 z3
  cases q
  · simp only [Bool.false_eq_true, if_false]
    go_enter Try.func15, Try.ntmps15
    go_wp2_with (first
      | (go_at_call 31; (with_reducible refine (HN.out _).mono ?_); rintro e w' ⟨rfl, rfl⟩)
      | (go_at_call 32; (with_reducible refine (HP.out _).mono ?_); rintro e w' ⟨rfl, rfl⟩)
      | (go_at_call 35; (with_reducible refine (HR.out _).mono ?_); rintro e w1 ⟨A1, l1, c1, rfl, n1, len1, s1, b1, _⟩
         have HT := Lib.hid (times_any l1 w1.heap.size A1 c1 w1 (by omega) (Nat.le_refl _) s1)
         have N1 := Lib.hid n1
         have B1 := Lib.hid b1
         clear n1 s1 b1)
      | (go_at_call 34; (with_reducible refine HT.out.mono ?_); rintro e w2 ⟨A2, l2, c2, rfl, n2, len2, s2, b2, cap2⟩
         rw [N1.out] at n2
         have HH := Lib.hid (half_any l2 w2.heap.size A2 c2 k w2 (by omega) cap2 P3.out P4.out (Nat.le_refl _) s2 (by rw [n2]; exact HSM.out))
         rw [n2, ← HZ.out] at HH
         have B2 := Lib.hid b2
         clear n2 s2 b2 len2 cap2)
      | (go_at_call 33; (with_reducible refine HH.out.mono ?_); rintro e w3 ⟨rfl, b3⟩
         have B3 := Lib.hid b3
         clear b3))
    go_ret2
    exact ⟨ret_ii hm rfl, (B1.out.trans (B2.out.mono B1.out.size)).trans (B3.out.mono (Nat.le_trans B1.out.size B2.out.size))⟩
  · simp only [if_true]
    go_enter Try.func15, Try.ntmps15
    go_wp2_with (first
      | (go_at_call 31; (with_reducible refine (HN.out _).mono ?_); rintro e w' ⟨rfl, rfl⟩)
      | (go_at_call 32; (with_reducible refine (HP.out _).mono ?_); rintro e w' ⟨rfl, rfl⟩)
      | (go_at_call 35; (with_reducible refine (HR.out _).mono ?_); rintro e w1 ⟨A1, l1, c1, rfl, n1, len1, s1, b1, _⟩
         have HT := Lib.hid (times_any l1 w1.heap.size A1 c1 w1 (by omega) (Nat.le_refl _) s1)
         have N1 := Lib.hid n1
         have B1 := Lib.hid b1
         clear n1 s1 b1)
      | (go_at_call 34; (with_reducible refine HT.out.mono ?_); rintro e w2 ⟨A2, l2, c2, rfl, n2, len2, s2, b2, cap2⟩
         rw [N1.out] at n2
         have HH := Lib.hid (half_any l2 w2.heap.size A2 c2 k w2 (by omega) cap2 P3.out P4.out (Nat.le_refl _) s2 (by rw [n2]; exact HSM.out))
         rw [n2, ← HZ.out] at HH
         have B2 := Lib.hid b2
         clear n2 s2 b2 len2 cap2)
      | (go_at_call 33; (with_reducible refine HH.out.mono ?_); rintro e w3 ⟨rfl, b3⟩
         have B3 := Lib.hid b3
         clear b3))
    go_ret2
    exact ⟨ret_ii hmn rfl, (B1.out.trans (B2.out.mono B1.out.size)).trans (B3.out.mono (Nat.le_trans B1.out.size B2.out.size))⟩
set_option maxHeartbeats 400000 in
theorem refFrom_any (x : Nat) (h : x < 18446744073709551616) (w : World) : Calls Try.prog 15 #[.float .f64 x] w (RFIs x w) := by
  cases hn : nanW x
  · rcases Nat.lt_or_ge (rg x) 4755801206503243776 with hl | hl
    · exact rf_near x h hl w
    · have s1 : fromT x = 0 := by unfold fromT; rw [if_neg (by rw [hn]; decide), if_pos hl]
      have s2 : fromE x = 34 := by unfold fromE; rw [if_neg (by rw [hn]; decide), if_pos hl]
      unfold RFIs
      rw [s1, s2]
      obtain ⟨k1, k2⟩ := far_cmp h hn
      have hN := fun w => none_any x h w
      rw [hn] at hN
      have HN := Lib.hid hN
      have hf := (sk_far (x := x)).1 hl
      clear s1 s2 hN hn h hl
      by_cases f1 : (4755801206503243776 : Int) ≤ sk x
      · rw [decide_eq_true f1] at k1
        clear k2 f1 hf
        go_enter Try.func15, Try.ntmps15
        go_wp2_with (go_at_call 31; (with_reducible refine (HN.out _).mono ?_); rintro e w' ⟨rfl, rfl⟩)
        go_ret2
        exact ⟨rfl, Below.refl _ _⟩
      · have f2 : sk x ≤ (-4755801206503243776 : Int) := by rcases hf with h | h; exact absurd h f1; exact h
        rw [decide_eq_false f1] at k1
        rw [decide_eq_true f2] at k2
        clear f1 f2 hf
        go_enter Try.func15, Try.ntmps15
        go_wp2_with (go_at_call 31; (with_reducible refine (HN.out _).mono ?_); rintro e w' ⟨rfl, rfl⟩)
        go_ret2
        exact ⟨rfl, Below.refl _ _⟩
  · have s1 : fromT x = 0 := by unfold fromT; rw [if_pos hn]
    have s2 : fromE x = 22 := by unfold fromE; rw [if_pos hn]
    unfold RFIs
    rw [s1, s2]
    have hN := fun w => none_any x h w
    rw [hn] at hN
    have HN := Lib.hid hN
    clear s1 s2 hN hn h
    go_enter Try.func15, Try.ntmps15
    go_wp2_with (go_at_call 31; (with_reducible refine (HN.out _).mono ?_); rintro e w' ⟨rfl, rfl⟩)
    go_ret2
    exact ⟨rfl, Below.refl _ _⟩
set_option maxHeartbeats 400000 in
theorem refResolve_any (x : Nat) (h : x < 18446744073709551616) (old now : Int) (w : World) : Calls Try.prog 17 #[.float .f64 x, .int .i64 old, .int .i64 now] w fun e w' => e = .returned (.tuple #[.int .i64 (resT x old now), .int .i64 (resE x)]) ∧ Below w.heap.size w w' := by
  have hN := fun w => none_any x h w
  have hF := fun w => refFrom_any x h w
  unfold RFIs at hF
  have HF := Lib.hid hF
  have hg := gtr_max h
  rw [inf_is h] at hg
  unfold resE resT
  cases hn : nanW x
  · have c4 := lt_zero h hn
    rw [hn] at hN
    have HN := Lib.hid hN
    by_cases hi : x = 9218868437227405312
    · have d : decide (x = 9218868437227405312) = true := by simpa using hi
      rw [d] at hg
      rw [if_pos hi, if_pos hi]
      clear hN hF hn c4 d hi h
      go_enter Try.func17, Try.ntmps17
      go_wp2_with (go_at_call 31; (with_reducible refine (HN.out _).mono ?_); rintro e w' ⟨rfl, rfl⟩)
      go_ret2
      exact ⟨rfl, Below.refl _ _⟩
    · have d : decide (x = 9218868437227405312) = false := by simpa using hi
      rw [d] at hg
      rw [if_neg hi, if_neg hi]
      by_cases hs : sk x < 0
      · have d2 : decide (sk x < 0) = true := by simpa using hs
        rw [d2] at c4
        rw [if_pos hs, if_pos hs]
        clear hN hF hn d d2 hi h hs
        go_enter Try.func17, Try.ntmps17
        go_wp2_with (go_at_call 31; (with_reducible refine (HN.out _).mono ?_); rintro e w' ⟨rfl, rfl⟩)
        go_ret2
        exact ⟨rfl, Below.refl _ _⟩
      · have d2 : decide (sk x < 0) = false := by simpa using hs
        rw [d2] at c4
        rw [if_neg hs, if_neg hs]
        generalize fromT x = ft at *
        generalize fromE x = fe at *
        clear hN hF hn d d2 hi h hs
        go_enter Try.func17, Try.ntmps17
        go_wp2_with (first
          | (go_at_call 31; (with_reducible refine (HN.out _).mono ?_); rintro e w' ⟨rfl, rfl⟩)
          | (go_at_call 15; (with_reducible refine (HF.out _).mono ?_); rintro e w' ⟨rfl, hb⟩))
        go_ret2
        exact ⟨rfl, hb⟩
  · rw [hn] at hN
    have HN := Lib.hid hN
    clear hN hF hn h hg
    go_enter Try.func17, Try.ntmps17
    go_wp2_with (go_at_call 31; (with_reducible refine (HN.out _).mono ?_); rintro e w' ⟨rfl, rfl⟩)
    go_ret2
    exact ⟨rfl, Below.refl _ _⟩
end Go.Proofs.Ythhihcmkjkofhaa.FRefFr
