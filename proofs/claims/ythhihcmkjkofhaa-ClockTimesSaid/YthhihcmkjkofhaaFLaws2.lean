/- The laws ClockRises, ClockSeconds, ClockOrders, walked. -/
import Derived.Test.YthhihcmkjkofhaaFRefC
namespace Go.Proofs.Ythhihcmkjkofhaa.FLaws2
open Go.RowKit FPlain FWord FNear FBits FMath FExp FLd FCut FNano FFrom FCmp FDiv FSec FAwake FFacts FLaws FRefC

theorem ord_le {x y : Nat} (hx : x < 18446744073709551616) (hy : y < 18446744073709551616) (h1 : nanW x = false) (h2 : nanW y = false) : (FloatKind.f64.format.order x y == some .lt || FloatKind.f64.format.order x y == some .eq) = decide (sk x ≤ sk y) := by
  rw [ord_lt hx hy h1 h2, ord_eq hx hy h1 h2, Bool.eq_iff_iff]
  simp only [Bool.or_eq_true, decide_eq_true_eq]
  omega
theorem ord_ge {x y : Nat} (hx : x < 18446744073709551616) (hy : y < 18446744073709551616) (h1 : nanW x = false) (h2 : nanW y = false) : (FloatKind.f64.format.order x y == some .gt || FloatKind.f64.format.order x y == some .eq) = decide (sk y ≤ sk x) := by
  rw [ord_gt hx hy h1 h2, ord_eq hx hy h1 h2, Bool.eq_iff_iff]
  simp only [Bool.or_eq_true, decide_eq_true_eq]
  omega
theorem E_zero {x : Nat} (h : fromE x = 0) : nanW x = false ∧ fromT x = timeOf x := by
  unfold fromE at h
  unfold fromT
  by_cases h1 : nanW x = true
  · rw [if_pos h1] at h; omega
  · rw [if_neg h1] at h ⊢
    by_cases h2 : 4755801206503243776 ≤ rg x
    · rw [if_pos h2] at h; omega
    · rw [if_neg h2]; exact ⟨by simpa using h1, rfl⟩
/-- no two floats have their times the other way about -/
theorem no_turn (f g : Nat) (hf : f < 18446744073709551616) (hg : g < 18446744073709551616) : (fromE f == 0 && fromE g == 0 && ((FloatKind.f64.format.order f g == some .lt || FloatKind.f64.format.order f g == some .eq) && decide (fromT g < fromT f) || (FloatKind.f64.format.order f g == some .gt || FloatKind.f64.format.order f g == some .eq) && decide (fromT f < fromT g))) = false := by
  by_cases e1 : fromE f = 0
  · by_cases e2 : fromE g = 0
    · obtain ⟨n1, t1⟩ := E_zero e1
      obtain ⟨n2, t2⟩ := E_zero e2
      rw [ord_le hf hg n1 n2, ord_ge hf hg n1 n2, t1, t2, Bool.eq_false_iff]
      have m1 := time_mono (x := f) (y := g)
      have m2 := time_mono (x := g) (y := f)
      simp only [ne_eq, Bool.and_eq_true, Bool.or_eq_true, decide_eq_true_eq, beq_iff_eq]
      rintro ⟨_, ⟨a, b⟩ | ⟨a, b⟩⟩
      · have := m1 a; omega
      · have := m2 a; omega
    · have : (fromE g == 0) = false := by simpa using e2
      rw [this]; simp
  · have : (fromE f == 0) = false := by simpa using e1
    rw [this]; simp
set_option maxHeartbeats 1000000 in
theorem rises_true (a b x y : Int) (a0 : -9223372036854775808 ≤ a) (a1 : a ≤ 9223372036854775807) (b0 : -9223372036854775808 ≤ b) (b1 : b ≤ 9223372036854775807) (x0 : 0 ≤ x) (x1 : x ≤ 18446744073709551615) (y0 : 0 ≤ y) (y1 : y ≤ 18446744073709551615) (w : World) :
    Calls Try.prog 6 #[.int .i64 a, .int .i64 b, .int .u64 x, .int .u64 y] w fun e w' => e = .returned (.bool true) ∧ Drew w w' := by
  obtain ⟨n, hx, hn, nb⟩ := toNat_of x0 x1
  obtain ⟨m, hy, hm, mb⟩ := toNat_of y0 y1
  have hw := Drew.refl w
  have HF := Lib.hid (fun b w hd => From_at n _ _ nb rfl rfl b w hd)
  have HG := Lib.hid (fun b w hd => From_at m _ _ mb rfl rfl b w hd)
  have hz := no_turn n m nb mb
  obtain ⟨s, hs⟩ : ∃ s, s = fromT n := ⟨_, rfl⟩
  obtain ⟨t, ht⟩ : ∃ t, t = fromT m := ⟨_, rfl⟩
  obtain ⟨e, he⟩ : ∃ e, e = fromE n := ⟨_, rfl⟩
  obtain ⟨h, hh⟩ : ∃ h, h = fromE m := ⟨_, rfl⟩
  obtain ⟨q1, hq1⟩ : ∃ q, (FloatKind.f64.format.order n m == some .lt || FloatKind.f64.format.order n m == some .eq) = q := ⟨_, rfl⟩
  obtain ⟨q2, hq2⟩ : ∃ q, (FloatKind.f64.format.order n m == some .gt || FloatKind.f64.format.order n m == some .eq) = q := ⟨_, rfl⟩
  rw [← hs, ← ht, ← he, ← hh, hq1, hq2] at hz
  rw [← hs, ← he] at HF
  rw [← ht, ← hh] at HG
  obtain ⟨q3, hq3⟩ : ∃ q, decide (t < s) = q := ⟨_, rfl⟩
  obtain ⟨q4, hq4⟩ : ∃ q, decide (s < t) = q := ⟨_, rfl⟩
  obtain ⟨q5, hq5⟩ : ∃ q, (e == 0) = q := ⟨_, rfl⟩
  obtain ⟨q6, hq6⟩ : ∃ q, (h == 0) = q := ⟨_, rfl⟩
  rw [hq3, hq4, hq5, hq6] at hz
  -- the lesser time, the greater one
  obtain ⟨lo, hi, hlh, d1, l1, l2, l3⟩ : ∃ lo hi : Int, ((decide (b < a) = true ∧ lo = b ∧ hi = a) ∨ (decide (b < a) = false ∧ lo = a ∧ hi = b)) ∧ lo ≤ hi ∧ -9223372036854775808 ≤ lo ∧ hi ≤ 9223372036854775807 ∧ True := by
    by_cases c : b < a
    · exact ⟨b, a, .inl ⟨by simpa using c, rfl, rfl⟩, by omega, by omega, by omega, trivial⟩
    · exact ⟨a, b, .inr ⟨by simpa using c, rfl, rfl⟩, by omega, by omega, by omega, trivial⟩
  obtain ⟨p1, p2, p3, p4⟩ := toW_parts lo (by omega) (by omega)
  obtain ⟨r1, r2, r3, r4⟩ := toW_parts hi (by omega) (by omega)
  have HT := Lib.hid (fun b w hd => To_at lo _ (by omega) (by omega) rfl b w hd)
  have HU := Lib.hid (fun b w hd => To_at hi _ (by omega) (by omega) rfl b w hd)
  have hle := ord_le p1 r1 p4 r4
  have hm1 := toW_mono (a := lo) (b := hi) (by omega) (by omega) d1
  have hdd : decide (sk (toW lo) ≤ sk (toW hi)) = true := by simpa using hm1
  rw [hdd] at hle
  generalize toW lo = u at *
  generalize toW hi = v at *
  have HZ := Lib.hid hz
  clear hdd hm1 p1 p2 p3 p4 r1 r2 r3 r4 hz hs ht he hh nb mb x0 x1 y0 y1 a0 a1 b0 b1 d1 l1 l2 l3
  rcases hlh with ⟨c, rfl, rfl⟩ | ⟨c, rfl, rfl⟩
  · go_enter Try.func6, Try.ntmps6
    go_wp2_with (first
      | (go_at_call 12; (with_reducible refine (awake_at w _ hw).mono ?_); clear hw; rintro e w' ⟨rfl, hw⟩)
      | (go_at_call 14; (with_reducible refine (HF.out w _ hw).mono ?_); clear hw; rintro e w' ⟨rfl, hw⟩)
      | (go_at_call 14; (with_reducible refine (HG.out w _ hw).mono ?_); clear hw; rintro e w' ⟨rfl, hw⟩)
      | (go_at_call 19; (with_reducible refine (HT.out w _ hw).mono ?_); clear hw; rintro e w' ⟨rfl, hw⟩)
      | (go_at_call 19; (with_reducible refine (HU.out w _ hw).mono ?_); clear hw; rintro e w' ⟨rfl, hw⟩))
    all_goals
      go_ret
      refine ⟨ret_b ?_, hw⟩
      first
        | rfl
        | (simp; done)
        | (exfalso; have hz := HZ.out; clear HZ HF HG HT HU; revert hz; simp [*]; done)
  · go_enter Try.func6, Try.ntmps6
    go_wp2_with (first
      | (go_at_call 12; (with_reducible refine (awake_at w _ hw).mono ?_); clear hw; rintro e w' ⟨rfl, hw⟩)
      | (go_at_call 14; (with_reducible refine (HF.out w _ hw).mono ?_); clear hw; rintro e w' ⟨rfl, hw⟩)
      | (go_at_call 14; (with_reducible refine (HG.out w _ hw).mono ?_); clear hw; rintro e w' ⟨rfl, hw⟩)
      | (go_at_call 19; (with_reducible refine (HT.out w _ hw).mono ?_); clear hw; rintro e w' ⟨rfl, hw⟩)
      | (go_at_call 19; (with_reducible refine (HU.out w _ hw).mono ?_); clear hw; rintro e w' ⟨rfl, hw⟩))
    all_goals
      go_ret
      refine ⟨ret_b ?_, hw⟩
      first
        | rfl
        | (simp; done)
        | (exfalso; have hz := HZ.out; clear HZ HF HG HT HU; revert hz; simp [*]; done)
theorem seconds_of (n : Int) (h1 : -8589934592 < n) (h2 : n < 8589934592) : ∃ y, Go.floatOfInt .f64 n = y ∧ y < 18446744073709551616 ∧ fromT y = n * 1000000000 ∧ fromE y = 0 ∧ toW (n * 1000000000) = y ∧ nanW y = false := by
  rcases Int.lt_trichotomy n 0 with hn | hn | hn
  · obtain ⟨m, hm⟩ : ∃ m : Nat, n = -(m : Int) := ⟨n.natAbs, by omega⟩
    obtain ⟨w1, w2, w3, w4⟩ := whole m (by omega) (by omega)
    refine ⟨_, rfl, ?_⟩
    rw [hm, ofInt_neg m (by omega) (by omega)]
    have e : -(m : Int) * 1000000000 = -((m * 1000000000 : Nat) : Int) := by omega
    rw [e]
    have hz : 0 < nr (m * 2 ^ un) 1 := by
      rcases Nat.eq_zero_or_pos (nr (m * 2 ^ un) 1) with h | h
      · rw [h, fromN_zero] at w4; omega
      · exact h
    have hT : toW (-((m * 1000000000 : Nat) : Int)) = 9223372036854775808 + nr (m * 2 ^ un) 1 := by
      unfold toW
      rw [if_pos (by omega), Int.natAbs_neg, Int.natAbs_natCast, w2]
    rw [hT]
    generalize nr (m * 2 ^ un) 1 = z at *
    have r1 : rg (9223372036854775808 + z) = z := by unfold rg; omega
    have s1 : sg (9223372036854775808 + z) = true := by unfold sg; simp
    have n1 : nanW (9223372036854775808 + z) = false := by unfold nanW; rw [r1]; simp; omega
    have k1 : sk (9223372036854775808 + z) = -(z : Int) := by unfold sk; rw [r1, s1]; simp
    refine ⟨by omega, ?_, ?_, rfl, n1⟩
    · unfold fromT timeOf; rw [n1, r1, k1, if_neg (by decide), if_neg (by omega), if_pos (by omega), w4]
    · unfold fromE; rw [n1, r1, if_neg (by decide), if_neg (by omega)]
  · subst hn
    refine ⟨0, by decide +kernel, by decide, by decide +kernel, by decide +kernel, by decide +kernel, by decide +kernel⟩
  · obtain ⟨m, hm⟩ : ∃ m : Nat, n = (m : Int) := ⟨n.natAbs, by omega⟩
    obtain ⟨w1, w2, w3, w4⟩ := whole m (by omega) (by omega)
    refine ⟨_, rfl, ?_⟩
    rw [hm, ofInt_pos m (by omega)]
    have e : (m : Int) * 1000000000 = ((m * 1000000000 : Nat) : Int) := by omega
    rw [e]
    have hT : toW ((m * 1000000000 : Nat) : Int) = nr (m * 2 ^ un) 1 := by
      unfold toW
      rw [if_neg (by omega), Int.natAbs_natCast, w2]
    rw [hT]
    generalize nr (m * 2 ^ un) 1 = z at *
    have r1 : rg z = z := rg_pos (by omega)
    have n1 : nanW z = false := nan_pos (by omega)
    have k1 : sk z = (z : Int) := sk_pos (by omega)
    refine ⟨by omega, ?_, ?_, rfl, n1⟩
    · unfold fromT timeOf; rw [n1, r1, k1, if_neg (by decide), if_neg (by omega), if_neg (by omega), w4]
    · unfold fromE; rw [n1, r1, if_neg (by decide), if_neg (by omega)]
theorem conv_i (n : Int) (w : World) : (convert 2 24 (.int .i64 n)).run Try.prog w = .ok (.float .f64 (Go.floatOfInt .f64 n)) w :=
  run_convert_int_float w _ _ .i64 .f64 _ (by kernel_rfl) (by kernel_rfl)
set_option maxHeartbeats 400000 in
theorem seconds_true (n : Int) (h0 : -9223372036854775808 ≤ n) (h1 : n ≤ 9223372036854775807) (w : World) : Calls Try.prog 9 #[.int .i64 n] w fun e w' => e = .returned (.bool true) ∧ Drew w w' := by
  have hw := Drew.refl w
  by_cases c1 : n ≤ -8589934592
  · have d1 : decide (n ≤ -8589934592) = true := by simpa using c1
    clear h0 h1 c1
    go_enter Try.func9, Try.ntmps9
    go_wp2_with (go_at_call 12; (with_reducible refine (awake_at w _ hw).mono ?_); clear hw; rintro e w' ⟨rfl, hw⟩)
    go_ret
    exact ⟨rfl, hw⟩
  · have d1 : decide (n ≤ -8589934592) = false := by simpa using c1
    by_cases c2 : 8589934592 ≤ n
    · have d2 : decide (8589934592 ≤ n) = true := by simpa using c2
      clear h0 h1 c1 c2
      go_enter Try.func9, Try.ntmps9
      go_wp2_with (go_at_call 12; (with_reducible refine (awake_at w _ hw).mono ?_); clear hw; rintro e w' ⟨rfl, hw⟩)
      go_ret
      exact ⟨rfl, hw⟩
    · have d2 : decide (8589934592 ≤ n) = false := by simpa using c2
      obtain ⟨y, y1, y2, y3, y4, y5, y6⟩ := seconds_of n (by omega) (by omega)
      have hc := fun w => conv_i n w
      rw [y1] at hc
      have g : wrap64 (n * 1000000000) = n * 1000000000 := wr (by omega)
      have HF := Lib.hid (fun b w hd => From_at y _ _ y2 y3 y4 b w hd)
      have HT := Lib.hid (fun b w hd => To_at (n * 1000000000) _ (by omega) (by omega) y5 b w hd)
      have ho : (FloatKind.f64.format.order y y == some .eq) = true := by rw [ord_eq y2 y2 y6 y6]; simp
      clear h0 h1 c1 c2 y1 y2 y3 y4 y5 y6
      go_enter Try.func9, Try.ntmps9
      go_wp2_with (first
        | (go_at_call 12; (with_reducible refine (awake_at w _ hw).mono ?_); clear hw; rintro e w' ⟨rfl, hw⟩)
        | (go_at_call 14; (with_reducible refine (HF.out w _ hw).mono ?_); clear hw; rintro e w' ⟨rfl, hw⟩)
        | (go_at_call 19; (with_reducible refine (HT.out w _ hw).mono ?_); clear hw; rintro e w' ⟨rfl, hw⟩))
      go_ret
      exact ⟨ret_b (by simp), hw⟩
theorem cmpI_self (a : Int) : cmpI a a = 0 := by unfold cmpI; simp
theorem cmpI_swap (a b : Int) : cmpI b a = -cmpI a b := by unfold cmpI; (repeat' split) <;> omega
theorem cmpI_zero {a b : Int} (h : cmpI a b = 0) : a = b := by unfold cmpI at h; (repeat' split at h) <;> omega
theorem cmpI_round {a b c : Int} (h1 : cmpI a b ≤ 0) (h2 : cmpI b c ≤ 0) : cmpI a c ≤ 0 := by
  unfold cmpI at *; (repeat' split at h1) <;> (repeat' split at h2) <;> (repeat' split) <;> omega
theorem cmpI_range (a b : Int) : -1 ≤ cmpI a b ∧ cmpI a b ≤ 1 := by unfold cmpI; (repeat' split) <;> omega
set_option maxHeartbeats 1000000 in
theorem orders_true (x y z : Int) (x0 : 0 ≤ x) (x1 : x ≤ 18446744073709551615) (y0 : 0 ≤ y) (y1 : y ≤ 18446744073709551615) (z0 : 0 ≤ z) (z1 : z ≤ 18446744073709551615) (w : World) :
    Calls Try.prog 5 #[.int .u64 x, .int .u64 y, .int .u64 z] w fun e w' => e = .returned (.bool true) ∧ Drew w w' := by
  obtain ⟨a, hx, hxn, ab⟩ := toNat_of x0 x1
  obtain ⟨b, hy, hyn, bb⟩ := toNat_of y0 y1
  obtain ⟨c, hz, hzn, cb⟩ := toNat_of z0 z1
  have hw := Drew.refl w
  have C1 := Lib.hid (fun w => Compare_at a b _ ab bb (cmp_key a b ab bb) w)
  have C2 := Lib.hid (fun w => Compare_at b c _ bb cb (cmp_key b c bb cb) w)
  have C3 := Lib.hid (fun w => Compare_at a c _ ab cb (cmp_key a c ab cb) w)
  have C4 := Lib.hid (fun w => Compare_at b a _ bb ab (cmp_key b a bb ab) w)
  have C5 := Lib.hid (fun w => Compare_at a a _ ab ab (cmp_key a a ab ab) w)
  have R1 := Lib.hid (fun w => refCompare_any a b ab bb w)
  have hr := cmpI_round (a := (keyN a : Nat)) (b := (keyN b : Nat)) (c := (keyN c : Nat))
  have hzero := fun h => cmp_zero a b ab bb (by have := cmpI_zero (a := (keyN a : Nat)) (b := (keyN b : Nat)) h; omega)
  rw [cmpI_swap (keyN a : Nat) (keyN b : Nat)] at C4
  rw [cmpI_self] at C5
  have na := neq_self ab
  have nb := neq_self bb
  have hrg := cmpI_range (keyN a : Nat) (keyN b : Nat)
  obtain ⟨k, hk⟩ : ∃ k, k = cmpI (keyN a : Nat) (keyN b : Nat) := ⟨_, rfl⟩
  obtain ⟨k2, hk2⟩ : ∃ k, k = cmpI (keyN b : Nat) (keyN c : Nat) := ⟨_, rfl⟩
  obtain ⟨k3, hk3⟩ : ∃ k, k = cmpI (keyN a : Nat) (keyN c : Nat) := ⟨_, rfl⟩
  rw [← hk] at C1 C4 R1 hr hzero hrg
  rw [← hk2] at C2 hr
  rw [← hk3] at C3 hr
  have g : wrap64 (-k) = -k := wr (by omega)
  -- what the last line says of equal ones
  have last : (k != 0 || a == b || nanW a && nanW b) = true := by
    by_cases hk0 : k = 0
    · rcases hzero hk0 with h | ⟨h1, h2⟩
      · simp [h]
      · simp [h1, h2]
    · simp [hk0]
  obtain ⟨p, hp⟩ : ∃ p, nanW a = p := ⟨_, rfl⟩
  obtain ⟨q, hq⟩ : ∃ q, nanW b = q := ⟨_, rfl⟩
  rw [hp] at na last
  rw [hq] at nb last
  have HL := Lib.hid last
  have HR := Lib.hid hr
  clear hr hzero hk hk2 hk3 hp hq last hrg ab bb cb x0 x1 y0 y1 z0 z1
  by_cases c1 : k ≤ 0
  · have d1 : decide (k ≤ 0) = true := by simpa using c1
    by_cases c2 : k2 ≤ 0
    · have d2 : decide (k2 ≤ 0) = true := by simpa using c2
      have d3 : decide (0 < k3) = false := by have := HR.out c1 c2; simp; omega
      clear HR c1 c2
      go_enter Try.func5, Try.ntmps5
      go_wp2_with (first
        | (go_at_call 12; (with_reducible refine (awake_at w _ hw).mono ?_); clear hw; rintro e w' ⟨rfl, hw⟩)
        | (go_at_call 21; (with_reducible refine (C1.out _).mono ?_); rintro e w' ⟨rfl, rfl⟩)
        | (go_at_call 21; (with_reducible refine (C2.out _).mono ?_); rintro e w' ⟨rfl, rfl⟩)
        | (go_at_call 21; (with_reducible refine (C3.out _).mono ?_); rintro e w' ⟨rfl, rfl⟩)
        | (go_at_call 21; (with_reducible refine (C4.out _).mono ?_); rintro e w' ⟨rfl, rfl⟩)
        | (go_at_call 21; (with_reducible refine (C5.out _).mono ?_); rintro e w' ⟨rfl, rfl⟩)
        | (go_at_call 22; (with_reducible refine (R1.out _).mono ?_); rintro e w' ⟨rfl, rfl⟩))
      all_goals
        go_ret
        refine ⟨ret_b ?_, hw⟩
        first
          | rfl
          | (simp; done)
          | (have h := HL.out; clear HL C1 C2 C3 C4 C5 R1; revert h; simp [*]; done)
          | (have h := HL.out; clear HL C1 C2 C3 C4 C5 R1; simp_all; done)
          | (rename_i e1 e2 e3; have n2 : ¬ a = b := (fun e => e2 (by rw [e])); have h := HL.out; simp [e1, n2, e3] at h; simp [h]; done)
    · have d2 : decide (k2 ≤ 0) = false := by simpa using c2
      clear HR c1 c2
      go_enter Try.func5, Try.ntmps5
      go_wp2_with (first
        | (go_at_call 12; (with_reducible refine (awake_at w _ hw).mono ?_); clear hw; rintro e w' ⟨rfl, hw⟩)
        | (go_at_call 21; (with_reducible refine (C1.out _).mono ?_); rintro e w' ⟨rfl, rfl⟩)
        | (go_at_call 21; (with_reducible refine (C2.out _).mono ?_); rintro e w' ⟨rfl, rfl⟩)
        | (go_at_call 21; (with_reducible refine (C3.out _).mono ?_); rintro e w' ⟨rfl, rfl⟩)
        | (go_at_call 21; (with_reducible refine (C4.out _).mono ?_); rintro e w' ⟨rfl, rfl⟩)
        | (go_at_call 21; (with_reducible refine (C5.out _).mono ?_); rintro e w' ⟨rfl, rfl⟩)
        | (go_at_call 22; (with_reducible refine (R1.out _).mono ?_); rintro e w' ⟨rfl, rfl⟩))
      all_goals
        go_ret
        refine ⟨ret_b ?_, hw⟩
        first
          | rfl
          | (simp; done)
          | (have h := HL.out; clear HL C1 C2 C3 C4 C5 R1; revert h; simp [*]; done)
          | (have h := HL.out; clear HL C1 C2 C3 C4 C5 R1; simp_all; done)
          | (rename_i e1 e2 e3; have n2 : ¬ a = b := (fun e => e2 (by rw [e])); have h := HL.out; simp [e1, n2, e3] at h; simp [h]; done)
  · have d1 : decide (k ≤ 0) = false := by simpa using c1
    clear HR c1
    go_enter Try.func5, Try.ntmps5
    go_wp2_with (first
      | (go_at_call 12; (with_reducible refine (awake_at w _ hw).mono ?_); clear hw; rintro e w' ⟨rfl, hw⟩)
      | (go_at_call 21; (with_reducible refine (C1.out _).mono ?_); rintro e w' ⟨rfl, rfl⟩)
      | (go_at_call 21; (with_reducible refine (C2.out _).mono ?_); rintro e w' ⟨rfl, rfl⟩)
      | (go_at_call 21; (with_reducible refine (C3.out _).mono ?_); rintro e w' ⟨rfl, rfl⟩)
      | (go_at_call 21; (with_reducible refine (C4.out _).mono ?_); rintro e w' ⟨rfl, rfl⟩)
      | (go_at_call 21; (with_reducible refine (C5.out _).mono ?_); rintro e w' ⟨rfl, rfl⟩)
      | (go_at_call 22; (with_reducible refine (R1.out _).mono ?_); rintro e w' ⟨rfl, rfl⟩))
    all_goals
      go_ret
      refine ⟨ret_b ?_, hw⟩
      first
        | rfl
        | (simp; done)
        | (have h := HL.out; clear HL C1 C2 C3 C4 C5 R1; revert h; simp [*]; done)
        | (have h := HL.out; clear HL C1 C2 C3 C4 C5 R1; simp_all; done)
        | (rename_i e1 e2 e3; have n2 : ¬ a = b := (fun e => e2 (by rw [e])); have h := HL.out; simp [e1, n2, e3] at h; simp [h]; done)
end Go.Proofs.Ythhihcmkjkofhaa.FLaws2
