/- The laws ClockSign, ClockMeans, ClockNear, ClockBack, walked. -/
import Derived.Test.YthhihcmkjkofhaaFFacts
namespace Go.Proofs.Ythhihcmkjkofhaa.FLaws
open Go.RowKit FPlain FWord FNear FBits FMath FExp FLd FCut FNano FFrom FCmp FDiv FSec FAwake FFacts

theorem awake_at (b w : World) (hb : Drew b w) : Calls Try.prog 12 #[] w fun e w' => e = .returned (.bool true) ∧ Drew b w' := by
  refine (awake_any w).mono ?_
  rintro e w' ⟨rfl, h⟩
  exact ⟨rfl, hb.trans h⟩
theorem toNat_of {x : Int} (h0 : 0 ≤ x) (h1 : x ≤ 18446744073709551615) : ∃ n : Nat, x = n ∧ x.toNat = n ∧ n < 18446744073709551616 := ⟨x.toNat, by omega, rfl, by omega⟩
set_option maxHeartbeats 400000 in
theorem sign_true (x : Int) (h0 : 0 ≤ x) (h1 : x ≤ 18446744073709551615) (w : World) : Calls Try.prog 8 #[.int .u64 x] w fun e w' => e = .returned (.bool true) ∧ Drew w w' := by
  obtain ⟨n, hx, hn, hb⟩ := toNat_of h0 h1
  obtain ⟨y, y1, y2, y3, y4, y5, y6⟩ := neg_parts n hb
  have hw := Drew.refl w
  have HF := Lib.hid (fun b w hd => From_at n _ _ hb rfl rfl b w hd)
  have HG := Lib.hid (fun b w hd => From_at y _ _ y2 rfl rfl b w hd)
  have hm : wrap64 (-fromT y) = -fromT y := wr (by omega)
  rw [y3] at HG
  rw [y4] at HF
  generalize fromT y = t at *
  generalize fromE n = e at *
  clear y2 y3 y4 y5 y6 hb h0 h1
  go_enter Try.func8, Try.ntmps8
  go_wp2_with (first
    | (go_at_call 12; (with_reducible refine (awake_at w _ hw).mono ?_); clear hw; rintro e w' ⟨rfl, hw⟩)
    | (go_at_call 14; (with_reducible refine (HF.out w _ hw).mono ?_); clear hw; rintro e w' ⟨rfl, hw⟩)
    | (go_at_call 14; (with_reducible refine (HG.out w _ hw).mono ?_); clear hw; rintro e w' ⟨rfl, hw⟩))
  go_ret
  exact ⟨ret_b (by simp), hw⟩
theorem E_cases (x : Nat) : fromE x = 0 ∨ fromE x = 22 ∨ fromE x = 34 := by unfold fromE; (repeat' split) <;> simp
theorem T_zero {x : Nat} (h : fromE x ≠ 0) : fromT x = 0 := by
  unfold fromE at h
  unfold fromT
  by_cases h1 : nanW x = true
  · rw [if_pos h1]
  · rw [if_neg h1] at h ⊢
    by_cases h2 : 4755801206503243776 ≤ rg x
    · rw [if_pos h2]
    · rw [if_neg h2] at h; exact absurd rfl h
theorem T_bound (x : Nat) : -9000000000000000000 ≤ fromT x ∧ fromT x ≤ 9000000000000000000 := by
  unfold fromT
  by_cases h1 : nanW x = true
  · rw [if_pos h1]; omega
  · rw [if_neg h1]
    by_cases h2 : 4755801206503243776 ≤ rg x
    · rw [if_pos h2]; omega
    · rw [if_neg h2]
      have := fromN_le (x := rg x) (by omega)
      unfold timeOf
      split <;> omega
/-- what a caller's time means, in cases -/
theorem means (x : Nat) (old now : Int) :
    (nanW x = true ∧ resE x = 0 ∧ resT x old now = old) ∨
    (nanW x = false ∧ x = 9218868437227405312 ∧ resE x = 0 ∧ resT x old now = now) ∨
    (nanW x = false ∧ x ≠ 9218868437227405312 ∧ resE x = 0 ∧ resT x old now = fromT x ∧ fromE x = 0 ∧ 0 ≤ fromT x) ∨
    (resE x = 22 ∧ resT x old now = 0) ∨ (resE x = 34 ∧ resT x old now = 0) := by
  unfold resE resT
  by_cases h1 : nanW x = true
  · left; rw [if_pos h1, if_pos h1]; exact ⟨h1, rfl, rfl⟩
  · rw [if_neg h1, if_neg h1]
    have h1' : nanW x = false := by simpa using h1
    right
    by_cases h2 : x = 9218868437227405312
    · left; rw [if_pos h2, if_pos h2]; exact ⟨h1', h2, rfl, rfl⟩
    · rw [if_neg h2, if_neg h2]
      right
      by_cases h3 : sk x < 0
      · right; left; rw [if_pos h3, if_pos h3]; exact ⟨rfl, rfl⟩
      · rw [if_neg h3, if_neg h3]
        rcases E_cases x with e | e | e
        · left
          refine ⟨h1', h2, e, rfl, e, ?_⟩
          unfold fromE at e
          unfold fromT
          rw [if_neg h1] at e ⊢
          by_cases h4 : 4755801206503243776 ≤ rg x
          · rw [if_pos h4]; omega
          · rw [if_neg h4]; unfold timeOf; rw [if_neg h3]; omega
        · right; left; exact ⟨e, T_zero (by omega)⟩
        · right; right; exact ⟨e, T_zero (by omega)⟩
set_option maxHeartbeats 400000 in
theorem means_true (x old now : Int) (h0 : 0 ≤ x) (h1 : x ≤ 18446744073709551615) (w : World) : Calls Try.prog 11 #[.int .u64 x, .int .i64 old, .int .i64 now] w fun e w' => e = .returned (.bool true) ∧ Drew w w' := by
  obtain ⟨n, hx, hn, hb⟩ := toNat_of h0 h1
  have hw := Drew.refl w
  have HR := Lib.hid (fun b w hd => Resolve_at n _ _ hb old now rfl rfl b w hd)
  have HF := Lib.hid (fun b w hd => From_at n _ _ hb rfl rfl b w hd)
  have hI := fun w => IsInf_one n hb w
  simp only [inf_is hb] at hI
  have hN := neq_self hb
  rcases means n old now with ⟨a1, a2, a3⟩ | ⟨a1, a2, a3, a4⟩ | ⟨a1, a2, a3, a4, a5, a6⟩ | ⟨a2, a3⟩ | ⟨a2, a3⟩
  · rw [a1] at hN
    rw [a2, a3] at HR
    clear h0 h1 hb hI a1 a2 a3
    go_enter Try.func11, Try.ntmps11
    go_wp2_with (first
      | (go_at_call 12; (with_reducible refine (awake_at w _ hw).mono ?_); clear hw; rintro e w' ⟨rfl, hw⟩)
      | (go_at_call 16; (with_reducible refine (HR.out w _ hw).mono ?_); clear hw; rintro e w' ⟨rfl, hw⟩))
    go_ret
    exact ⟨ret_b (by simp), hw⟩
  · rw [a1] at hN
    rw [a3, a4] at HR
    have d : decide (n = 9218868437227405312) = true := by simpa using a2
    rw [d] at hI
    have HI := Lib.hid hI
    clear h0 h1 hb hI a1 a2 a3 a4 d
    go_enter Try.func11, Try.ntmps11
    go_wp2_with (first
      | (go_at_call 12; (with_reducible refine (awake_at w _ hw).mono ?_); clear hw; rintro e w' ⟨rfl, hw⟩)
      | (go_at_call 16; (with_reducible refine (HR.out w _ hw).mono ?_); clear hw; rintro e w' ⟨rfl, hw⟩)
      | (go_at_call 23; refine (HI.out _).mono ?_; rintro e w' ⟨rfl, rfl⟩))
    go_ret
    exact ⟨ret_b (by simp), hw⟩
  · rw [a1] at hN
    rw [a3, a4] at HR
    rw [a5] at HF
    have d : decide (n = 9218868437227405312) = false := by simpa using a2
    rw [d] at hI
    have HI := Lib.hid hI
    generalize fromT n = t at *
    have d2 : decide (0 ≤ t) = true := by simpa using a6
    clear h0 h1 hb hI a1 a2 a3 a4 a5 a6 d
    go_enter Try.func11, Try.ntmps11
    go_wp2_with (first
      | (go_at_call 12; (with_reducible refine (awake_at w _ hw).mono ?_); clear hw; rintro e w' ⟨rfl, hw⟩)
      | (go_at_call 16; (with_reducible refine (HR.out w _ hw).mono ?_); clear hw; rintro e w' ⟨rfl, hw⟩)
      | (go_at_call 14; (with_reducible refine (HF.out w _ hw).mono ?_); clear hw; rintro e w' ⟨rfl, hw⟩)
      | (go_at_call 23; refine (HI.out _).mono ?_; rintro e w' ⟨rfl, rfl⟩))
    go_ret
    exact ⟨ret_b (by simp), hw⟩
  · rw [a2, a3] at HR
    clear h0 h1 hb hI a2 a3 hN
    go_enter Try.func11, Try.ntmps11
    go_wp2_with (first
      | (go_at_call 12; (with_reducible refine (awake_at w _ hw).mono ?_); clear hw; rintro e w' ⟨rfl, hw⟩)
      | (go_at_call 16; (with_reducible refine (HR.out w _ hw).mono ?_); clear hw; rintro e w' ⟨rfl, hw⟩))
    go_ret
    exact ⟨ret_b (by simp), hw⟩
  · rw [a2, a3] at HR
    clear h0 h1 hb hI a2 a3 hN
    go_enter Try.func11, Try.ntmps11
    go_wp2_with (first
      | (go_at_call 12; (with_reducible refine (awake_at w _ hw).mono ?_); clear hw; rintro e w' ⟨rfl, hw⟩)
      | (go_at_call 16; (with_reducible refine (HR.out w _ hw).mono ?_); clear hw; rintro e w' ⟨rfl, hw⟩))
    go_ret
    exact ⟨ret_b (by simp), hw⟩
set_option maxHeartbeats 400000 in
theorem near_true (x : Int) (h0 : 0 ≤ x) (h1 : x ≤ 18446744073709551615) (w : World) : Calls Try.prog 10 #[.int .u64 x] w fun e w' => e = .returned (.bool true) ∧ Drew w w' := by
  obtain ⟨n, hx, hn, hb⟩ := toNat_of h0 h1
  have hw := Drew.refl w
  have HF := Lib.hid (fun b w hd => From_at n _ _ hb rfl rfl b w hd)
  obtain ⟨t1, t2⟩ := T_bound n
  obtain ⟨t, ht⟩ : ∃ t, t = fromT n := ⟨_, rfl⟩
  obtain ⟨e, he⟩ : ∃ e, e = fromE n := ⟨_, rfl⟩
  rw [← ht, ← he] at HF
  rw [← ht] at t1 t2
  by_cases hc : e = 0 ∧ t < 4503599627370496 ∧ -4503599627370496 < t
  · obtain ⟨c1, c2, c3⟩ := hc
    obtain ⟨p1, p2, p3, p4⟩ := toW_parts t (by omega) (by omega)
    have HT := Lib.hid (fun b w hd => To_at t _ (by omega) (by omega) rfl b w hd)
    obtain ⟨b1, b2⟩ := back t c3 c2
    have HG := Lib.hid (fun b w hd => From_at (toW t) _ _ p1 b1 b2 b w hd)
    have d1 : decide (4503599627370496 ≤ t) = false := by simp; omega
    have d2 : decide (t ≤ -4503599627370496) = false := by simp; omega
    subst c1
    generalize toW t = y at *
    clear h0 h1 hb t1 t2 ht he c2 c3 p1 p2 p3 p4 b1 b2
    go_enter Try.func10, Try.ntmps10
    go_wp2_with (first
      | (go_at_call 12; (with_reducible refine (awake_at w _ hw).mono ?_); clear hw; rintro e w' ⟨rfl, hw⟩)
      | (go_at_call 14; (with_reducible refine (HF.out w _ hw).mono ?_); clear hw; rintro e w' ⟨rfl, hw⟩)
      | (go_at_call 14; (with_reducible refine (HG.out w _ hw).mono ?_); clear hw; rintro e w' ⟨rfl, hw⟩)
      | (go_at_call 19; (with_reducible refine (HT.out w _ hw).mono ?_); clear hw; rintro e w' ⟨rfl, hw⟩))
    go_ret
    exact ⟨ret_b (by simp), hw⟩
  · by_cases c1 : e = 0
    · subst c1
      by_cases c2 : 4503599627370496 ≤ t
      · have d1 : decide (4503599627370496 ≤ t) = true := by simpa using c2
        clear h0 h1 hb t1 t2 ht he hc c2
        go_enter Try.func10, Try.ntmps10
        go_wp2_with (first
          | (go_at_call 12; (with_reducible refine (awake_at w _ hw).mono ?_); clear hw; rintro e w' ⟨rfl, hw⟩)
          | (go_at_call 14; (with_reducible refine (HF.out w _ hw).mono ?_); clear hw; rintro e w' ⟨rfl, hw⟩))
        go_ret
        exact ⟨rfl, hw⟩
      · have d1 : decide (4503599627370496 ≤ t) = false := by simpa using c2
        have d2 : decide (t ≤ -4503599627370496) = true := by simp; omega
        clear h0 h1 hb t1 t2 ht he hc c2
        go_enter Try.func10, Try.ntmps10
        go_wp2_with (first
          | (go_at_call 12; (with_reducible refine (awake_at w _ hw).mono ?_); clear hw; rintro e w' ⟨rfl, hw⟩)
          | (go_at_call 14; (with_reducible refine (HF.out w _ hw).mono ?_); clear hw; rintro e w' ⟨rfl, hw⟩))
        go_ret
        exact ⟨rfl, hw⟩
    · have d1 : (e != 0) = true := by simpa using c1
      clear h0 h1 hb t1 t2 ht he hc c1
      go_enter Try.func10, Try.ntmps10
      go_wp2_with (first
        | (go_at_call 12; (with_reducible refine (awake_at w _ hw).mono ?_); clear hw; rintro e w' ⟨rfl, hw⟩)
        | (go_at_call 14; (with_reducible refine (HF.out w _ hw).mono ?_); clear hw; rintro e w' ⟨rfl, hw⟩))
      go_ret
      exact ⟨rfl, hw⟩
set_option maxHeartbeats 400000 in
theorem back_true (ns : Int) (h0 : -9223372036854775808 ≤ ns) (h1 : ns ≤ 9223372036854775807) (w : World) : Calls Try.prog 7 #[.int .i64 ns] w fun e w' => e = .returned (.bool true) ∧ Drew w w' := by
  have hw := Drew.refl w
  by_cases c1 : ns ≤ -4503599627370496
  · have d1 : decide (ns ≤ -4503599627370496) = true := by simpa using c1
    clear h0 h1 c1
    go_enter Try.func7, Try.ntmps7
    go_wp2_with (go_at_call 12; (with_reducible refine (awake_at w _ hw).mono ?_); clear hw; rintro e w' ⟨rfl, hw⟩)
    go_ret
    exact ⟨rfl, hw⟩
  · have d1 : decide (ns ≤ -4503599627370496) = false := by simpa using c1
    by_cases c2 : 4503599627370496 ≤ ns
    · have d2 : decide (4503599627370496 ≤ ns) = true := by simpa using c2
      clear h0 h1 c1 c2
      go_enter Try.func7, Try.ntmps7
      go_wp2_with (go_at_call 12; (with_reducible refine (awake_at w _ hw).mono ?_); clear hw; rintro e w' ⟨rfl, hw⟩)
      go_ret
      exact ⟨rfl, hw⟩
    · have d2 : decide (4503599627370496 ≤ ns) = false := by simpa using c2
      obtain ⟨p1, p2, p3, p4⟩ := toW_parts ns (by omega) (by omega)
      have HT := Lib.hid (fun b w hd => To_at ns _ (by omega) (by omega) rfl b w hd)
      obtain ⟨b1, b2⟩ := back ns (by omega) (by omega)
      have HG := Lib.hid (fun b w hd => From_at (toW ns) _ _ p1 b1 b2 b w hd)
      generalize toW ns = y at *
      clear h0 h1 c1 c2 p1 p2 p3 p4 b1 b2
      go_enter Try.func7, Try.ntmps7
      go_wp2_with (first
        | (go_at_call 12; (with_reducible refine (awake_at w _ hw).mono ?_); clear hw; rintro e w' ⟨rfl, hw⟩)
        | (go_at_call 14; (with_reducible refine (HG.out w _ hw).mono ?_); clear hw; rintro e w' ⟨rfl, hw⟩)
        | (go_at_call 19; (with_reducible refine (HT.out w _ hw).mono ?_); clear hw; rintro e w' ⟨rfl, hw⟩))
      go_ret
      exact ⟨ret_b (by simp), hw⟩
end Go.Proofs.Ythhihcmkjkofhaa.FLaws
