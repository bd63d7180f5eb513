/- clock.Compare. -/
import Derived.Test.YthhihcmkjkofhaaFFrom
namespace Go.Proofs.Ythhihcmkjkofhaa.FCmp
open Go.RowKit FPlain FWord FNear FBits FMath FExp FLd FCut FNano FFrom

def lastV (x : Nat) : Int := if nanW x then 1 else 0
def sideV (x : Nat) : Int := if sg x then -1 else 1
def cmpV (x y : Nat) : Int := if nanW x || nanW y then cmpI (lastV x) (lastV y) else if sk x = sk y then cmpI (sideV x) (sideV y) else if sk x < sk y then -1 else 1
theorem ord_lt {x y : Nat} (hx : x < 18446744073709551616) (hy : y < 18446744073709551616) (h1 : nanW x = false) (h2 : nanW y = false) : (FloatKind.f64.format.order x y == some .lt) = decide (sk x < sk y) := by
  show (Ieee.double.order x y == some .lt) = _
  rw [order_num hx hy h1 h2, cmp_lt]
theorem ord_gt {x y : Nat} (hx : x < 18446744073709551616) (hy : y < 18446744073709551616) (h1 : nanW x = false) (h2 : nanW y = false) : (FloatKind.f64.format.order x y == some .gt) = decide (sk y < sk x) := by
  show (Ieee.double.order x y == some .gt) = _
  rw [order_num hx hy h1 h2, cmp_gt]
theorem ord_ne {x y : Nat} (hx : x < 18446744073709551616) (hy : y < 18446744073709551616) (h1 : nanW x = false) (h2 : nanW y = false) : (FloatKind.f64.format.order x y != some .eq) = decide (sk x ≠ sk y) := by
  show (!(Ieee.double.order x y == some .eq)) = _
  rw [order_num hx hy h1 h2, cmp_eq]
  simp
theorem ord_eq {x y : Nat} (hx : x < 18446744073709551616) (hy : y < 18446744073709551616) (h1 : nanW x = false) (h2 : nanW y = false) : (FloatKind.f64.format.order x y == some .eq) = decide (sk x = sk y) := by
  show (Ieee.double.order x y == some .eq) = _
  rw [order_num hx hy h1 h2, cmp_eq]
theorem ret_i {a b : Int} (h : a = b) : Ending.returned (.int .i64 a) = .returned (.int .i64 b) := by rw [h]
theorem last_any (x : Nat) (h : x < 18446744073709551616) (w : World) : Calls Try.prog 41 #[.float .f64 x] w fun e w' => e = .returned (.int .i64 (lastV x)) ∧ w = w' := by
  have hN := fun w => IsNaN_any x h w
  unfold lastV
  cases hn : nanW x
  · rw [hn] at hN
    go_enter Try.func41, Try.ntmps41
    go_wp2_with (go_at_call 28; refine (hN _).mono ?_; rintro e w' ⟨rfl, rfl⟩)
    go_ret
    exact ⟨rfl, rfl⟩
  · rw [hn] at hN
    go_enter Try.func41, Try.ntmps41
    go_wp2_with (go_at_call 28; refine (hN _).mono ?_; rintro e w' ⟨rfl, rfl⟩)
    go_ret
    exact ⟨rfl, rfl⟩
theorem side_any (x : Nat) (h : x < 18446744073709551616) (w : World) : Calls Try.prog 43 #[.float .f64 x] w fun e w' => e = .returned (.int .i64 (sideV x)) ∧ w = w' := by
  have hN := fun w => Signbit_any x h w
  unfold sideV
  cases hn : sg x
  · rw [hn] at hN
    go_enter Try.func43, Try.ntmps43
    go_wp2_with (go_at_call 57; refine (hN _).mono ?_; rintro e w' ⟨rfl, rfl⟩)
    go_ret
    exact ⟨rfl, rfl⟩
  · rw [hn] at hN
    go_enter Try.func43, Try.ntmps43
    go_wp2_with (go_at_call 57; refine (hN _).mono ?_; rintro e w' ⟨rfl, rfl⟩)
    go_ret
    exact ⟨rfl, rfl⟩
theorem isNaN_f (x : Nat) (h : x < 18446744073709551616) (w : World) : Calls Try.prog 56 #[.float .f64 x] w fun e w' => e = .returned (.bool (nanW x)) ∧ w = w' := by
  have e := neq_self h
  go_enter Try.func56, Try.ntmps56
  go_wp2
  go_ret
  exact ⟨rfl, rfl⟩
set_option maxHeartbeats 400000 in
theorem Compare_f (x y : Nat) (hx : x < 18446744073709551616) (hy : y < 18446744073709551616) (h1 : nanW x = false) (h2 : nanW y = false) (hne : sk x ≠ sk y) (w : World) :
    Calls Try.prog 42 #[.float .f64 x, .float .f64 y] w fun e w' => e = .returned (.int .i64 (if sk x < sk y then -1 else 1)) ∧ w = w' := by
  have n1 := fun w => isNaN_f x hx w
  have n2 := fun w => isNaN_f y hy w
  rw [h1] at n1
  rw [h2] at n2
  have c1 := ord_lt hx hy h1 h2
  have c2 := ord_gt hx hy h1 h2
  have N1 := Lib.hid n1
  have N2 := Lib.hid n2
  by_cases hs : sk x < sk y
  · have d : decide (sk x < sk y) = true := by simpa using hs
    rw [d] at c1
    rw [if_pos hs]
    clear n1 n2 c2 h1 h2 hne hs d hx hy
    go_enter Try.func42, Try.ntmps42
    go_wp2_with (first
      | (go_at_call 56; refine (N1.out _).mono ?_; rintro e w' ⟨rfl, rfl⟩)
      | (go_at_call 56; refine (N2.out _).mono ?_; rintro e w' ⟨rfl, rfl⟩))
    go_ret
    exact ⟨rfl, rfl⟩
  · have d : decide (sk x < sk y) = false := by simpa using hs
    have d2 : decide (sk y < sk x) = true := by simp; omega
    rw [d] at c1
    rw [d2] at c2
    rw [if_neg hs]
    clear n1 n2 h1 h2 hne hs d d2 hx hy
    go_enter Try.func42, Try.ntmps42
    go_wp2_with (first
      | (go_at_call 56; refine (N1.out _).mono ?_; rintro e w' ⟨rfl, rfl⟩)
      | (go_at_call 56; refine (N2.out _).mono ?_; rintro e w' ⟨rfl, rfl⟩))
    go_ret
    exact ⟨rfl, rfl⟩
set_option maxHeartbeats 400000 in
theorem Compare_any (x y : Nat) (hx : x < 18446744073709551616) (hy : y < 18446744073709551616) (w : World) :
    Calls Try.prog 21 #[.float .f64 x, .float .f64 y] w fun e w' => e = .returned (.int .i64 (cmpV x y)) ∧ w = w' := by
  have n1 := fun w => IsNaN_any x hx w
  have n2 := fun w => IsNaN_any y hy w
  have l1 := fun w => last_any x hx w
  have l2 := fun w => last_any y hy w
  have s1 := fun w => side_any x hx w
  have s2 := fun w => side_any y hy w
  have L1 := Lib.hid l1
  have L2 := Lib.hid l2
  have S1 := Lib.hid s1
  have S2 := Lib.hid s2
  have CI := Lib.hid (fun a b w => Compare_int a b w)
  unfold cmpV
  cases h1 : nanW x
  · rw [h1] at n1
    have N1 := Lib.hid n1
    cases h2 : nanW y
    · rw [h2] at n2
      have N2 := Lib.hid n2
      have c0 := ord_ne hx hy h1 h2
      by_cases hs : sk x = sk y
      · have d : decide (sk x ≠ sk y) = false := by simpa using hs
        rw [d] at c0
        simp only [Bool.or_self, Bool.false_eq_true, if_false, if_pos hs]
        clear n1 n2 l1 l2 s1 s2 h1 h2 hs d hx hy
        go_enter Try.func21, Try.ntmps21
        go_wp2_with (first
          | (go_at_call 28; refine (N1.out _).mono ?_; rintro e w' ⟨rfl, rfl⟩)
          | (go_at_call 28; refine (N2.out _).mono ?_; rintro e w' ⟨rfl, rfl⟩)
          | (go_at_call 43; refine (S1.out _).mono ?_; rintro e w' ⟨rfl, rfl⟩)
          | (go_at_call 43; refine (S2.out _).mono ?_; rintro e w' ⟨rfl, rfl⟩)
          | (go_at_call 40; refine (CI.out _ _ _).mono ?_; rintro e w' ⟨rfl, rfl⟩))
        go_ret
        exact ⟨rfl, rfl⟩
      · have d : decide (sk x ≠ sk y) = true := by simpa using hs
        rw [d] at c0
        have F := Lib.hid (fun w => Compare_f x y hx hy h1 h2 hs w)
        simp only [Bool.or_self, Bool.false_eq_true, if_false, if_neg hs]
        clear n1 n2 l1 l2 s1 s2 h1 h2 hs d hx hy
        go_enter Try.func21, Try.ntmps21
        go_wp2_with (first
          | (go_at_call 28; refine (N1.out _).mono ?_; rintro e w' ⟨rfl, rfl⟩)
          | (go_at_call 28; refine (N2.out _).mono ?_; rintro e w' ⟨rfl, rfl⟩)
          | (go_at_call 42; refine (F.out _).mono ?_; rintro e w' ⟨rfl, rfl⟩))
        all_goals
          go_ret
          exact ⟨rfl, rfl⟩
    · rw [h2] at n2
      have N2 := Lib.hid n2
      simp only [Bool.or_true, if_true]
      clear n1 n2 l1 l2 s1 s2 h1 h2 hx hy
      go_enter Try.func21, Try.ntmps21
      go_wp2_with (first
        | (go_at_call 28; refine (N1.out _).mono ?_; rintro e w' ⟨rfl, rfl⟩)
        | (go_at_call 28; refine (N2.out _).mono ?_; rintro e w' ⟨rfl, rfl⟩)
        | (go_at_call 41; refine (L1.out _).mono ?_; rintro e w' ⟨rfl, rfl⟩)
        | (go_at_call 41; refine (L2.out _).mono ?_; rintro e w' ⟨rfl, rfl⟩)
        | (go_at_call 40; refine (CI.out _ _ _).mono ?_; rintro e w' ⟨rfl, rfl⟩))
      go_ret
      exact ⟨rfl, rfl⟩
  · rw [h1] at n1
    have N1 := Lib.hid n1
    simp only [Bool.true_or, if_true]
    clear n1 n2 l1 l2 s1 s2 h1 hx hy
    go_enter Try.func21, Try.ntmps21
    go_wp2_with (first
      | (go_at_call 28; refine (N1.out _).mono ?_; rintro e w' ⟨rfl, rfl⟩)
      | (go_at_call 41; refine (L1.out _).mono ?_; rintro e w' ⟨rfl, rfl⟩)
      | (go_at_call 41; refine (L2.out _).mono ?_; rintro e w' ⟨rfl, rfl⟩)
      | (go_at_call 40; refine (CI.out _ _ _).mono ?_; rintro e w' ⟨rfl, rfl⟩))
    go_ret
    exact ⟨rfl, rfl⟩
end Go.Proofs.Ythhihcmkjkofhaa.FCmp
