/- math: IsNaN, Abs, IsInf, Signbit, Inf, NaN, Copysign. -/
import Derived.Test.YthhihcmkjkofhaaFBits
import Derived.Test.YthhihcmkjkofhaaFNear
import Derived.Laws.Externs
namespace Go.Proofs.Ythhihcmkjkofhaa.FMath
open Go.RowKit FPlain FWord FNear FBits

theorem neq_self {x : Nat} (h : x < 18446744073709551616) : (FloatKind.f64.format.order x x != some .eq) = nanW x := by
  show (Ieee.double.order x x != some .eq) = nanW x
  cases hn : nanW x
  · rw [order_num h h hn hn]
    simp
  · rw [order_nan h h (.inl hn)]; rfl
theorem IsNaN_any (x : Nat) (h : x < 18446744073709551616) (w : World) : Calls Try.prog 28 #[.float .f64 x] w fun e w' => e = .returned (.bool (nanW x)) ∧ w = w' := by
  have e := neq_self h
  go_enter Try.func28, Try.ntmps28
  go_wp2
  go_ret
  exact ⟨rfl, rfl⟩
@[go_sem] theorem fbits (x : Nat) (w : World) : (callFunc 18 #[.float .f64 x]).run Try.prog w = .ok (.value (.int .u64 (x : Int))) w := by
  rw [run_callFunc_extern Try.func18 (by kernel_rfl) (by kernel_rfl) (by kernel_rfl) (e := Extern.MathFloatBits.float64bits) (by kernel_rfl)]
  rfl
@[go_sem] theorem ffrom (n : Int) (w : World) : (callFunc 13 #[.int .u64 n]).run Try.prog w = .ok (.value (.float .f64 n.toNat)) w := by
  rw [run_callFunc_extern Try.func13 (by kernel_rfl) (by kernel_rfl) (by kernel_rfl) (e := Extern.MathFloatBits.float64frombits) (by kernel_rfl)]
  rfl
theorem ofInt_nat (b : Nat) (hb : b < 18446744073709551616) : (BitVec.ofInt 64 (b : Int)).toNat = b := by
  rw [BitVec.ofInt_natCast, BitVec.toNat_ofNat]; exact Nat.mod_eq_of_lt (by omega)
theorem andNot_nat (a b c : Nat) (ha : a < 18446744073709551616) (hb : b < 18446744073709551616) (hc : 18446744073709551615 - b = c) : bits .andNot .u64 (a : Int) (b : Int) = ((a &&& c : Nat) : Int) := by
  show IntKind.u64.wrap ((BitVec.ofInt 64 (a : Int) &&& ~~~ BitVec.ofInt 64 (b : Int)).toNat : Int) = _
  have hx : a &&& c < 2 ^ 64 := Nat.and_lt_two_pow _ (by omega)
  rw [BitVec.toNat_and, BitVec.toNat_not, ofInt_nat a ha, ofInt_nat b hb, show 2 ^ 64 - 1 - b = c by omega, IntKind.wrap_u64]
  omega
/-- the sign is struck -/
theorem strike_sign (x : Nat) (h : x < 18446744073709551616) : bits .andNot .u64 (x : Int) 9223372036854775808 = ((rg x : Nat) : Int) := by
  have := andNot_nat x 9223372036854775808 9223372036854775807 h (by decide) (by decide)
  rw [show x &&& 9223372036854775807 = rg x from Nat.and_two_pow_sub_one_eq_mod x 63] at this
  exact this
/-- the exponent is struck -/
theorem strike_exp (x : Nat) (h : x < 9223372036854775808) : bits .andNot .u64 (x : Int) 9218868437227405312 = ((x % 4503599627370496 : Nat) : Int) := by
  have := andNot_nat x 9218868437227405312 9227875636482146303 (by omega) (by decide) (by decide)
  have e1 : x &&& 9223372036854775807 = x := by
    rw [show x &&& 9223372036854775807 = x % 9223372036854775808 from Nat.and_two_pow_sub_one_eq_mod x 63]; omega
  have e2 : x &&& 9227875636482146303 = x % 4503599627370496 := by
    conv => lhs; rw [← e1, Nat.and_assoc]
    exact Nat.and_two_pow_sub_one_eq_mod x 52
  rw [e2] at this
  exact this
/-- an exponent laid over a fraction -/
theorem lay_exp (f e : Nat) (hf : f < 4503599627370496) (he : e < 2048) : bits .or .u64 (f : Int) ((e * 4503599627370496 : Nat) : Int) = ((e * 4503599627370496 + f : Nat) : Int) := by
  have e52 : (2 : Nat) ^ 52 = 4503599627370496 := by decide
  have h := Nat.two_pow_add_eq_or_of_lt (i := 52) (b := f) (by rw [e52]; exact hf) e
  rw [e52] at h
  have h1 : e * 4503599627370496 < 18446744073709551616 := by omega
  rw [bits_or_u64_nat _ _ (by omega) h1, Nat.or_comm, Nat.mul_comm e, ← h]
theorem ret_f {a b : Nat} (h : a = b) : Ending.returned (.float .f64 a) = .returned (.float .f64 b) := by rw [h]
theorem ret_b {a b : Bool} (h : a = b) : Ending.returned (.bool a) = .returned (.bool b) := by rw [h]
theorem Abs_any (x : Nat) (h : x < 18446744073709551616) (w : World) : Calls Try.prog 29 #[.float .f64 x] w fun e w' => e = .returned (.float .f64 (rg x)) ∧ w = w' := by
  have e := strike_sign x h
  have e2 := Int.toNat_natCast (rg x)
  go_enter Try.func29, Try.ntmps29
  go_wp2
  go_ret
  exact ⟨rfl, rfl⟩
theorem Signbit_any (x : Nat) (h : x < 18446744073709551616) (w : World) : Calls Try.prog 57 #[.float .f64 x] w fun e w' => e = .returned (.bool (sg x)) ∧ w = w' := by
  go_enter Try.func57, Try.ntmps57
  go_wp2
  go_ret
  refine ⟨ret_b ?_, rfl⟩
  unfold sg wrap64
  rw [Bool.eq_iff_iff]
  simp only [decide_eq_true_eq]
  omega
theorem NaN_is (w : World) : Calls Try.prog 25 #[] w fun e w' => e = .returned (.float .f64 9221120237041090561) ∧ w = w' := by
  go_enter Try.func25, Try.ntmps25
  go_wp2
  go_ret
  exact ⟨rfl, rfl⟩
theorem Inf_is (w : World) : Calls Try.prog 27 #[.int .i64 1] w fun e w' => e = .returned (.float .f64 9218868437227405312) ∧ w = w' := by
  go_enter Try.func27, Try.ntmps27
  go_wp2
  go_ret
  exact ⟨rfl, rfl⟩
theorem Copysign_is (w : World) : Calls Try.prog 24 #[.float .f64 0, .float .f64 13830554455654793216] w fun e w' => e = .returned (.float .f64 9223372036854775808) ∧ w = w' := by
  go_enter Try.func24, Try.ntmps24
  go_wp2
  go_ret
  exact ⟨ret_f (by decide), rfl⟩
theorem sk_max : sk 9218868437227405311 = 9218868437227405311 := by
  have h1 : sg 9218868437227405311 = false := by unfold sg; simp
  have h2 : rg 9218868437227405311 = 9218868437227405311 := by unfold rg; omega
  unfold sk
  rw [h1, h2]
  simp
theorem nan_max : nanW 9218868437227405311 = false := by
  have h2 : rg 9218868437227405311 = 9218868437227405311 := by unfold rg; omega
  unfold nanW
  rw [h2]
  simp
theorem cmp_gt (a b : Int) : (some (compare a b) == some Ordering.gt) = decide (b < a) := by
  rw [Bool.eq_iff_iff]
  simp only [compare, compareOfLessAndEq, decide_eq_true_eq]
  (repeat' split) <;> simp <;> omega
theorem cmp_lt (a b : Int) : (some (compare a b) == some Ordering.lt) = decide (a < b) := by
  rw [Bool.eq_iff_iff]
  simp only [compare, compareOfLessAndEq, decide_eq_true_eq]
  (repeat' split) <;> simp <;> omega
theorem cmp_eq (a b : Int) : (some (compare a b) == some Ordering.eq) = decide (a = b) := by
  rw [Bool.eq_iff_iff]
  simp only [compare, compareOfLessAndEq, decide_eq_true_eq]
  (repeat' split) <;> simp <;> omega
/-- what is greater than all finite ones -/
theorem gtr_max {x : Nat} (h : x < 18446744073709551616) : (FloatKind.f64.format.order x 9218868437227405311 == some .gt) = (!sg x && decide (rg x = 9218868437227405312)) := by
  show (Ieee.double.order x 9218868437227405311 == some .gt) = _
  cases hn : nanW x
  · rw [order_num h (by omega) hn nan_max, cmp_gt, sk_max]
    unfold nanW at hn
    simp only [decide_eq_false_iff_not] at hn
    unfold sk
    rw [Bool.eq_iff_iff]
    cases hs : sg x <;> simp only [if_false, if_true, Bool.false_eq_true, Bool.not_false, Bool.true_and, Bool.not_true, Bool.false_and, decide_eq_true_eq, iff_false] <;> omega
  · rw [order_nan h (by omega) (.inl hn)]
    unfold nanW at hn
    simp only [decide_eq_true_eq] at hn
    have : ¬ rg x = 9218868437227405312 := by omega
    simp [this]
theorem IsInf_one (x : Nat) (h : x < 18446744073709551616) (w : World) : Calls Try.prog 23 #[.float .f64 x, .int .i64 1] w fun e w' => e = .returned (.bool (!sg x && decide (rg x = 9218868437227405312))) ∧ w = w' := by
  have e := gtr_max h
  go_enter Try.func23, Try.ntmps23
  go_wp2
  go_ret
  exact ⟨rfl, rfl⟩
/-- of a number that is finite -/
theorem IsInf_no (x : Nat) (h : x < 18446744073709551616) (hf : rg x < 9218868437227405312) (w : World) : Calls Try.prog 23 #[.float .f64 x, .int .i64 0] w fun e w' => e = .returned (.bool false) ∧ w = w' := by
  have e := gtr_max (x := rg x) (by unfold rg; omega)
  have er : rg (rg x) = rg x := by unfold rg; omega
  have e2 : (!sg (rg x) && decide (rg (rg x) = 9218868437227405312)) = false := by
    rw [er]
    have : ¬ rg x = 9218868437227405312 := by omega
    simp [this]
  rw [e2] at e
  go_enter Try.func23, Try.ntmps23
  go_wp2_with (go_at_call 29; refine (Abs_any x h _).mono ?_; rintro e w' ⟨rfl, rfl⟩)
  go_ret
  exact ⟨rfl, rfl⟩
end Go.Proofs.Ythhihcmkjkofhaa.FMath
