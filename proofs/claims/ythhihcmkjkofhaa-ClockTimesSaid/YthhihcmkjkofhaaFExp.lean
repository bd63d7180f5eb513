/- math: normalize, Frexp, Ldexp of numbers that are not below 0. -/
import Derived.Test.YthhihcmkjkofhaaFMath
import Derived.Lib.Hide
namespace Go.Proofs.Ythhihcmkjkofhaa.FExp
open Go.RowKit FPlain FWord FNear FBits FMath

theorem sk_pos {a : Nat} (h : a < 9223372036854775808) : sk a = a := by
  have h1 : sg a = false := by unfold sg; simp; omega
  have h2 : rg a = a := by unfold rg; omega
  unfold sk
  rw [h1, h2]; simp
theorem nan_pos {a : Nat} (h : a ≤ 9218868437227405312) : nanW a = false := by
  have h2 : rg a = a := by unfold rg; omega
  unfold nanW
  rw [h2]; simp; omega
theorem pos_lt {a b : Nat} (ha : a ≤ 9218868437227405312) (hb : b ≤ 9218868437227405312) : (FloatKind.f64.format.order a b == some .lt) = decide (a < b) := by
  show (Ieee.double.order a b == some .lt) = _
  rw [order_num (by omega) (by omega) (nan_pos ha) (nan_pos hb), cmp_lt, sk_pos (by omega), sk_pos (by omega), Bool.eq_iff_iff]
  simp
theorem pos_eq {a b : Nat} (ha : a ≤ 9218868437227405312) (hb : b ≤ 9218868437227405312) : (FloatKind.f64.format.order a b == some .eq) = decide (a = b) := by
  show (Ieee.double.order a b == some .eq) = _
  rw [order_num (by omega) (by omega) (nan_pos ha) (nan_pos hb), cmp_eq, sk_pos (by omega), sk_pos (by omega), Bool.eq_iff_iff]
  simp only [decide_eq_true_eq]
  omega
theorem rg_pos {a : Nat} (h : a < 9223372036854775808) : rg a = a := by unfold rg; omega
theorem sg_pos {a : Nat} (h : a < 9223372036854775808) : sg a = false := by unfold sg; simp; omega
theorem run_mul {x y r : Nat} (t : TypeId) (w : World) (h : Ieee.double.mul x y = some r) : (binOp .mul t (.float .f64 x) (.float .f64 y)).run Try.prog w = .ok (.float .f64 r) w :=
  run_float_arith w .mul t .f64 x y r h

theorem normalize_big (x : Nat) (h1 : 4503599627370496 ≤ x) (h2 : x < 9218868437227405312) (w : World) : Calls Try.prog 58 #[.float .f64 x] w fun e w' => e = .returned (.tuple #[.float .f64 x, .int .i64 0]) ∧ w = w' := by
  have e := pos_lt (a := x) (b := 4503599627370496) (by omega) (by omega)
  have e2 : decide (x < 4503599627370496) = false := by simp; omega
  rw [e2] at e
  have e3 := rg_pos (a := x) (by omega)
  go_enter Try.func58, Try.ntmps58
  go_wp2_with (go_at_call 29; refine (Abs_any x (by omega) _).mono ?_; rw [e3]; rintro e w' ⟨rfl, rfl⟩)
  go_ret2
  exact ⟨rfl, rfl⟩
theorem normalize_small (x r : Nat) (h1 : 0 < x) (h2 : x < 4503599627370496) (hr : x.log2 * 4503599627370496 + x * 2 ^ (52 - x.log2) = r) (w : World) : Calls Try.prog 58 #[.float .f64 x] w fun e w' => e = .returned (.tuple #[.float .f64 r, .int .i64 (-52)]) ∧ w = w' := by
  have e := pos_lt (a := x) (b := 4503599627370496) (by omega) (by omega)
  have e2 : decide (x < 4503599627370496) = true := by simp; omega
  rw [e2] at e
  have e3 := rg_pos (a := x) (by omega)
  have hm := mul_sub (x := x) (by omega) e3 h1 h2
  rw [sg_pos (by omega), hr, word_eq] at hm
  have hm2 := run_mul 24 w hm
  simp only [if_false, Bool.false_eq_true] at hm2
  clear hm hr
  go_enter Try.func58, Try.ntmps58
  go_wp2_with (go_at_call 29; refine (Abs_any x (by omega) _).mono ?_; rw [e3]; rintro e w' ⟨rfl, rfl⟩)
  go_ret2
  exact ⟨rfl, rfl⟩
theorem and_2047 (T : Nat) (h : T < 2048) : bits .and .u64 (T : Int) 2047 = (T : Int) := by
  have := bits_and_u64_nat T 2047 (by omega) (by decide)
  rw [show T &&& 2047 = T % 2048 from Nat.and_two_pow_sub_one_eq_mod T 11, Nat.mod_eq_of_lt h] at this
  exact this
theorem wr {n : Int} (h : -9223372036854775808 ≤ n ∧ n < 9223372036854775808) : wrap64 n = n := by unfold wrap64; omega
theorem frexp_wraps (T : Nat) (e0 : Int) (hT : T < 2047) (he : -100 ≤ e0 ∧ e0 ≤ 100) : wrap64 (T : Int) = T ∧ wrap64 ((T : Int) - 1023) = (T : Int) - 1023 ∧ wrap64 ((T : Int) - 1023 + 1) = (T : Int) - 1022 ∧ wrap64 (e0 + ((T : Int) - 1022)) = e0 + T - 1022 :=
  ⟨wr (by omega), wr (by omega), by rw [wr (by omega)]; omega, by rw [wr (by omega)]; omega⟩
theorem frexp_bits (y T f : Nat) (hy : y = T * 4503599627370496 + f) (hT : T < 2047) (hf : f < 4503599627370496) : (y : Int) / 4503599627370496 = (T : Int) ∧ bits .and .u64 (T : Int) 2047 = (T : Int) ∧ bits .andNot .u64 (y : Int) 9218868437227405312 = (f : Int) ∧ bits .or .u64 (f : Int) 4602678819172646912 = ((1022 * 4503599627370496 + f : Nat) : Int) := by
  have b3 := strike_exp y (by omega)
  rw [show y % 4503599627370496 = f by omega] at b3
  exact ⟨by omega, and_2047 T (by omega), b3, lay_exp f 1022 hf (by omega)⟩
theorem ret_fi {r : Nat} {a b : Int} (h : a = b) : Ending.returned (.tuple #[.float .f64 r, .int .i64 a]) = .returned (.tuple #[.float .f64 r, .int .i64 b]) := by rw [h]
set_option maxHeartbeats 400000 in
theorem frexp_any (x y T f : Nat) (e0 : Int) (h1 : 0 < x) (h2 : x < 9218868437227405312) (hy : y = T * 4503599627370496 + f) (hT : T < 2047) (hf : f < 4503599627370496) (he : -100 ≤ e0 ∧ e0 ≤ 100) (w : World)
    (hn : Calls Try.prog 58 #[.float .f64 x] w fun e w' => e = .returned (.tuple #[.float .f64 y, .int .i64 e0]) ∧ w = w') :
    Calls Try.prog 60 #[.float .f64 x] w fun e w' => e = .returned (.tuple #[.float .f64 ((1022 * 4503599627370496 + f : Nat)), .int .i64 (e0 + T - 1022)]) ∧ w = w' := by
  have c0 := pos_eq (a := x) (b := 0) (by omega) (by omega)
  have c1 : decide (x = 0) = false := by simp; omega
  rw [c1] at c0
  have c2 := nan_pos (a := x) (by omega)
  have i1 : x < 18446744073709551616 := by omega
  have i2 : rg x < 9218868437227405312 := by rw [rg_pos (by omega)]; exact h2
  obtain ⟨b1, b2, b3, b4⟩ := frexp_bits y T f hy hT hf
  obtain ⟨w1, w2, w3, w4⟩ := frexp_wraps T e0 hT he
  obtain ⟨r, hr⟩ : ∃ r : Nat, 1022 * 4503599627370496 + f = r := ⟨_, rfl⟩
  rw [hr] at b4 ⊢
  have b5 := Int.toNat_natCast r
  have I1 := Lib.hid i1
  have I2 := Lib.hid i2
  clear hy hT hr c1 h2 h1 hf he i1 i2
  go_enter Try.func60, Try.ntmps60
  go_wp2_with (first
    | (go_at_call 23; refine (IsInf_no x I1.out I2.out _).mono ?_; rintro e w' ⟨rfl, rfl⟩)
    | (go_at_call 28; refine (IsNaN_any x I1.out _).mono ?_; rw [c2]; rintro e w' ⟨rfl, rfl⟩)
    | (go_at_call 58; refine hn.mono ?_; rintro e w' ⟨rfl, rfl⟩))
  go_ret2
  exact ⟨ret_fi w4, rfl⟩
theorem Frexp_pos (x r : Nat) (q : Int) (w : World) (hn : Calls Try.prog 60 #[.float .f64 x] w fun e w' => e = .returned (.tuple #[.float .f64 r, .int .i64 q]) ∧ w = w') :
    Calls Try.prog 47 #[.float .f64 x] w fun e w' => e = .returned (.tuple #[.float .f64 r, .int .i64 q]) ∧ w = w' := by
  go_enter Try.func47, Try.ntmps47
  go_wp2_with (go_at_call 60; refine hn.mono ?_; rintro e w' ⟨rfl, rfl⟩)
  go_ret2
  exact ⟨rfl, rfl⟩
theorem frexp_zero (w : World) : Calls Try.prog 60 #[.float .f64 0] w fun e w' => e = .returned (.tuple #[.float .f64 0, .int .i64 0]) ∧ w = w' := by
  have c0 := pos_eq (a := 0) (b := 0) (by omega) (by omega)
  have c1 : decide ((0 : Nat) = 0) = true := by simp
  rw [c1] at c0
  go_enter Try.func60, Try.ntmps60
  go_wp2
  go_ret2
  exact ⟨rfl, rfl⟩
/-- the parts of an amount: its first 53 bits, and at how many places behind the point the last of them stands -/
def mant (x : Nat) : Nat := if x < 4503599627370496 then x * 2 ^ (52 - x.log2) else 4503599627370496 + x % 4503599627370496
def drop (x : Nat) : Nat := if x < 4503599627370496 then 1126 - x.log2 else 1075 - x / 4503599627370496
theorem mant_in {x : Nat} (h : 0 < x) : 4503599627370496 ≤ mant x ∧ mant x < 9007199254740992 := by
  unfold mant
  split
  · rename_i hs
    have h1 := log2_lo h
    have h2 := log2_hi x
    have hl : x.log2 ≤ 51 := by
      rcases Nat.lt_or_ge x.log2 52 with h | h
      · omega
      · have := Nat.pow_le_pow_right (show 0 < 2 by omega) h
        have e52 : (2 : Nat) ^ 52 = 4503599627370496 := by decide
        omega
    obtain ⟨l, hl2⟩ : ∃ l, l = x.log2 := ⟨_, rfl⟩
    rw [← hl2] at hl h1 h2 ⊢
    have q : 2 ^ l * 2 ^ (52 - l) = 4503599627370496 := by rw [← Nat.pow_add, show l + (52 - l) = 52 by omega]
    have q2 : 2 ^ (l + 1) * 2 ^ (52 - l) = 9007199254740992 := by rw [← Nat.pow_add, show l + 1 + (52 - l) = 53 by omega]
    constructor
    · rw [← q]; exact Nat.mul_le_mul_right _ h1
    · rw [← q2]; exact Nat.mul_lt_mul_of_pos_right h2 (Nat.two_pow_pos _)
  · omega
theorem mant_drop {x : Nat} (h : 0 < x) (h2 : x < 4755801206503243776) : amt x * 2 ^ drop x = mant x * 2 ^ un ∧ 20 ≤ drop x ∧ drop x ≤ 1126 := by
  have hu := un_eq
  unfold mant drop
  split
  · rename_i hs
    have hl : x.log2 ≤ 51 := by
      rcases Nat.lt_or_ge x.log2 52 with h3 | h3
      · omega
      · have := Nat.pow_le_pow_right (show 0 < 2 by omega) h3
        have := log2_lo h
        have e52 : (2 : Nat) ^ 52 = 4503599627370496 := by decide
        omega
    refine ⟨?_, by omega, by omega⟩
    rw [amt_small (by omega), Nat.mul_assoc, ← Nat.pow_add, show 52 - x.log2 + un = 1126 - x.log2 by omega]
  · rename_i hs
    refine ⟨?_, by omega, by omega⟩
    unfold amt
    rw [if_neg hs, Nat.mul_assoc, ← Nat.pow_add, show x / 4503599627370496 - 1 + (1075 - x / 4503599627370496) = un by omega]
/-- the parts of an amount, as Frexp tells them -/
theorem Frexp_any (x : Nat) (h : 0 < x) (h2 : x < 4755801206503243776) (w : World) : Calls Try.prog 47 #[.float .f64 x] w fun e w' => e = .returned (.tuple #[.float .f64 ((1021 * 4503599627370496 + mant x : Nat)), .int .i64 (53 - (drop x : Int))]) ∧ w = w' := by
  obtain ⟨m1, m2⟩ := mant_in h
  have md := (mant_drop h h2).2
  refine Frexp_pos x _ _ w ?_
  by_cases hs : x < 4503599627370496
  · have hl : x.log2 ≤ 51 := by
      rcases Nat.lt_or_ge x.log2 52 with h3 | h3
      · omega
      · have := Nat.pow_le_pow_right (show 0 < 2 by omega) h3
        have := log2_lo h
        have e52 : (2 : Nat) ^ 52 = 4503599627370496 := by decide
        omega
    have em : x * 2 ^ (52 - x.log2) = mant x := by unfold mant; rw [if_pos hs]
    have ed : drop x = 1126 - x.log2 := by unfold drop; rw [if_pos hs]
    have hn := normalize_small x (x.log2 * 4503599627370496 + mant x) h hs (by rw [em]) w
    have hf := frexp_any x (x.log2 * 4503599627370496 + mant x) (x.log2 + 1) (mant x - 4503599627370496) (-52) h (by omega) (by omega) (by omega) (by omega) (by omega) w hn
    refine hf.mono ?_
    rintro e w' ⟨rfl, rfl⟩
    refine ⟨?_, rfl⟩
    rw [show 1022 * 4503599627370496 + (mant x - 4503599627370496) = 1021 * 4503599627370496 + mant x by omega]
    exact ret_fi (by omega)
  · have em : mant x = 4503599627370496 + x % 4503599627370496 := by unfold mant; rw [if_neg hs]
    have ed : drop x = 1075 - x / 4503599627370496 := by unfold drop; rw [if_neg hs]
    have hn := normalize_big x (by omega) (by omega) w
    have hf := frexp_any x x (x / 4503599627370496) (x % 4503599627370496) 0 h (by omega) (by omega) (by omega) (by omega) (by omega) w hn
    refine hf.mono ?_
    rintro e w' ⟨rfl, rfl⟩
    refine ⟨?_, rfl⟩
    rw [show 1022 * 4503599627370496 + x % 4503599627370496 = 1021 * 4503599627370496 + mant x by omega]
    exact ret_fi (by omega)
end Go.Proofs.Ythhihcmkjkofhaa.FExp
