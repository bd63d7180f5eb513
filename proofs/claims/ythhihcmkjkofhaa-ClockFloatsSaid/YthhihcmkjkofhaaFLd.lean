/- math: Ldexp of numbers that are not below 0. -/
import Derived.Test.YthhihcmkjkofhaaFExp
namespace Go.Proofs.Ythhihcmkjkofhaa.FLd
open Go.RowKit FPlain FWord FNear FBits FMath FExp

theorem map_swap (F : Bool → Nat → Int → Nat) (a b : Bool) (m n : Nat) (i j : Int) : some (F (a ^^ b) (m * n) (i + j)) = some (F (b ^^ a) (n * m) (j + i)) := by
  rw [Bool.xor_comm a b, Nat.mul_comm m n, Int.add_comm i j]
theorem mul_swap {o y m n : Nat} {a b : Bool} {i j : Int} (r1 : Ieee.double.read o = .number a m i) (r2 : Ieee.double.read y = .number b n j) : Ieee.double.mul o y = Ieee.double.mul y o := by
  unfold Ieee.Format.mul
  rw [r1, r2]
  exact map_swap (fun s m e => Ieee.double.nearest s m e) a b m n i j
theorem mul_one_of {o y s f : Nat} (u : Nat) (hu : u = 1022) (ho : o = u * 4503599627370496 + 4503599627370496) (hy : y = s * 4503599627370496 + (4503599627370496 + f)) (hE : 52 ≤ s) (hE2 : s ≤ 2045) (hf : f < 4503599627370496) : Ieee.double.mul o y = some y := by
  have k1 : rg y = s * 4503599627370496 + (4503599627370496 + f) := by rw [rg_pos (by omega)]; exact hy
  have k2 : rg o = u * 4503599627370496 + 4503599627370496 := by rw [rg_pos (by omega)]; exact ho
  have h := mul_part (x := y) (y := o) (s := s) (t := s) (u := u) (m := 4503599627370496 + f) (by omega) k1 (by omega) (by omega) (by omega) ho (by omega) (by omega) (by omega) (by omega)
  rw [sg_pos (by omega), word_eq] at h
  simp only [if_false, Bool.false_eq_true] at h
  rw [← hy] at h
  have r1 := read_part (x := o) (t := u) (m := 4503599627370496) (by omega) k2 (by omega) (by omega) (by omega)
  have r2 := read_part (x := y) (t := s) (m := 4503599627370496 + f) (by omega) k1 (by omega) (by omega) (by omega)
  rw [mul_swap r1 r2, h]
theorem one_word : (4607182418800017408 : Nat) = 1022 * 4503599627370496 + 4503599627370496 := by decide +kernel
theorem mul_one {y E f : Nat} (o : Nat) (ho : o = 4607182418800017408) (hy : y = E * 4503599627370496 + f) (hE : 53 ≤ E) (hE2 : E ≤ 2046) (hf : f < 4503599627370496) : Ieee.double.mul o y = some y := by
  obtain ⟨s, hs⟩ : ∃ s, s + 1 = E := ⟨E - 1, by omega⟩
  have hy2 : y = s * 4503599627370496 + (4503599627370496 + f) := hy.trans ((congrArg (· * 4503599627370496 + f) hs.symm).trans (by simp only [Nat.add_mul, Nat.one_mul, Nat.add_assoc]))
  obtain ⟨u, hu⟩ : ∃ u, u = 1022 := ⟨_, rfl⟩
  exact mul_one_of u hu (ho.trans (one_word.trans (congrArg (fun z => z * 4503599627370496 + 4503599627370496) hu.symm))) hy2 (by omega) (by omega) hf
theorem and_2047_i (T : Nat) (h : T < 2048) : bits .and .i64 (T : Int) 2047 = (T : Int) := by
  show IntKind.i64.wrap ((BitVec.ofInt 64 (T : Int) &&& BitVec.ofInt 64 2047).toNat : Int) = _
  have e : (BitVec.ofInt 64 2047).toNat = 2047 := by decide
  rw [BitVec.toNat_and, ofInt_nat T (by omega), e, show T &&& 2047 = T % 2048 from Nat.and_two_pow_sub_one_eq_mod T 11, Nat.mod_eq_of_lt h, IntKind.wrap_i64]
  clear e
  omega
theorem ldexp_wraps (T E : Nat) (e : Int) (hT : T < 2047) (h1 : 53 ≤ E) (h2 : E ≤ 2046) (he : E = T + e) : wrap64 (T : Int) = T ∧ wrap64 ((T : Int) - 1023) = (T : Int) - 1023 ∧ wrap64 e = e ∧ wrap64 (e + ((T : Int) - 1023)) = (E : Int) - 1023 ∧ wrap64 ((E : Int) - 1023 + 1023) = (E : Int) ∧ wrap64 (E : Int) = E ∧ IntKind.u64.wrap (E : Int) = E ∧ IntKind.u64.wrap ((E : Int) * 4503599627370496) = ((E * 4503599627370496 : Nat) : Int) :=
  ⟨wr (by omega), wr (by omega), wr (by omega), by rw [wr (by omega)]; omega, by rw [wr (by omega)]; omega, wr (by omega), by rw [IntKind.wrap_u64]; omega, by rw [IntKind.wrap_u64]; omega⟩
theorem ldexp_bits (x T f : Nat) (hx : x = T * 4503599627370496 + f) (hT : T < 2047) (hf : f < 4503599627370496) : (x : Int) / 4503599627370496 = (T : Int) ∧ bits .and .i64 (T : Int) 2047 = (T : Int) ∧ bits .andNot .u64 (x : Int) 9218868437227405312 = (f : Int) := by
  have b3 := strike_exp x (by omega)
  rw [show x % 4503599627370496 = f by omega] at b3
  exact ⟨by omega, and_2047_i T (by omega), b3⟩
set_option maxHeartbeats 100000 in
theorem ldexp_norm (x T f E y : Nat) (e : Int) (hx : x = T * 4503599627370496 + f) (h1 : 1 ≤ T) (hT : T < 2047) (hf : f < 4503599627370496) (he : E = T + e) (e1 : 53 ≤ E) (e2 : E ≤ 2046) (hy : E * 4503599627370496 + f = y) (w : World) :
    Calls Try.prog 46 #[.float .f64 x, .int .i64 e] w fun en w' => en = .returned (.float .f64 y) ∧ w = w' := by
  have c0 := pos_eq (a := x) (b := 0) (by omega) (by omega)
  have c1 : decide (x = 0) = false := by simp; omega
  rw [c1] at c0
  have c2 := nan_pos (a := x) (by omega)
  have i1 : x < 18446744073709551616 := by omega
  have i2 : rg x < 9218868437227405312 := by rw [rg_pos (by omega)]; omega
  have hn := normalize_big x (by omega) (by omega) w
  have d1 : decide ((E : Int) - 1023 < -1075) = false := by simp; omega
  have d2 : decide (1023 < (E : Int) - 1023) = false := by simp; omega
  have d3 : decide ((E : Int) - 1023 < -1022) = false := by simp; omega
  have b4 := lay_exp f E hf (by omega)
  obtain ⟨b1, b2, b3⟩ := ldexp_bits x T f hx hT hf
  obtain ⟨w1, w2, w3, w4, w5, w6, w7, w8⟩ := ldexp_wraps T E e hT e1 e2 he
  rw [hy] at b4
  have b5 := Int.toNat_natCast y
  have b6 := run_mul 24 w (mul_one 4607182418800017408 rfl (y := y) hy.symm e1 e2 hf)
  have I1 := Lib.hid i1
  have I2 := Lib.hid i2
  obtain ⟨z, hz⟩ : ∃ z, z = E * 4503599627370496 := ⟨_, rfl⟩
  rw [← hz] at b4 w8
  clear hx hT hy hz c1 h1 hf he e1 e2 i1 i2
  go_enter Try.func46, Try.ntmps46
  go_wp2_with (first
    | (go_at_call 23; refine (IsInf_no x I1.out I2.out _).mono ?_; rintro e w' ⟨rfl, rfl⟩)
    | (go_at_call 28; refine (IsNaN_any x I1.out _).mono ?_; rw [c2]; rintro e w' ⟨rfl, rfl⟩)
    | (go_at_call 58; refine hn.mono ?_; rintro e w' ⟨rfl, rfl⟩))
  go_ret
  exact ⟨rfl, rfl⟩
theorem Ldexp_pos (x y : Nat) (q : Int) (w : World) (hn : Calls Try.prog 46 #[.float .f64 x, .int .i64 q] w fun e w' => e = .returned (.float .f64 y) ∧ w = w') :
    Calls Try.prog 26 #[.float .f64 x, .int .i64 q] w fun e w' => e = .returned (.float .f64 y) ∧ w = w' := by
  go_enter Try.func26, Try.ntmps26
  go_wp2_with (go_at_call 46; refine hn.mono ?_; rintro e w' ⟨rfl, rfl⟩)
  go_ret
  exact ⟨rfl, rfl⟩
theorem Ldexp_zero (q : Int) (w : World) : Calls Try.prog 26 #[.float .f64 0, .int .i64 q] w fun e w' => e = .returned (.float .f64 0) ∧ w = w' := by
  refine Ldexp_pos 0 0 q w ?_
  have c0 := pos_eq (a := 0) (b := 0) (by omega) (by omega)
  have c1 : decide ((0 : Nat) = 0) = true := by simp
  rw [c1] at c0
  go_enter Try.func46, Try.ntmps46
  go_wp2
  go_ret
  exact ⟨rfl, rfl⟩
end Go.Proofs.Ythhihcmkjkofhaa.FLd
