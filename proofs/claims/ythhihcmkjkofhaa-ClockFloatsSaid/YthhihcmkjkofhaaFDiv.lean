/- math/bits.Div64 by 1000000000. -/
import Derived.Test.YthhihcmkjkofhaaFCmp
import Derived.Deep.LoopGhost
namespace Go.Proofs.Ythhihcmkjkofhaa.FDiv
open Go.RowKit FPlain FWord FNear FBits FMath FExp FLd FCut FNano FFrom FCmp

theorem lz_billion (w : World) : Calls Try.prog 53 #[.int .u64 1000000000] w fun e w' => e = .returned (.int .i64 34) ∧ w = w' := by
  refine (LeadingZeros64_any 1000000000 (by omega) w).mono ?_
  rintro e w' ⟨rfl, rfl⟩
  refine ⟨ret_i ?_, rfl⟩
  have : len 1000000000 = 30 := by
    unfold len
    rw [if_neg (by omega), log2_is (k := 29) (by omega) (by omega)]
  rw [this]; omega
theorem ret_uu {a b c d : Int} (h : a = c) (h2 : b = d) : Ending.returned (.tuple #[.int .u64 a, .int .u64 b]) = .returned (.tuple #[.int .u64 c, .int .u64 d]) := by rw [h, h2]
set_option maxHeartbeats 400000 in
theorem Div64_zero (lo : Nat) (h2 : lo < 18446744073709551616) (w : World) :
    Calls Try.prog 54 #[.int .u64 0, .int .u64 lo, .int .u64 1000000000] w fun e w' => e = .returned (.tuple #[.int .u64 ((lo / 1000000000 : Nat) : Int), .int .u64 ((lo % 1000000000 : Nat) : Int)]) ∧ Drew w w' := by
  go_enter Try.func54, Try.ntmps54
  go_wp2
  go_quiet (fail)
  go_wp2
  go_ret2
  refine ⟨ret_uu ?_ ?_, Drew.at_ _ _⟩
  · rw [IntKind.wrap_u64]; omega
  · rw [Int.tmod_eq_emod_of_nonneg (by omega)]; omega
theorem div_or (hi lo A : Nat) (h1 : hi < 1000000000) (h2 : lo < 18446744073709551616) (hA : A = hi * 17179869184 + lo / 1073741824) : bits .or .u64 ((hi : Int) * 17179869184) ((lo : Int) / 1073741824) = (A : Int) := by
  have c1 : (hi : Int) * 17179869184 = ((17179869184 * hi : Nat) : Int) := by omega
  have c2 : (lo : Int) / 1073741824 = ((lo / 1073741824 : Nat) : Int) := by omega
  have hl : lo / 1073741824 < 2 ^ 34 := by omega
  have h := Nat.two_pow_add_eq_or_of_lt hl hi
  have e : (2 : Nat) ^ 34 = 17179869184 := by decide
  rw [e] at h
  rw [c1, c2, bits_or_u64_nat _ _ (by omega) (by omega), ← h, hA, Nat.mul_comm]
theorem div_lo (lo Bn : Nat) (_h2 : lo < 18446744073709551616) (hB : Bn = lo % 1073741824 * 17179869184) : IntKind.u64.wrap ((lo : Int) * 17179869184) = (Bn : Int) := by
  rw [IntKind.wrap_u64]; omega
theorem div_sub (A Q R U1 U2 : Nat) (hA : A = 4000000000 * Q + R) (hR : R < 4000000000) (hU : U1 < 4294967296) (h2 : U2 = R * 4294967296 + U1) : IntKind.u64.wrap (IntKind.u64.wrap (IntKind.u64.wrap ((A : Int) * 4294967296) + (U1 : Int)) - IntKind.u64.wrap ((Q : Int) * 17179869184000000000)) = (U2 : Int) := by
  rw [IntKind.wrap_u64, IntKind.wrap_u64, IntKind.wrap_u64, IntKind.wrap_u64]
  rw [Int.emod_add_emod, ← Int.sub_emod]
  have e : (A : Int) * 4294967296 + (U1 : Int) - (Q : Int) * 17179869184000000000 = (U2 : Int) := by omega
  rw [e]
  have b : U2 < 18446744073709551616 := by omega
  clear e hA h2
  omega
theorem div_e (hi lo A Bn Q R U1 U0 U2 Q0 R0 U3 : Int) (hA : lo - lo % 1073741824 + hi * 18446744073709551616 = A * 1073741824) (hB : Bn = lo % 1073741824 * 17179869184) (hQ : A = 4000000000 * Q + R) (hU : Bn = U1 * 4294967296 + U0) (h2 : U2 = R * 4294967296 + U1) (hQ0 : U2 = 4000000000 * Q0 + R0) (h3 : U3 = R0 * 4294967296 + U0) :
    (hi * 18446744073709551616 + lo) * 17179869184 = 17179869184000000000 * (Q * 4294967296 + Q0) + U3 := by omega
theorem div_all (hi lo A Bn Q R U1 U0 U2 Q0 R0 U3 : Nat) (hA : A = hi * 17179869184 + lo / 1073741824) (hB : Bn = lo % 1073741824 * 17179869184) (hQ : A = 4000000000 * Q + R) (hU : Bn = U1 * 4294967296 + U0) (hU0 : U0 < 4294967296) (h2 : U2 = R * 4294967296 + U1) (hQ0 : U2 = 4000000000 * Q0 + R0) (hR0 : R0 < 4000000000) (h3 : U3 = R0 * 4294967296 + U0) :
    (hi * 18446744073709551616 + lo) / 1000000000 = Q * 4294967296 + Q0 ∧ (hi * 18446744073709551616 + lo) % 1000000000 = U3 / 17179869184 := by
  have e := div_e hi lo A Bn Q R U1 U0 U2 Q0 R0 U3 (by clear hB hQ hU hU0 h2 hQ0 hR0 h3; omega) (by rw [hB]; clear hA hB hQ hU hU0 h2 hQ0 hR0 h3; omega) (by rw [hQ]; clear hA hB hQ hU hU0 h2 hQ0 hR0 h3; omega) (by rw [hU]; clear hA hB hQ hU hU0 h2 hQ0 hR0 h3; omega) (by rw [h2]; clear hA hB hQ hU hU0 h2 hQ0 hR0 h3; omega) (by rw [hQ0]; clear hA hB hQ hU hU0 h2 hQ0 hR0 h3; omega) (by rw [h3]; clear hA hB hQ hU hU0 h2 hQ0 hR0 h3; omega)
  have l : U3 < 17179869184000000000 := by clear hA hB hQ hU h2 hQ0 e; omega
  obtain ⟨V, hV⟩ : ∃ V, V = hi * 18446744073709551616 + lo := ⟨_, rfl⟩
  obtain ⟨Z, hZ⟩ : ∃ Z, Z = Q * 4294967296 + Q0 := ⟨_, rfl⟩
  rw [← hV, ← hZ]
  have e2 : V * 17179869184 = 17179869184000000000 * Z + U3 := by
    have e3 : (V : Int) = hi * 18446744073709551616 + lo := by rw [hV]; clear hA hB hQ hU hU0 h2 hQ0 hR0 h3 e l hV hZ; omega
    have e4 : (Z : Int) = Q * 4294967296 + Q0 := by rw [hZ]; clear hA hB hQ hU hU0 h2 hQ0 hR0 h3 e l hV hZ e3; omega
    rw [← e3, ← e4] at e
    clear hA hB hQ hU hU0 h2 hQ0 hR0 h3 l hV hZ e3 e4
    omega
  clear hA hB hQ hU h2 hQ0 h3 e hV hZ
  omega
/-- the numbers of the long division -/
structure DivN (hi lo A Bn Q R U1 U0 U2 Q0 R0 U3 : Nat) : Prop where
  o1 : bits .or .u64 ((hi : Int) * 17179869184) ((lo : Int) / 1073741824) = (A : Int)
  o2 : IntKind.u64.wrap ((lo : Int) * 17179869184) = (Bn : Int)
  o3 : bits BinOp.and IntKind.u64 (Bn : Int) 4294967295 = (U0 : Int)
  q1 : (A : Int) / 4000000000 = (Q : Int)
  q2 : (A : Int) - (Q : Int) * 4000000000 = (R : Int)
  q3 : (Bn : Int) / 4294967296 = (U1 : Int)
  q4 : IntKind.u64.wrap (IntKind.u64.wrap (IntKind.u64.wrap ((A : Int) * 4294967296) + (U1 : Int)) - IntKind.u64.wrap ((Q : Int) * 17179869184000000000)) = (U2 : Int)
  q5 : IntKind.u64.wrap (IntKind.u64.wrap (IntKind.u64.wrap ((U2 : Int) * 4294967296) + (U0 : Int)) - IntKind.u64.wrap ((Q0 : Int) * 17179869184000000000)) = (U3 : Int)
  q6 : (U2 : Int) / 4000000000 = (Q0 : Int)
  q7 : (U2 : Int) - (Q0 : Int) * 4000000000 = (R0 : Int)
  d3 : decide (4294967296 ≤ (Q : Int)) = false
  d4 : decide (4294967296 ≤ (Q0 : Int)) = false
  bA : A < 17179869184000000000
  bB : Bn < 18446744073709551616
  bQ : Q < 4294967296
  bR : R < 4000000000
  bU2 : U2 < 17179869184000000000
  bQ0 : Q0 < 4294967296
  bR0 : R0 < 4000000000
  a1 : (hi * 18446744073709551616 + lo) / 1000000000 = Q * 4294967296 + Q0
  a2 : (hi * 18446744073709551616 + lo) % 1000000000 = U3 / 17179869184
theorem parts_of (A c : Nat) (hc : 0 < c) : ∃ q r, A = c * q + r ∧ r < c ∧ A / c = q ∧ A % c = r := ⟨A / c, A % c, (Nat.div_add_mod A c).symm, Nat.mod_lt _ hc, rfl, rfl⟩
theorem sub_of {A q r : Nat} (h : A = 4000000000 * q + r) : (A : Int) - (q : Int) * 4000000000 = (r : Int) := by omega
theorem quo_of {A c q : Nat} (h : A / c = q) : (A : Int) / (c : Int) = (q : Int) := by rw [← h, Int.natCast_ediv]
theorem small_of {q : Nat} (h : q < 4294967296) : decide (4294967296 ≤ (q : Int)) = false := by simp; omega
theorem quo_lt {A q r : Nat} (h : A = 4000000000 * q + r) (hA : A < 17179869184000000000) : q < 4294967296 := by omega
theorem rest_lt {R U U2 : Nat} (hR : R < 4000000000) (hU : U < 4294967296) (h : U2 = R * 4294967296 + U) : U2 < 17179869184000000000 := by omega
theorem div_nums (hi lo : Nat) (h1 : hi < 1000000000) (h2 : lo < 18446744073709551616) : ∃ A Bn Q R U1 U0 U2 Q0 R0 U3, DivN hi lo A Bn Q R U1 U0 U2 Q0 R0 U3 := by
  obtain ⟨A, hA⟩ : ∃ A, A = hi * 17179869184 + lo / 1073741824 := ⟨_, rfl⟩
  obtain ⟨Bn, hB⟩ : ∃ Bn, Bn = lo % 1073741824 * 17179869184 := ⟨_, rfl⟩
  have o1 := div_or hi lo A h1 h2 hA
  have o2 := div_lo lo Bn h2 hB
  have bA : A < 17179869184000000000 := by clear hB o1 o2; omega
  have bB : Bn < 18446744073709551616 := by clear hA bA o1 o2; omega
  obtain ⟨Q, R, hQ, bR, Q1, _⟩ := parts_of A 4000000000 (by decide)
  obtain ⟨U1, U0, hU, bU0, U11, U01⟩ := parts_of Bn 4294967296 (by decide)
  have o3 : bits BinOp.and IntKind.u64 (Bn : Int) 4294967295 = (U0 : Int) := by
    have := bits_and_u64_nat Bn 4294967295 bB (by decide)
    rw [show Bn &&& 4294967295 = Bn % 4294967296 from Nat.and_two_pow_sub_one_eq_mod Bn 32, U01] at this
    exact this
  have bU1 : U1 < 4294967296 := by clear o1 o2 o3 hA hB hQ Q1 bA; omega
  obtain ⟨U2, hU2⟩ : ∃ U, U = R * 4294967296 + U1 := ⟨_, rfl⟩
  have bU2 := rest_lt bR bU1 hU2
  obtain ⟨Q0, R0, hQ0, bR0, Q01, _⟩ := parts_of U2 4000000000 (by decide)
  obtain ⟨U3, hU3⟩ : ∃ U, U = R0 * 4294967296 + U0 := ⟨_, rfl⟩
  obtain ⟨a1, a2⟩ := div_all hi lo A Bn Q R U1 U0 U2 Q0 R0 U3 hA hB hQ (by rw [hU, Nat.mul_comm]) bU0 hU2 hQ0 bR0 hU3
  exact ⟨A, Bn, Q, R, U1, U0, U2, Q0, R0, U3, o1, o2, o3, quo_of Q1, sub_of hQ, quo_of U11, div_sub A Q R U1 U2 hQ bR bU1 hU2, div_sub U2 Q0 R0 U0 U3 hQ0 bR0 bU0 hU3, quo_of Q01, sub_of hQ0, small_of (quo_lt hQ bA), small_of (quo_lt hQ0 bU2), bA, bB, quo_lt hQ bA, bR, bU2, quo_lt hQ0 bU2, bR0, a1, a2⟩
theorem wrap_small (R : Nat) (h : R < 18446744073709551616) : IntKind.u64.wrap (R : Int) = R := by rw [IntKind.wrap_u64]; omega
set_option maxHeartbeats 1000000 in
theorem Div64_more (hi lo : Nat) (h1 : hi < 1000000000) (h0 : 0 < hi) (h2 : lo < 18446744073709551616) (w : World) :
    Calls Try.prog 54 #[.int .u64 hi, .int .u64 lo, .int .u64 1000000000] w fun e w' => e = .returned (.tuple #[.int .u64 (((hi * 18446744073709551616 + lo) / 1000000000 : Nat) : Int), .int .u64 (((hi * 18446744073709551616 + lo) % 1000000000 : Nat) : Int)]) ∧ Drew w w' := by
  have d1 : decide (1000000000 ≤ (hi : Int)) = false := by simp; omega
  have d2 : ((hi : Int) == 0) = false := by rw [beq_eq_false_iff_ne]; omega
  obtain ⟨A, Bn, Q, R, U1, U0, U2, Q0, R0, U3, o1, o2, o3, q1, q2, q3, q4, q5, q6, q7, d3, d4, bA, bB, bQ, bR, bU2, bQ0, bR0, a1, a2⟩ := div_nums hi lo h1 h2
  have n0 : bits BinOp.and IntKind.u64 17179869184000000000 4294967295 = 0 := by decide
  have r0 := Lib.hid (wrap_small R0 (Nat.lt_trans bR0 (by decide)))
  have r1 := Lib.hid (wrap_small R (Nat.lt_trans bR (by decide)))
  rw [a1, a2]
  have Q5 := Lib.hid q5
  clear a1 a2 q5
  go_enter Try.func54, Try.ntmps54
  go_wp2_with (go_at_call 53; refine (lz_billion _).mono ?_; rintro e w' ⟨rfl, rfl⟩)
  go_loop [15, 16] (fun v r => v = .int .u64 (Q : Int) ∧ r = .int .u64 (R : Int)) (fun _ _ => 0)
  case atStart => first | exact ⟨rfl, rfl⟩ | exact ⟨rfl, by rw [r1.out]⟩
  case round =>
    obtain ⟨rfl, rfl⟩ := hrel
    go_wp2
    go_loop [18, 16] (fun v r => v = .int .u64 (Q0 : Int) ∧ r = .int .u64 (R0 : Int)) (fun _ _ => 0)
    case atStart => first | exact ⟨rfl, rfl⟩ | exact ⟨rfl, by rw [r0.out]⟩
    case round =>
      obtain ⟨rfl, rfl⟩ := hrel
      have q5 := Q5.out
      go_wp2
      go_ret2
      exact ⟨ret_uu (by first | rfl | simp) (by first | rfl | simp), Drew.refl _⟩
theorem Div64_any (hi lo V : Nat) (h1 : hi < 1000000000) (h2 : lo < 18446744073709551616) (hV : hi * 18446744073709551616 + lo = V) (w : World) :
    Calls Try.prog 54 #[.int .u64 hi, .int .u64 lo, .int .u64 1000000000] w fun e w' => e = .returned (.tuple #[.int .u64 ((V / 1000000000 : Nat) : Int), .int .u64 ((V % 1000000000 : Nat) : Int)]) ∧ Drew w w' := by
  rcases Nat.eq_zero_or_pos hi with rfl | h0
  · rw [Nat.zero_mul, Nat.zero_add] at hV
    subst hV
    exact Div64_zero lo h2 w
  · subst hV
    exact Div64_more hi lo h1 h0 h2 w
end Go.Proofs.Ythhihcmkjkofhaa.FDiv
