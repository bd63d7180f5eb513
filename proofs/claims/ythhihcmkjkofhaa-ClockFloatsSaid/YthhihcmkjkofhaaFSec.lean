/- clock.seconds, clock.To: the float nearest to so many nanoseconds. -/
import Derived.Test.YthhihcmkjkofhaaFDiv
namespace Go.Proofs.Ythhihcmkjkofhaa.FSec
open Go.RowKit FPlain FWord FNear FBits FMath FExp FLd FCut FNano FFrom FCmp FDiv

/-- the rung nearest to so many nanoseconds' seconds -/
def secR (n : Nat) : Nat := nr (n * 2 ^ un) 1000000000
theorem nr_stuck {a b : Nat} (hb : 0 < b) (h : 18014398509481984 ≤ a / b) : nr a b = nr (FPlain.stuck a b) 1 := by
  have e1 := stuck_log2 (a := a) (b := b) (by omega)
  have e2 : 54 ≤ (a / b).log2 := by
    have := log2_mono h
    rw [log2_is (n := 18014398509481984) (k := 54) (by decide) (by decide)] at this
    exact this
  unfold nr
  rw [Nat.div_one, e1, Nat.one_mul]
  obtain ⟨s, hs⟩ : ∃ s, (a / b).log2 - 52 = s + 2 := ⟨(a / b).log2 - 54, by omega⟩
  rw [hs, rnd_stuck a b s hb]
theorem secR_zero : secR 0 = 0 := by
  unfold secR nr
  rw [Nat.zero_mul, Nat.zero_div]
  have := rnd_exact 0 (1000000000 * 2 ^ (Nat.log2 0 - 52)) (Nat.mul_pos (by omega) (Nat.two_pow_pos _))
  rw [Nat.zero_mul] at this
  rw [this]
  rfl
theorem un_big {n : Nat} (h : 0 < n) : 4503599627370496 ≤ n * 2 ^ un / 1000000000 := by
  rw [Nat.le_div_iff_mul_le (by omega)]
  have h1 : 2 ^ 82 ≤ 2 ^ un := Nat.pow_le_pow_right (by omega) (by have := un_eq; omega)
  have h2 : 1 * 2 ^ un ≤ n * 2 ^ un := Nat.mul_le_mul_right _ h
  have e : (2 : Nat) ^ 82 = 4835703278458516698824704 := by decide +kernel
  generalize n * 2 ^ un = z at *
  generalize 2 ^ un = y at *
  omega
/-- so is the program's number, its exponent apart -/
theorem sec_stuck {n r X : Nat} (hn : 0 < n) (hX : X = FPlain.stuck (n * 2 ^ r) 1000000000) (hb : 18014398509481984 ≤ n * 2 ^ r / 1000000000) : nr (X * 2 ^ un) 1 = secR n + r * 4503599627370496 := by
  have hX1 : 4503599627370496 ≤ X / 1 := by
    rw [Nat.div_one, hX]
    have := stuck_div (n * 2 ^ r) 1000000000
    omega
  have e1 := nr_up (a := X) (b := 1) un (by omega) hX1
  have e2 := nr_up (a := n * 2 ^ r) (b := 1000000000) un (by omega) (by omega)
  have e3 := nr_up (a := n * 2 ^ un) (b := 1000000000) r (by omega) (un_big hn)
  have e4 := nr_stuck (a := n * 2 ^ r) (b := 1000000000) (by omega) hb
  rw [← hX] at e4
  have e5 : n * 2 ^ r * 2 ^ un = n * 2 ^ un * 2 ^ r := Nat.mul_right_comm _ _ _
  rw [e5] at e2
  unfold secR
  rw [e1]
  rw [e3, e4] at e2
  rw [← e2, Nat.add_comm]
/-- where the number lies -/
theorem sec_range {X : Nat} (h1 : 18014398509481984 ≤ X) (h2 : X < 9223372036854775808) : 1074 * 4503599627370496 + 9007199254740992 ≤ nr (X * 2 ^ un) 1 ∧ nr (X * 2 ^ un) 1 ≤ 1085 * 4503599627370496 + 4503599627370496 := by
  have a1 := nr_mono (b := 1) (by omega) (Nat.mul_le_mul_right (2 ^ un) h1)
  have a2 := nr_mono (b := 1) (by omega) (Nat.mul_le_mul_right (2 ^ un) (Nat.le_of_lt h2))
  obtain ⟨k1, hk1⟩ : ∃ k, k = 2 + un := ⟨_, rfl⟩
  obtain ⟨k2, hk2⟩ : ∃ k, k = 11 + un := ⟨_, rfl⟩
  have b1 : 18014398509481984 * 2 ^ un = 4503599627370496 * 2 ^ k1 := by rw [hk1, Nat.pow_add, ← Nat.mul_assoc]
  have b2 : 9223372036854775808 * 2 ^ un = 4503599627370496 * 2 ^ k2 := by rw [hk2, Nat.pow_add, ← Nat.mul_assoc]
  rw [b1, nr_exact (Nat.le_refl _) (by decide)] at a1
  rw [b2, nr_exact (Nat.le_refl _) (by decide)] at a2
  have hu := un_eq
  clear b1 b2
  generalize nr (X * 2 ^ un) 1 = z at *
  generalize un = v at *
  subst hu
  subst hk1 hk2
  constructor <;> omega
theorem or_one (x : Nat) (h : x < 18446744073709551616) : bits .or .u64 (x : Int) 1 = ((x / 2 * 2 + 1 : Nat) : Int) := by
  have := bits_or_u64_nat x 1 h (by omega)
  have e := Nat.two_pow_add_eq_or_of_lt (i := 1) (b := 1) (by decide) (x / 2)
  have e2 : x ||| 1 = x / 2 * 2 + 1 := by
    apply Nat.eq_of_testBit_eq
    intro i
    rw [Nat.mul_comm (x / 2) 2]
    rw [show 2 * (x / 2) + 1 = 2 ^ 1 * (x / 2) + 1 from rfl, e]
    rw [Nat.testBit_or, Nat.testBit_or]
    cases i with
    | zero => simp
    | succ i =>
      have : (2 ^ 1 * (x / 2)).testBit (i + 1) = x.testBit (i + 1) := by
        rw [Nat.testBit_two_pow_mul]
        simp [Nat.testBit_succ]
      rw [this]
  rw [e2] at this
  exact this
/-- the numbers of the quotient -/
structure SecN (n r top hi lo V X0 X F y : Nat) : Prop where
  r64 : r ≤ 64
  t1 : IntKind.u64.wrap ((n : Int) * 2 ^ r) = (top : Int)
  t2 : (top : Int) / 68719476736 = (hi : Int)
  t3 : IntKind.u64.wrap ((top : Int) * 268435456) = (lo : Int)
  hV : hi * 18446744073709551616 + lo = V
  bhi : hi < 1000000000
  blo : lo < 18446744073709551616
  x0 : V / 1000000000 = X0
  bx0 : X0 < 9223372036854775808
  x1 : V % 1000000000 = 0 → X = X0
  x2 : V % 1000000000 ≠ 0 → X = X0 / 2 * 2 + 1
  bx : X < 9223372036854775808
  f : nr (X * 2 ^ un) 1 = F
  fy : F = y + (r + 28) * 4503599627370496
  hy : y = secR n
  bF : 1074 * 4503599627370496 + 9007199254740992 ≤ F ∧ F ≤ 1085 * 4503599627370496 + 4503599627370496
theorem sec_nums (n : Nat) (h0 : 0 < n) (h : n < 18446744073709551616) : ∃ r top hi lo V X0 X F y, r = 63 - n.log2 ∧ SecN n r top hi lo V X0 X F y := by
  have l1 := log2_lo h0
  have l2 := log2_hi n
  have l3 : n.log2 ≤ 63 := by
    rcases Nat.lt_or_ge n.log2 64 with h3 | h3
    · omega
    · have := Nat.pow_le_pow_right (show 0 < 2 by omega) h3
      have e64 : (2 : Nat) ^ 64 = 18446744073709551616 := by decide +kernel
      omega
  obtain ⟨r, hr⟩ : ∃ r, r = 63 - n.log2 := ⟨_, rfl⟩
  have p1 : 2 ^ n.log2 * 2 ^ r = 9223372036854775808 := by rw [← Nat.pow_add, show n.log2 + r = 63 by omega]
  have p2 : 2 ^ (n.log2 + 1) * 2 ^ r = 18446744073709551616 := by rw [← Nat.pow_add, show n.log2 + 1 + r = 64 by omega]
  obtain ⟨top, htop⟩ : ∃ top, top = n * 2 ^ r := ⟨_, rfl⟩
  have b1 : 9223372036854775808 ≤ top := by rw [htop, ← p1]; exact Nat.mul_le_mul_right _ l1
  have b2 : top < 18446744073709551616 := by rw [htop, ← p2]; exact Nat.mul_lt_mul_of_pos_right l2 (Nat.two_pow_pos _)
  obtain ⟨V, hV⟩ : ∃ V, V = top * 268435456 := ⟨_, rfl⟩
  have e28 : (2 : Nat) ^ 28 = 268435456 := by decide +kernel
  have eV : V = n * 2 ^ (r + 28) := by rw [hV, htop, Nat.pow_add, e28, Nat.mul_assoc]
  have c1 : 18014398509481984 ≤ V / 1000000000 := by clear eV p1 p2 l1 l2 htop; omega
  have c2 : V / 1000000000 < 9223372036854775808 := by clear eV p1 p2 l1 l2 htop; omega
  have hX := sec_stuck (n := n) (r := r + 28) (X := FPlain.stuck (n * 2 ^ (r + 28)) 1000000000) h0 rfl (by rw [← eV]; exact c1)
  rw [← eV] at hX
  obtain ⟨X0, hX0⟩ : ∃ X0, X0 = V / 1000000000 := ⟨_, rfl⟩
  obtain ⟨X, hXe⟩ : ∃ X, X = FPlain.stuck V 1000000000 := ⟨_, rfl⟩
  have s1 : V % 1000000000 = 0 → X = X0 := by intro hz; rw [hXe, hX0]; unfold FPlain.stuck; rw [if_pos hz]
  have s2 : V % 1000000000 ≠ 0 → X = X0 / 2 * 2 + 1 := by intro hz; rw [hXe, hX0]; unfold FPlain.stuck; rw [if_neg hz]
  have s3 := stuck_div V 1000000000
  rw [← hXe, ← hX0] at s3
  rw [← hXe] at hX
  rw [← hX0] at c1 c2
  have bX : 18014398509481984 ≤ X ∧ X < 9223372036854775808 := by
    clear s1 s2 hX hXe hX0 eV hV p1 p2 l1 l2 htop
    constructor <;> omega
  have c4 : (n : Int) * 2 ^ r = (top : Int) := by rw [htop, Int.natCast_mul, Int.natCast_pow]; rfl
  have sr := sec_range bX.1 bX.2
  have r64 : r ≤ 64 := by clear hX s1 s2 s3 hXe hX0 eV p1 p2 l1 l2 htop c4 c1 c2 bX hV sr; omega
  obtain ⟨F, hF⟩ : ∃ F, nr (X * 2 ^ un) 1 = F := ⟨_, rfl⟩
  rw [hF] at hX sr
  obtain ⟨hi, hhi⟩ : ∃ hi, hi = top / 68719476736 := ⟨_, rfl⟩
  obtain ⟨lo, hlo⟩ : ∃ lo, lo = top * 268435456 % 18446744073709551616 := ⟨_, rfl⟩
  refine ⟨r, top, hi, lo, V, X0, X, F, secR n, hr, ⟨r64, ?_, ?_, ?_, ?_, ?_, ?_, hX0.symm, c2, s1, s2, bX.2, hF, hX, rfl, sr⟩⟩
  · rw [c4]; exact FDiv.wrap_small top b2
  · clear hX s1 s2 s3 hXe hX0 eV p1 p2 l1 l2 htop c4 c1 c2 bX hV sr hF hlo; omega
  · clear hX s1 s2 s3 hXe hX0 eV p1 p2 l1 l2 htop c4 c1 c2 bX hV sr hF hhi
    rw [IntKind.wrap_u64]; omega
  · clear hX s1 s2 s3 hXe hX0 eV p1 p2 l1 l2 htop c4 c1 c2 bX sr hF
    omega
  · clear hX s1 s2 s3 hXe hX0 eV p1 p2 l1 l2 htop c4 c1 c2 bX sr hF hlo hV
    omega
  · clear hX s1 s2 s3 hXe hX0 eV p1 p2 l1 l2 htop c4 c1 c2 bX sr hF hhi hV
    omega
theorem conv_u (n : Nat) (h : n < 18446744073709551616) (w : World) : (convert 22 24 (.int .u64 (n : Int))).run Try.prog w = .ok (.float .f64 (nr (n * 2 ^ un) 1)) w := by
  rw [← ofInt_pos n h]
  exact run_convert_int_float w _ _ .u64 .f64 _ (by kernel_rfl) (by kernel_rfl)
set_option maxHeartbeats 1000000 in
theorem seconds_zero (w : World) : Calls Try.prog 36 #[.int .u64 0] w fun e w' => e = .returned (.float .f64 0) ∧ Drew w w' := by
  obtain ⟨z, hz⟩ : ∃ z, z = 0 := ⟨_, rfl⟩
  have hD := fun w => Div64_any z z z (by omega) (by omega) (by omega) w
  rw [hz, Nat.zero_div, Nat.zero_mod] at hD
  have hL : ∀ w, Calls Try.prog 53 #[.int .u64 0] w fun e w' => e = .returned (.int .i64 64) ∧ w = w' := fun w => by
    have h := LeadingZeros64_any z (by omega) w
    rw [hz] at h
    exact h
  have hc := fun w => conv_u z (by omega) w
  rw [hz, Nat.zero_mul, nr_small (by omega)] at hc
  have hZ := Lib.hid (fun q w => Ldexp_zero q w)
  have HD := Lib.hid hD
  have HL := Lib.hid hL
  clear hD hL hz
  go_enter Try.func36, Try.ntmps36
  go_wp2_with (first
    | (go_at_call 53; refine (HL.out _).mono ?_; rintro e w' ⟨rfl, rfl⟩)
    | (go_at_call 54; refine (HD.out _).mono ?_; rintro e w' ⟨rfl, hw⟩)
    | (go_at_call 26; refine (hZ.out _ _).mono ?_; rintro e w' ⟨rfl, rfl⟩))
  go_ret
  exact ⟨rfl, hw⟩
theorem ld_parts (F y r : Nat) (hr : r ≤ 64) (fy : F = y + (r + 28) * 4503599627370496) (b1 : 1074 * 4503599627370496 + 9007199254740992 ≤ F) (b2 : F ≤ 1085 * 4503599627370496 + 4503599627370496) :
    ∃ T f E : Nat, F = T * 4503599627370496 + f ∧ 1 ≤ T ∧ T < 2047 ∧ f < 4503599627370496 ∧ (E : Int) = (T : Int) + -((r : Int) + 28) ∧ 53 ≤ E ∧ E ≤ 2046 ∧ E * 4503599627370496 + f = y := by
  obtain ⟨T, hT⟩ : ∃ T, T = F / 4503599627370496 := ⟨_, rfl⟩
  obtain ⟨f, hf⟩ : ∃ f, f = F % 4503599627370496 := ⟨_, rfl⟩
  have h1 : F = T * 4503599627370496 + f := by clear fy b1 b2; omega
  have h2 : f < 4503599627370496 := by rw [hf]; exact Nat.mod_lt _ (by decide)
  have h3 : 1076 ≤ T ∧ T ≤ 1086 := by clear fy h1 h2 hf; omega
  obtain ⟨c, hc⟩ : ∃ c, c = r + 28 := ⟨_, rfl⟩
  obtain ⟨E, hE⟩ : ∃ E, E + c = T := ⟨T - c, by clear fy b1 b2 hT hf h1 h2; omega⟩
  refine ⟨T, f, E, h1, by omega, by omega, h2, by clear fy b1 b2 hT hf h1 h2; omega, by clear fy b1 b2 hT hf h1 h2; omega, by clear fy b1 b2 hT hf h1 h2; omega, ?_⟩
  have e9 : E * 4503599627370496 + c * 4503599627370496 + f = y + c * 4503599627370496 := by rw [← Nat.add_mul, hE, ← h1, fy, hc]
  exact Nat.add_right_cancel (m := c * 4503599627370496) (by rw [← e9, Nat.add_right_comm])
theorem lz_of (n r : Nat) (h0 : 0 < n) (h : n < 18446744073709551616) (hr : r = 63 - n.log2) : (64 - (len n : Nat) : Int) = (r : Int) := by
  unfold len
  rw [if_neg (by omega)]
  have l1 := log2_lo h0
  have l3 : n.log2 ≤ 63 := by
    rcases Nat.lt_or_ge n.log2 64 with h3 | h3
    · omega
    · have := Nat.pow_le_pow_right (show 0 < 2 by omega) h3
      have e64 : (2 : Nat) ^ 64 = 18446744073709551616 := by decide +kernel
      omega
  omega
theorem sec_wraps (r : Nat) (hr : r ≤ 64) : wrap64 ((r : Int) + 28) = (r : Int) + 28 ∧ wrap64 (-((r : Int) + 28)) = -((r : Int) + 28) := ⟨wr (by omega), wr (by omega)⟩
set_option maxHeartbeats 1000000 in
theorem seconds_pos (n : Nat) (h0 : 0 < n) (h : n < 18446744073709551616) (w : World) : Calls Try.prog 36 #[.int .u64 n] w fun e w' => e = .returned (.float .f64 (secR n)) ∧ Drew w w' := by
  obtain ⟨r, top, hi, lo, V, X0, X, F, y, hr, r64, t1, t2, t3, hV, bhi, blo, x0, bx0, x1, x2, bx, hF, fy, hy, bF⟩ := sec_nums n h0 h
  rw [← hy]
  have hL := fun w => LeadingZeros64_any n h w
  rw [lz_of n r h0 h hr] at hL
  have hD := fun w => Div64_any hi lo V bhi blo hV w
  have hc := fun w => conv_u X (Nat.lt_trans bx (by decide)) w
  rw [hF] at hc
  obtain ⟨T, f, E, e1, e2, e3, e4, e5, e6, e7, e8⟩ := ld_parts F y r r64 fy bF.1 bF.2
  have hP := fun w => Ldexp_pos F y (-((r : Int) + 28)) w (ldexp_norm F T f E y (-((r : Int) + 28)) e1 e2 e3 e4 e5 e6 e7 e8 w)
  have HP := Lib.hid hP
  have HL := Lib.hid hL
  obtain ⟨g1, g2⟩ := sec_wraps r r64
  obtain ⟨k, hk⟩ : ∃ k : Int, k = -((r : Int) + 28) := ⟨_, rfl⟩
  by_cases hz : V % 1000000000 = 0
  · have ex := x1 hz
    rw [hz, x0] at hD
    have HD := Lib.hid hD
    clear hL hD hP e1 e2 e3 e4 e5 e6 e7 e8 x1 x2 hF fy hy bF bhi blo hr hz x0 hV h h0 bx0 bx
    subst ex
    go_enter Try.func36, Try.ntmps36
    go_wp2_with (first
      | (go_at_call 53; refine (HL.out _).mono ?_; rintro e w' ⟨rfl, rfl⟩)
      | (go_at_call 54; refine (HD.out _).mono ?_; rintro e w' ⟨rfl, hw⟩)
      | (go_at_call 26; refine (HP.out _).mono ?_; rintro e w' ⟨rfl, rfl⟩))
    go_ret
    exact ⟨rfl, hw⟩
  · have ex := x2 hz
    have ho := or_one X0 (Nat.lt_trans bx0 (by decide))
    rw [← ex] at ho
    have dz : (((V % 1000000000 : Nat) : Int) != 0) = true := by rw [bne_iff_ne]; intro e; exact hz (by omega)
    rw [x0] at hD
    generalize V % 1000000000 = q at *
    have HD := Lib.hid hD
    clear hL hD hP e1 e2 e3 e4 e5 e6 e7 e8 x1 x2 hF fy hy bF bhi blo hr hz x0 hV h h0 bx0 bx ex
    go_enter Try.func36, Try.ntmps36
    go_wp2_with (first
      | (go_at_call 53; refine (HL.out _).mono ?_; rintro e w' ⟨rfl, rfl⟩)
      | (go_at_call 54; refine (HD.out _).mono ?_; rintro e w' ⟨rfl, hw⟩)
      | (go_at_call 26; refine (HP.out _).mono ?_; rintro e w' ⟨rfl, rfl⟩))
    go_ret
    exact ⟨rfl, hw⟩
theorem seconds_any (n : Nat) (h : n < 18446744073709551616) (w : World) : Calls Try.prog 36 #[.int .u64 n] w fun e w' => e = .returned (.float .f64 (secR n)) ∧ Drew w w' := by
  rcases Nat.eq_zero_or_pos n with rfl | h0
  · rw [secR_zero]; exact seconds_zero w
  · exact seconds_pos n h0 h w
/-- the word of a time -/
def toW (ns : Int) : Nat := if ns < 0 then 9223372036854775808 + secR ns.natAbs else secR ns.natAbs
theorem secR_lt {n : Nat} (h : n < 18446744073709551616) : secR n < 9218868437227405312 := by
  rcases Nat.eq_zero_or_pos n with rfl | h0
  · rw [secR_zero]; decide
  · obtain ⟨r, top, hi, lo, V, X0, X, F, y, hr, r64, t1, t2, t3, hV, bhi, blo, x0, bx0, x1, x2, bx, hF, fy, hy, bF⟩ := sec_nums n h0 h
    rw [← hy]
    obtain ⟨_, b⟩ := bF
    clear t1 t2 t3 hV bhi blo x0 bx0 x1 x2 bx hF hy hr r64
    have h1 : y ≤ F := by rw [fy]; exact Nat.le_add_right _ _
    have h2 : F < 9218868437227405312 := Nat.lt_of_le_of_lt b (by decide)
    exact Nat.lt_of_le_of_lt h1 h2
theorem neg_word (r : Nat) (h : r < 9223372036854775808) : Op.negFloat .f64 r = 9223372036854775808 + r := by
  show r ^^^ 2 ^ 63 = _
  have e : (2 : Nat) ^ 63 = 9223372036854775808 := by decide +kernel
  have h2 := Nat.two_pow_add_eq_or_of_lt (i := 63) (b := r) (by rw [e]; exact h) 1
  rw [Nat.mul_one, e] at h2
  rw [e, h2]
  apply Nat.eq_of_testBit_eq
  intro i
  rw [Nat.testBit_or, Nat.testBit_xor, ← e, Nat.testBit_two_pow]
  by_cases hi : 63 = i
  · subst hi
    have : r.testBit 63 = false := Nat.testBit_lt_two_pow (by rw [e]; exact h)
    rw [this]; simp
  · simp [hi]
@[go_sem] theorem run_neg_float (b : Nat) (w : World) : (Op.unary .neg (.float .f64 b)).run Try.prog w = .ok (.float .f64 (Op.negFloat .f64 b)) w := rfl
set_option maxHeartbeats 400000 in
theorem To_any (ns : Int) (h1 : -9223372036854775808 ≤ ns) (h2 : ns < 9223372036854775808) (w : World) : Calls Try.prog 19 #[.int .i64 ns] w fun e w' => e = .returned (.float .f64 (toW ns)) ∧ Drew w w' := by
  have hS := fun w => seconds_any ns.natAbs (by omega) w
  have hl := secR_lt (n := ns.natAbs) (by omega)
  have HS := Lib.hid hS
  unfold toW
  by_cases hs : ns < 0
  · have d : decide (ns < 0) = true := by simpa using hs
    have g : IntKind.u64.wrap (wrap64 (-ns)) = (ns.natAbs : Int) := by
      rw [IntKind.wrap_u64]; unfold wrap64; omega
    rw [if_pos hs]
    have hn := neg_word (secR ns.natAbs) (Nat.lt_trans hl (by decide))
    generalize secR ns.natAbs = y at *
    generalize ns.natAbs = m at *
    clear hS hl hs h1 h2
    go_enter Try.func19, Try.ntmps19
    go_wp2_with (go_at_call 36; refine (HS.out _).mono ?_; rintro e w' ⟨rfl, hw⟩)
    go_ret
    exact ⟨rfl, hw⟩
  · have d : decide (ns < 0) = false := by simpa using hs
    obtain ⟨m, hm⟩ : ∃ m : Nat, ns = m := ⟨ns.toNat, by omega⟩
    subst hm
    rw [if_neg hs]
    rw [Int.natAbs_natCast] at HS ⊢
    clear hS hl hs h1
    go_enter Try.func19, Try.ntmps19
    go_wp2_with (go_at_call 36; refine (HS.out _).mono ?_; rintro e w' ⟨rfl, hw⟩)
    go_ret
    exact ⟨rfl, hw⟩
end Go.Proofs.Ythhihcmkjkofhaa.FSec
