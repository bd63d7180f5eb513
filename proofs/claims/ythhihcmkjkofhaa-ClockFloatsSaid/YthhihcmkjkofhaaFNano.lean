/- clock.nanoseconds: an amount's whole nanoseconds. -/
import Derived.Test.YthhihcmkjkofhaaFCut
namespace Go.Proofs.Ythhihcmkjkofhaa.FNano
open Go.RowKit FPlain FWord FNear FBits FMath FExp FLd FCut

/-- the whole nanoseconds of an amount -/
def fromN (x : Nat) : Nat := rnd (amt x * 1000000000) (2 ^ un)
theorem rnd_halves (a b : Nat) (hb : 0 < b) : rnd a b = 2 * a / b / 2 + (if 2 * a / b % 2 = 1 ∧ (2 * a % b ≠ 0 ∨ 2 * a / b / 2 % 2 = 1) then 1 else 0) := by
  have h1 := Nat.div_add_mod a b
  have h2 := Nat.mod_lt a hb
  unfold rnd
  obtain ⟨q, hq⟩ : ∃ q, q = a / b := ⟨_, rfl⟩
  obtain ⟨r, hr⟩ : ∃ r, r = a % b := ⟨_, rfl⟩
  rw [← hq, ← hr] at h1 ⊢
  rw [← hr] at h2
  rcases Nat.lt_or_ge (2 * r) b with h | h
  · have e0 : 2 * a = b * (2 * q) + 2 * r := by rw [← h1, Nat.mul_left_comm, Nat.mul_add]
    have e1 : 2 * a / b = 2 * q := by rw [e0, Nat.mul_add_div hb, Nat.div_eq_of_lt h, Nat.add_zero]
    rw [e1, if_neg (by omega), if_neg (by omega)]
    omega
  · have e0 : 2 * a = b * (2 * q + 1) + (2 * r - b) := by rw [← h1, Nat.mul_add, Nat.mul_add, Nat.mul_one, Nat.mul_left_comm b]; generalize b * q = z; omega
    have e1 : 2 * a / b = 2 * q + 1 := by rw [e0, Nat.mul_add_div hb, Nat.div_eq_of_lt (by omega), Nat.add_zero]
    have e2 : 2 * a % b = 2 * r - b := by rw [e0, Nat.mul_add_mod, Nat.mod_eq_of_lt (by omega)]
    rw [e1, e2]
    have e3 : (2 * q + 1) / 2 = q := by omega
    have e4 : (2 * q + 1) % 2 = 1 := by omega
    rw [e3]
    have : (b < 2 * r ∨ b = 2 * r ∧ q % 2 = 1) ↔ ((2 * q + 1) % 2 = 1 ∧ (2 * r - b ≠ 0 ∨ q % 2 = 1)) := by omega
    simp only [this]
/-- its parts -/
theorem fromN_parts {x : Nat} (h : 0 < x) (h2 : x < 4755801206503243776) : fromN x = rnd (mant x * 1000000000) (2 ^ drop x) := by
  have e := (mant_drop h h2).1
  unfold fromN
  have p1 := Nat.two_pow_pos (drop x)
  have p2 := Nat.two_pow_pos un
  rw [← rnd_scale (amt x * 1000000000) (2 ^ un) (2 ^ drop x) p1, ← rnd_scale (mant x * 1000000000) (2 ^ drop x) (2 ^ un) p2]
  have e1 : amt x * 1000000000 * 2 ^ drop x = mant x * 1000000000 * 2 ^ un := by
    rw [Nat.mul_right_comm, e, Nat.mul_right_comm]
  rw [e1, Nat.mul_comm (2 ^ un)]
theorem fromN_zero : fromN 0 = 0 := by
  unfold fromN
  rw [amt_zero, Nat.zero_mul]
  have := rnd_exact 0 (2 ^ un) (Nat.two_pow_pos _)
  rw [Nat.zero_mul] at this
  exact this
theorem limit_amt : amt 4755801206503243776 = 8589934592 * 2 ^ un := by
  obtain ⟨t, ht⟩ : ∃ t, t = 1055 := ⟨_, rfl⟩
  have h := amt_part (t := t) (m := 4503599627370496) (by omega) (by omega)
  have e : t * 4503599627370496 + 4503599627370496 = 4755801206503243776 := by rw [ht]
  rw [e] at h
  have e2 : (4503599627370496 : Nat) = 2 ^ 52 := by decide +kernel
  have e3 : (8589934592 : Nat) = 2 ^ 33 := by decide +kernel
  have hu := un_eq
  rw [h, e2, e3, ← Nat.pow_add, ← Nat.pow_add]
  have e4 : 52 + t = 33 + un := by omega
  rw [e4]
theorem fromN_le {x : Nat} (h2 : x < 4755801206503243776) : fromN x ≤ 8589934592000000000 := by
  have h := Nat.le_of_lt (amt_lt h2)
  rw [limit_amt] at h
  unfold fromN
  have h3 : amt x * 1000000000 ≤ 8589934592000000000 * 2 ^ un := by
    have h4 := Nat.mul_le_mul_right 1000000000 h
    generalize 2 ^ un = U at *
    generalize amt x = z at *
    omega
  exact (rnd_between (Nat.two_pow_pos _) (by rw [Nat.zero_mul]; exact Nat.zero_le _) h3).2
theorem conv_part (y m : Nat) (w : World) (h1 : y = 1074 * 4503599627370496 + m) (h2 : 4503599627370496 ≤ m) (h3 : m < 9007199254740992) : (convert 24 22 (.float .f64 y)).run Try.prog w = .ok (.int .u64 (m : Int)) w :=
  run_convert_float_int w _ _ .f64 .u64 _ _ (by kernel_rfl) (by kernel_rfl) (toInt_part h1 h2 h3)
theorem conv_zero (w : World) : (convert 24 22 (.float .f64 0)).run Try.prog w = .ok (.int .u64 0) w :=
  run_convert_float_int w _ _ .f64 .u64 _ _ (by kernel_rfl) (by kernel_rfl) toInt_zero
theorem ret_u {a b : Int} (h : a = b) : Ending.returned (.int .u64 a) = .returned (.int .u64 b) := by rw [h]
set_option maxHeartbeats 400000 in
theorem nano_zero (w : World) : Calls Try.prog 30 #[.float .f64 0] w fun e w' => e = .returned (.int .u64 0) ∧ Drew w w' := by
  have c := conv_zero w
  obtain ⟨z, hz⟩ : ∃ z, z = 0 := ⟨_, rfl⟩
  have hc := cut_any z z 53 z (by omega) (by omega) (by omega) (by omega) (by omega) (by rw [hz, Nat.zero_div]; omega) w
  unfold CutIs at hc
  rw [hz, Nat.zero_div, Nat.zero_mod] at hc
  go_enter Try.func30, Try.ntmps30
  go_wp2_with (first
    | (go_at_call 47; refine (Frexp_pos 0 0 0 _ (frexp_zero _)).mono ?_; rintro e w' ⟨rfl, rfl⟩)
    | (go_at_call 26; refine (Ldexp_zero _ _).mono ?_; rintro e w' ⟨rfl, rfl⟩)
    | (go_at_call 48; refine (Mul64_any 0 2000000000 (by omega) (by omega) _).mono ?_; rintro e w' ⟨rfl, rfl⟩)
    | (go_at_call 49; refine hc.mono ?_; rintro e w' ⟨rfl, hw⟩))
  go_ret
  exact ⟨rfl, hw⟩
/-- the rounding, as it is reckoned -/
theorem nano_num (x V A : Nat) (hx : 0 < x) (hx2 : x < 4755801206503243776) (hV : V = mant x * 2000000000) (hA : A = V / 2 ^ drop x) : fromN x = A / 2 + (if A % 2 = 1 ∧ (V % 2 ^ drop x ≠ 0 ∨ A / 2 % 2 = 1) then 1 else 0) := by
  rw [fromN_parts hx hx2, rnd_halves _ _ (Nat.two_pow_pos _)]
  have e : 2 * (mant x * 1000000000) = V := by rw [hV]; omega
  rw [e, ← hA]
set_option maxHeartbeats 400000 in
theorem nano_any (x : Nat) (hx : 0 < x) (hx2 : x < 4755801206503243776) (w : World) : Calls Try.prog 30 #[.float .f64 x] w fun e w' => e = .returned (.int .u64 (fromN x : Nat)) ∧ Drew w w' := by
  obtain ⟨m1, m2⟩ := mant_in hx
  obtain ⟨md, n1, n2⟩ := mant_drop hx hx2
  have hF := Frexp_any x hx hx2 w
  have hle := fromN_le hx2
  obtain ⟨m, hm⟩ : ∃ m, m = mant x := ⟨_, rfl⟩
  obtain ⟨d, hd⟩ : ∃ d, d = drop x := ⟨_, rfl⟩
  rw [← hm] at m1 m2 hF
  rw [← hd] at n1 n2 hF
  obtain ⟨r, hr⟩ : ∃ r, r = 1021 * 4503599627370496 + m := ⟨_, rfl⟩
  obtain ⟨y, hy⟩ : ∃ y, y = 1074 * 4503599627370496 + m := ⟨_, rfl⟩
  rw [← hr] at hF
  have hL := fun w => Ldexp_pos r y 53 w (ldexp_norm r 1022 (m - 4503599627370496) 1075 y 53 (by omega) (by omega) (by omega) (by omega) (by omega) (by omega) (by omega) (by omega) w)
  have hc := fun w => conv_part y m w hy m1 m2
  obtain ⟨V, hV⟩ : ∃ V, V = m * 2000000000 := ⟨_, rfl⟩
  have hM := fun w => Mul64_any m 2000000000 (by omega) (by omega) w
  rw [← hV] at hM
  obtain ⟨hi, hhi⟩ : ∃ hi, hi = V / 18446744073709551616 := ⟨_, rfl⟩
  obtain ⟨lo, hlo⟩ : ∃ lo, lo = V % 18446744073709551616 := ⟨_, rfl⟩
  rw [← hhi, ← hlo] at hM
  have hC := fun w (k : Int) (hk : k = (d : Int)) => (hk ▸ cut_any hi lo d V (by omega) (by omega) (by omega) (by omega) (by omega) (by
    have h20 : 2 ^ 20 ≤ 2 ^ d := Nat.pow_le_pow_right (by omega) n1
    rw [Nat.div_lt_iff_lt_mul (Nat.two_pow_pos _)]
    omega) w : Calls Try.prog 49 #[.int .u64 hi, .int .u64 lo, .int .i64 k] w (CutIs V d w))
  have hn := nano_num x V (V / 2 ^ d) hx hx2 (by rw [← hm]; exact hV) (by rw [← hd])
  rw [← hd] at hn
  have hAb : V / 2 ^ d < 18446744073709551616 := by
    have h20 : 2 ^ 20 ≤ 2 ^ d := Nat.pow_le_pow_right (by omega) n1
    rw [Nat.div_lt_iff_lt_mul (Nat.two_pow_pos _)]
    omega
  unfold CutIs at hC
  obtain ⟨A, hA⟩ : ∃ A, A = V / 2 ^ d := ⟨_, rfl⟩
  rw [← hA] at hn hAb hC
  obtain ⟨q, hq⟩ : ∃ q, q = decide (V % 2 ^ d ≠ 0) := ⟨_, rfl⟩
  rw [← hq] at hC
  have hq2 : (V % 2 ^ d ≠ 0) ↔ q = true := by rw [hq]; simp
  simp only [hq2] at hn
  have e53 : 53 - (53 - (d : Int)) = (d : Int) := by omega
  have HW := Lib.hid (wr (n := (d : Int)) (by omega))
  have HF := Lib.hid hF
  have HL := Lib.hid hL
  have HM := Lib.hid hM
  have HC := Lib.hid hC
  generalize fromN x = z at *
  clear hF hL hM hC hq hq2 hA hV hy hr hm hd md m1 m2 n1 n2 hx hx2 hhi hlo
  by_cases c1 : A % 2 = 1
  · have b1 : ((A : Int) % 2 == 1) = true := by rw [beq_iff_eq]; omega
    cases q
    · by_cases c2 : A / 2 % 2 = 1
      · have b2 : ((A : Int) / 2 % 2 == 1) = true := by rw [beq_iff_eq]; omega
        have hz : (A : Int) / 2 + 1 = z := by rw [hn, if_pos ⟨c1, .inr c2⟩]; omega
        have Z := Lib.hid hz
        clear hn c1 c2 hz
        go_enter Try.func30, Try.ntmps30
        go_wp2_with (first
          | (go_at_call 47; refine HF.out.mono ?_; rintro e w' ⟨rfl, rfl⟩)
          | (go_at_call 26; refine (HL.out _).mono ?_; rintro e w' ⟨rfl, rfl⟩)
          | (go_at_call 48; refine (HM.out _).mono ?_; rintro e w' ⟨rfl, rfl⟩)
          | (go_at_call 49; refine (HC.out _ _ HW.out).mono ?_; rintro e w' ⟨rfl, hw⟩))
        go_ret
        exact ⟨ret_u Z.out, hw⟩
      · have b2 : ((A : Int) / 2 % 2 == 1) = false := by rw [beq_eq_false_iff_ne]; omega
        have hz : (A : Int) / 2 = z := by rw [hn, if_neg (by rintro ⟨_, h | h⟩; exact absurd h (by decide); exact c2 h)]; omega
        have Z := Lib.hid hz
        clear hn c1 c2 hz
        go_enter Try.func30, Try.ntmps30
        go_wp2_with (first
          | (go_at_call 47; refine HF.out.mono ?_; rintro e w' ⟨rfl, rfl⟩)
          | (go_at_call 26; refine (HL.out _).mono ?_; rintro e w' ⟨rfl, rfl⟩)
          | (go_at_call 48; refine (HM.out _).mono ?_; rintro e w' ⟨rfl, rfl⟩)
          | (go_at_call 49; refine (HC.out _ _ HW.out).mono ?_; rintro e w' ⟨rfl, hw⟩))
        go_ret
        exact ⟨ret_u Z.out, hw⟩
    · have hz : (A : Int) / 2 + 1 = z := by rw [hn, if_pos ⟨c1, .inl rfl⟩]; omega
      have Z := Lib.hid hz
      clear hn c1 hz
      go_enter Try.func30, Try.ntmps30
      go_wp2_with (first
        | (go_at_call 47; refine HF.out.mono ?_; rintro e w' ⟨rfl, rfl⟩)
        | (go_at_call 26; refine (HL.out _).mono ?_; rintro e w' ⟨rfl, rfl⟩)
        | (go_at_call 48; refine (HM.out _).mono ?_; rintro e w' ⟨rfl, rfl⟩)
        | (go_at_call 49; refine (HC.out _ _ HW.out).mono ?_; rintro e w' ⟨rfl, hw⟩))
      go_ret
      exact ⟨ret_u Z.out, hw⟩
  · have b1 : ((A : Int) % 2 == 1) = false := by rw [beq_eq_false_iff_ne]; omega
    have hz : (A : Int) / 2 = z := by rw [hn, if_neg (by rintro ⟨h, _⟩; exact c1 h)]; omega
    have Z := Lib.hid hz
    clear hn c1 hz
    go_enter Try.func30, Try.ntmps30
    go_wp2_with (first
      | (go_at_call 47; refine HF.out.mono ?_; rintro e w' ⟨rfl, rfl⟩)
      | (go_at_call 26; refine (HL.out _).mono ?_; rintro e w' ⟨rfl, rfl⟩)
      | (go_at_call 48; refine (HM.out _).mono ?_; rintro e w' ⟨rfl, rfl⟩)
      | (go_at_call 49; refine (HC.out _ _ HW.out).mono ?_; rintro e w' ⟨rfl, hw⟩))
    go_ret
    exact ⟨ret_u Z.out, hw⟩
theorem nanoseconds_any (x : Nat) (hx2 : x < 4755801206503243776) (w : World) : Calls Try.prog 30 #[.float .f64 x] w fun e w' => e = .returned (.int .u64 (fromN x : Nat)) ∧ Drew w w' := by
  rcases Nat.eq_zero_or_pos x with rfl | h
  · rw [fromN_zero]
    exact nano_zero w
  · exact nano_any x h hx2 w
end Go.Proofs.Ythhihcmkjkofhaa.FNano
