/- The numbers of the document's To. -/
import Derived.Test.YthhihcmkjkofhaaFFacts
import Derived.Test.YthhihcmkjkofhaaFRows
namespace Go.Proofs.Ythhihcmkjkofhaa.FToN
open Go.RowKit FPlain FWord FNear FBits FExp FSec FFacts FRows

theorem rnd_two (a b s : Nat) (hb : 0 < b) (hs : 1 ≤ s) : rnd ((decide (a % b ≠ 0)).toNat + 2 * (a / b)) (2 ^ (s + 1)) = rnd a (b * 2 ^ s) := by
  have h1 := Nat.div_add_mod a b
  have h2 := Nat.mod_lt a hb
  by_cases h0 : a % b = 0
  · have e : (decide (a % b ≠ 0)).toNat = 0 := by simp [h0]
    rw [e, Nat.zero_add, Nat.pow_succ, Nat.mul_comm 2, rnd_scale _ _ _ (by decide)]
    rw [h0, Nat.add_zero] at h1
    conv => rhs; rw [← h1, Nat.mul_comm b (a / b), Nat.mul_comm b (2 ^ s)]
    exact (rnd_scale _ _ _ hb).symm
  · have e : (decide (a % b ≠ 0)).toNat = 1 := by simp [h0]
    obtain ⟨k, hk⟩ : ∃ k, s = k + 1 := ⟨s - 1, by omega⟩
    have h3 := rnd_stuck (a * 2) b k hb
    have e4 : b * 2 ^ (k + 2) = b * 2 ^ s * 2 := by rw [hk, Nat.pow_succ 2 (k + 1), Nat.mul_assoc]
    rw [e4, rnd_scale _ _ _ (by decide)] at h3
    rw [h3, e, hk]
    congr 1
    obtain ⟨q, hq⟩ : ∃ q, q = a / b := ⟨_, rfl⟩
    obtain ⟨r, hr⟩ : ∃ r, r = a % b := ⟨_, rfl⟩
    rw [← hq, ← hr] at h1
    rw [← hr] at h0 h2
    rw [← hq]
    have ea : a * 2 = b * (2 * q) + 2 * r := by rw [← h1, Nat.add_mul, Nat.mul_assoc, Nat.mul_comm q 2]; omega
    unfold FPlain.stuck
    rcases Nat.lt_or_ge (2 * r) b with h | h
    · have d1 : a * 2 / b = 2 * q := by rw [ea, Nat.mul_add_div hb, Nat.div_eq_of_lt h, Nat.add_zero]
      have d2 : a * 2 % b = 2 * r := by rw [ea, Nat.mul_add_mod, Nat.mod_eq_of_lt h]
      rw [d1, d2, if_neg (by omega)]; omega
    · have eb : b * (2 * q + 1) = b * (2 * q) + b := by rw [Nat.mul_add, Nat.mul_one]
      have ea2 : a * 2 = b * (2 * q + 1) + (2 * r - b) := by rw [ea, eb]; generalize b * (2 * q) = z; omega
      have d1 : a * 2 / b = 2 * q + 1 := by rw [ea2, Nat.mul_add_div hb, Nat.div_eq_of_lt (by omega), Nat.add_zero]
      rw [d1]
      split <;> omega
/-- the numbers of the document's way -/
structure ToN (n Q cut m T f E y : Nat) : Prop where
  hQ : Q = 2 ^ 100 * n / 1000000000
  hlen : FBits.len Q = cut + 53
  c1 : 1 ≤ cut
  c2 : cut ≤ 100
  hm : rnd ((decide (2 ^ 100 * n % 1000000000 ≠ 0)).toNat + 2 * Q) (2 ^ (cut + 1)) = m
  hm2 : m < 18446744073709551616
  small : ((decide (2 ^ 100 * n % 1000000000 ≠ 0)).toNat + 2 * Q) / 2 ^ (cut + 1) < 9223372036854775808
  hF : nr (m * 2 ^ un) 1 = T * 4503599627370496 + f
  t1 : 1 ≤ T
  t2 : T < 2047
  hf : f < 4503599627370496
  hE : (E : Int) = (T : Int) + ((cut : Int) - 100)
  e1 : 53 ≤ E
  e2 : E ≤ 2046
  hy : E * 4503599627370496 + f = y
  hs : y = secR n
theorem part_one (u m : Nat) (h : 4503599627370496 ≤ m) : u * 4503599627370496 + m = (u + 1) * 4503599627370496 + (m - 4503599627370496) := by
  rw [Nat.add_mul, Nat.one_mul]
  generalize u * 4503599627370496 = z
  omega
theorem part_two (u : Nat) : u * 4503599627370496 + 9007199254740992 = (u + 2) * 4503599627370496 + 0 := by
  rw [Nat.add_mul, Nat.add_zero]
theorem to_nums (n : Nat) (h0 : 0 < n) (h : n < 18446744073709551616) : ∃ Q cut m T f E y, ToN n Q cut m T f E y := by
  obtain ⟨p, hp⟩ : ∃ p, p = 2 ^ 100 * n := ⟨_, rfl⟩
  obtain ⟨Q, hQ⟩ : ∃ Q, Q = p / 1000000000 := ⟨_, rfl⟩
  have e100 : (2 : Nat) ^ 100 = 1267650600228229401496703205376 := by decide +kernel
  have q1 : 9007199254740992 ≤ Q := by
    rw [hQ, Nat.le_div_iff_mul_le (by decide), hp, e100]
    have := Nat.mul_le_mul_left 1267650600228229401496703205376 h0
    omega
  have q2 : Q < 2 ^ 150 := by
    have e150 : (2 : Nat) ^ 150 = 1427247692705959881058285969449495136382746624 := by decide +kernel
    rw [hQ, Nat.div_lt_iff_lt_mul (by decide), hp, e100, e150]
    have := Nat.mul_lt_mul_of_pos_left h (show 0 < 1267650600228229401496703205376 by decide)
    omega
  have l1 := log2_lo (n := Q) (by omega)
  have l2 := log2_hi Q
  have hl : 53 ≤ Q.log2 := by
    have := log2_mono q1
    rw [log2_is (n := 9007199254740992) (k := 53) (by decide) (by decide)] at this
    exact this
  have hl2 : Q.log2 < 150 := (Nat.pow_lt_pow_iff_right (by decide : 1 < 2)).1 (Nat.lt_of_le_of_lt l1 q2)
  obtain ⟨cut, hc⟩ : ∃ cut, Q.log2 = cut + 52 := ⟨Q.log2 - 52, by omega⟩
  have hcp := Nat.two_pow_pos cut
  obtain ⟨m, hm⟩ : ∃ m, m = rnd p (1000000000 * 2 ^ cut) := ⟨_, rfl⟩
  have hm2 : rnd ((decide (p % 1000000000 ≠ 0)).toNat + 2 * Q) (2 ^ (cut + 1)) = m := by rw [hQ, rnd_two p 1000000000 cut (by decide) (by omega), hm]
  have hpart := nr_part (a := p) (b := 1000000000) (by decide)
  rw [← hQ, hc, show cut + 52 - 52 = cut by omega, ← hm] at hpart
  have m1 : 4503599627370496 ≤ m := by
    rcases hpart.1 with h | h
    · exact h
    · omega
  have m2 := hpart.2
  obtain ⟨u, hu⟩ : ∃ u, 100 + u = un := ⟨un - 100, by have := un_eq; omega⟩
  have hsec : secR n = (u + cut) * 4503599627370496 + m := by
    have e1 : n * 2 ^ un = p * 2 ^ u := by
      rw [hp, Nat.mul_comm (2 ^ 100) n, Nat.mul_assoc, ← Nat.pow_add, hu]
    unfold secR
    rw [e1, nr_up u (by decide) (by rw [← hQ]; omega)]
    unfold nr
    rw [← hQ, hc, show cut + 52 - 52 = cut by omega, ← hm, Nat.add_mul, Nat.add_assoc]
  have hsm : ((decide (p % 1000000000 ≠ 0)).toNat + 2 * Q) / 2 ^ (cut + 1) < 9223372036854775808 := by
    rw [Nat.div_lt_iff_lt_mul (Nat.two_pow_pos _)]
    have h53 : Q < 9007199254740992 * 2 ^ cut := by
      rw [hc] at l2
      have e : 2 ^ (cut + 52 + 1) = 9007199254740992 * 2 ^ cut := by rw [Nat.add_assoc, Nat.pow_add, Nat.mul_comm]
      rw [e] at l2; exact l2
    have hd : (decide (p % 1000000000 ≠ 0)).toNat ≤ 1 := by cases decide (p % 1000000000 ≠ 0) <;> simp
    rw [Nat.pow_succ]
    generalize 2 ^ cut = z at *
    generalize (decide (p % 1000000000 ≠ 0)).toNat = d at *
    clear hm2 hm hpart hsec hQ hp l1 l2 e100 q1 q2
    omega
  have hlen : FBits.len Q = cut + 53 := by unfold FBits.len; rw [if_neg (by omega), hc]
  have hF := nr_exact (m := m) (t := un) m1 m2
  rw [hp] at hm2 hsm hQ
  have hue := un_eq
  have hm64 : m < 18446744073709551616 := Nat.lt_of_le_of_lt m2 (by decide)
  have hc1 : 1 ≤ cut := by omega
  have hc2 : cut ≤ 100 := by omega
  clear hpart hm l1 l2 hl hl2 hc q1 q2 e100 hp hcp
  rcases Nat.lt_or_ge m 9007199254740992 with hlt | hge
  · refine ⟨Q, cut, m, un + 1, m - 4503599627370496, u + cut + 1, secR n, hQ, hlen, hc1, hc2, hm2, hm64, hsm, ?_, by omega, by omega, by omega, by omega, by omega, by omega, ?_, rfl⟩
    · rw [hF]; exact part_one un m m1
    · rw [hsec]; exact (part_one (u + cut) m m1).symm
  · have hme : m = 9007199254740992 := by omega
    refine ⟨Q, cut, m, un + 2, 0, u + cut + 2, secR n, hQ, hlen, hc1, hc2, hm2, hm64, hsm, ?_, by omega, by omega, by decide, by omega, by omega, by omega, ?_, rfl⟩
    · rw [hF, hme]; exact part_two un
    · rw [hsec, hme]; exact (part_two (u + cut)).symm
end Go.Proofs.Ythhihcmkjkofhaa.FToN
