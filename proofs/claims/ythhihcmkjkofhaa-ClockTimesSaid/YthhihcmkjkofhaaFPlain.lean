/- Floats of 64 bits in plain mathematics: rungs, amounts (in units of 2 to the power of -1074), order, rounding. Nothing of the program. -/
import Derived.Laws.FloatBits
namespace Go.Proofs.Ythhihcmkjkofhaa.FPlain

/-- a by b to the nearest whole number, of two the even one -/
def rnd (a b : Nat) : Nat := a / b + (if b < 2 * (a % b) ∨ b = 2 * (a % b) ∧ a / b % 2 = 1 then 1 else 0)

theorem log2_is {n k : Nat} (h1 : 2 ^ k ≤ n) (h2 : n < 2 ^ (k + 1)) : n.log2 = k := by
  have hn : n ≠ 0 := by have := Nat.two_pow_pos k; omega
  exact (Nat.log2_eq_iff hn).2 ⟨h1, h2⟩
theorem log2_lo {n : Nat} (h : 0 < n) : 2 ^ n.log2 ≤ n := Nat.log2_self_le (by omega)
theorem log2_hi (n : Nat) : n < 2 ^ (n.log2 + 1) := Nat.lt_log2_self
theorem log2_shift {n : Nat} (h : 0 < n) (k : Nat) : (n * 2 ^ k).log2 = n.log2 + k := by
  have h1 := log2_lo h
  have h2 := log2_hi n
  have hk := Nat.two_pow_pos k
  refine log2_is ?_ ?_
  · rw [Nat.pow_add]; exact Nat.mul_le_mul_right _ h1
  · have : n.log2 + k + 1 = (n.log2 + 1) + k := by omega
    rw [this, Nat.pow_add]; exact Nat.mul_lt_mul_of_pos_right h2 hk
theorem log2_mono {a b : Nat} (h : a ≤ b) : a.log2 ≤ b.log2 := by
  rcases Nat.eq_zero_or_pos a with rfl | ha
  · simp
  · have h1 := log2_lo ha
    have h2 := log2_hi b
    apply Nat.le_of_lt_succ
    exact (Nat.pow_lt_pow_iff_right (by decide : 1 < 2)).1 (by omega : 2 ^ a.log2 < 2 ^ (b.log2 + 1))

theorem rnd_scale (a b c : Nat) (hc : 0 < c) : rnd (a * c) (b * c) = rnd a b := by
  unfold rnd
  rw [Nat.mul_div_mul_right _ _ hc, Nat.mul_mod_mul_right]
  have e : 2 * (a % b * c) = (2 * (a % b)) * c := by rw [Nat.mul_assoc]
  rw [e]
  have h1 : (b * c < 2 * (a % b) * c) ↔ (b < 2 * (a % b)) := Nat.mul_lt_mul_right hc
  have h2 : (b * c = 2 * (a % b) * c) ↔ (b = 2 * (a % b)) := Nat.mul_right_cancel_iff hc
  simp only [h1, h2]
theorem rnd_one (a : Nat) : rnd a 1 = a := by simp [rnd, Nat.mod_one]
theorem rnd_exact (a b : Nat) (hb : 0 < b) : rnd (a * b) b = a := by
  have := rnd_scale a 1 b hb
  rw [Nat.one_mul] at this
  rw [this, rnd_one]
theorem rnd_le (a b : Nat) : a / b ≤ rnd a b := by unfold rnd; omega
theorem rnd_ge (a b : Nat) : rnd a b ≤ a / b + 1 := by unfold rnd; split <;> omega
/-- no whole number is nearer -/
theorem rnd_near {a b : Nat} (hb : 0 < b) : 2 * a ≤ (2 * rnd a b + 1) * b ∧ 2 * (rnd a b * b) ≤ 2 * a + b := by
  have h1 := Nat.div_add_mod a b
  have h2 := Nat.mod_lt a hb
  unfold rnd
  generalize a / b = q at *
  generalize a % b = r at *
  have e1 : b * q = q * b := Nat.mul_comm _ _
  rw [e1] at h1
  split
  · rename_i h
    have e2 : (q + 1) * b = q * b + b := by rw [Nat.add_mul, Nat.one_mul]
    have e3 : (2 * (q + 1) + 1) * b = 2 * (q * b) + 3 * b := by rw [Nat.add_mul, Nat.mul_assoc, e2]; omega
    rw [e2, e3]
    generalize q * b = z at *
    omega
  · rename_i h
    have e3 : (2 * (q + 0) + 1) * b = 2 * (q * b) + b := by rw [Nat.add_mul, Nat.mul_assoc]; simp
    rw [e3]
    simp only [Nat.add_zero]
    generalize q * b = z at *
    omega
theorem rnd_of_near {a b m : Nat} (hb : 0 < b) (h1 : 2 * a < (2 * m + 1) * b) (h2 : 2 * (m * b) < 2 * a + b) : rnd a b = m := by
  obtain ⟨h3, h4⟩ := rnd_near (a := a) hb
  generalize rnd a b = k at *
  rcases Nat.lt_trichotomy k m with h | h | h
  · exfalso
    have : (2 * k + 1) * b ≤ (2 * m - 1) * b := Nat.mul_le_mul_right _ (by omega)
    have e : (2 * m - 1) * b + b = 2 * (m * b) := by
      rw [← Nat.mul_assoc]
      have : 2 * m = (2 * m - 1) + 1 := by omega
      conv => rhs; rw [this, Nat.add_mul, Nat.one_mul]
    omega
  · exact h
  · exfalso
    have : (m + 1) * b ≤ k * b := Nat.mul_le_mul_right _ (by omega)
    have e : (2 * m + 1) * b + b = 2 * ((m + 1) * b) := by
      rw [← Nat.mul_assoc, show 2 * (m + 1) = (2 * m + 1) + 1 by omega]
      conv => rhs; rw [Nat.add_mul, Nat.one_mul]
    omega
theorem rnd_mono {a c b : Nat} (hb : 0 < b) (h : a ≤ c) : rnd a b ≤ rnd c b := by
  rcases Nat.lt_or_ge (rnd c b) (rnd a b) with hlt | hge
  · exfalso
    have hq : a / b ≤ c / b := Nat.div_le_div_right h
    have h1 := rnd_ge a b
    have h2 := rnd_le c b
    have hq2 : a / b = c / b := by omega
    have h3 := Nat.div_add_mod a b
    have h4 := Nat.div_add_mod c b
    rw [hq2] at h3
    have hr : a % b ≤ c % b := by omega
    unfold rnd at hlt
    rw [hq2] at hlt
    have hr2 : c % b < b := Nat.mod_lt _ hb
    split at hlt <;> split at hlt <;> omega
  · exact hge
theorem rnd_between {a b lo hi : Nat} (hb : 0 < b) (h1 : lo * b ≤ a) (h2 : a ≤ hi * b) : lo ≤ rnd a b ∧ rnd a b ≤ hi := by
  have := rnd_mono hb h1
  have := rnd_mono hb h2
  rw [rnd_exact _ _ hb] at *
  omega
/-- what is left over said by the last bit alone -/
def stuck (a b : Nat) : Nat := if a % b = 0 then a / b else (a / b) / 2 * 2 + 1
theorem rnd_stuck (a b s : Nat) (hb : 0 < b) : rnd a (b * 2 ^ (s + 2)) = rnd (stuck a b) (2 ^ (s + 2)) := by
  have h1 := Nat.div_add_mod a b
  have h2 := Nat.mod_lt a hb
  obtain ⟨h, hh⟩ : ∃ h, h = 2 ^ s := ⟨_, rfl⟩
  have hp : 0 < h := by rw [hh]; exact Nat.two_pow_pos _
  have e4 : 2 ^ (s + 2) = 4 * h := by rw [hh, Nat.pow_add, Nat.mul_comm]
  rw [e4]
  unfold stuck
  split
  · rename_i h0
    rw [h0, Nat.add_zero] at h1
    conv => lhs; rw [← h1, Nat.mul_comm b (4 * h), Nat.mul_comm b (a / b)]
    exact rnd_scale _ _ _ hb
  · rename_i h0
    have eq1 : a / (b * (4 * h)) = a / b / (4 * h) := (Nat.div_div_eq_div_mul _ _ _).symm
    have er1 : a % (b * (4 * h)) = b * (a / b % (4 * h)) + a % b := by
      rw [Nat.mod_mul]; omega
    obtain ⟨u, hu⟩ : ∃ u, u = a / b % (4 * h) := ⟨_, rfl⟩
    obtain ⟨v, hv⟩ : ∃ v, v = a / b / (4 * h) := ⟨_, rfl⟩
    have hq := Nat.div_add_mod (a / b) (4 * h)
    rw [← hu, ← hv] at hq
    have hul : u < 4 * h := by rw [hu]; exact Nat.mod_lt _ (by omega)
    -- the stuck number's parts
    have e5 : (a / b) / 2 * 2 + 1 = (4 * h) * v + (u / 2 * 2 + 1) := by
      rw [← hq]
      have : 4 * h * v = 2 * (2 * h * v) := by rw [← Nat.mul_assoc, ← Nat.mul_assoc]
      rw [this]
      generalize 2 * h * v = z
      omega
    have e6 : (a / b / 2 * 2 + 1) / (4 * h) = v := by
      rw [e5, Nat.mul_add_div (by omega)]
      have : (u / 2 * 2 + 1) / (4 * h) = 0 := Nat.div_eq_of_lt (by omega)
      omega
    have e7 : (a / b / 2 * 2 + 1) % (4 * h) = u / 2 * 2 + 1 := by
      rw [e5, Nat.mul_add_mod]
      exact Nat.mod_eq_of_lt (by omega)
    unfold rnd
    rw [eq1, er1, e6, e7, ← hu, ← hv]
    have hr : 0 < a % b := by omega
    generalize a % b = r at *
    have c1 : (b * (4 * h) < 2 * (b * u + r)) ↔ 2 * h ≤ u := by
      constructor
      · intro hx
        rcases Nat.lt_or_ge u (2 * h) with hlt | hge
        · exfalso
          have : b * (u + 1) ≤ b * (2 * h) := Nat.mul_le_mul_left _ (by omega)
          have e8 : b * (4 * h) = 2 * (b * (2 * h)) := by rw [show 4 * h = 2 * (2 * h) by omega, Nat.mul_left_comm]
          rw [Nat.mul_add, Nat.mul_one] at this
          generalize b * (2 * h) = z at *
          generalize b * u = y at *
          omega
        · exact hge
      · intro hx
        have : b * (2 * h) ≤ b * u := Nat.mul_le_mul_left _ hx
        have e8 : b * (4 * h) = 2 * (b * (2 * h)) := by rw [show 4 * h = 2 * (2 * h) by omega, Nat.mul_left_comm]
        generalize b * (2 * h) = z at *
        generalize b * u = y at *
        omega
    have c2 : ¬ (b * (4 * h) = 2 * (b * u + r)) := by
      intro hx
      have e8 : b * (4 * h) = 2 * (b * (2 * h)) := by rw [show 4 * h = 2 * (2 * h) by omega, Nat.mul_left_comm]
      rcases Nat.lt_or_ge u (2 * h) with hlt | hge
      · have : b * (u + 1) ≤ b * (2 * h) := Nat.mul_le_mul_left _ (by omega)
        rw [Nat.mul_add, Nat.mul_one] at this
        generalize b * (2 * h) = z at *
        generalize b * u = y at *
        omega
      · have : b * (2 * h) ≤ b * u := Nat.mul_le_mul_left _ hge
        generalize b * (2 * h) = z at *
        generalize b * u = y at *
        omega
    have c3 : (4 * h < 2 * (u / 2 * 2 + 1)) ↔ 2 * h ≤ u := by omega
    have c4 : ¬ (4 * h = 2 * (u / 2 * 2 + 1)) := by omega
    simp only [c1, c2, c3, c4]
theorem stuck_div (a b : Nat) : stuck a b / 2 = a / b / 2 := by unfold stuck; split <;> omega
theorem stuck_log2 {a b : Nat} (h : 2 ≤ a / b) : (stuck a b).log2 = (a / b).log2 := by
  have h1 : 0 < a / b := by omega
  have h2 := log2_lo h1
  have h3 := log2_hi (a / b)
  have h4 : (a / b).log2 ≠ 0 := by
    intro e; rw [e] at h3; simp at h3; omega
  obtain ⟨k, hk⟩ : ∃ k, (a / b).log2 = k + 1 := ⟨(a / b).log2 - 1, by omega⟩
  rw [hk] at h2 h3 ⊢
  have := stuck_div a b
  refine log2_is ?_ ?_
  · rw [Nat.pow_succ] at h2 ⊢; omega
  · rw [Nat.pow_succ] at h3 ⊢; omega

/-- the rung nearest to a by b, said in units of 2 to the power of -1074 -/
def nr (a b : Nat) : Nat := ((a / b).log2 - 52) * 4503599627370496 + rnd a (b * 2 ^ ((a / b).log2 - 52))
theorem div_lo {a b k : Nat} (hb : 0 < b) (h : k ≤ a / b) : k * b ≤ a := (Nat.le_div_iff_mul_le hb).1 h
theorem div_hi {a b k : Nat} (hb : 0 < b) (h : a / b < k) : a < k * b := (Nat.div_lt_iff_lt_mul hb).1 h
/-- what lies in a binade's rung -/
theorem nr_part {a b : Nat} (hb : 0 < b) : (4503599627370496 ≤ rnd a (b * 2 ^ ((a / b).log2 - 52)) ∨ (a / b).log2 ≤ 52) ∧ rnd a (b * 2 ^ ((a / b).log2 - 52)) ≤ 9007199254740992 := by
  obtain ⟨l, hl⟩ : ∃ l, l = (a / b).log2 := ⟨_, rfl⟩
  have hp : 0 < b * 2 ^ (l - 52) := Nat.mul_pos hb (Nat.two_pow_pos _)
  have h1 := log2_hi (a / b)
  rw [← hl] at h1 ⊢
  have h2 : a < 2 ^ (l + 1) * b := div_hi hb h1
  have h3 : a ≤ 9007199254740992 * (b * 2 ^ (l - 52)) := by
    rcases Nat.lt_or_ge l 52 with hlt | hge
    · have : 2 ^ (l + 1) ≤ 2 ^ 53 := Nat.pow_le_pow_right (by decide) (by omega)
      have h4 : 2 ^ (l + 1) * b ≤ 9007199254740992 * b := Nat.mul_le_mul_right _ this
      rw [show l - 52 = 0 by omega, Nat.pow_zero, Nat.mul_one]
      omega
    · have : 2 ^ (l + 1) = 9007199254740992 * 2 ^ (l - 52) := by
        rw [show l + 1 = 53 + (l - 52) by omega, Nat.pow_add]
      rw [this] at h2
      rw [Nat.mul_comm b, ← Nat.mul_assoc]
      omega
  refine ⟨?_, (rnd_between hp (Nat.zero_mul _ ▸ Nat.zero_le a) h3).2⟩
  rcases Nat.lt_or_ge 52 l with hlt | hge
  · left
    have h4 : 0 < a / b := by
      rcases Nat.eq_zero_or_pos (a / b) with h | h
      · rw [h] at hl; simp at hl; omega
      · exact h
    have h5 := log2_lo h4
    rw [← hl] at h5
    have h6 := div_lo hb h5
    have : 2 ^ l = 4503599627370496 * 2 ^ (l - 52) := by
      conv => lhs; rw [show l = 52 + (l - 52) by omega, Nat.pow_add]
    rw [this] at h6
    have h7 : 4503599627370496 * (b * 2 ^ (l - 52)) ≤ a := by rw [Nat.mul_comm b, ← Nat.mul_assoc]; exact h6
    exact (rnd_between hp h7 h3).1
  · right; omega
theorem nr_mono {a c b : Nat} (hb : 0 < b) (h : a ≤ c) : nr a b ≤ nr c b := by
  have hq : a / b ≤ c / b := Nat.div_le_div_right h
  have hl := log2_mono hq
  have h1 := nr_part (a := a) hb
  have h2 := nr_part (a := c) hb
  unfold nr
  rcases Nat.lt_or_ge ((a / b).log2 - 52) ((c / b).log2 - 52) with hlt | hge
  · generalize rnd a _ = x at *
    generalize rnd c _ = y at *
    omega
  · have e : (a / b).log2 - 52 = (c / b).log2 - 52 := by omega
    rw [e]
    have := rnd_mono (Nat.mul_pos hb (Nat.two_pow_pos ((c / b).log2 - 52))) h
    omega
theorem nr_exact {m t : Nat} (h1 : 4503599627370496 ≤ m) (h2 : m ≤ 9007199254740992) : nr (m * 2 ^ t) 1 = t * 4503599627370496 + m := by
  unfold nr
  rw [Nat.div_one]
  rcases Nat.lt_or_ge m 9007199254740992 with h | h
  · have e : (m * 2 ^ t).log2 = 52 + t := by
      rw [log2_shift (by omega)]
      rw [log2_is (k := 52) h1 h]
    rw [e, show 52 + t - 52 = t by omega, Nat.one_mul, rnd_exact _ _ (Nat.two_pow_pos _)]
  · have e0 : m = 9007199254740992 := by omega
    subst e0
    have e : (9007199254740992 * 2 ^ t).log2 = 53 + t := by
      rw [log2_shift (by omega)]
      rw [log2_is (n := 9007199254740992) (k := 53) (by decide) (by decide)]
    have e2 : 9007199254740992 * 2 ^ t = 4503599627370496 * 2 ^ (t + 1) := by rw [Nat.pow_succ]; omega
    rw [e, show 53 + t - 52 = t + 1 by omega, Nat.one_mul, e2, rnd_exact _ _ (Nat.two_pow_pos _)]
    omega
theorem nr_small {a : Nat} (h : a < 9007199254740992) : nr a 1 = a := by
  unfold nr
  rw [Nat.div_one]
  have : a.log2 ≤ 52 := by
    rcases Nat.eq_zero_or_pos a with rfl | h0
    · simp
    · have := log2_lo h0
      rcases Nat.lt_or_ge 52 a.log2 with hlt | hge
      · have := Nat.pow_le_pow_right (show 0 < 2 by decide) hlt
        omega
      · exact hge
  rw [show a.log2 - 52 = 0 by omega]
  simp [rnd_one]
theorem nr_up {a b : Nat} (c : Nat) (hb : 0 < b) (h : 4503599627370496 ≤ a / b) : nr (a * 2 ^ c) b = c * 4503599627370496 + nr a b := by
  have h0 : 0 < a / b := by omega
  have h1 := log2_lo h0
  have h2 := log2_hi (a / b)
  have h3 := div_lo hb h1
  have h4 := div_hi hb h2
  have hc := Nat.two_pow_pos c
  have e : (a * 2 ^ c / b).log2 = (a / b).log2 + c := by
    refine log2_is ?_ ?_
    · rw [Nat.le_div_iff_mul_le hb, Nat.pow_add, Nat.mul_right_comm]
      exact Nat.mul_le_mul_right _ h3
    · rw [Nat.div_lt_iff_lt_mul hb, show (a / b).log2 + c + 1 = ((a / b).log2 + 1) + c by omega, Nat.pow_add, Nat.mul_right_comm]
      exact Nat.mul_lt_mul_of_pos_right h4 hc
  have h5 : 52 ≤ (a / b).log2 := by
    have := log2_mono h
    rw [log2_is (n := 4503599627370496) (k := 52) (by decide) (by decide)] at this
    exact this
  unfold nr
  rw [e, show (a / b).log2 + c - 52 = ((a / b).log2 - 52) + c by omega, Nat.pow_add, ← Nat.mul_assoc, rnd_scale _ _ _ hc]
  omega
end Go.Proofs.Ythhihcmkjkofhaa.FPlain
