/- Buddies counted from multiple to multiple, in plain mathematics. -/
import Derived.Test.YtlpipnpcgancmaaDoorTBits
namespace Go.Proofs.YtlpipnpcgancmaaDoor.TNext
open WPlain TPlain TBits

variable {F : Nat → Bool}
theorem bud_not {c k : Nat} (h : c % 2 ^ k ≠ 0) : bud F c k = false := by simp [bud, h]
theorem bud_free {c k : Nat} (h : F c = false) : bud F c k = false := by
  have : chunk F c k = false := chunk_no (j := 0) (two_pow_pos _) (by rw [Nat.add_zero]; exact h)
  simp [bud, this]
theorem mult_gap {i k c : Nat} (h : i % 2 ^ k = 0) (h1 : i + 1 ≤ c) (h2 : c < i + 2 ^ k) : c % 2 ^ k ≠ 0 := by
  obtain ⟨x, rfl⟩ := Nat.dvd_of_mod_eq_zero h
  intro h3
  obtain ⟨y, rfl⟩ := Nat.dvd_of_mod_eq_zero h3
  have hp := two_pow_pos k
  generalize 2 ^ k = q at *
  have a1 : x < y := Nat.lt_of_mul_lt_mul_left (show q * x < q * y by omega)
  have a2 : y < x + 1 := Nat.lt_of_mul_lt_mul_left (show q * y < q * (x + 1) by rw [Nat.mul_add, Nat.mul_one]; omega)
  omega
theorem next_mod {i k : Nat} (h : i % 2 ^ k = 0) : (i + 2 ^ k) % 2 ^ k = 0 := by simp [h]
theorem cnt_next {i k : Nat} (h : i % 2 ^ k = 0) : cnt F k (i + 2 ^ k) = (if bud F i k = true then cnt F k i + 1 else cnt F k i) ∧ fst F k (i + 2 ^ k) = fst F k (i + 1) := by
  have hp := two_pow_pos k
  have h1 := cnt_none (F := F) (k := k) (p := i + 1) (n := 2 ^ k - 1) (fun c h1 h2 => bud_not (mult_gap h h1 (by omega)))
  rw [show i + 1 + (2 ^ k - 1) = i + 2 ^ k by omega] at h1
  refine ⟨?_, h1.2⟩
  rw [h1.1]
  simp only [cnt]
  split <;> rfl
theorem cnt_end {k i N : Nat} (hN : ∀ j, N ≤ j → F j = false) (h : N ≤ i) : cnt F k i = cnt F k N ∧ fst F k i = fst F k N := by
  have := cnt_none (F := F) (k := k) (p := N) (n := i - N) (fun c h1 _ => bud_free (hN c h1))
  rwa [show N + (i - N) = i by omega] at this
theorem cnt_up {k p n : Nat} : cnt F k p ≤ cnt F k (p + n) := by
  induction n with
  | zero => exact Nat.le_refl _
  | succ n ih =>
    rw [← Nat.add_assoc]
    simp only [cnt]
    split <;> omega
theorem fst_stays {k p n : Nat} (h : 0 < cnt F k p) : fst F k (p + n) = fst F k p := by
  induction n with
  | zero => rfl
  | succ n ih =>
    have := cnt_up (F := F) (k := k) (p := p) (n := n)
    rw [← Nat.add_assoc]
    simp only [fst]
    rw [if_neg (by omega), ih]
/-- the first buddy -/
theorem first_at {k i N : Nat} (h0 : cnt F k i = 0) (hb : bud F i k = true) (hi : i < N) : 0 < cnt F k N ∧ fst F k N = i := by
  have h1 : cnt F k (i + 1) = 1 := by simp only [cnt]; rw [if_pos hb, h0]
  have h2 : fst F k (i + 1) = i := by simp only [fst]; rw [if_pos h0, if_pos hb]
  have h3 := cnt_up (F := F) (k := k) (p := i + 1) (n := N - (i + 1))
  have h4 := fst_stays (F := F) (k := k) (p := i + 1) (n := N - (i + 1)) (by omega)
  rw [show i + 1 + (N - (i + 1)) = N by omega] at h3 h4
  exact ⟨by omega, by rw [h4, h2]⟩
/-- what is first is a buddy -/
theorem fst_bud {k : Nat} : ∀ {p : Nat}, 0 < cnt F k p → bud F (fst F k p) k = true ∧ fst F k p < p
  | 0, h => by simp [cnt] at h
  | p + 1, h => by
    simp only [fst]
    by_cases h0 : cnt F k p = 0
    · rw [if_pos h0]
      simp only [cnt] at h
      by_cases hb : bud F p k = true
      · rw [if_pos hb]; exact ⟨hb, Nat.lt_succ_self p⟩
      · rw [if_neg hb] at h; exact absurd h (by omega)
    · rw [if_neg h0]
      have := fst_bud (k := k) (p := p) (Nat.pos_of_ne_zero h0)
      exact ⟨this.1, Nat.lt_succ_of_lt this.2⟩
theorem big_chunk {c k N : Nat} (hN : ∀ j, N ≤ j → F j = false) (h : N < c + 2 ^ k) : chunk F c k = false := by
  have hp := two_pow_pos k
  exact chunk_no (j := 2 ^ k - 1) (by omega) (hN _ (by omega))
end Go.Proofs.YtlpipnpcgancmaaDoor.TNext
