/- Groups lie end to end, inodes stand one behind the other: plain mathematics. -/
import Derived.Test.YtoaallnmihhjlaaGPlain
namespace Go.Proofs.Ytoaallnmihhjlaa.GPlain3
open GPlain

/-- where the groups below k end -/
def atI (b p k : Int) : Int := if k = 0 then 0 else endI b p (k - 1)
def dataK (b p n k j : Int) : Int := if k = 0 then 0 else atI b p k - (2 + j) - k * (2 + n / 2)
theorem at_0 (b p : Int) : atI b p 0 = 0 := rfl
theorem dataK_0 (b p n j : Int) : dataK b p n 0 j = 0 := rfl
theorem at_next (b p k : Int) (hk : 0 ≤ k) : atI b p (k + 1) = endI b p k := by
  unfold atI
  rw [if_neg (by omega), Int.add_sub_cancel]
section
variable {b p n j k : Int} (h : May b p n j)
include h
theorem below_last (hk : k < gN b p) : k * p ≤ (gN b p - 1) * p := Int.mul_le_mul_of_nonneg_right (by omega) (by have := h.p0; omega)
theorem at_eq (_hk0 : 0 ≤ k) (hk : k < gN b p) : atI b p k = k * p := by
  have h1 := below_last h hk
  have h2 := h.lo
  unfold atI
  by_cases hz : k = 0
  · rw [if_pos hz, hz]; simp
  · rw [if_neg hz]
    have h3 : (k - 1) * p = k * p - p := by rw [Int.sub_mul, Int.one_mul]
    unfold endI
    omega
theorem at_end : atI b p (gN b p) = b := by
  have h1 := h.hi
  have h2 := h.g0
  unfold atI
  rw [if_neg (by omega)]
  have h3 : (gN b p - 1) * p = gN b p * p - p := by rw [Int.sub_mul, Int.one_mul]
  unfold endI
  omega
theorem group_in (hk0 : 0 ≤ k) (hk : k < gN b p) : k * p < endI b p k ∧ k * p ≤ baseI p j k ∧ tableI p j k < dataI p n j k ∧ dataI p n j k < endI b p k ∧ endI b p k ≤ 4096 ∧ 0 ≤ k * p ∧ endI b p k ≤ (k + 1) * p := by
  have h1 := below_last h hk
  have h2 := h.lo
  have h3 := h.first
  have h4 := h.last
  have h5 : (k + 1) * p = k * p + p := by rw [Int.add_mul, Int.one_mul]
  have h6 := h.b1
  have h7 := h.n0
  have h8 := h.j0
  have h9 : 0 ≤ k * p := Int.mul_nonneg hk0 (by have := h.p0; omega)
  have h10 := h.p0
  by_cases hz : k = 0
  · subst hz
    unfold dataI tableI
    rw [base_0]
    unfold endI
    rw [Int.zero_mul] at *
    omega
  · unfold dataI tableI
    rw [base_up _ _ _ hz]
    have h11 : k * p + 2 + n / 2 < b := by
      rcases h4 with h4 | h4
      · omega
      · omega
    unfold endI
    omega
theorem at_bd (hk0 : 0 ≤ k) (hk : k ≤ gN b p) : 0 ≤ atI b p k ∧ atI b p k ≤ 4096 := by
  by_cases he : k = gN b p
  · rw [he, at_end h]
    have := h.b0
    have := h.b1
    omega
  · rw [at_eq h hk0 (by omega)]
    obtain ⟨_, _, _, _, _, _, _⟩ := group_in h hk0 (by omega)
    omega
theorem parts_bd (hk0 : 0 ≤ k) (hk : k ≤ gN b p) : 0 ≤ k * (2 + n / 2) ∧ k * (2 + n / 2) ≤ 7168 :=
  prod2_bd hk0 (by have := h.g1; omega) h.n0 h.n1
theorem dataK_bd (hk0 : 0 ≤ k) (hk : k ≤ gN b p) : -8192 ≤ dataK b p n k j ∧ dataK b p n k j ≤ 4096 := by
  obtain ⟨_, _⟩ := at_bd h hk0 hk
  obtain ⟨_, _⟩ := parts_bd h hk0 hk
  have := h.j0
  have := h.j1
  unfold dataK
  split <;> omega
theorem dataK_next (hk0 : 0 ≤ k) (hk : k < gN b p) : dataK b p n (k + 1) j = dataK b p n k j + endI b p k - dataI p n j k := by
  have h1 : (k + 1) * (2 + n / 2) = k * (2 + n / 2) + (2 + n / 2) := by rw [Int.add_mul, Int.one_mul]
  unfold dataK
  rw [if_neg (by omega), at_next _ _ _ hk0]
  by_cases hz : k = 0
  · subst hz
    unfold dataI tableI
    rw [base_0, if_pos rfl]
    rw [Int.zero_mul] at h1
    omega
  · rw [if_neg hz, at_eq h hk0 hk]
    unfold dataI tableI
    rw [base_up _ _ _ hz]
    omega
theorem dataK_end : dataK b p n (gN b p) j = b - (2 + j + gN b p * (2 + n / 2)) := by
  have h2 := h.g0
  unfold dataK
  rw [if_neg (by omega), at_end h]
  omega
end

/-- where an inode stands, in half blocks -/
def posI (p n j i : Int) : Int := inoBlock p n j i * 256 + inoByte n i
def lastI (p n j i : Int) : Int := if i = 1 then -1 else posI p n j (i - 1)
theorem last_1 (p n j : Int) : lastI p n j 1 = -1 := rfl
theorem last_next (p n j i : Int) (hi : 1 ≤ i) : lastI p n j (i + 1) = posI p n j i := by
  unfold lastI
  rw [if_neg (by omega), Int.add_sub_cancel]
theorem pos_eq (p n j i : Int) (hn : 8 ≤ n) : posI p n j i = tableI p j (inoGroup n i) * 256 + inoPlace n i * 128 := by
  obtain ⟨_, _⟩ := inoPlace_bd i hn
  unfold posI inoBlock inoByte
  omega
section
variable {b p n j i : Int} (h : May b p n j)
include h
theorem ino_bd (hi0 : 1 ≤ i) (hi1 : i ≤ gN b p * n) : 0 ≤ inoGroup n i ∧ inoGroup n i < gN b p := inoGroup_bd h.n0 hi0 hi1
theorem ino_in (_hi0 : 1 ≤ i) (_hi1 : i ≤ gN b p * n) : tableI p j (inoGroup n i) ≤ inoBlock p n j i ∧ inoBlock p n j i < dataI p n j (inoGroup n i) ∧ (inoByte n i = 0 ∨ inoByte n i = 128) := by
  obtain ⟨r0, r1⟩ := inoPlace_bd i h.n0
  have he := h.ev
  unfold inoBlock dataI inoByte
  omega
theorem pos_bd (hi0 : 1 ≤ i) (hi1 : i ≤ gN b p * n) : 0 ≤ posI p n j i ∧ posI p n j i ≤ 2000000 ∧ 0 ≤ inoBlock p n j i ∧ inoBlock p n j i ≤ 4096 := by
  obtain ⟨g0, g1⟩ := ino_bd h hi0 hi1
  obtain ⟨a1, a2, a3, a4, a5, a6, a7⟩ := group_in h g0 g1
  obtain ⟨b1, b2, b3⟩ := ino_in h hi0 hi1
  have b4 : tableI p j (inoGroup n i) = baseI p j (inoGroup n i) + 2 := rfl
  unfold posI
  omega
theorem pos_lt (hi0 : 1 ≤ i) (hi1 : i + 1 ≤ gN b p * n) : posI p n j i < posI p n j (i + 1) := by
  have hn := h.n0
  rw [pos_eq _ _ _ _ hn, pos_eq _ _ _ _ hn]
  obtain ⟨g0, g1⟩ := ino_bd h hi0 (by omega)
  obtain ⟨q0, q1⟩ := ino_bd h (show 1 ≤ i + 1 by omega) hi1
  obtain ⟨r0, r1⟩ := inoPlace_bd i hn
  obtain ⟨s0, s1⟩ := inoPlace_bd (i + 1) hn
  have e1 := Int.mul_ediv_add_emod (i - 1) n
  have e2 := Int.mul_ediv_add_emod (i + 1 - 1) n
  change n * inoGroup n i + inoPlace n i = i - 1 at e1
  change n * inoGroup n (i + 1) + inoPlace n (i + 1) = i + 1 - 1 at e2
  generalize inoGroup n i = g at *
  generalize inoGroup n (i + 1) = q at *
  generalize inoPlace n i = r at *
  generalize inoPlace n (i + 1) = s at *
  have hgq : q = g ∨ g + 1 ≤ q := by
    by_cases hx : g < q
    · right; omega
    · left
      have h1 : n * q ≤ n * g := Int.mul_le_mul_of_nonneg_left (by omega) (by omega)
      by_cases hy : q < g
      · have h2 : n * (q + 1) ≤ n * g := Int.mul_le_mul_of_nonneg_left (by omega) (by omega)
        rw [Int.mul_add, Int.mul_one] at h2
        omega
      · omega
  rcases hgq with hgq | hgq
  · subst hgq
    omega
  · obtain ⟨a1, a2, a3, a4, a5, a6, a7⟩ := group_in h g0 g1
    have h3 : (g + 1) * p ≤ q * p := Int.mul_le_mul_of_nonneg_right hgq (by have := h.p0; omega)
    obtain ⟨_, c2, _⟩ := group_in h q0 q1
    have h4 : tableI p j q = baseI p j q + 2 := rfl
    have h5 : dataI p n j g = tableI p j g + n / 2 := rfl
    have h6 := h.ev
    omega
theorem last_lt (hi0 : 1 ≤ i) (hi1 : i ≤ gN b p * n) : lastI p n j i < posI p n j i := by
  by_cases h1 : i = 1
  · subst h1
    have := (pos_bd h (i := 1) (by omega) hi1).1
    rw [last_1]
    omega
  · have h2 := pos_lt h (i := i - 1) (by omega) (by omega)
    have h3 := last_next p n j (i - 1) (by omega)
    rw [Int.sub_add_cancel] at h2 h3
    omega
theorem last_bd (hi0 : 1 ≤ i) (hi1 : i ≤ gN b p * n + 1) : -1 ≤ lastI p n j i ∧ lastI p n j i ≤ 2000000 := by
  by_cases h1 : i = 1
  · subst h1
    rw [last_1]
    omega
  · have h3 := last_next p n j (i - 1) (by omega)
    rw [Int.sub_add_cancel] at h3
    obtain ⟨_, _, _⟩ := pos_bd h (i := i - 1) (by omega) (by omega)
    omega
end
end Go.Proofs.Ytoaallnmihhjlaa.GPlain3
