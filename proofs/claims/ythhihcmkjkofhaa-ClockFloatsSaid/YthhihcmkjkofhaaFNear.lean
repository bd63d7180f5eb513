/- Floats of 64 bits written: the nearest word, products by powers of two, whole numbers as floats and back. Nothing of the program. -/
import Derived.Test.YthhihcmkjkofhaaFWord
namespace Go.Proofs.Ythhihcmkjkofhaa.FNear
open FPlain FWord

theorem cut_even (neg : Bool) (n drop : Nat) : Ieee.Toward.even.cut neg n drop = rnd n (2 ^ drop) := by
  unfold Ieee.Toward.cut
  simp only [Nat.shiftLeft_eq, Nat.one_mul]
  have key : ∀ g, n / g + (decide (g < 2 * (n % g)) || (g == 2 * (n % g) && n / g % 2 == 1)).toNat = rnd n g := by
    intro g
    unfold rnd
    congr 1
    by_cases h1 : g < 2 * (n % g)
    · simp [h1]
    · by_cases h2 : g = 2 * (n % g)
      · by_cases h3 : n / g % 2 = 1
        · rw [if_pos (.inr ⟨h2, h3⟩)]
          simp [← h2, h3]
        · rw [if_neg (by intro h; rcases h with h | h; exact h1 h; exact h3 h.2)]
          simp [← h2, h3]
      · rw [if_neg (by intro h; rcases h with h | h; exact h1 h; exact h2 h.1)]
        simp [h1, h2]
  rw [key]
  rcases Nat.le_total drop (n.log2 + 2) with h | h
  · rw [Nat.min_eq_left h]
  · rw [Nat.min_eq_right h]
    have big : ∀ k, n.log2 + 2 ≤ k → rnd n (2 ^ k) = 0 := by
      intro k hk
      have h1 := log2_hi n
      have h2 : 2 ^ (n.log2 + 2) ≤ 2 ^ k := Nat.pow_le_pow_right (by decide) hk
      have h3 : 2 ^ (n.log2 + 2) = 2 * 2 ^ (n.log2 + 1) := by rw [Nat.pow_succ 2 (n.log2 + 1), Nat.mul_comm]
      unfold rnd
      rw [Nat.div_eq_of_lt (by omega), Nat.mod_eq_of_lt (by omega), if_neg (by omega)]
    rw [big _ (Nat.le_refl _), big _ h]
theorem word_eq (neg : Bool) (r : Nat) : Ieee.double.word neg r = if neg then 9223372036854775808 + r else r := rfl
theorem nearest_eq (neg : Bool) (m p : Nat) (hm : 0 < m) : Ieee.double.nearest neg m ((p : Int) - 1074) = Ieee.double.word neg (min (nr (m * 2 ^ p) 1) 9218868437227405312) := by
  have e2 : Ieee.double.binade = 4503599627370496 := by decide
  have e3 : Ieee.double.infRung = 9218868437227405312 := by decide
  have e5 : Ieee.double.leastPlace = -1074 := by decide
  have e6 : Ieee.double.fractionBits = 52 := rfl
  unfold Ieee.Format.nearest
  rw [if_neg (by omega), e2, e3, e5, e6]
  simp only [cut_even, Nat.shiftLeft_eq]
  obtain ⟨l, hl⟩ : ∃ l, l = m.log2 := ⟨_, rfl⟩
  rw [← hl]
  have el : (m * 2 ^ p).log2 = l + p := by rw [log2_shift hm, hl]
  have f1 : ((p : Int) - 1074 - max ((p : Int) - 1074 + (l : Int) - ((52 : Nat) : Int)) (-1074)).toNat = p - (l + p - 52) := by omega
  have f2 : (max ((p : Int) - 1074 + (l : Int) - ((52 : Nat) : Int)) (-1074) - ((p : Int) - 1074)).toNat = (l + p - 52) - p := by omega
  have f3 : (max ((p : Int) - 1074 + (l : Int) - ((52 : Nat) : Int)) (-1074) - -1074).toNat = l + p - 52 := by omega
  rw [f1, f2, f3]
  refine congrArg (fun z => Ieee.double.word neg (min z 9218868437227405312)) ?_
  unfold nr
  rw [Nat.div_one, el, Nat.one_mul]
  refine congrArg ((l + p - 52) * 4503599627370496 + ·) ?_
  obtain ⟨b, hb⟩ : ∃ b, b = min p (l + p - 52) := ⟨_, rfl⟩
  have g1 : m * 2 ^ p = m * 2 ^ (p - (l + p - 52)) * 2 ^ b := by rw [Nat.mul_assoc, ← Nat.pow_add, show p - (l + p - 52) + b = p by omega]
  have g2 : 2 ^ (l + p - 52) = 2 ^ (l + p - 52 - p) * 2 ^ b := by rw [← Nat.pow_add, show l + p - 52 - p + b = l + p - 52 by omega]
  rw [g1, g2, rnd_scale _ _ _ (Nat.two_pow_pos _)]

/-- a product with a power of two, normal numbers -/
theorem mul_part {x y s t u m : Nat} (hx : x < 18446744073709551616) (ex : rg x = t * 4503599627370496 + m) (m1 : 4503599627370496 ≤ m) (m2 : m < 9007199254740992) (ht : t ≤ 2045) (hy : y = u * 4503599627370496 + 4503599627370496) (hu : u ≤ 2045) (hs : t + u = s + 1022) (hs1 : 52 ≤ s) (hs2 : s ≤ 2045) :
    Ieee.double.mul x y = some (Ieee.double.word (sg x) (s * 4503599627370496 + m)) := by
  have ry : Ieee.double.read y = .number false 4503599627370496 ((u : Int) - 1074) := by
    have := read_part (x := y) (t := u) (m := 4503599627370496) (by omega) (by unfold rg; omega) (Nat.le_refl _) (by decide) hu
    rw [this]
    congr 1
    unfold sg; simp; omega
  unfold Ieee.Format.mul
  rw [read_part hx ex m1 m2 ht, ry]
  show some (Ieee.double.nearest (sg x ^^ false) (m * 4503599627370496) ((t : Int) - 1074 + ((u : Int) - 1074))) = _
  have e : (t : Int) - 1074 + ((u : Int) - 1074) = ((s - 52 : Nat) : Int) - 1074 := by omega
  have e2 : m * 4503599627370496 * 2 ^ (s - 52) = m * 2 ^ s := by
    rw [show (4503599627370496 : Nat) = 2 ^ 52 by decide, Nat.mul_assoc, ← Nat.pow_add, show 52 + (s - 52) = s by omega]
  rw [e, nearest_eq _ _ _ (by omega), e2, nr_exact m1 (by omega), Bool.xor_false, Nat.min_eq_left (by omega)]
/-- the norm of a small number -/
theorem mul_sub {x r : Nat} (hx : x < 18446744073709551616) (ex : rg x = r) (h0 : 0 < r) (hr : r < 4503599627370496) :
    Ieee.double.mul x 4841369599423283200 = some (Ieee.double.word (sg x) (r.log2 * 4503599627370496 + r * 2 ^ (52 - r.log2))) := by
  have ry : Ieee.double.read 4841369599423283200 = .number false 4503599627370496 ((1074 : Nat) - 1074) := read_part (x := 4841369599423283200) (t := 1074) (m := 4503599627370496) (by decide) (by decide) (Nat.le_refl _) (by decide) (by decide)
  unfold Ieee.Format.mul
  rw [read_sub hx (by omega), ry]
  show some (Ieee.double.nearest (sg x ^^ false) (rg x * 4503599627370496) (-1074 + (((1074 : Nat) : Int) - 1074))) = _
  have e : (-1074 : Int) + (((1074 : Nat) : Int) - 1074) = ((0 : Nat) : Int) - 1074 := by omega
  have hl : r.log2 < 52 := by
    have := log2_lo h0
    rcases Nat.lt_or_ge r.log2 52 with h | h
    · exact h
    · have := Nat.pow_le_pow_right (show 0 < 2 by decide) h; omega
  have h1 := log2_lo h0
  have h2 := log2_hi r
  obtain ⟨l, hl2⟩ : ∃ l, l = r.log2 := ⟨_, rfl⟩
  rw [← hl2] at hl h1 h2 ⊢
  have e3 : r * 4503599627370496 = r * 2 ^ (52 - l) * 2 ^ l := by
    rw [Nat.mul_assoc, ← Nat.pow_add, show 52 - l + l = 52 by omega]
  have q : 2 ^ l * 2 ^ (52 - l) = 4503599627370496 := by rw [← Nat.pow_add, show l + (52 - l) = 52 by omega]
  have q2 : 2 ^ (l + 1) * 2 ^ (52 - l) = 9007199254740992 := by rw [← Nat.pow_add, show l + 1 + (52 - l) = 53 by omega]
  have b1 : 4503599627370496 ≤ r * 2 ^ (52 - l) := by rw [← q]; exact Nat.mul_le_mul_right _ h1
  have b2 : r * 2 ^ (52 - l) ≤ 9007199254740992 := by rw [← q2]; exact Nat.mul_le_mul_right _ (by omega)
  rw [e, nearest_eq _ _ _ (by omega), ex, e3, Nat.pow_zero, Nat.mul_one, nr_exact b1 b2, Bool.xor_false, Nat.min_eq_left (by omega)]

theorem rg_word (s : Bool) (r : Nat) (h : r < 9223372036854775808) : rg (Ieee.double.word s r) = r := by
  rw [word_eq]; unfold rg; cases s <;> simp only [if_true, if_false, Bool.false_eq_true] <;> omega
theorem sg_word (s : Bool) (r : Nat) (h : r < 9223372036854775808) : sg (Ieee.double.word s r) = s := by
  rw [word_eq]; unfold sg; cases s <;> simp <;> omega
theorem word_lt (s : Bool) (r : Nat) (h : r < 9223372036854775808) : Ieee.double.word s r < 18446744073709551616 := by
  rw [word_eq]; cases s <;> simp only [if_true, if_false, Bool.false_eq_true] <;> omega
theorem word_of (x : Nat) (h : x < 18446744073709551616) : Ieee.double.word (sg x) (rg x) = x := by
  rw [word_eq]; unfold sg rg; by_cases h1 : 9223372036854775808 ≤ x <;> simp [h1] <;> omega

/-- so many places behind the point has the least amount -/
def un : Nat := 1074
theorem un_eq : un = 1074 := rfl
theorem un_bound {n : Nat} (h : n < 18446744073709551616) : nr (n * 2 ^ un) 1 ≤ 9218868437227405312 := by
  have h1 : n * 2 ^ un ≤ 4503599627370496 * 2 ^ (12 + un) := by
    rw [Nat.pow_add, ← Nat.mul_assoc]
    exact Nat.mul_le_mul_right _ (by omega)
  have h2 := nr_mono (b := 1) (by omega) h1
  rw [nr_exact (Nat.le_refl _) (by omega)] at h2
  clear h1
  have hu := un_eq
  generalize nr (n * 2 ^ un) 1 = z at *
  rw [hu] at h2
  omega
/-- a whole number as a float -/
theorem ofInt_pos (n : Nat) (h : n < 18446744073709551616) : Go.floatOfInt .f64 (n : Int) = nr (n * 2 ^ un) 1 := by
  show Ieee.double.nearest _ _ _ = _
  have e : (decide ((n : Int) < 0)) = false := by simp
  rw [e]
  rcases Nat.eq_zero_or_pos n with rfl | h0
  · rw [Nat.zero_mul, nr_small (by omega)]; rfl
  · have e2 : (0 : Int) = ((un : Nat) : Int) - 1074 := by have := un_eq; omega
    rw [e2, nearest_eq _ _ _ (by omega), word_eq]
    simp only [if_false, Bool.false_eq_true, Int.natAbs_natCast]
    exact Nat.min_eq_left (un_bound h)
theorem ofInt_neg (n : Nat) (h0 : 0 < n) (h : n < 18446744073709551616) : Go.floatOfInt .f64 (-(n : Int)) = 9223372036854775808 + nr (n * 2 ^ un) 1 := by
  show Ieee.double.nearest _ _ _ = _
  have e : (decide (-(n : Int) < 0)) = true := by simp; omega
  rw [e]
  have e2 : (0 : Int) = ((un : Nat) : Int) - 1074 := by have := un_eq; omega
  rw [e2, nearest_eq _ _ _ (by omega), word_eq]
  simp only [if_true, Int.natAbs_neg, Int.natAbs_natCast]
  rw [Nat.min_eq_left (un_bound h)]
/-- a whole float as a number -/
theorem toInt_part {x m : Nat} (h : x = 1074 * 4503599627370496 + m) (m1 : 4503599627370496 ≤ m) (m2 : m < 9007199254740992) : Go.floatToIntVal .f64 x .u64 = some (m : Int) := by
  have rx := read_part (x := x) (t := 1074) (m := m) (by omega) (by unfold rg; omega) m1 m2 (by decide)
  have sx : sg x = false := by unfold sg; simp; omega
  rw [sx] at rx
  unfold Go.floatToIntVal
  show (match (Ieee.double.read x).toInt .zero with | some n => if IntKind.u64.min ≤ n ∧ n ≤ IntKind.u64.max then some n else none | none => none) = _
  rw [rx]
  have e : (Ieee.Datum.number false m (((1074 : Nat) : Int) - 1074)).toInt .zero = some (m : Int) := by
    unfold Ieee.Datum.toInt Ieee.Datum.integral
    show some (Ieee.signed false (Ieee.Toward.zero.cut false (m <<< 0) 0) 0) = _
    congr 1
    rw [signed_eq]
    unfold Ieee.Toward.cut
    simp
  rw [e]
  have e1 : IntKind.u64.min = 0 := rfl
  have e2 : IntKind.u64.max = 18446744073709551615 := by decide
  simp only [e1, e2]
  rw [if_pos (by omega)]
theorem toInt_zero : Go.floatToIntVal .f64 0 .u64 = some 0 := by decide +kernel
end Go.Proofs.Ythhihcmkjkofhaa.FNear
