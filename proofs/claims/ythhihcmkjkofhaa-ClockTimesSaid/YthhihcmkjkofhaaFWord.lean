/- The words of floats of 64 bits: read, ordered, written. Nothing of the program. -/
import Derived.Test.YthhihcmkjkofhaaFPlain
import Derived.Laws.FloatArith
namespace Go.Proofs.Ythhihcmkjkofhaa.FWord
open FPlain

/-- the sign and the rung of a word -/
def sg (x : Nat) : Bool := decide (9223372036854775808 ≤ x)
def rg (x : Nat) : Nat := x % 9223372036854775808
def nanW (x : Nat) : Bool := decide (9218868437227405312 < rg x)
/-- an amount, in units of 2 to the power of -1074 -/
def amt (r : Nat) : Nat := if r < 4503599627370496 then r else (4503599627370496 + r % 4503599627370496) * 2 ^ (r / 4503599627370496 - 1)
def sv (x : Nat) : Int := if sg x then -(amt (rg x) : Int) else (amt (rg x) : Int)
def sk (x : Nat) : Int := if sg x then -(rg x : Int) else (rg x : Int)

theorem amt_part {t m : Nat} (h1 : 4503599627370496 ≤ m) (h2 : m ≤ 9007199254740992) : amt (t * 4503599627370496 + m) = m * 2 ^ t := by
  unfold amt
  rw [if_neg (by omega)]
  rcases Nat.lt_or_ge m 9007199254740992 with h | h
  · have e1 : (t * 4503599627370496 + m) % 4503599627370496 = m - 4503599627370496 := by omega
    have e2 : (t * 4503599627370496 + m) / 4503599627370496 - 1 = t := by omega
    rw [e1, e2, show 4503599627370496 + (m - 4503599627370496) = m by omega]
  · have e0 : m = 9007199254740992 := by omega
    subst e0
    have e1 : (t * 4503599627370496 + 9007199254740992) % 4503599627370496 = 0 := by omega
    have e2 : (t * 4503599627370496 + 9007199254740992) / 4503599627370496 - 1 = t + 1 := by omega
    rw [e1, e2, Nat.pow_succ]
    omega
theorem amt_small {r : Nat} (h : r < 9007199254740992) : amt r = r := by
  unfold amt
  split
  · rfl
  · have e1 : r / 4503599627370496 - 1 = 0 := by omega
    rw [e1, Nat.pow_zero]; omega
theorem rung_parts {r : Nat} (h : 4503599627370496 ≤ r) : ∃ t m, r = t * 4503599627370496 + m ∧ 4503599627370496 ≤ m ∧ m < 9007199254740992 :=
  ⟨r / 4503599627370496 - 1, 4503599627370496 + r % 4503599627370496, by omega, by omega, by omega⟩
theorem amt_step (r : Nat) : amt r < amt (r + 1) := by
  rcases Nat.lt_or_ge r 4503599627370496 with h | h
  · rw [amt_small (by omega), amt_small (by omega)]; omega
  · obtain ⟨t, m, rfl, h1, h2⟩ := rung_parts h
    rw [Nat.add_assoc, amt_part h1 (by omega), amt_part (by omega) (by omega)]
    exact Nat.mul_lt_mul_of_pos_right (by omega) (Nat.two_pow_pos _)
theorem amt_lt {a b : Nat} (h : a < b) : amt a < amt b := by
  induction b with
  | zero => omega
  | succ b ih =>
    have := amt_step b
    rcases Nat.lt_or_ge a b with h1 | h1
    · have := ih h1; omega
    · obtain rfl : a = b := by omega
      exact this
theorem amt_lt_iff {a b : Nat} : amt a < amt b ↔ a < b := by
  constructor
  · intro h
    rcases Nat.lt_trichotomy a b with h1 | h1 | h1
    · exact h1
    · subst h1; omega
    · have := amt_lt h1; omega
  · exact amt_lt
theorem amt_le_iff {a b : Nat} : amt a ≤ amt b ↔ a ≤ b := by
  have := @amt_lt_iff b a
  omega
theorem amt_inj {a b : Nat} : amt a = amt b ↔ a = b := by
  have := @amt_lt_iff b a
  have := @amt_lt_iff a b
  omega
theorem amt_zero : amt 0 = 0 := rfl

theorem sg_read {x : Nat} (h : x < 18446744073709551616) : (x / Ieee.double.signWeight % 2 == 1) = sg x := by
  have e : Ieee.double.signWeight = 9223372036854775808 := by decide
  rw [e]
  unfold sg
  rw [Bool.eq_iff_iff]
  simp only [beq_iff_eq, decide_eq_true_eq]
  omega
/-- what a word stands for -/
theorem read_nan {x : Nat} (h : x < 18446744073709551616) (hn : nanW x = true) : Ieee.double.read x = .nan (sg x) (rg x - 9218868437227405312) := by
  unfold nanW at hn
  simp only [decide_eq_true_eq] at hn
  have e1 : Ieee.double.signWeight = 9223372036854775808 := by decide
  have e2 : Ieee.double.binade = 4503599627370496 := by decide
  have e3 : Ieee.double.infRung = 9218868437227405312 := by decide
  unfold Ieee.Format.read
  simp only [sg_read h]
  rw [e1, e2, e3]
  have e4 : x % 9223372036854775808 = rg x := rfl
  rw [e4, if_neg (by omega), if_neg (by omega), if_neg (by omega)]
theorem read_inf {x : Nat} (h : x < 18446744073709551616) (hn : rg x = 9218868437227405312) : Ieee.double.read x = .infinity (sg x) := by
  have e1 : Ieee.double.signWeight = 9223372036854775808 := by decide
  have e2 : Ieee.double.binade = 4503599627370496 := by decide
  have e3 : Ieee.double.infRung = 9218868437227405312 := by decide
  unfold Ieee.Format.read
  simp only [sg_read h]
  rw [e1, e2, e3]
  have e4 : x % 9223372036854775808 = rg x := rfl
  rw [e4, if_neg (by omega), if_neg (by omega), if_pos hn]
theorem read_num {x : Nat} (h : x < 18446744073709551616) (hn : rg x < 9218868437227405312) : ∃ m t : Nat, Ieee.double.read x = .number (sg x) m ((t : Int) - 1074) ∧ m * 2 ^ t = amt (rg x) := by
  have e1 : Ieee.double.signWeight = 9223372036854775808 := by decide
  have e2 : Ieee.double.binade = 4503599627370496 := by decide
  have e3 : Ieee.double.infRung = 9218868437227405312 := by decide
  have e5 : Ieee.double.leastPlace = -1074 := by decide
  unfold Ieee.Format.read
  simp only [sg_read h]
  rw [e1, e2, e3, e5]
  have e4 : x % 9223372036854775808 = rg x := rfl
  rw [e4]
  by_cases hs : rg x < 4503599627370496
  · rw [if_pos hs]
    exact ⟨rg x, 0, by simp, by rw [amt_small (by omega)]; simp⟩
  · rw [if_neg hs, if_pos hn]
    refine ⟨4503599627370496 + rg x % 4503599627370496, rg x / 4503599627370496 - 1, ?_, ?_⟩
    · congr 1
    · unfold amt; rw [if_neg hs]
/-- a normal word, said by its parts -/
theorem read_part {x t m : Nat} (h : x < 18446744073709551616) (hx : rg x = t * 4503599627370496 + m) (h1 : 4503599627370496 ≤ m) (h2 : m < 9007199254740992) (h3 : t ≤ 2045) : Ieee.double.read x = .number (sg x) m ((t : Int) - 1074) := by
  have e1 : Ieee.double.signWeight = 9223372036854775808 := by decide
  have e2 : Ieee.double.binade = 4503599627370496 := by decide
  have e3 : Ieee.double.infRung = 9218868437227405312 := by decide
  have e5 : Ieee.double.leastPlace = -1074 := by decide
  unfold Ieee.Format.read
  simp only [sg_read h]
  rw [e1, e2, e3, e5]
  have e4 : x % 9223372036854775808 = rg x := rfl
  rw [e4, hx, if_neg (by omega), if_pos (by omega)]
  congr 1 <;> omega
theorem read_sub {x : Nat} (h : x < 18446744073709551616) (hx : rg x < 4503599627370496) : Ieee.double.read x = .number (sg x) (rg x) (-1074) := by
  have e1 : Ieee.double.signWeight = 9223372036854775808 := by decide
  have e2 : Ieee.double.binade = 4503599627370496 := by decide
  have e5 : Ieee.double.leastPlace = -1074 := by decide
  unfold Ieee.Format.read
  simp only [sg_read h]
  rw [e1, e2, e5]
  have e4 : x % 9223372036854775808 = rg x := rfl
  rw [e4, if_pos hx]

theorem signed_eq (s : Bool) (m u : Nat) : Ieee.signed s m u = (if s then -((m * 2 ^ u : Nat) : Int) else ((m * 2 ^ u : Nat) : Int)) := by
  unfold Ieee.signed
  rw [Nat.shiftLeft_eq]
theorem cmp_int {a b c d : Int} (h1 : a < b ↔ c < d) (h2 : a = b ↔ c = d) : compare a b = compare c d := by
  simp only [compare, compareOfLessAndEq, h1, h2]
theorem sk_of {a b : Nat} {s t : Bool} (A B : Nat) (hA : A = amt a) (hB : B = amt b) : compare (if s then -(A : Int) else (A : Int)) (if t then -(B : Int) else (B : Int)) = compare (if s then -(a : Int) else (a : Int)) (if t then -(b : Int) else (b : Int)) := by
  have h1 := @amt_lt_iff a b
  have h2 := @amt_lt_iff b a
  have h3 := @amt_lt_iff 0 a
  have h4 := @amt_lt_iff 0 b
  rw [amt_zero] at h3 h4
  rw [← hA] at h1 h2 h3
  rw [← hB] at h1 h2 h4
  refine cmp_int ?_ ?_ <;> cases s <;> cases t <;> simp only [if_true, if_false, Bool.false_eq_true] <;> omega
/-- how two words stand to one another -/
theorem order_nan {x y : Nat} (hx : x < 18446744073709551616) (hy : y < 18446744073709551616) (h : nanW x = true ∨ nanW y = true) : Ieee.double.order x y = none := by
  unfold Ieee.Format.order
  rcases h with h | h
  · rw [read_nan hx h]; rfl
  · rw [read_nan hy h]; cases Ieee.double.read x <;> rfl
theorem order_num {x y : Nat} (hx : x < 18446744073709551616) (hy : y < 18446744073709551616) (h1 : nanW x = false) (h2 : nanW y = false) : Ieee.double.order x y = some (compare (sk x) (sk y)) := by
  unfold nanW at h1 h2
  simp only [decide_eq_false_iff_not] at h1 h2
  unfold Ieee.Format.order
  unfold sk
  by_cases i1 : rg x = 9218868437227405312
  · rw [read_inf hx i1]
    by_cases i2 : rg y = 9218868437227405312
    · rw [read_inf hy i2, i1, i2]
      cases sg x <;> cases sg y <;> rfl
    · obtain ⟨n, u, e, _⟩ := read_num hy (by omega)
      rw [e, i1]
      show some (if sg x then Ordering.lt else Ordering.gt) = _
      congr 1
      cases sg x <;> cases sg y <;> simp only [if_true, if_false, Bool.false_eq_true, compare, compareOfLessAndEq] <;> (repeat' split) <;> first | rfl | omega
  · obtain ⟨m, t, e, a1⟩ := read_num hx (by omega)
    rw [e]
    by_cases i2 : rg y = 9218868437227405312
    · rw [read_inf hy i2, i2]
      show some (if sg y then Ordering.gt else Ordering.lt) = _
      congr 1
      cases sg x <;> cases sg y <;> simp only [if_true, if_false, Bool.false_eq_true, compare, compareOfLessAndEq] <;> (repeat' split) <;> first | rfl | omega
    · obtain ⟨n, u, e2, a2⟩ := read_num hy (by omega)
      rw [e2]
      show some (compare _ _) = _
      congr 1
      rw [signed_eq, signed_eq]
      obtain ⟨b, hb⟩ : ∃ b, b = min t u := ⟨_, rfl⟩
      have f1 : ((t : Int) - 1074 - min ((t : Int) - 1074) ((u : Int) - 1074)).toNat = t - b := by omega
      have f2 : ((u : Int) - 1074 - min ((t : Int) - 1074) ((u : Int) - 1074)).toNat = u - b := by omega
      rw [f1, f2, ← sk_of (s := sg x) (t := sg y) _ _ a1 a2]
      have hp := Nat.two_pow_pos b
      have g1 : m * 2 ^ t = m * 2 ^ (t - b) * 2 ^ b := by rw [Nat.mul_assoc, ← Nat.pow_add, show t - b + b = t by omega]
      have g2 : n * 2 ^ u = n * 2 ^ (u - b) * 2 ^ b := by rw [Nat.mul_assoc, ← Nat.pow_add, show u - b + b = u by omega]
      rw [g1, g2]
      generalize m * 2 ^ (t - b) = A
      generalize n * 2 ^ (u - b) = B
      generalize 2 ^ b = P at *
      have q1 : A * P < B * P ↔ A < B := Nat.mul_lt_mul_right hp
      have q2 : B * P < A * P ↔ B < A := Nat.mul_lt_mul_right hp
      have q3 : 0 < A * P ↔ 0 < A := by constructor <;> intro h <;> first | exact Nat.pos_of_mul_pos_right h | exact Nat.mul_pos h hp
      have q4 : 0 < B * P ↔ 0 < B := by constructor <;> intro h <;> first | exact Nat.pos_of_mul_pos_right h | exact Nat.mul_pos h hp
      generalize A * P = A2 at *
      generalize B * P = B2 at *
      refine cmp_int ?_ ?_ <;> cases sg x <;> cases sg y <;> simp only [if_true, if_false, Bool.false_eq_true] <;> omega
end Go.Proofs.Ythhihcmkjkofhaa.FWord
