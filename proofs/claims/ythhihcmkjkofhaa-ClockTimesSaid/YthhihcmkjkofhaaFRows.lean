/- Numbers as rows of bits, in plain mathematics. -/
import Derived.Test.YthhihcmkjkofhaaFPlain
namespace Go.Proofs.Ythhihcmkjkofhaa.FRows
open FPlain

/-- a row's number -/
def num : List Bool → Nat
  | [] => 0
  | b :: l => b.toNat + 2 * num l
/-- a number's bit -/
def bit (x i : Nat) : Bool := decide (x / 2 ^ i % 2 = 1)
theorem num_append (a b : List Bool) : num (a ++ b) = num a + 2 ^ a.length * num b := by
  induction a with
  | nil => simp [num]
  | cons x a ih =>
    simp only [List.cons_append, num, ih, List.length_cons, Nat.pow_succ]
    rw [Nat.mul_add, Nat.mul_comm (2 ^ a.length) 2, Nat.mul_assoc]
    omega
theorem num_lt (l : List Bool) : num l < 2 ^ l.length := by
  induction l with
  | nil => simp [num]
  | cons x l ih =>
    simp only [num, List.length_cons, Nat.pow_succ]
    cases x <;> simp <;> omega
theorem num_none (n : Nat) : num (List.replicate n false) = 0 := by
  induction n with
  | zero => rfl
  | succ n ih => simp [List.replicate_succ, num, ih]
theorem num_cut (l : List Bool) (i : Nat) : num (l.take i) = num l % 2 ^ i ∧ num (l.drop i) = num l / 2 ^ i := by
  have p := Nat.two_pow_pos i
  rcases Nat.le_total i l.length with h | h
  · have e := num_append (l.take i) (l.drop i)
    rw [List.take_append_drop, List.length_take, Nat.min_eq_left h] at e
    have b := num_lt (l.take i)
    rw [List.length_take, Nat.min_eq_left h] at b
    constructor
    · rw [e, Nat.add_mul_mod_self_left, Nat.mod_eq_of_lt b]
    · rw [e, Nat.add_mul_div_left _ _ p, Nat.div_eq_of_lt b, Nat.zero_add]
  · have b := num_lt l
    have : 2 ^ l.length ≤ 2 ^ i := Nat.pow_le_pow_right (by decide) h
    rw [List.take_of_length_le h, List.drop_eq_nil_of_le h, Nat.mod_eq_of_lt (by omega), Nat.div_eq_of_lt (by omega)]
    exact ⟨rfl, rfl⟩
theorem get_bit (l : List Bool) (i : Nat) (h : i < l.length) : l[i] = bit (num l) i := by
  have e := (num_cut l i).2
  have d : l.drop i = l[i] :: l.drop (i + 1) := List.drop_eq_getElem_cons h
  rw [d, num] at e
  unfold bit
  rw [← e]
  cases l[i] <;> simp <;> omega
theorem bit_out {l : List Bool} {i : Nat} (h : l.length ≤ i) : bit (num l) i = false := by
  have b := num_lt l
  have : 2 ^ l.length ≤ 2 ^ i := Nat.pow_le_pow_right (by decide) h
  unfold bit
  rw [Nat.div_eq_of_lt (by omega)]
  rfl
/-- one bit more of a number's lower part -/
theorem mod_more (x i : Nat) : x % 2 ^ (i + 1) = x % 2 ^ i + 2 ^ i * (bit x i).toNat := by
  rw [Nat.pow_succ, Nat.mod_mul]
  unfold bit
  have : x / 2 ^ i % 2 = 0 ∨ x / 2 ^ i % 2 = 1 := by omega
  rcases this with h | h <;> simp [h]
/-- one bit more of a number's upper part -/
theorem div_more (x i : Nat) : x / 2 ^ i = 2 * (x / 2 ^ (i + 1)) + (bit x i).toNat := by
  rw [Nat.pow_succ, ← Nat.div_div_eq_div_mul]
  unfold bit
  have : x / 2 ^ i % 2 = 0 ∨ x / 2 ^ i % 2 = 1 := by omega
  rcases this with h | h <;> simp [h] <;> omega
/-- the bits of a number -/
def bitsOf : Nat → Nat → List Bool
  | 0, _ => []
  | k + 1, x => if x = 0 then [] else decide (x % 2 = 1) :: bitsOf k (x / 2)
end Go.Proofs.Ythhihcmkjkofhaa.FRows
