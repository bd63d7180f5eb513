/- Bits in a row of bytes. Nothing of the program. -/
import Derived.Test.YtlpipnpcgancmaaDoorWPlain
import Derived.Test.YtlpipnpcgancmaaDoorTPlain
namespace Go.Proofs.YtlpipnpcgancmaaDoor.TBits
open WPlain TPlain

/-- is the bit there, and free? -/
def fr (l : List UInt8) (i : Nat) : Bool := decide (i < 2016) && decide (i / 8 < l.length) && !((l.getD (i / 8) 0).toNat.testBit (i % 8))
theorem fr_big {l : List UInt8} {i : Nat} (h : 2016 ≤ i) : fr l i = false := by simp [fr]; omega
theorem fr_in {l : List UInt8} {i : Nat} (h : i < 2016) (h2 : i / 8 < l.length) : fr l i = !(l[i / 8].toNat.testBit (i % 8)) := by
  simp [fr, h, h2]
theorem fr_out {l : List UInt8} {i : Nat} (h2 : l.length ≤ i / 8) : fr l i = false := by
  simp [fr]; omega
/-- of any int -/
def frI (l : List UInt8) (i : Int) : Bool := decide (0 ≤ i) && fr l i.toNat
theorem frI_nat (l : List UInt8) (i : Nat) : frI l (i : Int) = fr l i := by simp [frI]
theorem testBit_go (x s : Nat) : ((x : Int) / 2 ^ s % 2 == 1) = x.testBit s := by
  rw [Nat.testBit_eq_decide_div_mod_eq, Bool.eq_iff_iff]
  simp only [beq_iff_eq, decide_eq_true_eq]
  have h : ((x / 2 ^ s : Nat) : Int) = (x : Int) / 2 ^ s := by simp
  rw [← h]
  omega
/-- how many bits are free; how many chunks of an order are a buddy's; the first one of them -/
def zeros (l : List UInt8) : Nat := zer (fr l) 2016
def ordN (l : List UInt8) (k : Nat) : Nat := cnt (fr l) k 2016
def firN (l : List UInt8) (k : Nat) : Nat := fst (fr l) k 2016
/-- have all these bits that value? -/
def allB (l : List UInt8) (a n : Nat) (set : Bool) : Bool := (List.range n).all fun j => (!fr l (a + j)) == set
theorem allB_iff {l : List UInt8} {a n : Nat} {set : Bool} : allB l a n set = true ↔ ∀ j, j < n → (!fr l (a + j)) = set := by
  simp [allB, List.all_eq_true, List.mem_range]
theorem allB_no {l : List UInt8} {a n j : Nat} {set : Bool} (hj : j < n) (h : (!fr l (a + j)) ≠ set) : allB l a n set = false := by
  cases e : allB l a n set with
  | false => rfl
  | true => exact absurd (allB_iff.1 e j hj) h
/-- how many bits are free one behind the other, n at most -/
def run (F : Nat → Bool) (a : Nat) : Nat → Nat
  | 0 => 0
  | n + 1 => if F a = true then 1 + run F (a + 1) n else 0
theorem run_le (F : Nat → Bool) : ∀ n a, run F a n ≤ n
  | 0, _ => Nat.le_refl _
  | n + 1, a => by
    simp only [run]
    split
    · have := run_le F n (a + 1); omega
    · omega
theorem run_free (F : Nat → Bool) : ∀ n a j, j < run F a n → F (a + j) = true
  | 0, _, _, h => by simp [run] at h
  | n + 1, a, j, h => by
    simp only [run] at h
    split at h
    · rename_i hf
      cases j with
      | zero => exact hf
      | succ j =>
        have := run_free F n (a + 1) j (by omega)
        rwa [show a + 1 + j = a + (j + 1) by omega] at this
    · omega
theorem run_end (F : Nat → Bool) : ∀ n a, run F a n < n → F (a + run F a n) = false
  | 0, _, h => by simp [run] at h
  | n + 1, a, h => by
    simp only [run] at h ⊢
    split
    · rename_i hf
      rw [if_pos hf] at h
      have := run_end F n (a + 1) (by omega)
      rwa [show a + 1 + run F (a + 1) n = a + (1 + run F (a + 1) n) by omega] at this
    · rename_i hf
      simpa using hf
theorem run_is (F : Nat → Bool) (a n k : Nat) (hk : k ≤ n) (h : ∀ j, j < k → F (a + j) = true) (he : k = n ∨ F (a + k) = false) : run F a n = k := by
  have h1 := run_le F n a
  rcases Nat.lt_trichotomy (run F a n) k with hl | hl | hl
  · have := run_end F n a (by omega)
    rw [h _ hl] at this; cases this
  · exact hl
  · have h2 := run_free F n a k hl
    rcases he with he | he
    · omega
    · rw [h2] at he; cases he
/-- the least order from j on, of n orders, that has a chunk -/
def upFrom (P : Nat → Bool) (j : Nat) : Nat → Option Nat
  | 0 => none
  | n + 1 => if P j = true then some j else upFrom P (j + 1) n
/-- the greatest order below k that has a chunk -/
def downFrom (P : Nat → Bool) : Nat → Option Nat
  | 0 => none
  | k + 1 => if P k = true then some k else downFrom P k
theorem upFrom_some {P : Nat → Bool} : ∀ {n j r}, upFrom P j n = some r → j ≤ r ∧ r < j + n ∧ P r = true ∧ ∀ i, j ≤ i → i < r → P i = false
  | 0, _, _, h => by simp [upFrom] at h
  | n + 1, j, r, h => by
    simp only [upFrom] at h
    split at h
    · rename_i hp
      injection h with h
      subst h
      exact ⟨by omega, by omega, hp, fun i h1 h2 => by omega⟩
    · rename_i hp
      obtain ⟨h1, h2, h3, h4⟩ := upFrom_some h
      refine ⟨by omega, by omega, h3, fun i i1 i2 => ?_⟩
      by_cases e : i = j
      · subst e; simpa using hp
      · exact h4 i (by omega) i2
theorem upFrom_none {P : Nat → Bool} : ∀ {n j}, upFrom P j n = none → ∀ i, j ≤ i → i < j + n → P i = false
  | 0, _, _, i, h1, h2 => by omega
  | n + 1, j, h, i, h1, h2 => by
    simp only [upFrom] at h
    split at h
    · cases h
    · rename_i hp
      by_cases e : i = j
      · subst e; simpa using hp
      · exact upFrom_none h i (by omega) (by omega)
theorem downFrom_some {P : Nat → Bool} : ∀ {k r}, downFrom P k = some r → r < k ∧ P r = true ∧ ∀ i, r < i → i < k → P i = false
  | 0, _, h => by simp [downFrom] at h
  | k + 1, r, h => by
    simp only [downFrom] at h
    split at h
    · rename_i hp
      injection h with h
      subst h
      exact ⟨by omega, hp, fun i h1 h2 => by omega⟩
    · rename_i hp
      obtain ⟨h1, h2, h3⟩ := downFrom_some h
      refine ⟨by omega, h2, fun i i1 i2 => ?_⟩
      by_cases e : i = k
      · subst e; simpa using hp
      · exact h3 i i1 (by omega)
theorem downFrom_none {P : Nat → Bool} : ∀ {k}, downFrom P k = none → ∀ i, i < k → P i = false
  | 0, _, i, h1 => by omega
  | k + 1, h, i, h1 => by
    simp only [downFrom] at h
    split at h
    · cases h
    · rename_i hp
      by_cases e : i = k
      · subst e; simpa using hp
      · exact downFrom_none h i (by omega)
/-- the order that is chosen -/
def chsO (P : Nat → Bool) (k : Nat) : Option Nat := (upFrom P k (11 - k)).or (downFrom P k)
def optI : Option Nat → Int
  | some j => (j : Int)
  | none => -1
def chs (P : Nat → Bool) (k : Nat) : Int := optI (chsO P k)
/-- the least order whose chunks have so many bits; 10, if there is none -/
def ordOf (want : Int) : Nat := (upFrom (fun j => decide (want ≤ ((2 ^ j : Nat) : Int))) 0 10).getD 10
theorem ordOf_le (want : Int) : ordOf want ≤ 10 := by
  unfold ordOf
  cases h : upFrom (fun j => decide (want ≤ ((2 ^ j : Nat) : Int))) 0 10 with
  | none => simp
  | some r => have := upFrom_some h; simp; omega
end Go.Proofs.YtlpipnpcgancmaaDoor.TBits
