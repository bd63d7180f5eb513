/- Bits that are turned or laid, in plain mathematics: two blocks whose bits are the same are the same once they are sealed. -/
import Derived.Test.YtlpipnpcgancmaaDoorTFace
namespace Go.Proofs.YtlpipnpcgancmaaDoor.TSame
open WPlain WAny TPlain TBits TTurn

theorem flipB_bit (x : UInt8) (s t : Nat) (hs : s < 8) : (flipB x s).toNat.testBit t = (x.toNat.testBit t != decide (s = t)) := by
  have hx := byte_lt x
  have h2 : 2 ^ s < 256 := Nat.lt_of_le_of_lt (Nat.pow_le_pow_right (by decide) (show s ≤ 7 by omega)) (by decide)
  have h4 : x.toNat ^^^ 2 ^ s < 256 := Nat.xor_lt_two_pow (n := 8) hx h2
  have e : (flipB x s).toNat = x.toNat ^^^ 2 ^ s := by
    unfold flipB
    simp only [UInt8.toNat_ofNat']
    exact Nat.mod_eq_of_lt h4
  rw [e, Nat.testBit_xor, Nat.testBit_two_pow]
theorem fr_get {l : List UInt8} (hl : l.length = 256) {i : Nat} (hi : i < 2016) : fr l i = !((l.getD (i / 8) 0).toNat.testBit (i % 8)) := by
  have h : i / 8 < l.length := by omega
  simp [fr, hi, h]
theorem fr_flip {l : List UInt8} (hl : l.length = 256) {i j : Nat} (hi : i < 2016) (_hj : j < 2016) : fr (flip l j) i = (fr l i != decide (i = j)) := by
  rw [fr_get (by rw [flip_len]; exact hl) hi, fr_get hl hi]
  unfold TTurn.flip
  by_cases h : j / 8 = i / 8
  · have e : (l.set (j / 8) (flipB (l.getD (j / 8) 0) (j % 8))).getD (i / 8) 0 = flipB (l.getD (i / 8) 0) (j % 8) := by
      rw [← h, List.getD_eq_getElem?_getD, List.getElem?_set_self (by omega)]
      rfl
    rw [e, flipB_bit _ _ _ (by omega)]
    have : decide (j % 8 = i % 8) = decide (i = j) := by rw [Bool.eq_iff_iff]; simp only [decide_eq_true_eq]; omega
    rw [this]
    cases (l.getD (i / 8) 0).toNat.testBit (i % 8) <;> cases decide (i = j) <;> rfl
  · have e : (l.set (j / 8) (flipB (l.getD (j / 8) 0) (j % 8))).getD (i / 8) 0 = l.getD (i / 8) 0 := by
      rw [List.getD_eq_getElem?_getD, List.getElem?_set_ne h, ← List.getD_eq_getElem?_getD]
    rw [e]
    have : decide (i = j) = false := by simp; intro h2; exact h (by rw [h2])
    rw [this]
    simp
theorem fr_flips {l : List UInt8} (hl : l.length = 256) {i a : Nat} (hi : i < 2016) : ∀ n, a + n ≤ 2016 → fr (flips l a n) i = (fr l i != decide (a ≤ i ∧ i < a + n))
  | 0, _ => by
    have : decide (a ≤ i ∧ i < a + 0) = false := by simp
    rw [this]
    simp [flips]
  | n + 1, h => by
    have ih := fr_flips hl hi n (a := a) (by omega)
    simp only [flips]
    rw [fr_flip (by rw [flips_len]; exact hl) hi (by omega), ih]
    by_cases h1 : a ≤ i ∧ i < a + n
    · have e1 : decide (a ≤ i ∧ i < a + n) = true := by simp; omega
      have e2 : decide (i = a + n) = false := by simp; omega
      have e3 : decide (a ≤ i ∧ i < a + (n + 1)) = true := by simp; omega
      rw [e1, e2, e3]; simp
    · have e1 : decide (a ≤ i ∧ i < a + n) = false := by simp; omega
      by_cases h2 : i = a + n
      · have e2 : decide (i = a + n) = true := by simpa using h2
        have e3 : decide (a ≤ i ∧ i < a + (n + 1)) = true := by simp; omega
        rw [e1, e2, e3]; simp
      · have e2 : decide (i = a + n) = false := by simpa using h2
        have e3 : decide (a ≤ i ∧ i < a + (n + 1)) = false := by simp; omega
        rw [e1, e2, e3]; simp

/-! Bits that are laid one by one. -/
def setB (x : UInt8) (s : Nat) : UInt8 := UInt8.ofNat (x.toNat ||| 2 ^ s)
def lay1 (l : List UInt8) (i : Nat) : List UInt8 := l.set (i / 8) (setB (l.getD (i / 8) 0) (i % 8))
/-- a block in which the first n bits are set as P says -/
def lay (P : Nat → Bool) : Nat → List UInt8
  | 0 => List.replicate 256 0
  | n + 1 => if P n = true then lay1 (lay P n) n else lay P n
theorem lay1_len (l : List UInt8) (i : Nat) : (lay1 l i).length = l.length := by simp [lay1]
theorem lay_len (P : Nat → Bool) (n : Nat) : (lay P n).length = 256 := by
  induction n with
  | zero => exact List.length_replicate ..
  | succ n ih =>
    simp only [lay]
    split
    · rw [lay1_len, ih]
    · exact ih
theorem setB_bit (x : UInt8) (s t : Nat) (hs : s < 8) : (setB x s).toNat.testBit t = (x.toNat.testBit t || decide (s = t)) := by
  have hx := byte_lt x
  have h2 : 2 ^ s < 256 := Nat.lt_of_le_of_lt (Nat.pow_le_pow_right (by decide) (show s ≤ 7 by omega)) (by decide)
  have h4 : x.toNat ||| 2 ^ s < 256 := Nat.or_lt_two_pow (n := 8) hx h2
  have e : (setB x s).toNat = x.toNat ||| 2 ^ s := by
    unfold setB
    simp only [UInt8.toNat_ofNat']
    exact Nat.mod_eq_of_lt h4
  rw [e, Nat.testBit_or, Nat.testBit_two_pow]
theorem fr_lay1 {l : List UInt8} (hl : l.length = 256) {i j : Nat} (hi : i < 2016) (_hj : j < 2016) : fr (lay1 l j) i = (fr l i && !decide (i = j)) := by
  rw [fr_get (by rw [lay1_len]; exact hl) hi, fr_get hl hi]
  unfold lay1
  by_cases h : j / 8 = i / 8
  · have e : (l.set (j / 8) (setB (l.getD (j / 8) 0) (j % 8))).getD (i / 8) 0 = setB (l.getD (i / 8) 0) (j % 8) := by
      rw [← h, List.getD_eq_getElem?_getD, List.getElem?_set_self (by omega)]
      rfl
    rw [e, setB_bit _ _ _ (by omega)]
    have : decide (j % 8 = i % 8) = decide (i = j) := by rw [Bool.eq_iff_iff]; simp only [decide_eq_true_eq]; omega
    rw [this]
    cases (l.getD (i / 8) 0).toNat.testBit (i % 8) <;> cases decide (i = j) <;> rfl
  · have e : (l.set (j / 8) (setB (l.getD (j / 8) 0) (j % 8))).getD (i / 8) 0 = l.getD (i / 8) 0 := by
      rw [List.getD_eq_getElem?_getD, List.getElem?_set_ne h, ← List.getD_eq_getElem?_getD]
    rw [e]
    have : decide (i = j) = false := by simp; intro h2; exact h (by rw [h2])
    rw [this]
    simp
theorem fr_blank {i : Nat} (hi : i < 2016) : fr (List.replicate 256 0) i = true := by
  rw [fr_get (List.length_replicate ..) hi, List.getD_eq_getElem?_getD, List.getElem?_replicate]
  rw [if_pos (by omega)]
  simp
theorem fr_lay (P : Nat → Bool) {i : Nat} (hi : i < 2016) : ∀ n, n ≤ 2016 → fr (lay P n) i = !(decide (i < n) && P i)
  | 0, _ => by rw [lay, fr_blank hi]; simp
  | n + 1, h => by
    have ih := fr_lay P hi n (by omega)
    simp only [lay]
    by_cases hn : i = n
    · subst hn
      have e1 : decide (i < i) = false := by simp
      have e2 : decide (i < i + 1) = true := by simp
      rw [e1] at ih
      rw [e2]
      cases hp : P i with
      | true =>
        rw [if_pos rfl, fr_lay1 (lay_len _ _) hi (by omega), ih]
        simp
      | false =>
        rw [if_neg (by simp), ih]
        simp
    · have e1 : decide (i < n + 1) = decide (i < n) := by rw [Bool.eq_iff_iff]; simp only [decide_eq_true_eq]; omega
      rw [e1, ← ih]
      split
      · rw [fr_lay1 (lay_len _ _) hi (by omega)]
        have : decide (i = n) = false := by simpa using hn
        rw [this]; simp
      · rfl
/-- the same bits: the same bytes, but for the seal's -/
theorem take_same {l r : List UInt8} (hl : l.length = 256) (hr : r.length = 256) (h : ∀ i, i < 2016 → fr l i = fr r i) : l.take 252 = r.take 252 := by
  apply List.ext_getElem?
  intro j
  by_cases hj : j < 252
  · rw [List.getElem?_take_of_lt hj, List.getElem?_take_of_lt hj, List.getElem?_eq_getElem (by omega), List.getElem?_eq_getElem (by omega)]
    congr 1
    apply UInt8.toNat_inj.1
    apply Nat.eq_of_testBit_eq
    intro s
    by_cases hs : s < 8
    · have := h (8 * j + s) (by omega)
      rw [fr_get hl (by omega), fr_get hr (by omega), show (8 * j + s) / 8 = j by omega, show (8 * j + s) % 8 = s by omega] at this
      simp only [List.getD_eq_getElem?_getD, List.getElem?_eq_getElem (show j < l.length by omega), List.getElem?_eq_getElem (show j < r.length by omega), Option.getD_some] at this
      exact Bool.not_inj this
    · have big : ∀ x : UInt8, x.toNat.testBit s = false := fun x => Nat.testBit_lt_two_pow (Nat.lt_of_lt_of_le (byte_lt x) (by
        have := Nat.pow_le_pow_right (show 0 < 2 by decide) (show 8 ≤ s by omega)
        exact this))
      rw [big, big]
  · rw [List.getElem?_eq_none (by simp; omega), List.getElem?_eq_none (by simp; omega)]
theorem sealL_256 {l : List UInt8} (hl : l.length = 256) (seed : Nat) : sealL l seed = l.take 252 ++ dig 4 (crc seed (l.take 252)) := by
  unfold sealL
  rw [if_pos (by omega), hl]
  unfold patch
  rw [dig_length]
  rw [List.drop_eq_nil_of_le (by omega), List.append_nil]
theorem seal_same {l r : List UInt8} (hl : l.length = 256) (hr : r.length = 256) (h : ∀ i, i < 2016 → fr l i = fr r i) (seed : Nat) : sealL l seed = sealL r seed := by
  rw [sealL_256 hl, sealL_256 hr, take_same hl hr h]
/-- the seal turns no bit -/
theorem fr_seal {l : List UInt8} (hl : l.length = 256) (seed : Nat) {i : Nat} : fr (sealL l seed) i = fr l i := by
  by_cases hi : i < 2016
  · rw [fr_get (by rw [sealL_len]; exact hl) hi, fr_get hl hi, sealL_256 hl, List.getD_eq_getElem?_getD, List.getElem?_append_left (by simp; omega), List.getElem?_take_of_lt (by omega), ← List.getD_eq_getElem?_getD]
  · rw [fr_big (by omega), fr_big (by omega)]
/-- a block that is sealed is what its bits say -/
theorem sealed_is {l : List UInt8} (hl : l.length = 256) {seed : Nat} (h : WSeal.sealB l seed = true) : sealL l seed = l := by
  unfold WSeal.sealB at h
  simp only [Bool.and_eq_true, decide_eq_true_eq, beq_iff_eq] at h
  have h2 := h.2
  rw [hl] at h2
  rw [sealL_256 hl, ← h2, show dig 4 (num (l.drop (256 - 4))) = l.drop 252 by
    have := dig_num (l.drop 252)
    rw [List.length_drop, hl] at this
    exact this]
  exact List.take_append_drop 252 l
/-- bits that are turned are so many free ones less -/
theorem zer_turn {F G : Nat → Bool} {a k : Nat} (h1 : ∀ i, a ≤ i → i < a + k → F i = true ∧ G i = false) (h2 : ∀ i, ¬ (a ≤ i ∧ i < a + k) → G i = F i) : ∀ p, zer G p + (min p (a + k) - min p a) = zer F p
  | 0 => by simp [zer]
  | p + 1 => by
    have ih := zer_turn h1 h2 p
    simp only [zer]
    by_cases hp : a ≤ p ∧ p < a + k
    · obtain ⟨e1, e2⟩ := h1 p hp.1 hp.2
      rw [e1, e2]
      simp
      omega
    · rw [h2 p hp]
      split <;> omega
end Go.Proofs.YtlpipnpcgancmaaDoor.TSame
