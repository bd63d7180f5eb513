/- A record's block with one bit turned is no record's. -/
import Derived.Test.YtgegmoejhnjhjaaDoorJBackM
import Derived.Test.YtgegmoejhnjhjaaDoorJLOnly
namespace Go.Proofs.YtgegmoejhnjhjaaDoor.JTurnM
open WMem WPlain WPack WWide WSeal WAny WTurn SNums JPlain JMem JSays JBackM JLOnly

theorem top_sub {s : Nat} (h : s < 4294967296) (i : Nat) : (4294967295 - s).testBit i = (decide (i < 32) && !s.testBit i) := by
  have := Nat.testBit_two_pow_sub_succ (n := 32) (x := s) h i
  rw [show 2 ^ 32 - (s + 1) = 4294967295 - s by omega] at this
  exact this
/-- the sum's beginning, with a seed in which some bits are turned -/
theorem top_xor {s d : Nat} (hs : s < 4294967296) (hd : d < 4294967296) : 4294967295 - (s ^^^ d) = (4294967295 - s) ^^^ d := by
  have hx : s ^^^ d < 4294967296 := Nat.xor_lt_two_pow (n := 32) hs hd
  refine Nat.eq_of_testBit_eq fun i => ?_
  rw [top_sub hx, Nat.testBit_xor, Nat.testBit_xor, top_sub hs]
  by_cases hi : i < 32
  · simp [hi]
  · have e : d.testBit i = false := Nat.testBit_lt_two_pow (Nat.lt_of_lt_of_le hd (by rw [show 4294967296 = 2 ^ 32 by rfl]; exact Nat.pow_le_pow_right (by decide) (by omega)))
    simp [hi, e]
def it8 : Nat → Nat → Nat
  | 0, d => d
  | n + 1, d => it8 n (stp8 d)
theorem stp8_xor (a b : Nat) : stp8 (a ^^^ b) = stp8 a ^^^ stp8 b := by unfold stp8; simp only [stp_xor]
theorem eats_xor (p : List UInt8) : ∀ (c d : Nat), eats (c ^^^ d) p = eats c p ^^^ it8 p.length d := by
  induction p with
  | nil => intro c d; rfl
  | cons x p ih =>
    intro c d
    have e : ∀ z, eats z (x :: p) = eats (eat z x) p := fun _ => rfl
    have e2 : eat (c ^^^ d) x = eat c x ^^^ stp8 d := by
      unfold eat
      rw [Nat.xor_assoc, Nat.xor_comm d, ← Nat.xor_assoc, stp8_xor]
    rw [e, e, e2, ih]
    rfl
theorem no_meet : ∀ t, t < 4 → ∀ m, m < 8 → it8 (5 + t) (2 ^ (8 * t + m)) ≠ 2 ^ m := by decide +kernel
theorem num_bit (x : UInt8) (l : List UInt8) (j : Nat) : (num (x :: l)).testBit j = if j < 8 then x.toNat.testBit j else (num l).testBit (j - 8) := by
  have h := Nat.testBit_two_pow_mul_add (num l) (b := x.toNat) (i := 8) (byte_lt x) j
  rw [show 2 ^ 8 * num l + x.toNat = num (x :: l) by simp only [num]; omega] at h
  exact h
theorem flip_nat (x : UInt8) (m : Nat) (hm : m < 8) : (x ^^^ UInt8.ofNat (2 ^ m)).toNat = x.toNat ^^^ 2 ^ m := by
  have hp : 2 ^ m < 256 := by
    have : 2 ^ m ≤ 2 ^ 7 := Nat.pow_le_pow_right (by decide) (by omega)
    omega
  rw [UInt8.toNat_xor]
  congr 1
  simp
  omega
theorem num_flip : ∀ (l : List UInt8) (t : Nat) (ht : t < l.length) (m : Nat), m < 8 → num (l.set t (l[t] ^^^ UInt8.ofNat (2 ^ m))) = num l ^^^ 2 ^ (8 * t + m)
  | x :: l, 0, _, m, hm => by
    refine Nat.eq_of_testBit_eq fun j => ?_
    simp only [List.set_cons_zero, List.getElem_cons_zero, Nat.mul_zero, Nat.zero_add]
    rw [Nat.testBit_xor, num_bit, num_bit, flip_nat x m hm, Nat.testBit_two_pow]
    by_cases hj : j < 8
    · rw [if_pos hj, if_pos hj, Nat.testBit_xor, Nat.testBit_two_pow]
    · rw [if_neg hj, if_neg hj]
      have : ¬ m = j := by omega
      simp [this]
  | x :: l, t + 1, ht, m, hm => by
    have ih := num_flip l t (by simpa using ht) m hm
    refine Nat.eq_of_testBit_eq fun j => ?_
    simp only [List.set_cons_succ, List.getElem_cons_succ]
    rw [Nat.testBit_xor, num_bit, num_bit, ih, Nat.testBit_two_pow]
    by_cases hj : j < 8
    · rw [if_pos hj, if_pos hj]
      have : ¬ 8 * (t + 1) + m = j := by omega
      simp [this]
    · rw [if_neg hj, if_neg hj, Nat.testBit_xor, Nat.testBit_two_pow]
      congr 1
      exact decide_eq_decide.2 (by omega)
/-- a record's block bears its seal -/
theorem rec_sealed {b : List UInt8} (h : isRec b = true) : b.length = 256 ∧ sealB b (getX b 5 4) = true := by
  obtain ⟨_, _, h256, hm, hb⟩ := unp_yes h
  refine ⟨h256, ?_⟩
  have q := seqOk_iff.1 (recMay_iff.1 hm).1
  have hs : (says b).seq.toNat = getX b 5 4 := by
    show ((getX b 5 4 : Nat) : Int).toNat = _
    simp
  have hl := bytesOf_len (recW (says b).kind (says b).ents.length) (nums (recN (says b))) 256 (rec_packs (recMay_iff.1 hm).2.1)
  have e : recBytes (says b) = sealL (bytesOf_ (nums (recN (says b))) (recW (says b).kind (says b).ents.length) 256) (getX b 5 4) := by
    unfold recBytes blockOf
    rw [hs]
  have hl' : (bytesOf_ (nums (recN (says b))) (recW (says b).kind (says b).ents.length) 256).length = 256 := hl
  have := sealed_sealL (bytesOf_ (nums (recN (says b))) (recW (says b).kind (says b).ents.length) 256) (getX b 5 4) (by omega)
  rw [← e, hb] at this
  exact this
theorem getX_set {b : List UInt8} {i p n : Nat} {y : UInt8} (h : i < p ∨ p + n ≤ i) : getX (b.set i y) (p : Int) (n : Int) = getX b (p : Int) (n : Int) := by
  unfold getX
  rw [List.length_set]
  congr 1
  simp only [Int.toNat_natCast]
  refine congrArg num (List.ext_getElem? fun k => ?_)
  simp only [List.getElem?_take, List.getElem?_drop, List.getElem?_set]
  by_cases hk : k < n
  · rw [if_pos hk, if_pos hk, if_neg (by omega)]
  · rw [if_neg hk, if_neg hk]
theorem rec_turned (b : List UInt8) (h : isRec b = true) (i m : Nat) (hi : i < 256) (hi' : i < b.length) (hm : m < 8) : isRec (b.set i (b[i] ^^^ UInt8.ofNat (2 ^ m))) = false := by
  rw [Bool.eq_false_iff]
  intro h'
  obtain ⟨h256, hs⟩ := rec_sealed h
  obtain ⟨_, hs'⟩ := rec_sealed h'
  have hne : b[i] ^^^ UInt8.ofNat (2 ^ m) ≠ b[i] := fun e => by
    have e2 := congrArg UInt8.toNat e
    rw [flip_nat _ m hm] at e2
    have h4 : b[i].toNat ^^^ 2 ^ m = b[i].toNat ^^^ 0 := by simpa using e2
    have h5 := congrArg (b[i].toNat ^^^ ·) h4
    simp only [← Nat.xor_assoc, Nat.xor_self, Nat.zero_xor] at h5
    have := Nat.two_pow_pos m
    omega
  by_cases hin : i < 5 ∨ 5 + 4 ≤ i
  · have e : getX (b.set i (b[i] ^^^ UInt8.ofNat (2 ^ m))) 5 4 = getX b 5 4 := getX_set (p := 5) (n := 4) hin
    rw [e] at hs'
    rw [turned b _ i _ hs hi' hne] at hs'
    cases hs'
  · obtain ⟨t, rfl⟩ : ∃ t, i = 5 + t := ⟨i - 5, by omega⟩
    have ht : t < 4 := by omega
    have hX : ∀ c : List UInt8, c.length = 256 → getX c 5 4 = num ((c.drop 5).take 4) := fun c hc => by
      unfold getX
      rw [if_pos ⟨by omega, by omega, by omega, by omega⟩]
      rfl
    have hl4 : ((b.drop 5).take 4).length = 4 := by simp; omega
    have hget : ((b.drop 5).take 4)[t]'(by omega) = b[5 + t] := by simp
    have hseed : getX (b.set (5 + t) (b[5 + t] ^^^ UInt8.ofNat (2 ^ m))) 5 4 = getX b 5 4 ^^^ 2 ^ (8 * t + m) := by
      rw [hX _ (by rw [List.length_set]; exact h256), hX b h256]
      have e : ((b.set (5 + t) (b[5 + t] ^^^ UInt8.ofNat (2 ^ m))).drop 5).take 4 = ((b.drop 5).take 4).set t (((b.drop 5).take 4)[t]'(by omega) ^^^ UInt8.ofNat (2 ^ m)) := by
        rw [hget]
        refine List.ext_getElem? fun k => ?_
        simp only [List.getElem?_take, List.getElem?_drop, List.getElem?_set]
        by_cases hk : k < 4
        · simp only [hk, if_true, List.length_take, List.length_drop]
          by_cases hkt : t = k
          · subst hkt
            rw [if_pos rfl, if_pos rfl, if_pos hi', if_pos (by omega)]
          · rw [if_neg (by omega), if_neg hkt]
        · simp only [hk, if_false]
          rw [if_neg (by omega)]
      rw [e]
      exact num_flip _ t (by omega) m hm
    have hsd : getX b 5 4 < 4294967296 := JRead.getX_small b 5 4
    have hd : 2 ^ (8 * t + m) < 4294967296 := by
      have : 2 ^ (8 * t + m) ≤ 2 ^ 31 := Nat.pow_le_pow_right (by decide) (by omega)
      omega
    generalize getX b 5 4 = s at *
    rw [hseed] at hs'
    have hy := flip_nat b[5 + t] m hm
    generalize hyy : b[5 + t] ^^^ UInt8.ofNat (2 ^ m) = y at *
    unfold sealB at hs hs'
    simp only [Bool.and_eq_true, beq_iff_eq, List.length_set] at hs hs'
    have e1 := hs.2
    have e2 := hs'.2
    rw [h256] at e1 e2
    rw [List.drop_set_of_lt (by omega), e1] at e2
    have hsplit : b.take (256 - 4) = b.take (5 + t) ++ b[5 + t] :: (b.drop (5 + t + 1)).take (256 - 4 - (5 + t) - 1) := by
      refine List.ext_getElem? fun k => ?_
      rw [List.getElem?_take]
      by_cases h1 : k < 5 + t
      · rw [if_pos (by omega), List.getElem?_append_left (by simp; omega), List.getElem?_take, if_pos h1]
      · rw [List.getElem?_append_right (by simp; omega)]
        have el : (b.take (5 + t)).length = 5 + t := by simp; omega
        rw [el]
        obtain ⟨z, rfl⟩ : ∃ z, k = 5 + t + z := ⟨k - (5 + t), by omega⟩
        rw [show 5 + t + z - (5 + t) = z by omega]
        match z with
        | 0 => rw [if_pos (by omega)]; simp [hi']
        | z + 1 =>
          rw [List.getElem?_cons_succ, List.getElem?_take, List.getElem?_drop]
          by_cases h2 : 5 + t + (z + 1) < 256 - 4
          · rw [if_pos h2, if_pos (by omega), show 5 + t + 1 + z = 5 + t + (z + 1) by omega]
          · rw [if_neg h2, if_neg (by omega)]
    have hsplit' : (b.set (5 + t) y).take (256 - 4) = b.take (5 + t) ++ y :: (b.drop (5 + t + 1)).take (256 - 4 - (5 + t) - 1) := by
      rw [List.take_set, hsplit, List.set_append_right _ _ (by simp; omega)]
      have el : (b.take (5 + t)).length = 5 + t := by simp; omega
      rw [el, show 5 + t - (5 + t) = 0 by omega]
      rfl
    rw [hsplit, hsplit'] at e2
    have hpl : (b.take (5 + t)).length = 5 + t := by simp; omega
    generalize b.take (5 + t) = p at *
    generalize (b.drop (5 + t + 1)).take (256 - 4 - (5 + t) - 1) = q at *
    generalize b[5 + t] = x at *
    unfold crc at e2
    have hsx : s ^^^ 2 ^ (8 * t + m) < 4294967296 := Nat.xor_lt_two_pow (n := 32) hsd hd
    have b1 := eats_lt (show 4294967295 - s < 4294967296 by omega) (p ++ x :: q)
    have b2 := eats_lt (show 4294967295 - (s ^^^ 2 ^ (8 * t + m)) < 4294967296 by omega) (p ++ y :: q)
    have e3 : eats (4294967295 - s) (p ++ x :: q) = eats (4294967295 - (s ^^^ 2 ^ (8 * t + m))) (p ++ y :: q) := by omega
    rw [eats_append, eats_append] at e3
    have c1 := eats_lt (show 4294967295 - s < 4294967296 by omega) p
    have c2 := eats_lt (show 4294967295 - (s ^^^ 2 ^ (8 * t + m)) < 4294967296 by omega) p
    have e4 := eats_inj (eat_lt c1 x) (eat_lt c2 y) q e3
    have e5 := stp8_inj (xorb_lt c1 x) (xorb_lt c2 y) e4
    rw [top_xor hsd hd, eats_xor, hpl, hy] at e5
    have e6 := congrArg (fun z => (eats (4294967295 - s) p ^^^ x.toNat) ^^^ z) e5
    simp only [Nat.xor_self] at e6
    have e7 : it8 (5 + t) (2 ^ (8 * t + m)) ^^^ 2 ^ m = 0 := by
      rw [e6]
      generalize eats (4294967295 - s) p = u
      generalize x.toNat = v
      generalize it8 (5 + t) (2 ^ (8 * t + m)) = z
      generalize 2 ^ m = k
      refine Nat.eq_of_testBit_eq fun i => ?_
      simp only [Nat.testBit_xor]
      cases u.testBit i <;> cases v.testBit i <;> cases z.testBit i <;> cases k.testBit i <;> rfl
    exact no_meet t ht m hm (xor_cancel (p := 2 ^ m) (by rw [e7, Nat.xor_self]))
end Go.Proofs.YtgegmoejhnjhjaaDoor.JTurnM
