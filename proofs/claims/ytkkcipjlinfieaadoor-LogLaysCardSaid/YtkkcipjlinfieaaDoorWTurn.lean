/- What Seal wrote is a seal, and no seal stands when one byte is turned. -/
import Derived.Test.YtkkcipjlinfieaaDoorWAny
namespace Go.Proofs.YtkkcipjlinfieaaDoor.WTurn
open WPlain WSeal WAny

theorem sealed_sealL (l : List UInt8) (seed : Nat) (h : 4 ≤ l.length) : sealB (sealL l seed) seed = true := by
  have hl := sealL_len l seed
  have hd : (dig 4 (crc seed (l.take (l.length - 4)))).length = 4 := dig_length _ _
  unfold sealB
  rw [hl]
  unfold sealL
  rw [if_pos h]
  have h1 := patch_part l (l.length - 4) (dig 4 (crc seed (l.take (l.length - 4)))) (by omega)
  rw [hd, List.take_of_length_le (by simp only [List.length_drop]; rw [patch_length _ _ _ (by omega)]; omega)] at h1
  have h2 := patch_apart l (l.length - 4) (dig 4 (crc seed (l.take (l.length - 4)))) (by omega) 0 (l.length - 4) (.inl (by omega))
  simp only [List.drop_zero] at h2
  rw [h1, h2, num_dig]
  have h3 := crc_lt seed (l.take (l.length - 4))
  rw [Nat.mod_eq_of_lt (by omega)]
  simp [h]

theorem num_inj (l r : List UInt8) (hl : l.length = r.length) (h : num l = num r) : l = r := by
  rw [← dig_num l, ← dig_num r, hl, h]

theorem turned (s : List UInt8) (seed i : Nat) (y : UInt8) (hs : sealB s seed = true) (hi : i < s.length) (hy : y ≠ s[i]) : sealB (s.set i y) seed = false := by
  unfold sealB at hs ⊢
  simp only [Bool.and_eq_true, decide_eq_true_eq, beq_iff_eq] at hs
  obtain ⟨h4, he⟩ := hs
  rw [List.length_set]
  simp only [Bool.and_eq_false_iff, decide_eq_false_iff_not, beq_eq_false_iff_ne]
  right
  by_cases hp : i < s.length - 4
  · rw [List.drop_set_of_lt hp, List.take_set]
    intro e
    rw [he] at e
    have hit : i < (s.take (s.length - 4)).length := by simp; omega
    have e3 : (s.take (s.length - 4))[i] = s[i] := by simp
    generalize s.take (s.length - 4) = t at *
    have e1 : t = t.take i ++ s[i] :: t.drop (i + 1) := by
      rw [← e3, ← List.drop_eq_getElem_cons hit, List.take_append_drop]
    have e2 : t.set i y = t.take i ++ y :: t.drop (i + 1) := by
      rw [List.set_eq_take_append_cons_drop, if_pos hit]
    refine crc_turned seed (t.take i) (t.drop (i + 1)) s[i] y (Ne.symm hy) ?_
    rw [← e1, ← e2]
    exact e
  · have e0 : (s.take (s.length - 4)).set i y = s.take (s.length - 4) := List.set_eq_of_length_le (by simp; omega)
    rw [List.take_set, e0, ← he]
    intro e
    have e1 := num_inj _ _ (by simp) e
    have e2 := congrArg (fun l => l[i - (s.length - 4)]?) e1
    simp only [List.getElem?_drop, List.getElem?_set] at e2
    rw [show s.length - 4 + (i - (s.length - 4)) = i by omega] at e2
    simp [hi] at e2
    exact hy e2
end Go.Proofs.YtkkcipjlinfieaaDoor.WTurn
