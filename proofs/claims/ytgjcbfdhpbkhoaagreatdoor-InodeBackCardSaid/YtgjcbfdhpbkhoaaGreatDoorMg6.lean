/- Find of the program. -/
import Derived.Test.YtgjcbfdhpbkhoaaGreatDoorMg5
import Derived.Deep.RegionWith
import Derived.Deep.QuietTactic
import Derived.BigQuiet
import Derived.Test.YtgjcbfdhpbkhoaaGreatDoorMg2
namespace Go.Proofs.YtgjcbfdhpbkhoaaGreatDoor.TFind
open Go.RowKit WMem WPlain TPlain TBits TSet TWalk TOrd TCut TBud
def goalB (l : List UInt8) (goal : Int) : Bool := placeB goal && fr l goal.toNat
def pick (l : List UInt8) (want : Int) : Int := chs (hasB (ordN l)) (ordOf want)
def fI (l : List UInt8) (goal want : Int) : Int := if want < 1 then 0 else if goalB l goal = true then goal else if pick l want < 0 then 0 else (firN l (pick l want).toNat : Nat)
def fN (l : List UInt8) (goal want : Int) : Int := if want < 1 then 0 else if goalB l goal = true then (run (fr l) goal.toNat want.toNat : Nat) else if pick l want < 0 then 0 else min want ((2 ^ (pick l want).toNat : Nat) : Int)
def fOk (l : List UInt8) (goal want : Int) : Bool := if want < 1 then false else if goalB l goal = true then true else if pick l want < 0 then false else true
theorem below_drew {B : Nat} {a w : World} (h : Below B a w) : Below B a w.drew := ⟨h.os, h.tape, h.output, h.size, h.block⟩
end Go.Proofs.YtgjcbfdhpbkhoaaGreatDoor.TFind
/- What follows for what is found, in plain mathematics. -/
namespace Go.Proofs.YtgjcbfdhpbkhoaaGreatDoor.TFacts
open WPlain TPlain TBits TSet TOrd TFind TNext
theorem pick_has {l : List UInt8} {want : Int} {r : Nat} (h : pick l want = (r : Int)) : r ≤ 10 ∧ 0 < ordN l r := by
  unfold pick chs at h
  have ho := ordOf_le want
  cases e : chsO (hasB (ordN l)) (ordOf want) with
  | none => rw [e] at h; simp [optI] at h
  | some x =>
    rw [e] at h
    simp only [optI] at h
    have hx : x = r := by omega
    subst hx
    unfold chsO at e
    cases e1 : upFrom (hasB (ordN l)) (ordOf want) (11 - ordOf want) with
    | some y =>
      rw [e1] at e
      simp at e
      subst e
      obtain ⟨h1, h2, h3, _⟩ := upFrom_some e1
      exact ⟨by omega, by simpa [hasB] using h3⟩
    | none =>
      rw [e1] at e
      simp at e
      obtain ⟨h1, h2, _⟩ := downFrom_some e
      exact ⟨by omega, by simpa [hasB] using h2⟩
theorem first_chunk {l : List UInt8} {k : Nat} (h : 0 < ordN l k) : ∀ j, j < 2 ^ k → fr l (firN l k + j) = true :=
  chunk_iff.1 (bud_chunk (fst_bud h).1).2
theorem free_lt {l : List UInt8} {i : Nat} (h : fr l i = true) : i < 2016 := by
  refine Nat.lt_of_not_le fun h2 => ?_
  rw [fr_big h2] at h
  cases h
theorem found {l : List UInt8} {goal want : Int} (h : fOk l goal want = true) : ∃ i n : Nat, fI l goal want = (i : Int) ∧ fN l goal want = (n : Int) ∧ 1 ≤ n ∧ (n : Int) ≤ want ∧ i + n ≤ 2016 ∧ ∀ j, j < n → fr l (i + j) = true := by
  unfold fOk at h
  unfold fI fN
  by_cases h1 : want < 1
  · rw [if_pos h1] at h; cases h
  · rw [if_neg h1] at h
    obtain ⟨m, rfl⟩ := Int.eq_ofNat_of_zero_le (show 0 ≤ want by omega)
    by_cases h2 : goalB l goal = true
    · have h4 : (0 ≤ goal ∧ goal < 2016) ∧ fr l goal.toNat = true := by simpa [goalB, placeB] using h2
      obtain ⟨g, rfl⟩ := Int.eq_ofNat_of_zero_le h4.1.1
      rw [Int.toNat_natCast] at h4
      have hr := run_free (fr l) m g
      have hl := run_le (fr l) m g
      have h1r : 1 ≤ run (fr l) g m := by
        cases m with
        | zero => omega
        | succ m => simp only [run]; rw [if_pos h4.2]; omega
      refine ⟨g, run (fr l) g m, by simp [h1, h2], by simp [h1, h2], h1r, by omega, ?_, hr⟩
      have := free_lt (hr (run (fr l) g m - 1) (by omega))
      omega
    · rw [if_neg h2] at h
      by_cases h3 : pick l (m : Int) < 0
      · rw [if_pos h3] at h; cases h
      · obtain ⟨r, hr⟩ := Int.eq_ofNat_of_zero_le (show 0 ≤ pick l (m : Int) by omega)
        obtain ⟨hr10, hpos⟩ := pick_has hr
        have hc := first_chunk hpos
        have hp := two_pow_pos r
        rw [if_neg h1, if_neg h1, if_neg h2, if_neg h2, if_neg h3, if_neg h3, hr]
        simp only [Int.toNat_natCast]
        refine ⟨firN l r, min m (2 ^ r), rfl, by omega, by omega, by omega, ?_, fun j hj => hc j (by omega)⟩
        have := free_lt (hc (min m (2 ^ r) - 1) (by omega))
        omega
end Go.Proofs.YtgjcbfdhpbkhoaaGreatDoor.TFacts
