/- How a geometry that comes in is opened: a struct of four numbers, handed in by value. -/
import Derived.Test.YtgkindoidmglnaaGreatDoorMg1
import Derived.Deep.Fields
import Derived.ChangeSame
import Derived.ProofKit
import Derived.OpenShut
import Derived.SizedLaws
namespace Go.Proofs.YtgkindoidmglnaaGreatDoor.GArgs
open Go.ChangeShapes Go.WideShapes Go.ChangeAt Go.RowKit Go.Deep WMem

section
variable {H : Type} {enc : TypeId × Value → H} {P : Program} {w : World} {base : Nat} {spare : Nat → Bool} {held : Bool}
theorem fields_of {e : TypeId} {fs : Array Field} {fuel : Nat} {cs : List Value} {x : DataW H × List MemPlace} (he : P.underlying e = some (.struct fs)) (hone : oneCellFields P fs = true) (hl : cs.length = fs.size)
    (h : DataW.trod enc P w base spare held fuel e cs = some x) (j : Nat) (f : Field) (hj : fs[j]? = some f) : ∃ v y n', cs[j]? = some v ∧ DataW.trod enc P w base spare held n' f.type [v] = some y := by
  obtain ⟨ys, n', hn', hy, hlen, hyl, hf⟩ := DataW.trod_struct he h
  obtain ⟨ho, hk⟩ := hone_of hone j f hj
  have hjl : j < fs.size := (Array.getElem?_eq_some_iff.1 hj).1
  have h1 := hf j f hj
  rw [ho, hk] at h1
  have hone' : (cs.drop j).take 1 = [cs[j]'(by omega)] := by
    rw [List.drop_eq_getElem_cons (by omega)]
    rfl
  rw [hone'] at h1
  have hys : ys[j]? = some (ys[j]'(by omega)) := List.getElem?_eq_getElem (by omega)
  exact ⟨_, _, n', List.getElem?_eq_getElem (by omega), h1.trans hys⟩
theorem int_of {t : TypeId} {n : Nat} {v : Value} {y : DataW H × List MemPlace} (ht : P.underlying t = some (.int .i64)) (h : DataW.trod enc P w base spare held n t [v] = some y) : ∃ x, v = .int .i64 x ∧ (Lit.int .i64 x).wf = true := by
  obtain ⟨x, e, _, hw⟩ := DataW.trod_int ht h
  exact ⟨x, by simpa using e, hw⟩
theorem four_of {e : TypeId} {f0 f1 f2 f3 : Field} {fuel : Nat} {cs : List Value} {x : DataW H × List MemPlace} (he : P.underlying e = some (.struct #[f0, f1, f2, f3])) (hone : oneCellFields P #[f0, f1, f2, f3] = true)
    (t0 : P.underlying f0.type = some (.int .i64)) (t1 : P.underlying f1.type = some (.int .i64)) (t2 : P.underlying f2.type = some (.int .i64)) (t3 : P.underlying f3.type = some (.int .i64)) (hl : cs.length = 4)
    (h : DataW.trod enc P w base spare held fuel e cs = some x) : ∃ a b c d : Int, cs = [.int .i64 a, .int .i64 b, .int .i64 c, .int .i64 d] := by
  obtain ⟨v0, _, _, c0, g0⟩ := fields_of he hone hl h 0 f0 rfl
  obtain ⟨v1, _, _, c1, g1⟩ := fields_of he hone hl h 1 f1 rfl
  obtain ⟨v2, _, _, c2, g2⟩ := fields_of he hone hl h 2 f2 rfl
  obtain ⟨v3, _, _, c3, g3⟩ := fields_of he hone hl h 3 f3 rfl
  obtain ⟨n0, rfl, _⟩ := int_of t0 g0
  obtain ⟨n1, rfl, _⟩ := int_of t1 g1
  obtain ⟨n2, rfl, _⟩ := int_of t2 g2
  obtain ⟨n3, rfl, _⟩ := int_of t3 g3
  refine ⟨n0, n1, n2, n3, ?_⟩
  match cs, hl with
  | [a, b, c, d], _ =>
    simp at c0 c1 c2 c3
    rw [c0, c1, c2, c3]
end
end Go.Proofs.YtgkindoidmglnaaGreatDoor.GArgs
