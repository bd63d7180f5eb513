/- What all rows of this seat share: the program's few closed facts, a geometry that comes in, a world for a witness. -/
import Derived.Test.YtoaallnmihhjlaaRows
import Derived.Test.YtoaallnmihhjlaaGArgs
import Derived.Test.YtoaallnmihhjlaaRow
import Derived.WalkKit
import Derived.ProofKit
import Derived.OpenShut
import Derived.Deep.DeepHandedRow
namespace Go.Proofs.Ytoaallnmihhjlaa.GDoor
open Go.ChangeShapes Go.WideShapes Go.ChangeAt Go.RowKit Go.Deep WMem RowEnd GArgs

theorem own : ownKnob Try.prog.godebug = none := by kernel_rfl
theorem laidOut : laidOutB Try.prog = true := by kernel_rfl
theorem i64t : Try.prog.underlying 3 = some (.int .i64) := by kernel_rfl
theorem boolt : Try.prog.underlying 4 = some .bool := by kernel_rfl
theorem cgeo : Try.prog.cellsOf 23 = 4 := by kernel_rfl
theorem ugeo : ∃ f0 f1 f2 f3, Try.prog.underlying 23 = some (.struct #[f0, f1, f2, f3]) ∧ oneCellFields Try.prog #[f0, f1, f2, f3] = true ∧
    f0.type = 3 ∧ f1.type = 3 ∧ f2.type = 3 ∧ f3.type = 3 :=
  ⟨_, _, _, _, Try.underlying23, by kernel_rfl, rfl, rfl, rfl, rfl⟩
theorem geo_of {H : Type} {enc : TypeId × Value → H} {W : World} {b0 : Nat} {v : Value} {d : DataW H} {p : List MemPlace} (hv : Value.okWide Try.prog W .any b0 23 v)
    (h : DataW.Trod enc Try.prog W 0 (fun _ => true) true 23 v d p) : ∃ b p n j : Int, v = .agg #[.int .i64 b, .int .i64 p, .int .i64 n, .int .i64 j] := by
  obtain ⟨f0, f1, f2, f3, hu, hone, e0, e1, e2, e3⟩ := ugeo
  obtain ⟨cs, rfl, hc⟩ := okWide_struct hu hv
  obtain ⟨fuel, hf⟩ := h
  obtain ⟨b, p, n, j, h1⟩ := four_of hu hone (by rw [e0]; exact i64t) (by rw [e1]; exact i64t) (by rw [e2]; exact i64t) (by rw [e3]; exact i64t) (by rw [cgeo] at hc; simpa [Value.cells] using hc) hf
  refine ⟨b, p, n, j, ?_⟩
  simp only [Value.cells] at h1
  have h3 : cs.toList.toArray = [Value.int .i64 b, Value.int .i64 p, Value.int .i64 n, Value.int .i64 j].toArray := by rw [h1]
  rw [Array.toArray_toList] at h3
  rw [h3]
theorem laid_none (w : World) : laidMet Try.prog [] w := ⟨[], rfl, List.nodup_nil, fun b off h => (by cases h)⟩
noncomputable def emptyWorld (os : Os) : World := World.holding Try.prog os ⟨#[], #[], []⟩
end Go.Proofs.Ytoaallnmihhjlaa.GDoor
