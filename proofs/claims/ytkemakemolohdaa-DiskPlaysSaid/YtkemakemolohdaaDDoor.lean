/- What all rows of this seat share: the program's few closed facts, a script that comes in, a world for a witness. -/
import Derived.Test.YtkemakemolohdaaRows
import Derived.Test.YtkemakemolohdaaDArgs
import Derived.WalkKit
import Derived.ProofKit
import Derived.OpenShut
import Derived.Deep.DeepHandedRow
namespace Go.Proofs.Ytkemakemolohdaa.DDoor
open Go.ChangeShapes Go.WideShapes Go.ChangeAt Go.RowKit Go.Deep WMem DPlain DFlush LMade RowEnd DArgs

theorem own : ownKnob Try.prog.godebug = none := by kernel_rfl
theorem laidOut : laidOutB Try.prog = true := by kernel_rfl
theorem i64t : Try.prog.underlying 3 = some (.int .i64) := by kernel_rfl
theorem boolt : Try.prog.underlying 4 = some .bool := by kernel_rfl
theorem boolst : Try.prog.underlying 38 = some (.slice 4) := by kernel_rfl
theorem cb : Try.prog.cellsOf 4 = 1 := by kernel_rfl
theorem opst : Try.prog.underlying 22 = some (.slice 40) := by kernel_rfl
theorem cop : Try.prog.cellsOf 40 = 4 := by kernel_rfl
theorem bop : Try.prog.bytesOf 40 = 48 := by kernel_rfl
theorem uop : ∃ f0 f1 f2 f3, Try.prog.underlying 40 = some (.struct #[f0, f1, f2, f3]) ∧ oneCellFields Try.prog #[f0, f1, f2, f3] = true ∧
    f0.type = 3 ∧ f1.type = 3 ∧ f2.type = 3 ∧ f3.type = 38 :=
  ⟨_, _, _, _, Try.underlying40, by kernel_rfl, rfl, rfl, rfl, rfl⟩
section
variable {H : Type} {enc : TypeId × Value → H}
theorem script_of {W : World} {b0 : Nat} {v : Value} {d : DataW H} {p : List MemPlace} (hv : Value.okWide Try.prog W .any b0 22 v) (h : DataW.Trod enc Try.prog W 0 (fun _ => true) true 22 v d p)
    {ts : List TypeId} {ds : List (DataW H)} {j : Nat} (hsz : (DataW.weightsEach Try.prog ts ds).all (· ≤ reachBytes) = true) (htj : ts[j]? = some 22) (hdj : ds[j]? = some d) :
    ∃ (A : Option Addr) (ops : List OpV) (c : Nat), v = .slice A ops.length c ∧ OpsIn W W.heap.size A ops ∧ ops.length ≤ 140737488355328 := by
  obtain ⟨f0, f1, f2, f3, hu, hone, e0, e1, e2, e3⟩ := uop
  exact arg_ops opst hu hone cop (by rw [e0]; exact i64t) (by rw [e1]; exact i64t) (by rw [e2]; exact i64t) (by rw [e3]; exact boolst) boolt cb (by rw [bop]; decide) hv h hsz htj hdj
end
theorem laid_none (w : World) : laidMet Try.prog [] w := ⟨[], rfl, List.nodup_nil, fun b off h => (by cases h)⟩
noncomputable def emptyWorld (os : Os) : World := World.holding Try.prog os ⟨#[], #[], []⟩
end Go.Proofs.Ytkemakemolohdaa.DDoor
