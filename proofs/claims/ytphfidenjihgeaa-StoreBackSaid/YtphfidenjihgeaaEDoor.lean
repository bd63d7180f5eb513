/- What all rows of this seat share: the program's few closed facts, what comes in, a world for a witness. -/
import Derived.Test.YtphfidenjihgeaaRows
import Derived.Test.YtphfidenjihgeaaEArgs
import Derived.Test.YtphfidenjihgeaaRow
import Derived.WalkKit
import Derived.ProofKit
import Derived.OpenShut
import Derived.Deep.DeepHandedRow
namespace Go.Proofs.Ytphfidenjihgeaa.EDoor
open Go.ChangeShapes Go.WideShapes Go.ChangeAt Go.RowKit Go.Deep WMem Map EScript RowEnd EArgs

theorem own : ownKnob Try.prog.godebug = none := by kernel_rfl
theorem laidOut : laidOutB Try.prog = true := by kernel_rfl
theorem i64t : Try.prog.underlying 3 = some (.int .i64) := by kernel_rfl
theorem boolt : Try.prog.underlying 4 = some .bool := by kernel_rfl
theorem opst : Try.prog.underlying 49 = some (.slice 55) := by kernel_rfl
theorem cop : Try.prog.cellsOf 55 = 3 := by kernel_rfl
theorem bop : Try.prog.bytesOf 55 = 24 := by kernel_rfl
set_option maxRecDepth 100000 in
theorem uop : ∃ f0 f1 f2, Try.prog.underlying 55 = some (.struct #[f0, f1, f2]) ∧ oneCellFields Try.prog #[f0, f1, f2] = true ∧
    f0.type = 3 ∧ f1.type = 3 ∧ f2.type = 3 :=
  ⟨_, _, _, Try.underlying55, by kernel_rfl, rfl, rfl, rfl⟩
section
variable {H : Type} {enc : TypeId × Value → H} {W : World} {b0 : Nat} {v : Value} {d : DataW H} {p : List MemPlace} {ts : List TypeId} {ds : List (DataW H)} {j : Nat}
set_option maxRecDepth 100000 in
theorem script_of (hv : Value.okWide Try.prog W .any b0 49 v) (h : DataW.Trod enc Try.prog W 0 (fun _ => true) true 49 v d p)
    (hsz : (DataW.weightsEach Try.prog ts ds).all (· ≤ reachBytes) = true) (htj : ts[j]? = some 49) (hdj : ds[j]? = some d) :
    ∃ (A : Option Addr) (ops : List OpV) (c : Nat), v = .slice A ops.length c ∧ OpsIn W W.heap.size A ops ∧ ops.length ≤ 140737488355328 := by
  obtain ⟨f0, f1, f2, hu, hone, e0, e1, e2⟩ := uop
  exact arg_ops opst hu hone cop (by rw [e0]; exact i64t) (by rw [e1]; exact i64t) (by rw [e2]; exact i64t) (by rw [bop]; decide) hv h hsz htj hdj
end
theorem laid_none (w : World) : laidMet Try.prog [] w := ⟨[], rfl, List.nodup_nil, fun b off h => (by cases h)⟩
noncomputable def emptyWorld (os : Os) : World := World.holding Try.prog os ⟨#[], #[], []⟩
end Go.Proofs.Ytphfidenjihgeaa.EDoor
