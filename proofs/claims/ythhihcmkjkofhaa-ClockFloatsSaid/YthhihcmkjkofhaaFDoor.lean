/- What all rows of this seat share: the program's few closed facts, whole numbers that come in, a world for a witness. -/
import Derived.Test.YthhihcmkjkofhaaRows
import Derived.Test.YthhihcmkjkofhaaRow
import Derived.WalkKit
import Derived.ProofKit
import Derived.OpenShut
import Derived.Deep.DeepHandedRow
namespace Go.Proofs.Ythhihcmkjkofhaa.FDoor
open Go.ChangeShapes Go.WideShapes Go.ChangeAt Go.RowKit RowEnd

theorem own : ownKnob Try.prog.godebug = none := by kernel_rfl
theorem laidOut : laidOutB Try.prog = true := by kernel_rfl
theorem i64t : Try.prog.underlying 2 = some (.int .i64) := by kernel_rfl
theorem u64t : Try.prog.underlying 22 = some (.int .u64) := by kernel_rfl
theorem boolt : Try.prog.underlying 4 = some .bool := by kernel_rfl
theorem laid_none (w : World) : laidMet Try.prog [] w := ⟨[], rfl, List.nodup_nil, fun b off h => (by cases h)⟩
noncomputable def emptyWorld (os : Os) : World := World.holding Try.prog os ⟨#[], #[], []⟩
theorem u64_lo {x : Int} (h : (Lit.int .u64 x).wf = true) : 0 ≤ x ∧ x ≤ 18446744073709551615 := by
  have e1 : IntKind.u64.min = 0 := rfl
  have e2 : IntKind.u64.max = 18446744073709551615 := by decide
  simp only [Lit.wf, e1, e2] at h
  simpa using h
theorem i64_lo {x : Int} (h : (Lit.int .i64 x).wf = true) : -9223372036854775808 ≤ x ∧ x ≤ 9223372036854775807 := by
  have e1 : IntKind.i64.min = -9223372036854775808 := by decide
  have e2 : IntKind.i64.max = 9223372036854775807 := by decide
  simp only [Lit.wf, e1, e2] at h
  simpa using h
end Go.Proofs.Ythhihcmkjkofhaa.FDoor
