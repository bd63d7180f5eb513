/- What all rows of this seat share: the program's few closed facts, what comes in, a world for a witness. -/
import Derived.Test.YtfaahhipddlmgaaRows
import Derived.Test.YtfaahhipddlmgaaKArgs
import Derived.Test.YtfaahhipddlmgaaRow
import Derived.WalkKit
import Derived.ProofKit
import Derived.OpenShut
import Derived.Deep.DeepHandedRow
namespace Go.Proofs.Ytfaahhipddlmgaa.KDoor
open Go.ChangeShapes Go.WideShapes Go.ChangeAt Go.RowKit Go.Deep WMem KMap KScript RowEnd KArgs

theorem own : ownKnob Try.prog.godebug = none := by kernel_rfl
theorem laidOut : laidOutB Try.prog = true := by kernel_rfl
theorem i64t : Try.prog.underlying 3 = some (.int .i64) := by kernel_rfl
theorem boolt : Try.prog.underlying 4 = some .bool := by kernel_rfl
theorem opst : Try.prog.underlying 22 = some (.slice 31) := by kernel_rfl
theorem cop : Try.prog.cellsOf 31 = 4 := by kernel_rfl
theorem bop : Try.prog.bytesOf 31 = 32 := by kernel_rfl
theorem uop : ∃ f0 f1 f2 f3, Try.prog.underlying 31 = some (.struct #[f0, f1, f2, f3]) ∧ oneCellFields Try.prog #[f0, f1, f2, f3] = true ∧
    f0.type = 3 ∧ f1.type = 3 ∧ f2.type = 3 ∧ f3.type = 4 :=
  ⟨_, _, _, _, Try.underlying31, by kernel_rfl, rfl, rfl, rfl, rfl⟩
theorem intst : Try.prog.underlying 44 = some (.slice 3) := by kernel_rfl
theorem cint : Try.prog.cellsOf 3 = 1 := by kernel_rfl
theorem bint : Try.prog.bytesOf 3 = 8 := by kernel_rfl
theorem gridt : Try.prog.underlying 43 = some (.slice 44) := by kernel_rfl
theorem cints : Try.prog.cellsOf 44 = 1 := by kernel_rfl
theorem bints : Try.prog.bytesOf 44 = 24 := by kernel_rfl
section
variable {H : Type} {enc : TypeId × Value → H} {W : World} {b0 : Nat} {v : Value} {d : DataW H} {p : List MemPlace} {ts : List TypeId} {ds : List (DataW H)} {j : Nat}
theorem script_of (hv : Value.okWide Try.prog W .any b0 22 v) (h : DataW.Trod enc Try.prog W 0 (fun _ => true) true 22 v d p)
    (hsz : (DataW.weightsEach Try.prog ts ds).all (· ≤ reachBytes) = true) (htj : ts[j]? = some 22) (hdj : ds[j]? = some d) :
    ∃ (A : Option Addr) (ops : List OpV) (c : Nat), v = .slice A ops.length c ∧ OpsIn W W.heap.size A ops ∧ ops.length ≤ 140737488355328 := by
  obtain ⟨f0, f1, f2, f3, hu, hone, e0, e1, e2, e3⟩ := uop
  exact arg_ops opst hu hone cop (by rw [e0]; exact i64t) (by rw [e1]; exact i64t) (by rw [e2]; exact i64t) (by rw [e3]; exact boolt) (by rw [bop]; decide) hv h hsz htj hdj
theorem one_op (hv : Value.okWide Try.prog W .any b0 31 v) (h : DataW.Trod enc Try.prog W 0 (fun _ => true) true 31 v d p) :
    ∃ o : OpV, v = .agg #[.int .i64 o.what, .int .i64 o.th, .int .i64 o.key, .bool o.al] ∧ Fits o.key := by
  obtain ⟨f0, f1, f2, f3, hu, hone, e0, e1, e2, e3⟩ := uop
  obtain ⟨cs, rfl, hc⟩ := okWide_struct hu hv
  obtain ⟨fuel, hf⟩ := h
  obtain ⟨o, h1, h2⟩ := op_of hu hone (by rw [e0]; exact i64t) (by rw [e1]; exact i64t) (by rw [e2]; exact i64t) (by rw [e3]; exact boolt) (by rw [cop] at hc; simpa [Value.cells] using hc) hf
  refine ⟨o, ?_, h2⟩
  simp only [Value.cells] at h1
  have h3 : cs.toList.toArray = [Value.int .i64 o.what, .int .i64 o.th, .int .i64 o.key, .bool o.al].toArray := by rw [h1]
  rw [Array.toArray_toList] at h3
  rw [h3]
theorem list_of (hv : Value.okWide Try.prog W .any b0 44 v) (h : DataW.Trod enc Try.prog W 0 (fun _ => true) true 44 v d p)
    (hsz : (DataW.weightsEach Try.prog ts ds).all (· ≤ reachBytes) = true) (htj : ts[j]? = some 44) (hdj : ds[j]? = some d) :
    ∃ (A : Option Addr) (zs : List Int) (c : Nat), v = .slice A zs.length c ∧ (∀ z ∈ zs, Fits z) ∧ Sl W W.heap.size A (zs.map i64v) ∧ zs.length ≤ 140737488355328 :=
  arg_ints intst i64t cint (by rw [bint]; decide) hv h hsz htj hdj
theorem grids_of (hv : Value.okWide Try.prog W .any b0 43 v) (h : DataW.Trod enc Try.prog W 0 (fun _ => true) true 43 v d p)
    (hsz : (DataW.weightsEach Try.prog ts ds).all (· ≤ reachBytes) = true) (htj : ts[j]? = some 43) (hdj : ds[j]? = some d) :
    ∃ (A : Option Addr) (G : List (List Int)) (c : Nat), v = .slice A G.length c ∧ Grid W W.heap.size A G ∧ G.length ≤ 140737488355328 :=
  arg_grid gridt intst i64t cint cints (by rw [bints]; decide) hv h hsz htj hdj
end
theorem laid_none (w : World) : laidMet Try.prog [] w := ⟨[], rfl, List.nodup_nil, fun b off h => (by cases h)⟩
noncomputable def emptyWorld (os : Os) : World := World.holding Try.prog os ⟨#[], #[], []⟩
end Go.Proofs.Ytfaahhipddlmgaa.KDoor
