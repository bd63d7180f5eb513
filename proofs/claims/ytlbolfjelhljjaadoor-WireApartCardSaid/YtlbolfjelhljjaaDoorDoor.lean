/- What all rows of this seat share: the program's few closed facts, the listed table in memory, a world that holds it. -/
import Derived.Test.YtlbolfjelhljjaaDoorCards
import Derived.Test.YtlbolfjelhljjaaDoorTie
import Derived.Test.YtlbolfjelhljjaaDoorWCrc
import Derived.Test.YtlbolfjelhljjaaDoorRow
import Derived.Test.YtlbolfjelhljjaaDoorArgs
import Derived.WalkKit
import Derived.ProofKit
import Derived.OpenShut
import Derived.Deep.DeepHandedRow
import Derived.Lib.LaidTab
namespace Go.Proofs.YtlbolfjelhljjaaDoor.Door
open Go.ChangeShapes Go.WideShapes Go.ChangeAt Go.RowKit WMem WPlain WCrc RowEnd Args

theorem own : ownKnob Tryd.prog.godebug = none := by kernel_rfl
theorem laidOut : laidOutB Tryd.prog = true := by kernel_rfl
theorem gTab : Tryd.prog.globalNamed "hayrick/wire.fourSteps" = some 0 := by kernel_rfl
theorem gTabType : (Tryd.prog.globals[0]?).map (·.type) = some 52 := by kernel_rfl
theorem uTab : Tryd.prog.underlying 52 = some (.array 16 22) := by kernel_rfl
theorem u32t : Tryd.prog.underlying 22 = some (.int .u32) := by kernel_rfl
theorem u8t : Tryd.prog.underlying 5 = some (.int .u8) := by kernel_rfl
theorem u64t : Tryd.prog.underlying 30 = some (.int .u64) := by kernel_rfl
theorem i64t : Tryd.prog.underlying 3 = some (.int .i64) := by kernel_rfl
theorem boolt : Tryd.prog.underlying 4 = some .bool := by kernel_rfl
theorem u8s : Tryd.prog.underlying 23 = some (.slice 5) := by kernel_rfl
theorem u64s : Tryd.prog.underlying 39 = some (.slice 30) := by kernel_rfl
theorem ints : Tryd.prog.underlying 40 = some (.slice 3) := by kernel_rfl
theorem cTab : Tryd.prog.cellsOf 52 = 16 := by kernel_rfl
theorem c32 : Tryd.prog.cellsOf 22 = 1 := by kernel_rfl
theorem c8 : Tryd.prog.cellsOf 5 = 1 := by kernel_rfl
theorem c64 : Tryd.prog.cellsOf 30 = 1 := by kernel_rfl
theorem ci : Tryd.prog.cellsOf 3 = 1 := by kernel_rfl
theorem b8 : Tryd.prog.bytesOf 5 = 1 := by kernel_rfl
theorem b64 : Tryd.prog.bytesOf 30 = 8 := by kernel_rfl
theorem bi : Tryd.prog.bytesOf 3 = 8 := by kernel_rfl

/-- what every row of this seat lists -/
abbrev laid1 : List (String × DataW Unit) := [("hayrick/wire.fourSteps", Rows.laid_hayrick_wire_fourSteps)]
/-- the list gives the table's cells -/
theorem tab_of {W : World} (h : laidMetH Tryd.prog laid1 W) : Tab W := by
  have ht : Lib.TabIs Tryd.prog W "hayrick/wire.fourSteps" .u32 (tab.map fun (n : Nat) => (n : Int)) :=
    Lib.tabIs_of_head (rest := []) gTab gTabType uTab u32t c32 cTab h
  intro r hr
  rw [ht.cell gTab r (by simpa [tab] using hr)]
  simp only [List.getD_eq_getElem?_getD, List.getElem?_map]
  rw [List.getElem?_eq_getElem (by simpa [tab] using hr)]
  rfl

/-- a world for a witness: the settled one, the table holding what its initialiser lays -/
noncomputable def laidWorld (os : Os) : World :=
  { World.holding Tryd.prog os ⟨#[], #[], []⟩ with heap := (World.holding Tryd.prog os ⟨#[], #[], []⟩).heap.modify 0 fun
      | .cells _ t frozen => .cells (tab.map fun (n : Nat) => Value.int .u32 (n : Int)).toArray t frozen
      | o => o }
end Go.Proofs.YtlbolfjelhljjaaDoor.Door
