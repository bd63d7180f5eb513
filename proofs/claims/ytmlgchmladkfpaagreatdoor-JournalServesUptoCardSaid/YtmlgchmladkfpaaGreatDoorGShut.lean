/- The closed facts of the whole program, each by itself. -/
import Derived.Test.YtmlgchmladkfpaaGreatDoorMg47
namespace Go.Proofs.YtmlgchmladkfpaaGreatDoor.Shut
open Go.ChangeShapes Go.WideShapes Go.ChangeAt Go.RowKit WMem WPlain WCrc RowEnd Args Door
theorem both {a b : Bool} (h : a = true) (h2 : b = true) : (a && b) = true := by rw [h, h2]; rfl
theorem rowed : (mapsRowed Tryz.prog) = true := by kernel_rfl
theorem stops : ((Tryz.prog.stops == [])) = true := by kernel_rfl
theorem knobs : ((Tryz.prog.stopKnobs == [])) = true := by kernel_rfl
theorem keys : ((Rows.journalHomeRow.plainKeys == Tryz.prog.plainKeys)) = true := by kernel_rfl
theorem heard : (Tryz.prog.stopsHeard) = true := by kernel_rfl
theorem enter : (Tryz.prog.mayEnter) = true := by kernel_rfl
theorem lifts : ((Rows.journalHomeRow.lifted == Tryz.prog.liftsFinal)) = true := by kernel_rfl
theorem makes : ((Tryz.prog.make == some Rows.journalHomeRow.make)) = true := by kernel_rfl
end Go.Proofs.YtmlgchmladkfpaaGreatDoor.Shut
