/- What all rows of this seat share: the program's few closed facts, the listed table in memory, a world that holds it. -/
import Derived.Test.YtgkindoidmglnaaGreatDoorCards
import Derived.Test.YtgkindoidmglnaaGreatDoorTie
import Derived.Test.YtgkindoidmglnaaGreatDoorMg11
import Derived.Test.YtgkindoidmglnaaGreatDoorMg52
import Derived.Test.YtgkindoidmglnaaGreatDoorMg50
import Derived.WalkKit
import Derived.ProofKit
import Derived.OpenShut
import Derived.Deep.DeepHandedRow
import Derived.Lib.LaidTab
namespace Go.Proofs.YtgkindoidmglnaaGreatDoor.Door
open Go.ChangeShapes Go.WideShapes Go.ChangeAt Go.RowKit WMem WPlain WCrc RowEnd Args

theorem own : ownKnob Tryz.prog.godebug = none := by kernel_rfl
theorem laidOut : laidOutB Tryz.prog = true := by kernel_rfl
theorem gTab : Tryz.prog.globalNamed "hayrick/wire.fourSteps" = some 0 := by kernel_rfl
theorem gTabType : (Tryz.prog.globals[0]?).map (·.type) = some 208 := by kernel_rfl
theorem uTab : Tryz.prog.underlying 208 = some (.array 16 84) := by kernel_rfl
theorem u32t : Tryz.prog.underlying 84 = some (.int .u32) := by kernel_rfl
theorem u8t : Tryz.prog.underlying 5 = some (.int .u8) := by kernel_rfl
theorem u64t : Tryz.prog.underlying 145 = some (.int .u64) := by kernel_rfl
theorem i64t : Tryz.prog.underlying 3 = some (.int .i64) := by kernel_rfl
theorem boolt : Tryz.prog.underlying 4 = some .bool := by kernel_rfl
theorem u8s : Tryz.prog.underlying 77 = some (.slice 5) := by kernel_rfl
theorem u64s : Tryz.prog.underlying 138 = some (.slice 145) := by kernel_rfl
theorem ints : Tryz.prog.underlying 32 = some (.slice 3) := by kernel_rfl
theorem cTab : Tryz.prog.cellsOf 208 = 16 := by kernel_rfl
theorem c32 : Tryz.prog.cellsOf 84 = 1 := by kernel_rfl
theorem c8 : Tryz.prog.cellsOf 5 = 1 := by kernel_rfl
theorem c64 : Tryz.prog.cellsOf 145 = 1 := by kernel_rfl
theorem ci : Tryz.prog.cellsOf 3 = 1 := by kernel_rfl
theorem b8 : Tryz.prog.bytesOf 5 = 1 := by kernel_rfl
theorem b64 : Tryz.prog.bytesOf 145 = 8 := by kernel_rfl
theorem bi : Tryz.prog.bytesOf 3 = 8 := by kernel_rfl

/-- what every row of this seat lists -/
abbrev laid1 : List (String × DataW Unit) := [("hayrick/wire.fourSteps", Rows.laid_hayrick_wire_fourSteps)]
/-- the list gives the table's cells -/
theorem tab_of {W : World} (h : laidMetH Tryz.prog laid1 W) : Tab W := by
  have ht : Lib.TabIs Tryz.prog W "hayrick/wire.fourSteps" .u32 (tab.map fun (n : Nat) => (n : Int)) :=
    Lib.tabIs_of_head (rest := []) gTab gTabType uTab u32t c32 cTab h
  intro r hr
  rw [ht.cell gTab r (by simpa [tab] using hr)]
  simp only [List.getD_eq_getElem?_getD, List.getElem?_map]
  rw [List.getElem?_eq_getElem (by simpa [tab] using hr)]
  rfl

/-- what the second form's bound gives of each list -/
theorem bulk_pos {H : Type} (d : DataW H) : 1 ≤ Rows.uptoBulk d := by
  cases d with
  | lit l => cases l <;> simp [Rows.uptoBulk]
  | nil => simp [Rows.uptoBulk]
  | ptr d => simp [Rows.uptoBulk]
  | slice elems spare => simp [Rows.uptoBulk]
  | agg parts => simp [Rows.uptoBulk]
  | iface t d => simp [Rows.uptoBulk]
  | map entries => simp [Rows.uptoBulk]
  | held h => simp [Rows.uptoBulk]
theorem bulk_many {H : Type} (l : List (DataW H)) : l.length ≤ Rows.uptoBulkAll l ∧ ∀ d ∈ l, Rows.uptoBulk d ≤ Rows.uptoBulkAll l := by
  induction l with
  | nil => exact ⟨Nat.zero_le _, by simp⟩
  | cons x r ih =>
    have := bulk_pos x
    refine ⟨by simp only [Rows.uptoBulkAll, List.length_cons]; omega, fun d hd => ?_⟩
    simp only [Rows.uptoBulkAll]
    rcases List.mem_cons.1 hd with rfl | hd
    · omega
    · have := ih.2 d hd; omega
theorem small_each {H : Type} {ds : List (DataW H)} (hk : Rows.uptoSmall H ds = true) : ∀ d ∈ ds, ∀ n : Nat, HasLen d n → n ≤ 1048576 := by
  intro d hd n hn
  have h1 := of_decide_eq_true hk
  have h2 := (bulk_many ds).2 d hd
  rcases hn with rfl | ⟨elems, spare, rfl, rfl⟩
  · omega
  · have h3 := (bulk_many elems).1
    simp only [Rows.uptoBulk] at h2
    omega

/-- a world for a witness: the settled one, the table holding what its initialiser lays -/
noncomputable def laidWorld (os : Os) : World :=
  { World.holding Tryz.prog os ⟨#[], #[], []⟩ with heap := (World.holding Tryz.prog os ⟨#[], #[], []⟩).heap.modify 0 fun
      | .cells _ t frozen => .cells (tab.map fun (n : Nat) => Value.int .u32 (n : Int)).toArray t frozen
      | o => o }
end Go.Proofs.YtgkindoidmglnaaGreatDoor.Door
