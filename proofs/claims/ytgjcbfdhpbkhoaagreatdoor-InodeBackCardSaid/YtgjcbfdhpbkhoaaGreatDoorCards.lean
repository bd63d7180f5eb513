/-
  DERIVED. GIVEN WITH THE SEED: THE CARDS: each row of YtgjcbfdhpbkhoaaGreatDoorRows.lean that lists a variable, with what it lists TIED to the program's text (the seventh form; the later family's looks); each row that meets fmt, with fmt's text TOLD by the authors' own Lean function (tested against real Go, not proved from fmt's source: count such statements apart). THE CARD IS WHAT COUNTS. Prove the row's statement (the work); the ties are given (YtgjcbfdhpbkhoaaGreatDoorTie.lean); close each card by the builder's one call (the guide's Derived/Test/ToyasCard.lean, 'card_holds'). Laid BY PROGRAM, IN A SANDBOX (cutbox-door.mjs). By AI agents, Wed Nov 11 2026. No macro, syntax, notation, axiom, sorry.
-/
import Derived.Test.YtgjcbfdhpbkhoaaGreatDoorRows
import GoSem.ClaimSeven
namespace Go.Proofs.YtgjcbfdhpbkhoaaGreatDoor
namespace Rows

/-- THE TIED CARD OF 'hayricklaw12.InodePacks'. -/
def inodePacksCard : Claim7 := { stood := { row := inodePacksRow, standIns := [], harness := (true, "9be6b4621d6e9f49f6d3fab101c406b56d86b72e16bf3005b32a63b828526515"), looks := true }, kinds := [], alts := [], laidByText := true, laidKinds := [.data], laidTests := true, laidLooks := .later }
def InodePacksCardSaid : Prop := Claim7.holds Tryz.pinned (.plain (OpenSpec.ofChange inodePacksSpec)) inodePacksCard

/-- THE TIED CARD OF 'hayricklaw12.InodeBack'. -/
def inodeBackCard : Claim7 := { stood := { row := inodeBackRow, standIns := [], harness := (true, "9be6b4621d6e9f49f6d3fab101c406b56d86b72e16bf3005b32a63b828526515"), looks := true }, kinds := [], alts := [], laidByText := true, laidKinds := [.data], laidTests := true, laidLooks := .later }
def InodeBackCardSaid : Prop := Claim7.holds Tryz.pinned (.plain (OpenSpec.ofChange inodeBackSpec)) inodeBackCard

/-- THE TIED CARD OF 'hayricklaw12.InodeOnly'. -/
def inodeOnlyCard : Claim7 := { stood := { row := inodeOnlyRow, standIns := [], harness := (true, "9be6b4621d6e9f49f6d3fab101c406b56d86b72e16bf3005b32a63b828526515"), looks := true }, kinds := [], alts := [], laidByText := true, laidKinds := [.data], laidTests := true, laidLooks := .later }
def InodeOnlyCardSaid : Prop := Claim7.holds Tryz.pinned (.plain (OpenSpec.ofChange inodeOnlySpec)) inodeOnlyCard

/-- THE TIED CARD OF 'hayricklaw12.InodeCleared'. -/
def inodeClearedCard : Claim7 := { stood := { row := inodeClearedRow, standIns := [], harness := (true, "9be6b4621d6e9f49f6d3fab101c406b56d86b72e16bf3005b32a63b828526515"), looks := true }, kinds := [], alts := [], laidByText := true, laidKinds := [.data], laidTests := true, laidLooks := .later }
def InodeClearedCardSaid : Prop := Claim7.holds Tryz.pinned (.plain (OpenSpec.ofChange inodeClearedSpec)) inodeClearedCard

/-- THE SECOND FORM's CARD OF 'hayricklaw12.InodePacks'. -/
def inodePacksUptoCard : Claim7 := { stood := { row := inodePacksUptoRow, standIns := [], harness := (true, "9be6b4621d6e9f49f6d3fab101c406b56d86b72e16bf3005b32a63b828526515"), looks := true }, kinds := [], alts := [], laidByText := true, laidKinds := [.data], laidTests := true, laidLooks := .later }
def InodePacksUptoCardSaid : Prop := Claim7.holds Tryz.pinned (.plain (OpenSpec.upto inodePacksSpec)) inodePacksUptoCard

/-- THE SECOND FORM's CARD OF 'hayricklaw12.InodeBack'. -/
def inodeBackUptoCard : Claim7 := { stood := { row := inodeBackUptoRow, standIns := [], harness := (true, "9be6b4621d6e9f49f6d3fab101c406b56d86b72e16bf3005b32a63b828526515"), looks := true }, kinds := [], alts := [], laidByText := true, laidKinds := [.data], laidTests := true, laidLooks := .later }
def InodeBackUptoCardSaid : Prop := Claim7.holds Tryz.pinned (.plain (OpenSpec.upto inodeBackSpec)) inodeBackUptoCard

/-- THE SECOND FORM's CARD OF 'hayricklaw12.InodeOnly'. -/
def inodeOnlyUptoCard : Claim7 := { stood := { row := inodeOnlyUptoRow, standIns := [], harness := (true, "9be6b4621d6e9f49f6d3fab101c406b56d86b72e16bf3005b32a63b828526515"), looks := true }, kinds := [], alts := [], laidByText := true, laidKinds := [.data], laidTests := true, laidLooks := .later }
def InodeOnlyUptoCardSaid : Prop := Claim7.holds Tryz.pinned (.plain (OpenSpec.upto inodeOnlySpec)) inodeOnlyUptoCard

/-- THE SECOND FORM's CARD OF 'hayricklaw12.InodeCleared'. -/
def inodeClearedUptoCard : Claim7 := { stood := { row := inodeClearedUptoRow, standIns := [], harness := (true, "9be6b4621d6e9f49f6d3fab101c406b56d86b72e16bf3005b32a63b828526515"), looks := true }, kinds := [], alts := [], laidByText := true, laidKinds := [.data], laidTests := true, laidLooks := .later }
def InodeClearedUptoCardSaid : Prop := Claim7.holds Tryz.pinned (.plain (OpenSpec.upto inodeClearedSpec)) inodeClearedUptoCard
end Rows
end Go.Proofs.YtgjcbfdhpbkhoaaGreatDoor
