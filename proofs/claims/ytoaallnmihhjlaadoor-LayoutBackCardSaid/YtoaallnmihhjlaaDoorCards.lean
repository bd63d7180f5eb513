/-
  DERIVED. GIVEN WITH THE SEED: THE CARDS: each row of YtoaallnmihhjlaaDoorRows.lean that lists a variable, with what it lists TIED to the program's text (the seventh form; the later family's looks); each row that meets fmt, with fmt's text TOLD by the authors' own Lean function (tested against real Go, not proved from fmt's source: count such statements apart). THE CARD IS WHAT COUNTS. Prove the row's statement (the work); the ties are given (YtoaallnmihhjlaaDoorTie.lean); close each card by the builder's one call (the guide's Derived/Test/ToyasCard.lean, 'card_holds'). Laid BY PROGRAM, IN A SANDBOX (cutbox-door.mjs). By AI agents, Wed Nov 11 2026. No macro, syntax, notation, axiom, sorry.
-/
import Derived.Test.YtoaallnmihhjlaaDoorRows
import GoSem.ClaimSeven
namespace Go.Proofs.YtoaallnmihhjlaaDoor
namespace Rows

/-- THE TIED CARD OF 'hayricklaw04.LayoutSupers'. -/
def layoutSupersCard : Claim7 := { stood := { row := layoutSupersRow, standIns := [], harness := (true, "1a2d0e1370292b0f56b55bc95f637f009463e5fe62c06de671bcc0a3714342c5"), looks := true }, kinds := [], alts := [], laidByText := true, laidKinds := [.data], laidTests := true, laidLooks := .later }
def LayoutSupersCardSaid : Prop := Claim7.holds Tryd.pinned (.plain (OpenSpec.ofChange layoutSupersSpec)) layoutSupersCard

/-- THE TIED CARD OF 'hayricklaw04.LayoutGroups'. -/
def layoutGroupsCard : Claim7 := { stood := { row := layoutGroupsRow, standIns := [], harness := (true, "1a2d0e1370292b0f56b55bc95f637f009463e5fe62c06de671bcc0a3714342c5"), looks := true }, kinds := [], alts := [], laidByText := true, laidKinds := [.data], laidTests := true, laidLooks := .later }
def LayoutGroupsCardSaid : Prop := Claim7.holds Tryd.pinned (.plain (OpenSpec.ofChange layoutGroupsSpec)) layoutGroupsCard

/-- THE TIED CARD OF 'hayricklaw04.LayoutBack'. -/
def layoutBackCard : Claim7 := { stood := { row := layoutBackRow, standIns := [], harness := (true, "1a2d0e1370292b0f56b55bc95f637f009463e5fe62c06de671bcc0a3714342c5"), looks := true }, kinds := [], alts := [], laidByText := true, laidKinds := [.data], laidTests := true, laidLooks := .later }
def LayoutBackCardSaid : Prop := Claim7.holds Tryd.pinned (.plain (OpenSpec.ofChange layoutBackSpec)) layoutBackCard

/-- THE TIED CARD OF 'hayricklaw04.LayoutOnly'. -/
def layoutOnlyCard : Claim7 := { stood := { row := layoutOnlyRow, standIns := [], harness := (true, "1a2d0e1370292b0f56b55bc95f637f009463e5fe62c06de671bcc0a3714342c5"), looks := true }, kinds := [], alts := [], laidByText := true, laidKinds := [.data], laidTests := true, laidLooks := .later }
def LayoutOnlyCardSaid : Prop := Claim7.holds Tryd.pinned (.plain (OpenSpec.ofChange layoutOnlySpec)) layoutOnlyCard

/-- THE SECOND FORM's CARD OF 'hayricklaw04.LayoutSupers'. -/
def layoutSupersUptoCard : Claim7 := { stood := { row := layoutSupersUptoRow, standIns := [], harness := (true, "1a2d0e1370292b0f56b55bc95f637f009463e5fe62c06de671bcc0a3714342c5"), looks := true }, kinds := [], alts := [], laidByText := true, laidKinds := [.data], laidTests := true, laidLooks := .later }
def LayoutSupersUptoCardSaid : Prop := Claim7.holds Tryd.pinned (.plain (OpenSpec.upto layoutSupersSpec)) layoutSupersUptoCard

/-- THE SECOND FORM's CARD OF 'hayricklaw04.LayoutGroups'. -/
def layoutGroupsUptoCard : Claim7 := { stood := { row := layoutGroupsUptoRow, standIns := [], harness := (true, "1a2d0e1370292b0f56b55bc95f637f009463e5fe62c06de671bcc0a3714342c5"), looks := true }, kinds := [], alts := [], laidByText := true, laidKinds := [.data], laidTests := true, laidLooks := .later }
def LayoutGroupsUptoCardSaid : Prop := Claim7.holds Tryd.pinned (.plain (OpenSpec.upto layoutGroupsSpec)) layoutGroupsUptoCard

/-- THE SECOND FORM's CARD OF 'hayricklaw04.LayoutBack'. -/
def layoutBackUptoCard : Claim7 := { stood := { row := layoutBackUptoRow, standIns := [], harness := (true, "1a2d0e1370292b0f56b55bc95f637f009463e5fe62c06de671bcc0a3714342c5"), looks := true }, kinds := [], alts := [], laidByText := true, laidKinds := [.data], laidTests := true, laidLooks := .later }
def LayoutBackUptoCardSaid : Prop := Claim7.holds Tryd.pinned (.plain (OpenSpec.upto layoutBackSpec)) layoutBackUptoCard

/-- THE SECOND FORM's CARD OF 'hayricklaw04.LayoutOnly'. -/
def layoutOnlyUptoCard : Claim7 := { stood := { row := layoutOnlyUptoRow, standIns := [], harness := (true, "1a2d0e1370292b0f56b55bc95f637f009463e5fe62c06de671bcc0a3714342c5"), looks := true }, kinds := [], alts := [], laidByText := true, laidKinds := [.data], laidTests := true, laidLooks := .later }
def LayoutOnlyUptoCardSaid : Prop := Claim7.holds Tryd.pinned (.plain (OpenSpec.upto layoutOnlySpec)) layoutOnlyUptoCard
end Rows
end Go.Proofs.YtoaallnmihhjlaaDoor
