/-
  DERIVED. GIVEN WITH THE SEED: THE CARDS: each row of YtkkcipjlinfieaaDoorRows.lean that lists a variable, with what it lists TIED to the program's text (the seventh form; the later family's looks); each row that meets fmt, with fmt's text TOLD by the authors' own Lean function (tested against real Go, not proved from fmt's source: count such statements apart). THE CARD IS WHAT COUNTS. Prove the row's statement (the work); the ties are given (YtkkcipjlinfieaaDoorTie.lean); close each card by the builder's one call (the guide's Derived/Test/ToyasCard.lean, 'card_holds'). Laid BY PROGRAM, IN A SANDBOX (cutbox-door.mjs). By AI agents, Wed Nov 11 2026. No macro, syntax, notation, axiom, sorry.
-/
import Derived.Test.YtkkcipjlinfieaaDoorRows
import GoSem.ClaimSeven
namespace Go.Proofs.YtkkcipjlinfieaaDoor
namespace Rows

/-- THE TIED CARD OF 'hayricklaw07.LogLays'. -/
def logLaysCard : Claim7 := { stood := { row := logLaysRow, standIns := [], harness := (true, "84bbee21aec87c4b4400901522eef5fda68dcbf251e932e7beb3ee70e61f654f"), looks := true }, kinds := [], alts := [], laidByText := true, laidKinds := [.data], laidTests := true, laidLooks := .later }
def LogLaysCardSaid : Prop := Claim7.holds Tryd.pinned (.plain (OpenSpec.ofChange logLaysSpec)) logLaysCard

/-- THE SECOND FORM's CARD OF 'hayricklaw07.LogLays'. -/
def logLaysUptoCard : Claim7 := { stood := { row := logLaysUptoRow, standIns := [], harness := (true, "84bbee21aec87c4b4400901522eef5fda68dcbf251e932e7beb3ee70e61f654f"), looks := true }, kinds := [], alts := [], laidByText := true, laidKinds := [.data], laidTests := true, laidLooks := .later }
def LogLaysUptoCardSaid : Prop := Claim7.holds Tryd.pinned (.plain (OpenSpec.upto logLaysSpec)) logLaysUptoCard
end Rows
end Go.Proofs.YtkkcipjlinfieaaDoor
