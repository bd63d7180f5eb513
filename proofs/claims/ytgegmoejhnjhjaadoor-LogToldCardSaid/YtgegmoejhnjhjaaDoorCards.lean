/-
  DERIVED. GIVEN WITH THE SEED: THE CARDS: each row of YtgegmoejhnjhjaaDoorRows.lean that lists a variable, with what it lists TIED to the program's text (the seventh form; the later family's looks); each row that meets fmt, with fmt's text TOLD by the authors' own Lean function (tested against real Go, not proved from fmt's source: count such statements apart). THE CARD IS WHAT COUNTS. Prove the row's statement (the work); the ties are given (YtgegmoejhnjhjaaDoorTie.lean); close each card by the builder's one call (the guide's Derived/Test/ToyasCard.lean, 'card_holds'). Laid BY PROGRAM, IN A SANDBOX (cutbox-door.mjs). By AI agents, Wed Nov 11 2026. No macro, syntax, notation, axiom, sorry.
-/
import Derived.Test.YtgegmoejhnjhjaaDoorRows
import GoSem.ClaimSeven
namespace Go.Proofs.YtgegmoejhnjhjaaDoor
namespace Rows

/-- THE TIED CARD OF 'hayricklaw07.LogRecords'. -/
def logRecordsCard : Claim7 := { stood := { row := logRecordsRow, standIns := [], harness := (true, "2520196bd15e0273b9f55f149bb606e371ba2fc3701f922a94604390276f8ac0"), looks := true }, kinds := [], alts := [], laidByText := true, laidKinds := [.data], laidTests := true, laidLooks := .later }
def LogRecordsCardSaid : Prop := Claim7.holds Tryd.pinned (.plain (OpenSpec.ofChange logRecordsSpec)) logRecordsCard

/-- THE TIED CARD OF 'hayricklaw07.LogLays'. -/
def logLaysCard : Claim7 := { stood := { row := logLaysRow, standIns := [], harness := (true, "2520196bd15e0273b9f55f149bb606e371ba2fc3701f922a94604390276f8ac0"), looks := true }, kinds := [], alts := [], laidByText := true, laidKinds := [.data], laidTests := true, laidLooks := .later }
def LogLaysCardSaid : Prop := Claim7.holds Tryd.pinned (.plain (OpenSpec.ofChange logLaysSpec)) logLaysCard

/-- THE TIED CARD OF 'hayricklaw07.LogEscapes'. -/
def logEscapesCard : Claim7 := { stood := { row := logEscapesRow, standIns := [], harness := (true, "2520196bd15e0273b9f55f149bb606e371ba2fc3701f922a94604390276f8ac0"), looks := true }, kinds := [], alts := [], laidByText := true, laidKinds := [.data], laidTests := true, laidLooks := .later }
def LogEscapesCardSaid : Prop := Claim7.holds Tryd.pinned (.plain (OpenSpec.ofChange logEscapesSpec)) logEscapesCard

/-- THE TIED CARD OF 'hayricklaw07.LogBack'. -/
def logBackCard : Claim7 := { stood := { row := logBackRow, standIns := [], harness := (true, "2520196bd15e0273b9f55f149bb606e371ba2fc3701f922a94604390276f8ac0"), looks := true }, kinds := [], alts := [], laidByText := true, laidKinds := [.data], laidTests := true, laidLooks := .later }
def LogBackCardSaid : Prop := Claim7.holds Tryd.pinned (.plain (OpenSpec.ofChange logBackSpec)) logBackCard

/-- THE TIED CARD OF 'hayricklaw07.LogTold'. -/
def logToldCard : Claim7 := { stood := { row := logToldRow, standIns := [], harness := (true, "2520196bd15e0273b9f55f149bb606e371ba2fc3701f922a94604390276f8ac0"), looks := true }, kinds := [], alts := [], laidByText := true, laidKinds := [.data], laidTests := true, laidLooks := .later }
def LogToldCardSaid : Prop := Claim7.holds Tryd.pinned (.plain (OpenSpec.ofChange logToldSpec)) logToldCard

/-- THE TIED CARD OF 'hayricklaw07.LogOnly'. -/
def logOnlyCard : Claim7 := { stood := { row := logOnlyRow, standIns := [], harness := (true, "2520196bd15e0273b9f55f149bb606e371ba2fc3701f922a94604390276f8ac0"), looks := true }, kinds := [], alts := [], laidByText := true, laidKinds := [.data], laidTests := true, laidLooks := .later }
def LogOnlyCardSaid : Prop := Claim7.holds Tryd.pinned (.plain (OpenSpec.ofChange logOnlySpec)) logOnlyCard

/-- THE TIED CARD OF 'hayricklaw07.LogNeeds'. -/
def logNeedsCard : Claim7 := { stood := { row := logNeedsRow, standIns := [], harness := (true, "2520196bd15e0273b9f55f149bb606e371ba2fc3701f922a94604390276f8ac0"), looks := true }, kinds := [], alts := [], laidByText := true, laidKinds := [.data], laidTests := true, laidLooks := .later }
def LogNeedsCardSaid : Prop := Claim7.holds Tryd.pinned (.plain (OpenSpec.ofChange logNeedsSpec)) logNeedsCard

/-- THE SECOND FORM's CARD OF 'hayricklaw07.LogRecords'. -/
def logRecordsUptoCard : Claim7 := { stood := { row := logRecordsUptoRow, standIns := [], harness := (true, "2520196bd15e0273b9f55f149bb606e371ba2fc3701f922a94604390276f8ac0"), looks := true }, kinds := [], alts := [], laidByText := true, laidKinds := [.data], laidTests := true, laidLooks := .later }
def LogRecordsUptoCardSaid : Prop := Claim7.holds Tryd.pinned (.plain (OpenSpec.upto logRecordsSpec)) logRecordsUptoCard

/-- THE SECOND FORM's CARD OF 'hayricklaw07.LogLays'. -/
def logLaysUptoCard : Claim7 := { stood := { row := logLaysUptoRow, standIns := [], harness := (true, "2520196bd15e0273b9f55f149bb606e371ba2fc3701f922a94604390276f8ac0"), looks := true }, kinds := [], alts := [], laidByText := true, laidKinds := [.data], laidTests := true, laidLooks := .later }
def LogLaysUptoCardSaid : Prop := Claim7.holds Tryd.pinned (.plain (OpenSpec.upto logLaysSpec)) logLaysUptoCard

/-- THE SECOND FORM's CARD OF 'hayricklaw07.LogEscapes'. -/
def logEscapesUptoCard : Claim7 := { stood := { row := logEscapesUptoRow, standIns := [], harness := (true, "2520196bd15e0273b9f55f149bb606e371ba2fc3701f922a94604390276f8ac0"), looks := true }, kinds := [], alts := [], laidByText := true, laidKinds := [.data], laidTests := true, laidLooks := .later }
def LogEscapesUptoCardSaid : Prop := Claim7.holds Tryd.pinned (.plain (OpenSpec.upto logEscapesSpec)) logEscapesUptoCard

/-- THE SECOND FORM's CARD OF 'hayricklaw07.LogBack'. -/
def logBackUptoCard : Claim7 := { stood := { row := logBackUptoRow, standIns := [], harness := (true, "2520196bd15e0273b9f55f149bb606e371ba2fc3701f922a94604390276f8ac0"), looks := true }, kinds := [], alts := [], laidByText := true, laidKinds := [.data], laidTests := true, laidLooks := .later }
def LogBackUptoCardSaid : Prop := Claim7.holds Tryd.pinned (.plain (OpenSpec.upto logBackSpec)) logBackUptoCard

/-- THE SECOND FORM's CARD OF 'hayricklaw07.LogTold'. -/
def logToldUptoCard : Claim7 := { stood := { row := logToldUptoRow, standIns := [], harness := (true, "2520196bd15e0273b9f55f149bb606e371ba2fc3701f922a94604390276f8ac0"), looks := true }, kinds := [], alts := [], laidByText := true, laidKinds := [.data], laidTests := true, laidLooks := .later }
def LogToldUptoCardSaid : Prop := Claim7.holds Tryd.pinned (.plain (OpenSpec.upto logToldSpec)) logToldUptoCard

/-- THE SECOND FORM's CARD OF 'hayricklaw07.LogOnly'. -/
def logOnlyUptoCard : Claim7 := { stood := { row := logOnlyUptoRow, standIns := [], harness := (true, "2520196bd15e0273b9f55f149bb606e371ba2fc3701f922a94604390276f8ac0"), looks := true }, kinds := [], alts := [], laidByText := true, laidKinds := [.data], laidTests := true, laidLooks := .later }
def LogOnlyUptoCardSaid : Prop := Claim7.holds Tryd.pinned (.plain (OpenSpec.upto logOnlySpec)) logOnlyUptoCard

/-- THE SECOND FORM's CARD OF 'hayricklaw07.LogNeeds'. -/
def logNeedsUptoCard : Claim7 := { stood := { row := logNeedsUptoRow, standIns := [], harness := (true, "2520196bd15e0273b9f55f149bb606e371ba2fc3701f922a94604390276f8ac0"), looks := true }, kinds := [], alts := [], laidByText := true, laidKinds := [.data], laidTests := true, laidLooks := .later }
def LogNeedsUptoCardSaid : Prop := Claim7.holds Tryd.pinned (.plain (OpenSpec.upto logNeedsSpec)) logNeedsUptoCard
end Rows
end Go.Proofs.YtgegmoejhnjhjaaDoor
