/-
  DERIVED. GIVEN WITH THE SEED: THE CARDS: each row of YtmlgchmladkfpaaGreatDoorRows.lean that lists a variable, with what it lists TIED to the program's text (the seventh form; the later family's looks); each row that meets fmt, with fmt's text TOLD by the authors' own Lean function (tested against real Go, not proved from fmt's source: count such statements apart). THE CARD IS WHAT COUNTS. Prove the row's statement (the work); the ties are given (YtmlgchmladkfpaaGreatDoorTie.lean); close each card by the builder's one call (the guide's Derived/Test/ToyasCard.lean, 'card_holds'). Laid BY PROGRAM, IN A SANDBOX (cutbox-door.mjs). By AI agents, Wed Nov 11 2026. No macro, syntax, notation, axiom, sorry.
-/
import Derived.Test.YtmlgchmladkfpaaGreatDoorRows
import GoSem.ClaimSeven
namespace Go.Proofs.YtmlgchmladkfpaaGreatDoor
namespace Rows

/-- THE TIED CARD OF 'hayricklaw08.JournalHome'. -/
def journalHomeCard : Claim7 := { stood := { row := journalHomeRow, standIns := [], harness := (true, "10647bb24159aa94090d89b56b824976b13b77f27b022beaeb5cbcf0df5ee80a"), looks := true }, kinds := [], alts := [], laidByText := true, laidKinds := [.data], laidTests := true, laidLooks := .later }
def JournalHomeCardSaid : Prop := Claim7.holds Tryz.pinned (.plain (OpenSpec.ofChange journalHomeSpec)) journalHomeCard

/-- THE TIED CARD OF 'hayricklaw08.JournalServes'. -/
def journalServesCard : Claim7 := { stood := { row := journalServesRow, standIns := [], harness := (true, "10647bb24159aa94090d89b56b824976b13b77f27b022beaeb5cbcf0df5ee80a"), looks := true }, kinds := [], alts := [], laidByText := true, laidKinds := [.data], laidTests := true, laidLooks := .later }
def JournalServesCardSaid : Prop := Claim7.holds Tryz.pinned (.plain (OpenSpec.ofChange journalServesSpec)) journalServesCard

/-- THE TIED CARD OF 'hayricklaw09.ReplayNone'. -/
def replayNoneCard : Claim7 := { stood := { row := replayNoneRow, standIns := [], harness := (true, "10647bb24159aa94090d89b56b824976b13b77f27b022beaeb5cbcf0df5ee80a"), looks := true }, kinds := [], alts := [], laidByText := true, laidKinds := [.data], laidTests := true, laidLooks := .later }
def ReplayNoneCardSaid : Prop := Claim7.holds Tryz.pinned (.plain (OpenSpec.ofChange replayNoneSpec)) replayNoneCard

/-- THE TIED CARD OF 'hayricklaw09.ReplayNothing'. -/
def replayNothingCard : Claim7 := { stood := { row := replayNothingRow, standIns := [], harness := (true, "10647bb24159aa94090d89b56b824976b13b77f27b022beaeb5cbcf0df5ee80a"), looks := true }, kinds := [], alts := [], laidByText := true, laidKinds := [.data], laidTests := true, laidLooks := .later }
def ReplayNothingCardSaid : Prop := Claim7.holds Tryz.pinned (.plain (OpenSpec.ofChange replayNothingSpec)) replayNothingCard

/-- THE TIED CARD OF 'hayricklaw09.ReplayRises'. -/
def replayRisesCard : Claim7 := { stood := { row := replayRisesRow, standIns := [], harness := (true, "10647bb24159aa94090d89b56b824976b13b77f27b022beaeb5cbcf0df5ee80a"), looks := true }, kinds := [], alts := [], laidByText := true, laidKinds := [.data], laidTests := true, laidLooks := .later }
def ReplayRisesCardSaid : Prop := Claim7.holds Tryz.pinned (.plain (OpenSpec.ofChange replayRisesSpec)) replayRisesCard

/-- THE TIED CARD OF 'hayricklaw09.ReplayTwice'. -/
def replayTwiceCard : Claim7 := { stood := { row := replayTwiceRow, standIns := [], harness := (true, "10647bb24159aa94090d89b56b824976b13b77f27b022beaeb5cbcf0df5ee80a"), looks := true }, kinds := [], alts := [], laidByText := true, laidKinds := [.data], laidTests := true, laidLooks := .later }
def ReplayTwiceCardSaid : Prop := Claim7.holds Tryz.pinned (.plain (OpenSpec.ofChange replayTwiceSpec)) replayTwiceCard

/-- THE TIED CARD OF 'hayricklaw09.ReplayCrash'. -/
def replayCrashCard : Claim7 := { stood := { row := replayCrashRow, standIns := [], harness := (true, "10647bb24159aa94090d89b56b824976b13b77f27b022beaeb5cbcf0df5ee80a"), looks := true }, kinds := [], alts := [], laidByText := true, laidKinds := [.data], laidTests := true, laidLooks := .later }
def ReplayCrashCardSaid : Prop := Claim7.holds Tryz.pinned (.plain (OpenSpec.ofChange replayCrashSpec)) replayCrashCard

/-- THE SECOND FORM's CARD OF 'hayricklaw08.JournalHome'. -/
def journalHomeUptoCard : Claim7 := { stood := { row := journalHomeUptoRow, standIns := [], harness := (true, "10647bb24159aa94090d89b56b824976b13b77f27b022beaeb5cbcf0df5ee80a"), looks := true }, kinds := [], alts := [], laidByText := true, laidKinds := [.data], laidTests := true, laidLooks := .later }
def JournalHomeUptoCardSaid : Prop := Claim7.holds Tryz.pinned (.plain (OpenSpec.upto journalHomeSpec)) journalHomeUptoCard

/-- THE SECOND FORM's CARD OF 'hayricklaw08.JournalServes'. -/
def journalServesUptoCard : Claim7 := { stood := { row := journalServesUptoRow, standIns := [], harness := (true, "10647bb24159aa94090d89b56b824976b13b77f27b022beaeb5cbcf0df5ee80a"), looks := true }, kinds := [], alts := [], laidByText := true, laidKinds := [.data], laidTests := true, laidLooks := .later }
def JournalServesUptoCardSaid : Prop := Claim7.holds Tryz.pinned (.plain (OpenSpec.upto journalServesSpec)) journalServesUptoCard

/-- THE SECOND FORM's CARD OF 'hayricklaw09.ReplayNone'. -/
def replayNoneUptoCard : Claim7 := { stood := { row := replayNoneUptoRow, standIns := [], harness := (true, "10647bb24159aa94090d89b56b824976b13b77f27b022beaeb5cbcf0df5ee80a"), looks := true }, kinds := [], alts := [], laidByText := true, laidKinds := [.data], laidTests := true, laidLooks := .later }
def ReplayNoneUptoCardSaid : Prop := Claim7.holds Tryz.pinned (.plain (OpenSpec.upto replayNoneSpec)) replayNoneUptoCard

/-- THE SECOND FORM's CARD OF 'hayricklaw09.ReplayNothing'. -/
def replayNothingUptoCard : Claim7 := { stood := { row := replayNothingUptoRow, standIns := [], harness := (true, "10647bb24159aa94090d89b56b824976b13b77f27b022beaeb5cbcf0df5ee80a"), looks := true }, kinds := [], alts := [], laidByText := true, laidKinds := [.data], laidTests := true, laidLooks := .later }
def ReplayNothingUptoCardSaid : Prop := Claim7.holds Tryz.pinned (.plain (OpenSpec.upto replayNothingSpec)) replayNothingUptoCard

/-- THE SECOND FORM's CARD OF 'hayricklaw09.ReplayRises'. -/
def replayRisesUptoCard : Claim7 := { stood := { row := replayRisesUptoRow, standIns := [], harness := (true, "10647bb24159aa94090d89b56b824976b13b77f27b022beaeb5cbcf0df5ee80a"), looks := true }, kinds := [], alts := [], laidByText := true, laidKinds := [.data], laidTests := true, laidLooks := .later }
def ReplayRisesUptoCardSaid : Prop := Claim7.holds Tryz.pinned (.plain (OpenSpec.upto replayRisesSpec)) replayRisesUptoCard

/-- THE SECOND FORM's CARD OF 'hayricklaw09.ReplayTwice'. -/
def replayTwiceUptoCard : Claim7 := { stood := { row := replayTwiceUptoRow, standIns := [], harness := (true, "10647bb24159aa94090d89b56b824976b13b77f27b022beaeb5cbcf0df5ee80a"), looks := true }, kinds := [], alts := [], laidByText := true, laidKinds := [.data], laidTests := true, laidLooks := .later }
def ReplayTwiceUptoCardSaid : Prop := Claim7.holds Tryz.pinned (.plain (OpenSpec.upto replayTwiceSpec)) replayTwiceUptoCard

/-- THE SECOND FORM's CARD OF 'hayricklaw09.ReplayCrash'. -/
def replayCrashUptoCard : Claim7 := { stood := { row := replayCrashUptoRow, standIns := [], harness := (true, "10647bb24159aa94090d89b56b824976b13b77f27b022beaeb5cbcf0df5ee80a"), looks := true }, kinds := [], alts := [], laidByText := true, laidKinds := [.data], laidTests := true, laidLooks := .later }
def ReplayCrashUptoCardSaid : Prop := Claim7.holds Tryz.pinned (.plain (OpenSpec.upto replayCrashSpec)) replayCrashUptoCard
end Rows
end Go.Proofs.YtmlgchmladkfpaaGreatDoor
