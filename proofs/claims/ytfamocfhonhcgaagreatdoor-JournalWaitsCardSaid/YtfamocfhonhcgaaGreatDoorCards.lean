/-
  DERIVED. GIVEN WITH THE SEED: THE CARDS: each row of YtfamocfhonhcgaaGreatDoorRows.lean that lists a variable, with what it lists TIED to the program's text (the seventh form; the later family's looks); each row that meets fmt, with fmt's text TOLD by the authors' own Lean function (tested against real Go, not proved from fmt's source: count such statements apart). THE CARD IS WHAT COUNTS. Prove the row's statement (the work); the ties are given (YtfamocfhonhcgaaGreatDoorTie.lean); close each card by the builder's one call (the guide's Derived/Test/ToyasCard.lean, 'card_holds'). Laid BY PROGRAM, IN A SANDBOX (cutbox-door.mjs). By AI agents, Wed Nov 11 2026. No macro, syntax, notation, axiom, sorry.
-/
import Derived.Test.YtfamocfhonhcgaaGreatDoorRows
import GoSem.ClaimSeven
namespace Go.Proofs.YtfamocfhonhcgaaGreatDoor
namespace Rows

/-- THE TIED CARD OF 'hayricklaw08.JournalPlays'. -/
def journalPlaysCard : Claim7 := { stood := { row := journalPlaysRow, standIns := [], harness := (true, "36bdd61a69084ffecf6756a2f105aaec94fd63761d08b9e3e4af54756776bcc3"), looks := true }, kinds := [], alts := [], laidByText := true, laidKinds := [.data], laidTests := true, laidLooks := .later }
def JournalPlaysCardSaid : Prop := Claim7.holds Tryz.pinned (.plain (OpenSpec.ofChange journalPlaysSpec)) journalPlaysCard

/-- THE TIED CARD OF 'hayricklaw08.JournalNone'. -/
def journalNoneCard : Claim7 := { stood := { row := journalNoneRow, standIns := [], harness := (true, "36bdd61a69084ffecf6756a2f105aaec94fd63761d08b9e3e4af54756776bcc3"), looks := true }, kinds := [], alts := [], laidByText := true, laidKinds := [.data], laidTests := true, laidLooks := .later }
def JournalNoneCardSaid : Prop := Claim7.holds Tryz.pinned (.plain (OpenSpec.ofChange journalNoneSpec)) journalNoneCard

/-- THE TIED CARD OF 'hayricklaw08.JournalServes'. -/
def journalServesCard : Claim7 := { stood := { row := journalServesRow, standIns := [], harness := (true, "36bdd61a69084ffecf6756a2f105aaec94fd63761d08b9e3e4af54756776bcc3"), looks := true }, kinds := [], alts := [], laidByText := true, laidKinds := [.data], laidTests := true, laidLooks := .later }
def JournalServesCardSaid : Prop := Claim7.holds Tryz.pinned (.plain (OpenSpec.ofChange journalServesSpec)) journalServesCard

/-- THE TIED CARD OF 'hayricklaw08.JournalHome'. -/
def journalHomeCard : Claim7 := { stood := { row := journalHomeRow, standIns := [], harness := (true, "36bdd61a69084ffecf6756a2f105aaec94fd63761d08b9e3e4af54756776bcc3"), looks := true }, kinds := [], alts := [], laidByText := true, laidKinds := [.data], laidTests := true, laidLooks := .later }
def JournalHomeCardSaid : Prop := Claim7.holds Tryz.pinned (.plain (OpenSpec.ofChange journalHomeSpec)) journalHomeCard

/-- THE TIED CARD OF 'hayricklaw08.JournalWaits'. -/
def journalWaitsCard : Claim7 := { stood := { row := journalWaitsRow, standIns := [], harness := (true, "36bdd61a69084ffecf6756a2f105aaec94fd63761d08b9e3e4af54756776bcc3"), looks := true }, kinds := [], alts := [], laidByText := true, laidKinds := [.data], laidTests := true, laidLooks := .later }
def JournalWaitsCardSaid : Prop := Claim7.holds Tryz.pinned (.plain (OpenSpec.ofChange journalWaitsSpec)) journalWaitsCard

/-- THE TIED CARD OF 'hayricklaw09.ReplaySteps'. -/
def replayStepsCard : Claim7 := { stood := { row := replayStepsRow, standIns := [], harness := (true, "36bdd61a69084ffecf6756a2f105aaec94fd63761d08b9e3e4af54756776bcc3"), looks := true }, kinds := [], alts := [], laidByText := true, laidKinds := [.data], laidTests := true, laidLooks := .later }
def ReplayStepsCardSaid : Prop := Claim7.holds Tryz.pinned (.plain (OpenSpec.ofChange replayStepsSpec)) replayStepsCard

/-- THE TIED CARD OF 'hayricklaw09.ReplayNone'. -/
def replayNoneCard : Claim7 := { stood := { row := replayNoneRow, standIns := [], harness := (true, "36bdd61a69084ffecf6756a2f105aaec94fd63761d08b9e3e4af54756776bcc3"), looks := true }, kinds := [], alts := [], laidByText := true, laidKinds := [.data], laidTests := true, laidLooks := .later }
def ReplayNoneCardSaid : Prop := Claim7.holds Tryz.pinned (.plain (OpenSpec.ofChange replayNoneSpec)) replayNoneCard

/-- THE TIED CARD OF 'hayricklaw09.ReplayCrash'. -/
def replayCrashCard : Claim7 := { stood := { row := replayCrashRow, standIns := [], harness := (true, "36bdd61a69084ffecf6756a2f105aaec94fd63761d08b9e3e4af54756776bcc3"), looks := true }, kinds := [], alts := [], laidByText := true, laidKinds := [.data], laidTests := true, laidLooks := .later }
def ReplayCrashCardSaid : Prop := Claim7.holds Tryz.pinned (.plain (OpenSpec.ofChange replayCrashSpec)) replayCrashCard

/-- THE TIED CARD OF 'hayricklaw09.ReplayTwice'. -/
def replayTwiceCard : Claim7 := { stood := { row := replayTwiceRow, standIns := [], harness := (true, "36bdd61a69084ffecf6756a2f105aaec94fd63761d08b9e3e4af54756776bcc3"), looks := true }, kinds := [], alts := [], laidByText := true, laidKinds := [.data], laidTests := true, laidLooks := .later }
def ReplayTwiceCardSaid : Prop := Claim7.holds Tryz.pinned (.plain (OpenSpec.ofChange replayTwiceSpec)) replayTwiceCard

/-- THE TIED CARD OF 'hayricklaw09.ReplayRises'. -/
def replayRisesCard : Claim7 := { stood := { row := replayRisesRow, standIns := [], harness := (true, "36bdd61a69084ffecf6756a2f105aaec94fd63761d08b9e3e4af54756776bcc3"), looks := true }, kinds := [], alts := [], laidByText := true, laidKinds := [.data], laidTests := true, laidLooks := .later }
def ReplayRisesCardSaid : Prop := Claim7.holds Tryz.pinned (.plain (OpenSpec.ofChange replayRisesSpec)) replayRisesCard

/-- THE TIED CARD OF 'hayricklaw09.ReplayNothing'. -/
def replayNothingCard : Claim7 := { stood := { row := replayNothingRow, standIns := [], harness := (true, "36bdd61a69084ffecf6756a2f105aaec94fd63761d08b9e3e4af54756776bcc3"), looks := true }, kinds := [], alts := [], laidByText := true, laidKinds := [.data], laidTests := true, laidLooks := .later }
def ReplayNothingCardSaid : Prop := Claim7.holds Tryz.pinned (.plain (OpenSpec.ofChange replayNothingSpec)) replayNothingCard

/-- THE SECOND FORM's CARD OF 'hayricklaw08.JournalPlays'. -/
def journalPlaysUptoCard : Claim7 := { stood := { row := journalPlaysUptoRow, standIns := [], harness := (true, "36bdd61a69084ffecf6756a2f105aaec94fd63761d08b9e3e4af54756776bcc3"), looks := true }, kinds := [], alts := [], laidByText := true, laidKinds := [.data], laidTests := true, laidLooks := .later }
def JournalPlaysUptoCardSaid : Prop := Claim7.holds Tryz.pinned (.plain (OpenSpec.upto journalPlaysSpec)) journalPlaysUptoCard

/-- THE SECOND FORM's CARD OF 'hayricklaw08.JournalNone'. -/
def journalNoneUptoCard : Claim7 := { stood := { row := journalNoneUptoRow, standIns := [], harness := (true, "36bdd61a69084ffecf6756a2f105aaec94fd63761d08b9e3e4af54756776bcc3"), looks := true }, kinds := [], alts := [], laidByText := true, laidKinds := [.data], laidTests := true, laidLooks := .later }
def JournalNoneUptoCardSaid : Prop := Claim7.holds Tryz.pinned (.plain (OpenSpec.upto journalNoneSpec)) journalNoneUptoCard

/-- THE SECOND FORM's CARD OF 'hayricklaw08.JournalServes'. -/
def journalServesUptoCard : Claim7 := { stood := { row := journalServesUptoRow, standIns := [], harness := (true, "36bdd61a69084ffecf6756a2f105aaec94fd63761d08b9e3e4af54756776bcc3"), looks := true }, kinds := [], alts := [], laidByText := true, laidKinds := [.data], laidTests := true, laidLooks := .later }
def JournalServesUptoCardSaid : Prop := Claim7.holds Tryz.pinned (.plain (OpenSpec.upto journalServesSpec)) journalServesUptoCard

/-- THE SECOND FORM's CARD OF 'hayricklaw08.JournalHome'. -/
def journalHomeUptoCard : Claim7 := { stood := { row := journalHomeUptoRow, standIns := [], harness := (true, "36bdd61a69084ffecf6756a2f105aaec94fd63761d08b9e3e4af54756776bcc3"), looks := true }, kinds := [], alts := [], laidByText := true, laidKinds := [.data], laidTests := true, laidLooks := .later }
def JournalHomeUptoCardSaid : Prop := Claim7.holds Tryz.pinned (.plain (OpenSpec.upto journalHomeSpec)) journalHomeUptoCard

/-- THE SECOND FORM's CARD OF 'hayricklaw08.JournalWaits'. -/
def journalWaitsUptoCard : Claim7 := { stood := { row := journalWaitsUptoRow, standIns := [], harness := (true, "36bdd61a69084ffecf6756a2f105aaec94fd63761d08b9e3e4af54756776bcc3"), looks := true }, kinds := [], alts := [], laidByText := true, laidKinds := [.data], laidTests := true, laidLooks := .later }
def JournalWaitsUptoCardSaid : Prop := Claim7.holds Tryz.pinned (.plain (OpenSpec.upto journalWaitsSpec)) journalWaitsUptoCard

/-- THE SECOND FORM's CARD OF 'hayricklaw09.ReplaySteps'. -/
def replayStepsUptoCard : Claim7 := { stood := { row := replayStepsUptoRow, standIns := [], harness := (true, "36bdd61a69084ffecf6756a2f105aaec94fd63761d08b9e3e4af54756776bcc3"), looks := true }, kinds := [], alts := [], laidByText := true, laidKinds := [.data], laidTests := true, laidLooks := .later }
def ReplayStepsUptoCardSaid : Prop := Claim7.holds Tryz.pinned (.plain (OpenSpec.upto replayStepsSpec)) replayStepsUptoCard

/-- THE SECOND FORM's CARD OF 'hayricklaw09.ReplayNone'. -/
def replayNoneUptoCard : Claim7 := { stood := { row := replayNoneUptoRow, standIns := [], harness := (true, "36bdd61a69084ffecf6756a2f105aaec94fd63761d08b9e3e4af54756776bcc3"), looks := true }, kinds := [], alts := [], laidByText := true, laidKinds := [.data], laidTests := true, laidLooks := .later }
def ReplayNoneUptoCardSaid : Prop := Claim7.holds Tryz.pinned (.plain (OpenSpec.upto replayNoneSpec)) replayNoneUptoCard

/-- THE SECOND FORM's CARD OF 'hayricklaw09.ReplayCrash'. -/
def replayCrashUptoCard : Claim7 := { stood := { row := replayCrashUptoRow, standIns := [], harness := (true, "36bdd61a69084ffecf6756a2f105aaec94fd63761d08b9e3e4af54756776bcc3"), looks := true }, kinds := [], alts := [], laidByText := true, laidKinds := [.data], laidTests := true, laidLooks := .later }
def ReplayCrashUptoCardSaid : Prop := Claim7.holds Tryz.pinned (.plain (OpenSpec.upto replayCrashSpec)) replayCrashUptoCard

/-- THE SECOND FORM's CARD OF 'hayricklaw09.ReplayTwice'. -/
def replayTwiceUptoCard : Claim7 := { stood := { row := replayTwiceUptoRow, standIns := [], harness := (true, "36bdd61a69084ffecf6756a2f105aaec94fd63761d08b9e3e4af54756776bcc3"), looks := true }, kinds := [], alts := [], laidByText := true, laidKinds := [.data], laidTests := true, laidLooks := .later }
def ReplayTwiceUptoCardSaid : Prop := Claim7.holds Tryz.pinned (.plain (OpenSpec.upto replayTwiceSpec)) replayTwiceUptoCard

/-- THE SECOND FORM's CARD OF 'hayricklaw09.ReplayRises'. -/
def replayRisesUptoCard : Claim7 := { stood := { row := replayRisesUptoRow, standIns := [], harness := (true, "36bdd61a69084ffecf6756a2f105aaec94fd63761d08b9e3e4af54756776bcc3"), looks := true }, kinds := [], alts := [], laidByText := true, laidKinds := [.data], laidTests := true, laidLooks := .later }
def ReplayRisesUptoCardSaid : Prop := Claim7.holds Tryz.pinned (.plain (OpenSpec.upto replayRisesSpec)) replayRisesUptoCard

/-- THE SECOND FORM's CARD OF 'hayricklaw09.ReplayNothing'. -/
def replayNothingUptoCard : Claim7 := { stood := { row := replayNothingUptoRow, standIns := [], harness := (true, "36bdd61a69084ffecf6756a2f105aaec94fd63761d08b9e3e4af54756776bcc3"), looks := true }, kinds := [], alts := [], laidByText := true, laidKinds := [.data], laidTests := true, laidLooks := .later }
def ReplayNothingUptoCardSaid : Prop := Claim7.holds Tryz.pinned (.plain (OpenSpec.upto replayNothingSpec)) replayNothingUptoCard
end Rows
end Go.Proofs.YtfamocfhonhcgaaGreatDoor
