/-
  DERIVED. GIVEN WITH THE SEED: THE CARDS: each row of YtgkindoidmglnaaGreatDoorRows.lean that lists a variable, with what it lists TIED to the program's text (the seventh form; the later family's looks); each row that meets fmt, with fmt's text TOLD by the authors' own Lean function (tested against real Go, not proved from fmt's source: count such statements apart). THE CARD IS WHAT COUNTS. Prove the row's statement (the work); the ties are given (YtgkindoidmglnaaGreatDoorTie.lean); close each card by the builder's one call (the guide's Derived/Test/ToyasCard.lean, 'card_holds'). Laid BY PROGRAM, IN A SANDBOX (cutbox-door.mjs). By AI agents, Wed Nov 11 2026. No macro, syntax, notation, axiom, sorry.
-/
import Derived.Test.YtgkindoidmglnaaGreatDoorRows
import GoSem.ClaimSeven
namespace Go.Proofs.YtgkindoidmglnaaGreatDoor
namespace Rows

/-- THE TIED CARD OF 'hayricklaw10.AllocCounts'. -/
def allocCountsCard : Claim7 := { stood := { row := allocCountsRow, standIns := [], harness := (true, "757ad3ba3d8ef5ae72e92d59266a552bd373deb5071f903fba0077d111f23610"), looks := true }, kinds := [], alts := [], laidByText := true, laidKinds := [.data], laidTests := true, laidLooks := .later }
def AllocCountsCardSaid : Prop := Claim7.holds Tryz.pinned (.plain (OpenSpec.ofChange allocCountsSpec)) allocCountsCard

/-- THE TIED CARD OF 'hayricklaw10.AllocBack'. -/
def allocBackCard : Claim7 := { stood := { row := allocBackRow, standIns := [], harness := (true, "757ad3ba3d8ef5ae72e92d59266a552bd373deb5071f903fba0077d111f23610"), looks := true }, kinds := [], alts := [], laidByText := true, laidKinds := [.data], laidTests := true, laidLooks := .later }
def AllocBackCardSaid : Prop := Claim7.holds Tryz.pinned (.plain (OpenSpec.ofChange allocBackSpec)) allocBackCard

/-- THE TIED CARD OF 'hayricklaw10.AllocInodes'. -/
def allocInodesCard : Claim7 := { stood := { row := allocInodesRow, standIns := [], harness := (true, "757ad3ba3d8ef5ae72e92d59266a552bd373deb5071f903fba0077d111f23610"), looks := true }, kinds := [], alts := [], laidByText := true, laidKinds := [.data], laidTests := true, laidLooks := .later }
def AllocInodesCardSaid : Prop := Claim7.holds Tryz.pinned (.plain (OpenSpec.ofChange allocInodesSpec)) allocInodesCard

/-- THE TIED CARD OF 'hayricklaw10.AllocAll'. -/
def allocAllCard : Claim7 := { stood := { row := allocAllRow, standIns := [], harness := (true, "757ad3ba3d8ef5ae72e92d59266a552bd373deb5071f903fba0077d111f23610"), looks := true }, kinds := [], alts := [], laidByText := true, laidKinds := [.data], laidTests := true, laidLooks := .later }
def AllocAllCardSaid : Prop := Claim7.holds Tryz.pinned (.plain (OpenSpec.ofChange allocAllSpec)) allocAllCard

/-- THE SECOND FORM's CARD OF 'hayricklaw10.AllocCounts'. -/
def allocCountsUptoCard : Claim7 := { stood := { row := allocCountsUptoRow, standIns := [], harness := (true, "757ad3ba3d8ef5ae72e92d59266a552bd373deb5071f903fba0077d111f23610"), looks := true }, kinds := [], alts := [], laidByText := true, laidKinds := [.data], laidTests := true, laidLooks := .later }
def AllocCountsUptoCardSaid : Prop := Claim7.holds Tryz.pinned (.plain (OpenSpec.upto allocCountsSpec)) allocCountsUptoCard

/-- THE SECOND FORM's CARD OF 'hayricklaw10.AllocBack'. -/
def allocBackUptoCard : Claim7 := { stood := { row := allocBackUptoRow, standIns := [], harness := (true, "757ad3ba3d8ef5ae72e92d59266a552bd373deb5071f903fba0077d111f23610"), looks := true }, kinds := [], alts := [], laidByText := true, laidKinds := [.data], laidTests := true, laidLooks := .later }
def AllocBackUptoCardSaid : Prop := Claim7.holds Tryz.pinned (.plain (OpenSpec.upto allocBackSpec)) allocBackUptoCard

/-- THE SECOND FORM's CARD OF 'hayricklaw10.AllocInodes'. -/
def allocInodesUptoCard : Claim7 := { stood := { row := allocInodesUptoRow, standIns := [], harness := (true, "757ad3ba3d8ef5ae72e92d59266a552bd373deb5071f903fba0077d111f23610"), looks := true }, kinds := [], alts := [], laidByText := true, laidKinds := [.data], laidTests := true, laidLooks := .later }
def AllocInodesUptoCardSaid : Prop := Claim7.holds Tryz.pinned (.plain (OpenSpec.upto allocInodesSpec)) allocInodesUptoCard

/-- THE SECOND FORM's CARD OF 'hayricklaw10.AllocAll'. -/
def allocAllUptoCard : Claim7 := { stood := { row := allocAllUptoRow, standIns := [], harness := (true, "757ad3ba3d8ef5ae72e92d59266a552bd373deb5071f903fba0077d111f23610"), looks := true }, kinds := [], alts := [], laidByText := true, laidKinds := [.data], laidTests := true, laidLooks := .later }
def AllocAllUptoCardSaid : Prop := Claim7.holds Tryz.pinned (.plain (OpenSpec.upto allocAllSpec)) allocAllUptoCard
end Rows
end Go.Proofs.YtgkindoidmglnaaGreatDoor
