/-
  NARROWER THAN 'FOR EVERY INPUT', by the rows' own cells (each row's printed sentence says how): JournalHome: laid · JournalServes: laid · ReplayNone: laid · ReplayNothing: laid · ReplayRises: laid · ReplayTwice: laid · ReplayCrash: laid.
  DERIVED. THE GIVEN ROWS OF THIS SEAT. 7 by the template 'for every input the law returns true; each argument reads behind the call as it read before'; 0 by the template 'total and deterministic' (their statements: YtmlgchmladkfpaaGreatDoorTotals.lean).
  GIVEN WITH THE SEED: the statements are not yours to turn. If you find one false, say at which input.
  Laid BY PROGRAM, IN A SANDBOX (cutbox-rows.mjs): the forced cells as the released guide's own fill.sh prints them over the translation 53996ceb47b75284… (all of the seat's roots in one cut). By AI agents, Wed Nov 11 2026. No macro, syntax, notation, axiom, sorry.
-/
import Derived.Test.YtmlgchmladkfpaaGreatDoorChecked
import GoSem.Claim
import GoSem.ClaimJoined
import GoSem.ClaimMapViews
import Derived.JoinedTies
import Derived.KernelRfl
namespace Go.Proofs.YtmlgchmladkfpaaGreatDoor
/- THE CELL 'sum', in the pinned program and in every row, IS THE sha256 OF THE DUMP (.gsa) THAT YtmlgchmladkfpaaGreatDoorProg.lean LOADS. Nothing in Lean hashes anything: it is a label: what it is worth is what the hold of that sum in a sandbox is worth. -/
noncomputable def Tryz.pinned : Pinned := { name := "ytmlgchmladkfpaagreatdoor", sum := "53996ceb47b75284757573f6c4f77f1c36c10e103e439d4e72439f193d39f80c", checked := Tryz.checked }
namespace Rows
def none {H : Type} : Left H := { results := [], args := [] }

/- WHAT THE LISTED PACKAGE-LEVEL VARIABLES READ AS WHEN THE CALL BEGINS. Each datum BY PROGRAM (the guide's laid-datum.mjs) off the statement by which the dump's own 'gosem.cut.vars' lays the variable. In a bare row this is a premise. The card (YtmlgchmladkfpaaGreatDoorCards.lean) ties it to the program's text. -/
def laid_hayrick_wire_fourSteps {H : Type} : DataW H := .agg [.lit (.int .u32 0), .lit (.int .u32 274646895), .lit (.int .u32 549293790), .lit (.int .u32 820201905), .lit (.int .u32 1098587580), .lit (.int .u32 1361435347), .lit (.int .u32 1640403810), .lit (.int .u32 1905808397), .lit (.int .u32 2197175160), .lit (.int .u32 2460548119), .lit (.int .u32 2722870694), .lit (.int .u32 2987750089), .lit (.int .u32 3280807620), .lit (.int .u32 3553878443), .lit (.int .u32 3811616794), .lit (.int .u32 4084100981)]

/-- 'hayricklaw08.JournalHome': WHATEVER THE INPUT: true; the input reads as it did. -/
def journalHomeSpec : ChangeSpec := { name := "journalHome", fn := fun _ => fun
  | [d1, d2] => { results := [.lit (.bool true)], args := [d1, d2] }
  | _ => none }
def journalHomeRow : OpenClaim := { program := "ytmlgchmladkfpaagreatdoor", sum := "53996ceb47b75284757573f6c4f77f1c36c10e103e439d4e72439f193d39f80c", func := "hayrick/hayricklaw08.JournalHome", spec := "journalHome", inPlace := ["slices.overlaps[func() hayrick/api.Errno]"], unfollowed := true, recurses := true, named := ["hayrick/wire.fourSteps"], apart := false, laid := [("hayrick/wire.fourSteps", laid_hayrick_wire_fourSteps)] }
def JournalHomeSaid : Prop := journalHomeRow.holds Tryz.pinned (OpenSpec.ofChange journalHomeSpec)

/-- ITS FALSE NEIGHBOUR: 'it returns false'. Refute it at one input. -/
def journalHomeWrong : ChangeSpec := { name := "journalHome", fn := fun _ => fun
  | [d1, d2] => { results := [.lit (.bool false)], args := [d1, d2] }
  | _ => none }
def JournalHomeWrongFalsely : Prop := journalHomeRow.holds Tryz.pinned (OpenSpec.ofChange journalHomeWrong)

/-- 'hayricklaw08.JournalServes': WHATEVER THE INPUT: true; the input reads as it did. -/
def journalServesSpec : ChangeSpec := { name := "journalServes", fn := fun _ => fun
  | [d1, d2] => { results := [.lit (.bool true)], args := [d1, d2] }
  | _ => none }
def journalServesRow : OpenClaim := { program := "ytmlgchmladkfpaagreatdoor", sum := "53996ceb47b75284757573f6c4f77f1c36c10e103e439d4e72439f193d39f80c", func := "hayrick/hayricklaw08.JournalServes", spec := "journalServes", inPlace := ["slices.overlaps[func() hayrick/api.Errno]"], unfollowed := true, recurses := true, named := ["hayrick/wire.fourSteps"], apart := false, laid := [("hayrick/wire.fourSteps", laid_hayrick_wire_fourSteps)] }
def JournalServesSaid : Prop := journalServesRow.holds Tryz.pinned (OpenSpec.ofChange journalServesSpec)

/-- ITS FALSE NEIGHBOUR: 'it returns false'. Refute it at one input. -/
def journalServesWrong : ChangeSpec := { name := "journalServes", fn := fun _ => fun
  | [d1, d2] => { results := [.lit (.bool false)], args := [d1, d2] }
  | _ => none }
def JournalServesWrongFalsely : Prop := journalServesRow.holds Tryz.pinned (OpenSpec.ofChange journalServesWrong)

/-- 'hayricklaw09.ReplayNone': WHATEVER THE INPUT: true; the input reads as it did. -/
def replayNoneSpec : ChangeSpec := { name := "replayNone", fn := fun _ => fun
  | [d] => { results := [.lit (.bool true)], args := [d] }
  | _ => none }
def replayNoneRow : OpenClaim := { program := "ytmlgchmladkfpaagreatdoor", sum := "53996ceb47b75284757573f6c4f77f1c36c10e103e439d4e72439f193d39f80c", func := "hayrick/hayricklaw09.ReplayNone", spec := "replayNone", inPlace := ["slices.overlaps[func() hayrick/api.Errno]"], unfollowed := true, recurses := true, named := ["hayrick/wire.fourSteps"], apart := false, laid := [("hayrick/wire.fourSteps", laid_hayrick_wire_fourSteps)] }
def ReplayNoneSaid : Prop := replayNoneRow.holds Tryz.pinned (OpenSpec.ofChange replayNoneSpec)

/-- ITS FALSE NEIGHBOUR: 'it returns false'. Refute it at one input. -/
def replayNoneWrong : ChangeSpec := { name := "replayNone", fn := fun _ => fun
  | [d] => { results := [.lit (.bool false)], args := [d] }
  | _ => none }
def ReplayNoneWrongFalsely : Prop := replayNoneRow.holds Tryz.pinned (OpenSpec.ofChange replayNoneWrong)

/-- 'hayricklaw09.ReplayNothing': WHATEVER THE INPUT: true; the input reads as it did. -/
def replayNothingSpec : ChangeSpec := { name := "replayNothing", fn := fun _ => fun
  | [d] => { results := [.lit (.bool true)], args := [d] }
  | _ => none }
def replayNothingRow : OpenClaim := { program := "ytmlgchmladkfpaagreatdoor", sum := "53996ceb47b75284757573f6c4f77f1c36c10e103e439d4e72439f193d39f80c", func := "hayrick/hayricklaw09.ReplayNothing", spec := "replayNothing", inPlace := ["slices.overlaps[func() hayrick/api.Errno]"], unfollowed := true, recurses := true, named := ["hayrick/wire.fourSteps"], apart := false, laid := [("hayrick/wire.fourSteps", laid_hayrick_wire_fourSteps)] }
def ReplayNothingSaid : Prop := replayNothingRow.holds Tryz.pinned (OpenSpec.ofChange replayNothingSpec)

/-- ITS FALSE NEIGHBOUR: 'it returns false'. Refute it at one input. -/
def replayNothingWrong : ChangeSpec := { name := "replayNothing", fn := fun _ => fun
  | [d] => { results := [.lit (.bool false)], args := [d] }
  | _ => none }
def ReplayNothingWrongFalsely : Prop := replayNothingRow.holds Tryz.pinned (OpenSpec.ofChange replayNothingWrong)

/-- 'hayricklaw09.ReplayRises': WHATEVER THE INPUT: true; the input reads as it did. -/
def replayRisesSpec : ChangeSpec := { name := "replayRises", fn := fun _ => fun
  | [d] => { results := [.lit (.bool true)], args := [d] }
  | _ => none }
def replayRisesRow : OpenClaim := { program := "ytmlgchmladkfpaagreatdoor", sum := "53996ceb47b75284757573f6c4f77f1c36c10e103e439d4e72439f193d39f80c", func := "hayrick/hayricklaw09.ReplayRises", spec := "replayRises", inPlace := ["slices.overlaps[func() hayrick/api.Errno]"], unfollowed := true, recurses := true, named := ["hayrick/wire.fourSteps"], apart := false, laid := [("hayrick/wire.fourSteps", laid_hayrick_wire_fourSteps)] }
def ReplayRisesSaid : Prop := replayRisesRow.holds Tryz.pinned (OpenSpec.ofChange replayRisesSpec)

/-- ITS FALSE NEIGHBOUR: 'it returns false'. Refute it at one input. -/
def replayRisesWrong : ChangeSpec := { name := "replayRises", fn := fun _ => fun
  | [d] => { results := [.lit (.bool false)], args := [d] }
  | _ => none }
def ReplayRisesWrongFalsely : Prop := replayRisesRow.holds Tryz.pinned (OpenSpec.ofChange replayRisesWrong)

/-- 'hayricklaw09.ReplayTwice': WHATEVER THE INPUT: true; the input reads as it did. -/
def replayTwiceSpec : ChangeSpec := { name := "replayTwice", fn := fun _ => fun
  | [d] => { results := [.lit (.bool true)], args := [d] }
  | _ => none }
def replayTwiceRow : OpenClaim := { program := "ytmlgchmladkfpaagreatdoor", sum := "53996ceb47b75284757573f6c4f77f1c36c10e103e439d4e72439f193d39f80c", func := "hayrick/hayricklaw09.ReplayTwice", spec := "replayTwice", inPlace := ["slices.overlaps[func() hayrick/api.Errno]"], unfollowed := true, recurses := true, named := ["hayrick/wire.fourSteps"], apart := false, laid := [("hayrick/wire.fourSteps", laid_hayrick_wire_fourSteps)] }
def ReplayTwiceSaid : Prop := replayTwiceRow.holds Tryz.pinned (OpenSpec.ofChange replayTwiceSpec)

/-- ITS FALSE NEIGHBOUR: 'it returns false'. Refute it at one input. -/
def replayTwiceWrong : ChangeSpec := { name := "replayTwice", fn := fun _ => fun
  | [d] => { results := [.lit (.bool false)], args := [d] }
  | _ => none }
def ReplayTwiceWrongFalsely : Prop := replayTwiceRow.holds Tryz.pinned (OpenSpec.ofChange replayTwiceWrong)

/-- 'hayricklaw09.ReplayCrash': WHATEVER THE INPUT: true; the input reads as it did. -/
def replayCrashSpec : ChangeSpec := { name := "replayCrash", fn := fun _ => fun
  | [d] => { results := [.lit (.bool true)], args := [d] }
  | _ => none }
def replayCrashRow : OpenClaim := { program := "ytmlgchmladkfpaagreatdoor", sum := "53996ceb47b75284757573f6c4f77f1c36c10e103e439d4e72439f193d39f80c", func := "hayrick/hayricklaw09.ReplayCrash", spec := "replayCrash", inPlace := ["slices.overlaps[func() hayrick/api.Errno]"], unfollowed := true, recurses := true, named := ["hayrick/wire.fourSteps"], apart := false, laid := [("hayrick/wire.fourSteps", laid_hayrick_wire_fourSteps)] }
def ReplayCrashSaid : Prop := replayCrashRow.holds Tryz.pinned (OpenSpec.ofChange replayCrashSpec)

/-- ITS FALSE NEIGHBOUR: 'it returns false'. Refute it at one input. -/
def replayCrashWrong : ChangeSpec := { name := "replayCrash", fn := fun _ => fun
  | [d] => { results := [.lit (.bool false)], args := [d] }
  | _ => none }
def ReplayCrashWrongFalsely : Prop := replayCrashRow.holds Tryz.pinned (OpenSpec.ofChange replayCrashWrong)

/- THE SECOND FORM. 'bulk': how many values and letters a reading holds, each counted each time it is reached (what is shared counts as often as it is met; a slice's spare places count too). A statement '..UptoSaid' is the law's where the arguments, and the package variables that the reading takes, are together of bulk at most 1048576: NARROWER than '..Said'. Prove '..Said' where nothing that the law and all that it calls make is longer than what came in: it says more and counts as full. Else prove '..UptoSaid'. A law counts once. -/
mutual
def uptoBulk {H : Type} : DataW H → Nat
  | .lit (.string bytes) => bytes.length + 1
  | .lit _ => 1
  | .nil => 1
  | .ptr d => uptoBulk d + 1
  | .slice elems spare => uptoBulkAll elems + uptoBulkAll spare + 1
  | .agg parts => uptoBulkAll parts + 1
  | .iface _ d => uptoBulk d + 1
  | .map entries => uptoBulkEntries entries + 1
  | .held _ => 1
def uptoBulkAll {H : Type} : List (DataW H) → Nat
  | [] => 0
  | d :: r => uptoBulk d + uptoBulkAll r
def uptoBulkEntries {H : Type} : List (Lit × DataW H) → Nat
  | [] => 0
  | x :: r => uptoBulkEntry x + uptoBulkEntries r
def uptoBulkEntry {H : Type} : Lit × DataW H → Nat
  | (.string bytes, d) => bytes.length + uptoBulk d + 1
  | (_, d) => uptoBulk d + 1
 end
def uptoSmall : (H : Type) → List (DataW H) → Bool := fun _ ds => decide (uptoBulkAll ds ≤ 1048576)
def OpenSpec.upto (s : _root_.Go.ChangeSpec) : _root_.Go.OpenSpec := { _root_.Go.OpenSpec.ofChange s with cond := some uptoSmall }

/-- 'hayricklaw08.JournalHome', WHERE WHAT IT READS IS OF BULK AT MOST 1048576: true; the input reads as it did. -/
def journalHomeUptoRow : OpenClaim := { program := "ytmlgchmladkfpaagreatdoor", sum := "53996ceb47b75284757573f6c4f77f1c36c10e103e439d4e72439f193d39f80c", func := "hayrick/hayricklaw08.JournalHome", spec := "journalHome", inPlace := ["slices.overlaps[func() hayrick/api.Errno]"], unfollowed := true, recurses := true, named := ["hayrick/wire.fourSteps"], apart := false, laid := [("hayrick/wire.fourSteps", laid_hayrick_wire_fourSteps)], narrowed := true }
def JournalHomeUptoSaid : Prop := journalHomeUptoRow.holds Tryz.pinned (OpenSpec.upto journalHomeSpec)

/-- 'hayricklaw08.JournalServes', WHERE WHAT IT READS IS OF BULK AT MOST 1048576: true; the input reads as it did. -/
def journalServesUptoRow : OpenClaim := { program := "ytmlgchmladkfpaagreatdoor", sum := "53996ceb47b75284757573f6c4f77f1c36c10e103e439d4e72439f193d39f80c", func := "hayrick/hayricklaw08.JournalServes", spec := "journalServes", inPlace := ["slices.overlaps[func() hayrick/api.Errno]"], unfollowed := true, recurses := true, named := ["hayrick/wire.fourSteps"], apart := false, laid := [("hayrick/wire.fourSteps", laid_hayrick_wire_fourSteps)], narrowed := true }
def JournalServesUptoSaid : Prop := journalServesUptoRow.holds Tryz.pinned (OpenSpec.upto journalServesSpec)

/-- 'hayricklaw09.ReplayNone', WHERE WHAT IT READS IS OF BULK AT MOST 1048576: true; the input reads as it did. -/
def replayNoneUptoRow : OpenClaim := { program := "ytmlgchmladkfpaagreatdoor", sum := "53996ceb47b75284757573f6c4f77f1c36c10e103e439d4e72439f193d39f80c", func := "hayrick/hayricklaw09.ReplayNone", spec := "replayNone", inPlace := ["slices.overlaps[func() hayrick/api.Errno]"], unfollowed := true, recurses := true, named := ["hayrick/wire.fourSteps"], apart := false, laid := [("hayrick/wire.fourSteps", laid_hayrick_wire_fourSteps)], narrowed := true }
def ReplayNoneUptoSaid : Prop := replayNoneUptoRow.holds Tryz.pinned (OpenSpec.upto replayNoneSpec)

/-- 'hayricklaw09.ReplayNothing', WHERE WHAT IT READS IS OF BULK AT MOST 1048576: true; the input reads as it did. -/
def replayNothingUptoRow : OpenClaim := { program := "ytmlgchmladkfpaagreatdoor", sum := "53996ceb47b75284757573f6c4f77f1c36c10e103e439d4e72439f193d39f80c", func := "hayrick/hayricklaw09.ReplayNothing", spec := "replayNothing", inPlace := ["slices.overlaps[func() hayrick/api.Errno]"], unfollowed := true, recurses := true, named := ["hayrick/wire.fourSteps"], apart := false, laid := [("hayrick/wire.fourSteps", laid_hayrick_wire_fourSteps)], narrowed := true }
def ReplayNothingUptoSaid : Prop := replayNothingUptoRow.holds Tryz.pinned (OpenSpec.upto replayNothingSpec)

/-- 'hayricklaw09.ReplayRises', WHERE WHAT IT READS IS OF BULK AT MOST 1048576: true; the input reads as it did. -/
def replayRisesUptoRow : OpenClaim := { program := "ytmlgchmladkfpaagreatdoor", sum := "53996ceb47b75284757573f6c4f77f1c36c10e103e439d4e72439f193d39f80c", func := "hayrick/hayricklaw09.ReplayRises", spec := "replayRises", inPlace := ["slices.overlaps[func() hayrick/api.Errno]"], unfollowed := true, recurses := true, named := ["hayrick/wire.fourSteps"], apart := false, laid := [("hayrick/wire.fourSteps", laid_hayrick_wire_fourSteps)], narrowed := true }
def ReplayRisesUptoSaid : Prop := replayRisesUptoRow.holds Tryz.pinned (OpenSpec.upto replayRisesSpec)

/-- 'hayricklaw09.ReplayTwice', WHERE WHAT IT READS IS OF BULK AT MOST 1048576: true; the input reads as it did. -/
def replayTwiceUptoRow : OpenClaim := { program := "ytmlgchmladkfpaagreatdoor", sum := "53996ceb47b75284757573f6c4f77f1c36c10e103e439d4e72439f193d39f80c", func := "hayrick/hayricklaw09.ReplayTwice", spec := "replayTwice", inPlace := ["slices.overlaps[func() hayrick/api.Errno]"], unfollowed := true, recurses := true, named := ["hayrick/wire.fourSteps"], apart := false, laid := [("hayrick/wire.fourSteps", laid_hayrick_wire_fourSteps)], narrowed := true }
def ReplayTwiceUptoSaid : Prop := replayTwiceUptoRow.holds Tryz.pinned (OpenSpec.upto replayTwiceSpec)

/-- 'hayricklaw09.ReplayCrash', WHERE WHAT IT READS IS OF BULK AT MOST 1048576: true; the input reads as it did. -/
def replayCrashUptoRow : OpenClaim := { program := "ytmlgchmladkfpaagreatdoor", sum := "53996ceb47b75284757573f6c4f77f1c36c10e103e439d4e72439f193d39f80c", func := "hayrick/hayricklaw09.ReplayCrash", spec := "replayCrash", inPlace := ["slices.overlaps[func() hayrick/api.Errno]"], unfollowed := true, recurses := true, named := ["hayrick/wire.fourSteps"], apart := false, laid := [("hayrick/wire.fourSteps", laid_hayrick_wire_fourSteps)], narrowed := true }
def ReplayCrashUptoSaid : Prop := replayCrashUptoRow.holds Tryz.pinned (OpenSpec.upto replayCrashSpec)

end Rows
end Go.Proofs.YtmlgchmladkfpaaGreatDoor
