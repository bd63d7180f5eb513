/-
  NARROWER THAN 'FOR EVERY INPUT', by the rows' own cells (each row's printed sentence says how): InodePacks: laid · InodeBack: laid · InodeOnly: laid · InodeCleared: laid.
  DERIVED. THE GIVEN ROWS OF THIS SEAT. 4 by the template 'for every input the law returns true; each argument reads behind the call as it read before'; 0 by the template 'total and deterministic' (their statements: YtgjcbfdhpbkhoaaGreatDoorTotals.lean).
  GIVEN WITH THE SEED: the statements are not yours to turn. If you find one false, say at which input.
  Laid BY PROGRAM, IN A SANDBOX (cutbox-rows.mjs): the forced cells as the released guide's own fill.sh prints them over the translation 472891562d412eb3… (all of the seat's roots in one cut). By AI agents, Wed Nov 11 2026. No macro, syntax, notation, axiom, sorry.
-/
import Derived.Test.YtgjcbfdhpbkhoaaGreatDoorChecked
import GoSem.Claim
import GoSem.ClaimJoined
import GoSem.ClaimMapViews
import Derived.JoinedTies
import Derived.KernelRfl
namespace Go.Proofs.YtgjcbfdhpbkhoaaGreatDoor
/- THE CELL 'sum', in the pinned program and in every row, IS THE sha256 OF THE DUMP (.gsa) THAT YtgjcbfdhpbkhoaaGreatDoorProg.lean LOADS. Nothing in Lean hashes anything: it is a label: what it is worth is what the hold of that sum in a sandbox is worth. -/
noncomputable def Tryz.pinned : Pinned := { name := "ytgjcbfdhpbkhoaagreatdoor", sum := "472891562d412eb30ed2ba422de45ca7a4318b673000f6b630c368aaae604fec", checked := Tryz.checked }
namespace Rows
def none {H : Type} : Left H := { results := [], args := [] }

/- WHAT THE LISTED PACKAGE-LEVEL VARIABLES READ AS WHEN THE CALL BEGINS. Each datum BY PROGRAM (the guide's laid-datum.mjs) off the statement by which the dump's own 'gosem.cut.vars' lays the variable. In a bare row this is a premise. The card (YtgjcbfdhpbkhoaaGreatDoorCards.lean) ties it to the program's text. -/
def laid_hayrick_wire_fourSteps {H : Type} : DataW H := .agg [.lit (.int .u32 0), .lit (.int .u32 274646895), .lit (.int .u32 549293790), .lit (.int .u32 820201905), .lit (.int .u32 1098587580), .lit (.int .u32 1361435347), .lit (.int .u32 1640403810), .lit (.int .u32 1905808397), .lit (.int .u32 2197175160), .lit (.int .u32 2460548119), .lit (.int .u32 2722870694), .lit (.int .u32 2987750089), .lit (.int .u32 3280807620), .lit (.int .u32 3553878443), .lit (.int .u32 3811616794), .lit (.int .u32 4084100981)]

/-- 'hayricklaw12.InodePacks': WHATEVER THE INPUT: true; the input reads as it did. -/
def inodePacksSpec : ChangeSpec := { name := "inodePacks", fn := fun _ => fun
  | [d1, d2, d3] => { results := [.lit (.bool true)], args := [d1, d2, d3] }
  | _ => none }
def inodePacksRow : OpenClaim := { program := "ytgjcbfdhpbkhoaagreatdoor", sum := "472891562d412eb30ed2ba422de45ca7a4318b673000f6b630c368aaae604fec", func := "hayrick/hayricklaw12.InodePacks", spec := "inodePacks", unfollowed := true, recurses := true, named := ["hayrick/wire.fourSteps"], apart := false, laid := [("hayrick/wire.fourSteps", laid_hayrick_wire_fourSteps)] }
def InodePacksSaid : Prop := inodePacksRow.holds Tryz.pinned (OpenSpec.ofChange inodePacksSpec)

/-- ITS FALSE NEIGHBOUR: 'it returns false'. Refute it at one input. -/
def inodePacksWrong : ChangeSpec := { name := "inodePacks", fn := fun _ => fun
  | [d1, d2, d3] => { results := [.lit (.bool false)], args := [d1, d2, d3] }
  | _ => none }
def InodePacksWrongFalsely : Prop := inodePacksRow.holds Tryz.pinned (OpenSpec.ofChange inodePacksWrong)

/-- 'hayricklaw12.InodeBack': WHATEVER THE INPUT: true; the input reads as it did. -/
def inodeBackSpec : ChangeSpec := { name := "inodeBack", fn := fun _ => fun
  | [d1, d2, d3, d4] => { results := [.lit (.bool true)], args := [d1, d2, d3, d4] }
  | _ => none }
def inodeBackRow : OpenClaim := { program := "ytgjcbfdhpbkhoaagreatdoor", sum := "472891562d412eb30ed2ba422de45ca7a4318b673000f6b630c368aaae604fec", func := "hayrick/hayricklaw12.InodeBack", spec := "inodeBack", unfollowed := true, recurses := true, named := ["hayrick/wire.fourSteps"], apart := false, laid := [("hayrick/wire.fourSteps", laid_hayrick_wire_fourSteps)] }
def InodeBackSaid : Prop := inodeBackRow.holds Tryz.pinned (OpenSpec.ofChange inodeBackSpec)

/-- ITS FALSE NEIGHBOUR: 'it returns false'. Refute it at one input. -/
def inodeBackWrong : ChangeSpec := { name := "inodeBack", fn := fun _ => fun
  | [d1, d2, d3, d4] => { results := [.lit (.bool false)], args := [d1, d2, d3, d4] }
  | _ => none }
def InodeBackWrongFalsely : Prop := inodeBackRow.holds Tryz.pinned (OpenSpec.ofChange inodeBackWrong)

/-- 'hayricklaw12.InodeOnly': WHATEVER THE INPUT: true; the input reads as it did. -/
def inodeOnlySpec : ChangeSpec := { name := "inodeOnly", fn := fun _ => fun
  | [d1, d2] => { results := [.lit (.bool true)], args := [d1, d2] }
  | _ => none }
def inodeOnlyRow : OpenClaim := { program := "ytgjcbfdhpbkhoaagreatdoor", sum := "472891562d412eb30ed2ba422de45ca7a4318b673000f6b630c368aaae604fec", func := "hayrick/hayricklaw12.InodeOnly", spec := "inodeOnly", unfollowed := true, recurses := true, named := ["hayrick/wire.fourSteps"], apart := false, laid := [("hayrick/wire.fourSteps", laid_hayrick_wire_fourSteps)] }
def InodeOnlySaid : Prop := inodeOnlyRow.holds Tryz.pinned (OpenSpec.ofChange inodeOnlySpec)

/-- ITS FALSE NEIGHBOUR: 'it returns false'. Refute it at one input. -/
def inodeOnlyWrong : ChangeSpec := { name := "inodeOnly", fn := fun _ => fun
  | [d1, d2] => { results := [.lit (.bool false)], args := [d1, d2] }
  | _ => none }
def InodeOnlyWrongFalsely : Prop := inodeOnlyRow.holds Tryz.pinned (OpenSpec.ofChange inodeOnlyWrong)

/-- 'hayricklaw12.InodeCleared': WHATEVER THE INPUT: true; the input reads as it did. -/
def inodeClearedSpec : ChangeSpec := { name := "inodeCleared", fn := fun _ => fun
  | [d1, d2, d3] => { results := [.lit (.bool true)], args := [d1, d2, d3] }
  | _ => none }
def inodeClearedRow : OpenClaim := { program := "ytgjcbfdhpbkhoaagreatdoor", sum := "472891562d412eb30ed2ba422de45ca7a4318b673000f6b630c368aaae604fec", func := "hayrick/hayricklaw12.InodeCleared", spec := "inodeCleared", unfollowed := true, recurses := true, named := ["hayrick/wire.fourSteps"], apart := false, laid := [("hayrick/wire.fourSteps", laid_hayrick_wire_fourSteps)] }
def InodeClearedSaid : Prop := inodeClearedRow.holds Tryz.pinned (OpenSpec.ofChange inodeClearedSpec)

/-- ITS FALSE NEIGHBOUR: 'it returns false'. Refute it at one input. -/
def inodeClearedWrong : ChangeSpec := { name := "inodeCleared", fn := fun _ => fun
  | [d1, d2, d3] => { results := [.lit (.bool false)], args := [d1, d2, d3] }
  | _ => none }
def InodeClearedWrongFalsely : Prop := inodeClearedRow.holds Tryz.pinned (OpenSpec.ofChange inodeClearedWrong)

/- THE SECOND FORM. 'bulk': how many values and letters a reading holds, each counted each time it is reached (what is shared counts as often as it is met; a slice's spare places count too). A statement '..UptoSaid' is the law's where the arguments, and the package variables that the reading takes, are together of bulk at most 1048576: NARROWER than '..Said'. Prove '..Said' where nothing that the law and all that it calls make is longer than what came in: it says more and counts as full. Else prove '..UptoSaid'. A law counts once. -/
mutual
def uptoBulk {H : Type} : DataW H → Nat
  | .lit (.string bytes) => bytes.length + 1
  | .lit _ => 1
  | .nil => 1
  | .ptr d => uptoBulk d + 1
  | .slice elems spare => uptoBulkAll elems + uptoBulkAll spare + 1
  | .agg parts => uptoBulkAll parts + 1
  | .iface _ d => uptoBulk d + 1
  | .map entries => uptoBulkEntries entries + 1
  | .held _ => 1
def uptoBulkAll {H : Type} : List (DataW H) → Nat
  | [] => 0
  | d :: r => uptoBulk d + uptoBulkAll r
def uptoBulkEntries {H : Type} : List (Lit × DataW H) → Nat
  | [] => 0
  | x :: r => uptoBulkEntry x + uptoBulkEntries r
def uptoBulkEntry {H : Type} : Lit × DataW H → Nat
  | (.string bytes, d) => bytes.length + uptoBulk d + 1
  | (_, d) => uptoBulk d + 1
 end
def uptoSmall : (H : Type) → List (DataW H) → Bool := fun _ ds => decide (uptoBulkAll ds ≤ 1048576)
def OpenSpec.upto (s : _root_.Go.ChangeSpec) : _root_.Go.OpenSpec := { _root_.Go.OpenSpec.ofChange s with cond := some uptoSmall }

/-- 'hayricklaw12.InodePacks', WHERE WHAT IT READS IS OF BULK AT MOST 1048576: true; the input reads as it did. -/
def inodePacksUptoRow : OpenClaim := { program := "ytgjcbfdhpbkhoaagreatdoor", sum := "472891562d412eb30ed2ba422de45ca7a4318b673000f6b630c368aaae604fec", func := "hayrick/hayricklaw12.InodePacks", spec := "inodePacks", unfollowed := true, recurses := true, named := ["hayrick/wire.fourSteps"], apart := false, laid := [("hayrick/wire.fourSteps", laid_hayrick_wire_fourSteps)], narrowed := true }
def InodePacksUptoSaid : Prop := inodePacksUptoRow.holds Tryz.pinned (OpenSpec.upto inodePacksSpec)

/-- 'hayricklaw12.InodeBack', WHERE WHAT IT READS IS OF BULK AT MOST 1048576: true; the input reads as it did. -/
def inodeBackUptoRow : OpenClaim := { program := "ytgjcbfdhpbkhoaagreatdoor", sum := "472891562d412eb30ed2ba422de45ca7a4318b673000f6b630c368aaae604fec", func := "hayrick/hayricklaw12.InodeBack", spec := "inodeBack", unfollowed := true, recurses := true, named := ["hayrick/wire.fourSteps"], apart := false, laid := [("hayrick/wire.fourSteps", laid_hayrick_wire_fourSteps)], narrowed := true }
def InodeBackUptoSaid : Prop := inodeBackUptoRow.holds Tryz.pinned (OpenSpec.upto inodeBackSpec)

/-- 'hayricklaw12.InodeOnly', WHERE WHAT IT READS IS OF BULK AT MOST 1048576: true; the input reads as it did. -/
def inodeOnlyUptoRow : OpenClaim := { program := "ytgjcbfdhpbkhoaagreatdoor", sum := "472891562d412eb30ed2ba422de45ca7a4318b673000f6b630c368aaae604fec", func := "hayrick/hayricklaw12.InodeOnly", spec := "inodeOnly", unfollowed := true, recurses := true, named := ["hayrick/wire.fourSteps"], apart := false, laid := [("hayrick/wire.fourSteps", laid_hayrick_wire_fourSteps)], narrowed := true }
def InodeOnlyUptoSaid : Prop := inodeOnlyUptoRow.holds Tryz.pinned (OpenSpec.upto inodeOnlySpec)

/-- 'hayricklaw12.InodeCleared', WHERE WHAT IT READS IS OF BULK AT MOST 1048576: true; the input reads as it did. -/
def inodeClearedUptoRow : OpenClaim := { program := "ytgjcbfdhpbkhoaagreatdoor", sum := "472891562d412eb30ed2ba422de45ca7a4318b673000f6b630c368aaae604fec", func := "hayrick/hayricklaw12.InodeCleared", spec := "inodeCleared", unfollowed := true, recurses := true, named := ["hayrick/wire.fourSteps"], apart := false, laid := [("hayrick/wire.fourSteps", laid_hayrick_wire_fourSteps)], narrowed := true }
def InodeClearedUptoSaid : Prop := inodeClearedUptoRow.holds Tryz.pinned (OpenSpec.upto inodeClearedSpec)

end Rows
end Go.Proofs.YtgjcbfdhpbkhoaaGreatDoor
