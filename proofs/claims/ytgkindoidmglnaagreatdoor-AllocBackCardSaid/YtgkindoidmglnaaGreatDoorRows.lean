/-
  NARROWER THAN 'FOR EVERY INPUT', by the rows' own cells (each row's printed sentence says how): AllocCounts: laid · AllocBack: laid · AllocInodes: laid · AllocAll: laid.
  DERIVED. THE GIVEN ROWS OF THIS SEAT. 4 by the template 'for every input the law returns true; each argument reads behind the call as it read before'; 0 by the template 'total and deterministic' (their statements: YtgkindoidmglnaaGreatDoorTotals.lean).
  GIVEN WITH THE SEED: the statements are not yours to turn. If you find one false, say at which input.
  Laid BY PROGRAM, IN A SANDBOX (cutbox-rows.mjs): the forced cells as the released guide's own fill.sh prints them over the translation 8988cd117263a015… (all of the seat's roots in one cut). By AI agents, Wed Nov 11 2026. No macro, syntax, notation, axiom, sorry.
-/
import Derived.Test.YtgkindoidmglnaaGreatDoorChecked
import GoSem.Claim
import GoSem.ClaimJoined
import GoSem.ClaimMapViews
import Derived.JoinedTies
import Derived.KernelRfl
namespace Go.Proofs.YtgkindoidmglnaaGreatDoor
/- THE CELL 'sum', in the pinned program and in every row, IS THE sha256 OF THE DUMP (.gsa) THAT YtgkindoidmglnaaGreatDoorProg.lean LOADS. Nothing in Lean hashes anything: it is a label: what it is worth is what the hold of that sum in a sandbox is worth. -/
noncomputable def Tryz.pinned : Pinned := { name := "ytgkindoidmglnaagreatdoor", sum := "8988cd117263a015843e1b85fb3173ebbdaff99016091bb027546a4b9a2983b7", checked := Tryz.checked }
namespace Rows
def none {H : Type} : Left H := { results := [], args := [] }

/- WHAT THE LISTED PACKAGE-LEVEL VARIABLES READ AS WHEN THE CALL BEGINS. Each datum BY PROGRAM (the guide's laid-datum.mjs) off the statement by which the dump's own 'gosem.cut.vars' lays the variable. In a bare row this is a premise. The card (YtgkindoidmglnaaGreatDoorCards.lean) ties it to the program's text. -/
def laid_hayrick_wire_fourSteps {H : Type} : DataW H := .agg [.lit (.int .u32 0), .lit (.int .u32 274646895), .lit (.int .u32 549293790), .lit (.int .u32 820201905), .lit (.int .u32 1098587580), .lit (.int .u32 1361435347), .lit (.int .u32 1640403810), .lit (.int .u32 1905808397), .lit (.int .u32 2197175160), .lit (.int .u32 2460548119), .lit (.int .u32 2722870694), .lit (.int .u32 2987750089), .lit (.int .u32 3280807620), .lit (.int .u32 3553878443), .lit (.int .u32 3811616794), .lit (.int .u32 4084100981)]

/-- 'hayricklaw10.AllocCounts': WHATEVER THE INPUT: true; the input reads as it did. -/
def allocCountsSpec : ChangeSpec := { name := "allocCounts", fn := fun _ => fun
  | [d1, d2] => { results := [.lit (.bool true)], args := [d1, d2] }
  | _ => none }
def allocCountsRow : OpenClaim := { program := "ytgkindoidmglnaagreatdoor", sum := "8988cd117263a015843e1b85fb3173ebbdaff99016091bb027546a4b9a2983b7", func := "hayrick/hayricklaw10.AllocCounts", spec := "allocCounts", unfollowed := true, recurses := true, named := ["hayrick/wire.fourSteps"], apart := false, laid := [("hayrick/wire.fourSteps", laid_hayrick_wire_fourSteps)] }
def AllocCountsSaid : Prop := allocCountsRow.holds Tryz.pinned (OpenSpec.ofChange allocCountsSpec)

/-- ITS FALSE NEIGHBOUR: 'it returns false'. Refute it at one input. -/
def allocCountsWrong : ChangeSpec := { name := "allocCounts", fn := fun _ => fun
  | [d1, d2] => { results := [.lit (.bool false)], args := [d1, d2] }
  | _ => none }
def AllocCountsWrongFalsely : Prop := allocCountsRow.holds Tryz.pinned (OpenSpec.ofChange allocCountsWrong)

/-- 'hayricklaw10.AllocBack': WHATEVER THE INPUT: true; the input reads as it did. -/
def allocBackSpec : ChangeSpec := { name := "allocBack", fn := fun _ => fun
  | [d1, d2, d3] => { results := [.lit (.bool true)], args := [d1, d2, d3] }
  | _ => none }
def allocBackRow : OpenClaim := { program := "ytgkindoidmglnaagreatdoor", sum := "8988cd117263a015843e1b85fb3173ebbdaff99016091bb027546a4b9a2983b7", func := "hayrick/hayricklaw10.AllocBack", spec := "allocBack", unfollowed := true, recurses := true, named := ["hayrick/wire.fourSteps"], apart := false, laid := [("hayrick/wire.fourSteps", laid_hayrick_wire_fourSteps)] }
def AllocBackSaid : Prop := allocBackRow.holds Tryz.pinned (OpenSpec.ofChange allocBackSpec)

/-- ITS FALSE NEIGHBOUR: 'it returns false'. Refute it at one input. -/
def allocBackWrong : ChangeSpec := { name := "allocBack", fn := fun _ => fun
  | [d1, d2, d3] => { results := [.lit (.bool false)], args := [d1, d2, d3] }
  | _ => none }
def AllocBackWrongFalsely : Prop := allocBackRow.holds Tryz.pinned (OpenSpec.ofChange allocBackWrong)

/-- 'hayricklaw10.AllocInodes': WHATEVER THE INPUT: true; the input reads as it did. -/
def allocInodesSpec : ChangeSpec := { name := "allocInodes", fn := fun _ => fun
  | [d1, d2, d3] => { results := [.lit (.bool true)], args := [d1, d2, d3] }
  | _ => none }
def allocInodesRow : OpenClaim := { program := "ytgkindoidmglnaagreatdoor", sum := "8988cd117263a015843e1b85fb3173ebbdaff99016091bb027546a4b9a2983b7", func := "hayrick/hayricklaw10.AllocInodes", spec := "allocInodes", unfollowed := true, recurses := true, named := ["hayrick/wire.fourSteps"], apart := false, laid := [("hayrick/wire.fourSteps", laid_hayrick_wire_fourSteps)] }
def AllocInodesSaid : Prop := allocInodesRow.holds Tryz.pinned (OpenSpec.ofChange allocInodesSpec)

/-- ITS FALSE NEIGHBOUR: 'it returns false'. Refute it at one input. -/
def allocInodesWrong : ChangeSpec := { name := "allocInodes", fn := fun _ => fun
  | [d1, d2, d3] => { results := [.lit (.bool false)], args := [d1, d2, d3] }
  | _ => none }
def AllocInodesWrongFalsely : Prop := allocInodesRow.holds Tryz.pinned (OpenSpec.ofChange allocInodesWrong)

/-- 'hayricklaw10.AllocAll': WHATEVER THE INPUT: true; the input reads as it did. -/
def allocAllSpec : ChangeSpec := { name := "allocAll", fn := fun _ => fun
  | [d1, d2, d3] => { results := [.lit (.bool true)], args := [d1, d2, d3] }
  | _ => none }
def allocAllRow : OpenClaim := { program := "ytgkindoidmglnaagreatdoor", sum := "8988cd117263a015843e1b85fb3173ebbdaff99016091bb027546a4b9a2983b7", func := "hayrick/hayricklaw10.AllocAll", spec := "allocAll", unfollowed := true, recurses := true, named := ["hayrick/wire.fourSteps"], apart := false, laid := [("hayrick/wire.fourSteps", laid_hayrick_wire_fourSteps)] }
def AllocAllSaid : Prop := allocAllRow.holds Tryz.pinned (OpenSpec.ofChange allocAllSpec)

/-- ITS FALSE NEIGHBOUR: 'it returns false'. Refute it at one input. -/
def allocAllWrong : ChangeSpec := { name := "allocAll", fn := fun _ => fun
  | [d1, d2, d3] => { results := [.lit (.bool false)], args := [d1, d2, d3] }
  | _ => none }
def AllocAllWrongFalsely : Prop := allocAllRow.holds Tryz.pinned (OpenSpec.ofChange allocAllWrong)

/- THE SECOND FORM. 'bulk': how many values and letters a reading holds, each counted each time it is reached (what is shared counts as often as it is met; a slice's spare places count too). A statement '..UptoSaid' is the law's where the arguments, and the package variables that the reading takes, are together of bulk at most 1048576: NARROWER than '..Said'. Prove '..Said' where nothing that the law and all that it calls make is longer than what came in: it says more and counts as full. Else prove '..UptoSaid'. A law counts once. -/
mutual
def uptoBulk {H : Type} : DataW H → Nat
  | .lit (.string bytes) => bytes.length + 1
  | .lit _ => 1
  | .nil => 1
  | .ptr d => uptoBulk d + 1
  | .slice elems spare => uptoBulkAll elems + uptoBulkAll spare + 1
  | .agg parts => uptoBulkAll parts + 1
  | .iface _ d => uptoBulk d + 1
  | .map entries => uptoBulkEntries entries + 1
  | .held _ => 1
def uptoBulkAll {H : Type} : List (DataW H) → Nat
  | [] => 0
  | d :: r => uptoBulk d + uptoBulkAll r
def uptoBulkEntries {H : Type} : List (Lit × DataW H) → Nat
  | [] => 0
  | x :: r => uptoBulkEntry x + uptoBulkEntries r
def uptoBulkEntry {H : Type} : Lit × DataW H → Nat
  | (.string bytes, d) => bytes.length + uptoBulk d + 1
  | (_, d) => uptoBulk d + 1
 end
def uptoSmall : (H : Type) → List (DataW H) → Bool := fun _ ds => decide (uptoBulkAll ds ≤ 1048576)
def OpenSpec.upto (s : _root_.Go.ChangeSpec) : _root_.Go.OpenSpec := { _root_.Go.OpenSpec.ofChange s with cond := some uptoSmall }

/-- 'hayricklaw10.AllocCounts', WHERE WHAT IT READS IS OF BULK AT MOST 1048576: true; the input reads as it did. -/
def allocCountsUptoRow : OpenClaim := { program := "ytgkindoidmglnaagreatdoor", sum := "8988cd117263a015843e1b85fb3173ebbdaff99016091bb027546a4b9a2983b7", func := "hayrick/hayricklaw10.AllocCounts", spec := "allocCounts", unfollowed := true, recurses := true, named := ["hayrick/wire.fourSteps"], apart := false, laid := [("hayrick/wire.fourSteps", laid_hayrick_wire_fourSteps)], narrowed := true }
def AllocCountsUptoSaid : Prop := allocCountsUptoRow.holds Tryz.pinned (OpenSpec.upto allocCountsSpec)

/-- 'hayricklaw10.AllocBack', WHERE WHAT IT READS IS OF BULK AT MOST 1048576: true; the input reads as it did. -/
def allocBackUptoRow : OpenClaim := { program := "ytgkindoidmglnaagreatdoor", sum := "8988cd117263a015843e1b85fb3173ebbdaff99016091bb027546a4b9a2983b7", func := "hayrick/hayricklaw10.AllocBack", spec := "allocBack", unfollowed := true, recurses := true, named := ["hayrick/wire.fourSteps"], apart := false, laid := [("hayrick/wire.fourSteps", laid_hayrick_wire_fourSteps)], narrowed := true }
def AllocBackUptoSaid : Prop := allocBackUptoRow.holds Tryz.pinned (OpenSpec.upto allocBackSpec)

/-- 'hayricklaw10.AllocInodes', WHERE WHAT IT READS IS OF BULK AT MOST 1048576: true; the input reads as it did. -/
def allocInodesUptoRow : OpenClaim := { program := "ytgkindoidmglnaagreatdoor", sum := "8988cd117263a015843e1b85fb3173ebbdaff99016091bb027546a4b9a2983b7", func := "hayrick/hayricklaw10.AllocInodes", spec := "allocInodes", unfollowed := true, recurses := true, named := ["hayrick/wire.fourSteps"], apart := false, laid := [("hayrick/wire.fourSteps", laid_hayrick_wire_fourSteps)], narrowed := true }
def AllocInodesUptoSaid : Prop := allocInodesUptoRow.holds Tryz.pinned (OpenSpec.upto allocInodesSpec)

/-- 'hayricklaw10.AllocAll', WHERE WHAT IT READS IS OF BULK AT MOST 1048576: true; the input reads as it did. -/
def allocAllUptoRow : OpenClaim := { program := "ytgkindoidmglnaagreatdoor", sum := "8988cd117263a015843e1b85fb3173ebbdaff99016091bb027546a4b9a2983b7", func := "hayrick/hayricklaw10.AllocAll", spec := "allocAll", unfollowed := true, recurses := true, named := ["hayrick/wire.fourSteps"], apart := false, laid := [("hayrick/wire.fourSteps", laid_hayrick_wire_fourSteps)], narrowed := true }
def AllocAllUptoSaid : Prop := allocAllUptoRow.holds Tryz.pinned (OpenSpec.upto allocAllSpec)

end Rows
end Go.Proofs.YtgkindoidmglnaaGreatDoor
