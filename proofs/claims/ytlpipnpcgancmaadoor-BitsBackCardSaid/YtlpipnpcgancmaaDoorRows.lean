/-
  NARROWER THAN 'FOR EVERY INPUT', by the rows' own cells (each row's printed sentence says how): BitsTurns: laid · BitsFinds: laid · BitsBuddies: laid · BitsBack: laid · BitsGoal: laid · BitsRoom: laid · BitsTurned: laid.
  DERIVED. THE GIVEN ROWS OF THIS SEAT. 7 by the template 'for every input the law returns true; each argument reads behind the call as it read before'; 0 by the template 'total and deterministic' (their statements: YtlpipnpcgancmaaDoorTotals.lean).
  GIVEN WITH THE SEED: the statements are not yours to turn. If you find one false, say at which input.
  Laid BY PROGRAM, IN A SANDBOX (cutbox-rows.mjs): the forced cells as the released guide's own fill.sh prints them over the translation ad4a807e9ba4a1fb… (all of the seat's roots in one cut). By AI agents, Wed Nov 11 2026. No macro, syntax, notation, axiom, sorry.
-/
import Derived.Test.YtlpipnpcgancmaaDoorChecked
import GoSem.Claim
import GoSem.ClaimJoined
import GoSem.ClaimMapViews
import Derived.JoinedTies
import Derived.KernelRfl
namespace Go.Proofs.YtlpipnpcgancmaaDoor
/- THE CELL 'sum', in the pinned program and in every row, IS THE sha256 OF THE DUMP (.gsa) THAT YtlpipnpcgancmaaDoorProg.lean LOADS. Nothing in Lean hashes anything: it is a label: what it is worth is what the hold of that sum in a sandbox is worth. -/
noncomputable def Tryd.pinned : Pinned := { name := "ytlpipnpcgancmaadoor", sum := "ad4a807e9ba4a1fb2ea7f9e8e354c72a31ec697b6f800141ce2a10e607090161", checked := Tryd.checked }
namespace Rows
def none {H : Type} : Left H := { results := [], args := [] }

/- WHAT THE LISTED PACKAGE-LEVEL VARIABLES READ AS WHEN THE CALL BEGINS. Each datum BY PROGRAM (the guide's laid-datum.mjs) off the statement by which the dump's own 'gosem.cut.vars' lays the variable. In a bare row this is a premise. The card (YtlpipnpcgancmaaDoorCards.lean) ties it to the program's text. -/
def laid_hayrick_wire_fourSteps {H : Type} : DataW H := .agg [.lit (.int .u32 0), .lit (.int .u32 274646895), .lit (.int .u32 549293790), .lit (.int .u32 820201905), .lit (.int .u32 1098587580), .lit (.int .u32 1361435347), .lit (.int .u32 1640403810), .lit (.int .u32 1905808397), .lit (.int .u32 2197175160), .lit (.int .u32 2460548119), .lit (.int .u32 2722870694), .lit (.int .u32 2987750089), .lit (.int .u32 3280807620), .lit (.int .u32 3553878443), .lit (.int .u32 3811616794), .lit (.int .u32 4084100981)]

/-- 'hayricklaw05.BitsTurns': WHATEVER THE INPUT: true; the input reads as it did. -/
def bitsTurnsSpec : ChangeSpec := { name := "bitsTurns", fn := fun _ => fun
  | [d1, d2, d3, d4, d5, d6] => { results := [.lit (.bool true)], args := [d1, d2, d3, d4, d5, d6] }
  | _ => none }
def bitsTurnsRow : OpenClaim := { program := "ytlpipnpcgancmaadoor", sum := "ad4a807e9ba4a1fb2ea7f9e8e354c72a31ec697b6f800141ce2a10e607090161", func := "hayrick/hayricklaw05.BitsTurns", spec := "bitsTurns", unfollowed := true, recurses := true, named := ["hayrick/wire.fourSteps"], apart := false, laid := [("hayrick/wire.fourSteps", laid_hayrick_wire_fourSteps)] }
def BitsTurnsSaid : Prop := bitsTurnsRow.holds Tryd.pinned (OpenSpec.ofChange bitsTurnsSpec)

/-- ITS FALSE NEIGHBOUR: 'it returns false'. Refute it at one input. -/
def bitsTurnsWrong : ChangeSpec := { name := "bitsTurns", fn := fun _ => fun
  | [d1, d2, d3, d4, d5, d6] => { results := [.lit (.bool false)], args := [d1, d2, d3, d4, d5, d6] }
  | _ => none }
def BitsTurnsWrongFalsely : Prop := bitsTurnsRow.holds Tryd.pinned (OpenSpec.ofChange bitsTurnsWrong)

/-- 'hayricklaw05.BitsFinds': WHATEVER THE INPUT: true; the input reads as it did. -/
def bitsFindsSpec : ChangeSpec := { name := "bitsFinds", fn := fun _ => fun
  | [d1, d2, d3] => { results := [.lit (.bool true)], args := [d1, d2, d3] }
  | _ => none }
def bitsFindsRow : OpenClaim := { program := "ytlpipnpcgancmaadoor", sum := "ad4a807e9ba4a1fb2ea7f9e8e354c72a31ec697b6f800141ce2a10e607090161", func := "hayrick/hayricklaw05.BitsFinds", spec := "bitsFinds", unfollowed := true, recurses := true, named := ["hayrick/wire.fourSteps"], apart := false, laid := [("hayrick/wire.fourSteps", laid_hayrick_wire_fourSteps)] }
def BitsFindsSaid : Prop := bitsFindsRow.holds Tryd.pinned (OpenSpec.ofChange bitsFindsSpec)

/-- ITS FALSE NEIGHBOUR: 'it returns false'. Refute it at one input. -/
def bitsFindsWrong : ChangeSpec := { name := "bitsFinds", fn := fun _ => fun
  | [d1, d2, d3] => { results := [.lit (.bool false)], args := [d1, d2, d3] }
  | _ => none }
def BitsFindsWrongFalsely : Prop := bitsFindsRow.holds Tryd.pinned (OpenSpec.ofChange bitsFindsWrong)

/-- 'hayricklaw05.BitsBuddies': WHATEVER THE INPUT: true; the input reads as it did. -/
def bitsBuddiesSpec : ChangeSpec := { name := "bitsBuddies", fn := fun _ => fun
  | [d1, d2, d3] => { results := [.lit (.bool true)], args := [d1, d2, d3] }
  | _ => none }
def bitsBuddiesRow : OpenClaim := { program := "ytlpipnpcgancmaadoor", sum := "ad4a807e9ba4a1fb2ea7f9e8e354c72a31ec697b6f800141ce2a10e607090161", func := "hayrick/hayricklaw05.BitsBuddies", spec := "bitsBuddies", unfollowed := true, recurses := true, named := ["hayrick/wire.fourSteps"], apart := false, laid := [("hayrick/wire.fourSteps", laid_hayrick_wire_fourSteps)] }
def BitsBuddiesSaid : Prop := bitsBuddiesRow.holds Tryd.pinned (OpenSpec.ofChange bitsBuddiesSpec)

/-- ITS FALSE NEIGHBOUR: 'it returns false'. Refute it at one input. -/
def bitsBuddiesWrong : ChangeSpec := { name := "bitsBuddies", fn := fun _ => fun
  | [d1, d2, d3] => { results := [.lit (.bool false)], args := [d1, d2, d3] }
  | _ => none }
def BitsBuddiesWrongFalsely : Prop := bitsBuddiesRow.holds Tryd.pinned (OpenSpec.ofChange bitsBuddiesWrong)

/-- 'hayricklaw05.BitsBack': WHATEVER THE INPUT: true; the input reads as it did. -/
def bitsBackSpec : ChangeSpec := { name := "bitsBack", fn := fun _ => fun
  | [d1, d2, d3, d4, d5] => { results := [.lit (.bool true)], args := [d1, d2, d3, d4, d5] }
  | _ => none }
def bitsBackRow : OpenClaim := { program := "ytlpipnpcgancmaadoor", sum := "ad4a807e9ba4a1fb2ea7f9e8e354c72a31ec697b6f800141ce2a10e607090161", func := "hayrick/hayricklaw05.BitsBack", spec := "bitsBack", unfollowed := true, recurses := true, named := ["hayrick/wire.fourSteps"], apart := false, laid := [("hayrick/wire.fourSteps", laid_hayrick_wire_fourSteps)] }
def BitsBackSaid : Prop := bitsBackRow.holds Tryd.pinned (OpenSpec.ofChange bitsBackSpec)

/-- ITS FALSE NEIGHBOUR: 'it returns false'. Refute it at one input. -/
def bitsBackWrong : ChangeSpec := { name := "bitsBack", fn := fun _ => fun
  | [d1, d2, d3, d4, d5] => { results := [.lit (.bool false)], args := [d1, d2, d3, d4, d5] }
  | _ => none }
def BitsBackWrongFalsely : Prop := bitsBackRow.holds Tryd.pinned (OpenSpec.ofChange bitsBackWrong)

/-- 'hayricklaw05.BitsGoal': WHATEVER THE INPUT: true; the input reads as it did. -/
def bitsGoalSpec : ChangeSpec := { name := "bitsGoal", fn := fun _ => fun
  | [d1, d2, d3] => { results := [.lit (.bool true)], args := [d1, d2, d3] }
  | _ => none }
def bitsGoalRow : OpenClaim := { program := "ytlpipnpcgancmaadoor", sum := "ad4a807e9ba4a1fb2ea7f9e8e354c72a31ec697b6f800141ce2a10e607090161", func := "hayrick/hayricklaw05.BitsGoal", spec := "bitsGoal", unfollowed := true, recurses := true, named := ["hayrick/wire.fourSteps"], apart := false, laid := [("hayrick/wire.fourSteps", laid_hayrick_wire_fourSteps)] }
def BitsGoalSaid : Prop := bitsGoalRow.holds Tryd.pinned (OpenSpec.ofChange bitsGoalSpec)

/-- ITS FALSE NEIGHBOUR: 'it returns false'. Refute it at one input. -/
def bitsGoalWrong : ChangeSpec := { name := "bitsGoal", fn := fun _ => fun
  | [d1, d2, d3] => { results := [.lit (.bool false)], args := [d1, d2, d3] }
  | _ => none }
def BitsGoalWrongFalsely : Prop := bitsGoalRow.holds Tryd.pinned (OpenSpec.ofChange bitsGoalWrong)

/-- 'hayricklaw05.BitsRoom': WHATEVER THE INPUT: true; the input reads as it did. -/
def bitsRoomSpec : ChangeSpec := { name := "bitsRoom", fn := fun _ => fun
  | [d1, d2] => { results := [.lit (.bool true)], args := [d1, d2] }
  | _ => none }
def bitsRoomRow : OpenClaim := { program := "ytlpipnpcgancmaadoor", sum := "ad4a807e9ba4a1fb2ea7f9e8e354c72a31ec697b6f800141ce2a10e607090161", func := "hayrick/hayricklaw05.BitsRoom", spec := "bitsRoom", unfollowed := true, recurses := true, named := ["hayrick/wire.fourSteps"], apart := false, laid := [("hayrick/wire.fourSteps", laid_hayrick_wire_fourSteps)] }
def BitsRoomSaid : Prop := bitsRoomRow.holds Tryd.pinned (OpenSpec.ofChange bitsRoomSpec)

/-- ITS FALSE NEIGHBOUR: 'it returns false'. Refute it at one input. -/
def bitsRoomWrong : ChangeSpec := { name := "bitsRoom", fn := fun _ => fun
  | [d1, d2] => { results := [.lit (.bool false)], args := [d1, d2] }
  | _ => none }
def BitsRoomWrongFalsely : Prop := bitsRoomRow.holds Tryd.pinned (OpenSpec.ofChange bitsRoomWrong)

/-- 'hayricklaw05.BitsTurned': WHATEVER THE INPUT: true; the input reads as it did. -/
def bitsTurnedSpec : ChangeSpec := { name := "bitsTurned", fn := fun _ => fun
  | [d1, d2, d3, d4, d5, d6] => { results := [.lit (.bool true)], args := [d1, d2, d3, d4, d5, d6] }
  | _ => none }
def bitsTurnedRow : OpenClaim := { program := "ytlpipnpcgancmaadoor", sum := "ad4a807e9ba4a1fb2ea7f9e8e354c72a31ec697b6f800141ce2a10e607090161", func := "hayrick/hayricklaw05.BitsTurned", spec := "bitsTurned", unfollowed := true, recurses := true, named := ["hayrick/wire.fourSteps"], apart := false, laid := [("hayrick/wire.fourSteps", laid_hayrick_wire_fourSteps)] }
def BitsTurnedSaid : Prop := bitsTurnedRow.holds Tryd.pinned (OpenSpec.ofChange bitsTurnedSpec)

/-- ITS FALSE NEIGHBOUR: 'it returns false'. Refute it at one input. -/
def bitsTurnedWrong : ChangeSpec := { name := "bitsTurned", fn := fun _ => fun
  | [d1, d2, d3, d4, d5, d6] => { results := [.lit (.bool false)], args := [d1, d2, d3, d4, d5, d6] }
  | _ => none }
def BitsTurnedWrongFalsely : Prop := bitsTurnedRow.holds Tryd.pinned (OpenSpec.ofChange bitsTurnedWrong)

/- THE SECOND FORM. 'bulk': how many values and letters a reading holds, each counted each time it is reached (what is shared counts as often as it is met; a slice's spare places count too). A statement '..UptoSaid' is the law's where the arguments, and the package variables that the reading takes, are together of bulk at most 1048576: NARROWER than '..Said'. Prove '..Said' where nothing that the law and all that it calls make is longer than what came in: it says more and counts as full. Else prove '..UptoSaid'. A law counts once. -/
mutual
def uptoBulk {H : Type} : DataW H → Nat
  | .lit (.string bytes) => bytes.length + 1
  | .lit _ => 1
  | .nil => 1
  | .ptr d => uptoBulk d + 1
  | .slice elems spare => uptoBulkAll elems + uptoBulkAll spare + 1
  | .agg parts => uptoBulkAll parts + 1
  | .iface _ d => uptoBulk d + 1
  | .map entries => uptoBulkEntries entries + 1
  | .held _ => 1
def uptoBulkAll {H : Type} : List (DataW H) → Nat
  | [] => 0
  | d :: r => uptoBulk d + uptoBulkAll r
def uptoBulkEntries {H : Type} : List (Lit × DataW H) → Nat
  | [] => 0
  | x :: r => uptoBulkEntry x + uptoBulkEntries r
def uptoBulkEntry {H : Type} : Lit × DataW H → Nat
  | (.string bytes, d) => bytes.length + uptoBulk d + 1
  | (_, d) => uptoBulk d + 1
 end
def uptoSmall : (H : Type) → List (DataW H) → Bool := fun _ ds => decide (uptoBulkAll ds ≤ 1048576)
def OpenSpec.upto (s : _root_.Go.ChangeSpec) : _root_.Go.OpenSpec := { _root_.Go.OpenSpec.ofChange s with cond := some uptoSmall }

/-- 'hayricklaw05.BitsTurns', WHERE WHAT IT READS IS OF BULK AT MOST 1048576: true; the input reads as it did. -/
def bitsTurnsUptoRow : OpenClaim := { program := "ytlpipnpcgancmaadoor", sum := "ad4a807e9ba4a1fb2ea7f9e8e354c72a31ec697b6f800141ce2a10e607090161", func := "hayrick/hayricklaw05.BitsTurns", spec := "bitsTurns", unfollowed := true, recurses := true, named := ["hayrick/wire.fourSteps"], apart := false, laid := [("hayrick/wire.fourSteps", laid_hayrick_wire_fourSteps)], narrowed := true }
def BitsTurnsUptoSaid : Prop := bitsTurnsUptoRow.holds Tryd.pinned (OpenSpec.upto bitsTurnsSpec)

/-- 'hayricklaw05.BitsFinds', WHERE WHAT IT READS IS OF BULK AT MOST 1048576: true; the input reads as it did. -/
def bitsFindsUptoRow : OpenClaim := { program := "ytlpipnpcgancmaadoor", sum := "ad4a807e9ba4a1fb2ea7f9e8e354c72a31ec697b6f800141ce2a10e607090161", func := "hayrick/hayricklaw05.BitsFinds", spec := "bitsFinds", unfollowed := true, recurses := true, named := ["hayrick/wire.fourSteps"], apart := false, laid := [("hayrick/wire.fourSteps", laid_hayrick_wire_fourSteps)], narrowed := true }
def BitsFindsUptoSaid : Prop := bitsFindsUptoRow.holds Tryd.pinned (OpenSpec.upto bitsFindsSpec)

/-- 'hayricklaw05.BitsBuddies', WHERE WHAT IT READS IS OF BULK AT MOST 1048576: true; the input reads as it did. -/
def bitsBuddiesUptoRow : OpenClaim := { program := "ytlpipnpcgancmaadoor", sum := "ad4a807e9ba4a1fb2ea7f9e8e354c72a31ec697b6f800141ce2a10e607090161", func := "hayrick/hayricklaw05.BitsBuddies", spec := "bitsBuddies", unfollowed := true, recurses := true, named := ["hayrick/wire.fourSteps"], apart := false, laid := [("hayrick/wire.fourSteps", laid_hayrick_wire_fourSteps)], narrowed := true }
def BitsBuddiesUptoSaid : Prop := bitsBuddiesUptoRow.holds Tryd.pinned (OpenSpec.upto bitsBuddiesSpec)

/-- 'hayricklaw05.BitsBack', WHERE WHAT IT READS IS OF BULK AT MOST 1048576: true; the input reads as it did. -/
def bitsBackUptoRow : OpenClaim := { program := "ytlpipnpcgancmaadoor", sum := "ad4a807e9ba4a1fb2ea7f9e8e354c72a31ec697b6f800141ce2a10e607090161", func := "hayrick/hayricklaw05.BitsBack", spec := "bitsBack", unfollowed := true, recurses := true, named := ["hayrick/wire.fourSteps"], apart := false, laid := [("hayrick/wire.fourSteps", laid_hayrick_wire_fourSteps)], narrowed := true }
def BitsBackUptoSaid : Prop := bitsBackUptoRow.holds Tryd.pinned (OpenSpec.upto bitsBackSpec)

/-- 'hayricklaw05.BitsGoal', WHERE WHAT IT READS IS OF BULK AT MOST 1048576: true; the input reads as it did. -/
def bitsGoalUptoRow : OpenClaim := { program := "ytlpipnpcgancmaadoor", sum := "ad4a807e9ba4a1fb2ea7f9e8e354c72a31ec697b6f800141ce2a10e607090161", func := "hayrick/hayricklaw05.BitsGoal", spec := "bitsGoal", unfollowed := true, recurses := true, named := ["hayrick/wire.fourSteps"], apart := false, laid := [("hayrick/wire.fourSteps", laid_hayrick_wire_fourSteps)], narrowed := true }
def BitsGoalUptoSaid : Prop := bitsGoalUptoRow.holds Tryd.pinned (OpenSpec.upto bitsGoalSpec)

/-- 'hayricklaw05.BitsRoom', WHERE WHAT IT READS IS OF BULK AT MOST 1048576: true; the input reads as it did. -/
def bitsRoomUptoRow : OpenClaim := { program := "ytlpipnpcgancmaadoor", sum := "ad4a807e9ba4a1fb2ea7f9e8e354c72a31ec697b6f800141ce2a10e607090161", func := "hayrick/hayricklaw05.BitsRoom", spec := "bitsRoom", unfollowed := true, recurses := true, named := ["hayrick/wire.fourSteps"], apart := false, laid := [("hayrick/wire.fourSteps", laid_hayrick_wire_fourSteps)], narrowed := true }
def BitsRoomUptoSaid : Prop := bitsRoomUptoRow.holds Tryd.pinned (OpenSpec.upto bitsRoomSpec)

/-- 'hayricklaw05.BitsTurned', WHERE WHAT IT READS IS OF BULK AT MOST 1048576: true; the input reads as it did. -/
def bitsTurnedUptoRow : OpenClaim := { program := "ytlpipnpcgancmaadoor", sum := "ad4a807e9ba4a1fb2ea7f9e8e354c72a31ec697b6f800141ce2a10e607090161", func := "hayrick/hayricklaw05.BitsTurned", spec := "bitsTurned", unfollowed := true, recurses := true, named := ["hayrick/wire.fourSteps"], apart := false, laid := [("hayrick/wire.fourSteps", laid_hayrick_wire_fourSteps)], narrowed := true }
def BitsTurnedUptoSaid : Prop := bitsTurnedUptoRow.holds Tryd.pinned (OpenSpec.upto bitsTurnedSpec)

end Rows
end Go.Proofs.YtlpipnpcgancmaaDoor
