/-
  NARROWER THAN 'FOR EVERY INPUT', by the rows' own cells (each row's printed sentence says how): LogRecords: laid · LogLays: laid · LogEscapes: laid · LogBack: laid · LogTold: laid · LogOnly: laid · LogNeeds: laid.
  DERIVED. THE GIVEN ROWS OF THIS SEAT. 7 by the template 'for every input the law returns true; each argument reads behind the call as it read before'; 0 by the template 'total and deterministic' (their statements: YtgegmoejhnjhjaaDoorTotals.lean).
  GIVEN WITH THE SEED: the statements are not yours to turn. If you find one false, say at which input.
  Laid BY PROGRAM, IN A SANDBOX (cutbox-rows.mjs): the forced cells as the released guide's own fill.sh prints them over the translation 4a96d1fb520658dc… (all of the seat's roots in one cut). By AI agents, Wed Nov 11 2026. No macro, syntax, notation, axiom, sorry.
-/
import Derived.Test.YtgegmoejhnjhjaaDoorChecked
import GoSem.Claim
import GoSem.ClaimJoined
import GoSem.ClaimMapViews
import Derived.JoinedTies
import Derived.KernelRfl
namespace Go.Proofs.YtgegmoejhnjhjaaDoor
/- THE CELL 'sum', in the pinned program and in every row, IS THE sha256 OF THE DUMP (.gsa) THAT YtgegmoejhnjhjaaDoorProg.lean LOADS. Nothing in Lean hashes anything: it is a label: what it is worth is what the hold of that sum in a sandbox is worth. -/
noncomputable def Tryd.pinned : Pinned := { name := "ytgegmoejhnjhjaadoor", sum := "4a96d1fb520658dc63c4ae576b3acc04f301da0c49ac99b0c35806cf8bc5d982", checked := Tryd.checked }
namespace Rows
def none {H : Type} : Left H := { results := [], args := [] }

/- WHAT THE LISTED PACKAGE-LEVEL VARIABLES READ AS WHEN THE CALL BEGINS. Each datum BY PROGRAM (the guide's laid-datum.mjs) off the statement by which the dump's own 'gosem.cut.vars' lays the variable. In a bare row this is a premise. The card (YtgegmoejhnjhjaaDoorCards.lean) ties it to the program's text. -/
def laid_hayrick_wire_fourSteps {H : Type} : DataW H := .agg [.lit (.int .u32 0), .lit (.int .u32 274646895), .lit (.int .u32 549293790), .lit (.int .u32 820201905), .lit (.int .u32 1098587580), .lit (.int .u32 1361435347), .lit (.int .u32 1640403810), .lit (.int .u32 1905808397), .lit (.int .u32 2197175160), .lit (.int .u32 2460548119), .lit (.int .u32 2722870694), .lit (.int .u32 2987750089), .lit (.int .u32 3280807620), .lit (.int .u32 3553878443), .lit (.int .u32 3811616794), .lit (.int .u32 4084100981)]

/-- 'hayricklaw07.LogRecords': WHATEVER THE INPUT: true; the input reads as it did. -/
def logRecordsSpec : ChangeSpec := { name := "logRecords", fn := fun _ => fun
  | [d1, d2] => { results := [.lit (.bool true)], args := [d1, d2] }
  | _ => none }
def logRecordsRow : OpenClaim := { program := "ytgegmoejhnjhjaadoor", sum := "4a96d1fb520658dc63c4ae576b3acc04f301da0c49ac99b0c35806cf8bc5d982", func := "hayrick/hayricklaw07.LogRecords", spec := "logRecords", unfollowed := true, recurses := true, named := ["hayrick/wire.fourSteps"], apart := false, laid := [("hayrick/wire.fourSteps", laid_hayrick_wire_fourSteps)] }
def LogRecordsSaid : Prop := logRecordsRow.holds Tryd.pinned (OpenSpec.ofChange logRecordsSpec)

/-- ITS FALSE NEIGHBOUR: 'it returns false'. Refute it at one input. -/
def logRecordsWrong : ChangeSpec := { name := "logRecords", fn := fun _ => fun
  | [d1, d2] => { results := [.lit (.bool false)], args := [d1, d2] }
  | _ => none }
def LogRecordsWrongFalsely : Prop := logRecordsRow.holds Tryd.pinned (OpenSpec.ofChange logRecordsWrong)

/-- 'hayricklaw07.LogLays': WHATEVER THE INPUT: true; the input reads as it did. -/
def logLaysSpec : ChangeSpec := { name := "logLays", fn := fun _ => fun
  | [d1, d2, d3] => { results := [.lit (.bool true)], args := [d1, d2, d3] }
  | _ => none }
def logLaysRow : OpenClaim := { program := "ytgegmoejhnjhjaadoor", sum := "4a96d1fb520658dc63c4ae576b3acc04f301da0c49ac99b0c35806cf8bc5d982", func := "hayrick/hayricklaw07.LogLays", spec := "logLays", unfollowed := true, recurses := true, named := ["hayrick/wire.fourSteps"], apart := false, laid := [("hayrick/wire.fourSteps", laid_hayrick_wire_fourSteps)] }
def LogLaysSaid : Prop := logLaysRow.holds Tryd.pinned (OpenSpec.ofChange logLaysSpec)

/-- ITS FALSE NEIGHBOUR: 'it returns false'. Refute it at one input. -/
def logLaysWrong : ChangeSpec := { name := "logLays", fn := fun _ => fun
  | [d1, d2, d3] => { results := [.lit (.bool false)], args := [d1, d2, d3] }
  | _ => none }
def LogLaysWrongFalsely : Prop := logLaysRow.holds Tryd.pinned (OpenSpec.ofChange logLaysWrong)

/-- 'hayricklaw07.LogEscapes': WHATEVER THE INPUT: true; the input reads as it did. -/
def logEscapesSpec : ChangeSpec := { name := "logEscapes", fn := fun _ => fun
  | [d] => { results := [.lit (.bool true)], args := [d] }
  | _ => none }
def logEscapesRow : OpenClaim := { program := "ytgegmoejhnjhjaadoor", sum := "4a96d1fb520658dc63c4ae576b3acc04f301da0c49ac99b0c35806cf8bc5d982", func := "hayrick/hayricklaw07.LogEscapes", spec := "logEscapes", unfollowed := true, recurses := true, named := ["hayrick/wire.fourSteps"], apart := false, laid := [("hayrick/wire.fourSteps", laid_hayrick_wire_fourSteps)] }
def LogEscapesSaid : Prop := logEscapesRow.holds Tryd.pinned (OpenSpec.ofChange logEscapesSpec)

/-- ITS FALSE NEIGHBOUR: 'it returns false'. Refute it at one input. -/
def logEscapesWrong : ChangeSpec := { name := "logEscapes", fn := fun _ => fun
  | [d] => { results := [.lit (.bool false)], args := [d] }
  | _ => none }
def LogEscapesWrongFalsely : Prop := logEscapesRow.holds Tryd.pinned (OpenSpec.ofChange logEscapesWrong)

/-- 'hayricklaw07.LogBack': WHATEVER THE INPUT: true; the input reads as it did. -/
def logBackSpec : ChangeSpec := { name := "logBack", fn := fun _ => fun
  | [d1, d2] => { results := [.lit (.bool true)], args := [d1, d2] }
  | _ => none }
def logBackRow : OpenClaim := { program := "ytgegmoejhnjhjaadoor", sum := "4a96d1fb520658dc63c4ae576b3acc04f301da0c49ac99b0c35806cf8bc5d982", func := "hayrick/hayricklaw07.LogBack", spec := "logBack", unfollowed := true, recurses := true, named := ["hayrick/wire.fourSteps"], apart := false, laid := [("hayrick/wire.fourSteps", laid_hayrick_wire_fourSteps)] }
def LogBackSaid : Prop := logBackRow.holds Tryd.pinned (OpenSpec.ofChange logBackSpec)

/-- ITS FALSE NEIGHBOUR: 'it returns false'. Refute it at one input. -/
def logBackWrong : ChangeSpec := { name := "logBack", fn := fun _ => fun
  | [d1, d2] => { results := [.lit (.bool false)], args := [d1, d2] }
  | _ => none }
def LogBackWrongFalsely : Prop := logBackRow.holds Tryd.pinned (OpenSpec.ofChange logBackWrong)

/-- 'hayricklaw07.LogTold': WHATEVER THE INPUT: true; the input reads as it did. -/
def logToldSpec : ChangeSpec := { name := "logTold", fn := fun _ => fun
  | [d1, d2, d3, d4, d5] => { results := [.lit (.bool true)], args := [d1, d2, d3, d4, d5] }
  | _ => none }
def logToldRow : OpenClaim := { program := "ytgegmoejhnjhjaadoor", sum := "4a96d1fb520658dc63c4ae576b3acc04f301da0c49ac99b0c35806cf8bc5d982", func := "hayrick/hayricklaw07.LogTold", spec := "logTold", unfollowed := true, recurses := true, named := ["hayrick/wire.fourSteps"], apart := false, laid := [("hayrick/wire.fourSteps", laid_hayrick_wire_fourSteps)] }
def LogToldSaid : Prop := logToldRow.holds Tryd.pinned (OpenSpec.ofChange logToldSpec)

/-- ITS FALSE NEIGHBOUR: 'it returns false'. Refute it at one input. -/
def logToldWrong : ChangeSpec := { name := "logTold", fn := fun _ => fun
  | [d1, d2, d3, d4, d5] => { results := [.lit (.bool false)], args := [d1, d2, d3, d4, d5] }
  | _ => none }
def LogToldWrongFalsely : Prop := logToldRow.holds Tryd.pinned (OpenSpec.ofChange logToldWrong)

/-- 'hayricklaw07.LogOnly': WHATEVER THE INPUT: true; the input reads as it did. -/
def logOnlySpec : ChangeSpec := { name := "logOnly", fn := fun _ => fun
  | [d] => { results := [.lit (.bool true)], args := [d] }
  | _ => none }
def logOnlyRow : OpenClaim := { program := "ytgegmoejhnjhjaadoor", sum := "4a96d1fb520658dc63c4ae576b3acc04f301da0c49ac99b0c35806cf8bc5d982", func := "hayrick/hayricklaw07.LogOnly", spec := "logOnly", unfollowed := true, recurses := true, named := ["hayrick/wire.fourSteps"], apart := false, laid := [("hayrick/wire.fourSteps", laid_hayrick_wire_fourSteps)] }
def LogOnlySaid : Prop := logOnlyRow.holds Tryd.pinned (OpenSpec.ofChange logOnlySpec)

/-- ITS FALSE NEIGHBOUR: 'it returns false'. Refute it at one input. -/
def logOnlyWrong : ChangeSpec := { name := "logOnly", fn := fun _ => fun
  | [d] => { results := [.lit (.bool false)], args := [d] }
  | _ => none }
def LogOnlyWrongFalsely : Prop := logOnlyRow.holds Tryd.pinned (OpenSpec.ofChange logOnlyWrong)

/-- 'hayricklaw07.LogNeeds': WHATEVER THE INPUT: true; the input reads as it did. -/
def logNeedsSpec : ChangeSpec := { name := "logNeeds", fn := fun _ => fun
  | [d1, d2, d3, d4] => { results := [.lit (.bool true)], args := [d1, d2, d3, d4] }
  | _ => none }
def logNeedsRow : OpenClaim := { program := "ytgegmoejhnjhjaadoor", sum := "4a96d1fb520658dc63c4ae576b3acc04f301da0c49ac99b0c35806cf8bc5d982", func := "hayrick/hayricklaw07.LogNeeds", spec := "logNeeds", unfollowed := true, recurses := true, named := ["hayrick/wire.fourSteps"], apart := false, laid := [("hayrick/wire.fourSteps", laid_hayrick_wire_fourSteps)] }
def LogNeedsSaid : Prop := logNeedsRow.holds Tryd.pinned (OpenSpec.ofChange logNeedsSpec)

/-- ITS FALSE NEIGHBOUR: 'it returns false'. Refute it at one input. -/
def logNeedsWrong : ChangeSpec := { name := "logNeeds", fn := fun _ => fun
  | [d1, d2, d3, d4] => { results := [.lit (.bool false)], args := [d1, d2, d3, d4] }
  | _ => none }
def LogNeedsWrongFalsely : Prop := logNeedsRow.holds Tryd.pinned (OpenSpec.ofChange logNeedsWrong)

/- THE SECOND FORM. 'bulk': how many values and letters a reading holds, each counted each time it is reached (what is shared counts as often as it is met; a slice's spare places count too). A statement '..UptoSaid' is the law's where the arguments, and the package variables that the reading takes, are together of bulk at most 1048576: NARROWER than '..Said'. Prove '..Said' where nothing that the law and all that it calls make is longer than what came in: it says more and counts as full. Else prove '..UptoSaid'. A law counts once. -/
mutual
def uptoBulk {H : Type} : DataW H → Nat
  | .lit (.string bytes) => bytes.length + 1
  | .lit _ => 1
  | .nil => 1
  | .ptr d => uptoBulk d + 1
  | .slice elems spare => uptoBulkAll elems + uptoBulkAll spare + 1
  | .agg parts => uptoBulkAll parts + 1
  | .iface _ d => uptoBulk d + 1
  | .map entries => uptoBulkEntries entries + 1
  | .held _ => 1
def uptoBulkAll {H : Type} : List (DataW H) → Nat
  | [] => 0
  | d :: r => uptoBulk d + uptoBulkAll r
def uptoBulkEntries {H : Type} : List (Lit × DataW H) → Nat
  | [] => 0
  | x :: r => uptoBulkEntry x + uptoBulkEntries r
def uptoBulkEntry {H : Type} : Lit × DataW H → Nat
  | (.string bytes, d) => bytes.length + uptoBulk d + 1
  | (_, d) => uptoBulk d + 1
 end
def uptoSmall : (H : Type) → List (DataW H) → Bool := fun _ ds => decide (uptoBulkAll ds ≤ 1048576)
def OpenSpec.upto (s : _root_.Go.ChangeSpec) : _root_.Go.OpenSpec := { _root_.Go.OpenSpec.ofChange s with cond := some uptoSmall }

/-- 'hayricklaw07.LogRecords', WHERE WHAT IT READS IS OF BULK AT MOST 1048576: true; the input reads as it did. -/
def logRecordsUptoRow : OpenClaim := { program := "ytgegmoejhnjhjaadoor", sum := "4a96d1fb520658dc63c4ae576b3acc04f301da0c49ac99b0c35806cf8bc5d982", func := "hayrick/hayricklaw07.LogRecords", spec := "logRecords", unfollowed := true, recurses := true, named := ["hayrick/wire.fourSteps"], apart := false, laid := [("hayrick/wire.fourSteps", laid_hayrick_wire_fourSteps)], narrowed := true }
def LogRecordsUptoSaid : Prop := logRecordsUptoRow.holds Tryd.pinned (OpenSpec.upto logRecordsSpec)

/-- 'hayricklaw07.LogLays', WHERE WHAT IT READS IS OF BULK AT MOST 1048576: true; the input reads as it did. -/
def logLaysUptoRow : OpenClaim := { program := "ytgegmoejhnjhjaadoor", sum := "4a96d1fb520658dc63c4ae576b3acc04f301da0c49ac99b0c35806cf8bc5d982", func := "hayrick/hayricklaw07.LogLays", spec := "logLays", unfollowed := true, recurses := true, named := ["hayrick/wire.fourSteps"], apart := false, laid := [("hayrick/wire.fourSteps", laid_hayrick_wire_fourSteps)], narrowed := true }
def LogLaysUptoSaid : Prop := logLaysUptoRow.holds Tryd.pinned (OpenSpec.upto logLaysSpec)

/-- 'hayricklaw07.LogEscapes', WHERE WHAT IT READS IS OF BULK AT MOST 1048576: true; the input reads as it did. -/
def logEscapesUptoRow : OpenClaim := { program := "ytgegmoejhnjhjaadoor", sum := "4a96d1fb520658dc63c4ae576b3acc04f301da0c49ac99b0c35806cf8bc5d982", func := "hayrick/hayricklaw07.LogEscapes", spec := "logEscapes", unfollowed := true, recurses := true, named := ["hayrick/wire.fourSteps"], apart := false, laid := [("hayrick/wire.fourSteps", laid_hayrick_wire_fourSteps)], narrowed := true }
def LogEscapesUptoSaid : Prop := logEscapesUptoRow.holds Tryd.pinned (OpenSpec.upto logEscapesSpec)

/-- 'hayricklaw07.LogBack', WHERE WHAT IT READS IS OF BULK AT MOST 1048576: true; the input reads as it did. -/
def logBackUptoRow : OpenClaim := { program := "ytgegmoejhnjhjaadoor", sum := "4a96d1fb520658dc63c4ae576b3acc04f301da0c49ac99b0c35806cf8bc5d982", func := "hayrick/hayricklaw07.LogBack", spec := "logBack", unfollowed := true, recurses := true, named := ["hayrick/wire.fourSteps"], apart := false, laid := [("hayrick/wire.fourSteps", laid_hayrick_wire_fourSteps)], narrowed := true }
def LogBackUptoSaid : Prop := logBackUptoRow.holds Tryd.pinned (OpenSpec.upto logBackSpec)

/-- 'hayricklaw07.LogTold', WHERE WHAT IT READS IS OF BULK AT MOST 1048576: true; the input reads as it did. -/
def logToldUptoRow : OpenClaim := { program := "ytgegmoejhnjhjaadoor", sum := "4a96d1fb520658dc63c4ae576b3acc04f301da0c49ac99b0c35806cf8bc5d982", func := "hayrick/hayricklaw07.LogTold", spec := "logTold", unfollowed := true, recurses := true, named := ["hayrick/wire.fourSteps"], apart := false, laid := [("hayrick/wire.fourSteps", laid_hayrick_wire_fourSteps)], narrowed := true }
def LogToldUptoSaid : Prop := logToldUptoRow.holds Tryd.pinned (OpenSpec.upto logToldSpec)

/-- 'hayricklaw07.LogOnly', WHERE WHAT IT READS IS OF BULK AT MOST 1048576: true; the input reads as it did. -/
def logOnlyUptoRow : OpenClaim := { program := "ytgegmoejhnjhjaadoor", sum := "4a96d1fb520658dc63c4ae576b3acc04f301da0c49ac99b0c35806cf8bc5d982", func := "hayrick/hayricklaw07.LogOnly", spec := "logOnly", unfollowed := true, recurses := true, named := ["hayrick/wire.fourSteps"], apart := false, laid := [("hayrick/wire.fourSteps", laid_hayrick_wire_fourSteps)], narrowed := true }
def LogOnlyUptoSaid : Prop := logOnlyUptoRow.holds Tryd.pinned (OpenSpec.upto logOnlySpec)

/-- 'hayricklaw07.LogNeeds', WHERE WHAT IT READS IS OF BULK AT MOST 1048576: true; the input reads as it did. -/
def logNeedsUptoRow : OpenClaim := { program := "ytgegmoejhnjhjaadoor", sum := "4a96d1fb520658dc63c4ae576b3acc04f301da0c49ac99b0c35806cf8bc5d982", func := "hayrick/hayricklaw07.LogNeeds", spec := "logNeeds", unfollowed := true, recurses := true, named := ["hayrick/wire.fourSteps"], apart := false, laid := [("hayrick/wire.fourSteps", laid_hayrick_wire_fourSteps)], narrowed := true }
def LogNeedsUptoSaid : Prop := logNeedsUptoRow.holds Tryd.pinned (OpenSpec.upto logNeedsSpec)

end Rows
end Go.Proofs.YtgegmoejhnjhjaaDoor
