/- The law ClockFloats, walked. -/
import Derived.Test.YthhihcmkjkofhaaFRefTo
import Derived.Test.YthhihcmkjkofhaaFLaws
namespace Go.Proofs.Ythhihcmkjkofhaa.FLFloats
open Go.RowKit FPlain FWord FNear FBits FMath FExp FLd FCut FNano FFrom FCmp FDiv FSec FAwake FFacts FLaws FRefTo

set_option maxHeartbeats 400000 in
theorem floats_true (ns : Int) (h0 : -9223372036854775808 ≤ ns) (h1 : ns ≤ 9223372036854775807) (w : World) : Calls Try.prog 4 #[.int .i64 ns] w fun e w' => e = .returned (.bool true) ∧ ∀ _ : Unit, Below w.heap.size w w' := by
  have HA := Lib.hid (awake_any w)
  have HT := Lib.hid (fun w => To_any ns h0 (by omega) w)
  have HU := Lib.hid (fun w => refTo_any ns h0 (by omega) w)
  generalize toW ns = y at *
  clear h0 h1
  go_enter Try.func4, Try.ntmps4
  go_wp2_with (first
    | (go_at_call 12; (with_reducible refine HA.out.mono ?_); rintro e w1 ⟨rfl, hw1⟩)
    | (go_at_call 19; (with_reducible refine (HT.out _).mono ?_); rintro e w2 ⟨rfl, hw2⟩)
    | (go_at_call 20; (with_reducible refine (HU.out _).mono ?_); rintro e w3 ⟨rfl, hw3⟩))
  go_ret
  exact ⟨rfl, fun _ => ((hw1 _).trans (hw2 _)).trans (hw3.mono (Nat.le_trans (hw1 0).size (hw2 0).size))⟩
end Go.Proofs.Ythhihcmkjkofhaa.FLFloats
