/- The law ClockTimes, walked. -/
import Derived.Test.YthhihcmkjkofhaaFRefFr
namespace Go.Proofs.Ythhihcmkjkofhaa.FLTimes
open Go.RowKit FPlain FWord FNear FBits FMath FExp FLd FCut FNano FFrom FCmp FDiv FSec FAwake FFacts FLaws FRefFr

set_option maxHeartbeats 1000000 in
theorem times_true (x old now : Int) (h0 : 0 ≤ x) (h1 : x ≤ 18446744073709551615) (w : World) : Calls Try.prog 3 #[.int .u64 x, .int .i64 old, .int .i64 now] w fun e w' => e = .returned (.bool true) ∧ ∀ _ : Unit, Below w.heap.size w w' := by
  obtain ⟨n, hx, hn, hb⟩ := toNat_of h0 h1
  have HA := Lib.hid (awake_any w)
  have hF := fun w => From_any n hb w
  have hR := fun w => Resolve_any n hb old now w
  have hG := fun w => refFrom_any n hb w
  unfold FromIs at hF
  unfold ResIs at hR
  unfold RFIs at hG
  have HF := Lib.hid hF
  have HR := Lib.hid hR
  have HG := Lib.hid hG
  have HS := Lib.hid (fun w => refResolve_any n hb old now w)
  generalize resT n old now = t2 at *
  generalize resE n = e2 at *
  generalize fromT n = t1 at *
  generalize fromE n = e1 at *
  clear h0 h1 hF hR hG hb
  go_enter Try.func3, Try.ntmps3
  go_wp2_with (first
    | (go_at_call 12; (with_reducible refine HA.out.mono ?_); rintro e w1 ⟨rfl, hw1⟩)
    | (go_at_call 14; (with_reducible refine (HF.out _).mono ?_); rintro e w2 ⟨rfl, hw2⟩)
    | (go_at_call 15; (with_reducible refine (HG.out _).mono ?_); rintro e w3 ⟨rfl, hw3⟩)
    | (go_at_call 16; (with_reducible refine (HR.out _).mono ?_); rintro e w4 ⟨rfl, hw4⟩)
    | (go_at_call 17; (with_reducible refine (HS.out _).mono ?_); rintro e w5 ⟨rfl, hw5⟩))
  go_ret
  have s1 := (hw1 0).size
  have s2 := (hw2 0).size
  have s3 := hw3.size
  have s4 := (hw4 0).size
  exact ⟨ret_b (by simp), fun _ => ((((hw1 _).trans (hw2 _)).trans (hw3.mono (by omega))).trans (hw4 _)).trans (hw5.mono (by omega))⟩
end Go.Proofs.Ythhihcmkjkofhaa.FLTimes
