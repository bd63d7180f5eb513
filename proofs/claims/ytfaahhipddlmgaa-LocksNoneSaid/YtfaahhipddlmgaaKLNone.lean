/- LocksNone holds: whatever the thread, the key and the kind. -/
import Derived.Test.YtfaahhipddlmgaaKLaw
namespace Go.Proofs.Ytfaahhipddlmgaa.KLNone
open Go.RowKit WMem Ext KMap KPlain KMem KSeq KFind KDel KAsk KLeave KClaims KLaw

theorem leave0 (th key : Int) (w : World) : Calls Try.prog 14 #[.pointer none, .int .i64 th, .int .i64 key] w fun e w' => e = .returned (.int .i64 22) ∧ Below w.heap.size w w' := Leave_no none th key [] w (.inl ⟨rfl, rfl⟩) rfl
theorem holds0 (th key : Int) (w : World) : Calls Try.prog 16 #[.pointer none, .int .i64 th, .int .i64 key] w fun e w' => e = .returned (.bool false) ∧ Below w.heap.size w w' := Holds_any none th key [] w (.inl ⟨rfl, rfl⟩)
theorem claims0 (key : Int) (w : World) : Calls Try.prog 18 #[.pointer none, .int .i64 key] w fun e w' => ∃ A c, e = .returned (.slice A 0 c) ∧ Below w.heap.size w w' := by
  refine (claims_any none key [] w (.inl ⟨rfl, rfl⟩) (by decide)).mono ?_
  rintro e w' ⟨v, rfl, ho, hb⟩
  rcases ho.2 with ⟨rfl, h0⟩ | ⟨g, c, _, rfl, _⟩
  · exact ⟨none, 0, rfl, hb⟩
  · exact ⟨_, _, rfl, hb⟩

set_option maxHeartbeats 1600000 in
set_option maxRecDepth 100000 in
theorem none_true (th key : Int) (al : Bool) (w : World) : Calls Try.prog 4 #[.int .i64 th, .int .i64 key, .bool al] w fun e w' => e = .returned (.bool true) ∧ Below w.heap.size w w' := by
  go_enter Try.func4, Try.ntmps4
  go_wp2_with (first
    | (go_at_call 10; refine (awake_any w).mono ?_; rintro e w1 ⟨rfl, hb1⟩; have HB1 := Lib.hid hb1; clear hb1)
    | (go_at_call 12; refine (Ask_nil th key al _).mono ?_; rintro e w2 ⟨rfl, rfl⟩)
    | (go_at_call 14; refine (leave0 th key _).mono ?_; rintro e w3 ⟨rfl, hb3⟩; have HB3 := Lib.hid (below_up HB1.out hb3 HB1.out.size); clear hb3)
    | (go_at_call 16; refine (holds0 th key _).mono ?_; rintro e w4 ⟨rfl, hb4⟩; have HB4 := Lib.hid (below_up HB3.out hb4 HB3.out.size); clear hb4)
    | (go_at_call 18; refine (claims0 key _).mono ?_; rintro e w5 ⟨A, c, rfl, hb5⟩; have HB5 := Lib.hid (below_up HB4.out hb5 HB4.out.size); clear hb5)
    | (go_at_call 20; refine (Free_nil _).mono ?_; rintro e w6 ⟨rfl, rfl⟩))
  go_ret
  exact ⟨rfl, HB5.out⟩
end Go.Proofs.Ytfaahhipddlmgaa.KLNone
