/- The law JournalNone: a journal that was never made opens nothing and does nothing. -/
import Derived.Test.YtfamocfhonhcgaaGreatDoorMg43
namespace Go.Proofs.YtfamocfhonhcgaaGreatDoor.NLNone
open Go.RowKit WMem WPlain WAppend WCrc WSeal Ext Map DPlain DMem EPlain EMem EFace NPlain NMem NFace NAwake

set_option maxHeartbeats 1000000 in
set_option maxRecDepth 100000 in
theorem none_true (n : Int) (q : Bool) (w : World) (hT : Tab w) : Calls Tryz.prog 4 #[.int .i64 n, .bool q] w fun e w' => e = .returned (.bool true) ∧ Below w.heap.size w w' := by
  have HA := Lib.hid (awake_any w hT)
  clear hT
  go_enter Tryz.func4, Tryz.ntmps4
  go_wp2_with fail
  refine HA.out.mono ?_
  rintro e w1 ⟨rfl, hb1⟩
  have HB1 := Lib.hid hb1
  clear hb1
  go_wp2_with fail
  have hr1 := row_new w1 (.cells #[.pointer none, .pointer none, .int .i64 0, .int .i64 0, .int .i64 0, .int .i64 0, .map none, .map none, .int .i64 0, .int .i64 0, .bool false, .bool false, .slice none 0 0] 60)
  have hr2 := row_new (w1.alloc (.cells #[.pointer none, .pointer none, .int .i64 0, .int .i64 0, .int .i64 0, .int .i64 0, .map none, .map none, .int .i64 0, .int .i64 0, .bool false, .bool false, .slice none 0 0] 60)) (.cells #[.pointer none, .pointer (some ⟨w1.heap.size, 0, none⟩)] 39)
  have hr3 := row_alloc hr1 (.cells #[.pointer none, .pointer (some ⟨w1.heap.size, 0, none⟩)] 39)
  simp only [World.size_alloc] at hr2
  have HBW := Lib.hid ((HB1.out.alloc HB1.out.size (.cells #[.pointer none, .pointer none, .int .i64 0, .int .i64 0, .int .i64 0, .int .i64 0, .map none, .map none, .int .i64 0, .int .i64 0, .bool false, .bool false, .slice none 0 0] 60)).alloc (by have := HB1.out.size; simp; omega) (.cells #[.pointer none, .pointer (some ⟨w1.heap.size, 0, none⟩)] 39))
  generalize (w1.alloc (.cells #[.pointer none, .pointer none, .int .i64 0, .int .i64 0, .int .i64 0, .int .i64 0, .map none, .map none, .int .i64 0, .int .i64 0, .bool false, .bool false, .slice none 0 0] 60)).alloc (.cells #[.pointer none, .pointer (some ⟨w1.heap.size, 0, none⟩)] 39) = W at *
  have r0 : W.cell? ⟨w1.heap.size + 1, 0, none⟩ = some (.pointer none) := (row_cell hr2 0).trans rfl
  have r1 : W.cell? ⟨w1.heap.size + 1, 1, none⟩ = some (.pointer (some ⟨w1.heap.size, 0, none⟩)) := (row_cell hr2 1).trans rfl
  have HZ := Lib.hid (made_zero w1.heap.size W ((row_cell hr3 0).trans rfl))
  have HN := Lib.hid (made_nil W)
  clear hr1 hr2 hr3 HB1 HA
  generalize w1.heap.size = B at *
  go_loopw [8] (fun i wr => ∃ k : Nat, k ≤ 2 ∧ i = .int .i64 k ∧ W = wr) (fun i _ => 2 - (RowKit.intOf i).toNat)
  case atStart => exact ⟨0, by omega, rfl, rfl⟩
  case round =>
    obtain ⟨k, hk, rfl, rfl⟩ := hrel
    have hk3 : k = 0 ∨ k = 1 ∨ k = 2 := by omega
    rcases hk3 with rfl | rfl | rfl
    case inr.inr =>
      go_wp2_with fail
      go_ret
      exact ⟨rfl, HBW.out⟩
    case' inl => have HM := HN
    case' inr.inl => have HM := HZ
    all_goals
      clear HN HZ
      go_wp2_with (first
        | (go_at_call 29; refine (Ask_no _ _ HM.out q).mono ?_; rintro e w' ⟨rfl, rfl⟩)
        | (go_at_call 30; refine (Start_no _ _ HM.out n).mono ?_; rintro e w' ⟨rfl, rfl⟩)
        | (go_at_call 31; refine (Place_no _ _ HM.out).mono ?_; rintro e w' ⟨rfl, rfl⟩)
        | (go_at_call 32; refine (Stop_no _ _ HM.out n).mono ?_; rintro e w' ⟨rfl, rfl⟩)
        | (go_at_call 27; refine (Busy_no _ _ HM.out).mono ?_; rintro e w' ⟨rfl, rfl⟩)
        | (go_at_call 33; refine (May_no _ _ HM.out).mono ?_; rintro e w' ⟨rfl, rfl⟩)
        | (go_at_call 34; refine (Step_no _ _ HM.out).mono ?_; rintro e w' ⟨rfl, rfl⟩)
        | (go_at_call 35; refine (Cap_no _ _ HM.out).mono ?_; rintro e w' ⟨rfl, rfl⟩)
        | (go_at_call 36; refine (Commits_no _ _ HM.out).mono ?_; rintro e w' ⟨rfl, rfl⟩))
      go_roundw
      case rel => first | exact ⟨1, by omega, by go_num, trivial⟩ | exact ⟨2, by omega, by go_num, trivial⟩
      case measure => simp [RowKit.intOf]
end Go.Proofs.YtfamocfhonhcgaaGreatDoor.NLNone
