/- The store: Hold. -/
import Derived.Test.YtphfidenjihgeaaEWrite
namespace Go.Proofs.Ytphfidenjihgeaa.EHold
open Go.RowKit WMem WPlain WAppend Ext Map DPlain DMem Mk DBase DRead DWrite EPlain EMem ECache EFace EUnwrite EPush EWrite

theorem Hold_out (a : Option Addr) (n : Int) (w : World) (hh : Calls Try.prog 30 #[.pointer a, .int .i64 n] w fun e w' => e = .returned (.bool false) ∧ w = w') :
    Calls Try.prog 14 #[.pointer a, .int .i64 n] w fun e w' => e = .returned (.int .i64 22) ∧ w = w' := by
  have HH := Lib.hid hh
  clear hh
  go_enter Try.func14, Try.ntmps14
  go_wp2_with (go_at_call 30; refine HH.out.mono ?_; rintro e w' ⟨rfl, rfl⟩)
  go_ret
  exact ⟨rfl, rfl⟩

set_option maxRecDepth 100000 in
set_option maxHeartbeats 3200000 in
theorem Hold_ok {w : World} {ρ : Ro} {D : Nat → Prop} {b db n : Nat} {s : Sto} (h : Own w ρ D b db s) (hn : n < s.N) (hload : s.load ≤ 1073741824) :
    Calls Try.prog 14 #[.pointer (some ⟨b, 0, none⟩), .int .i64 n] w fun e w' => e = .returned (.int .i64 0) ∧ ∃ ρ', Goes w w' ρ D ρ' D b db (s.hold n) := by
  obtain ⟨i0, hi0, hz0, hz1, hz2⟩ := info_parts infoF
  have hN := h.len.2
  have hal : s.acts.length ≤ 1073741824 := by unfold Sto.load at hload; omega
  have hwf := h.wf
  have HU := Lib.hid (unhold_own (w := w.drew) (h.drewN 1) hn)
  have HH := Lib.hid (has_own h hn)
  obtain ⟨m1, m2, m3, g, Uv, us, hx, -⟩ := h.ss
  have c6 := hx.c6
  have HX := Lib.hid hx
  have HO := Lib.hid h
  have HW := Lib.hid hwf
  have lb : b < w.heap.size := row_lt hx.block
  have AU : Hid (Uv.ownBlock ≠ some b) := own_ne hx.undo.1 hx.block (by decide)
  obtain ⟨A0, cap0, hUv, _, _⟩ := own_cell1 hx.undo
  clear hx hwf h
  subst hUv
  go_enter Try.func14, Try.ntmps14
  go_wp2_with (go_at_call 30; refine HH.out.mono ?_; rintro e w' ⟨rfl, rfl⟩)
  go_upto_region 4 with fail
  go_cut [18] (fun _ wx => ∃ ρ' Uv' us', SSx wx ρ' b db { s with acts := s.acts ++ [Sto.actH s.now n] } m1 m2 m3 g Uv' us' ∧ Same ρ ρ' w ∧ Ext (Mine ρ) w wx)
  case first =>
    go_region_law
      ((first
        | (refine step_append_lies _ (by rfl) _ _ _ (by rfl) 0 1 i0 _ 1 8 underF hi0 hz0 hz1 hz2 rfl (by omega) (.slice A0 s.acts.length cap0) s.acts.length us (by rfl) (HO1.out.alloc _)
            ⟨w1.heap.size, 0, none⟩ 1 1 [.func (.func f1) #[] cs1] (by rfl) (by rfl) (World.news_of_block (cs := #[.func (.func f1) #[] cs1]) (t := 1) (fr := (0, 0)) (row_new w1 _)) (by simp [Value.oneCell'])
            (by omega) (by unfold maxLen; omega) (by omega) (by omega) (w1.heap.size + 1) (by simp) ?_; intro gg cap w2 hown1 hgrow hat hlt2
           have j1 : w2.cell? ⟨b, 6, none⟩ = some (.slice A0 s.acts.length cap0) := (hgrow.cell_far _ (by simp; omega) (Ne.symm AU.out)).trans ((row_cell (row_alloc HB1.out _) 6).trans rfl)
           have j2 : w2.frozen? ⟨b, 6, none⟩ = false := (hgrow.frozen_far _ (by simp; omega) (Ne.symm AU.out)).trans (row_free (row_alloc HB1.out _) 6))
        | (go_simp; go_at_call 36; refine HU.out.mono ?_; rintro e w1 ⟨u, rfl, hact, hb1⟩
           obtain ⟨f1, cs1, rfl⟩ := act_func hact
           have HACT := Lib.hid hact
           have HBB := Lib.hid hb1
           have hsw : w.heap.size ≤ w1.heap.size := hb1.size
           have HB1 := Lib.hid ((hb1.block b lb).trans HX.out.block)
           have j0 : w1.cell? ⟨b, 6, none⟩ = some (.slice A0 s.acts.length cap0) := (row_cell HB1.out 6).trans rfl
           have j3 : ∀ o : Obj, (w1.alloc o).cell? ⟨b, 6, none⟩ = some (.slice A0 s.acts.length cap0) := fun o => (row_cell (row_alloc HB1.out o) 6).trans rfl
           have HO1 := Lib.hid (own_same (w' := w1) HX.out.undo.1 (fun g hg => hb1.block g (own_lt HX.out.undo.1 g hg)))
           clear hact hb1)))
    all_goals
      have hr := push_of HX.out (w1 := w1) ⟨HBB.out.os, HBB.out.tape, HBB.out.output, HBB.out.size, HBB.out.block⟩ HACT.out hown1 hgrow hat
      go_wp2_with fail
      go_meet
      obtain ⟨ρ', q1, q2, q3⟩ := hr
      exact ⟨ρ', _, _, q1, q2, q3⟩
  case rest =>
    obtain ⟨ρ', Uv', us', hx1, hs1, he1⟩ := hcut
    have d5 : wc.cell? ⟨b, 5, none⟩ = some (.map (some m3)) := hx1.c5
    obtain ⟨w3, hrun, hm3, ht3⟩ := hx1.hld.put hn hN
    have hmm : Mine ρ m3 := mine_of HX.out.hld.1 (by intro e; cases e)
    have hx3 := SSx.hldTurn hx1 hm3 ht3
    have hext : Ext (Mine ρ) w w3 := he1.trans (ext_turned ht3 hmm) (fun _ h => .inl h)
    have HG := Lib.hid (goes_of HO.out hx3 (s' := s.hold n) (HW.out.hold hn) rfl hs1 hext)
    clear hx1 hs1 he1 hm3 ht3 hx3 hext c6
    go_wp2
    go_ret
    exact ⟨rfl, _, HG.out⟩
end Go.Proofs.Ytphfidenjihgeaa.EHold
