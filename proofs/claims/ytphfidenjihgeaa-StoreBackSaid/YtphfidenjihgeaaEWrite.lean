/- The store: Write and Hold. -/
import Derived.Test.YtphfidenjihgeaaEPush
import Derived.Deep.RegionLaw
import Derived.Deep.AppendLies
import Derived.Deep.DeepCutAuto
import Derived.StillTailTactics
namespace Go.Proofs.Ytphfidenjihgeaa.EWrite
open Go.RowKit WMem WPlain WAppend Ext Map DPlain DMem Mk DBase DRead DWrite EPlain EMem ECache EFace EUnwrite EPush

theorem infoF : (Try.prog.info? 1).map (fun i => (i.zero, i.size, i.bytes)) = some (some .nilFunc, 1, 8) := by kernel_rfl
theorem underF : Try.prog.underlying 30 = some (.slice 1) := by kernel_rfl
theorem act_func {w : World} {ρ : Ro} {b : Nat} {v : Value} {a : Deed} (h : ActIs w ρ b v a) : ∃ f cs, v = .func (.func f) #[] cs := by
  cases a with
  | unset n => obtain ⟨_, _, h, _⟩ := h; exact ⟨_, _, h⟩
  | set n l => obtain ⟨_, _, _, _, h, _⟩ := h; exact ⟨_, _, h⟩
  | nop => exact ⟨_, _, h⟩
  | free n => obtain ⟨_, _, h, _⟩ := h; exact ⟨_, _, h⟩

theorem SWrite_out (a : Option Addr) (n : Int) (v : Value) (w : World) (hh : Calls Try.prog 30 #[.pointer a, .int .i64 n] w fun e w' => e = .returned (.bool false) ∧ w = w') :
    Calls Try.prog 12 #[.pointer a, .int .i64 n, v] w fun e w' => e = .returned (.int .i64 5) ∧ w = w' := by
  have HH := Lib.hid hh
  clear hh
  go_enter Try.func12, Try.ntmps12
  go_wp2_with (go_at_call 30; refine HH.out.mono ?_; rintro e w' ⟨rfl, rfl⟩)
  go_ret
  exact ⟨rfl, rfl⟩
theorem SWrite_len {w : World} {ρ : Ro} {D : Nat → Prop} {b db n m c : Nat} {s : Sto} (A : Option Addr) (h : Own w ρ D b db s) (hn : n < s.N) (hm : m < 256) :
    Calls Try.prog 12 #[.pointer (some ⟨b, 0, none⟩), .int .i64 n, .slice A m c] w fun e w' => e = .returned (.int .i64 22) ∧ w = w' := by
  have HH := Lib.hid (has_own h hn)
  have h1 : ((m : Int) != 256) = true := by rw [bne_iff_ne]; omega
  clear h
  go_enter Try.func12, Try.ntmps12
  go_wp2_with (go_at_call 30; refine HH.out.mono ?_; rintro e w' ⟨rfl, rfl⟩)
  go_ret
  exact ⟨rfl, rfl⟩

set_option maxRecDepth 100000 in
set_option maxHeartbeats 3200000 in
theorem SWrite_ok {w : World} {ρ : Ro} {D S : Nat → Prop} {b db n : Nat} {s : Sto} {v : Value} {l : Bk} (h : Own w ρ D b db s) (hn : n < s.N) (hv : IsBlk w S v l) (hS : There S w) (hf : Far (Mine ρ) S) (hload : s.load ≤ 1073741824) :
    Calls Try.prog 12 #[.pointer (some ⟨b, 0, none⟩), .int .i64 n, v] w fun e w' => e = .returned (.int .i64 0) ∧ ∃ ρ', Goes w w' ρ D ρ' D b db (s.write n l) := by
  obtain ⟨i0, hi0, hz0, hz1, hz2⟩ := info_parts infoF
  have hN := h.len.2
  have hal : s.acts.length ≤ 1073741824 := by unfold Sto.load at hload; omega
  have hwf := h.wf
  have HU := Lib.hid (unwrite_own (w := w.drew) (h.drewN 1) hn)
  have HH := Lib.hid (has_own h hn)
  obtain ⟨m1, m2, m3, g, Uv, us, hx, -⟩ := h.ss
  have c6 := hx.c6
  have HX := Lib.hid hx
  have HO := Lib.hid h
  have HV := Lib.hid hv
  have HW := Lib.hid hwf
  have HS := Lib.hid hS
  have HF := Lib.hid hf
  have lb : b < w.heap.size := row_lt hx.block
  have AU : Hid (Uv.ownBlock ≠ some b) := own_ne hx.undo.1 hx.block (by decide)
  obtain ⟨A0, cap0, hUv, _, _⟩ := own_cell1 hx.undo
  obtain ⟨gv, cv, rv, rfl, hgv, hl256, hcv, hrv⟩ := id hv
  clear hx hv hwf hS hf h
  subst hUv
  go_enter Try.func12, Try.ntmps12
  go_wp2_with (go_at_call 30; refine HH.out.mono ?_; rintro e w' ⟨rfl, rfl⟩)
  go_upto_region 6 with fail
  go_cut [23] (fun _ wx => ∃ ρ' Uv' us', SSx wx ρ' b db { s with acts := s.acts ++ [Sto.actW s.now n] } m1 m2 m3 g Uv' us' ∧ Same ρ ρ' w ∧ Ext (Mine ρ) w wx)
  case first =>
    go_region_law
      ((first
        | (refine step_append_lies _ (by rfl) _ _ _ (by rfl) 0 1 i0 _ 1 8 underF hi0 hz0 hz1 hz2 rfl (by omega) (.slice A0 s.acts.length cap0) s.acts.length us (by rfl) (HO1.out.alloc _)
            ⟨w1.heap.size, 0, none⟩ 1 1 [.func (.func f1) #[] cs1] (by rfl) (by rfl) (World.news_of_block (cs := #[.func (.func f1) #[] cs1]) (t := 1) (fr := (0, 0)) (row_new w1 _)) (by simp [Value.oneCell'])
            (by omega) (by unfold maxLen; omega) (by omega) (by omega) (w1.heap.size + 1) (by simp) ?_; intro gg cap w2 hown1 hgrow hat hlt2
           have j1 : w2.cell? ⟨b, 6, none⟩ = some (.slice A0 s.acts.length cap0) := (hgrow.cell_far _ (by simp; omega) (Ne.symm AU.out)).trans ((row_cell (row_alloc HB1.out _) 6).trans rfl)
           have j2 : w2.frozen? ⟨b, 6, none⟩ = false := (hgrow.frozen_far _ (by simp; omega) (Ne.symm AU.out)).trans (row_free (row_alloc HB1.out _) 6))
        | (go_simp; go_at_call 34; refine HU.out.mono ?_; rintro e w1 ⟨u, rfl, hact, hb1⟩
           obtain ⟨f1, cs1, rfl⟩ := act_func hact
           have HACT := Lib.hid hact
           have HBB := Lib.hid hb1
           have hsw : w.heap.size ≤ w1.heap.size := hb1.size
           have HB1 := Lib.hid ((hb1.block b lb).trans HX.out.block)
           have j0 : w1.cell? ⟨b, 6, none⟩ = some (.slice A0 s.acts.length cap0) := (row_cell HB1.out 6).trans rfl
           have j3 : ∀ o : Obj, (w1.alloc o).cell? ⟨b, 6, none⟩ = some (.slice A0 s.acts.length cap0) := fun o => (row_cell (row_alloc HB1.out o) 6).trans rfl
           have HO1 := Lib.hid (own_same (w' := w1) HX.out.undo.1 (fun g hg => hb1.block g (own_lt HX.out.undo.1 g hg)))
           clear hact hb1)))
    all_goals
      have hr := push_of HX.out (w1 := w1) ⟨HBB.out.os, HBB.out.tape, HBB.out.output, HBB.out.size, HBB.out.block⟩ HACT.out hown1 hgrow hat
      go_wp2_with fail
      go_meet
      obtain ⟨ρ', q1, q2, q3⟩ := hr
      exact ⟨ρ', _, _, q1, q2, q3⟩
  case rest =>
    obtain ⟨ρ', Uv', us', hx1, hs1, he1⟩ := hcut
    have hv1 : IsBlk wc S (.slice (some ⟨gv, 0, none⟩) 256 cv) l := IsBlk.keep HV.out (fun q o hq _ => he1.block q (HS.out q hq) (fun hm => HF.out q hm hq))
    have HCL := Lib.hid (Clone_blk l S _ wc.drew (IsBlk.keep hv1 (fun _ _ _ _ => rfl)))
    have lb1 : b < wc.heap.size := row_lt hx1.block
    have d1 : wc.cell? ⟨b, 1, none⟩ = some (.map (some m1)) := hx1.c1
    have HX1 := Lib.hid hx1
    have HS1 := Lib.hid hs1
    have HE1 := Lib.hid he1
    clear hx1 hs1 he1 hv1 c6
    go_wp2_with fail
    go_region_law
      ((go_simp; go_at_call 32; refine HCL.out.mono ?_; rintro e w2 ⟨u, rfl, hu, hb2⟩
        obtain ⟨gu, cu, ru, rfl, _⟩ := id hu
        have d2 : w2.cell? ⟨b, 1, none⟩ = some (.map (some m1)) := (hb2.cell (p := ⟨b, 1, none⟩) lb1).trans d1
        have hb2' : Below wc.heap.size wc w2 := ⟨hb2.os, hb2.tape, hb2.output, hb2.size, hb2.block⟩
        have hx2 := SSx.more HX1.out hb2'
        have hu2 : Blk w2 (more ρ' wc.heap.size w2.heap.size) (.slice (some ⟨gu, 0, none⟩) 256 cu) l := hu.more (fun q hq => more_new hq)
        obtain ⟨w3, hrun, hm3, ht3⟩ := hx2.chg.put hn hN hu2 (by intro e; cases e)
        have HX3 := Lib.hid (SSx.chgTurn hx2 hm3 ht3)
        have HB2 := Lib.hid hb2'
        have HT3 := Lib.hid ht3
        clear hu hb2 hb2' hx2 hu2 hm3 ht3))
    all_goals
      clear hrun
      have hx3 := HX3.out
      have e3 : w3.cell? ⟨b, 3, none⟩ = some (.slice (some ⟨g, 0, none⟩) s.cch.length s.cch.length) := hx3.c3
      obtain ⟨hi3, hsh⟩ := Sto.sh_eq s HW.out n
      have hes := HW.out.each _ hi3
      rw [← hsh] at hes
      have HDR := Lib.hid (drop_any b g s.N n _ s.d.readAt s.cch w3 hx3.there e3 hx3.cac HW.out.sh1 HW.out.sh2 (by omega) hes.1 (by have h1 := hes.2.1; have h2 := HW.out.room2; unfold Sto.sh at h1; omega))
      have HX4 := Lib.hid hx3
      clear hx3 hes hsh hi3
      go_wp2_with fail
      refine HDR.out.mono ?_
      rintro e w4 ⟨rfl, hc4, he4⟩
      have s23 : w3.heap.size = w2.heap.size := turned_size HT3.out
      have hsame : Same ρ (more ρ' wc.heap.size w2.heap.size) w := Same.trans HS1.out (same_more _ _ _) HE1.out.size
      have hx4 := SSx.cacTurn HX4.out (by rw [List.length_set]) hc4 he4 (fun _ _ => rfl) (HX4.out.there.up he4.size)
      have hmm : Mine ρ m1 := mine_of HX.out.chg.1 (by intro e; cases e)
      have hext : Ext (Mine ρ) w w4 := ((HE1.out.trans (Ext.of_below HB2.out (Mine ρ)) (fun _ h => .inl h)).trans (ext_turned HT3.out hmm) (fun _ h => .inl h)).trans he4 (in_mine hsame (fun q hq => mine_c hq))
      have HG := Lib.hid (goes_of HO.out hx4 (s' := s.write n l) (HW.out.write hn hl256) rfl hsame hext)
      clear hx4 hext hc4 he4
      go_wp2
      go_ret
      exact ⟨rfl, _, HG.out⟩
end Go.Proofs.Ytphfidenjihgeaa.EWrite
