/- The store: Write and Hold. -/
import Derived.Test.YtgjcbfdhpbkhoaaGreatDoorMg40
import Derived.Deep.RegionLaw
import Derived.Deep.AppendLies
import Derived.Deep.DeepCutAuto
import Derived.StillTailTactics
namespace Go.Proofs.YtgjcbfdhpbkhoaaGreatDoor.EWrite
open Go.RowKit WMem WPlain WAppend Ext Map DPlain DMem Mk DBase DRead DWrite EPlain EMem ECache EFace EUnwrite EPush
theorem infoF : (Tryz.prog.info? 1).map (fun i => (i.zero, i.size, i.bytes)) = some (some .nilFunc, 1, 8) := by kernel_rfl
theorem underF : Tryz.prog.underlying 107 = some (.slice 1) := by kernel_rfl
theorem act_func {w : World} {ρ : Ro} {b : Nat} {v : Value} {a : Deed} (h : ActIs w ρ b v a) : ∃ f cs, v = .func (.func f) #[] cs := by
  cases a with
  | unset n => obtain ⟨_, _, h, _⟩ := h; exact ⟨_, _, h⟩
  | set n l => obtain ⟨_, _, _, _, h, _⟩ := h; exact ⟨_, _, h⟩
  | nop => exact ⟨_, _, h⟩
  | free n => obtain ⟨_, _, h, _⟩ := h; exact ⟨_, _, h⟩
set_option maxRecDepth 100000 in
set_option maxHeartbeats 3200000 in
theorem SWrite_ok {w : World} {ρ : Ro} {D S : Nat → Prop} {b db n : Nat} {s : Sto} {v : Value} {l : Bk} (h : Own w ρ D b db s) (hn : n < s.N) (hv : IsBlk w S v l) (hS : There S w) (hf : Far (Mine ρ) S) (hload : s.load ≤ 1073741824) :
    Calls Tryz.prog 68 #[.pointer (some ⟨b, 0, none⟩), .int .i64 n, v] w fun e w' => e = .returned (.int .i64 0) ∧ ∃ ρ', Goes w w' ρ D ρ' D b db (s.write n l) := by
  obtain ⟨i0, hi0, hz0, hz1, hz2⟩ := info_parts infoF
  have hN := h.len.2
  have hal : s.acts.length ≤ 1073741824 := by unfold Sto.load at hload; omega
  have hwf := h.wf
  have HU := Lib.hid (unwrite_own (w := w.drew) (h.drewN 1) hn)
  have HH := Lib.hid (has_own h hn)
  obtain ⟨m1, m2, m3, g, Uv, us, hx, -⟩ := h.ss
  have c6 := hx.c6
  have HX := Lib.hid hx
  have HO := Lib.hid h
  have HV := Lib.hid hv
  have HW := Lib.hid hwf
  have HS := Lib.hid hS
  have HF := Lib.hid hf
  have lb : b < w.heap.size := row_lt hx.block
  have AU : Hid (Uv.ownBlock ≠ some b) := own_ne hx.undo.1 hx.block (by decide)
  obtain ⟨A0, cap0, hUv, _, _⟩ := own_cell1 hx.undo
  obtain ⟨gv, cv, rv, rfl, hgv, hl256, hcv, hrv⟩ := id hv
  clear hx hv hwf hS hf h
  subst hUv
  go_enter Tryz.func68, Tryz.ntmps68
  go_wp2_with (go_at_call 100; refine HH.out.mono ?_; rintro e w' ⟨rfl, rfl⟩)
  go_upto_region 6 with fail
  go_cut [23] (fun _ wx => ∃ ρ' Uv' us', SSx wx ρ' b db { s with acts := s.acts ++ [Sto.actW s.now n] } m1 m2 m3 g Uv' us' ∧ Same ρ ρ' w ∧ Ext (Mine ρ) w wx)
  case first =>
    go_region_law
      ((first
        | (refine step_append_lies _ (by rfl) _ _ _ (by rfl) 0 1 i0 _ 1 8 underF hi0 hz0 hz1 hz2 rfl (by omega) (.slice A0 s.acts.length cap0) s.acts.length us (by rfl) (HO1.out.alloc _)
            ⟨w1.heap.size, 0, none⟩ 1 1 [.func (.func f1) #[] cs1] (by rfl) (by rfl) (World.news_of_block (cs := #[.func (.func f1) #[] cs1]) (t := 1) (fr := (0, 0)) (row_new w1 _)) (by simp [Value.oneCell'])
            (by omega) (by unfold maxLen; omega) (by omega) (by omega) (w1.heap.size + 1) (by simp) ?_; intro gg cap w2 hown1 hgrow hat hlt2
           have j1 : w2.cell? ⟨b, 6, none⟩ = some (.slice A0 s.acts.length cap0) := (hgrow.cell_far _ (by simp; omega) (Ne.symm AU.out)).trans ((row_cell (row_alloc HB1.out _) 6).trans rfl)
           have j2 : w2.frozen? ⟨b, 6, none⟩ = false := (hgrow.frozen_far _ (by simp; omega) (Ne.symm AU.out)).trans (row_free (row_alloc HB1.out _) 6))
        | (go_simp; go_at_call 101; refine HU.out.mono ?_; rintro e w1 ⟨u, rfl, hact, hb1⟩
           obtain ⟨f1, cs1, rfl⟩ := act_func hact
           have HACT := Lib.hid hact
           have HBB := Lib.hid hb1
           have hsw : w.heap.size ≤ w1.heap.size := hb1.size
           have HB1 := Lib.hid ((hb1.block b lb).trans HX.out.block)
           have j0 : w1.cell? ⟨b, 6, none⟩ = some (.slice A0 s.acts.length cap0) := (row_cell HB1.out 6).trans rfl
           have j3 : ∀ o : Obj, (w1.alloc o).cell? ⟨b, 6, none⟩ = some (.slice A0 s.acts.length cap0) := fun o => (row_cell (row_alloc HB1.out o) 6).trans rfl
           have HO1 := Lib.hid (own_same (w' := w1) HX.out.undo.1 (fun g hg => hb1.block g (own_lt HX.out.undo.1 g hg)))
           clear hact hb1)))
    all_goals
      have hr := push_of HX.out (w1 := w1) ⟨HBB.out.os, HBB.out.tape, HBB.out.output, HBB.out.size, HBB.out.block⟩ HACT.out hown1 hgrow hat
      go_wp2_with fail
      go_meet
      obtain ⟨ρ', q1, q2, q3⟩ := hr
      exact ⟨ρ', _, _, q1, q2, q3⟩
  case rest =>
    obtain ⟨ρ', Uv', us', hx1, hs1, he1⟩ := hcut
    have hv1 : IsBlk wc S (.slice (some ⟨gv, 0, none⟩) 256 cv) l := IsBlk.keep HV.out (fun q o hq _ => he1.block q (HS.out q hq) (fun hm => HF.out q hm hq))
    have HCL := Lib.hid (Clone_blk l S _ wc.drew (IsBlk.keep hv1 (fun _ _ _ _ => rfl)))
    have lb1 : b < wc.heap.size := row_lt hx1.block
    have d1 : wc.cell? ⟨b, 1, none⟩ = some (.map (some m1)) := hx1.c1
    have HX1 := Lib.hid hx1
    have HS1 := Lib.hid hs1
    have HE1 := Lib.hid he1
    clear hx1 hs1 he1 hv1 c6
    go_wp2_with fail
    go_region_law
      ((go_simp; go_at_call 51; refine HCL.out.mono ?_; rintro e w2 ⟨u, rfl, hu, hb2⟩
        obtain ⟨gu, cu, ru, rfl, _⟩ := id hu
        have d2 : w2.cell? ⟨b, 1, none⟩ = some (.map (some m1)) := (hb2.cell (p := ⟨b, 1, none⟩) lb1).trans d1
        have hb2' : Below wc.heap.size wc w2 := ⟨hb2.os, hb2.tape, hb2.output, hb2.size, hb2.block⟩
        have hx2 := SSx.more HX1.out hb2'
        have hu2 : Blk w2 (more ρ' wc.heap.size w2.heap.size) (.slice (some ⟨gu, 0, none⟩) 256 cu) l := hu.more (fun q hq => more_new hq)
        obtain ⟨w3, hrun, hm3, ht3⟩ := hx2.chg.put hn hN hu2 (by intro e; cases e)
        have HX3 := Lib.hid (SSx.chgTurn hx2 hm3 ht3)
        have HB2 := Lib.hid hb2'
        have HT3 := Lib.hid ht3
        clear hu hb2 hb2' hx2 hu2 hm3 ht3))
    all_goals
      clear hrun
      have hx3 := HX3.out
      have e3 : w3.cell? ⟨b, 3, none⟩ = some (.slice (some ⟨g, 0, none⟩) s.cch.length s.cch.length) := hx3.c3
      obtain ⟨hi3, hsh⟩ := Sto.sh_eq s HW.out n
      have hes := HW.out.each _ hi3
      rw [← hsh] at hes
      have HDR := Lib.hid (drop_any b g s.N n _ s.mem s.cch w3 hx3.there e3 hx3.cac HW.out.sh1 HW.out.sh2 (by omega) hes.1 (by have h1 := hes.2.1; have h2 := HW.out.room2; unfold Sto.sh at h1; omega))
      have HX4 := Lib.hid hx3
      clear hx3 hes hsh hi3
      go_wp2_with fail
      refine HDR.out.mono ?_
      rintro e w4 ⟨rfl, hc4, he4⟩
      have s23 : w3.heap.size = w2.heap.size := turned_size HT3.out
      have hsame : Same ρ (more ρ' wc.heap.size w2.heap.size) w := Same.trans HS1.out (same_more _ _ _) HE1.out.size
      have hx4 := SSx.cacTurn HX4.out (by rw [List.length_set]) hc4 he4 (Same.refl _ _) (HX4.out.there.up he4.size)
      have hmm : Mine ρ m1 := mine_of HX.out.chg.1 (by intro e; cases e)
      have hext : Ext (Mine ρ) w w4 := ((HE1.out.trans (Ext.of_below HB2.out (Mine ρ)) (fun _ h => .inl h)).trans (ext_turned HT3.out hmm) (fun _ h => .inl h)).trans he4 (in_mine hsame (fun q hq => mine_c hq))
      have HG := Lib.hid (goes_of HO.out hx4 (s' := s.write n l) (HW.out.write hn hl256) rfl hsame hext)
      clear hx4 hext hc4 he4
      go_wp2
      go_ret
      exact ⟨rfl, _, HG.out⟩
end Go.Proofs.YtgjcbfdhpbkhoaaGreatDoor.EWrite
/- The store: Hold. -/
namespace Go.Proofs.YtgjcbfdhpbkhoaaGreatDoor.EHold
open Go.RowKit WMem WPlain WAppend Ext Map DPlain DMem Mk DBase DRead DWrite EPlain EMem ECache EFace EUnwrite EPush EWrite
end Go.Proofs.YtgjcbfdhpbkhoaaGreatDoor.EHold
/- The store: inMemory and Read. -/
namespace Go.Proofs.YtgjcbfdhpbkhoaaGreatDoor.ERead
open Go.RowKit WMem WPlain WAppend Ext Map DPlain DMem Mk DBase DRead DWrite EPlain EMem ECache EGet EFace EUnwrite EPush EWrite
section
variable {w : World} {ρ : Ro} {D : Nat → Prop} {b db n : Nat} {s : Sto} (h : Own w ρ D b db s) (hn : n < s.N)
include h hn
set_option maxRecDepth 100000 in
set_option maxHeartbeats 800000 in
theorem inMem_yes (hm : s.inMem n = true) : Calls Tryz.prog 105 #[.pointer (some ⟨b, 0, none⟩), .int .i64 n] w fun e w' => ∃ v, e = .returned (.tuple #[v, .bool true]) ∧ Blk w ρ v (s.val n) ∧ w = w' := by
  have hN := h.len.2
  obtain ⟨m1, m2, m3, g, Uv, us, hx, -⟩ := h.ss
  have c1 := hx.c1
  have c2 := hx.c2
  obtain ⟨v1, hk1, hv1, hz1⟩ := hx.chg.look (n := n) (by omega)
  obtain ⟨v2, hk2, hv2, hz2⟩ := hx.wai.look (n := n) (by omega)
  have l1 := (hk1 w rfl).1
  have l2 := (hk2 w rfl).1
  clear hk1 hk2 hx h
  cases hc : s.now.chg n with
  | some l =>
    have hb := hv1 l hc
    have HV : Hid (Blk w ρ v1 (s.val n)) := by
      have e : s.val n = l := by unfold Sto.val; rw [hc]
      rw [e]; exact hb
    rw [hc] at l1
    have l1' : (Instr.lookup 91 (.map (some m1)) (.int .i64 n) true).run Tryz.prog w = .ok (.tuple #[v1, .bool true]) w := l1
    obtain ⟨gv, cv, rv, rfl, _⟩ := id hb
    clear hc hv1 hv2 hz1 hz2 hb l1 l2 hm
    go_enter Tryz.func105, Tryz.ntmps105
    go_wp2
    go_ret2
    exact ⟨_, rfl, HV.out, rfl⟩
  | none =>
    have e1 := hz1 hc
    subst e1
    rw [hc] at l1
    have l1' : (Instr.lookup 91 (.map (some m1)) (.int .i64 n) true).run Tryz.prog w = .ok (.tuple #[.slice none 0 0, .bool false]) w := l1
    cases hw : s.wai n with
    | none => unfold Sto.inMem at hm; rw [hc, hw] at hm; cases hm
    | some l =>
      have hb := hv2 l hw
      have HV : Hid (Blk w ρ v2 (s.val n)) := by
        have e : s.val n = l := by unfold Sto.val; rw [hc, hw]
        rw [e]; exact hb
      rw [hw] at l2
      have l2' : (Instr.lookup 91 (.map (some m2)) (.int .i64 n) true).run Tryz.prog w = .ok (.tuple #[v2, .bool true]) w := l2
      obtain ⟨gv, cv, rv, rfl, _⟩ := id hb
      clear hc hw hv1 hv2 hz1 hz2 hb l1 l2 hm
      go_enter Tryz.func105, Tryz.ntmps105
      go_wp2
      go_ret2
      exact ⟨_, rfl, HV.out, rfl⟩
omit hn in
theorem shard_facts {g m1 m2 m3 : Nat} {Uv : Value} {us : List Value} (_hx : SSx w ρ b db s m1 m2 m3 g Uv us) : (s.cch.getD (n % s.cch.length) []).Nodup ∧ (s.cch.getD (n % s.cch.length) []).length ≤ s.room ∧ ∀ x ∈ s.cch.getD (n % s.cch.length) [], x < s.N ∧ x % s.cch.length = n % s.cch.length := by
  obtain ⟨hi, hs⟩ := Sto.sh_eq s h.wf n
  have he := h.wf.each _ hi
  rw [← hs] at he
  exact ⟨he.1, he.2.1, fun x hx => ⟨(he.2.2 x hx).1, (he.2.2 x hx).2.1⟩⟩
set_option maxRecDepth 100000 in
set_option maxHeartbeats 800000 in
theorem inMem_hit (hcoh : n ∈ s.sh n → s.mem n = s.d.readAt n) (hm : s.inMem n = false) (hl : n ∈ s.sh n) : Calls Tryz.prog 105 #[.pointer (some ⟨b, 0, none⟩), .int .i64 n] w fun e w' => ∃ v, e = .returned (.tuple #[v, .bool true]) ∧ Blk w ρ v (s.val n) ∧
    ∃ ρ' m1 m2 m3 g Uv us, SSx w' ρ' b db (s.use n) m1 m2 m3 g Uv us ∧ Same ρ ρ' w ∧ Ext (Mine ρ) w w' ∧ (∀ q, ρ q = .still → w'.heap[q]? = w.heap[q]?) := by
  have hN := h.len.2
  obtain ⟨m1, m2, m3, g, Uv, us, hx, hwf⟩ := h.ss
  obtain ⟨a1, a2, a3⟩ := shard_facts (n := n) h hx
  have c1 := hx.c1
  have c2 := hx.c2
  obtain ⟨v1, hk1, hv1, hz1⟩ := hx.chg.look (n := n) (by omega)
  obtain ⟨v2, hk2, hv2, hz2⟩ := hx.wai.look (n := n) (by omega)
  have l1 := (hk1 w rfl).1
  have l2 := (hk2 w rfl).1
  obtain ⟨hc, hw⟩ := Sto.inMem_no hm
  have e1 := hz1 hc
  have e2 := hz2 hw
  subst e1
  subst e2
  rw [hc] at l1
  rw [hw] at l2
  have l1' : (Instr.lookup 91 (.map (some m1)) (.int .i64 n) true).run Tryz.prog w = .ok (.tuple #[.slice none 0 0, .bool false]) w := l1
  have l2' : (Instr.lookup 91 (.map (some m2)) (.int .i64 n) true).run Tryz.prog w = .ok (.tuple #[.slice none 0 0, .bool false]) w := l2
  have HV : Hid (s.val n = s.mem n) := by
    have e : s.val n = s.mem n := by unfold Sto.val; rw [hc, hw]; exact (hcoh hl).symm
    exact e
  have HG := Lib.hid (get_hit b g s.N n s.room ρ s.mem s.cch w hx.there hx.rb (row_lt hx.block) hx.c3 hx.c4 hx.cac hwf.sh1 hwf.sh2 hN hn a1 a2 hwf.room1 hwf.room2 a3 hl)
  have HX := Lib.hid hx
  clear hc hw hv1 hv2 hz1 hz2 l1 l2 hk1 hk2 hx hm hl a1 a2 a3 hwf h
  go_enter Tryz.func105, Tryz.ntmps105
  go_wp2_with fail
  refine HG.out.mono ?_
  rintro e w1 ⟨v, rfl, hb, ρ', q1, q2, q3, q4⟩
  have HB : Hid (Blk w ρ v (s.val n)) := by rw [HV.out]; exact hb
  have HS := Lib.hid (SSx.cacTurn HX.out (by rw [List.length_set]) q1 q4 q2 q3)
  have HE : Hid (Ext (Mine ρ) w w1) := q4.more (fun k _ hk => mine_c hk)
  have HQ := Lib.hid q2
  have HST : Hid (∀ q, ρ q = .still → w1.heap[q]? = w.heap[q]?) := fun q hq => q4.block q (HX.out.there q (mine_still q hq)) (by rw [hq]; exact id)
  obtain ⟨gv, cv, rv, rfl, _⟩ := id hb
  clear hb q1 q2 q3 q4
  go_wp2
  go_ret2
  exact ⟨_, rfl, HB.out, ρ', m1, m2, m3, g, Uv, us, HS.out, HQ.out, HE.out, HST.out⟩
set_option maxRecDepth 100000 in
set_option maxHeartbeats 800000 in
theorem inMem_miss (hm : s.inMem n = false) (hl : n ∉ s.sh n) : Calls Tryz.prog 105 #[.pointer (some ⟨b, 0, none⟩), .int .i64 n] w fun e w' => e = .returned (.tuple #[.slice none 0 0, .bool false]) ∧ ∃ k, w' = w.drewN k := by
  have hN := h.len.2
  obtain ⟨m1, m2, m3, g, Uv, us, hx, hwf⟩ := h.ss
  have c1 := hx.c1
  have c2 := hx.c2
  obtain ⟨v1, hk1, hv1, hz1⟩ := hx.chg.look (n := n) (by omega)
  obtain ⟨v2, hk2, hv2, hz2⟩ := hx.wai.look (n := n) (by omega)
  have l1 := (hk1 w rfl).1
  have l2 := (hk2 w rfl).1
  obtain ⟨hc, hw⟩ := Sto.inMem_no hm
  have e1 := hz1 hc
  have e2 := hz2 hw
  subst e1
  subst e2
  rw [hc] at l1
  rw [hw] at l2
  have l1' : (Instr.lookup 91 (.map (some m1)) (.int .i64 n) true).run Tryz.prog w = .ok (.tuple #[.slice none 0 0, .bool false]) w := l1
  have l2' : (Instr.lookup 91 (.map (some m2)) (.int .i64 n) true).run Tryz.prog w = .ok (.tuple #[.slice none 0 0, .bool false]) w := l2
  have HG := Lib.hid (get_miss b g s.N n ρ s.mem s.cch w hx.c3 hx.cac hwf.sh1 hwf.sh2 (by omega) hl)
  clear hc hw hv1 hv2 hz1 hz2 l1 l2 hk1 hk2 hx hm hl hwf h
  go_enter Tryz.func105, Tryz.ntmps105
  go_wp2_with fail
  refine HG.out.mono ?_
  rintro e w1 ⟨rfl, k, rfl⟩
  go_wp2
  go_ret2
  exact ⟨rfl, k, rfl⟩
end
def Free (w w' : World) (ρ' : Ro) : Nat → Prop := fun g => w.heap.size ≤ g ∧ g < w'.heap.size ∧ ¬ Mine ρ' g
section
variable {w : World} {ρ : Ro} {D : Nat → Prop} {b db n : Nat} {s : Sto} (h : Own w ρ D b db s) (hn : n < s.N) (hload : s.load ≤ 1073741824)
include h hn hload
set_option maxRecDepth 100000 in
set_option maxHeartbeats 1600000 in
theorem SRead_found {s1 : Sto} (hfd : s1.found = s.found) (hfin : s.read n = { s1 with found := s1.found + 1 }) (hd : s1.d = s.d)
    (hi : Calls Tryz.prog 105 #[.pointer (some ⟨b, 0, none⟩), .int .i64 n] w fun e w' => ∃ v, e = .returned (.tuple #[v, .bool true]) ∧ Blk w ρ v (s.val n) ∧ ∃ ρ' m1 m2 m3 g Uv us, SSx w' ρ' b db s1 m1 m2 m3 g Uv us ∧ Same ρ ρ' w ∧ Ext (Mine ρ) w w' ∧ (∀ q, ρ q = .still → w'.heap[q]? = w.heap[q]?)) :
    Calls Tryz.prog 70 #[.pointer (some ⟨b, 0, none⟩), .int .i64 n] w fun e w' => ∃ u, e = .returned (.tuple #[u, .int .i64 0]) ∧ ∃ ρ', Goes w w' ρ D ρ' D b db (s.read n) ∧ IsBlk w' (Free w w' ρ') u (s.val n) := by
  have hf : s.found ≤ 1073741824 := by unfold Sto.load at hload; omega
  have HH := Lib.hid (has_own h hn)
  have HI := Lib.hid hi
  have HO := Lib.hid h
  have HFD := Lib.hid hfd
  have HFIN := Lib.hid hfin
  have HD := Lib.hid hd
  clear h hi hfd hfin hd
  go_enter Tryz.func70, Tryz.ntmps70
  go_wp2_with (go_at_call 100; refine HH.out.mono ?_; rintro e w' ⟨rfl, rfl⟩)
  refine HI.out.mono ?_
  rintro e w1 ⟨v, rfl, hb, ρ', m1, m2, m3, g, Uv, us, hx1, hs1, he1, hst⟩
  have c7 : w1.cell? ⟨b, 7, none⟩ = some (.int .i64 (s.found : Int)) := by rw [← HFD.out]; exact hx1.c7
  have f7 := hx1.free 7
  have ec : ((s.found + 1 : Nat) : Int) = (s.found : Int) + 1 := by omega
  have hx2 := SSx.foundTurn hx1 (s.found + 1)
  rw [ec] at hx2
  have hb2 : Blk (w1.setCell ⟨b, 7, none⟩ (.int .i64 ((s.found : Int) + 1))) ρ v (s.val n) := hb.keep (fun q hq => (Below.heap_setCell w1 _ _ q (by
      intro e
      have h1 := hx1.rb
      have h2 := hs1.1 q (HO.out.ss.there q (mine_still q hq))
      rw [hq, e, h1] at h2
      cases h2)).trans (hst q hq)) (fun _ h => h)
  have HCL := Lib.hid (Clone_blk _ _ _ _ hb2)
  have HX2 := Lib.hid hx2
  have HE2 : Hid (Ext (Mine ρ) w (w1.setCell ⟨b, 7, none⟩ (.int .i64 ((s.found : Int) + 1)))) := he1.setCell (by
    by_cases hlt : b < w.heap.size
    · left
      have := hs1.1 b hlt
      have h1 := hx1.rb
      rw [this] at h1
      exact mine_of h1 (by intro e; cases e)
    · right; simp; omega) _
  have HS1 := Lib.hid hs1
  obtain ⟨gv, cv, rv, rfl, _⟩ := id hb
  clear hx1 he1 hst hx2 hb2 hb hs1 ec
  go_wp2_with fail
  refine HCL.out.mono ?_
  rintro e w3 ⟨u, rfl, hu, hb3⟩
  have hE3 : Ext (Mine ρ) w w3 := HE2.out.trans (Ext.of_below hb3 (Mine ρ)) (fun _ h => .inl h)
  have hX3 := HX2.out.keep (w' := w3) (ρ' := ρ') (fun k hk => hb3.block k (HX2.out.there k hk)) (fun _ _ => rfl) (HX2.out.there.up hb3.size)
  have hw3 : (s.read n).Wf := HO.out.wf.read hn
  have hG : Goes w w3 ρ D ρ' D b db (s.read n) := by
    have hfin := HFIN.out
    rw [hfin] at hw3 ⊢
    have e : s1.found = s.found := HFD.out
    rw [e] at hw3 ⊢
    exact goes_of HO.out hX3 hw3 HD.out HS1.out hE3
  have HG := Lib.hid hG
  have hU : IsBlk w3 (Free w w3 ρ') u (s.val n) := hu.more (fun q hq => ⟨Nat.le_trans HE2.out.size hq.1, hq.2, fun hm => by have := HX2.out.there q hm; omega⟩)
  have HU := Lib.hid hU
  obtain ⟨gu, cu, ru, rfl, _⟩ := id hU
  clear hG hU hu hb3 hE3 hX3 hw3
  go_wp2
  go_ret2
  exact ⟨_, rfl, ρ', HG.out, HU.out⟩
set_option maxRecDepth 100000 in
set_option maxHeartbeats 1600000 in
theorem SRead_miss (hm : s.inMem n = false) (hl : n ∉ s.sh n) :
    Calls Tryz.prog 70 #[.pointer (some ⟨b, 0, none⟩), .int .i64 n] w fun e w' => ∃ u, e = .returned (.tuple #[u, .int .i64 0]) ∧ ∃ ρ', Goes w w' ρ D ρ' D b db (s.read n) ∧ IsBlk w' (Free w w' ρ') u (s.val n) := by
  have hf : s.asked ≤ 1073741824 := by unfold Sto.load at hload; omega
  have hN := h.len.2
  obtain ⟨m1, m2, m3, g, Uv, us, hx, hwf⟩ := h.ss
  obtain ⟨a1, a2, a3⟩ := shard_facts (n := n) h hx
  obtain ⟨hc, hw⟩ := Sto.inMem_no hm
  have hl2 : ∀ i, i < s.cch.length → n ∉ s.cch.getD i [] := fun i hi hx => by
    rw [getD_mem hwf hi] at hx
    have h1 := ((hwf.each i hi).2.2 n hx).2.1
    subst h1
    obtain ⟨_, e⟩ := Sto.sh_eq s hwf n
    exact hl (by rw [e]; exact hx)
  have HV : Hid (s.val n = s.d.readAt n) := by
    have e : s.val n = s.d.readAt n := by unfold Sto.val; rw [hc, hw]
    exact e
  have HFIN : Hid (s.read n = { s.use n with asked := s.asked + 1, mem := fun j => if j = n then s.d.readAt n else s.mem j }) := by
    have e : s.read n = { s.use n with asked := s.asked + 1, mem := fun j => if j = n then s.d.readAt n else s.mem j } := by unfold Sto.read; rw [if_neg (by rw [hm]; simp), if_neg hl]
    exact e
  have HH := Lib.hid (has_own h hn)
  have HI := Lib.hid (inMem_miss h hn hm hl)
  have HO := Lib.hid h
  have HX := Lib.hid hx
  have HW := Lib.hid hwf
  have HA := Lib.hid (And.intro a1 (And.intro a2 a3))
  have c0 := hx.c0
  have c8 := hx.c8
  have f8 := hx.free 8
  clear h hx hwf a1 a2 a3 hc hw hm hl
  go_enter Tryz.func70, Tryz.ntmps70
  go_wp2_with (go_at_call 100; refine HH.out.mono ?_; rintro e w' ⟨rfl, rfl⟩)
  refine HI.out.mono ?_
  rintro e w0 ⟨rfl, k, rfl⟩
  have d0 : (w.drewN k).cell? ⟨b, 0, none⟩ = some (.pointer (some ⟨db, 0, none⟩)) := c0
  go_wp2_with fail
  refine (Read_yes D db n s.d (w.drewN k) (HO.out.dd.drewN k) hn).mono ?_
  rintro e w1 ⟨gb, rfl, hgb, hrow, hb1⟩
  have hb1' : Below w.heap.size w w1 := ⟨hb1.os, hb1.tape, hb1.output, hb1.size, hb1.block⟩
  have lb : b < w.heap.size := row_lt HX.out.block
  have hl256 : (s.d.readAt n).length = 256 := HO.out.dd.wf.read hn
  have e8 : w1.cell? ⟨b, 8, none⟩ = some (.int .i64 (s.asked : Int)) := (hb1'.cell (p := ⟨b, 8, none⟩) lb).trans c8
  have g8 : w1.frozen? ⟨b, 8, none⟩ = false := (hb1'.frozen (p := ⟨b, 8, none⟩) lb).trans f8
  have ec : ((s.asked + 1 : Nat) : Int) = (s.asked : Int) + 1 := by omega
  have hx1 := SSx.more HX.out hb1'
  have hx2 := SSx.askedTurn hx1 (s.asked + 1)
  rw [ec] at hx2
  have hblk1 : IsBlk w1 (fun g => w.heap.size ≤ g ∧ g < w1.heap.size) (.slice (some ⟨gb, 0, none⟩) 256 256) (s.d.readAt n) := ⟨gb, 256, [], rfl, ⟨hgb, hrow.lt⟩, hl256, Nat.le_refl _, hrow⟩
  have hblk2 : Blk (w1.setCell ⟨b, 8, none⟩ (.int .i64 ((s.asked : Int) + 1))) (more ρ w.heap.size w1.heap.size) (.slice (some ⟨gb, 0, none⟩) 256 256) (s.d.readAt n) :=
    (IsBlk.keep hblk1 (fun q o hq _ => Below.heap_setCell w1 _ _ q (show q ≠ b by have := hq.1; omega))).more (fun q hq => more_new hq)
  have sz1 : (w1.setCell ⟨b, 8, none⟩ (.int .i64 ((s.asked : Int) + 1))).heap.size = w1.heap.size := by simp [World.setCell]
  have hcac : Cac (w1.setCell ⟨b, 8, none⟩ (.int .i64 ((s.asked : Int) + 1))) (more ρ w.heap.size w1.heap.size) g s.N (fun j => if j = n then s.d.readAt n else s.mem j) s.cch := Cac_rd hx2.cac fun i hi x hxm => by
    show (if x = n then s.d.readAt n else s.mem x) = s.mem x
    rw [if_neg]
    rintro rfl
    exact hl2 i hi hxm
  have hblk3 : Blk (w1.setCell ⟨b, 8, none⟩ (.int .i64 ((s.asked : Int) + 1))) (more ρ w.heap.size w1.heap.size) (.slice (some ⟨gb, 0, none⟩) 256 256) ((fun j => if j = n then s.d.readAt n else s.mem j) n) := by
    show Blk _ _ _ (if n = n then s.d.readAt n else s.mem n)
    rw [if_pos rfl]
    exact hblk2
  have HP := Lib.hid (put_any b g s.N n s.room _ (fun j => if j = n then s.d.readAt n else s.mem j) s.cch (.slice (some ⟨gb, 0, none⟩) 256 256) _ hx2.there hx2.rb (by rw [sz1]; have := hb1'.size; omega) hx2.c3 hx2.c4 hcac HW.out.sh1 HW.out.sh2 hN hn hblk3 HA.out.1 HA.out.2.1 HW.out.room1 HW.out.room2 HA.out.2.2)
  have HX2 := Lib.hid hx2
  have HB1 := Lib.hid hb1'
  have HK2 := Lib.hid hblk2
  have HSZ := Lib.hid sz1
  clear hb1 hb1' hx1 hx2 hcac hblk3 hl2 hblk1 hblk2 hrow hgb hl256 ec sz1 c0 c8 f8 d0
  go_wp2_with fail
  refine HP.out.mono ?_
  rintro e w3 ⟨rfl, ρ', q1, q2, q3, q4⟩
  have hx3 := SSx.cacTurn HX2.out (by rw [List.length_set]) q1 q4 q2 q3
  have hk3 : Blk w3 ρ' (.slice (some ⟨gb, 0, none⟩) 256 256) (s.d.readAt n) := HK2.out.keep (fun q hq => q4.block q (HX2.out.there q (mine_still q hq)) (by rw [hq]; exact id)) (fun q hq => (q2.1 q (HX2.out.there q (mine_still q hq))).trans hq)
  have hs3 : Same ρ ρ' w := ⟨fun q hq => (q2.1 q (by rw [HSZ.out]; have := HB1.out.size; omega)).trans (more_old hq), fun q hq => more_mr (q2.2 q hq)⟩
  have he3 : Ext (Mine ρ) w w3 := ((Ext.of_below HB1.out (Mine ρ)).setCell (.inl (mine_of HX.out.rb (by intro e; cases e))) _).trans q4 (in_mine (same_more ρ w w1.heap.size) (fun q hq => mine_c hq))
  have HCL := Lib.hid (Clone_blk _ _ _ _ hk3)
  have HX3 := Lib.hid hx3
  have HS3 := Lib.hid hs3
  have HE3 := Lib.hid he3
  clear q1 q2 q3 q4 hx3 hk3 hs3 he3
  go_wp2_with fail
  refine HCL.out.mono ?_
  rintro e w4 ⟨u, rfl, hu, hb4⟩
  have hX4 := HX3.out.keep (w' := w4) (ρ' := ρ') (fun k hk => hb4.block k (HX3.out.there k hk)) (fun _ _ => rfl) (HX3.out.there.up hb4.size)
  have hw4 : (s.read n).Wf := HO.out.wf.read hn
  have hG : Goes w w4 ρ D ρ' D b db (s.read n) := by
    have hfin := HFIN.out
    rw [hfin] at hw4 ⊢
    exact goes_of HO.out hX4 hw4 rfl HS3.out (HE3.out.trans (Ext.of_below hb4 (Mine ρ)) (fun _ h => .inl h))
  have HG := Lib.hid hG
  have hU : IsBlk w4 (Free w w4 ρ') u (s.val n) := by
    rw [HV.out]
    exact hu.more (fun q hq => ⟨Nat.le_trans HE3.out.size hq.1, hq.2, fun hm => by have := HX3.out.there q hm; omega⟩)
  have HU := Lib.hid hU
  obtain ⟨gu, cu, ru, rfl, _⟩ := id hU
  clear hG hU hu hb4 hX4 hw4
  go_wp2
  go_ret2
  exact ⟨_, rfl, ρ', HG.out, HU.out⟩
theorem SRead_own (hcoh : n ∈ s.sh n → s.mem n = s.d.readAt n) : Calls Tryz.prog 70 #[.pointer (some ⟨b, 0, none⟩), .int .i64 n] w fun e w' => ∃ u, e = .returned (.tuple #[u, .int .i64 0]) ∧ ∃ ρ', Goes w w' ρ D ρ' D b db (s.read n) ∧ IsBlk w' (Free w w' ρ') u (s.val n) := by
  cases hm : s.inMem n with
  | true =>
    refine SRead_found h hn hload (s1 := s) rfl ?_ rfl ((inMem_yes h hn hm).mono ?_)
    · unfold Sto.read; rw [if_pos hm]
    · rintro e w' ⟨v, rfl, hb, rfl⟩
      obtain ⟨m1, m2, m3, g, Uv, us, hx, _⟩ := h.ss
      exact ⟨v, rfl, hb, ρ, m1, m2, m3, g, Uv, us, hx, Same.refl _ _, Ext.refl _ _, fun _ _ => rfl⟩
  | false =>
    by_cases hl : n ∈ s.sh n
    · refine SRead_found h hn hload (s1 := s.use n) rfl ?_ rfl (inMem_hit h hn hcoh hm hl)
      unfold Sto.read; rw [if_neg (by rw [hm]; simp), if_pos hl]; rfl
    · exact SRead_miss h hn hload hm hl
end
end Go.Proofs.YtgjcbfdhpbkhoaaGreatDoor.ERead
/- The store: Home. -/
namespace Go.Proofs.YtgjcbfdhpbkhoaaGreatDoor.EHome
open Go.RowKit WMem WPlain WAppend Ext Map DPlain DMem Mk DBase DRead DWrite EPlain EMem ECache EGet EFace EUnwrite EPush EWrite ERead
end Go.Proofs.YtgjcbfdhpbkhoaaGreatDoor.EHome
