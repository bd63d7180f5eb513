/- The document's disk: Write. -/
import Derived.Test.YtgjcbfdhpbkhoaaGreatDoorMg37
import Derived.Deep.DeepCutAuto
namespace Go.Proofs.YtgjcbfdhpbkhoaaGreatDoor.RWrite
open Go.RowKit WMem WPlain WAppend Ext Map DPlain DMem Mk DBase DRead DPend DWrite RNew RRead
theorem rows_keep {w w' : World} {S : Nat → Prop} {b : Nat} {s : St} {Lv Pv : Value} {xs ys : List Value} (hx : RDx w S b s Lv Pv xs ys) (he : Ext (fun j => j = b ∨ Pv.ownBlock = some j) w w') :
    (∀ k o, S k → w.heap[k]? = some (.cells o 5 (0, 0)) → w'.heap[k]? = w.heap[k]?) ∧ w'.ownsRow 0 22 1 Lv s.L.length xs := by
  refine ⟨fun k o _ hk => he.block k (row_lt hk) ?_, own_same hx.rowL.1 (fun g hg => he.block g (own_lt hx.rowL.1 g hg) ?_)⟩
  · rintro (e | e)
    · subst e
      rw [hx.block] at hk
      injection hk with hk
      injection hk with _ hk
      exact absurd hk (by decide)
    · exact own_ne hx.rowP.1 hk (by decide) e
  · rintro (e | e)
    · subst e
      exact own_ne hx.rowL.1 hx.block (by decide) hg
    · rcases hx.rowL.1.2 with ⟨h1, _⟩ | ⟨g', cap, cur, h1, _, hh, _⟩
      · subst h1; cases hg
      · subst h1
        simp [Value.ownBlock] at hg
        subst hg
        exact own_ne hx.rowP.1 hh (by decide) e
theorem R_append {w W0 w1 : World} {S : Nat → Prop} {b : Nat} {s : St} {Lv Pv : Value} {xs ys : List Value} {n gg cap H : Nat} {v : Value} {l : List UInt8} (hx : RDx w S b s Lv Pv xs ys) (hW : Below w.heap.size w W0) (hv : IsBlk W0 (Made w W0) v l) (hn : n < s.L.length)
    (hgrow : W0.grownBy w1 Pv.ownBlock) (hown1 : w1.ownsRow 0 100 2 (.slice (some ⟨gg, 0, none⟩) (s.P.length + 1) cap) (s.P.length + 1) (ys ++ [.int .i64 n, v])) (hat : Pv.ownBlock = some gg ∨ gg = H) (hH : W0.heap.size ≤ H) :
    RDx (w1.setCell ⟨b, 1, none⟩ (.slice (some ⟨gg, 0, none⟩) (s.P.length + 1) cap)) (Plus S w (w1.setCell ⟨b, 1, none⟩ (.slice (some ⟨gg, 0, none⟩) (s.P.length + 1) cap))) b ⟨s.L, s.P ++ [(n, l)], s.N⟩ Lv (.slice (some ⟨gg, 0, none⟩) (s.P.length + 1) cap) xs (ys ++ [.int .i64 n, v]) ∧
    Ext S w (w1.setCell ⟨b, 1, none⟩ (.slice (some ⟨gg, 0, none⟩) (s.P.length + 1) cap)) := by
  obtain ⟨q1, q2, q3, q4, q5, q6⟩ := field_append (fld := 1) hW hx.block hx.rowP.1 (by decide) hgrow hown1 hat hH
  generalize w1.setCell ⟨b, 1, none⟩ (.slice (some ⟨gg, 0, none⟩) (s.P.length + 1) cap) = W1 at *
  obtain ⟨k1, k2⟩ := rows_keep hx q3
  have hs := hW.size
  have hsub : ∀ k, S k → Plus S w W1 k := fun k hk => .inl hk
  have hv1 : IsBlk W1 (Plus S w W1) v l := (hv.keep (fun k o hk ho => q6 k hk.2 (by have := hx.there b hx.here; have := hk.1; omega) (fun e => by have := own_lt hx.rowP.1 _ e; have := hk.1; omega))).more (fun k hk => .inr ⟨hk.1, by have := hk.2; omega⟩)
  refine ⟨⟨.inl hx.here, by simpa using q1, ⟨k2, fun g hg => .inl (hx.rowL.2 g hg)⟩, ⟨by simpa using q2, fun g hg => ?_⟩, (hx.eachL.keep k1).more hsub, P_snoc ((hx.eachP.keep k1).more hsub) hv1, ⟨hx.wf.each, fun x hxm => ?_⟩, hx.pos, hx.most, plus_there hx.there q3.size⟩, q3.more (fun k _ hk => ?_)⟩
  · simp [Value.ownBlock] at hg
    subst hg
    rcases q4 with h | h
    · exact .inl (hx.rowP.2 _ h)
    · exact .inr ⟨h, own_lt q2 _ (by simp [Value.ownBlock])⟩
  · rcases List.mem_append.1 hxm with h | h
    · exact hx.wf.pend x h
    · rw [List.mem_singleton.1 h]; exact ⟨hn, hv.len⟩
  · rcases hk with e | e
    · subst e; exact hx.here
    · exact hx.rowP.2 _ e
theorem rd_setN {w : World} {S : Nat → Prop} {b : Nat} {s : St} {Lv Pv : Value} {xs ys : List Value} (hx : RDx w S b s Lv Pv xs ys) (N : Nat) : RDx (w.setCell ⟨b, 2, none⟩ (.int .i64 (N : Int))) S b ⟨s.L, s.P, N⟩ Lv Pv xs ys := by
  have hk : ∀ k, k ≠ b → (w.setCell ⟨b, 2, none⟩ (.int .i64 (N : Int))).heap[k]? = w.heap[k]? := fun k hk => Below.heap_setCell w ⟨b, 2, none⟩ _ k hk
  have hr : ∀ k o, S k → w.heap[k]? = some (.cells o 5 (0, 0)) → (w.setCell ⟨b, 2, none⟩ (.int .i64 (N : Int))).heap[k]? = w.heap[k]? := fun k o _ ho => hk k (fun e => by
    subst e
    rw [hx.block] at ho
    injection ho with ho
    injection ho with _ ho
    exact absurd ho (by decide))
  refine ⟨hx.here, by simpa using row_set hx.block 2 (.int .i64 (N : Int)), ⟨own_same hx.rowL.1 (fun g hg => hk g (fun e => ?_)), hx.rowL.2⟩, ⟨own_same hx.rowP.1 (fun g hg => hk g (fun e => ?_)), hx.rowP.2⟩, hx.eachL.keep hr, hx.eachP.keep hr, ⟨hx.wf.each, hx.wf.pend⟩, hx.pos, hx.most, hx.there.up (by simp [World.setCell])⟩
  · subst e; exact own_ne hx.rowL.1 hx.block (by decide) hg
  · subst e; exact own_ne hx.rowP.1 hx.block (by decide) hg
set_option maxHeartbeats 3200000 in
set_option maxRecDepth 100000 in
theorem RWrite_ok (S : Nat → Prop) (b n : Nat) (s : St) (l : List UInt8) (B : Nat) (A : Option Addr) (c : Nat) (w : World) (hd : RD w S b s) (hA : Sl w B A (l.map u8v)) (hn : n < s.L.length) (hl : l.length = 256) (hP : s.P.length ≤ 1073741824) (hN : s.N ≤ 1073741824) :
    Calls Tryz.prog 63 #[.pointer (some ⟨b, 0, none⟩), .int .i64 n, .slice A 256 c] w fun e w' =>
      e = .returned (.int .i64 0) ∧ ∃ S', RD w' S' b (s.write n l) ∧ Ext S w w' ∧ In S' S w := by
  obtain ⟨Lv, Pv, xs, ys, hx⟩ := hd
  obtain ⟨i0, hi0, hz0, hz1, hz2⟩ := info_parts infoW
  have cL := hx.cL
  have cP := hx.cP
  have lb := row_lt hx.block
  obtain ⟨A', cap', hLv, _, _⟩ := L_at hx.rowL hx.eachL
  have AP : Hid (Pv.ownBlock ≠ some b) := own_ne hx.rowP.1 hx.block (by decide)
  have hd1 : decide ((n : Int) < 0) = false := by simp
  have hd2 : decide ((s.L.length : Int) ≤ (n : Int)) = false := by simp; omega
  have hco := fun (W : World) (hW : Sl W B A (l.map u8v)) => Copied_any l B A c W hW (by omega)
  rw [hl] at hco
  have HCO := Lib.hid (hco w.drew (hA.keep (fun p _ => rfl)))
  have HX := Lib.hid hx
  have HLen := Lib.hid hl
  clear hx hA hco hl
  subst hLv
  go_enter Tryz.func63, Tryz.ntmps63
  go_wp2_with fail
  go_upto_region 5 with fail
  go_cut [31] (fun _ wx => ∃ S' Pv' ys', RDx wx S' b ⟨s.L, s.P ++ [(n, l)], s.N⟩ (.slice A' s.L.length cap') Pv' xs ys' ∧ Ext S w wx ∧ In S' S w)
  case first =>
    go_region_law
      ((first
        | (refine step_append_lies _ (by rfl) _ _ _ (by rfl) 0 100 i0 _ 2 32 underW hi0 hz0 hz1 hz2 rfl (by omega) Pv s.P.length ys (by rfl) (HO1.out.alloc _)
            ⟨w1.heap.size, 0, none⟩ 1 1 [.int .i64 n, .slice (some ⟨g1, 0, none⟩) 256 c1] (by rfl) (by rfl) (World.news_of_block (cs := #[.int .i64 n, .slice (some ⟨g1, 0, none⟩) 256 c1]) (t := 100) (fr := (0, 0)) (row_new w1 _)) (by simp [Value.oneCell'])
            (by omega) (by unfold maxLen; omega) (by omega) (by omega) (w1.heap.size + 1) (by simp) ?_; intro gg cap w2 hown1 hgrow hat hlt2
           have j1 : w2.cell? ⟨b, 1, none⟩ = some Pv := (hgrow.cell_far _ (by simp; omega) (Ne.symm AP.out)).trans ((row_cell (row_alloc HB1.out _) 1).trans rfl)
           have j2 : w2.frozen? ⟨b, 1, none⟩ = false := (hgrow.frozen_far _ (by simp; omega) (Ne.symm AP.out)).trans (row_free (row_alloc HB1.out _) 1))
        | (go_simp; go_at_call 98; refine HCO.out.mono ?_; rintro e w1 ⟨u, rfl, hu, hb1⟩
           have hblk := blk_of_own hu HLen.out
           obtain ⟨g1, c1, r1, rfl, _⟩ := id hblk
           have HBLK := Lib.hid hblk
           have HBB := Lib.hid hb1
           have hsw : w.heap.size ≤ w1.heap.size := hb1.size
           have HB1 := Lib.hid ((hb1.block b lb).trans HX.out.block)
           have j0 : w1.cell? ⟨b, 1, none⟩ = some Pv := (row_cell HB1.out 1).trans rfl
           have j3 : ∀ o : Obj, (w1.alloc o).cell? ⟨b, 1, none⟩ = some Pv := fun o => (row_cell (row_alloc HB1.out o) 1).trans rfl
           have HO1 := Lib.hid (own_same (w' := w1) HX.out.rowP.1 (fun g hg => hb1.block g (own_lt HX.out.rowP.1 g hg)))
           clear hblk hb1 hu)))
    all_goals
      have hr := R_append HX.out (W0 := w1.alloc (.cells #[.int .i64 n, .slice (some ⟨g1, 0, none⟩) 256 c1] 100)) ((⟨HBB.out.os, HBB.out.tape, HBB.out.output, HBB.out.size, HBB.out.block⟩ : Below w.heap.size w w1).alloc hsw _)
        ((HBLK.out.keep (fun k o _ ho => Below.heap_alloc _ _ _ (row_lt ho))).more (fun k hk => ⟨hk.1, by have := hk.2; simp; omega⟩)) hn hgrow hown1 hat (by simp)
      go_wp2_with fail
      go_meet
      exact ⟨_, _, _, hr.1, hr.2, plus_in⟩
  case rest =>
    obtain ⟨S', Pv', ys', hx1, he, hi⟩ := hcut
    have d1 : wc.cell? ⟨b, 2, none⟩ = some (.int .i64 s.N) := hx1.cN
    have d2 := row_free hx1.block 2
    have HX1 := Lib.hid hx1
    have HE := Lib.hid he
    have HI := Lib.hid hi
    clear hx1 he hi
    go_wp2
    go_ret
    exact ⟨rfl, S', ⟨_, _, _, _, rd_setN HX1.out (s.N + 1)⟩, HE.out.setCell (.inl HX.out.here) _, HI.out⟩
end Go.Proofs.YtgjcbfdhpbkhoaaGreatDoor.RWrite
/- The document's disk: Flush and Crash; two lists of writes compared. -/
namespace Go.Proofs.YtgjcbfdhpbkhoaaGreatDoor.RFlush
open Go.RowKit WMem WPlain WAppend Ext Map DPlain DMem Mk DBase DRead DPend DWrite RNew RRead RWrite DFlush
structure Mid (w wr : World) (S : Nat → Prop) (s : St) (gL cap : Nat) (cur : Array Value) (L' : List (List UInt8)) : Prop where
  row : wr.heap[gL]? = some (.cells cur 22 (0, 0))
  size : cur.size = cap
  each : LOf wr S (cur.toList.take s.L.length) L'
  ext : Ext (fun j => j = gL) w wr
section
variable {w wr : World} {S : Nat → Prop} {b gL cap : Nat} {s : St} {Lv Pv : Value} {xs ys : List Value} {cur : Array Value} {L' : List (List UInt8)}
theorem mid_start (hx : RDx w S b s Lv Pv xs ys) : ∃ gL cap cur, Lv = .slice (some ⟨gL, 0, none⟩) s.L.length cap ∧ S gL ∧ s.L.length ≤ cap ∧ cap ≤ maxLen ∧ Mid w w S s gL cap cur s.L := by
  obtain ⟨⟨hl, h1 | ⟨g, cap, cur, rfl, hb, hgg, hnc, hm, hcs, ht⟩⟩, h2⟩ := hx.rowL
  · have h0 := h1.2
    have := hx.pos
    exact absurd h0 (by omega)
  · refine ⟨g, cap, cur, rfl, h2 g rfl, hnc, hm, hgg, by simpa using hcs, ?_, Ext.refl _ _⟩
    rw [Nat.mul_one] at ht
    rw [ht]
    exact hx.eachL
theorem Mid.drew (h : Mid w wr S s gL cap cur L') : Mid w wr.drew S s gL cap cur L' := ⟨h.row, h.size, h.each, h.ext.drew⟩
theorem mid_store (h : Mid w wr S s gL cap cur L') {j : Nat} (hj : j < s.L.length) {v : Value} {l : List UInt8} (hv : IsBlk wr S v l) : Mid w (wr.setCell ⟨gL, j, none⟩ v) S s gL cap (cur.setIfInBounds j v) (L'.set j l) := by
  have kr : ∀ k o, S k → wr.heap[k]? = some (.cells o 5 (0, 0)) → (wr.setCell ⟨gL, j, none⟩ v).heap[k]? = wr.heap[k]? := fun k o _ ho => Below.heap_setCell wr ⟨gL, j, none⟩ v k (fun e => by
    have h0 := h.row
    rw [e, h0] at ho
    injection ho with ho
    injection ho with _ ho
    exact absurd ho (by decide))
  have he := h.each.keep kr
  have hv1 := hv.keep kr
  refine ⟨row_set h.row j v, by simpa using h.size, ⟨?_, fun i hi => ?_⟩, h.ext.setCell (.inl rfl) v⟩
  · have := h.each.1
    simp at this ⊢
    omega
  · have hi' : i < L'.length := by simpa using hi
    have hlt := h.each.1
    rw [Array.toList_setIfInBounds, List.take_set]
    by_cases e : i = j
    · subst e
      refine ⟨v, List.getElem?_set_self (by rw [hlt]; exact hi'), ?_⟩
      simpa using hv1
    · obtain ⟨u, h1, h2⟩ := he.2 i hi'
      exact ⟨u, by rw [List.getElem?_set_ne (Ne.symm e)]; exact h1, by rw [List.getElem_set_ne (Ne.symm e)]; exact h2⟩
theorem mid_block (hx : RDx w S b s (.slice (some ⟨gL, 0, none⟩) s.L.length cap) Pv xs ys) (h : Mid w wr S s gL cap cur L') :
    wr.heap[b]? = w.heap[b]? ∧ (∀ k, k ≠ gL → k < w.heap.size → wr.heap[k]? = w.heap[k]?) := by
  refine ⟨h.ext.block b (row_lt hx.block) (fun e => ?_), fun k hk hl => h.ext.block k hl hk⟩
  have := own_ne hx.rowL.1 hx.block (by decide)
  exact this (by rw [e]; rfl)
theorem mid_end (hx : RDx w S b s (.slice (some ⟨gL, 0, none⟩) s.L.length cap) Pv xs ys) (h : Mid w wr S s gL cap cur L') (hL : L'.length = s.L.length) (hwf : ∀ l ∈ L', l.length = 256) (hc : s.L.length ≤ cap) (hm : cap ≤ maxLen) :
    RDx (wr.setCell ⟨b, 1, none⟩ (.slice none 0 0)) S b ⟨L', [], s.N⟩ (.slice (some ⟨gL, 0, none⟩) s.L.length cap) (.slice none 0 0) (cur.toList.take s.L.length) [] ∧ Ext S w (wr.setCell ⟨b, 1, none⟩ (.slice none 0 0)) := by
  have hb := (mid_block hx h).1.trans hx.block
  have hgb : gL ≠ b := fun e => own_ne hx.rowL.1 hx.block (by decide) (by rw [e]; rfl)
  have hgS : S gL := hx.rowL.2 gL rfl
  have kr : ∀ k o, S k → wr.heap[k]? = some (.cells o 5 (0, 0)) → (wr.setCell ⟨b, 1, none⟩ (.slice none 0 0)).heap[k]? = wr.heap[k]? := fun k o _ ho => Below.heap_setCell wr ⟨b, 1, none⟩ _ k (fun e => by
    rw [e, hb] at ho
    injection ho with ho
    injection ho with _ ho
    exact absurd ho (by decide))
  refine ⟨⟨hx.here, by simpa using row_set hb 1 (.slice none 0 0), ⟨?_, fun g hg => ?_⟩, ⟨World.ownsRow_nil _ _ _ _, fun g hg => (by cases hg)⟩, h.each.keep kr, ⟨rfl, fun i hi => (by cases hi)⟩, ⟨hwf, fun x hxm => (by cases hxm)⟩, by rw [hL]; exact hx.pos, by rw [hL]; exact hx.most, hx.there.up (by have := h.ext.size; simpa [World.setCell] using this)⟩,
    (h.ext.more (fun k _ hk => hk ▸ hgS)).setCell (.inl hx.here) _⟩
  · rw [hL]
    have h1 := (Below.heap_setCell wr ⟨b, 1, none⟩ (.slice none 0 0) gL hgb).trans h.row
    refine ⟨by have := h.each.1; simp at this ⊢; omega, .inr ⟨gL, cap, cur, rfl, Nat.zero_le _, h1, hc, hm, by rw [h.size]; omega, by rw [Nat.mul_one]⟩⟩
  · simp [Value.ownBlock] at hg
    subst hg
    exact hgS
end
set_option maxHeartbeats 1600000 in
set_option maxRecDepth 100000 in
theorem RFlush_ok (S : Nat → Prop) (b : Nat) (s : St) (w : World) (hd : RD w S b s) (hP : s.P.length ≤ 1073741824) (hN : s.N ≤ 1073741824) :
    Calls Tryz.prog 67 #[.pointer (some ⟨b, 0, none⟩)] w fun e w' =>
      e = .returned (.tuple #[]) ∧ ∃ S', RD w' S' b s.flush ∧ Ext S w w' ∧ In S' S w := by
  obtain ⟨Lv, Pv, xs, ys, hx⟩ := hd
  obtain ⟨gL, cap, cur0, rfl, hgS, hcap, hmax, hmid⟩ := mid_start hx
  obtain ⟨A, capP, rfl, hcapP, hPat⟩ := P_at hx.rowP hx.eachP
  have hbig : s.L.length ≤ 4096 := hx.most
  have HX := Lib.hid hx
  have HM0 := Lib.hid hmid
  have HP := Lib.hid hPat
  clear hx hmid hPat
  go_enter Tryz.func67, Tryz.ntmps67
  go_wp2
  go_loopw [2] (fun i wr => ∃ (k : Nat) (cur : Array Value), k ≤ s.P.length ∧ i = .int .i64 k ∧ Mid w wr S s gL cap cur (doneTo (fun _ => true) s.L s.P k)) (fun i _ => s.P.length - (intOf i).toNat)
  case atStart => exact ⟨0, cur0, Nat.zero_le _, rfl, HM0.out⟩
  case round =>
    obtain ⟨k, cur, hk, rfl, hm⟩ := hrel
    have hb := mid_block HX.out hm
    have hbb := hb.1.trans HX.out.block
    have c0 : wr.cell? ⟨b, 0, none⟩ = some (.slice (some ⟨gL, 0, none⟩) s.L.length cap) := (row_cell hbb 0).trans rfl
    have c1 : wr.cell? ⟨b, 1, none⟩ = some (.slice A s.P.length capP) := (row_cell hbb 1).trans rfl
    have HM := Lib.hid hm
    have HKP := Lib.hid hb.2
    have HBB := Lib.hid hbb
    clear hm hb hbb
    by_cases hlt : k < s.P.length
    · obtain ⟨gP, u, rfl, hgP, p0, p1, hu⟩ := HP.out k hlt
      have hpn := (HX.out.wf.pend _ (List.getElem_mem hlt)).1
      have hgne : gP ≠ gL := fun e => by
        subst e
        have h1 := HX.out.rowL.1.2
        rcases h1 with ⟨h1, _⟩ | ⟨g', cap', cur', h1, _, hh, _⟩
        · cases h1
        · have h2 : g' = gP := by injection h1 with h1; injection h1 with h1; injection h1 with h1; exact h1.symm
          subst h2
          exact own_ne HX.out.rowP.1 hh (by decide) rfl
      have lgP := HX.out.there gP hgP
      have r0 : wr.cell? ⟨gP, k * 2, none⟩ = some (.int .i64 (s.P[k].1 : Int)) := (World.cell?_of_block (HKP.out gP hgne lgP)).trans p0
      have r1 : wr.cell? ⟨gP, k * 2 + 1, none⟩ = some u := (World.cell?_of_block (HKP.out gP hgne lgP)).trans p1
      have hrL := HM.out.row
      have hcs := HM.out.size
      have hin : s.P[k].1 < cur.size := by omega
      obtain ⟨old, hold⟩ : ∃ o, wr.cell? ⟨gL, s.P[k].1, none⟩ = some o := ⟨cur[s.P[k].1], (row_cell hrL _).trans (Array.getElem?_eq_getElem hin)⟩
      have hfr := row_free hrL s.P[k].1
      have hur : IsBlk wr S u s.P[k].2 := hu.keep (fun j o hj ho => HKP.out j (fun e => by
        subst e
        have h1 := HM0.out.row
        rw [h1] at ho
        injection ho with ho
        injection ho with _ ho
        exact absurd ho (by decide)) (HX.out.there j hj))
      obtain ⟨g1, c1', r1', rfl, _⟩ := id hur
      have HU := Lib.hid hur
      have HPN := Lib.hid hpn
      have HT := Lib.hid (doneTo_yes (fun _ => true) s.L s.P hlt rfl)
      have hk0 : (0 : Int) ≤ (k : Int) := Int.natCast_nonneg _
      have hk1 : (k : Int) < (s.P.length : Int) := by omega
      have hj0 : (0 : Int) ≤ (s.P[k].1 : Int) := Int.natCast_nonneg _
      have hj1 : (s.P[k].1 : Int) < (s.L.length : Int) := by omega
      clear hu p0 p1 hrL hcs hur hpn hgP hin
      generalize s.P[k].1 = n at *
      generalize s.P[k].2 = lk at *
      go_wp2_with fail
      go_still_tail 21, (by kernel_rfl)
      go_wp2
      go_roundw
      case rel => exact ⟨k + 1, _, by omega, by go_num, by rw [HT.out]; exact mid_store HM.out.drew HPN.out (HU.out.keep (fun _ _ _ _ => rfl))⟩
      case measure => simp [intOf]; omega
    · obtain rfl : k = s.P.length := by omega
      have hend := mid_end HX.out HM.out (doneTo_len ..) (doneTo_each (fun _ => true) HX.out.wf.each (fun x hx => (HX.out.wf.pend x hx).2) _) hcap hmax
      have f1 := row_free HBB.out 1
      have d2 : (wr.setCell ⟨b, 1, none⟩ (.slice none 0 0)).cell? ⟨b, 2, none⟩ = some (.int .i64 s.N) := hend.1.cN
      have d3 := row_free hend.1.block 2
      have HEND := Lib.hid hend
      clear hend
      go_wp2
      go_end0
      exact ⟨rfl, S, ⟨_, _, _, _, rd_setN HEND.out.1 (s.N + 1)⟩, HEND.out.2.setCell (.inl HX.out.here) _, In.refl _ _⟩
end Go.Proofs.YtgjcbfdhpbkhoaaGreatDoor.RFlush
