/- The document's disk: Write. -/
import Derived.Test.YtkemakemolohdaaRRead
import Derived.Deep.DeepCutAuto
namespace Go.Proofs.Ytkemakemolohdaa.RWrite
open Go.RowKit WMem WPlain WAppend Ext Map DPlain DMem Mk DBase DRead DPend DWrite RNew RRead

/-- which blocks of S are rows of bytes does not hang on a write to the structure or to the row of what is pending -/
theorem rows_keep {w w' : World} {S : Nat → Prop} {b : Nat} {s : St} {Lv Pv : Value} {xs ys : List Value} (hx : RDx w S b s Lv Pv xs ys) (he : Ext (fun j => j = b ∨ Pv.ownBlock = some j) w w') :
    (∀ k o, S k → w.heap[k]? = some (.cells o 5 (0, 0)) → w'.heap[k]? = w.heap[k]?) ∧ w'.ownsRow 0 35 1 Lv s.L.length xs := by
  refine ⟨fun k o _ hk => he.block k (row_lt hk) ?_, own_same hx.rowL.1 (fun g hg => he.block g (own_lt hx.rowL.1 g hg) ?_)⟩
  · rintro (e | e)
    · subst e
      rw [hx.block] at hk
      injection hk with hk
      injection hk with _ hk
      exact absurd hk (by decide)
    · exact own_ne hx.rowP.1 hk (by decide) e
  · rintro (e | e)
    · subst e
      exact own_ne hx.rowL.1 hx.block (by decide) hg
    · rcases hx.rowL.1.2 with ⟨h1, _⟩ | ⟨g', cap, cur, h1, _, hh, _⟩
      · subst h1; cases hg
      · subst h1
        simp [Value.ownBlock] at hg
        subst hg
        exact own_ne hx.rowP.1 hh (by decide) e

/-- one write more in the document's list -/
theorem R_append {w W0 w1 : World} {S : Nat → Prop} {b : Nat} {s : St} {Lv Pv : Value} {xs ys : List Value} {n gg cap H : Nat} {v : Value} {l : List UInt8} (hx : RDx w S b s Lv Pv xs ys) (hW : Below w.heap.size w W0) (hv : IsBlk W0 (Made w W0) v l) (hn : n < s.L.length)
    (hgrow : W0.grownBy w1 Pv.ownBlock) (hown1 : w1.ownsRow 0 56 2 (.slice (some ⟨gg, 0, none⟩) (s.P.length + 1) cap) (s.P.length + 1) (ys ++ [.int .i64 n, v])) (hat : Pv.ownBlock = some gg ∨ gg = H) (hH : W0.heap.size ≤ H) :
    RDx (w1.setCell ⟨b, 1, none⟩ (.slice (some ⟨gg, 0, none⟩) (s.P.length + 1) cap)) (Plus S w (w1.setCell ⟨b, 1, none⟩ (.slice (some ⟨gg, 0, none⟩) (s.P.length + 1) cap))) b ⟨s.L, s.P ++ [(n, l)], s.N⟩ Lv (.slice (some ⟨gg, 0, none⟩) (s.P.length + 1) cap) xs (ys ++ [.int .i64 n, v]) ∧
    Ext S w (w1.setCell ⟨b, 1, none⟩ (.slice (some ⟨gg, 0, none⟩) (s.P.length + 1) cap)) := by
  obtain ⟨q1, q2, q3, q4, q5, q6⟩ := field_append (fld := 1) hW hx.block hx.rowP.1 (by decide) hgrow hown1 hat hH
  generalize w1.setCell ⟨b, 1, none⟩ (.slice (some ⟨gg, 0, none⟩) (s.P.length + 1) cap) = W1 at *
  obtain ⟨k1, k2⟩ := rows_keep hx q3
  have hs := hW.size
  have hsub : ∀ k, S k → Plus S w W1 k := fun k hk => .inl hk
  have hv1 : IsBlk W1 (Plus S w W1) v l := (hv.keep (fun k o hk ho => q6 k hk.2 (by have := hx.there b hx.here; have := hk.1; omega) (fun e => by have := own_lt hx.rowP.1 _ e; have := hk.1; omega))).more (fun k hk => .inr ⟨hk.1, by have := hk.2; omega⟩)
  refine ⟨⟨.inl hx.here, by simpa using q1, ⟨k2, fun g hg => .inl (hx.rowL.2 g hg)⟩, ⟨by simpa using q2, fun g hg => ?_⟩, (hx.eachL.keep k1).more hsub, P_snoc ((hx.eachP.keep k1).more hsub) hv1, ⟨hx.wf.each, fun x hxm => ?_⟩, hx.pos, hx.most, plus_there hx.there q3.size⟩, q3.more (fun k _ hk => ?_)⟩
  · simp [Value.ownBlock] at hg
    subst hg
    rcases q4 with h | h
    · exact .inl (hx.rowP.2 _ h)
    · exact .inr ⟨h, own_lt q2 _ (by simp [Value.ownBlock])⟩
  · rcases List.mem_append.1 hxm with h | h
    · exact hx.wf.pend x h
    · rw [List.mem_singleton.1 h]; exact ⟨hn, hv.len⟩
  · rcases hk with e | e
    · subst e; exact hx.here
    · exact hx.rowP.2 _ e
theorem rd_setN {w : World} {S : Nat → Prop} {b : Nat} {s : St} {Lv Pv : Value} {xs ys : List Value} (hx : RDx w S b s Lv Pv xs ys) (N : Nat) : RDx (w.setCell ⟨b, 2, none⟩ (.int .i64 (N : Int))) S b ⟨s.L, s.P, N⟩ Lv Pv xs ys := by
  have hk : ∀ k, k ≠ b → (w.setCell ⟨b, 2, none⟩ (.int .i64 (N : Int))).heap[k]? = w.heap[k]? := fun k hk => Below.heap_setCell w ⟨b, 2, none⟩ _ k hk
  have hr : ∀ k o, S k → w.heap[k]? = some (.cells o 5 (0, 0)) → (w.setCell ⟨b, 2, none⟩ (.int .i64 (N : Int))).heap[k]? = w.heap[k]? := fun k o _ ho => hk k (fun e => by
    subst e
    rw [hx.block] at ho
    injection ho with ho
    injection ho with _ ho
    exact absurd ho (by decide))
  refine ⟨hx.here, by simpa using row_set hx.block 2 (.int .i64 (N : Int)), ⟨own_same hx.rowL.1 (fun g hg => hk g (fun e => ?_)), hx.rowL.2⟩, ⟨own_same hx.rowP.1 (fun g hg => hk g (fun e => ?_)), hx.rowP.2⟩, hx.eachL.keep hr, hx.eachP.keep hr, ⟨hx.wf.each, hx.wf.pend⟩, hx.pos, hx.most, hx.there.up (by simp [World.setCell])⟩
  · subst e; exact own_ne hx.rowL.1 hx.block (by decide) hg
  · subst e; exact own_ne hx.rowP.1 hx.block (by decide) hg

set_option maxHeartbeats 3200000 in
set_option maxRecDepth 100000 in
theorem RWrite_ok (S : Nat → Prop) (b n : Nat) (s : St) (l : List UInt8) (B : Nat) (A : Option Addr) (c : Nat) (w : World) (hd : RD w S b s) (hA : Sl w B A (l.map u8v)) (hn : n < s.L.length) (hl : l.length = 256) (hP : s.P.length ≤ 1073741824) (hN : s.N ≤ 1073741824) :
    Calls Try.prog 36 #[.pointer (some ⟨b, 0, none⟩), .int .i64 n, .slice A 256 c] w fun e w' =>
      e = .returned (.int .i64 0) ∧ ∃ S', RD w' S' b (s.write n l) ∧ Ext S w w' ∧ In S' S w := by
  obtain ⟨Lv, Pv, xs, ys, hx⟩ := hd
  obtain ⟨i0, hi0, hz0, hz1, hz2⟩ := info_parts infoW
  have cL := hx.cL
  have cP := hx.cP
  have lb := row_lt hx.block
  obtain ⟨A', cap', hLv, _, _⟩ := L_at hx.rowL hx.eachL
  have AP : Hid (Pv.ownBlock ≠ some b) := own_ne hx.rowP.1 hx.block (by decide)
  have hd1 : decide ((n : Int) < 0) = false := by simp
  have hd2 : decide ((s.L.length : Int) ≤ (n : Int)) = false := by simp; omega
  have hco := fun (W : World) (hW : Sl W B A (l.map u8v)) => Copied_any l B A c W hW (by omega)
  rw [hl] at hco
  have HCO := Lib.hid (hco w.drew (hA.keep (fun p _ => rfl)))
  have HX := Lib.hid hx
  have HLen := Lib.hid hl
  clear hx hA hco hl
  subst hLv
  go_enter Try.func36, Try.ntmps36
  go_wp2_with fail
  go_upto_region 5 with fail
  go_cut [31] (fun _ wx => ∃ S' Pv' ys', RDx wx S' b ⟨s.L, s.P ++ [(n, l)], s.N⟩ (.slice A' s.L.length cap') Pv' xs ys' ∧ Ext S w wx ∧ In S' S w)
  case first =>
    go_region_law
      ((first
        | (refine step_append_lies _ (by rfl) _ _ _ (by rfl) 0 56 i0 _ 2 32 underW hi0 hz0 hz1 hz2 rfl (by omega) Pv s.P.length ys (by rfl) (HO1.out.alloc _)
            ⟨w1.heap.size, 0, none⟩ 1 1 [.int .i64 n, .slice (some ⟨g1, 0, none⟩) 256 c1] (by rfl) (by rfl) (World.news_of_block (cs := #[.int .i64 n, .slice (some ⟨g1, 0, none⟩) 256 c1]) (t := 56) (fr := (0, 0)) (row_new w1 _)) (by simp [Value.oneCell'])
            (by omega) (by unfold maxLen; omega) (by omega) (by omega) (w1.heap.size + 1) (by simp) ?_; intro gg cap w2 hown1 hgrow hat hlt2
           have j1 : w2.cell? ⟨b, 1, none⟩ = some Pv := (hgrow.cell_far _ (by simp; omega) (Ne.symm AP.out)).trans ((row_cell (row_alloc HB1.out _) 1).trans rfl)
           have j2 : w2.frozen? ⟨b, 1, none⟩ = false := (hgrow.frozen_far _ (by simp; omega) (Ne.symm AP.out)).trans (row_free (row_alloc HB1.out _) 1))
        | (go_simp; go_at_call 30; refine HCO.out.mono ?_; rintro e w1 ⟨u, rfl, hu, hb1⟩
           have hblk := blk_of_own hu HLen.out
           obtain ⟨g1, c1, r1, rfl, _⟩ := id hblk
           have HBLK := Lib.hid hblk
           have HBB := Lib.hid hb1
           have hsw : w.heap.size ≤ w1.heap.size := hb1.size
           have HB1 := Lib.hid ((hb1.block b lb).trans HX.out.block)
           have j0 : w1.cell? ⟨b, 1, none⟩ = some Pv := (row_cell HB1.out 1).trans rfl
           have j3 : ∀ o : Obj, (w1.alloc o).cell? ⟨b, 1, none⟩ = some Pv := fun o => (row_cell (row_alloc HB1.out o) 1).trans rfl
           have HO1 := Lib.hid (own_same (w' := w1) HX.out.rowP.1 (fun g hg => hb1.block g (own_lt HX.out.rowP.1 g hg)))
           clear hblk hb1 hu)))
    all_goals
      have hr := R_append HX.out (W0 := w1.alloc (.cells #[.int .i64 n, .slice (some ⟨g1, 0, none⟩) 256 c1] 56)) ((⟨HBB.out.os, HBB.out.tape, HBB.out.output, HBB.out.size, HBB.out.block⟩ : Below w.heap.size w w1).alloc hsw _)
        ((HBLK.out.keep (fun k o _ ho => Below.heap_alloc _ _ _ (row_lt ho))).more (fun k hk => ⟨hk.1, by have := hk.2; simp; omega⟩)) hn hgrow hown1 hat (by simp)
      go_wp2_with fail
      go_meet
      exact ⟨_, _, _, hr.1, hr.2, plus_in⟩
  case rest =>
    obtain ⟨S', Pv', ys', hx1, he, hi⟩ := hcut
    have d1 : wc.cell? ⟨b, 2, none⟩ = some (.int .i64 s.N) := hx1.cN
    have d2 := row_free hx1.block 2
    have HX1 := Lib.hid hx1
    have HE := Lib.hid he
    have HI := Lib.hid hi
    clear hx1 he hi
    go_wp2
    go_ret
    exact ⟨rfl, S', ⟨_, _, _, _, rd_setN HX1.out (s.N + 1)⟩, HE.out.setCell (.inl HX.out.here) _, HI.out⟩
theorem RWrite_no (S : Nat → Prop) (b : Nat) (n : Int) (s : St) (v : Value) (w : World) (hd : RD w S b s) (hn : n < 0 ∨ (s.L.length : Int) ≤ n) :
    Calls Try.prog 36 #[.pointer (some ⟨b, 0, none⟩), .int .i64 n, v] w fun e w' => e = .returned (.int .i64 5) ∧ w = w' := by
  obtain ⟨Lv, Pv, xs, ys, hx⟩ := hd
  have cL := hx.cL
  obtain ⟨A, cap, rfl, hcap, hLat⟩ := L_at hx.rowL hx.eachL
  clear hx hLat
  by_cases h0 : n < 0
  · have hd1 : decide (n < 0) = true := by simpa using h0
    clear hn
    go_enter Try.func36, Try.ntmps36
    go_wp2
    go_ret
    exact ⟨rfl, rfl⟩
  · have h1 : (s.L.length : Int) ≤ n := by omega
    have hd1 : decide (n < 0) = false := by simpa using h0
    have hd2 : decide ((s.L.length : Int) ≤ n) = true := by simpa using h1
    clear hn
    go_enter Try.func36, Try.ntmps36
    go_wp2
    go_ret
    exact ⟨rfl, rfl⟩
theorem RWrite_len (S : Nat → Prop) (b n m : Nat) (s : St) (A : Option Addr) (c : Nat) (w : World) (hd : RD w S b s) (hn : n < s.L.length) (hm : m < 256) :
    Calls Try.prog 36 #[.pointer (some ⟨b, 0, none⟩), .int .i64 n, .slice A m c] w fun e w' => e = .returned (.int .i64 22) ∧ w = w' := by
  obtain ⟨Lv, Pv, xs, ys, hx⟩ := hd
  have cL := hx.cL
  obtain ⟨A', cap, rfl, hcap, hLat⟩ := L_at hx.rowL hx.eachL
  have hd1 : decide ((n : Int) < 0) = false := by simp
  have hd2 : decide ((s.L.length : Int) ≤ (n : Int)) = false := by simp; omega
  have h1 : ((m : Int) != 256) = true := by rw [bne_iff_ne]; omega
  clear hx hLat
  go_enter Try.func36, Try.ntmps36
  go_wp2
  go_ret
  exact ⟨rfl, rfl⟩
end Go.Proofs.Ytkemakemolohdaa.RWrite
