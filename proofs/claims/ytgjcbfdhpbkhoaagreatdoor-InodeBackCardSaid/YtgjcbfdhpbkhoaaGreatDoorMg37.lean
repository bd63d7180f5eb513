/- The program's disk: pend, one write more that is pending. -/
import Derived.Test.YtgjcbfdhpbkhoaaGreatDoorMg36
import Derived.Deep.RegionLaw
import Derived.Deep.AppendLies
import Derived.StillTailTactics
namespace Go.Proofs.YtgjcbfdhpbkhoaaGreatDoor.DPend
open Go.RowKit WMem WPlain WAppend Ext Map DPlain DMem Mk DBase DRead
theorem infoW : (Tryz.prog.info? 100).map (fun i => (i.zero, i.size, i.bytes)) = some (some (.agg #[.int .i64 0, .slice none 0 0]), 2, 32) := by kernel_rfl
theorem underW : Tryz.prog.underlying 92 = some (.slice 100) := by kernel_rfl
theorem pend_mem (b n m2 n2 g0 c N gg cap : Nat) (Pv : Value) (ys zs : List Value) (h : Int → Option Value) (d0 d1 d2 : Value) (w w1 : World)
    (hb : w.heap[b]? = some (.cells #[d0, d1, d2, Pv, .map (some m2)] 94 (0, 0)))
    (hown : w.ownsRow 0 100 2 Pv N ys) (hm : MapIs w m2 n2 h)
    (hown1 : w1.ownsRow 0 100 2 (.slice (some ⟨gg, 0, none⟩) (N + 1) cap) (N + 1) zs)
    (hgrow : ((w.alloc (.cells #[.int .i64 n, .slice (some ⟨g0, 0, none⟩) 256 c] 100)).alloc (.cells #[.int .i64 n, .slice (some ⟨g0, 0, none⟩) 256 c] 100)).drew.grownBy w1 Pv.ownBlock)
    (hat : Pv.ownBlock = some gg ∨ gg = w.heap.size + 2) :
    (w1.setCell ⟨b, 3, none⟩ (.slice (some ⟨gg, 0, none⟩) (N + 1) cap)).heap[b]? = some (.cells #[d0, d1, d2, .slice (some ⟨gg, 0, none⟩) (N + 1) cap, .map (some m2)] 94 (0, 0)) ∧
    (w1.setCell ⟨b, 3, none⟩ (.slice (some ⟨gg, 0, none⟩) (N + 1) cap)).heap[w.heap.size]? = some (.cells #[.int .i64 n, .slice (some ⟨g0, 0, none⟩) 256 c] 100 (0, 0)) ∧
    MapIs (w1.setCell ⟨b, 3, none⟩ (.slice (some ⟨gg, 0, none⟩) (N + 1) cap)) m2 n2 h ∧
    (w1.setCell ⟨b, 3, none⟩ (.slice (some ⟨gg, 0, none⟩) (N + 1) cap)).ownsRow 0 100 2 (.slice (some ⟨gg, 0, none⟩) (N + 1) cap) (N + 1) zs ∧
    Ext (fun k => k = b ∨ k = m2 ∨ Pv.ownBlock = some k) w (w1.setCell ⟨b, 3, none⟩ (.slice (some ⟨gg, 0, none⟩) (N + 1) cap)) ∧ (Pv.ownBlock = some gg ∨ w.heap.size ≤ gg) := by
  have ab : Pv.ownBlock ≠ some b := own_ne hown hb (by decide)
  have am : Pv.ownBlock ≠ some m2 := hm.own_ne hown
  have aw : Pv.ownBlock ≠ some w.heap.size := fun e => by have := own_lt hown _ e; omega
  have lb := row_lt hb
  have lm := hm.lt
  have nbm : b ≠ m2 := hm.ne hb
  have g1 : w1.heap[b]? = some (.cells #[d0, d1, d2, Pv, .map (some m2)] 94 (0, 0)) := (hgrow.block b (by simp; omega) (Ne.symm ab)).trans (row_alloc (row_alloc hb _) _)
  have g2 : w1.heap[w.heap.size]? = some (.cells #[.int .i64 n, .slice (some ⟨g0, 0, none⟩) 256 c] 100 (0, 0)) := (hgrow.block w.heap.size (by simp; omega) (Ne.symm aw)).trans (row_alloc (row_new w _) _)
  have g3 : w1.heap[m2]? = w.heap[m2]? := (hgrow.block m2 (by simp; omega) (Ne.symm am)).trans ((Below.heap_alloc _ _ _ (by simp; omega)).trans (Below.heap_alloc _ _ _ lm))
  have ngb : gg ≠ b := fun e => by
    rcases hat with h1 | h1
    · exact ab (e ▸ h1)
    · omega
  have hext : Ext (fun k => Pv.ownBlock = some k) w w1 := by
    have h1 := Ext.of_grown (S := fun k => Pv.ownBlock = some k) hgrow (fun k hk _ => hk)
    exact Ext.trans (((Ext.refl (fun k => Pv.ownBlock = some k) w).alloc _).alloc _) ⟨h1.os, h1.tape, h1.output, h1.size, h1.block⟩ (fun k hk => .inl hk)
  refine ⟨by simpa using row_set g1 3 (.slice (some ⟨gg, 0, none⟩) (N + 1) cap), (Below.heap_setCell w1 ⟨b, 3, none⟩ _ w.heap.size (by simp; omega)).trans g2, hm.keep ((Below.heap_setCell w1 ⟨b, 3, none⟩ _ m2 (Ne.symm nbm)).trans g3),
    own_same hown1 (fun k hk => Below.heap_setCell w1 ⟨b, 3, none⟩ _ k (by simp [Value.ownBlock] at hk; subst hk; simpa using ngb)), (hext.more (fun k _ hk => .inr (.inr hk))).setCell (.inl (.inl rfl)) _, ?_⟩
  rcases hat with h1 | h1
  · exact .inl h1
  · exact .inr (by omega)
theorem hm_own {w W : World} {g m n cap : Nat} {zs : List Value} (h : w.ownsRow 0 100 2 (.slice (some ⟨g, 0, none⟩) n cap) n zs) (ht : w.drew.mapTurned W m) (hk : (Value.slice (some ⟨g, 0, none⟩) n cap).ownBlock = some m) : False := by
  obtain ⟨es, clock, es', clock', hb, _⟩ := ht
  have hb' : w.heap[m]? = some (.map es clock) := hb
  rcases h.2 with ⟨h1, _⟩ | ⟨g', cap', cur, hv, _, hh, _⟩
  · cases h1
  · injection hv with hv _ _
    injection hv with hv
    injection hv with hv
    simp [Value.ownBlock] at hk
    subst hk
    subst hv
    rw [hh] at hb'
    cases hb'
set_option maxRecDepth 100000 in
set_option maxHeartbeats 3200000 in
theorem pend_walk (b n m2 n2 g0 c N : Nat) (Pv : Value) (ys : List Value) (h : Int → Option Value) (d0 d1 d2 : Value) (w : World)
    (hb : w.heap[b]? = some (.cells #[d0, d1, d2, Pv, .map (some m2)] 94 (0, 0)))
    (hown : w.ownsRow 0 100 2 Pv N ys) (hm : MapIs w m2 n2 h) (hn : n ≤ 4096) (hN : N ≤ 1073741824) (hn2 : n2 ≤ 1073741824) :
    Calls Tryz.prog 90 #[.pointer (some ⟨b, 0, none⟩), .agg #[.int .i64 n, .slice (some ⟨g0, 0, none⟩) 256 c]] w fun e w' =>
      ∃ gg cap, e = .returned (.tuple #[]) ∧ w'.heap[b]? = some (.cells #[d0, d1, d2, .slice (some ⟨gg, 0, none⟩) (N + 1) cap, .map (some m2)] 94 (0, 0)) ∧
        w'.ownsRow 0 100 2 (.slice (some ⟨gg, 0, none⟩) (N + 1) cap) (N + 1) (ys ++ [.int .i64 n, .slice (some ⟨g0, 0, none⟩) 256 c]) ∧ (Pv.ownBlock = some gg ∨ w.heap.size ≤ gg) ∧
        MapIs w' m2 (n2 + 1) (upd h n (.slice (some ⟨g0, 0, none⟩) 256 c)) ∧ Ext (fun k => k = b ∨ k = m2 ∨ Pv.ownBlock = some k) w w' := by
  obtain ⟨i0, hi0, hz0, hz1, hz2⟩ := info_parts infoW
  have ab : Pv.ownBlock ≠ some b := own_ne hown hb (by decide)
  have am : Pv.ownBlock ≠ some m2 := hm.own_ne hown
  have lb := row_lt hb
  have c3 : w.cell? ⟨b, 3, none⟩ = some Pv := by rw [row_cell hb]; rfl
  have f3 := row_free hb 3
  have c4 : w.cell? ⟨b, 4, none⟩ = some (.map (some m2)) := by rw [row_cell hb]; rfl
  have HB := Lib.hid hb
  have HM := Lib.hid hm
  have HO := Lib.hid hown
  have AB := Lib.hid ab
  have AM := Lib.hid am
  have AW : Hid (Pv.ownBlock ≠ some w.heap.size) := fun e => by have := own_lt hown _ e; omega
  clear hb hm hown ab am
  go_enter Tryz.func90, Tryz.ntmps90
  go_wp2_with fail
  have f3a := row_free (row_alloc HB.out (.cells #[.int .i64 n, .slice (some ⟨g0, 0, none⟩) 256 c] 100)) 3
  have f3b := fun o : Obj => row_free (row_alloc (row_alloc HB.out (.cells #[.int .i64 n, .slice (some ⟨g0, 0, none⟩) 256 c] 100)) o) 3
  have HNEW : Hid (((w.alloc (.cells #[.int .i64 n, .slice (some ⟨g0, 0, none⟩) 256 c] 100)).alloc (.cells #[.int .i64 n, .slice (some ⟨g0, 0, none⟩) 256 c] 100)).drew.heap[w.heap.size + 1]? = some (.cells #[.int .i64 n, .slice (some ⟨g0, 0, none⟩) 256 c] 100 (0, 0))) := by
    have h1 := row_new (w.alloc (.cells #[.int .i64 n, .slice (some ⟨g0, 0, none⟩) 256 c] 100)) (.cells #[.int .i64 n, .slice (some ⟨g0, 0, none⟩) 256 c] 100)
    rw [World.size_alloc] at h1
    exact h1
  go_region_law
    ((refine step_append_lies _ (by rfl) _ _ _ (by rfl) 0 100 i0 _ 2 32 underW hi0 hz0 hz1 hz2 rfl (by omega) Pv N ys (by rfl) (((HO.out.alloc _).alloc _).drew)
        ⟨w.heap.size + 1, 0, none⟩ 1 1 [.int .i64 n, .slice (some ⟨g0, 0, none⟩) 256 c] (by rfl) (by rfl) (World.news_of_block (cs := #[.int .i64 n, .slice (some ⟨g0, 0, none⟩) 256 c]) (t := 100) (fr := (0, 0)) HNEW.out) (by simp [Value.oneCell'])
        (by omega) (by unfold maxLen; omega) (by omega) (by omega) (w.heap.size + 2) (by simp) ?_; intro gg cap w1 hown1 hgrow hat hlt
      have k1 : w1.cell? ⟨b, 3, none⟩ = some Pv := (hgrow.cell_far _ (by simp; omega) (Ne.symm AB.out)).trans ((row_cell (row_alloc (row_alloc HB.out _) _) 3).trans rfl)
      have k2 : w1.frozen? ⟨b, 3, none⟩ = false := by rw [hgrow.frozen_far _ (by simp; omega) (Ne.symm AB.out)]; exact f3b _))
  all_goals
    have hmem := pend_mem b n m2 n2 g0 c N gg cap Pv ys _ h d0 d1 d2 w w1 HB.out HO.out HM.out hown1 hgrow hat
    clear hown1 hgrow hat hlt k1 k2
    generalize w1.setCell ⟨b, 3, none⟩ (.slice (some ⟨gg, 0, none⟩) (N + 1) cap) = W1 at *
    obtain ⟨q1, q2, q3, q4, q5, q6⟩ := hmem
    have q7 : Hid (b ≠ m2) := HM.out.ne HB.out
    have r4 : W1.cell? ⟨b, 4, none⟩ = some (.map (some m2)) := by rw [row_cell q1]; rfl
    have r0 : W1.cell? ⟨w.heap.size, 0, none⟩ = some (.int .i64 n) := by rw [row_cell q2]; rfl
    have r1 : W1.cell? ⟨w.heap.size, 1, none⟩ = some (.slice (some ⟨g0, 0, none⟩) 256 c) := by rw [row_cell q2]; rfl
    obtain ⟨W2, hrun, hm2, hturn⟩ := (MapIs.keep (w' := W1.drew) q3 rfl).store (fits_nat hn) (by unfold maxLen; omega) (.slice (some ⟨g0, 0, none⟩) 256 c)
    have H1 := Lib.hid q1
    have H4 := Lib.hid q4
    have H5 := Lib.hid q5
    have H6 := Lib.hid q6
    have HM2 := Lib.hid hm2
    have HT := Lib.hid hturn
    clear q1 q2 q3 q4 q5 q6 hm2 hturn f3a f3b HNEW c3 f3 c4
    go_wp2
    go_still_tail 8, (by kernel_rfl)
    go_wp2
    go_end0
    exact ⟨gg, cap, rfl, (HT.out.grown.block b (row_lt H1.out) (fun e => q7.out (by injection e))).trans H1.out, own_same H4.out (fun k hk => HT.out.grown.block k (own_lt H4.out k hk) (fun e => by
      injection e with e; subst e; exact hm_own H4.out HT.out hk)), H6.out, HM2.out, H5.out.drew.trans (Ext.of_grown HT.out.grown (fun k hk _ => (.inr (.inl (Option.some.inj hk).symm)))) (fun k hk => .inl hk)⟩
end Go.Proofs.YtgjcbfdhpbkhoaaGreatDoor.DPend
/- The program's disk: one write more, and Write. -/
namespace Go.Proofs.YtgjcbfdhpbkhoaaGreatDoor.DWrite
open Go.RowKit WMem WPlain WAppend Ext Map DPlain DMem Mk DBase DRead DPend
def Plus (S : Nat → Prop) (w w' : World) : Nat → Prop := fun k => S k ∨ (w.heap.size ≤ k ∧ k < w'.heap.size)
section
variable {w w' : World} {S S' : Nat → Prop} {b n : Nat} {s : St} {L : List (List UInt8)} {P : List (Nat × List UInt8)} {Pv v : Value} {ys : List Value} {l : List UInt8} {f h : Int → Option Value} {m1 m2 n1 n2 : Nat}
theorem plus_there (h : There S w) (hs : w.heap.size ≤ w'.heap.size) : There (Plus S w w') w' := fun k hk => by
  rcases hk with hk | hk
  · exact Nat.lt_of_lt_of_le (h k hk) hs
  · exact hk.2
theorem plus_in : In (Plus S w w') S w := fun k hk => by
  rcases hk with hk | hk
  · exact .inl hk
  · exact .inr hk.1
theorem P_snoc (hp : POf w S ys P) (hv : IsBlk w S v l) : POf w S (ys ++ [.int .i64 n, v]) (P ++ [(n, l)]) := by
  refine ⟨by simp [hp.1]; omega, fun i hi => ?_⟩
  by_cases e : i < P.length
  · obtain ⟨u, h1, h2, h3⟩ := hp.2 i e
    refine ⟨u, ?_, ?_, ?_⟩
    · rw [List.getElem?_append_left (by rw [hp.1]; omega), List.getElem_append_left e]; exact h1
    · rw [List.getElem?_append_left (by rw [hp.1]; omega)]; exact h2
    · rw [List.getElem_append_left e]; exact h3
  · have hi' : i = P.length := by simp at hi; omega
    subst hi'
    refine ⟨v, ?_, ?_, ?_⟩
    · rw [List.getElem?_append_right (by rw [hp.1]; omega), hp.1]; simp
    · rw [List.getElem?_append_right (by rw [hp.1]; omega), hp.1]
      have : P.length * 2 + 1 - P.length * 2 = 1 := by omega
      rw [this]; rfl
    · simpa using hv
theorem late_snoc (hl : LateOf w S h P) (hv : IsBlk w S v l) : LateOf w S (upd h n v) (P ++ [(n, l)]) := by
  refine ⟨fun k u hu => ?_, fun k hk => ?_⟩
  · unfold upd at hu
    by_cases e : k = (n : Int)
    · rw [if_pos e] at hu
      injection hu with hu
      subst hu
      exact ⟨n, l, e, by rw [lastOf_snoc, if_pos rfl], hv⟩
    · rw [if_neg e] at hu
      obtain ⟨j, l', h1, h2, h3⟩ := hl.1 k u hu
      exact ⟨j, l', h1, by rw [lastOf_snoc, if_neg (by intro e'; simp at e'; omega)]; exact h2, h3⟩
  · unfold upd at hk
    by_cases e : (k : Int) = (n : Int)
    · rw [if_pos e] at hk; cases hk
    · rw [if_neg e] at hk
      rw [lastOf_snoc, if_neg (by intro e'; simp at e'; omega)]
      exact hl.2 k hk
theorem rows_stay (hb : w.heap[b]? = some (.cells #[.int .i64 (s.L.length : Int), .int .i64 (s.N : Int), .map (some m1), Pv, .map (some m2)] 94 (0, 0))) (hm : MapIs w m2 n2 h)
    (ho : w.ownsRow 0 100 2 Pv n ys) (he : Ext (fun k => k = b ∨ k = m2 ∨ Pv.ownBlock = some k) w w') :
    (∀ k o, S k → w.heap[k]? = some (.cells o 5 (0, 0)) → w'.heap[k]? = w.heap[k]?) ∧ ∀ k es cl, k ≠ m2 → w.heap[k]? = some (.map es cl) → w'.heap[k]? = w.heap[k]? := by
  refine ⟨fun k o _ hk => he.block k (row_lt hk) ?_, fun k es cl hne hk => he.block k (row_lt hk) ?_⟩
  · rintro (e | e | e)
    · subst e
      rw [hb] at hk
      injection hk with hk
      injection hk with _ hk
      exact absurd hk (by decide)
    · subst e
      exact hm.ne hk rfl
    · exact own_ne ho hk (by decide) e
  · rintro (e | e | e)
    · subst e
      rw [hb] at hk
      cases hk
    · exact hne e
    · rcases ho.2 with ⟨h1, _⟩ | ⟨g, cap, cur, hv, _, hh, _⟩
      · subst h1; cases e
      · subst hv
        simp [Value.ownBlock] at e
        subst e
        rw [hh] at hk
        cases hk
theorem map_stays (hm : MapIs w m1 n1 f) (hne : m1 ≠ m2) (hk : ∀ k es cl, k ≠ m2 → w.heap[k]? = some (.map es cl) → w'.heap[k]? = w.heap[k]?) : MapIs w' m1 n1 f := by
  obtain ⟨D, ⟨es, cl, hb, r⟩, hf⟩ := hm
  exact ⟨D, ⟨es, cl, (hk m1 es cl hne hb).trans hb, r⟩, hf⟩
theorem dd_setN (hd : DDx w S b s m1 m2 n1 n2 f h Pv ys) (N : Nat) : DDx (w.setCell ⟨b, 1, none⟩ (.int .i64 (N : Int))) S b ⟨s.L, s.P, N⟩ m1 m2 n1 n2 f h Pv ys := by
  have hk : ∀ k, k ≠ b → (w.setCell ⟨b, 1, none⟩ (.int .i64 (N : Int))).heap[k]? = w.heap[k]? := fun k hk => Below.heap_setCell w ⟨b, 1, none⟩ _ k hk
  have hr : ∀ k o, S k → w.heap[k]? = some (.cells o 5 (0, 0)) → (w.setCell ⟨b, 1, none⟩ (.int .i64 (N : Int))).heap[k]? = w.heap[k]? := fun k o _ ho => hk k (fun e => by
    subst e
    rw [hd.block] at ho
    injection ho with ho
    injection ho with _ ho
    exact absurd ho (by decide))
  refine ⟨hd.here, by simpa using row_set hd.block 1 (.int .i64 (N : Int)), hd.in1, hd.in2, hd.apart, hd.done.keep (hk _ (Ne.symm (hd.done.ne hd.block))), hd.late.keep (hk _ (Ne.symm (hd.late.ne hd.block))), ⟨own_same hd.rowP.1 (fun g hg => hk g (fun e => ?_)), hd.rowP.2⟩,
    hd.eachP.keep hr, hd.doneOf.keep hr, hd.lateOf.keep hr, ⟨hd.wf.each, hd.wf.pend⟩, hd.pos, hd.most, hd.there.up (by simp [World.setCell])⟩
  subst e
  exact own_ne hd.rowP.1 hd.block (by decide) hg
theorem dd_more (hd : DDx w S b s m1 m2 n1 n2 f h Pv ys) (hs : ∀ k, S k → S' k) (ht : There S' w) : DDx w S' b s m1 m2 n1 n2 f h Pv ys :=
  ⟨hs _ hd.here, hd.block, hs _ hd.in1, hs _ hd.in2, hd.apart, hd.done, hd.late, hd.rowP.more hs, hd.eachP.more hs, hd.doneOf.more hs, hd.lateOf.more hs, hd.wf, hd.pos, hd.most, ht⟩
end
def RowsStay (w w' : World) : Prop := ∀ (k : Nat) (o : Array Value), w.heap[k]? = some (Obj.cells o 5 (0, 0)) → w'.heap[k]? = w.heap[k]?
theorem RowsStay.trans {w w1 w2 : World} (h : RowsStay w w1) (h' : RowsStay w1 w2) : RowsStay w w2 := fun k o ho => (h' k o ((h k o ho).trans ho)).trans (h k o ho)
theorem RowsStay.alloc {w w1 : World} (h : RowsStay w w1) (o : Obj) : RowsStay w (w1.alloc o) := fun k o' ho => (Below.heap_alloc w1 o k (row_lt ((h k o' ho).trans ho))).trans (h k o' ho)
theorem pend_any (S : Nat → Prop) (b n : Nat) (s : St) (m1 m2 n1 n2 : Nat) (f h : Int → Option Value) (Pv : Value) (ys : List Value) (v : Value) (l : List UInt8) (w : World) (hd : DDx w S b s m1 m2 n1 n2 f h Pv ys) (hv : IsBlk w S v l)
    (hn : n < s.L.length) (hP : s.P.length ≤ 1073741824) (hn2 : n2 ≤ 1073741824) :
    Calls Tryz.prog 90 #[.pointer (some ⟨b, 0, none⟩), .agg #[.int .i64 n, v]] w fun e w' =>
      e = .returned (.tuple #[]) ∧ ∃ S' Pv' ys', DDx w' S' b ⟨s.L, s.P ++ [(n, l)], s.N⟩ m1 m2 n1 (n2 + 1) f (upd h n v) Pv' ys' ∧ Ext S w w' ∧ In S' S w ∧ RowsStay w w' := by
  have hv0 := hv
  obtain ⟨g0, c, rest, rfl, hg0, hl, hc, hr⟩ := hv
  refine (pend_walk b n m2 n2 g0 c s.P.length Pv ys h _ _ _ w hd.block hd.rowP.1 hd.late (by have := hd.most; omega) hP hn2).mono ?_
  rintro e w' ⟨gg, cap, rfl, h1, h2, h3, h4, h5⟩
  obtain ⟨k1, k2⟩ := rows_stay (S := S) hd.block hd.late hd.rowP.1 h5
  have hs := h5.size
  have hsub : ∀ k, S k → Plus S w w' k := fun k hk => .inl hk
  refine ⟨rfl, Plus S w w', .slice (some ⟨gg, 0, none⟩) (s.P.length + 1) cap, _, ⟨.inl hd.here, h1, .inl hd.in1, .inl hd.in2, hd.apart, map_stays hd.done hd.apart k2, h4, ⟨by simpa using h2, fun g hg => ?_⟩,
    P_snoc ((hd.eachP.keep k1).more hsub) ((hv0.keep k1).more hsub), (hd.doneOf.keep k1).more hsub, late_snoc ((hd.lateOf.keep k1).more hsub) ((hv0.keep k1).more hsub), ⟨hd.wf.each, fun x hx => ?_⟩, hd.pos, hd.most, plus_there hd.there hs⟩,
    h5.more (fun k _ hk => ?_), plus_in, fun k o ho => (rows_stay (S := fun _ => True) hd.block hd.late hd.rowP.1 h5).1 k o trivial ho⟩
  · simp [Value.ownBlock] at hg
    subst hg
    rcases h3 with h3 | h3
    · exact .inl (hd.rowP.2 _ h3)
    · exact .inr ⟨h3, own_lt h2 _ (by simp [Value.ownBlock])⟩
  · rcases List.mem_append.1 hx with hx | hx
    · exact hd.wf.pend x hx
    · rw [List.mem_singleton.1 hx]; exact ⟨hn, hl⟩
  · rcases hk with e | e | e
    · subst e; exact hd.here
    · subst e; exact hd.in2
    · exact hd.rowP.2 _ e
set_option maxHeartbeats 800000 in
set_option maxRecDepth 100000 in
theorem Write_ok (S : Nat → Prop) (b n : Nat) (s : St) (l : List UInt8) (B : Nat) (A : Option Addr) (c : Nat) (w : World) (hd : DD w S b s) (hA : Sl w B A (l.map u8v)) (hB : B ≤ w.heap.size) (hn : n < s.L.length) (hl : l.length = 256) (hN : s.N ≤ 1073741824) :
    Calls Tryz.prog 56 #[.pointer (some ⟨b, 0, none⟩), .int .i64 n, .slice A 256 c] w fun e w' =>
      e = .returned (.int .i64 0) ∧ ∃ S', DD w' S' b (s.write n l) ∧ Ext S w w' ∧ In S' S w := by
  obtain ⟨m1, m2, n1, n2, f, h, Pv, ys, hx, q1, q2⟩ := hd
  obtain ⟨a, rfl⟩ : ∃ a, A = some a := by
    obtain ⟨a, h, _⟩ := hA.u8 (k := 0) (by omega)
    exact ⟨a, h⟩
  have hcl := Clone_any l B a c w hA hB (by omega)
  rw [hl] at hcl
  have HC := Lib.hid hcl
  have HX := Lib.hid hx
  have HL := Lib.hid hl
  have HB := Lib.hid hB
  have HQ1 := Lib.hid q1
  have HQ2 := Lib.hid q2
  have c0 := hx.c0
  have hnn : n < s.L.length := hn
  clear hcl hx hl hA hB q1 q2
  go_enter Tryz.func56, Tryz.ntmps56
  go_wp2_with (go_at_call 89; refine (has_yes b n s.L.length _ c0 hnn).mono ?_; rintro e w' ⟨rfl, rfl⟩)
  refine HC.out.mono ?_
  rintro e w1 ⟨v, rfl, ho1, hb1⟩
  have hblk := blk_of_own ho1 HL.out
  have hx1 := dd_more (S' := Plus S w w1) (HX.out.keep (fun k hk => hb1.block k (HX.out.there k hk)) hb1.size) (fun k hk => .inl hk) (plus_there HX.out.there hb1.size)
  have HX1 := Lib.hid hx1
  have HK := Lib.hid (hblk.more (S' := Plus S w w1) (fun k hk => .inr hk))
  have HE1 := Lib.hid (Ext.of_below hb1 S)
  have HS1 := Lib.hid hb1.size
  clear ho1 hb1 hblk hx1
  obtain ⟨g0, c0', rest, rfl, _⟩ := id HK.out
  go_wp2_with fail
  refine (pend_any (Plus S w w1) b n s m1 m2 n1 n2 f h Pv ys _ l w1 HX1.out HK.out hnn (by have := HQ1.out; omega) (by have := HQ1.out; have := HQ2.out; omega)).mono ?_
  rintro e w2 ⟨rfl, S', Pv', ys', hx2, he2, hi2, _⟩
  have d1 : w2.cell? ⟨b, 1, none⟩ = some (.int .i64 s.N) := hx2.c1
  have d2 := row_free hx2.block 1
  have HX2 := Lib.hid hx2
  have HE2 := Lib.hid he2
  have HI2 := Lib.hid hi2
  clear hx2 he2 hi2
  go_wp2
  go_ret
  refine ⟨rfl, S', ⟨m1, m2, n1, n2 + 1, f, _, Pv', ys', dd_setN HX2.out (s.N + 1), ?_, ?_⟩, ((HE1.out.trans HE2.out plus_in).setCell (.inl HX.out.here) _), plus_in.trans HI2.out HS1.out⟩
  · have := HQ1.out; simp [St.write]; omega
  · have := HQ2.out; simp [St.write]; omega
end Go.Proofs.YtgjcbfdhpbkhoaaGreatDoor.DWrite
/- The program's disk: settle, Flush and Crash. (Written by wip/tools/gen_settle.py.) -/
namespace Go.Proofs.YtgjcbfdhpbkhoaaGreatDoor.DSettle
open Go.RowKit WMem WPlain WAppend Ext Map DPlain DMem Mk DBase DRead DPend DWrite
theorem done_set {w : World} {S : Nat → Prop} {f : Int → Option Value} {L : List (List UInt8)} {n : Nat} {v : Value} {l : List UInt8} (h : DoneOf w S f L) (hn : n < L.length) (hv : IsBlk w S v l) : DoneOf w S (upd f n v) (L.set n l) := by
  refine ⟨fun k u hu => ?_, fun k hk hf => ?_⟩
  · unfold upd at hu
    by_cases e : k = (n : Int)
    · rw [if_pos e] at hu
      injection hu with hu
      subst hu
      exact ⟨n, by simpa using hn, e, by simpa using hv⟩
    · rw [if_neg e] at hu
      obtain ⟨j, hj, h1, h2⟩ := h.1 k u hu
      exact ⟨j, by simpa using hj, h1, by rw [List.getElem_set_ne (by omega)]; exact h2⟩
  · unfold upd at hf
    by_cases e : (k : Int) = (n : Int)
    · rw [if_pos e] at hf; cases hf
    · rw [if_neg e] at hf
      rw [List.getElem_set_ne (by omega)]
      exact h.2 k (by simpa using hk) hf
theorem four_at {w : World} {b : Nat} {a0 a1 a2 a3 a4 : Value} {T : TypeId} (h : w.heap[b]? = some (Obj.cells #[a0, a1, a2, a3, a4] T (0, 0))) (x : Value) (o : Obj) :
    ((w.setCell ⟨b, 3, none⟩ x).alloc o).cell? ⟨b, 4, none⟩ = some a4 ∧ ((w.setCell ⟨b, 3, none⟩ x).alloc o).frozen? ⟨b, 4, none⟩ = false := by
  have h1 := row_alloc (row_set h 3 x) o
  exact ⟨by rw [row_cell h1]; simp, row_free h1 4⟩
theorem all_stay {w w' : World} {S : Nat → Prop} {b m1 m2 n1 n2 : Nat} {s : St} {f h : Int → Option Value} {Pv : Value} {ys : List Value} (hd : DDx w S b s m1 m2 n1 n2 f h Pv ys) (he : Ext (fun j => j = m1) w w') :
    w'.heap[b]? = w.heap[b]? ∧ (∀ (k : Nat) (o : Array Value) (t : TypeId) (z : Nat × Nat), w.heap[k]? = some (Obj.cells o t z) → w'.heap[k]? = w.heap[k]?) := by
  have h1 : ∀ (k : Nat) (o : Array Value) (t : TypeId) (z : Nat × Nat), w.heap[k]? = some (Obj.cells o t z) → w'.heap[k]? = w.heap[k]? := fun k o t z hk => he.block k (row_lt hk) (fun e => hd.done.ne hk e)
  exact ⟨h1 b _ _ _ hd.block, h1⟩
theorem settle_end {w w' : World} {S : Nat → Prop} {b m1 m2 n1 n2 n : Nat} {s : St} {f h f' : Int → Option Value} {Pv : Value} {ys : List Value} {L' : List (List UInt8)} (hd : DDx w S b s m1 m2 n1 n2 f h Pv ys) (he : Ext (fun j => j = m1) w w')
    (hm : MapIs w' m1 n f') (hdo : DoneOf w' S f' L') (hL : L'.length = s.L.length) (hwf : ∀ l ∈ L', l.length = 256) :
    DDx (((w'.setCell ⟨b, 3, none⟩ (.slice none 0 0)).alloc (.map #[] 0)).setCell ⟨b, 4, none⟩ (.map (some w'.heap.size))) (Plus S w (w'.alloc (.map #[] 0))) b ⟨L', [], s.N⟩ m1 w'.heap.size n 0 f' (fun _ => none) (.slice none 0 0) [] ∧
    Ext S w (((w'.setCell ⟨b, 3, none⟩ (.slice none 0 0)).alloc (.map #[] 0)).setCell ⟨b, 4, none⟩ (.map (some w'.heap.size))) := by
  obtain ⟨hb, hrow⟩ := all_stay hd he
  have hb' := hb.trans hd.block
  have lb := row_lt hb'
  have q1 := row_set hb' 3 (.slice none 0 0)
  have q2 := row_alloc q1 (.map #[] 0)
  have q3 := row_set q2 4 (.map (some w'.heap.size))
  have hs := he.size
  have keep : ∀ k, k ≠ b → k < w'.heap.size → (((w'.setCell ⟨b, 3, none⟩ (.slice none 0 0)).alloc (.map #[] 0)).setCell ⟨b, 4, none⟩ (.map (some w'.heap.size))).heap[k]? = w'.heap[k]? := fun k hk hl => by
    rw [Below.heap_setCell _ _ _ _ (by simpa using hk), Below.heap_alloc _ _ _ (by simpa [World.setCell] using hl), Below.heap_setCell _ _ _ _ (by simpa using hk)]
  have kr : ∀ k o, S k → w'.heap[k]? = some (.cells o 5 (0, 0)) → (((w'.setCell ⟨b, 3, none⟩ (.slice none 0 0)).alloc (.map #[] 0)).setCell ⟨b, 4, none⟩ (.map (some w'.heap.size))).heap[k]? = w'.heap[k]? := fun k o _ ho => keep k (fun e => by
    subst e
    rw [hb'] at ho
    injection ho with ho
    injection ho with _ ho
    exact absurd ho (by decide)) (row_lt ho)
  have hsz : (w'.setCell ⟨b, 3, none⟩ (.slice none 0 0)).heap.size = w'.heap.size := by simp [World.setCell]
  have l1 : m1 < w'.heap.size := hm.lt
  refine ⟨⟨.inl hd.here, ?_, .inl hd.in1, .inr ⟨hs, by simp⟩, by omega, hm.keep (keep m1 (Ne.symm (hm.ne hb')) l1), ?_, ⟨World.ownsRow_nil _ _ _ _, fun g hg => (by cases hg)⟩, ⟨rfl, fun i hi => (by cases hi)⟩, (hdo.keep kr).more (fun k hk => .inl hk), ⟨fun k v hv => (by cases hv), fun _ _ => rfl⟩, ⟨hwf, fun x hx => (by cases hx)⟩, by rw [hL]; exact hd.pos, by rw [hL]; exact hd.most, ?_⟩, ?_⟩
  · rw [q3]; simp [hL]
  · have h1 := MapIs.made (w'.setCell ⟨b, 3, none⟩ (.slice none 0 0))
    rw [hsz] at h1
    exact h1.keep (Below.heap_setCell _ _ _ _ (by simp; omega))
  · intro k hk
    rcases hk with hk | hk
    · have := hd.there k hk; simp [World.setCell] at *; omega
    · have := hk.2; simp [World.setCell] at *; omega
  · exact ((((he.more (S' := S) (fun k _ hk => hk ▸ hd.in1)).setCell (.inl hd.here) _).alloc _).setCell (.inl hd.here) _)
set_option maxHeartbeats 1600000 in
set_option maxRecDepth 100000 in
theorem settle_all (S : Nat → Prop) (b : Nat) (s : St) (m1 m2 n1 n2 : Nat) (f h : Int → Option Value) (Pv : Value) (ys : List Value) (keeps : Nat → Bool) (w : World) (hd : DDx w S b s m1 m2 n1 n2 f h Pv ys)
    (hP : s.P.length ≤ 1073741824) (hn1 : n1 ≤ 1073741824)
    (hk : ∀ (wr : World) (i : Nat), Ext (fun j => j = m1) w wr → Calls Tryz.prog 92 #[.int .i64 i] wr fun e w' => e = .returned (.bool (keeps i)) ∧ wr = w') :
    Calls Tryz.prog 91 #[.pointer (some ⟨b, 0, none⟩), .func (.func 92) #[] #[]] w fun e w' =>
      e = .returned (.tuple #[]) ∧ ∃ S' m f', DDx w' S' b (s.settled keeps) m1 m (n1 + s.P.length) 0 f' (fun _ => none) (.slice none 0 0) [] ∧ Ext S w w' ∧ In S' S w := by
  obtain ⟨A, cap, hPv, hcap, hat⟩ := P_at hd.rowP hd.eachP
  subst hPv
  have c3 := hd.c3
  have HD := Lib.hid hd
  have HAT := Lib.hid hat
  have HK := Lib.hid hk
  have hmm := @run_makeMap Tryz.prog
  clear hd hat hk
  go_enter Tryz.func91, Tryz.ntmps91
  go_wp2
  go_loopw [11] (fun i wr => ∃ (k : Nat) (f' : Int → Option Value), k ≤ s.P.length ∧ i = .int .i64 k ∧ MapIs wr m1 (n1 + k) f' ∧ DoneOf wr S f' (doneTo keeps s.L s.P k) ∧ Ext (fun j => j = m1) w wr) (fun i _ => s.P.length - (intOf i).toNat)
  case atStart => exact ⟨0, f, Nat.zero_le _, rfl, HD.out.done, HD.out.doneOf, Ext.refl _ _⟩
  case round =>
    obtain ⟨k, f', hkk, rfl, hm, hdo, hext⟩ := hrel
    have HM := Lib.hid hm
    have HDO := Lib.hid hdo
    have HE := Lib.hid hext
    clear hm hdo hext
    by_cases hlt : k < s.P.length
    · obtain ⟨g, u, rfl, hg, p0, p1, hu⟩ := HAT.out k hlt
      have hpn := HD.out.wf.pend _ (List.getElem_mem hlt)
      have HPN := Lib.hid hpn.1
      obtain ⟨g0, c0, rest, rfl, hg0, hl, hc, hr⟩ := id hu
      have cell_at : ∀ q : Addr, q.block ≠ m1 → q.block < w.heap.size → wr.cell? q = w.cell? q := fun q h1 h2 => World.cell?_of_block (HE.out.block q.block h2 h1)
      have gm : g ≠ m1 := fun e => by
        subst e
        obtain ⟨D, ⟨es, cl, hb, _⟩, _⟩ := HD.out.done
        rw [World.cell?, hb] at p0
        cases p0
      have r0 := (cell_at ⟨g, k * 2, none⟩ gm (HD.out.there _ hg)).trans p0
      have r1 := (cell_at ⟨g, k * 2 + 1, none⟩ gm (HD.out.there _ hg)).trans p1
      have hk0 : (0 : Int) ≤ (k : Int) := Int.natCast_nonneg _
      have hk1 : (k : Int) < (s.P.length : Int) := by omega
      have HU := Lib.hid hu
      have hfit : s.P[k].1 ≤ 4096 := by have := HD.out.most; omega
      have HY := Lib.hid (doneTo_yes keeps s.L s.P hlt)
      clear hu cell_at p0 p1 hr hl hpn
      generalize s.P[k].1 = n at *
      generalize s.P[k].2 = lk at *
      go_wp2_with fail
      refine (HK.out (wr.alloc (.cells #[.int .i64 n, .slice (some ⟨g0, 0, none⟩) 256 c0] 100)) k (HE.out.alloc _)).mono ?_
      rintro e w' ⟨rfl, rfl⟩
      rcases Bool.eq_false_or_eq_true (keeps k) with hkp | hkp
      · rw [hkp]
        have HKP := Lib.hid hkp
        clear hkp
        obtain ⟨hb1, hrow1⟩ := all_stay HD.out (HE.out.alloc (.cells #[.int .i64 n, .slice (some ⟨g0, 0, none⟩) 256 c0] 100))
        have hrow0 := row_new wr (.cells #[.int .i64 n, .slice (some ⟨g0, 0, none⟩) 256 c0] 100)
        have hm1 := HM.out.alloc (.cells #[.int .i64 n, .slice (some ⟨g0, 0, none⟩) 256 c0] 100)
        have HE1 := Lib.hid (HE.out.alloc (.cells #[.int .i64 n, .slice (some ⟨g0, 0, none⟩) 256 c0] 100))
        generalize wr.alloc (.cells #[.int .i64 n, .slice (some ⟨g0, 0, none⟩) 256 c0] 100) = W1 at *
        have c2 : W1.cell? ⟨b, 2, none⟩ = some (.map (some m1)) := by rw [row_cell (hb1.trans HD.out.block)]; rfl
        have x0 : W1.cell? ⟨wr.heap.size, 0, none⟩ = some (.int .i64 n) := by rw [row_cell hrow0]; rfl
        have x1 : W1.cell? ⟨wr.heap.size, 1, none⟩ = some (.slice (some ⟨g0, 0, none⟩) 256 c0) := by rw [row_cell hrow0]; rfl
        obtain ⟨W2, hrun, hm2, hturn⟩ := (MapIs.keep (w' := W1.drew) hm1 rfl).store (fits_nat hfit) (by unfold maxLen; omega) (.slice (some ⟨g0, 0, none⟩) 256 c0)
        have hext2 : Ext (fun j => j = m1) w W2 := HE1.out.drew.trans (Ext.of_grown hturn.grown (fun k hk _ => (Option.some.inj hk).symm)) (fun k hk => .inl hk)
        have HM2 := Lib.hid hm2
        have HE2 := Lib.hid hext2
        clear hm2 hturn hext2 hm1 hb1 hrow1 hrow0
        go_wp2
        go_still_tail 8, (by kernel_rfl)
        go_wp2
        go_roundw
        case rel =>
          have kr : ∀ k o, S k → wr.heap[k]? = some (.cells o 5 (0, 0)) → W2.heap[k]? = wr.heap[k]? := fun j o hj ho => by
            have h1 := HD.out.there j hj
            have h0 : j ≠ m1 := fun e => HM.out.ne ho e
            rw [HE2.out.block j h1 h0, HE.out.block j h1 h0]
          have h2 : IsBlk W2 S _ lk := HU.out.keep (fun j o hj ho => (all_stay HD.out HE2.out).2 j _ _ _ ho)
          refine ⟨k + 1, _, by omega, by go_num, HM2.out, ?_, HE2.out⟩
          rw [HY.out HKP.out]
          exact done_set (HDO.out.keep kr) (by rw [doneTo_len]; exact HPN.out) h2
        case measure => simp [intOf]; omega
      · rw [hkp]
        have HKP := Lib.hid hkp
        clear hkp
        go_wp2
        go_roundw
        case rel =>
          refine ⟨k + 1, f', by omega, by go_num, (HM.out.alloc _).mono (by omega), ?_, HE.out.alloc _⟩
          rw [doneTo_no _ _ _ HKP.out]
          exact HDO.out.keep (fun j o hj ho => Below.heap_alloc wr _ j (row_lt ho))
        case measure => simp [intOf]; omega
    · obtain rfl : k = s.P.length := by omega
      have hb' := (all_stay HD.out HE.out).1.trans HD.out.block
      have d3 : wr.cell? ⟨b, 3, none⟩ = some _ := (row_cell hb' 3).trans rfl
      have e3 := row_free hb' 3
      have d4 : wr.cell? ⟨b, 4, none⟩ = some _ := (row_cell hb' 4).trans rfl
      have e4 := row_free hb' 4
      obtain ⟨d5, e5⟩ := four_at hb' (.slice none 0 0) (.map #[] 0)
      have HEND := Lib.hid (settle_end HD.out HE.out HM.out HDO.out (doneTo_len ..) (doneTo_each keeps HD.out.wf.each (fun x hx => (HD.out.wf.pend x hx).2) _))
      clear hb'
      go_wp2
      go_end0
      exact ⟨rfl, _, _, _, HEND.out.1, HEND.out.2, fun k hk => plus_in k hk⟩
end Go.Proofs.YtgjcbfdhpbkhoaaGreatDoor.DSettle
/- The program's disk: Flush and Crash. -/
namespace Go.Proofs.YtgjcbfdhpbkhoaaGreatDoor.DFlush
open Go.RowKit WMem WPlain WAppend Ext Map DPlain DMem Mk DBase DRead DPend DWrite DSettle
theorem yes_any (i : Nat) (w : World) : Calls Tryz.prog 92 #[.int .i64 i] w fun e w' => e = .returned (.bool true) ∧ w = w' := by
  go_enter Tryz.func92, Tryz.ntmps92
  go_wp2
  go_ret
  exact ⟨rfl, rfl⟩
set_option maxHeartbeats 800000 in
set_option maxRecDepth 100000 in
theorem Flush_ok (S : Nat → Prop) (b : Nat) (s : St) (w : World) (hd : DD w S b s) (hN : s.N ≤ 1073741824) :
    Calls Tryz.prog 57 #[.pointer (some ⟨b, 0, none⟩)] w fun e w' =>
      e = .returned (.tuple #[]) ∧ ∃ S', DD w' S' b s.flush ∧ Ext S w w' ∧ In S' S w := by
  obtain ⟨m1, m2, n1, n2, f, h, Pv, ys, hx, q1, q2⟩ := hd
  have c0 := hx.c0
  have hp : (0 : Int) < (s.L.length : Int) := by have := hx.pos; omega
  have hz : ((s.L.length : Int) == 0) = false := by rw [beq_eq_false_iff_ne]; omega
  have HX := Lib.hid hx
  have Q1 := Lib.hid q1
  clear hx q1 q2
  go_enter Tryz.func57, Tryz.ntmps57
  go_wp2_with (go_at_call 54; refine (Blocks_at b _ _ c0).mono ?_; rintro e w' ⟨rfl, rfl⟩)
  refine (settle_all S b s m1 m2 n1 n2 f h Pv ys (fun _ => true) w HX.out (by have := Q1.out; omega) (by have := Q1.out; omega) (fun wr i _ => yes_any i wr)).mono ?_
  rintro e w1 ⟨rfl, S', m, f', hx1, he, hi⟩
  have d1 : w1.cell? ⟨b, 1, none⟩ = some (.int .i64 s.N) := hx1.c1
  have d2 := row_free hx1.block 1
  have HX1 := Lib.hid hx1
  have HE := Lib.hid he
  have HI := Lib.hid hi
  clear hx1 he hi
  go_wp2
  go_end0
  refine ⟨rfl, S', ⟨m1, m, n1 + s.P.length, 0, f', _, _, _, dd_setN HX1.out (s.N + 1), ?_, Nat.le_refl _⟩, HE.out.setCell (.inl HX.out.here) _, HI.out⟩
  have := Q1.out
  simp [St.flush]
  omega
end Go.Proofs.YtgjcbfdhpbkhoaaGreatDoor.DFlush
/- The document's disk: New. And what an append to a row in a field leaves. -/
namespace Go.Proofs.YtgjcbfdhpbkhoaaGreatDoor.RNew
open Go.RowKit WMem WPlain WAppend Ext Map DPlain DMem Mk DBase DRead DPend DWrite
theorem infoB : (Tryz.prog.info? 22).map (fun i => (i.zero, i.size, i.bytes)) = some (some (.slice none 0 0), 1, 24) := by kernel_rfl
theorem underB : Tryz.prog.underlying 110 = some (.slice 22) := by kernel_rfl
theorem field_append {w W0 w1 : World} {g gg H fld base n k cap : Nat} {cs : Array Value} {T e : TypeId} {size : Nat} {Pv : Value} {ys zs : List Value} (hW : Below w.heap.size w W0) (hg : w.heap[g]? = some (.cells cs T (0, 0)))
    (ho : w.ownsRow base e size Pv n ys) (hne : e ≠ T) (hgrow : W0.grownBy w1 Pv.ownBlock) (hown1 : w1.ownsRow base e size (.slice (some ⟨gg, 0, none⟩) k cap) k zs) (hat : Pv.ownBlock = some gg ∨ gg = H) (hH : W0.heap.size ≤ H) :
    (w1.setCell ⟨g, fld, none⟩ (.slice (some ⟨gg, 0, none⟩) k cap)).heap[g]? = some (.cells (cs.setIfInBounds fld (.slice (some ⟨gg, 0, none⟩) k cap)) T (0, 0)) ∧
    (w1.setCell ⟨g, fld, none⟩ (.slice (some ⟨gg, 0, none⟩) k cap)).ownsRow base e size (.slice (some ⟨gg, 0, none⟩) k cap) k zs ∧
    Ext (fun j => j = g ∨ Pv.ownBlock = some j) w (w1.setCell ⟨g, fld, none⟩ (.slice (some ⟨gg, 0, none⟩) k cap)) ∧ (Pv.ownBlock = some gg ∨ w.heap.size ≤ gg) ∧ W0.heap.size ≤ (w1.setCell ⟨g, fld, none⟩ (.slice (some ⟨gg, 0, none⟩) k cap)).heap.size ∧
    (∀ j, j < W0.heap.size → j ≠ g → Pv.ownBlock ≠ some j → (w1.setCell ⟨g, fld, none⟩ (.slice (some ⟨gg, 0, none⟩) k cap)).heap[j]? = W0.heap[j]?) := by
  have hs := hW.size
  have lg := row_lt hg
  have ag : Pv.ownBlock ≠ some g := own_ne ho hg hne
  have hg1 : w1.heap[g]? = some (.cells cs T (0, 0)) := (hgrow.block g (by omega) (Ne.symm ag)).trans ((hW.block g lg).trans hg)
  have ngg : gg ≠ g := fun e => by
    rcases hat with h | h
    · exact ag (e ▸ h)
    · omega
  have hkeep : ∀ j, j < W0.heap.size → j ≠ g → Pv.ownBlock ≠ some j → (w1.setCell ⟨g, fld, none⟩ (.slice (some ⟨gg, 0, none⟩) k cap)).heap[j]? = W0.heap[j]? := fun j hj hjg hjp =>
    (Below.heap_setCell w1 ⟨g, fld, none⟩ _ j hjg).trans (hgrow.block j hj (Ne.symm hjp))
  refine ⟨row_set hg1 fld _, own_same hown1 (fun j hj => Below.heap_setCell w1 ⟨g, fld, none⟩ _ j (by simp [Value.ownBlock] at hj; subst hj; exact ngg)), ?_, ?_, by have := hgrow.size; simpa [World.setCell] using this, hkeep⟩
  · refine ⟨hgrow.os.trans hW.os, hgrow.tape.trans hW.tape, hgrow.output.trans hW.output, by have := hgrow.size; simp [World.setCell]; omega, fun j hj hn => ?_⟩
    have h1 : j ≠ g := fun e => hn (.inl e)
    have h2 : Pv.ownBlock ≠ some j := fun e => hn (.inr e)
    exact (hkeep j (by omega) h1 h2).trans (hW.block j hj)
  · rcases hat with h | h
    · exact .inl h
    · exact .inr (by omega)
theorem L_snoc {w : World} {S : Nat → Prop} {xs : List Value} {L : List (List UInt8)} {v : Value} {l : List UInt8} (h : LOf w S xs L) (hv : IsBlk w S v l) : LOf w S (xs ++ [v]) (L ++ [l]) := by
  refine ⟨by simp [h.1], fun i hi => ?_⟩
  by_cases e : i < L.length
  · obtain ⟨u, h1, h2⟩ := h.2 i e
    exact ⟨u, by rw [List.getElem?_append_left (by rw [h.1]; exact e)]; exact h1, by rw [List.getElem_append_left e]; exact h2⟩
  · have hi' : i = L.length := by simp at hi; omega
    subst hi'
    exact ⟨v, by rw [List.getElem?_append_right (by rw [h.1]; omega), h.1]; simp, by simpa using hv⟩
set_option maxHeartbeats 3200000 in
set_option maxRecDepth 100000 in
theorem RNew_yes (n : Nat) (w : World) (h0 : 128 ≤ n) (h1 : n ≤ 4096) :
    Calls Tryz.prog 34 #[.int .i64 n] w fun e w' => ∃ g, e = .returned (.tuple #[.pointer (some ⟨g, 0, none⟩), .int .i64 0]) ∧ RD w' (Made w w') g (St.new n) ∧ Below w.heap.size w w' := by
  obtain ⟨i0, hi0, hz0, hz1, hz2⟩ := info_parts infoB
  have hmk := make256
  have hn0 : (128 : Int) ≤ (n : Int) := by omega
  have hn1 : (n : Int) ≤ 4096 := by omega
  go_enter Tryz.func34, Tryz.ntmps34
  go_wp2
  go_loopw [5] (fun i wr => ∃ (k : Nat) (Lv : Value) (xs : List Value), k ≤ n ∧ i = .int .i64 k ∧ wr.heap[w.heap.size]? = some (.cells #[Lv, .slice none 0 0, .int .i64 0] 112 (0, 0)) ∧
      wr.ownsRow w.heap.size 22 1 Lv k xs ∧ LOf wr (Made w wr) xs (List.replicate k zeros) ∧ Below w.heap.size w wr) (fun i _ => n - (intOf i).toNat)
  case atStart => exact ⟨0, .slice none 0 0, [], Nat.zero_le _, rfl, row_new _ _, World.ownsRow_nil _ _ _ _, ⟨rfl, fun i hi => (by cases hi)⟩, (Below.refl _ _).alloc (Nat.le_refl _) _⟩
  case round =>
    obtain ⟨k, Lv, xs, hk, rfl, hb, ho, hL, hB⟩ := hrel
    have HB := Lib.hid hb
    have HO := Lib.hid ho
    have HL := Lib.hid hL
    have HBB := Lib.hid hB
    have lb := row_lt hb
    have c0 : wr.cell? ⟨w.heap.size, 0, none⟩ = some Lv := (row_cell hb 0).trans rfl
    have AB : Hid (Lv.ownBlock ≠ some w.heap.size) := own_ne ho hb (by decide)
    clear hb ho hL hB
    by_cases hlt : k < n
    · have HNEW : Hid (((wr.alloc (.cells (zrow 256) 5)).alloc (.cells #[.slice (some ⟨wr.heap.size, 0, none⟩) 256 256] 22)).drew.heap[wr.heap.size + 1]? = some (.cells #[.slice (some ⟨wr.heap.size, 0, none⟩) 256 256] 22 (0, 0))) := by
        have h1 := row_new (wr.alloc (.cells (zrow 256) 5)) (.cells #[.slice (some ⟨wr.heap.size, 0, none⟩) 256 256] 22)
        rw [World.size_alloc] at h1
        exact h1
      go_wp2_with fail
      go_region_law
        ((refine step_append_lies _ (by rfl) _ _ _ (by rfl) w.heap.size 22 i0 _ 1 24 underB hi0 hz0 hz1 hz2 rfl (by omega) Lv k xs (by rfl) (((HO.out.alloc _).alloc _).drew)
            ⟨wr.heap.size + 1, 0, none⟩ 1 1 [.slice (some ⟨wr.heap.size, 0, none⟩) 256 256] (by rfl) (by rfl) (World.news_of_block (cs := #[.slice (some ⟨wr.heap.size, 0, none⟩) 256 256]) (t := 22) (fr := (0, 0)) HNEW.out) (by simp [Value.oneCell'])
            (by omega) (by unfold maxLen; omega) (by omega) (by simp; omega) (wr.heap.size + 2) (by simp) ?_; intro gg cap w1 hown1 hgrow hat hlt2
          have k1 : w1.cell? ⟨w.heap.size, 0, none⟩ = some Lv := (hgrow.cell_far _ (by simp; omega) (Ne.symm AB.out)).trans ((row_cell (row_alloc (row_alloc HB.out _) _) 0).trans rfl)
          have k2 : w1.frozen? ⟨w.heap.size, 0, none⟩ = false := (hgrow.frozen_far _ (by simp; omega) (Ne.symm AB.out)).trans (row_free (row_alloc (row_alloc HB.out _) _) 0)))
      all_goals
        have hmem := field_append (fld := 0) (((Below.refl _ wr).alloc (Nat.le_refl _) _).alloc (by simp) _).drew HB.out HO.out (by decide) hgrow hown1 hat (by show (((wr.alloc _).alloc _)).heap.size ≤ _; simp)
        have HMEM := Lib.hid hmem
        have HG := Lib.hid hgrow
        clear hmem hown1 hgrow hat hlt2 k1 k2 HNEW c0
        generalize w1.setCell ⟨w.heap.size, 0, none⟩ (.slice (some ⟨gg, 0, none⟩) (k + 1) cap) = W1 at *
        go_wp2
        go_roundw
        case rel =>
          obtain ⟨q1, q2, q3, q4, q5, q6⟩ := HMEM.out
          have rows : ∀ (j : Nat) (o : Array Value), ((wr.alloc (.cells (zrow 256) 5)).alloc (.cells #[.slice (some ⟨wr.heap.size, 0, none⟩) 256 256] 22)).heap[j]? = some (Obj.cells o 5 (0, 0)) → j < wr.heap.size + 2 → W1.heap[j]? = some (Obj.cells o 5 (0, 0)) := fun j o ho hj => by
            refine (q6 j (by show j < ((wr.alloc _).alloc _).heap.size; simp; omega) (fun e => ?_) (fun e => ?_)).trans ho
            · subst e
              rw [row_alloc (row_alloc HB.out _) _] at ho
              injection ho with ho
              injection ho with _ ho
              exact absurd ho (by decide)
            · exact own_ne ((HO.out.alloc _).alloc _) ho (by decide) e
          have hsW : wr.heap.size + 2 ≤ W1.heap.size := by
            have h5 : ((wr.alloc (.cells (zrow 256) 5)).alloc (.cells #[.slice (some ⟨wr.heap.size, 0, none⟩) 256 256] 22)).heap.size ≤ W1.heap.size := q5
            simpa using h5
          have hbl := HBB.out.size
          have hnew : IsBlk W1 (Made w W1) (.slice (some ⟨wr.heap.size, 0, none⟩) 256 256) zeros := ⟨wr.heap.size, 256, [], rfl, ⟨hbl, by omega⟩, List.length_replicate, Nat.le_refl _, rows wr.heap.size _ (row_alloc (zrow_row wr 256) _) (by omega)⟩
          have hold : LOf W1 (Made w W1) xs (List.replicate k zeros) := (HL.out.keep (fun j o _ ho => (rows j o (row_alloc (row_alloc ho _) _) (by have := row_lt ho; omega)).trans ho.symm)).more (fun j hj => ⟨hj.1, by have := hj.2; omega⟩)
          refine ⟨k + 1, _, xs ++ [.slice (some ⟨wr.heap.size, 0, none⟩) 256 256], by omega, by go_num, by simpa using q1, q2, ?_, ?_⟩
          · rw [List.replicate_succ']
            exact L_snoc hold hnew
          · refine HBB.out.trans (q3.below (B := w.heap.size) hbl (fun j hj => ?_))
            rcases hj with h1 | h1
            · omega
            · exact own_ge HO.out _ h1
        case measure => simp [intOf]; omega
    · obtain rfl : k = n := by omega
      go_wp2
      go_ret2
      have ho := HO.out
      refine ⟨w.heap.size, rfl, ⟨Lv, .slice none 0 0, xs, [], ⟨⟨Nat.le_refl _, lb⟩, HB.out, ⟨?_, fun g hg => ⟨own_ge ho g hg, own_lt ho g hg⟩⟩, ⟨World.ownsRow_nil _ _ _ _, fun g hg => (by cases hg)⟩, HL.out, ⟨rfl, fun i hi => (by cases hi)⟩, wf_new k, ?_, ?_, fun q hq => hq.2⟩⟩, HBB.out⟩
      · simpa [St.new] using own_base ho (fun g _ => Nat.zero_le g)
      · simpa [St.new] using h0
      · simpa [St.new] using h1
end Go.Proofs.YtgjcbfdhpbkhoaaGreatDoor.RNew
/- The document's disk: Read and Write. -/
namespace Go.Proofs.YtgjcbfdhpbkhoaaGreatDoor.RRead
open Go.RowKit WMem WPlain WAppend Ext Map DPlain DMem Mk DBase DRead DPend DWrite RNew
theorem L_at {w : World} {S : Nat → Prop} {v : Value} {xs : List Value} {L : List (List UInt8)} (h : OwnS w S 22 1 v L.length xs) (hl : LOf w S xs L) : ∃ A cap, v = .slice A L.length cap ∧ L.length ≤ cap ∧
    ∀ (i : Nat) (hi : i < L.length), ∃ g u, A = some ⟨g, 0, none⟩ ∧ S g ∧ w.cell? ⟨g, i, none⟩ = some u ∧ IsBlk w S u L[i] := by
  obtain ⟨A, cap, hv, hc, hall⟩ := own_cell1 h
  refine ⟨A, cap, hv, hc, fun i hi => ?_⟩
  obtain ⟨u, h1, h2⟩ := hl.2 i hi
  obtain ⟨g, hA, hg, hc1⟩ := hall _ _ h1
  exact ⟨g, u, hA, hg, hc1, h2⟩
end Go.Proofs.YtgjcbfdhpbkhoaaGreatDoor.RRead
