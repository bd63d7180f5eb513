/- The program's disk: pend, one write more that is pending. -/
import Derived.Test.YtphfidenjihgeaaDRead
import Derived.Deep.RegionLaw
import Derived.Deep.AppendLies
import Derived.StillTailTactics
namespace Go.Proofs.Ytphfidenjihgeaa.DPend
open Go.RowKit WMem WPlain WAppend Ext Map DPlain DMem Mk DBase DRead

theorem infoW : (Try.prog.info? 64).map (fun i => (i.zero, i.size, i.bytes)) = some (some (.agg #[.int .i64 0, .slice none 0 0]), 2, 32) := by kernel_rfl
theorem underW : Try.prog.underlying 47 = some (.slice 64) := by kernel_rfl

theorem pend_mem (b n m2 n2 g0 c N gg cap : Nat) (Pv : Value) (ys zs : List Value) (h : Int → Option Value) (d0 d1 d2 : Value) (w w1 : World)
    (hb : w.heap[b]? = some (.cells #[d0, d1, d2, Pv, .map (some m2)] 85 (0, 0)))
    (hown : w.ownsRow 0 64 2 Pv N ys) (hm : MapIs w m2 n2 h)
    (hown1 : w1.ownsRow 0 64 2 (.slice (some ⟨gg, 0, none⟩) (N + 1) cap) (N + 1) zs)
    (hgrow : ((w.alloc (.cells #[.int .i64 n, .slice (some ⟨g0, 0, none⟩) 256 c] 64)).alloc (.cells #[.int .i64 n, .slice (some ⟨g0, 0, none⟩) 256 c] 64)).drew.grownBy w1 Pv.ownBlock)
    (hat : Pv.ownBlock = some gg ∨ gg = w.heap.size + 2) :
    (w1.setCell ⟨b, 3, none⟩ (.slice (some ⟨gg, 0, none⟩) (N + 1) cap)).heap[b]? = some (.cells #[d0, d1, d2, .slice (some ⟨gg, 0, none⟩) (N + 1) cap, .map (some m2)] 85 (0, 0)) ∧
    (w1.setCell ⟨b, 3, none⟩ (.slice (some ⟨gg, 0, none⟩) (N + 1) cap)).heap[w.heap.size]? = some (.cells #[.int .i64 n, .slice (some ⟨g0, 0, none⟩) 256 c] 64 (0, 0)) ∧
    MapIs (w1.setCell ⟨b, 3, none⟩ (.slice (some ⟨gg, 0, none⟩) (N + 1) cap)) m2 n2 h ∧
    (w1.setCell ⟨b, 3, none⟩ (.slice (some ⟨gg, 0, none⟩) (N + 1) cap)).ownsRow 0 64 2 (.slice (some ⟨gg, 0, none⟩) (N + 1) cap) (N + 1) zs ∧
    Ext (fun k => k = b ∨ k = m2 ∨ Pv.ownBlock = some k) w (w1.setCell ⟨b, 3, none⟩ (.slice (some ⟨gg, 0, none⟩) (N + 1) cap)) ∧ (Pv.ownBlock = some gg ∨ w.heap.size ≤ gg) := by
  have ab : Pv.ownBlock ≠ some b := own_ne hown hb (by decide)
  have am : Pv.ownBlock ≠ some m2 := hm.own_ne hown
  have aw : Pv.ownBlock ≠ some w.heap.size := fun e => by have := own_lt hown _ e; omega
  have lb := row_lt hb
  have lm := hm.lt
  have nbm : b ≠ m2 := hm.ne hb
  have g1 : w1.heap[b]? = some (.cells #[d0, d1, d2, Pv, .map (some m2)] 85 (0, 0)) := (hgrow.block b (by simp; omega) (Ne.symm ab)).trans (row_alloc (row_alloc hb _) _)
  have g2 : w1.heap[w.heap.size]? = some (.cells #[.int .i64 n, .slice (some ⟨g0, 0, none⟩) 256 c] 64 (0, 0)) := (hgrow.block w.heap.size (by simp; omega) (Ne.symm aw)).trans (row_alloc (row_new w _) _)
  have g3 : w1.heap[m2]? = w.heap[m2]? := (hgrow.block m2 (by simp; omega) (Ne.symm am)).trans ((Below.heap_alloc _ _ _ (by simp; omega)).trans (Below.heap_alloc _ _ _ lm))
  have ngb : gg ≠ b := fun e => by
    rcases hat with h1 | h1
    · exact ab (e ▸ h1)
    · omega
  have hext : Ext (fun k => Pv.ownBlock = some k) w w1 := by
    have h1 := Ext.of_grown (S := fun k => Pv.ownBlock = some k) hgrow (fun k hk _ => hk)
    exact Ext.trans (((Ext.refl (fun k => Pv.ownBlock = some k) w).alloc _).alloc _) ⟨h1.os, h1.tape, h1.output, h1.size, h1.block⟩ (fun k hk => .inl hk)
  refine ⟨by simpa using row_set g1 3 (.slice (some ⟨gg, 0, none⟩) (N + 1) cap), (Below.heap_setCell w1 ⟨b, 3, none⟩ _ w.heap.size (by simp; omega)).trans g2, hm.keep ((Below.heap_setCell w1 ⟨b, 3, none⟩ _ m2 (Ne.symm nbm)).trans g3),
    own_same hown1 (fun k hk => Below.heap_setCell w1 ⟨b, 3, none⟩ _ k (by simp [Value.ownBlock] at hk; subst hk; simpa using ngb)), (hext.more (fun k _ hk => .inr (.inr hk))).setCell (.inl (.inl rfl)) _, ?_⟩
  rcases hat with h1 | h1
  · exact .inl h1
  · exact .inr (by omega)
theorem hm_own {w W : World} {g m n cap : Nat} {zs : List Value} (h : w.ownsRow 0 64 2 (.slice (some ⟨g, 0, none⟩) n cap) n zs) (ht : w.drew.mapTurned W m) (hk : (Value.slice (some ⟨g, 0, none⟩) n cap).ownBlock = some m) : False := by
  obtain ⟨es, clock, es', clock', hb, _⟩ := ht
  have hb' : w.heap[m]? = some (.map es clock) := hb
  rcases h.2 with ⟨h1, _⟩ | ⟨g', cap', cur, hv, _, hh, _⟩
  · cases h1
  · injection hv with hv _ _
    injection hv with hv
    injection hv with hv
    simp [Value.ownBlock] at hk
    subst hk
    subst hv
    rw [hh] at hb'
    cases hb'

set_option maxRecDepth 100000 in
set_option maxHeartbeats 3200000 in
theorem pend_walk (b n m2 n2 g0 c N : Nat) (Pv : Value) (ys : List Value) (h : Int → Option Value) (d0 d1 d2 : Value) (w : World)
    (hb : w.heap[b]? = some (.cells #[d0, d1, d2, Pv, .map (some m2)] 85 (0, 0)))
    (hown : w.ownsRow 0 64 2 Pv N ys) (hm : MapIs w m2 n2 h) (hn : n ≤ 4096) (hN : N ≤ 1073741824) (hn2 : n2 ≤ 1073741824) :
    Calls Try.prog 58 #[.pointer (some ⟨b, 0, none⟩), .agg #[.int .i64 n, .slice (some ⟨g0, 0, none⟩) 256 c]] w fun e w' =>
      ∃ gg cap, e = .returned (.tuple #[]) ∧ w'.heap[b]? = some (.cells #[d0, d1, d2, .slice (some ⟨gg, 0, none⟩) (N + 1) cap, .map (some m2)] 85 (0, 0)) ∧
        w'.ownsRow 0 64 2 (.slice (some ⟨gg, 0, none⟩) (N + 1) cap) (N + 1) (ys ++ [.int .i64 n, .slice (some ⟨g0, 0, none⟩) 256 c]) ∧ (Pv.ownBlock = some gg ∨ w.heap.size ≤ gg) ∧
        MapIs w' m2 (n2 + 1) (upd h n (.slice (some ⟨g0, 0, none⟩) 256 c)) ∧ Ext (fun k => k = b ∨ k = m2 ∨ Pv.ownBlock = some k) w w' := by
  obtain ⟨i0, hi0, hz0, hz1, hz2⟩ := info_parts infoW
  have ab : Pv.ownBlock ≠ some b := own_ne hown hb (by decide)
  have am : Pv.ownBlock ≠ some m2 := hm.own_ne hown
  have lb := row_lt hb
  have c3 : w.cell? ⟨b, 3, none⟩ = some Pv := by rw [row_cell hb]; rfl
  have f3 := row_free hb 3
  have c4 : w.cell? ⟨b, 4, none⟩ = some (.map (some m2)) := by rw [row_cell hb]; rfl
  have HB := Lib.hid hb
  have HM := Lib.hid hm
  have HO := Lib.hid hown
  have AB := Lib.hid ab
  have AM := Lib.hid am
  have AW : Hid (Pv.ownBlock ≠ some w.heap.size) := fun e => by have := own_lt hown _ e; omega
  clear hb hm hown ab am
  go_enter Try.func58, Try.ntmps58
  go_wp2_with fail
  have f3a := row_free (row_alloc HB.out (.cells #[.int .i64 n, .slice (some ⟨g0, 0, none⟩) 256 c] 64)) 3
  have f3b := fun o : Obj => row_free (row_alloc (row_alloc HB.out (.cells #[.int .i64 n, .slice (some ⟨g0, 0, none⟩) 256 c] 64)) o) 3
  have HNEW : Hid (((w.alloc (.cells #[.int .i64 n, .slice (some ⟨g0, 0, none⟩) 256 c] 64)).alloc (.cells #[.int .i64 n, .slice (some ⟨g0, 0, none⟩) 256 c] 64)).drew.heap[w.heap.size + 1]? = some (.cells #[.int .i64 n, .slice (some ⟨g0, 0, none⟩) 256 c] 64 (0, 0))) := by
    have h1 := row_new (w.alloc (.cells #[.int .i64 n, .slice (some ⟨g0, 0, none⟩) 256 c] 64)) (.cells #[.int .i64 n, .slice (some ⟨g0, 0, none⟩) 256 c] 64)
    rw [World.size_alloc] at h1
    exact h1
  go_region_law
    ((refine step_append_lies _ (by rfl) _ _ _ (by rfl) 0 64 i0 _ 2 32 underW hi0 hz0 hz1 hz2 rfl (by omega) Pv N ys (by rfl) (((HO.out.alloc _).alloc _).drew)
        ⟨w.heap.size + 1, 0, none⟩ 1 1 [.int .i64 n, .slice (some ⟨g0, 0, none⟩) 256 c] (by rfl) (by rfl) (World.news_of_block (cs := #[.int .i64 n, .slice (some ⟨g0, 0, none⟩) 256 c]) (t := 64) (fr := (0, 0)) HNEW.out) (by simp [Value.oneCell'])
        (by omega) (by unfold maxLen; omega) (by omega) (by omega) (w.heap.size + 2) (by simp) ?_; intro gg cap w1 hown1 hgrow hat hlt
      have k1 : w1.cell? ⟨b, 3, none⟩ = some Pv := (hgrow.cell_far _ (by simp; omega) (Ne.symm AB.out)).trans ((row_cell (row_alloc (row_alloc HB.out _) _) 3).trans rfl)
      have k2 : w1.frozen? ⟨b, 3, none⟩ = false := by rw [hgrow.frozen_far _ (by simp; omega) (Ne.symm AB.out)]; exact f3b _))
  all_goals
    have hmem := pend_mem b n m2 n2 g0 c N gg cap Pv ys _ h d0 d1 d2 w w1 HB.out HO.out HM.out hown1 hgrow hat
    clear hown1 hgrow hat hlt k1 k2
    generalize w1.setCell ⟨b, 3, none⟩ (.slice (some ⟨gg, 0, none⟩) (N + 1) cap) = W1 at *
    obtain ⟨q1, q2, q3, q4, q5, q6⟩ := hmem
    have q7 : Hid (b ≠ m2) := HM.out.ne HB.out
    have r4 : W1.cell? ⟨b, 4, none⟩ = some (.map (some m2)) := by rw [row_cell q1]; rfl
    have r0 : W1.cell? ⟨w.heap.size, 0, none⟩ = some (.int .i64 n) := by rw [row_cell q2]; rfl
    have r1 : W1.cell? ⟨w.heap.size, 1, none⟩ = some (.slice (some ⟨g0, 0, none⟩) 256 c) := by rw [row_cell q2]; rfl
    obtain ⟨W2, hrun, hm2, hturn⟩ := (MapIs.keep (w' := W1.drew) q3 rfl).store (fits_nat hn) (by unfold maxLen; omega) (.slice (some ⟨g0, 0, none⟩) 256 c)
    have H1 := Lib.hid q1
    have H4 := Lib.hid q4
    have H5 := Lib.hid q5
    have H6 := Lib.hid q6
    have HM2 := Lib.hid hm2
    have HT := Lib.hid hturn
    clear q1 q2 q3 q4 q5 q6 hm2 hturn f3a f3b HNEW c3 f3 c4
    go_wp2
    go_still_tail 8, (by kernel_rfl)
    go_wp2
    go_end0
    exact ⟨gg, cap, rfl, (HT.out.grown.block b (row_lt H1.out) (fun e => q7.out (by injection e))).trans H1.out, own_same H4.out (fun k hk => HT.out.grown.block k (own_lt H4.out k hk) (fun e => by
      injection e with e; subst e; exact hm_own H4.out HT.out hk)), H6.out, HM2.out, H5.out.drew.trans (Ext.of_grown HT.out.grown (fun k hk _ => (.inr (.inl (Option.some.inj hk).symm)))) (fun k hk => .inl hk)⟩
end Go.Proofs.Ytphfidenjihgeaa.DPend
