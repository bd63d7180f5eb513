/- The store: Back. -/
import Derived.Test.YtgkindoidmglnaaGreatDoorMg36
import Derived.Test.YtgkindoidmglnaaGreatDoorMg37
import Derived.Test.YtgkindoidmglnaaGreatDoorMg27
import Derived.Test.YtgkindoidmglnaaGreatDoorMg38
import Derived.Test.YtgkindoidmglnaaGreatDoorMg3
namespace Go.Proofs.YtgkindoidmglnaaGreatDoor.EBack
open Go.RowKit Go.Shelf WMem WPlain WAppend Ext Map DPlain DMem Mk DBase DRead DWrite EPlain EMem ECache EFace EUnwrite EPush EUndo EIter EWrite


set_option maxRecDepth 100000 in
set_option maxHeartbeats 400000 in
/-- nothing is taken out -/
theorem Del_same (A : Option Addr) (n cap : Nat) (w : World) (_h1 : n ≤ cap) (_h2 : n ≤ 1073741824) :
    Calls Tryz.prog 101 #[.slice A n cap, .int .i64 n, .int .i64 n] w fun e w' => e = .returned (.slice A n cap) ∧ w = w' := by
  go_enter Tryz.func101, Tryz.ntmps101
  go_wp2
  go_ret
  exact ⟨rfl, rfl⟩
/-- the end of a row is taken off -/
theorem Del_tail {w : World} {S : Nat → Prop} {Uv : Value} {L m : Nat} {us : List Value} (h : OwnS w S 1 1 Uv L us) (hus : us.length = L) (hm : m ≤ L) (hL : L ≤ 1073741824) : ∃ A cap, Uv = .slice A L cap ∧ L ≤ cap ∧
    Calls Tryz.prog 101 #[.slice A L cap, .int .i64 m, .int .i64 L] w fun e w' => e = .returned (.slice A m cap) ∧ OwnS w' S 1 1 (.slice A m cap) m (us.take m) ∧ ((m = L ∧ w = w') ∨ w.grownBy w' Uv.ownBlock) := by
  obtain ⟨A, cap, rfl, hc, _⟩ := own_cell1 h
  refine ⟨A, cap, rfl, hc, ?_⟩
  by_cases e : m = L
  · subst e
    refine (Del_same A m cap w hc hL).mono ?_
    rintro e w' ⟨rfl, rfl⟩
    rw [List.take_of_length_le (by omega)]
    exact ⟨rfl, h, .inl ⟨rfl, rfl⟩⟩
  · have hlt : m < L := by omega
    obtain ⟨ho, hS⟩ := h
    obtain ⟨gU, cap', hv, -, _⟩ := ho.form (by omega)
    cases hv
    have hsplit : us = us.take m ++ (us.drop m ++ []) := by rw [List.append_nil, List.take_append_drop]
    have lt : (us.take m).length = m := by rw [List.length_take]; omega
    have ld : (us.drop m).length = L - m := by rw [List.length_drop]; omega
    have hd := EDelF.Delete_own gU cap (us.take m) (us.drop m) [] (L : Int) w (by omega) (by omega) (by rw [← hsplit]; omega) (fun u hu => by cases hu) (by rw [← hsplit, hus]; exact ho)
    rw [← hsplit, hus, lt] at hd
    refine hd.mono ?_
    rintro e w' ⟨rfl, h1, h2⟩
    rw [List.append_nil, lt] at h1 ⊢
    exact ⟨rfl, ⟨h1, fun q hq => hS q hq⟩, .inr h2⟩

theorem slice_tail (gU n m cap : Nat) (h1 : m ≤ n) (_h2 : n ≤ cap) (_h3 : n ≤ 1073741824) (W : World) :
    (Instr.slice 71 (.slice (some ⟨gU, 0, none⟩) n cap) (some (.int .i64 (m : Int))) none none).run Tryz.prog W = .ok (.slice (if cap = m then some ⟨gU, 0, none⟩ else some ⟨gU, m, none⟩) (n - m) (cap - m)) W := by
  go_simp
theorem slice_none (W : World) :
    (Instr.slice 71 (.slice none 0 0) (some (.int .i64 ((0 : Nat) : Int))) none none).run Tryz.prog W = .ok (.slice none 0 0) W := by
  go_simp
/-- a row from its element m on -/
theorem tail_of {w : World} {S : Nat → Prop} {A : Option Addr} {n cap m : Nat} {us : List Value} (h : OwnS w S 1 1 (.slice A n cap) n us) (hus : us.length = n) (hm : m ≤ n) (hn : n ≤ 1073741824) :
    ∃ A' cap' gU, (∀ W : World, (Instr.slice 71 (.slice A n cap) (some (.int .i64 (m : Int))) none none).run Tryz.prog W = .ok (.slice A' (n - m) cap') W) ∧ RowAt w A' gU (us.drop m) ∧ (n - m = 0 ∨ S gU) := by
  obtain ⟨ho, hS⟩ := h
  rcases ho.2 with ⟨he, h0⟩ | ⟨gU, cap2, cur, he, _, hg, hnc, hcm, hcs, ht⟩
  · cases he
    obtain rfl : m = 0 := by omega
    refine ⟨none, 0, 0, fun W => slice_none W, .inl ?_, .inl rfl⟩
    rw [List.eq_nil_of_length_eq_zero hus]; rfl
  · cases he
    refine ⟨_, _, gU, fun W => slice_tail gU n m cap hm hnc hn W, ?_, .inr (hS gU rfl)⟩
    by_cases e : n = m
    · exact .inl (List.drop_eq_nil_of_le (by omega))
    · refine .inr ⟨m, cur, _, by rw [if_neg (by omega)], hg, fun i hi => ?_⟩
      rw [List.length_drop] at hi
      rw [List.getElem?_drop]
      have h1 : (cur.toList.take (n * 1))[m + i]? = us[m + i]? := by rw [ht]
      rw [List.getElem?_take, if_pos (by omega)] at h1
      rw [← h1]; simp

/-- a piece of code that comes to its end, and to no other -/
def OnlyN (Q : Exit → Act → World → Prop) : Exit → Act → World → Prop
  | .normal, a, w => Q .normal a w
  | _, _, _ => False
theorem only_normal {Q : Exit → Act → World → Prop} {a : Act} {w : World} : OnlyN Q .normal a w = Q .normal a w := rfl
theorem wp_only {P : Program} {c : Code} {Q : Exit → Act → World → Prop} {a : Act} {w : World} (h : c.wp P (OnlyN Q) a w) : c.wp P Q a w :=
  wp_mono h fun e a w q => by
    cases e with
    | normal => exact q
    | _ => exact q.elim

/-- what a round leaves -/
def BI (w : World) (ρ : Ro) (b db m1 m2 m3 g : Nat) (s : Sto) (Uv : Value) (us : List Value) (pre : List Nat) (W : World) : Prop :=
  ∃ now', SSx W ρ b db { s with now := now' } m1 m2 m3 g Uv us ∧ (pre = List.range pre.length → now' = undoAll (s.acts.drop (s.acts.length - pre.length)) s.now) ∧ Ext (Mine ρ) w W
theorem BI.own {w : World} {ρ : Ro} {b db m1 m2 m3 g B : Nat} {s : Sto} {Uv : Value} {us : List Value} (hB : w.heap.size ≤ B) (ht : There (Mine ρ) w) : OwnFrom B (BI w ρ b db m1 m2 m3 g s Uv us) := by
  rintro pre X Y row ⟨now', h1, h2, h3⟩ hg hr
  refine ⟨now', h1.keep (fun k hk => hg.block k (h1.there k hk) (fun e => ?_)) (fun _ _ => rfl) (h1.there.up hg.size), h2, h3.trans (Ext.of_grown (S := fun q => w.heap.size ≤ q) hg (fun k hk _ => ?_)) (fun q hq => .inr hq)⟩
  · have := (hr k e.symm).1
    have := ht k hk
    omega
  · have := (hr k hk).1
    omega

/-- the call's own slots while a round is under way -/
def BA (b m N n : Nat) (A : Option Addr) (cap : Nat) (A' : Option Addr) (L cap' Bx : Nat) (vs : List Value) (x : Nat) (a' : Act) (_W : World) : Prop :=
  a' = { tmps := #[.pointer (some ⟨b, 0, none⟩), .int .i64 (m : Int), undef, undef, .int .i64 0, undef, el vs x, .pointer (some ⟨b, 0, none⟩), .int .i64 (N : Int), .bool false, .bool false, .int .i64 (m : Int), .bool false,
      .bool false, .bool false, .int .i64 (m : Int), .pointer (some ⟨b, 0, none⟩), .int .i64 (n : Int), .bool false, .bool false, .pointer (some ⟨b, 0, none⟩), .pointer (some ⟨b, 0, none⟩), .pointer (some ⟨b, 6, none⟩), .slice A n cap, .int .i64 (m : Int),
      .slice A' L cap', .func (.func 126) #[] #[.pointer (some ⟨Bx, 0, none⟩)], .int .i64 (idx vs x), el vs x, undef, undef, undef, undef, undef, undef, undef, undef, undef, undef, undef, undef, undef, undef, undef, undef], defers := [] }
/-- a round: the element's deed is undone -/
theorem round_of {w W : World} {ρ : Ro} {b db m1 m2 m3 g m x : Nat} {s : Sto} {Uv : Value} {us : List Value} {pre : List Nat} (hwf : s.Wf) (hm : m ≤ s.acts.length) (hus : us.length = s.acts.length) (hI : BI w ρ b db m1 m2 m3 g s Uv us pre W) (hlt : pre.length < s.acts.length - m) :
    ∃ f cs, el (us.drop m) x = .func (.func f) #[] cs ∧
      ((f = 147 ∧ ∃ x y, cs = #[x, y]) ∨ (f = 148 ∧ ∃ x y z, cs = #[x, y, z]) ∨ (f = 131 ∧ cs = #[]) ∨ (f = 132 ∧ ∃ x y, cs = #[x, y])) ∧
      Calls Tryz.prog f cs W fun e W' => e = .returned (.tuple #[]) ∧ BI w ρ b db m1 m2 m3 g s Uv us (pre ++ [x]) W' ∧ Ext (isM ρ) W W' := by
  obtain ⟨now', h1, h2, h3⟩ := hI
  have hl : (us.drop m).length = s.acts.length - m := by rw [List.length_drop, hus]
  obtain ⟨j, hj⟩ : ∃ j, (us.drop m).length - 1 - x = j := ⟨_, rfl⟩
  have hjm : m + j < s.acts.length := by omega
  obtain ⟨v, hv, ha⟩ := h1.acts.2 (m + j) hjm
  have hg : (us.drop m).getD j .nilFunc = v := by rw [List.getD_eq_getElem?_getD, List.getElem?_drop, hv]; rfl
  have hfine : (s.acts[m + j]).Fine s.N := hwf.fine _ (List.getElem_mem hjm)
  obtain ⟨f, cs, hvf, hcs, hcall⟩ := undo_own h1 (Nat.le_trans hwf.most (Nat.le_refl _)) ha hfine
  refine ⟨f, cs, by unfold el; rw [hj, hg]; exact hvf, hcs, hcall.mono ?_⟩
  rintro e W' ⟨rfl, q1, q2⟩
  refine ⟨rfl, ⟨_, q1, fun hp => ?_, h3.trans q2 (fun q hq => ?_)⟩, q2⟩
  · have hp2 : pre = List.range pre.length ∧ x = pre.length := by
      rw [List.length_append, List.length_singleton, List.range_succ] at hp
      obtain ⟨e1, e2⟩ := List.append_inj' hp rfl
      exact ⟨e1, by simpa using e2⟩
    have hx : x = pre.length := hp2.2
    rw [List.length_append, List.length_singleton]
    have e1 : s.acts.length - (pre.length + 1) = m + j := by omega
    have e2 : s.acts.length - pre.length = m + j + 1 := by omega
    rw [e1, List.drop_eq_getElem_cons hjm]
    show Deed.undo _ now' = Deed.undo _ _
    rw [h2 hp2.1, e2]
  · left
    rcases hq with hq | hq
    · exact mine_of hq (by intro e; cases e)
    · exact mine_of hq (by intro e; cases e)

/-- the row of what undoes has turned -/
theorem undo_turn {W w2 : World} {ρ : Ro} {b db m1 m2 m3 g m : Nat} {s : Sto} {Uv v' : Value} {us us' : List Value} {acts' : List Deed} (hx : SSx W ρ b db s m1 m2 m3 g Uv us) (far : ∀ q, q < W.heap.size → ρ q ≠ .undo → w2.heap[q]? = W.heap[q]?) (hs : W.heap.size ≤ w2.heap.size)
    (hu : OwnS w2 (At ρ .undo) 1 1 v' m us') (ha : ActsAre W ρ b us' acts') (hl : acts'.length = m) : SSx (w2.setCell ⟨b, 6, none⟩ v') ρ b db { s with acts := acts' } m1 m2 m3 g v' us' := by
  subst hl
  have far2 : ∀ q, Mine ρ q → ρ q ≠ .undo → ρ q ≠ .store → (w2.setCell ⟨b, 6, none⟩ v').heap[q]? = W.heap[q]? := fun q q1 q2 q3 => (Below.heap_setCell w2 _ _ q (role_ne hx.rb q3)).trans (far q (hx.there q q1) q2)
  have kst : ∀ q, ρ q = .still → (w2.setCell ⟨b, 6, none⟩ v').heap[q]? = W.heap[q]? := fun q hq => far2 q (mine_still q hq) (by rw [hq]; intro e; cases e) (by rw [hq]; intro e; cases e)
  refine ⟨?_, hx.rb, hx.chg.keep kst (fun _ h => h) (far2 _ (mine_of hx.chg.1 (by intro e; cases e)) (by rw [hx.chg.1]; intro e; cases e) (by rw [hx.chg.1]; intro e; cases e)) rfl,
    hx.wai.keep kst (fun _ h => h) (far2 _ (mine_of hx.wai.1 (by intro e; cases e)) (by rw [hx.wai.1]; intro e; cases e) (by rw [hx.wai.1]; intro e; cases e)) rfl,
    hx.hld.keep (far2 _ (mine_of hx.hld.1 (by intro e; cases e)) (by rw [hx.hld.1]; intro e; cases e) (by rw [hx.hld.1]; intro e; cases e)) rfl,
    hx.cac.keep (fun q hq => ?_) (fun _ _ => rfl), OwnS.part hu (fun q hq => Below.heap_setCell w2 _ _ q (role_ne hx.rb (by rw [hq]; intro e; cases e))) (fun _ h => h), ha.keep kst (fun _ h => h), hx.there.up (by simp [World.setCell]; exact hs)⟩
  · have h5 := row_set ((far b (row_lt hx.block) (by rw [hx.rb]; intro e; cases e)).trans hx.block) 6 v'
    simpa using h5
  · rcases hq with hq | hq
    · exact kst q hq
    · exact far2 q (mine_c hq) (fun e => by rw [e] at hq; exact hq) (fun e => by rw [e] at hq; exact hq)

set_option maxRecDepth 100000 in
set_option maxHeartbeats 3200000 in
theorem Back_ok {w : World} {ρ : Ro} {D : Nat → Prop} {b db m : Nat} {s : Sto} (h : EFace.Own w ρ D b db s) (hm : m ≤ s.acts.length) (hload : s.load ≤ 1073741824) :
    CallsIn Fence.wide 6 Tryz.prog 58 #[.pointer (some ⟨b, 0, none⟩), .int .i64 m] w fun e w' => e = .returned (.int .i64 0) ∧ Goes w w' ρ D ρ D b db (s.back m) := by
  have hN := h.len
  have hal : s.acts.length ≤ 1073741824 := by unfold Sto.load at hload; omega
  have HBL := Lib.hid (Blocks_own h)
  have HMK := Lib.hid (Mark_own h hal)
  obtain ⟨m1, m2, m3, g, Uv, us, hx, hwf⟩ := h.ss
  have c6 := hx.c6
  have hus : us.length = s.acts.length := hx.acts.1
  obtain ⟨A, cap, hUv, hcap, hcells⟩ := own_cell1 hx.undo
  have g0 : ((s.N : Int) == 0) = false := by rw [beq_eq_false_iff_ne]; omega
  have g1 : decide ((m : Int) < 0) = false := by simp
  have g2 : decide ((s.acts.length : Int) < (m : Int)) = false := by simp; omega
  have HX := Lib.hid hx
  have HW := Lib.hid hwf
  have HO := Lib.hid h
  have HUS := Lib.hid hus
  have HCE := Lib.hid hcells
  subst hUv
  clear hx hwf h hus hcells
  obtain ⟨A', cap', gU, hsl, hrow, hgU⟩ := tail_of HX.out.undo HUS.out hm hal
  obtain ⟨L, hL⟩ : ∃ L, s.acts.length - m = L := ⟨_, rfl⟩
  rw [hL] at hsl hgU
  have hsl' := hsl w
  have g3 : decide (s.acts.length < m) = false := by simp; omega
  have HL := Lib.hid hL
  have HR := Lib.hid hrow
  have HGU := Lib.hid hgU
  clear hL hrow hgU hsl
  refine callsIn_of_wp_marks Tryz.func58 rfl trivial ?_ rfl
  simp only [Tryz.ntmps58, List.size_toArray, List.length_cons, List.length_nil, Nat.reduceAdd, Nat.reduceSub, Array.replicate_succ, Array.replicate_zero, List.push_toArray, List.append_toArray, List.nil_append, List.cons_append]
  gi_wp2_with fail
  refine ⟨trivial, (callsIn_wide.2 HBL.out).mono ?_⟩
  rintro e w' ⟨rfl, rfl⟩
  gi_wp2_with fail
  refine ⟨trivial, (callsIn_wide.2 HMK.out).mono ?_⟩
  rintro e w' ⟨rfl, rfl⟩
  gi_wp2_with fail
  refine ⟨trivial, (back_in _ _ _ _ _).mono ?_⟩
  rintro e w' ⟨rfl, rfl⟩
  gi_wp2_with fail
  have hone : ∀ v ∈ us.drop m, ∃ f cs, v = .func (.func f) #[] cs := fun v hv => by
    obtain ⟨k, hk⟩ := List.mem_iff_getElem?.1 (List.mem_of_mem_drop hv)
    have hlt := (List.getElem?_eq_some_iff.1 hk).1
    obtain ⟨v', h1, h2⟩ := HX.out.acts.2 k (by rw [← HUS.out]; exact hlt)
    rw [hk] at h1
    injection h1 with h1
    subst h1
    exact act_func h2
  have hlenv : (us.drop m).length = L := by rw [List.length_drop, HUS.out]; exact HL.out
  have hrw : RowAt (w.alloc (.cells #[.slice A' L cap'] 71)) A' gU (us.drop m) := by
    rcases HR.out with h | ⟨o, cs, T, e1, e2, e3⟩
    · exact .inl h
    · exact .inr ⟨o, cs, T, e1, row_alloc e2 _, e3⟩
  have HST := Lib.hid (back_stops 5 (by omega) w.heap.size gU cap' L A' (us.drop m) hlenv (by have := HL.out; omega) hone _ (row_new w _) hrw)
  have HLV := Lib.hid hlenv
  have hB0 : BI w ρ b db m1 m2 m3 g s (.slice A s.acts.length cap) us [] (w.alloc (.cells #[.slice A' L cap'] 71)) := by
    have hb := (Below.refl w.heap.size w).alloc (Nat.le_refl _) (.cells #[.slice A' L cap'] 71)
    refine ⟨s.now, HX.out.keep (fun k hk => hb.block k (HX.out.there k hk)) (fun _ _ => rfl) (HX.out.there.up hb.size), fun _ => ?_, (Ext.refl _ _).alloc _⟩
    rw [List.length_nil, Nat.sub_zero, List.drop_length]
    rfl
  have HB0 := Lib.hid hB0
  clear hone hlenv hrw hB0
  have hsz : (w.alloc (.cells #[.slice A' L cap'] 71)).heap.size = w.heap.size + 1 := by simp
  generalize hW0 : w.alloc (.cells #[.slice A' L cap'] 71) = W0 at *
  refine wpIn_rangeFunc_ownH rfl (by omega) (gf := 126) (lb := #[.pointer (some ⟨w.heap.size, 0, none⟩)]) rfl trivial (enters_of Tryz.func126 (by kernel_rfl) rfl)
    HST.out CKeep.trans (fun W l o o' _ h hc _ => CKeep.turn W l o o' h hc) (Below.refl _ _) (fun _ => rfl) (BI w ρ b db m1 m2 m3 g s (.slice A s.acts.length cap) us) (fun _ _ _ => False) ?hI ?hIx HB0.out (BA b m s.N s.acts.length A cap A' L cap' w.heap.size (us.drop m)) ?hAx ?assign ?body ?done ?stop
  case hI => exact BI.own (by omega) HX.out.there
  case hIx => intro c; exact fun _ _ _ _ hs _ _ => hs
  case hAx => intro x a'; exact fun _ _ _ _ hs _ _ => hs
  case assign =>
    intro lo pre x W K hi hK
    simp only [back]
    have hsem := @Oper.semAt_some lo
    gi_wp2
    exact hK _ _ (KeepsFrom.refl _ _) (CKeep.refl _ _) hi rfl
  case body =>
    rintro lo pre x a' W hlo - hI rfl hlt
    obtain ⟨f, cs, hf, hcs, hcall⟩ := round_of (x := x) HW.out hm HUS.out hI (by rw [HL.out]; exact hlt)
    have HC := Lib.hid hcall
    have HI := Lib.hid hI
    clear hcall hI
    simp only [hf]
    have hsem := @Oper.semAt_some lo
    rcases hcs with ⟨rfl, x1, x2, rfl⟩ | ⟨rfl, x1, x2, x3, rfl⟩ | ⟨rfl, rfl⟩ | ⟨rfl, x1, x2, rfl⟩
    all_goals
      gi_wp2_with fail
      refine ⟨trivial, ((callsIn_wide.2 HC.out).inRound lo).mono ?_⟩
      rintro e W3 ⟨rfl, hI3, he3⟩
      gi_wp2_with fail
      have hnm : ∀ q, isM ρ q → q < w.heap.size := fun q hq => HX.out.there q (by
        rcases hq with hq | hq
        · exact mine_of hq (by intro e; cases e)
        · exact mine_of hq (by intro e; cases e))
      refine ⟨⟨he3.size, fun k o hB hk _ => (he3.block k (row_lt hk) (fun hq => by have := hnm k hq; omega)).trans hk⟩, ?_, hI3⟩
      rintro k o (rfl | rfl) ho -
      · exact (he3.block _ (row_lt ho) (fun hq => by have := hnm _ hq; omega)).trans ho
      · refine (he3.block _ (row_lt ho) (fun hq => ?_)).trans ho
        rcases HGU.out with h0 | h0
        · omega
        · have h1 : ρ k = .undo := h0
          rcases hq with hq | hq
          · rw [h1] at hq; cases hq
          · rw [h1] at hq; cases hq
  case done =>
    rintro D' ys W hD rfl hI hK
    obtain ⟨now', h1, h2, h3⟩ := hI
    have hnow : now' = undoAll (s.acts.drop m) s.now := by
      rw [h2 (by rw [List.length_range]), List.length_range]
      congr 2
      have := HL.out
      omega
    subst hnow
    have c6' : W.cell? ⟨b, 6, none⟩ = some (.slice A s.acts.length cap) := h1.c6
    have HS1 := Lib.hid h1
    have HE1 := Lib.hid h3
    have HK := Lib.hid hK
    have hDl := row_lt hK
    clear h1 h2 h3 hK
    have hund : OwnS W.drew (At ρ .undo) 1 1 (.slice A s.acts.length cap) s.acts.length us := HS1.out.undo
    obtain ⟨A2, cap2, e2, _, hdel⟩ := Del_tail hund HUS.out hm hal
    cases e2
    have HDEL := Lib.hid hdel
    have hbW : b < W.heap.size := row_lt HS1.out.block
    have hnu : ρ D' ≠ .undo := fun e => by have := HX.out.there D' (mine_of e (by intro e; cases e)); omega
    have HNU := Lib.hid hnu
    clear hund hdel hnu
    gi_wp2_with fail
    refine wpIn_wide.2 (wp_only ?_)
    go_region_with
      ((go_at_call 101; refine HDEL.out.mono ?_; rintro e w2 ⟨rfl, hu2, hg2⟩
        have hfar : ∀ q, q < W.heap.size → ρ q ≠ .undo → w2.heap[q]? = W.heap[q]? := fun q q1 q2 => by
          rcases hg2 with ⟨_, rfl⟩ | hg2
          · rfl
          · exact hg2.block q q1 (fun e => q2 (HS1.out.undo.2 q e.symm))
        have hsz2 : W.heap.size ≤ w2.heap.size := by
          rcases hg2 with ⟨_, rfl⟩ | hg2
          · exact Nat.le_refl _
          · exact hg2.size
        have hext2 : Ext (Mine ρ) W w2 := by
          rcases hg2 with ⟨_, rfl⟩ | hg2
          · exact (Ext.refl _ _).drewN 1
          · exact ((Ext.refl (Mine ρ) W).drewN 1).trans (Ext.of_grown hg2 (fun q hq _ => mine_of (HS1.out.undo.2 q hq) (by intro e; cases e))) (fun _ h => .inl h)
        have hbb : w2.heap[b]? = W.heap[b]? := hfar b hbW (by rw [HS1.out.rb]; intro e; cases e)
        have k6 : w2.cell? ⟨b, 6, none⟩ = some (.slice A s.acts.length cap) := (World.cell?_of_block hbb).trans c6'
        have f6 : w2.frozen? ⟨b, 6, none⟩ = false := (World.frozen?_of_block hbb).trans (HS1.out.free 6)
        have HU2 := Lib.hid hu2
        have HFAR := Lib.hid hfar
        have HSZ2 := Lib.hid hsz2
        have HEXT2 := Lib.hid hext2
        clear hu2 hg2 hfar hsz2 hext2 hbb))
    all_goals
      have hx6 := undo_turn HS1.out HFAR.out HSZ2.out HU2.out (HS1.out.acts.take m) (by rw [List.length_take]; exact Nat.min_eq_left hm)
      have hk6 : (w2.setCell ⟨b, 6, none⟩ (.slice A m cap)).heap[D']? = some (.deferred (some [])) :=
        (Below.heap_setCell w2 _ _ D' (show D' ≠ b by have := HX.out.there b (mine_of HX.out.rb (by intro e; cases e)); omega)).trans ((HFAR.out D' hDl HNU.out).trans HK.out)
      have he6 : Ext (Mine ρ) w (w2.setCell ⟨b, 6, none⟩ (.slice A m cap)) := (HE1.out.trans HEXT2.out (fun _ h => .inl h)).setCell (.inl (mine_of HX.out.rb (by intro e; cases e))) _
      have HX6 := Lib.hid hx6
      have HK6 := Lib.hid hk6
      have HE6 := Lib.hid he6
      clear hx6 hk6 he6 k6 f6 c6'
      generalize w2.setCell ⟨b, 6, none⟩ (.slice A m cap) = W6 at *
      rw [only_normal]
      gi_wp2_with fail
      refine ⟨by simp, .inl ⟨_, _, rfl, run_takeDeferred HK6.out, ?_⟩⟩
      have hxf : SSx (W6.putObj D' (.deferred none)) ρ b db (s.back m) m1 m2 m3 g (.slice A m cap) (us.take m) :=
        HX6.out.keep (fun k hk => World.putObj_heap_other (by have := HX.out.there k hk; omega)) (fun _ _ => rfl) (HX6.out.there.up (by simp))
      have hef : Ext (Mine ρ) w (W6.putObj D' (.deferred none)) := HE6.out.trans (Ext.of_grown (S := fun q => w.heap.size ≤ q) (grownBy_putObj' W6 D' (.deferred none)) (fun k hk _ => by injection hk with hk; omega)) (fun q hq => .inr hq)
      exact ⟨.int .i64 0, by simp [results, Tryz.f58, go_sem], rfl, goes_of HO.out hxf (HW.out.back m) rfl (Same.refl _ _) hef⟩
  case stop =>
    rintro D c pre W _ _ h _
    exact h.elim
theorem Back_own {w : World} {ρ : Ro} {D : Nat → Prop} {b db m : Nat} {s : Sto} (h : EFace.Own w ρ D b db s) (hm : m ≤ s.acts.length) (hload : s.load ≤ 1073741824) :
    Calls Tryz.prog 58 #[.pointer (some ⟨b, 0, none⟩), .int .i64 m] w fun e w' => e = .returned (.int .i64 0) ∧ Goes w w' ρ D ρ D b db (s.back m) :=
  callsIn_wide.1 (Back_ok h hm hload)
set_option maxHeartbeats 400000 in
theorem Back_out (a : Option Addr) (m : Int) (w : World) (hh : Calls Tryz.prog 99 #[.pointer a] w fun e w' => e = .returned (.int .i64 0) ∧ w = w') :
    Calls Tryz.prog 58 #[.pointer a, .int .i64 m] w fun e w' => e = .returned (.int .i64 22) ∧ w = w' := by
  have HH := Lib.hid hh
  clear hh
  go_enter Tryz.func58, Tryz.ntmps58
  go_wp2_with (go_at_call 99; refine HH.out.mono ?_; rintro e w' ⟨rfl, rfl⟩)
  go_ret
  exact ⟨rfl, rfl⟩
set_option maxHeartbeats 400000 in
theorem Back_no {w : World} {ρ : Ro} {D : Nat → Prop} {b db : Nat} {m : Int} {s : Sto} (h : EFace.Own w ρ D b db s) (hm : m < 0 ∨ (s.acts.length : Int) < m) (hload : s.load ≤ 1073741824) :
    Calls Tryz.prog 58 #[.pointer (some ⟨b, 0, none⟩), .int .i64 m] w fun e w' => e = .returned (.int .i64 22) ∧ w = w' := by
  have hN := h.len
  have hal : s.acts.length ≤ 1073741824 := by unfold Sto.load at hload; omega
  have HBL := Lib.hid (Blocks_own h)
  have HMK := Lib.hid (Mark_own h hal)
  have g0 : ((s.N : Int) == 0) = false := by rw [beq_eq_false_iff_ne]; omega
  clear h
  by_cases h1 : m < 0
  · clear hm
    go_enter Tryz.func58, Tryz.ntmps58
    go_wp2_with (go_at_call 99; refine HBL.out.mono ?_; rintro e w' ⟨rfl, rfl⟩)
    go_ret
    exact ⟨rfl, rfl⟩
  · have g1 : decide (m < 0) = false := by simpa using h1
    have h2 : (s.acts.length : Int) < m := by omega
    clear hm h1
    go_enter Tryz.func58, Tryz.ntmps58
    go_wp2_with (first
      | (go_at_call 99; refine HBL.out.mono ?_; rintro e w' ⟨rfl, rfl⟩)
      | (go_at_call 57; refine HMK.out.mono ?_; rintro e w' ⟨rfl, rfl⟩))
    go_ret
    exact ⟨rfl, rfl⟩
end Go.Proofs.YtgkindoidmglnaaGreatDoor.EBack
/- The store's calls at whatever numbers, for the statements. -/
namespace Go.Proofs.YtgkindoidmglnaaGreatDoor.EAny
open Go.RowKit WMem WPlain WAppend Ext Map DPlain DMem Mk DBase DRead DWrite EPlain EMem ECache EFace EUnwrite EPush EWrite EHold ERead EHome EWrites ECommit EBack EFill

/-- is there such a block? -/
def inN (s : Sto) (n : Int) : Bool := decide (0 ≤ n ∧ n < (s.N : Int))
theorem inN_yes {s : Sto} {n : Int} (h : inN s n = true) : 0 ≤ n ∧ n < (s.N : Int) := of_decide_eq_true h
theorem inN_no {s : Sto} {n : Int} (h : inN s n = false) : n < 0 ∨ (s.N : Int) ≤ n := by
  have := of_decide_eq_false h
  omega
def writeI (s : Sto) (n : Int) (l : Bk) : Sto := if inN s n then s.write n.toNat l else s
def holdI (s : Sto) (n : Int) : Sto := if inN s n then s.hold n.toNat else s
def readI (s : Sto) (n : Int) : Sto := if inN s n then s.read n.toNat else s
def backOk (s : Sto) (m : Int) : Bool := decide (0 ≤ m ∧ m ≤ (s.acts.length : Int))
def backI (s : Sto) (m : Int) : Sto := if backOk s m then s.back m.toNat else s
def homeOk (s : Sto) (n : Int) : Bool := inN s n && (s.wai n.toNat).isSome
def homeI (s : Sto) (n : Int) : Sto := if homeOk s n then s.home n.toNat ((s.wai n.toNat).getD []) else s
/-- what is answered -/
def eio (b : Bool) : Int := if b then 0 else 5
def einval (b : Bool) : Int := if b then 0 else 22

section
variable {w : World} {ρ : Ro} {D : Nat → Prop} {b db : Nat} {s : Sto} (h : EFace.Own w ρ D b db s) (n : Int)
include h
theorem write_go {S : Nat → Prop} {v : Value} {l : Bk} (hv : IsBlk w S v l) (hS : There S w) (hf : Far (Mine ρ) S) (hload : s.load ≤ 1073741824) :
    Calls Tryz.prog 109 #[.pointer (some ⟨b, 0, none⟩), .int .i64 n, v] w fun e w' => e = .returned (.int .i64 (eio (inN s n))) ∧ ∃ ρ' D', Goes w w' ρ D ρ' D' b db (writeI s n l) := by
  cases hq : inN s n with
  | true =>
    obtain ⟨h0, h1⟩ := inN_yes hq
    obtain ⟨k, rfl⟩ := Int.eq_ofNat_of_zero_le h0
    refine (SWrite_ok h (show k < s.N by omega) hv hS hf hload).mono ?_
    rintro e w' ⟨rfl, ρ', hg⟩
    exact ⟨rfl, ρ', D, by unfold writeI; rw [hq]; exact hg⟩
  | false =>
    refine (SWrite_out _ n v w (hasn_own h (inN_no hq))).mono ?_
    rintro e w' ⟨rfl, rfl⟩
    exact ⟨rfl, ρ, D, by unfold writeI; rw [hq]; exact Goes.refl h⟩
theorem hold_go (hload : s.load ≤ 1073741824) :
    Calls Tryz.prog 68 #[.pointer (some ⟨b, 0, none⟩), .int .i64 n] w fun e w' => e = .returned (.int .i64 (einval (inN s n))) ∧ ∃ ρ' D', Goes w w' ρ D ρ' D' b db (holdI s n) := by
  cases hq : inN s n with
  | true =>
    obtain ⟨h0, h1⟩ := inN_yes hq
    obtain ⟨k, rfl⟩ := Int.eq_ofNat_of_zero_le h0
    refine (Hold_ok h (show k < s.N by omega) hload).mono ?_
    rintro e w' ⟨rfl, ρ', hg⟩
    exact ⟨rfl, ρ', D, by unfold holdI; rw [hq]; exact hg⟩
  | false =>
    refine (Hold_out _ n w (hasn_own h (inN_no hq))).mono ?_
    rintro e w' ⟨rfl, rfl⟩
    exact ⟨rfl, ρ, D, by unfold holdI; rw [hq]; exact Goes.refl h⟩
theorem back_go (hload : s.load ≤ 1073741824) :
    Calls Tryz.prog 58 #[.pointer (some ⟨b, 0, none⟩), .int .i64 n] w fun e w' => e = .returned (.int .i64 (einval (backOk s n))) ∧ ∃ ρ' D', Goes w w' ρ D ρ' D' b db (backI s n) := by
  cases hq : backOk s n with
  | true =>
    obtain ⟨h0, h1⟩ : 0 ≤ n ∧ n ≤ (s.acts.length : Int) := of_decide_eq_true hq
    obtain ⟨k, rfl⟩ := Int.eq_ofNat_of_zero_le h0
    refine (Back_own h (show k ≤ s.acts.length by omega) hload).mono ?_
    rintro e w' ⟨rfl, hg⟩
    exact ⟨rfl, ρ, D, by unfold backI; rw [hq]; exact hg⟩
  | false =>
    have h0 : ¬ (0 ≤ n ∧ n ≤ (s.acts.length : Int)) := of_decide_eq_false hq
    refine (Back_no h (by omega) hload).mono ?_
    rintro e w' ⟨rfl, rfl⟩
    exact ⟨rfl, ρ, D, by unfold backI; rw [hq]; exact Goes.refl h⟩
/-- Read: the bytes, or nothing -/
theorem read_go (hcoh : ∀ n, n ∈ s.sh n → s.mem n = s.d.readAt n) (hload : s.load ≤ 1073741824) :
    Calls Tryz.prog 37 #[.pointer (some ⟨b, 0, none⟩), .int .i64 n] w fun e w' => ∃ u, e = .returned (.tuple #[u, .int .i64 (eio (inN s n))]) ∧ ∃ ρ' D', Goes w w' ρ D ρ' D' b db (readI s n) ∧
      (inN s n = true → IsBlk w' (Free w w' ρ') u (s.val n.toNat)) ∧ (inN s n = false → u = .slice none 0 0) ∧ ∀ k, D' k → k < w.heap.size := by
  cases hq : inN s n with
  | true =>
    obtain ⟨h0, h1⟩ := inN_yes hq
    obtain ⟨k, rfl⟩ := Int.eq_ofNat_of_zero_le h0
    refine (SRead_own h (show k < s.N by omega) hload (hcoh k)).mono ?_
    rintro e w' ⟨u, rfl, ρ', hg, hu⟩
    exact ⟨u, rfl, ρ', D, by unfold readI; rw [hq]; exact hg, fun _ => hu, fun e => (by cases e), fun k hk => h.dd.there k hk⟩
  | false =>
    refine (SRead_out _ n w (hasn_own h (inN_no hq))).mono ?_
    rintro e w' ⟨rfl, rfl⟩
    exact ⟨_, rfl, ρ, D, by unfold readI; rw [hq]; exact Goes.refl h, fun e => (by cases e), fun _ => rfl, fun k hk => h.dd.there k hk⟩
end
section
variable (s : Sto) (n : Int) (l : Bk)
theorem writeI_N : (writeI s n l).N = s.N := by unfold writeI; split <;> rfl
theorem holdI_N : (holdI s n).N = s.N := by unfold holdI; split <;> rfl
theorem read_N (n : Nat) : (s.read n).N = s.N := by
  unfold Sto.read Sto.N
  split
  · rfl
  · split <;> rfl
theorem readI_N : (readI s n).N = s.N := by
  unfold readI
  split
  · exact read_N s _
  · rfl
theorem backI_N : (backI s n).N = s.N := by unfold backI; split <;> rfl
theorem home_N (n : Nat) : (s.home n l).N = s.N := by unfold Sto.home; split <;> rfl
theorem homeI_N : (homeI s n).N = s.N := by
  unfold homeI
  split
  · exact home_N s _ _
  · rfl
theorem writeI_load : (writeI s n l).load ≤ s.load + 1 := by
  unfold writeI
  split
  · exact Sto.load_write ..
  · omega
theorem holdI_load : (holdI s n).load ≤ s.load + 1 := by
  unfold holdI
  split
  · exact Sto.load_hold ..
  · omega
theorem readI_load : (readI s n).load ≤ s.load + 1 := by
  unfold readI
  split
  · exact Sto.load_read ..
  · omega
theorem backI_load : (backI s n).load ≤ s.load := by
  unfold backI
  split
  · exact Sto.load_back ..
  · omega
theorem homeI_load : (homeI s n).load ≤ s.load + 1 := by
  unfold homeI
  split
  · exact Sto.load_home ..
  · omega
end
/-- a store that a law has made, with its disk: all in new memory -/
structure Live (a w : World) (ρ : Ro) (D : Nat → Prop) (b db : Nat) (s : Sto) : Prop where
  own : EFace.Own w ρ D b db s
  new : ∀ q, All ρ D q → a.heap.size ≤ q
  below : Below a.heap.size a w
section
variable {a w w' : World} {ρ ρ' : Ro} {D D' : Nat → Prop} {b db : Nat} {s s' : Sto}
theorem Live.goes (h : Live a w ρ D b db s) (g : Goes w w' ρ D ρ' D' b db s') : Live a w' ρ' D' b db s' :=
  ⟨g.own, fun q hq => by
    rcases g.new q hq with h1 | h1
    · exact h.new q h1
    · exact Nat.le_trans h.below.size h1, h.below.trans (g.ext.below h.below.size h.new)⟩
theorem Live.go (h : Live a w ρ D b db s) (hb : Below w.heap.size w w') : Live a w' ρ D b db s := ⟨h.own.below hb, h.new, h.below.trans (hb.mono h.below.size)⟩
theorem Live.drewN (h : Live a w ρ D b db s) (n : Nat) : Live a (w.drewN n) ρ D b db s := h.go (below_drewN (Below.refl _ _) n)
theorem Live.ext {S : Nat → Prop} (h : Live a w ρ D b db s) (he : Ext S w w') (hf : Far S (All ρ D)) (hS : ∀ q, S q → a.heap.size ≤ q) : Live a w' ρ D b db s := ⟨h.own.ext he hf, h.new, h.below.trans (he.below h.below.size hS)⟩
end
/-- a new disk and a store over it -/
theorem live_new {a w1 w2 : World} {S : Nat → Prop} {b db : Nat} {ρ : Ro} {d : St} {ns room : Nat} (hd : DD w1 S db d) (hS : ∀ q, S q → a.heap.size ≤ q) (hb : Below a.heap.size a w1) (hs : SS w2 ρ b db (fresh d ns room)) (hm : ∀ k, Mine ρ k → w1.heap.size ≤ k) (hb2 : Below w1.heap.size w1 w2) :
    Live a w2 ρ S b db (fresh d ns room) :=
  ⟨⟨hs, hd.below hb2, fun k h1 h2 => by have := hm k h1; have := hd.there k h2; omega⟩, fun q hq => by
    rcases hq with hq | hq
    · exact Nat.le_trans hb.size (hm q hq)
    · exact hS q hq, hb.trans (hb2.mono hb.size)⟩
end Go.Proofs.YtgkindoidmglnaaGreatDoor.EAny
/- A store's parts, trimmed: only blocks of cells and the maps that it has; so a record that the walk keeps beside it is none of its own. -/
namespace Go.Proofs.YtgkindoidmglnaaGreatDoor.ETrim
open Go.RowKit Go.Shelf WMem WPlain Ext Map DPlain DMem EPlain EMem EFace

def IsCells (w : World) (q : Nat) : Prop := ∃ cs T fz, w.heap[q]? = some (.cells cs T fz)
theorem cells_of_cell {w : World} {p : Addr} {v : Value} (h : w.cell? p = some v) : IsCells w p.block := by
  unfold World.cell? at h
  split at h
  · rename_i c T fz e
    exact ⟨c, T, fz, e⟩
  · cases h
theorem cells_of_own {w : World} {base : Nat} {e : TypeId} {size : Nat} {v : Value} {n : Nat} {xs : List Value} (h : w.ownsRow base e size v n xs) {g : Nat} (hg : v.ownBlock = some g) : IsCells w g := by
  rcases h.2 with ⟨rfl, _⟩ | ⟨k, cap, cur, rfl, _, hk, _⟩
  · cases hg
  · simp only [Value.ownBlock, Option.some.injEq] at hg
    subst hg
    exact ⟨_, _, _, hk⟩
open Classical in
noncomputable def trim (w : World) (ρ : Ro) : Ro := fun q => if isMapR (ρ q) ∨ IsCells w q then ρ q else .no
section
variable {w : World} {ρ : Ro}
theorem trim_is {q : Nat} (h : isMapR (ρ q) ∨ IsCells w q) : trim w ρ q = ρ q := if_pos h
theorem trim_mine {q : Nat} (h : Mine (trim w ρ) q) : Mine ρ q ∧ (isMapR (ρ q) ∨ IsCells w q) := by
  by_cases hc : isMapR (ρ q) ∨ IsCells w q
  · refine ⟨?_, hc⟩
    unfold Mine at h ⊢
    rw [trim_is hc] at h
    exact h
  · exfalso
    apply h
    unfold trim
    rw [if_neg hc]
theorem trim_map {q : Nat} (h : isMapR (trim w ρ q)) : isMapR (ρ q) := by
  by_cases hc : isMapR (ρ q) ∨ IsCells w q
  · rw [trim_is hc] at h
    exact h
  · unfold trim at h
    rw [if_neg hc] at h
    exact h.elim
theorem trim_blk {v : Value} {l : Bk} (h : Blk w ρ v l) : Blk w (trim w ρ) v l := by
  obtain ⟨g, c, rest, rfl, h1, h2, h3, h4⟩ := h
  exact ⟨g, c, rest, rfl, (trim_is (.inr ⟨_, _, _, h4⟩)).trans h1, h2, h3, h4⟩
theorem trim_box {B : Nat} {v : Value} (h : Box w ρ B v) : Box w (trim w ρ) B v := ⟨(trim_is (.inr (cells_of_cell h.2))).trans h.1, h.2⟩
theorem trim_own {r : Role} {e : TypeId} {size : Nat} {v : Value} {n : Nat} {xs : List Value} (h : OwnS w (At ρ r) e size v n xs) : OwnS w (At (trim w ρ) r) e size v n xs :=
  ⟨h.1, fun g hg => (trim_is (.inr (cells_of_own h.1 hg))).trans (h.2 g hg)⟩
theorem trim_mapB {r : Role} {b N : Nat} {f : Nat → Option Bk} (hr : isMapR r) (h : MapB w ρ r b N f) : MapB w (trim w ρ) r b N f := by
  obtain ⟨h1, g, h2, h3, h4⟩ := h
  refine ⟨(trim_is (.inl (by rw [h1]; exact hr))).trans h1, g, h2, fun k v hv => ?_, h4⟩
  obtain ⟨n, l, e1, e2, e3, e4⟩ := h3 k v hv
  exact ⟨n, l, e1, e2, e3, trim_blk e4⟩
theorem trim_mapH {b N : Nat} {f : Nat → Bool} (h : MapH w ρ b N f) : MapH w (trim w ρ) b N f := by
  obtain ⟨h1, g, h2, h3, h4⟩ := h
  exact ⟨(trim_is (.inl (by rw [h1]; trivial))).trans h1, g, h2, h3, h4⟩
theorem trim_cac {g N : Nat} {rd : Nat → Bk} {cch : List (List Nat)} (h : Cac w ρ g N rd cch) : Cac w (trim w ρ) g N rd cch := by
  obtain ⟨xs, mm, uv, h1, h2, h3, h4, h5, h6, h7⟩ := h
  exact ⟨xs, mm, uv, h1, (trim_is (.inr ⟨_, _, _, h1⟩)).trans h2, h3, h4, h5, fun i hi => trim_mapB (by trivial) (h6 i hi), fun i hi => trim_own (h7 i hi)⟩
theorem trim_act {b : Nat} {v : Value} {a : Deed} (h : ActIs w ρ b v a) : ActIs w (trim w ρ) b v a := by
  cases a with
  | unset n =>
    obtain ⟨Bs, Bn, h1, h2, h3⟩ := h
    exact ⟨Bs, Bn, h1, trim_box h2, trim_box h3⟩
  | set n l =>
    obtain ⟨Bw, Bs, Bn, u, h1, h2, h3, h4, h5⟩ := h
    exact ⟨Bw, Bs, Bn, u, h1, trim_box h2, trim_blk h3, trim_box h4, trim_box h5⟩
  | nop => exact h
  | free n =>
    obtain ⟨Bs, Bn, h1, h2, h3⟩ := h
    exact ⟨Bs, Bn, h1, trim_box h2, trim_box h3⟩
theorem trim_acts {b : Nat} {us : List Value} {l : List Deed} (h : ActsAre w ρ b us l) : ActsAre w (trim w ρ) b us l :=
  ⟨h.1, fun k hk => by obtain ⟨v, h1, h2⟩ := h.2 k hk; exact ⟨v, h1, trim_act h2⟩⟩
theorem trim_ss {b db : Nat} {s : Sto} (h : SS w ρ b db s) : SS w (trim w ρ) b db s := by
  obtain ⟨m1, m2, m3, g, Uv, us, hx, hw⟩ := h
  exact ⟨m1, m2, m3, g, Uv, us, ⟨hx.block, (trim_is (.inr ⟨_, _, _, hx.block⟩)).trans hx.rb, trim_mapB (by trivial) hx.chg, trim_mapB (by trivial) hx.wai, trim_mapH hx.hld, trim_cac hx.cac, trim_own hx.undo, trim_acts hx.acts,
    fun q hq => hx.there q (trim_mine hq).1⟩, hw⟩
theorem trim_of {D : Nat → Prop} {b db : Nat} {s : Sto} (h : EFace.Own w ρ D b db s) : EFace.Own w (trim w ρ) D b db s :=
  ⟨trim_ss h.ss, h.dd, fun k h1 h2 => h.far k (trim_mine h1).1 h2⟩
/-- a record that is no cells, and no map of the store's, may turn -/
theorem own_grown {D : Nat → Prop} {b db B : Nat} {s : Sto} (h : EFace.Own w ρ D b db s) (hm : ∀ q, isMapR (ρ q) → q < B) (hD : ∀ q, D q → q < B) {w' : World} {row : Option Nat} (hg : w.grownBy w' row)
    (hr : ∀ r, row = some r → B ≤ r ∧ ∃ o : Obj, w.heap[r]? = some o ∧ o.isCells = false) : EFace.Own w' (trim w ρ) D b db s ∧ ∀ q, All (trim w ρ) D q → row ≠ some q := by
  have hn : ∀ q, All (trim w ρ) D q → row ≠ some q := fun q hq e => by
    obtain ⟨h1, o, h2, h3⟩ := hr q e
    rcases hq with hq | hq
    · rcases (trim_mine hq).2 with h4 | ⟨cs, T, fz, h4⟩
      · have := hm q h4; omega
      · rw [h2] at h4
        injection h4 with h4
        subst h4
        cases h3
    · have := hD q hq; omega
  refine ⟨(trim_of h).keep (fun q hq => hg.block q ((trim_of h).there q hq) (fun e => hn q hq e.symm)) hg.size, hn⟩
end
end Go.Proofs.YtgkindoidmglnaaGreatDoor.ETrim
