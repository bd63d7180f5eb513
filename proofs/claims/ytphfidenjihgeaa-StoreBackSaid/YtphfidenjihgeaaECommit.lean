/- The store: Waiting, Commit, Release. -/
import Derived.Test.YtphfidenjihgeaaEWrites
import Derived.Test.YtphfidenjihgeaaECopy
namespace Go.Proofs.Ytphfidenjihgeaa.ECommit
open Go.RowKit WMem WPlain WAppend Ext Map DPlain DMem Mk DBase DRead DPend DWrite EPlain EMem ECache EFace EWrites ECopy

/-- a row of writes in new memory -/
structure Got (w w' : World) (P : List (Nat × Bk)) (v : Value) (ys : List Value) : Prop where
  own : w'.ownsRow w.heap.size 64 2 v P.length ys
  each : POf w' (fun g => w.heap.size ≤ g ∧ g < w'.heap.size) ys P
theorem got_of {w w' : World} {P : List (Nat × Bk)} {v : Value} {ys : List Value} (h : WrIn w w' P v ys) : Got w w' P v ys := ⟨h.own, h.each⟩
theorem Got.keep {w w' w'' : World} {P : List (Nat × Bk)} {v : Value} {ys : List Value} (h : Got w w' P v ys) (hk : ∀ q, w.heap.size ≤ q → q < w'.heap.size → w''.heap[q]? = w'.heap[q]?) (hs : w'.heap.size ≤ w''.heap.size) : Got w w'' P v ys :=
  ⟨own_same h.own (fun q hq => hk q (own_ge h.own q hq) (own_lt h.own q hq)), (h.each.keep (fun q _ hq _ => hk q hq.1 hq.2)).more fun _ hq => ⟨hq.1, Nat.lt_of_lt_of_le hq.2 hs⟩⟩
theorem Got.form {w w' : World} {P : List (Nat × Bk)} {v : Value} {ys : List Value} (h : Got w w' P v ys) : ∃ A cap, v = .slice A P.length cap := by
  obtain ⟨A, cap, rfl, _, _⟩ := own_cell2 (S := fun _ => True) ⟨own_base h.own (fun _ _ => Nat.zero_le _), fun _ _ => trivial⟩
  exact ⟨A, cap, rfl⟩

set_option maxRecDepth 100000 in
set_option maxHeartbeats 400000 in
theorem Waiting_own {w : World} {ρ : Ro} {D : Nat → Prop} {b db : Nat} {s : Sto} (h : Own w ρ D b db s) : Calls Try.prog 21 #[.pointer (some ⟨b, 0, none⟩)] w fun e w' =>
    ∃ v ys, e = .returned v ∧ Got w w' (wrs s.wai s.N) v ys ∧ Below w.heap.size w w' := by
  have hN := h.len.2
  obtain ⟨m1, m2, m3, g, Uv, us, hx, -⟩ := h.ss
  have c2 := hx.c2
  have HC := Lib.hid hx.wai
  have HT := Lib.hid hx.there
  clear hx h
  go_enter Try.func21, Try.ntmps21
  go_wp2_with fail
  refine (writes_any HC.out hN HT.out).mono ?_
  rintro e w1 ⟨v, ys, rfl, hw⟩
  obtain ⟨A, cap, rfl⟩ := (got_of hw).form
  have HW := Lib.hid hw
  clear hw
  go_wp2
  go_ret
  exact ⟨_, ys, rfl, (got_of HW.out), HW.out.below⟩
theorem Waiting_nil (w : World) : Calls Try.prog 21 #[.pointer none] w fun e w' => e = .returned (.slice none 0 0) ∧ w = w' := by
  go_enter Try.func21, Try.ntmps21
  go_wp2
  go_ret
  exact ⟨rfl, rfl⟩
theorem Commit_nil (w : World) : Calls Try.prog 20 #[.pointer none] w fun e w' => e = .returned (.slice none 0 0) ∧ w = w' := by
  go_enter Try.func20, Try.ntmps20
  go_wp2
  go_ret
  exact ⟨rfl, rfl⟩

theorem Copy_b {w : World} {ρ : Ro} {m1 m2 N : Nat} {fc fw : Nat → Option Bk} (h1 : MapB w ρ .chg m1 N fc) (h2 : MapB w ρ .wai m2 N fw) (hN : N ≤ 4096) (there : There (Mine ρ) w) :
    Calls Try.prog 43 #[.map (some m2), .map (some m1)] w fun e w' =>
      e = .returned (.tuple #[]) ∧ MapB w' ρ .wai m2 N (fun n => match fc n with | some l => some l | none => fw n) ∧ MapB w' ρ .chg m1 N fc ∧ w.grownBy w' (some m2) := by
  obtain ⟨r1, g1, a1, b1, c1⟩ := id h1
  obtain ⟨r2, g2, a2, b2, c2⟩ := id h2
  have hne : m2 ≠ m1 := fun e => by rw [e, r1] at r2; cases r2
  refine (Copy_any m2 m1 N N g2 g1 w a2 a1 hne (by omega)).mono ?_
  rintro e w' ⟨rfl, q1, q2, q3⟩
  have kst : ∀ k, ρ k = .still → w'.heap[k]? = w.heap[k]? := fun k hk => q3.block k (there k (mine_still k hk)) (fun e => by injection e with e; rw [e, r2] at hk; cases hk)
  refine ⟨rfl, ⟨r2, _, q1.cap (m := N) fun k v hv => ?_, fun k v hv => ?_, fun n hn => ?_⟩, h1.keep kst (fun _ h => h) (q3.block m1 h1.lt (fun e => hne (by injection e with e; exact e.symm))) rfl, q3⟩
  · unfold over at hv
    cases hg : g1 k with
    | some u => obtain ⟨n, l, e1, e2, _⟩ := b1 k u hg; omega
    | none => rw [hg] at hv; obtain ⟨n, l, e1, e2, _⟩ := b2 k v hv; omega
  · unfold over at hv
    cases hg : g1 k with
    | some u =>
      rw [hg] at hv
      injection hv with hv
      subst hv
      obtain ⟨n, l, e1, e2, e3, e4⟩ := b1 k u hg
      exact ⟨n, l, e1, e2, by simp only [e3], e4.keep kst (fun _ h => h)⟩
    | none =>
      rw [hg] at hv
      obtain ⟨n, l, e1, e2, e3, e4⟩ := b2 k v hv
      have := c1 n (e1 ▸ hg)
      exact ⟨n, l, e1, e2, by simp only [this, e3], e4.keep kst (fun _ h => h)⟩
  · unfold over at hn
    cases hg : g1 (n : Int) with
    | some u => rw [hg] at hn; cases hn
    | none =>
      rw [hg] at hn
      simp only [c1 n hg, c2 n hn]

/-- the changed are waiting now -/
theorem commit_of {w w1 w2 w3 : World} {ρ : Ro} {D : Nat → Prop} {b db m1 m2 m3 g : Nat} {s : Sto} {Uv : Value} {us : List Value} (h : Own w ρ D b db s) (hx : SSx w ρ b db s m1 m2 m3 g Uv us) (hb : Below w.heap.size w w1)
    (q1 : MapB w2 ρ .wai m2 s.N (fun n => match s.now.chg n with | some l => some l | none => s.wai n)) (q3 : w1.grownBy w2 (some m2)) (q4 : MapIs w3 m1 0 (fun _ => none)) (q5 : w2.mapTurned w3 m1) :
    Goes w (w3.setCell ⟨b, 6, none⟩ (.slice none 0 0)) ρ D ρ D b db s.commit ∧ ∀ q, w.heap.size ≤ q → q < w1.heap.size → (w3.setCell ⟨b, 6, none⟩ (.slice none 0 0)).heap[q]? = w1.heap[q]? := by
  have r1 := hx.chg.1
  have r2 := hx.wai.1
  have rb := hx.rb
  have l1 : m1 < w.heap.size := hx.chg.lt
  have l2 : m2 < w.heap.size := hx.wai.lt
  have lb : b < w.heap.size := row_lt hx.block
  have n1 : b ≠ m1 := fun e => by rw [e, r1] at rb; cases rb
  have n2 : b ≠ m2 := fun e => by rw [e, r2] at rb; cases rb
  have n3 : m2 ≠ m1 := fun e => by rw [e, r1] at r2; cases r2
  have s1 := hb.size
  have s2 := q3.size
  have s3 : w3.heap.size = w2.heap.size := turned_size q5
  have far3 : ∀ q, q < w1.heap.size → q ≠ m1 → q ≠ m2 → w3.heap[q]? = w1.heap[q]? := fun q a1 a2 a3 => (turned_far q5 a2).trans (q3.block q a1 (fun e => a3 (by injection e)))
  have far : ∀ q, q < w1.heap.size → q ≠ m1 → q ≠ m2 → q ≠ b → (w3.setCell ⟨b, 6, none⟩ (.slice none 0 0)).heap[q]? = w1.heap[q]? := fun q a1 a2 a3 a4 => (Below.heap_setCell w3 _ _ q a4).trans (far3 q a1 a2 a3)
  have farw : ∀ q, q < w.heap.size → q ≠ m1 → q ≠ m2 → q ≠ b → (w3.setCell ⟨b, 6, none⟩ (.slice none 0 0)).heap[q]? = w.heap[q]? := fun q a1 a2 a3 a4 => (far q (by omega) a2 a3 a4).trans (hb.block q a1)
  have role : ∀ {q : Nat} {r : Role}, ρ q = r → r ≠ .chg → r ≠ .wai → r ≠ .store → q ≠ m1 ∧ q ≠ m2 ∧ q ≠ b := fun hq a1 a2 a3 =>
    ⟨fun e => a1 (by rw [← hq, e, r1]), fun e => a2 (by rw [← hq, e, r2]), fun e => a3 (by rw [← hq, e, rb])⟩
  have kr : ∀ q, Mine ρ q → ρ q ≠ .chg → ρ q ≠ .wai → ρ q ≠ .store → (w3.setCell ⟨b, 6, none⟩ (.slice none 0 0)).heap[q]? = w.heap[q]? := fun q hq a1 a2 a3 => by
    obtain ⟨c1, c2, c3⟩ := role (q := q) rfl a1 a2 a3
    exact farw q (hx.there q hq) c1 c2 c3
  have kst : ∀ q, ρ q = .still → (w3.setCell ⟨b, 6, none⟩ (.slice none 0 0)).heap[q]? = w.heap[q]? := fun q hq => kr q (mine_still q hq) (by rw [hq]; intro e; cases e) (by rw [hq]; intro e; cases e) (by rw [hq]; intro e; cases e)
  have sz : w.heap.size ≤ (w3.setCell ⟨b, 6, none⟩ (.slice none 0 0)).heap.size := by simp [World.setCell]; omega
  refine ⟨⟨⟨⟨m1, m2, m3, g, .slice none 0 0, [], ⟨?_, rb, ?_, ?_, ?_, ?_, ?_, ?_, hx.there.up sz⟩, h.wf.commit⟩, ?_, h.far⟩, ?_, In.refl _ _⟩, fun q a1 a2 => far q a2 (by omega) (by omega) (by omega)⟩
  · have h5 := row_set ((far3 b (by omega) n1 n2).trans ((hb.block b lb).trans hx.block)) 6 (.slice none 0 0)
    simpa [Sto.commit] using h5
  · exact ENew.MapB.none _ r1 (q4.keep (Below.heap_setCell w3 _ _ _ (Ne.symm n1)))
  · refine MapB.keep q1 (fun q hq => ?_) (fun _ h => h) ((Below.heap_setCell w3 _ _ _ (Ne.symm n2)).trans (turned_far q5 n3)) rfl
    obtain ⟨c1, c2, c3⟩ := role hq (by intro e; cases e) (by intro e; cases e) (by intro e; cases e)
    exact (Below.heap_setCell w3 _ _ q c3).trans (turned_far q5 c1)
  · exact hx.hld.keep (kr _ (mine_of hx.hld.1 (by intro e; cases e)) (by rw [hx.hld.1]; intro e; cases e) (by rw [hx.hld.1]; intro e; cases e) (by rw [hx.hld.1]; intro e; cases e)) rfl
  · refine hx.cac.keep (fun q hq => ?_) (fun _ _ => rfl)
    rcases hq with hq | hq
    · exact kst q hq
    · refine kr q (mine_c hq) ?_ ?_ ?_ <;> (intro e; rw [e] at hq; exact hq)
  · exact ⟨World.ownsRow_nil _ _ _ _, fun q hq => (by cases hq)⟩
  · exact ⟨rfl, fun k hk => (by cases hk)⟩
  · refine h.dd.keep (fun q hq => farw q (h.dd.there q hq) ?_ ?_ ?_) sz
    · rintro rfl; exact h.far _ (mine_of r1 (by intro e; cases e)) hq
    · rintro rfl; exact h.far _ (mine_of r2 (by intro e; cases e)) hq
    · rintro rfl; exact h.far _ (mine_of rb (by intro e; cases e)) hq
  · have e1 : Ext (All ρ D) w w2 := (Ext.of_below hb _).trans (ext_grown q3 (.inl (mine_of r2 (by intro e; cases e)))) (fun _ h => .inl h)
    exact (e1.trans (ext_turned q5 (.inl (mine_of r1 (by intro e; cases e)))) (fun _ h => .inl h)).setCell (.inl (.inl (mine_of rb (by intro e; cases e)))) _

set_option maxRecDepth 100000 in
set_option maxHeartbeats 1600000 in
theorem Commit_own {w : World} {ρ : Ro} {D : Nat → Prop} {b db : Nat} {s : Sto} (h : Own w ρ D b db s) : Calls Try.prog 20 #[.pointer (some ⟨b, 0, none⟩)] w fun e w' =>
    ∃ v ys, e = .returned v ∧ Got w w' (wrs s.now.chg s.N) v ys ∧ Goes w w' ρ D ρ D b db s.commit := by
  have hN := h.len.2
  obtain ⟨m1, m2, m3, g, Uv, us, hx, -⟩ := h.ss
  have c1 := hx.c1
  have c2 := hx.c2
  have HX := Lib.hid hx
  have HH := Lib.hid h
  clear hx h
  go_enter Try.func20, Try.ntmps20
  go_wp2_with fail
  refine (writes_any HX.out.chg hN HX.out.there).mono ?_
  rintro e w1 ⟨v, ys, rfl, hw⟩
  obtain ⟨A, cap, rfl⟩ := (got_of hw).form
  have lb : b < w.heap.size := row_lt HX.out.block
  have hb1 : w1.heap[b]? = w.heap[b]? := hw.below.block b lb
  have d1 : w1.cell? ⟨b, 1, none⟩ = some (.map (some m1)) := (World.cell?_of_block hb1).trans c1
  have d2 : w1.cell? ⟨b, 2, none⟩ = some (.map (some m2)) := (World.cell?_of_block hb1).trans c2
  have HW := Lib.hid hw
  have HB1 := Lib.hid hb1
  clear hw hb1
  go_wp2_with fail
  go_still_tail 8, (by kernel_rfl)
  have hk1 : ∀ q, Mine ρ q → w1.heap[q]? = w.heap[q]? := fun q hq => HW.out.below.block q (HX.out.there q hq)
  have HC1 := Lib.hid (HX.out.chg.keep (w' := w1.drew) (ρ' := ρ) (fun q hq => hk1 q (mine_still q hq)) (fun _ h => h) (hk1 m1 (mine_of HX.out.chg.1 (by intro e; cases e))) rfl)
  have HC2 := Lib.hid (HX.out.wai.keep (w' := w1.drew) (ρ' := ρ) (fun q hq => hk1 q (mine_still q hq)) (fun _ h => h) (hk1 m2 (mine_of HX.out.wai.1 (by intro e; cases e))) rfl)
  have HT1 : Hid (There (Mine ρ) w1.drew) := HX.out.there.up HW.out.below.size
  clear hk1
  go_wp2_with fail
  refine (Copy_b HC1.out HC2.out hN HT1.out).mono ?_
  rintro e w2 ⟨rfl, q1, q2, q3⟩
  have nb2 : b ≠ m2 := fun e => by have h1 := HX.out.rb; rw [e, HX.out.wai.1] at h1; cases h1
  have nb1 : b ≠ m1 := fun e => by have h1 := HX.out.rb; rw [e, HX.out.chg.1] at h1; cases h1
  have hb2 : w2.heap[b]? = w.heap[b]? := (q3.block b (Nat.lt_of_lt_of_le lb HW.out.below.size) (fun e => nb2 (by injection e))).trans HB1.out
  have f1 : w2.cell? ⟨b, 1, none⟩ = some (.map (some m1)) := (World.cell?_of_block hb2).trans c1
  obtain ⟨r1, g1, a1, _⟩ := q2
  obtain ⟨w3, hrun, hm3, ht3⟩ := a1.wipe under 0
  have hb3 : w3.heap[b]? = w.heap[b]? := (turned_far ht3 nb1).trans hb2
  have f6 : w3.frozen? ⟨b, 6, none⟩ = false := (World.frozen?_of_block hb3).trans (HX.out.free 6)
  have k6 : w3.cell? ⟨b, 6, none⟩ = some Uv := (World.cell?_of_block hb3).trans HX.out.c6
  have Q1 := Lib.hid q1
  have Q3 : Hid (w1.grownBy w2 (some m2)) := ⟨q3.os, q3.tape, q3.output, q3.size, q3.block⟩
  have HM3 := Lib.hid hm3
  have HT3 := Lib.hid ht3
  clear q1 q3 hm3 ht3 a1 r1 hb2 hb3 nb1 nb2
  go_wp2
  go_ret
  obtain ⟨e1, e2⟩ := commit_of HH.out HX.out HW.out.below Q1.out Q3.out HM3.out HT3.out
  exact ⟨_, ys, rfl, (got_of HW.out).keep e2 (by have := Q3.out.size; rw [← turned_size HT3.out] at this; simpa [World.setCell] using this), e1⟩

/-- nothing is held any more -/
theorem release_of {w w3 : World} {ρ : Ro} {D : Nat → Prop} {b db m1 m2 m3 g : Nat} {s : Sto} {Uv : Value} {us : List Value} (h : Own w ρ D b db s) (hx : SSx w ρ b db s m1 m2 m3 g Uv us) (q4 : MapIs w3 m3 0 (fun _ => none)) (q5 : w.mapTurned w3 m3) :
    Goes w w3 ρ D ρ D b db s.release := by
  have r3 := hx.hld.1
  have kr : ∀ q, ρ q ≠ .hld → w3.heap[q]? = w.heap[q]? := fun q hq => turned_far q5 (fun e => hq (by rw [e, r3]))
  have kst : ∀ q, ρ q = .still → w3.heap[q]? = w.heap[q]? := fun q hq => kr q (by rw [hq]; intro e; cases e)
  have sz : w3.heap.size = w.heap.size := turned_size q5
  refine ⟨⟨⟨m1, m2, m3, g, Uv, us, ⟨?_, hx.rb, ?_, ?_, ?_, ?_, ?_, ?_, hx.there.up (Nat.le_of_eq sz.symm)⟩, h.wf.release⟩, ?_, h.far⟩, ?_, In.refl _ _⟩
  · exact (kr b (by rw [hx.rb]; intro e; cases e)).trans hx.block
  · exact hx.chg.keep kst (fun _ h => h) (kr _ (by rw [hx.chg.1]; intro e; cases e)) rfl
  · exact hx.wai.keep kst (fun _ h => h) (kr _ (by rw [hx.wai.1]; intro e; cases e)) rfl
  · exact ENew.MapH.none _ r3 q4
  · refine hx.cac.keep (fun q hq => ?_) (fun _ _ => rfl)
    rcases hq with hq | hq
    · exact kst q hq
    · exact kr q (fun e => by rw [e] at hq; exact hq)
  · exact OwnS.part hx.undo (fun q hq => kr q (by rw [hq]; intro e; cases e)) (fun _ h => h)
  · exact hx.acts.keep kst (fun _ h => h)
  · refine h.dd.keep (fun q hq => turned_far q5 ?_) (Nat.le_of_eq sz.symm)
    rintro rfl
    exact h.far _ (mine_of r3 (by intro e; cases e)) hq
  · exact ext_turned q5 (.inl (mine_of r3 (by intro e; cases e)))
set_option maxRecDepth 100000 in
set_option maxHeartbeats 400000 in
theorem Release_own {w : World} {ρ : Ro} {D : Nat → Prop} {b db : Nat} {s : Sto} (h : Own w ρ D b db s) : Calls Try.prog 9 #[.pointer (some ⟨b, 0, none⟩)] w fun e w' =>
    e = .returned (.tuple #[]) ∧ Goes w w' ρ D ρ D b db s.release := by
  obtain ⟨m1, m2, m3, g, Uv, us, hx, -⟩ := h.ss
  have c5 := hx.c5
  obtain ⟨_, g3, a3, _⟩ := id hx.hld
  obtain ⟨w3, hrun, hm3, ht3⟩ := a3.wipe underH 0
  have HR := Lib.hid (release_of h hx hm3 ht3)
  clear hx h hm3 ht3 a3
  go_enter Try.func9, Try.ntmps9
  go_wp2
  go_end0
  exact ⟨rfl, HR.out⟩
theorem Release_nil (w : World) : Calls Try.prog 9 #[.pointer none] w fun e w' => e = .returned (.tuple #[]) ∧ w = w' := by
  go_enter Try.func9, Try.ntmps9
  go_wp2
  go_end0
  exact ⟨rfl, rfl⟩
end Go.Proofs.Ytphfidenjihgeaa.ECommit
