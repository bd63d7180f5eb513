/- mine, theirs: a record of the one package as one of the other. -/
import Derived.Test.YtgegmoejhnjhjaaDoorJTold
namespace Go.Proofs.YtgegmoejhnjhjaaDoor.JMine
open Go.RowKit Go.Shelf WMem WPlain SNums JPlain JMem JChunk JBody JTold

/-- a record's box, whole -/
def fbox (kind seq : Int) (v : Value) (sum : Nat) (start : Int) : Array Value := #[.int .i64 kind, .int .i64 seq, v, .int .u32 (sum : Int), .int .i64 start]
def zbox : Array Value := #[.int .i64 0, .int .i64 0, .slice none 0 0, .int .u32 0, .int .i64 0]
/-- a row of entries grows by one, and its record's field is set -/
theorem grow_field {W w2 : World} {R base k : Nat} {TR TE : TypeId} (hne : TE ≠ TR) {cs : Array Value} {v : Value} {l : List Ent} {x : Ent} {gg cap : Nat} (hb : W.heap[R]? = some (.cells cs TR (0, 0))) (ho : W.ownsRow base TE 2 v k (ecells l))
    (hown : w2.ownsRow base TE 2 (.slice (some ⟨gg, 0, none⟩) (k + 1) cap) (k + 1) (ecells l ++ ecell x)) (hgrow : W.grownBy w2 v.ownBlock) :
    let w3 := w2.setCell ⟨R, 2, none⟩ (.slice (some ⟨gg, 0, none⟩) (k + 1) cap)
    w3.heap[R]? = some (.cells (cs.setIfInBounds 2 (.slice (some ⟨gg, 0, none⟩) (k + 1) cap)) TR (0, 0)) ∧ w3.ownsRow base TE 2 (.slice (some ⟨gg, 0, none⟩) (k + 1) cap) (k + 1) (ecells (l ++ [x])) := by
  intro w3
  have h2 : w2.heap[R]? = some (.cells cs TR (0, 0)) := (hgrow.block R (row_lt hb) (Ne.symm (own_ne ho hb hne))).trans hb
  have h3 := row_set h2 2 (.slice (some ⟨gg, 0, none⟩) (k + 1) cap)
  refine ⟨h3, ?_⟩
  rw [ecells_snoc]
  refine hown.kept (row := some R) (grown_set (grown_refl _ _) 2 _) (.inr ?_)
  exact own_ne hown h2 hne
/-- the entries so far, the record's box, the result's cell, and the argument's box -/
structure MU (TS TR TE : TypeId) (r : Rec) (V : Value) (w : World) (k : Nat) (W : World) : Prop where
  own : ∃ v, W.heap[w.heap.size + 2]? = some (.cells (fbox r.kind r.seq v r.sum r.start) TR (0, 0)) ∧ W.ownsRow w.heap.size TE 2 v k (ecells (r.ents.take k))
  arg : W.heap[w.heap.size]? = some (.cells (fbox r.kind r.seq V r.sum r.start) TS (0, 0))
  res : W.heap[w.heap.size + 1]? = some (.cells zbox TR (0, 0))
  below : Below w.heap.size w W
theorem MU.next {TS TR TE : TypeId} (hne : TE ≠ TR) (hnz : TE ≠ TS) {r : Rec} {V : Value} {w : World} {k : Nat} {W w2 : World} {v : Value} {x : Ent} {gg cap : Nat} (hk : k < r.ents.length) (hx : r.ents[k] = x) (ha : W.heap[w.heap.size]? = some (.cells (fbox r.kind r.seq V r.sum r.start) TS (0, 0))) (hr : W.heap[w.heap.size + 1]? = some (.cells zbox TR (0, 0)))
    (hv : W.heap[w.heap.size + 2]? = some (.cells (fbox r.kind r.seq v r.sum r.start) TR (0, 0))) (ho : W.ownsRow w.heap.size TE 2 v k (ecells (r.ents.take k))) (hb : Below w.heap.size w W)
    (hown : w2.ownsRow w.heap.size TE 2 (.slice (some ⟨gg, 0, none⟩) (k + 1) cap) (k + 1) (ecells (r.ents.take k) ++ ecell x)) (hgrow : W.grownBy w2 v.ownBlock) :
    MU TS TR TE r V w (k + 1) (w2.setCell ⟨w.heap.size + 2, 2, none⟩ (.slice (some ⟨gg, 0, none⟩) (k + 1) cap)) := by
  obtain ⟨h1, h2⟩ := grow_field hne hv ho hown hgrow
  have stay : ∀ (j : Nat) (cs : Array Value) (t : TypeId), j ≠ w.heap.size + 2 → TE ≠ t → W.heap[j]? = some (.cells cs t (0, 0)) → (w2.setCell ⟨w.heap.size + 2, 2, none⟩ (.slice (some ⟨gg, 0, none⟩) (k + 1) cap)).heap[j]? = some (.cells cs t (0, 0)) := fun j cs t hj ht h =>
    (Below.heap_setCell w2 ⟨w.heap.size + 2, 2, none⟩ _ j hj).trans ((hgrow.block j (row_lt h) (Ne.symm (own_ne ho h ht))).trans h)
  refine ⟨⟨_, h1, ?_⟩, stay _ _ _ (by omega) hnz ha, stay _ _ _ (by omega) hne hr, (hb.grown hgrow hb.size (fun j hj => ?_)).setCell (by simp only; omega) _⟩
  · rw [List.take_succ_eq_append_getElem hk, hx]
    exact h2
  · rcases ho.2 with ⟨rfl, _⟩ | ⟨g, cap, cur, rfl, hbs, _⟩
    · simp [Value.ownBlock] at hj
    · simp only [Value.ownBlock, Option.some.injEq] at hj
      omega
theorem entsOut {w : World} {base : Nat} {T : TypeId} {v : Value} {n : Nat} {l : List Ent} (h : w.ownsRow base T 2 v n (ecells l)) (hl : l.length = n) : ∃ A c, v = .slice A n c ∧ Ents w w.heap.size A l ∧ (∀ a, A = some a → base ≤ a.block) := by
  obtain ⟨A, c, e, h1, h2⟩ := ents_of_own h hl
  exact ⟨A, c, by rw [e, hl], h1, h2⟩

theorem info_mine : (Tryd.prog.info? 60).map (fun i => (i.zero, i.size, i.bytes)) = some (some (.agg #[.int .i64 0, .bool false]), 2, 16) := by kernel_rfl
theorem under_mine : Tryd.prog.underlying 31 = some (.slice 60) := by kernel_rfl
set_option maxRecDepth 100000 in
set_option maxHeartbeats 8000000 in
theorem mine_any (r : Rec) (B : Nat) (A : Option Addr) (c : Nat) (w : World) (hB : B ≤ w.heap.size) (hA : Ents w B A r.ents) (hl : r.ents.length ≤ 8796093022207) :
    Calls Tryd.prog 12 #[recV r A c] w fun e w' => ∃ A' c', e = .returned (recV r A' c') ∧ Ents w' w'.heap.size A' r.ents ∧ (∀ a, A' = some a → w.heap.size ≤ a.block) ∧ Below w.heap.size w w' := by
  have HA := Lib.hid hA
  obtain ⟨i0, hi0, hz0, hz1, hz2⟩ := info_parts info_mine
  have HREC : Hid (∀ A' c', recV r A' c' = .agg #[.int .i64 r.kind, .int .i64 r.seq, .slice A' r.ents.length c', .int .u32 (r.sum : Int), .int .i64 r.start]) := Lib.hid (fun _ _ => rfl)
  rw [HREC.out]
  have H0 : Hid (MU 25 33 60 r (.slice A r.ents.length c) w 0 (((w.alloc (.cells (fbox r.kind r.seq (.slice A r.ents.length c) r.sum r.start) 25)).alloc (.cells zbox 33)).alloc (.cells (fbox r.kind r.seq (.slice none 0 0) r.sum r.start) 33))) := Lib.hid (by
    have n0 := row_new w (.cells (fbox r.kind r.seq (.slice A r.ents.length c) r.sum r.start) 25)
    have n1 := row_new (w.alloc (.cells (fbox r.kind r.seq (.slice A r.ents.length c) r.sum r.start) 25)) (.cells zbox 33)
    have n2 := row_new ((w.alloc (.cells (fbox r.kind r.seq (.slice A r.ents.length c) r.sum r.start) 25)).alloc (.cells zbox 33)) (.cells (fbox r.kind r.seq (.slice none 0 0) r.sum r.start) 33)
    simp only [World.size_alloc, Nat.add_assoc, Nat.reduceAdd] at n1 n2
    exact ⟨⟨_, n2, World.ownsRow_nil _ _ _ _⟩, row_alloc (row_alloc n0 _) _, row_alloc n1 _, ((below_box _).alloc (by simp) _).alloc (by simp; omega) _⟩)
  clear hA
  generalize hn : r.ents.length = n at *
  have HN := Lib.hid hn
  clear hn
  go_enter Tryd.func12, Tryd.ntmps12
  have z0 := fun W (h : Below w.heap.size w W) => h.size
  go_wp2
  go_loopw [4] (fun i wr => ∃ k : Nat, k ≤ n ∧ i = .int .i64 k ∧ MU 25 33 60 r (.slice A n c) w k wr) (fun i _ => n - (intOf i).toNat)
  case atStart => exact ⟨0, Nat.zero_le _, rfl, H0.out⟩
  case round =>
    obtain ⟨k, hk, rfl, ⟨⟨v, hv, ho⟩, ha, hr, hb⟩⟩ := hrel
    have sB := hb.size
    have Q0 := Lib.hid ha
    have Q1 := Lib.hid hr
    have Q2 := Lib.hid hv
    have HO := Lib.hid ho
    have HB := Lib.hid hb
    have a2 : wr.cell? ⟨w.heap.size, 2, none⟩ = some (.slice A n c) := (row_cell ha 2).trans rfl
    have b2 : wr.cell? ⟨w.heap.size + 2, 2, none⟩ = some v := (row_cell hv 2).trans rfl
    have f2 : wr.frozen? ⟨w.heap.size + 2, 2, none⟩ = false := row_free hv 2
    have hlR := row_lt hv
    clear ha hr hv ho hb H0
    by_cases hlt : k < n
    · have hlt' : k < r.ents.length := by rw [HN.out]; exact hlt
      obtain ⟨a, rfl, hab, c0, c1⟩ := (HA.out.below HB.out hB).at_ hlt'
      generalize hx : r.ents[k] = x at *
      have HX := Lib.hid hx
      obtain ⟨b, q⟩ := x
      have HO1 : Hid ((wr.alloc (.cells #[.int .i64 b, .bool q] 60)).ownsRow w.heap.size 60 2 v k (ecells (r.ents.take k))) := Lib.hid (HO.out.alloc _)
      clear hx
      go_wp2
      go_region_law
        ((first
        | (refine step_append_lies _ (by rfl) _ _ _ (by rfl) w.heap.size 60 i0 _ 2 16 under_mine hi0 hz0 hz1 hz2 rfl (by omega) v k (ecells (r.ents.take k)) (by rfl) (HO1.out.drew) ⟨wr.heap.size, 0, none⟩ 1 1 (ecell ⟨b, q⟩) (by rfl) (by rfl) (World.news_of_block (cs := #[.int .i64 b, .bool q]) (t := 60) (fr := (0, 0)) (row_new wr _)) (by simp [ecell, Value.oneCell']) (by omega) (by unfold maxLen; omega) (by omega) (by simp; omega) _ rfl ?_; intro gg cap w2 h1 h2 hat hlt2
           have hbx : (wr.alloc (.cells #[.int .i64 b, .bool q] 60)).drew.heap[w.heap.size + 2]? = _ := row_alloc Q2.out _
           have hnb := own_ne HO1.out.drew hbx (by decide)
           have HNX := Lib.hid (MU.next (TS := 25) (V := .slice (some a) n c) (W := (wr.alloc (.cells #[.int .i64 b, .bool q] 60)).drew) (by decide) (by decide) hlt' HX.out (row_alloc Q0.out _) (row_alloc Q1.out _) hbx HO1.out.drew ((HB.out.alloc sB _).drew) h1 h2)
           have j0 : w2.cell? ⟨w.heap.size + 2, 2, none⟩ = some v := (World.cell?_of_block (h2.block (w.heap.size + 2) (row_lt hbx) (Ne.symm hnb))).trans ((row_cell hbx 2).trans rfl)
           have j1 : w2.frozen? ⟨w.heap.size + 2, 2, none⟩ = false := (World.frozen?_of_block (h2.block (w.heap.size + 2) (row_lt hbx) (Ne.symm hnb))).trans (row_free hbx 2)
           clear h1 h2 hnb hbx hat)))
      all_goals
        go_wp2
        go_roundw
        case rel => exact ⟨k + 1, by omega, by go_num, HNX.out⟩
        case measure => simp [intOf]; omega
    · obtain rfl : k = n := by omega
      have HOL : Hid (wr.ownsRow w.heap.size 60 2 v k (ecells r.ents)) := Lib.hid (by have := HO.out; rw [← HN.out, List.take_length] at this; rw [← HN.out]; exact this)
      obtain ⟨A', c', rfl, hE, hfar⟩ := entsOut (HOL.out.kept (set5_grown wr (w.heap.size + 1) (.int .i64 r.kind) (.int .i64 r.seq) v (.int .u32 (r.sum : Int)) (.int .i64 r.start)) (.inr (own_ne HOL.out Q1.out (by decide)))) HN.out
      have HEE := Lib.hid hE
      have HBB := Lib.hid (set5_below (b := w.heap.size + 1) (.int .i64 r.kind) (.int .i64 r.seq) (.slice A' k c') (.int .u32 (r.sum : Int)) (.int .i64 r.start) HB.out (by omega))
      have e0 : wr.cell? ⟨w.heap.size + 2, 0, none⟩ = some (.int .i64 r.kind) := (row_cell Q2.out 0).trans rfl
      have e1 : wr.cell? ⟨w.heap.size + 2, 1, none⟩ = some (.int .i64 r.seq) := (row_cell Q2.out 1).trans rfl
      have e3 : wr.cell? ⟨w.heap.size + 2, 3, none⟩ = some (.int .u32 (r.sum : Int)) := (row_cell Q2.out 3).trans rfl
      have e4 : wr.cell? ⟨w.heap.size + 2, 4, none⟩ = some (.int .i64 r.start) := (row_cell Q2.out 4).trans rfl
      have z0 : wr.cell? ⟨w.heap.size + 1, 0, none⟩ = some (.int .i64 0) := (row_cell Q1.out 0).trans rfl
      have z1 : wr.cell? ⟨w.heap.size + 1, 1, none⟩ = some (.int .i64 0) := (row_cell Q1.out 1).trans rfl
      have z2 : wr.cell? ⟨w.heap.size + 1, 2, none⟩ = some (.slice none 0 0) := (row_cell Q1.out 2).trans rfl
      have z3 : wr.cell? ⟨w.heap.size + 1, 3, none⟩ = some (.int .u32 0) := (row_cell Q1.out 3).trans rfl
      have z4 : wr.cell? ⟨w.heap.size + 1, 4, none⟩ = some (.int .i64 0) := (row_cell Q1.out 4).trans rfl
      have zf : ∀ i, wr.frozen? ⟨w.heap.size + 1, i, none⟩ = false := fun i => row_free Q1.out i
      clear hE
      go_wp2_with fail
      refine bodyPost_ret (v := .agg #[.int .i64 r.kind, .int .i64 r.seq, .slice A' k c', .int .u32 (r.sum : Int), .int .i64 r.start]) ?_ rfl ?_
      · simp [results, Tryd.results12, go_sem, z0, z1, z2, z3, z4]
      · exact ⟨A', c', by rw [HREC.out], HEE.out, hfar, HBB.out⟩
end Go.Proofs.YtgegmoejhnjhjaaDoor.JMine
