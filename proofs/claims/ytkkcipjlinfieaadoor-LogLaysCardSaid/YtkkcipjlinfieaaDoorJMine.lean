/- mine, theirs: a record of the one package as one of the other. -/
import Derived.Test.YtkkcipjlinfieaaDoorJTold
namespace Go.Proofs.YtkkcipjlinfieaaDoor.JMine
open Go.RowKit Go.Shelf WMem WPlain SNums JPlain JMem JChunk JBody JTold

/-- a record's box, whole -/
def fbox (kind seq : Int) (v : Value) (sum : Nat) (start : Int) : Array Value := #[.int .i64 kind, .int .i64 seq, v, .int .u32 (sum : Int), .int .i64 start]
def zbox : Array Value := #[.int .i64 0, .int .i64 0, .slice none 0 0, .int .u32 0, .int .i64 0]
/-- a row of entries grows by one, and its record's field is set -/
theorem grow_field {W w2 : World} {R base k : Nat} {TR TE : TypeId} (hne : TE ≠ TR) {cs : Array Value} {v : Value} {l : List Ent} {x : Ent} {gg cap : Nat} (hb : W.heap[R]? = some (.cells cs TR (0, 0))) (ho : W.ownsRow base TE 2 v k (ecells l))
    (hown : w2.ownsRow base TE 2 (.slice (some ⟨gg, 0, none⟩) (k + 1) cap) (k + 1) (ecells l ++ ecell x)) (hgrow : W.grownBy w2 v.ownBlock) :
    let w3 := w2.setCell ⟨R, 2, none⟩ (.slice (some ⟨gg, 0, none⟩) (k + 1) cap)
    w3.heap[R]? = some (.cells (cs.setIfInBounds 2 (.slice (some ⟨gg, 0, none⟩) (k + 1) cap)) TR (0, 0)) ∧ w3.ownsRow base TE 2 (.slice (some ⟨gg, 0, none⟩) (k + 1) cap) (k + 1) (ecells (l ++ [x])) := by
  intro w3
  have h2 : w2.heap[R]? = some (.cells cs TR (0, 0)) := (hgrow.block R (row_lt hb) (Ne.symm (own_ne ho hb hne))).trans hb
  have h3 := row_set h2 2 (.slice (some ⟨gg, 0, none⟩) (k + 1) cap)
  refine ⟨h3, ?_⟩
  rw [ecells_snoc]
  refine hown.kept (row := some R) (grown_set (grown_refl _ _) 2 _) (.inr ?_)
  exact own_ne hown h2 hne
/-- the entries so far, the record's box, the result's cell, and the argument's box -/
structure MU (TS TR TE : TypeId) (r : Rec) (V : Value) (w : World) (k : Nat) (W : World) : Prop where
  own : ∃ v, W.heap[w.heap.size + 2]? = some (.cells (fbox r.kind r.seq v r.sum r.start) TR (0, 0)) ∧ W.ownsRow w.heap.size TE 2 v k (ecells (r.ents.take k))
  arg : W.heap[w.heap.size]? = some (.cells (fbox r.kind r.seq V r.sum r.start) TS (0, 0))
  res : W.heap[w.heap.size + 1]? = some (.cells zbox TR (0, 0))
  below : Below w.heap.size w W
theorem MU.next {TS TR TE : TypeId} (hne : TE ≠ TR) (hnz : TE ≠ TS) {r : Rec} {V : Value} {w : World} {k : Nat} {W w2 : World} {v : Value} {x : Ent} {gg cap : Nat} (hk : k < r.ents.length) (hx : r.ents[k] = x) (ha : W.heap[w.heap.size]? = some (.cells (fbox r.kind r.seq V r.sum r.start) TS (0, 0))) (hr : W.heap[w.heap.size + 1]? = some (.cells zbox TR (0, 0)))
    (hv : W.heap[w.heap.size + 2]? = some (.cells (fbox r.kind r.seq v r.sum r.start) TR (0, 0))) (ho : W.ownsRow w.heap.size TE 2 v k (ecells (r.ents.take k))) (hb : Below w.heap.size w W)
    (hown : w2.ownsRow w.heap.size TE 2 (.slice (some ⟨gg, 0, none⟩) (k + 1) cap) (k + 1) (ecells (r.ents.take k) ++ ecell x)) (hgrow : W.grownBy w2 v.ownBlock) :
    MU TS TR TE r V w (k + 1) (w2.setCell ⟨w.heap.size + 2, 2, none⟩ (.slice (some ⟨gg, 0, none⟩) (k + 1) cap)) := by
  obtain ⟨h1, h2⟩ := grow_field hne hv ho hown hgrow
  have stay : ∀ (j : Nat) (cs : Array Value) (t : TypeId), j ≠ w.heap.size + 2 → TE ≠ t → W.heap[j]? = some (.cells cs t (0, 0)) → (w2.setCell ⟨w.heap.size + 2, 2, none⟩ (.slice (some ⟨gg, 0, none⟩) (k + 1) cap)).heap[j]? = some (.cells cs t (0, 0)) := fun j cs t hj ht h =>
    (Below.heap_setCell w2 ⟨w.heap.size + 2, 2, none⟩ _ j hj).trans ((hgrow.block j (row_lt h) (Ne.symm (own_ne ho h ht))).trans h)
  refine ⟨⟨_, h1, ?_⟩, stay _ _ _ (by omega) hnz ha, stay _ _ _ (by omega) hne hr, (hb.grown hgrow hb.size (fun j hj => ?_)).setCell (by simp only; omega) _⟩
  · rw [List.take_succ_eq_append_getElem hk, hx]
    exact h2
  · rcases ho.2 with ⟨rfl, _⟩ | ⟨g, cap, cur, rfl, hbs, _⟩
    · simp [Value.ownBlock] at hj
    · simp only [Value.ownBlock, Option.some.injEq] at hj
      omega
theorem entsOut {w : World} {base : Nat} {T : TypeId} {v : Value} {n : Nat} {l : List Ent} (h : w.ownsRow base T 2 v n (ecells l)) (hl : l.length = n) : ∃ A c, v = .slice A n c ∧ Ents w w.heap.size A l ∧ (∀ a, A = some a → base ≤ a.block) := by
  obtain ⟨A, c, e, h1, h2⟩ := ents_of_own h hl
  exact ⟨A, c, by rw [e, hl], h1, h2⟩

theorem info_mine : (Tryd.prog.info? 44).map (fun i => (i.zero, i.size, i.bytes)) = some (some (.agg #[.int .i64 0, .bool false]), 2, 16) := by kernel_rfl
theorem under_mine : Tryd.prog.underlying 35 = some (.slice 44) := by kernel_rfl
end Go.Proofs.YtkkcipjlinfieaaDoor.JMine
