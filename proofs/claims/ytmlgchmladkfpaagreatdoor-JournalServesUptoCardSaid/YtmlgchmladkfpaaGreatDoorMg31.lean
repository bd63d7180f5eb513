/- told: the record behind whose head some numbers stand. -/
import Derived.Test.YtmlgchmladkfpaaGreatDoorMg30
import Derived.Test.YtmlgchmladkfpaaGreatDoorMg28
import Derived.Deep.RegionLaw
import Derived.Deep.AppendLies
namespace Go.Proofs.YtmlgchmladkfpaaGreatDoor.JTold
open Go.RowKit Go.Shelf WMem WPlain SNums JPlain JMem JChunk JBody

attribute [local go_sem] Oper.semAt_some

/-- a piece of code that comes to its end, and to no other -/
def OnlyN (Q : Exit → Act → World → Prop) : Exit → Act → World → Prop
  | .normal, a, w => Q .normal a w
  | _, _, _ => False
theorem only_normal {Q : Exit → Act → World → Prop} {a : Act} {w : World} : OnlyN Q .normal a w = Q .normal a w := rfl
theorem wp_only {P : Program} {c : Code} {Q : Exit → Act → World → Prop} {a : Act} {w : World} (h : c.wp P (OnlyN Q) a w) : c.wp P Q a w :=
  wp_mono h fun e a w q => by
    cases e with
    | normal => exact q
    | _ => exact q.elim
def num_ (xs : List UInt64) (i : Nat) : Nat := (xs.getD i 0).toNat
/-- an entry of a descriptor, of two numbers; of a revoke, of one -/
def pairE (xs : List UInt64) (i : Nat) : Ent := ⟨(num_ xs (2 * i) : Nat), ((num_ xs (2 * i + 1) : Nat) : Int) == 1⟩
def oneE (xs : List UInt64) (i : Nat) : Ent := ⟨(num_ xs i : Nat), false⟩
def ecell (x : Ent) : List Value := [.int .i64 x.blk, .bool x.esc]
def ecells (l : List Ent) : List Value := l.flatMap ecell
theorem ecells_snoc (l : List Ent) (x : Ent) : ecells (l ++ [x]) = ecells l ++ ecell x := by simp [ecells]
theorem ecells_get : ∀ (l : List Ent) (i : Nat) (h : i < l.length), (ecells l)[i * 2]? = some (.int .i64 l[i].blk) ∧ (ecells l)[i * 2 + 1]? = some (.bool l[i].esc)
  | x :: l, 0, _ => by simp [ecells, ecell]
  | x :: l, i + 1, h => by
    have e : ∀ j, (ecells (x :: l))[(i + 1) * 2 + j]? = (ecells l)[i * 2 + j]? := fun j => by
      have : ecells (x :: l) = ecell x ++ ecells l := rfl
      rw [this, List.getElem?_append_right (by simp [ecell]; omega)]
      congr 1
      simp [ecell]
      omega
    have ih := ecells_get l i (by simpa using h)
    have e0 := e 0
    simp only [Nat.add_zero] at e0
    rw [e0, e 1]
    exact ih
/-- a row of one's own that reads as entries -/
theorem ents_of_own {w : World} {base : Nat} {T : TypeId} {v : Value} {n : Nat} {l : List Ent} (h : w.ownsRow base T 2 v n (ecells l)) (hl : l.length = n) :
    ∃ A c, v = .slice A l.length c ∧ Ents w w.heap.size A l ∧ (∀ a, A = some a → base ≤ a.block) := by
  subst hl
  rcases h.2 with ⟨rfl, hn⟩ | ⟨g, cap, cur, rfl, hb, hg, _⟩
  · have : l = [] := List.eq_nil_of_length_eq_zero hn
    subst this
    exact ⟨none, 0, rfl, Ents.nil _ _ _, fun a ha => by cases ha⟩
  · refine ⟨_, cap, rfl, fun i hi => ?_, fun a ha => by cases ha; exact hb⟩
    obtain ⟨e0, e1⟩ := ecells_get l i hi
    have hc := h.cells (g := g) rfl
    exact ⟨⟨g, 0, none⟩, rfl, h.lt g rfl |>.2, hc _ _ e0, hc _ _ e1⟩
theorem infoE : (Tryz.prog.info? 223).map (fun i => (i.zero, i.size, i.bytes)) = some (some (.agg #[.int .i64 0, .bool false]), 2, 16) := by kernel_rfl
theorem underE : Tryz.prog.underlying 152 = some (.slice 223) := by kernel_rfl
theorem own_ne {w : World} {base g : Nat} {e t : TypeId} {size n : Nat} {v : Value} {zs : List Value} {cs : Array Value} {fz : Nat × Nat} (h : w.ownsRow base e size v n zs) (hg : w.heap[g]? = some (.cells cs t fz)) (hne : e ≠ t) : v.ownBlock ≠ some g := by
  rcases h.2 with ⟨rfl, _⟩ | ⟨k, cap, cur, rfl, _, hk, _⟩
  · simp [Value.ownBlock]
  · intro e0
    simp [Value.ownBlock] at e0
    subst e0
    rw [hk] at hg
    injection hg with hg
    injection hg with _ h2
    exact hne h2
/-- a block of cells stays where only what is no cells turns -/
theorem cells_own {A B : World} {row : Option Nat} {k : Nat} {cs : Array Value} {t : TypeId} (h : A.heap[k]? = some (.cells cs t (0, 0))) (hg : A.grownBy B row) (hr : ∀ r, row = some r → ∃ o : Obj, A.heap[r]? = some o ∧ o.isCells = false) : B.heap[k]? = some (.cells cs t (0, 0)) :=
  (hg.block k (row_lt h) (fun e => by obtain ⟨o, ho, hc⟩ := hr k e.symm; rw [h] at ho; cases ho; cases hc)).trans h
/-- the record's box -/
def rbox (kind seq : Int) (v : Value) : Array Value := #[.int .i64 kind, .int .i64 seq, v, .int .u32 0, .int .i64 0]
/-- a row of entries grows by one, and its record's field is set -/
theorem told_append {W w2 : World} {R base k : Nat} {kind seq : Int} {v : Value} {l : List Ent} {x : Ent} {gg cap : Nat} (hb : W.heap[R]? = some (.cells (rbox kind seq v) 154 (0, 0))) (ho : W.ownsRow base 223 2 v k (ecells l))
    (hown : w2.ownsRow base 223 2 (.slice (some ⟨gg, 0, none⟩) (k + 1) cap) (k + 1) (ecells l ++ ecell x)) (hgrow : W.grownBy w2 v.ownBlock) :
    let w3 := w2.setCell ⟨R, 2, none⟩ (.slice (some ⟨gg, 0, none⟩) (k + 1) cap)
    w3.heap[R]? = some (.cells (rbox kind seq (.slice (some ⟨gg, 0, none⟩) (k + 1) cap)) 154 (0, 0)) ∧ w3.ownsRow base 223 2 (.slice (some ⟨gg, 0, none⟩) (k + 1) cap) (k + 1) (ecells (l ++ [x])) := by
  intro w3
  have h2 : w2.heap[R]? = some (.cells (rbox kind seq v) 154 (0, 0)) := (hgrow.block R (row_lt hb) (Ne.symm (own_ne ho hb (by decide)))).trans hb
  have h3 := row_set h2 2 (.slice (some ⟨gg, 0, none⟩) (k + 1) cap)
  refine ⟨h3, ?_⟩
  rw [ecells_snoc]
  refine hown.kept (row := some R) (grown_set (grown_refl _ _) 2 _) (.inr ?_)
  exact own_ne hown h2 (by decide)
theorem take_map_succ {α : Type} (f : Nat → α) (k : Nat) : (List.range (k + 1)).map f = (List.range k).map f ++ [f k] := by rw [List.range_succ]; simp
/-- the entries' cells are there, and nothing else has turned -/
def TU (w : World) (kind seq : Int) (l : List Ent) (W : World) : Prop :=
  ∃ v, W.heap[w.heap.size + 1]? = some (.cells (rbox kind seq v) 154 (0, 0)) ∧ W.ownsRow w.heap.size 223 2 v l.length (ecells l) ∧ W.heap[w.heap.size]? = some (.cells (rbox 0 0 (.slice none 0 0)) 154 (0, 0)) ∧ Below w.heap.size w W
def lay2 (w : World) (kind seq : Int) : World := (w.alloc (.cells (rbox 0 0 (.slice none 0 0)) 154)).alloc (.cells (rbox kind seq (.slice none 0 0)) 154)
theorem lay2_is (w : World) (kind seq : Int) : TU w kind seq [] (lay2 w kind seq) := by
  refine ⟨.slice none 0 0, ?_, World.ownsRow_nil _ _ _ _, row_alloc (row_new _ _) _, ((below_box (w := w) _).alloc (by simp) _)⟩
  have h1 := row_new (w.alloc (.cells (rbox 0 0 (.slice none 0 0)) 154)) (.cells (rbox kind seq (.slice none 0 0)) 154)
  simp only [World.size_alloc] at h1
  exact h1
abbrev set5 (W : World) (b : Nat) (v0 v1 v2 v3 v4 : Value) : World := ((((W.setCell ⟨b, 0, none⟩ v0).setCell ⟨b, 1, none⟩ v1).setCell ⟨b, 2, none⟩ v2).setCell ⟨b, 3, none⟩ v3).setCell ⟨b, 4, none⟩ v4
theorem set5_grown (W : World) (b : Nat) (v0 v1 v2 v3 v4 : Value) : W.grownBy (set5 W b v0 v1 v2 v3 v4) (some b) :=
  grown_set (grown_set (grown_set (grown_set (grown_set (grown_refl _ _) 0 _) 1 _) 2 _) 3 _) 4 _
theorem set5_row {W : World} {b : Nat} {u0 u1 u2 u3 u4 : Value} {T : TypeId} (v0 v1 v2 v3 v4 : Value) (h : W.heap[b]? = some (.cells #[u0, u1, u2, u3, u4] T (0, 0))) : (set5 W b v0 v1 v2 v3 v4).heap[b]? = some (.cells #[v0, v1, v2, v3, v4] T (0, 0)) := by
  have := row_set (row_set (row_set (row_set (row_set h 0 v0) 1 v1) 2 v2) 3 v3) 4 v4
  simpa using this
theorem set5_below {a W : World} {B b : Nat} (v0 v1 v2 v3 v4 : Value) (h : Below B a W) (hb : B ≤ b) : Below B a (set5 W b v0 v1 v2 v3 v4) :=
  ((((h.setCell hb _).setCell hb _).setCell hb _).setCell hb _).setCell hb _
theorem Ents.set5 {W : World} {B b : Nat} {A : Option Addr} {l : List Ent} (h : Ents W B A l) (ha : ∀ a, A = some a → b ≠ a.block) (v0 v1 v2 v3 v4 : Value) : Ents (set5 W b v0 v1 v2 v3 v4) B A l := fun i hi => by
  obtain ⟨a, rfl, hb, h1, h2⟩ := h i hi
  have hg := set5_grown W b v0 v1 v2 v3 v4
  have hk : ∀ n, (JTold.set5 W b v0 v1 v2 v3 v4).cell? (a.add n) = W.cell? (a.add n) := fun n => by
    by_cases hlt : a.block < W.heap.size
    · exact World.cell?_of_block (by rw [addr_add_block]; exact hg.block a.block hlt (fun e => by injection e with e; exact ha a rfl e.symm))
    · exfalso
      have := World.block_lt_of_cell? W _ h1
      rw [addr_add_block] at this
      exact hlt this
  exact ⟨a, rfl, hb, (hk _).trans h1, (hk _).trans h2⟩
theorem set5_size (W : World) (b : Nat) (v0 v1 v2 v3 v4 : Value) : W.heap.size ≤ (set5 W b v0 v1 v2 v3 v4).heap.size := (set5_grown W b v0 v1 v2 v3 v4).size
theorem Ents.set5_up {W : World} {b : Nat} {A : Option Addr} {l : List Ent} (h : Ents W W.heap.size A l) (ha : ∀ a, A = some a → b ≠ a.block) (v0 v1 v2 v3 v4 : Value) : Ents (JTold.set5 W b v0 v1 v2 v3 v4) (JTold.set5 W b v0 v1 v2 v3 v4).heap.size A l :=
  (Ents.set5 h ha v0 v1 v2 v3 v4).up (set5_size W b v0 v1 v2 v3 v4)
/-- the end of told: the record is handed over in the result's cell -/
theorem told_end {w W : World} {kind seq : Int} {v : Value} {l : List Ent} (n : Nat) (hl : l.length = n) {u0 u1 u2 u3 u4 : Value} (hr0 : W.heap[w.heap.size]? = some (.cells #[u0, u1, u2, u3, u4] 154 (0, 0))) (ho : W.ownsRow w.heap.size 223 2 v l.length (ecells l)) (hb : Below w.heap.size w W) (sum start : Int) :
    ∃ A c, v = .slice A n c ∧ Ents (set5 W w.heap.size (.int .i64 kind) (.int .i64 seq) v (.int .u32 sum) (.int .i64 start)) (set5 W w.heap.size (.int .i64 kind) (.int .i64 seq) v (.int .u32 sum) (.int .i64 start)).heap.size A l ∧ (∀ a, A = some a → w.heap.size ≤ a.block) ∧ Below w.heap.size w (set5 W w.heap.size (.int .i64 kind) (.int .i64 seq) v (.int .u32 sum) (.int .i64 start)) := by
  have hk := ho.kept (set5_grown W w.heap.size (.int .i64 kind) (.int .i64 seq) v (.int .u32 sum) (.int .i64 start)) (.inr (own_ne ho hr0 (by decide)))
  obtain ⟨A, c, e, hE, hA⟩ := ents_of_own hk rfl
  rw [hl] at e
  exact ⟨A, c, e, hE, hA, set5_below _ _ _ _ _ hb (Nat.le_refl _)⟩
set_option maxRecDepth 100000 in
set_option maxHeartbeats 4000000 in
theorem told_3 (seq : Int) (xs : List UInt64) (hn : xs.length ≤ 1000) (hx : ∀ x ∈ xs, x.toNat < 4294967296) (B : Nat) (A : Option Addr) (c : Nat) (w : World) (hB : B ≤ w.heap.size) (hA : Sl w B A (xs.map u64v)) :
    Calls Tryz.prog 197 #[.int .i64 3, .int .i64 seq, .slice A xs.length c] w fun e w' => ∃ A' c', e = .returned (recV ⟨3, seq, (List.range xs.length).map (oneE xs), 0, 0⟩ A' c') ∧ Ents w' w'.heap.size A' ((List.range xs.length).map (oneE xs)) ∧ (∀ a, A' = some a → w.heap.size ≤ a.block) ∧ Below w.heap.size w w' := by
  have HA := Lib.hid hA
  have HXS := Lib.hid hx
  obtain ⟨i0, hi0, hz0, hz1, hz2⟩ := info_parts infoE
  have H0 := Lib.hid (lay2_is w 3 seq)
  clear hA hx
  go_enter Tryz.func197, Tryz.ntmps197
  go_wp2
  go_loopw [38] (fun i wr => ∃ k : Nat, k ≤ xs.length ∧ i = .int .i64 k ∧ TU w 3 seq ((List.range k).map (oneE xs)) wr) (fun i _ => xs.length - (intOf i).toNat)
  case atStart => exact ⟨0, Nat.zero_le _, rfl, H0.out⟩
  case round =>
    obtain ⟨k, hk, rfl, v, hr, ho, hr0, hb⟩ := hrel
    have sB := hb.size
    have HR := Lib.hid hr
    have HO := Lib.hid ho
    have HR0 := Lib.hid hr0
    have HB := Lib.hid hb
    have c2 : wr.cell? ⟨w.heap.size + 1, 2, none⟩ = some v := (row_cell hr 2).trans rfl
    have f2 : wr.frozen? ⟨w.heap.size + 1, 2, none⟩ = false := row_free hr 2
    have hlR := row_lt hr
    clear hr ho hr0 hb
    by_cases hlt : k < xs.length
    · obtain ⟨a, rfl, _, cx⟩ := (HA.out.below_le HB.out hB).u64 hlt
      have hxk := HXS.out xs[k] (List.getElem_mem hlt)
      have HE : Hid (oneE xs k = ⟨(xs[k].toNat : Int), false⟩) := Lib.hid (by unfold oneE num_; rw [List.getD_eq_getElem?_getD, List.getElem?_eq_getElem hlt]; rfl)
      have HTK := Lib.hid (take_map_succ (oneE xs) k)
      generalize xs[k].toNat = x at *
      have s0 : IntKind.i64.wrap (x : Int) = (x : Int) := IntWalk.i64_in _ (by omega)
      have HOL : Hid (((List.range k).map (oneE xs)).length = k) := Lib.hid (by simp)
      have hbx : wr.heap[w.heap.size + 1]? = some (.cells (rbox 3 seq v) 154 (0, 0)) := HR.out
      go_wp2_with (at_builtin; go_loud (refine wpList_append_own _ rfl _ _ 152 rfl w.heap.size 223 i0 _ 2 16 underE hi0 hz0 hz1 hz2 rfl (by decide) v k (ecells ((List.range k).map (oneE xs))) rfl (by have := HO.out.alloc (.cells #[.int .i64 (x : Int), .bool false] 223); rw [HOL.out] at this; exact this) ⟨wr.heap.size, 0, none⟩ 1 1 (ecell ⟨(x : Int), false⟩) rfl rfl (World.news_of_block (cs := #[.int .i64 (x : Int), .bool false]) (t := 223) (fr := (0, 0)) (row_new wr _)) (by simp [ecell, Value.oneCell']) (by unfold maxLen; omega) (by omega) (by simp; omega) ?_); intro v' w2 h1 h2 h3
                   obtain ⟨gg, cap, rfl⟩ := ownsRow_succ h1
                   have hto := told_append (l := (List.range k).map (oneE xs)) (x := ⟨(x : Int), false⟩) (row_alloc hbx (.cells #[.int .i64 (x : Int), .bool false] 223)) (by have := HO.out.alloc (.cells #[.int .i64 (x : Int), .bool false] 223); rw [HOL.out] at this; exact this) h1 h2
                   have j0 : w2.cell? ⟨w.heap.size + 1, 2, none⟩ = some v := (World.cell?_of_block (h2.block (w.heap.size + 1) (by simp; omega) (Ne.symm (own_ne (HO.out.alloc _) (row_alloc hbx (.cells #[.int .i64 (x : Int), .bool false] 223)) (by decide))))).trans ((row_cell (row_alloc hbx _) 2).trans rfl)
                   have j1 : w2.frozen? ⟨w.heap.size + 1, 2, none⟩ = false := (World.frozen?_of_block (h2.block (w.heap.size + 1) (by simp; omega) (Ne.symm (own_ne (HO.out.alloc _) (row_alloc hbx (.cells #[.int .i64 (x : Int), .bool false] 223)) (by decide))))).trans (row_free (row_alloc hbx _) 2)
                   have HTO := Lib.hid hto
                   have HZ : Hid (w2.heap[w.heap.size]? = some (.cells (rbox 0 0 (.slice none 0 0)) 154 (0, 0))) := Lib.hid ((h2.block w.heap.size (by simp; omega) (Ne.symm (own_ne (HO.out.alloc _) (row_alloc HR0.out (.cells #[.int .i64 (x : Int), .bool false] 223)) (by decide)))).trans (row_alloc HR0.out _))
                   have HB2 : Hid (Below w.heap.size w w2) := Lib.hid ((HB.out.alloc sB _).grown h2 (by simp; omega) (fun q hq => (HO.out.lt q hq).1))
                   clear h1 h2 h3 hto)
      go_roundw
      case rel =>
        refine ⟨k + 1, by omega, by go_num, .slice (some ⟨gg, 0, none⟩) (k + 1) cap, HTO.out.1, ?_, (Below.heap_setCell w2 _ _ w.heap.size (by simp)).trans HZ.out, HB2.out.setCell (by simp) _⟩
        rw [HTK.out, HE.out]
        have := HTO.out.2
        rw [List.length_append, HOL.out]
        exact this
      case measure => simp [intOf]; omega
    · obtain rfl : k = xs.length := by omega
      obtain ⟨L, hL⟩ : ∃ L, L = (List.range xs.length).map (oneE xs) := ⟨_, rfl⟩
      have hn' : L.length = xs.length := by rw [hL]; simp
      rw [← hL] at HO
      have HLL := Lib.hid hL
      obtain ⟨n, hn2⟩ : ∃ n, L.length = n := ⟨_, rfl⟩
      have HLN := Lib.hid hn2
      clear hL hn' hn2
      obtain ⟨A', c', rfl, hE, hfar, hb⟩ := told_end n HLN.out (kind := 3) (seq := seq) HR0.out HO.out HB.out 0 0
      have HE := Lib.hid hE
      have HBB := Lib.hid hb
      have e0 : wr.cell? ⟨w.heap.size + 1, 0, none⟩ = some (.int .i64 3) := (row_cell HR.out 0).trans rfl
      have e1 : wr.cell? ⟨w.heap.size + 1, 1, none⟩ = some (.int .i64 seq) := (row_cell HR.out 1).trans rfl
      have e3 : wr.cell? ⟨w.heap.size + 1, 3, none⟩ = some (.int .u32 0) := (row_cell HR.out 3).trans rfl
      have e4 : wr.cell? ⟨w.heap.size + 1, 4, none⟩ = some (.int .i64 0) := (row_cell HR.out 4).trans rfl
      have z0 : wr.cell? ⟨w.heap.size, 0, none⟩ = some (.int .i64 0) := (row_cell HR0.out 0).trans rfl
      have z1 : wr.cell? ⟨w.heap.size, 1, none⟩ = some (.int .i64 0) := (row_cell HR0.out 1).trans rfl
      have z2 : wr.cell? ⟨w.heap.size, 2, none⟩ = some (.slice none 0 0) := (row_cell HR0.out 2).trans rfl
      have z3 : wr.cell? ⟨w.heap.size, 3, none⟩ = some (.int .u32 0) := (row_cell HR0.out 3).trans rfl
      have z4 : wr.cell? ⟨w.heap.size, 4, none⟩ = some (.int .i64 0) := (row_cell HR0.out 4).trans rfl
      have zf : ∀ i, wr.frozen? ⟨w.heap.size, i, none⟩ = false := fun i => row_free HR0.out i
      clear hE hb
      go_wp2_with fail
      refine bodyPost_ret (v := .agg #[.int .i64 3, .int .i64 seq, .slice A' n c', .int .u32 0, .int .i64 0]) ?_ rfl ?_
      · simp [results, Tryz.results197, go_sem, z0, z1, z2, z3, z4]
      · rw [← HLL.out]
        exact ⟨A', c', by unfold recV; rw [HLN.out]; rfl, HE.out, hfar, HBB.out⟩
end Go.Proofs.YtmlgchmladkfpaaGreatDoor.JTold
/- mine, theirs: a record of the one package as one of the other. -/
namespace Go.Proofs.YtmlgchmladkfpaaGreatDoor.JMine
open Go.RowKit Go.Shelf WMem WPlain SNums JPlain JMem JChunk JBody JTold

/-- a record's box, whole -/
def fbox (kind seq : Int) (v : Value) (sum : Nat) (start : Int) : Array Value := #[.int .i64 kind, .int .i64 seq, v, .int .u32 (sum : Int), .int .i64 start]
def zbox : Array Value := #[.int .i64 0, .int .i64 0, .slice none 0 0, .int .u32 0, .int .i64 0]
/-- a row of entries grows by one, and its record's field is set -/
theorem grow_field {W w2 : World} {R base k : Nat} {TR TE : TypeId} (hne : TE ≠ TR) {cs : Array Value} {v : Value} {l : List Ent} {x : Ent} {gg cap : Nat} (hb : W.heap[R]? = some (.cells cs TR (0, 0))) (ho : W.ownsRow base TE 2 v k (ecells l))
    (hown : w2.ownsRow base TE 2 (.slice (some ⟨gg, 0, none⟩) (k + 1) cap) (k + 1) (ecells l ++ ecell x)) (hgrow : W.grownBy w2 v.ownBlock) :
    let w3 := w2.setCell ⟨R, 2, none⟩ (.slice (some ⟨gg, 0, none⟩) (k + 1) cap)
    w3.heap[R]? = some (.cells (cs.setIfInBounds 2 (.slice (some ⟨gg, 0, none⟩) (k + 1) cap)) TR (0, 0)) ∧ w3.ownsRow base TE 2 (.slice (some ⟨gg, 0, none⟩) (k + 1) cap) (k + 1) (ecells (l ++ [x])) := by
  intro w3
  have h2 : w2.heap[R]? = some (.cells cs TR (0, 0)) := (hgrow.block R (row_lt hb) (Ne.symm (own_ne ho hb hne))).trans hb
  have h3 := row_set h2 2 (.slice (some ⟨gg, 0, none⟩) (k + 1) cap)
  refine ⟨h3, ?_⟩
  rw [ecells_snoc]
  refine hown.kept (row := some R) (grown_set (grown_refl _ _) 2 _) (.inr ?_)
  exact own_ne hown h2 hne
/-- the entries so far, the record's box, the result's cell, and the argument's box -/
structure MU (TS TR TE : TypeId) (r : Rec) (V : Value) (w : World) (k : Nat) (W : World) : Prop where
  own : ∃ v, W.heap[w.heap.size + 2]? = some (.cells (fbox r.kind r.seq v r.sum r.start) TR (0, 0)) ∧ W.ownsRow w.heap.size TE 2 v k (ecells (r.ents.take k))
  arg : W.heap[w.heap.size]? = some (.cells (fbox r.kind r.seq V r.sum r.start) TS (0, 0))
  res : W.heap[w.heap.size + 1]? = some (.cells zbox TR (0, 0))
  below : Below w.heap.size w W
theorem MU.next {TS TR TE : TypeId} (hne : TE ≠ TR) (hnz : TE ≠ TS) {r : Rec} {V : Value} {w : World} {k : Nat} {W w2 : World} {v : Value} {x : Ent} {gg cap : Nat} (hk : k < r.ents.length) (hx : r.ents[k] = x) (ha : W.heap[w.heap.size]? = some (.cells (fbox r.kind r.seq V r.sum r.start) TS (0, 0))) (hr : W.heap[w.heap.size + 1]? = some (.cells zbox TR (0, 0)))
    (hv : W.heap[w.heap.size + 2]? = some (.cells (fbox r.kind r.seq v r.sum r.start) TR (0, 0))) (ho : W.ownsRow w.heap.size TE 2 v k (ecells (r.ents.take k))) (hb : Below w.heap.size w W)
    (hown : w2.ownsRow w.heap.size TE 2 (.slice (some ⟨gg, 0, none⟩) (k + 1) cap) (k + 1) (ecells (r.ents.take k) ++ ecell x)) (hgrow : W.grownBy w2 v.ownBlock) :
    MU TS TR TE r V w (k + 1) (w2.setCell ⟨w.heap.size + 2, 2, none⟩ (.slice (some ⟨gg, 0, none⟩) (k + 1) cap)) := by
  obtain ⟨h1, h2⟩ := grow_field hne hv ho hown hgrow
  have stay : ∀ (j : Nat) (cs : Array Value) (t : TypeId), j ≠ w.heap.size + 2 → TE ≠ t → W.heap[j]? = some (.cells cs t (0, 0)) → (w2.setCell ⟨w.heap.size + 2, 2, none⟩ (.slice (some ⟨gg, 0, none⟩) (k + 1) cap)).heap[j]? = some (.cells cs t (0, 0)) := fun j cs t hj ht h =>
    (Below.heap_setCell w2 ⟨w.heap.size + 2, 2, none⟩ _ j hj).trans ((hgrow.block j (row_lt h) (Ne.symm (own_ne ho h ht))).trans h)
  refine ⟨⟨_, h1, ?_⟩, stay _ _ _ (by omega) hnz ha, stay _ _ _ (by omega) hne hr, (hb.grown hgrow hb.size (fun j hj => ?_)).setCell (by simp only; omega) _⟩
  · rw [List.take_succ_eq_append_getElem hk, hx]
    exact h2
  · rcases ho.2 with ⟨rfl, _⟩ | ⟨g, cap, cur, rfl, hbs, _⟩
    · simp [Value.ownBlock] at hj
    · simp only [Value.ownBlock, Option.some.injEq] at hj
      omega
theorem entsOut {w : World} {base : Nat} {T : TypeId} {v : Value} {n : Nat} {l : List Ent} (h : w.ownsRow base T 2 v n (ecells l)) (hl : l.length = n) : ∃ A c, v = .slice A n c ∧ Ents w w.heap.size A l ∧ (∀ a, A = some a → base ≤ a.block) := by
  obtain ⟨A, c, e, h1, h2⟩ := ents_of_own h hl
  exact ⟨A, c, by rw [e, hl], h1, h2⟩

theorem info_mine : (Tryz.prog.info? 223).map (fun i => (i.zero, i.size, i.bytes)) = some (some (.agg #[.int .i64 0, .bool false]), 2, 16) := by kernel_rfl
theorem under_mine : Tryz.prog.underlying 152 = some (.slice 223) := by kernel_rfl
end Go.Proofs.YtmlgchmladkfpaaGreatDoor.JMine
