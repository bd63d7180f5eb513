/- Words for memory that all texts over layer wire share: a slice that reads as a list (nil too), rows of numbers, and how they last. Nothing of the program but its name. -/
import Derived.Below
import Derived.Laws.OwnMore
import Derived.Laws.Rows
import Derived.Deep.Draws
import Derived.Lib.Hide
import Derived.WalkKit
namespace Go.Proofs.YtgjcbfdhpbkhoaaGreatDoor.WMem
open Go.RowKit
def u8v (x : UInt8) : Value := .int .u8 (x.toNat : Int)
def u64v (x : UInt64) : Value := .int .u64 (x.toNat : Int)
def i64v (x : Int) : Value := .int .i64 x
def Sl (w : World) (B : Nat) (A : Option Addr) (xs : List Value) : Prop :=
  ∀ k u, xs[k]? = some u → ∃ a, A = some a ∧ a.block < B ∧ w.cell? (a.add k) = some u
theorem addr_add_block (a : Addr) (n : Nat) : (a.add n).block = a.block := by unfold Addr.add; split <;> rfl
theorem addr_add_add (a : Addr) (i j : Nat) : (a.add i).add j = a.add (i + j) := by
  unfold Addr.add
  by_cases hi : i = 0 <;> by_cases hj : j = 0 <;> simp [hi, hj, Nat.add_assoc]
section
variable {w w' : World} {B B' : Nat} {A : Option Addr} {xs : List Value}
theorem Sl.keep (h : Sl w B A xs) (hk : ∀ p : Addr, p.block < B → w'.cell? p = w.cell? p) : Sl w' B A xs := fun k u hu => by
  obtain ⟨a, rfl, hb, hc⟩ := h k u hu
  exact ⟨a, rfl, hb, by rw [hk _ (by rw [addr_add_block]; exact hb)]; exact hc⟩
theorem Sl.up (h : Sl w B A xs) (hB : B ≤ B') : Sl w B' A xs := fun k u hu => by
  obtain ⟨a, rfl, hb, hc⟩ := h k u hu
  exact ⟨a, rfl, by omega, hc⟩
theorem Sl.below (h : Sl w B A xs) (hb : Below B w w') : Sl w' B A xs := h.keep fun _ hp => hb.cell hp
theorem Sl.below_le (h : Sl w B A xs) (hb : Below B' w w') (hB : B ≤ B') : Sl w' B A xs := h.keep fun _ hp => hb.cell (by omega)
theorem Sl.nil (w : World) (B : Nat) (A : Option Addr) : Sl w B A [] := fun k u hu => by simp at hu
theorem Sl.u8 {l : List UInt8} (h : Sl w B A (l.map u8v)) {k : Nat} (hk : k < l.length) : ∃ a, A = some a ∧ a.block < B ∧ w.cell? (a.add k) = some (.int .u8 (l[k].toNat : Int)) :=
  h k _ (by rw [List.getElem?_map, List.getElem?_eq_getElem hk]; rfl)
theorem Sl.u64 {l : List UInt64} (h : Sl w B A (l.map u64v)) {k : Nat} (hk : k < l.length) : ∃ a, A = some a ∧ a.block < B ∧ w.cell? (a.add k) = some (.int .u64 (l[k].toNat : Int)) :=
  h k _ (by rw [List.getElem?_map, List.getElem?_eq_getElem hk]; rfl)
theorem Sl.i64 {l : List Int} (h : Sl w B A (l.map i64v)) {k : Nat} (hk : k < l.length) : ∃ a, A = some a ∧ a.block < B ∧ w.cell? (a.add k) = some (.int .i64 l[k]) :=
  h k _ (by rw [List.getElem?_map, List.getElem?_eq_getElem hk]; rfl)
theorem Sl.take (h : Sl w B A xs) (n : Nat) : Sl w B A (xs.take n) := fun k u hu => by
  rw [List.getElem?_take] at hu
  split at hu
  · exact h k u hu
  · cases hu
theorem Sl.of_row {g : Nat} {cur : Array Value} {T : TypeId} {fz : Nat × Nat} (h : w.heap[g]? = some (.cells cur T fz)) (hB : g < B) {n : Nat} (hx : cur.toList.take n = xs) : Sl w B (some ⟨g, 0, none⟩) xs := fun k u hu => by
  refine ⟨_, rfl, hB, ?_⟩
  have hadd : (⟨g, 0, none⟩ : Addr).add k = ⟨g, k, none⟩ := by unfold Addr.add; split <;> simp_all
  rw [hadd, cell_of_row w g k cur T fz h]
  rw [← hx, List.getElem?_take] at hu
  split at hu
  · simpa using hu
  · cases hu
end
theorem bcell {B : Nat} {W w1 : World} (hb : Below B W w1) : (∀ b o, b < B → w1.cell? ⟨b, o, none⟩ = W.cell? ⟨b, o, none⟩) ∧ (∀ b o, b < B → w1.frozen? ⟨b, o, none⟩ = W.frozen? ⟨b, o, none⟩) :=
  ⟨fun b o h => hb.cell (p := ⟨b, o, none⟩) h, fun b o h => hb.frozen (p := ⟨b, o, none⟩) h⟩
theorem below_drewN {B : Nat} {a w : World} (h : Below B a w) (n : Nat) : Below B a (w.drewN n) := ⟨h.os, h.tape, h.output, h.size, h.block⟩
theorem below_up {a w : World} {B : Nat} {b : World} (h : Below B a w) (k : Below w.heap.size w b) (hB : B ≤ w.heap.size) : Below B a b := h.trans (k.mono hB)
theorem row_cell {w : World} {g : Nat} {cur : Array Value} {T : TypeId} (h : w.heap[g]? = some (.cells cur T (0, 0))) (i : Nat) : w.cell? ⟨g, i, none⟩ = cur[i]? := cell_of_row w g i cur T (0, 0) h
theorem row_free {w : World} {g : Nat} {cur : Array Value} {T : TypeId} (h : w.heap[g]? = some (.cells cur T (0, 0))) (i : Nat) : w.frozen? ⟨g, i, none⟩ = false := by simp [World.frozen?, h]
theorem row_lt {w : World} {g : Nat} {o : Obj} (h : w.heap[g]? = some o) : g < w.heap.size := (Array.getElem?_eq_some_iff.1 h).1
theorem row_set {w : World} {g : Nat} {cur : Array Value} {T : TypeId} (h : w.heap[g]? = some (.cells cur T (0, 0))) (i : Nat) (u : Value) : (w.setCell ⟨g, i, none⟩ u).heap[g]? = some (.cells (cur.setIfInBounds i u) T (0, 0)) := by
  simp [World.setCell, Array.getElem?_modify, h]
theorem row_below {w w' : World} {B g : Nat} {o : Obj} (h : w.heap[g]? = some o) (hb : Below B w w') (hg : g < B) : w'.heap[g]? = some o := (hb.block g hg).trans h
theorem row_new (w : World) (o : Obj) : (w.alloc o).heap[w.heap.size]? = some o := heap_alloc_new w o
theorem row_alloc {w : World} {g : Nat} {o : Obj} (h : w.heap[g]? = some o) (o' : Obj) : (w.alloc o').heap[g]? = some o := (Below.heap_alloc w o' g (row_lt h)).trans h
def Row (w : World) (g : Nat) (l : List UInt8) (rest : List Value) : Prop := w.heap[g]? = some (.cells (l.map u8v ++ rest).toArray 5 (0, 0))
section
variable {w w' : World} {g : Nat} {l : List UInt8} {rest : List Value}
theorem Row.lt (h : Row w g l rest) : g < w.heap.size := row_lt h
theorem Row.cell (h : Row w g l rest) {i : Nat} (hi : i < l.length) : w.cell? ⟨g, i, none⟩ = some (.int .u8 (l[i].toNat : Int)) := by
  rw [row_cell h, List.getElem?_toArray, List.getElem?_append_left (by simpa using hi), List.getElem?_map, List.getElem?_eq_getElem hi]; rfl
theorem Row.free (h : Row w g l rest) (i : Nat) : w.frozen? ⟨g, i, none⟩ = false := row_free h i
theorem Row.set (h : Row w g l rest) {i : Nat} (hi : i < l.length) (x : UInt8) : Row (w.setCell ⟨g, i, none⟩ (.int .u8 (x.toNat : Int))) g (l.set i x) rest := by
  have h2 := row_set h i (u8v x)
  unfold Row
  rw [show (Value.int .u8 (x.toNat : Int)) = u8v x from rfl, h2]
  congr 2
  rw [List.setIfInBounds_toArray, List.set_append_left _ _ (by simpa using hi), List.map_set]
theorem Row.sl (h : Row w g l rest) {B : Nat} (hB : g < B) : Sl w B (some ⟨g, 0, none⟩) (l.map u8v) := Sl.of_row h hB (n := l.length) (by simp)
theorem Row.keep (h : Row w g l rest) {B : Nat} (hb : Below B w w') (hg : g < B) : Row w' g l rest := row_below h hb hg
theorem Row.grown (h : Row w g l rest) {row : Option Nat} (hb : w.grownBy w' row) (hg : some g ≠ row) : Row w' g l rest := (hb.block g h.lt hg).trans h
theorem Row.alloc (h : Row w g l rest) (o : Obj) : Row (w.alloc o) g l rest := row_alloc h o
end
theorem grown_set {a w : World} {g : Nat} (h : a.grownBy w (some g)) (i : Nat) (u : Value) : a.grownBy (w.setCell ⟨g, i, none⟩ u) (some g) :=
  ⟨h.os, h.tape, h.output, by simpa [World.setCell] using h.size, fun k hk hne => (Below.heap_setCell w _ u k (by rintro rfl; exact hne rfl)).trans (h.block k hk hne)⟩
theorem grown_setp {a w : World} {p : Addr} (h : a.grownBy w (some p.block)) (u : Value) : a.grownBy (w.setCell p u) (some p.block) :=
  ⟨h.os, h.tape, h.output, by simpa [World.setCell] using h.size, fun k hk hne => (Below.heap_setCell w _ u k (by rintro rfl; exact hne rfl)).trans (h.block k hk hne)⟩
theorem grown_refl (w : World) (row : Option Nat) : w.grownBy w row := ⟨rfl, rfl, rfl, Nat.le_refl _, fun _ _ _ => rfl⟩
theorem grown_below {a w : World} {g B : Nat} (h : a.grownBy w (some g)) (hB : B ≤ g) (hg : g < a.heap.size) : Below B a w := ⟨h.os, h.tape, h.output, h.size, fun k hk => h.block k (by omega) (fun e => by injection e; omega)⟩
theorem below_grown {a w : World} (h : Below a.heap.size a w) (row : Option Nat) : a.grownBy w row := ⟨h.os, h.tape, h.output, h.size, fun k hk _ => h.block k hk⟩
theorem grown_trans {a b c : World} {row : Option Nat} (h : a.grownBy b row) (k : b.grownBy c row) : a.grownBy c row :=
  ⟨k.os.trans h.os, k.tape.trans h.tape, k.output.trans h.output, Nat.le_trans h.size k.size, fun i hi hne => (k.block i (Nat.lt_of_lt_of_le hi h.size) hne).trans (h.block i hi hne)⟩
theorem Sl.grown {w w' : World} {B g : Nat} {A : Option Addr} {xs : List Value} (h : Sl w B A xs) (hb : w.grownBy w' (some g)) (hg : B ≤ g) (hs : B ≤ w.heap.size) : Sl w' B A xs :=
  h.keep fun p hp => World.cell?_of_block (hb.block p.block (by omega) (fun e => by injection e; omega))
theorem Sl.drewN {w : World} {B : Nat} {A : Option Addr} {xs : List Value} (h : Sl w B A xs) (n : Nat) : Sl (w.drewN n) B A xs := h
theorem Row.drewN {w : World} {g : Nat} {l : List UInt8} {rest : List Value} (h : Row w g l rest) (n : Nat) : Row (w.drewN n) g l rest := h
def RowV (w : World) (g : Nat) (T : TypeId) (xs : List Value) : Prop := w.heap[g]? = some (.cells xs.toArray T (0, 0))
section
variable {w w' : World} {g : Nat} {T : TypeId} {xs : List Value}
theorem RowV.lt (h : RowV w g T xs) : g < w.heap.size := row_lt h
theorem RowV.cell (h : RowV w g T xs) {i : Nat} (hi : i < xs.length) : w.cell? ⟨g, i, none⟩ = some xs[i] := by
  rw [row_cell h, List.getElem?_toArray, List.getElem?_eq_getElem hi]
theorem RowV.free (h : RowV w g T xs) (i : Nat) : w.frozen? ⟨g, i, none⟩ = false := row_free h i
theorem RowV.set (h : RowV w g T xs) (i : Nat) (u : Value) : RowV (w.setCell ⟨g, i, none⟩ u) g T (xs.set i u) := by
  have h2 := row_set h i u
  unfold RowV
  rw [h2, List.setIfInBounds_toArray]
theorem RowV.sl (h : RowV w g T xs) {B : Nat} (hB : g < B) : Sl w B (some ⟨g, 0, none⟩) xs := Sl.of_row h hB (n := xs.length) (by simp)
theorem RowV.keep (h : RowV w g T xs) {B : Nat} (hb : Below B w w') (hg : g < B) : RowV w' g T xs := row_below h hb hg
theorem RowV.grown (h : RowV w g T xs) {row : Option Nat} (hb : w.grownBy w' row) (hg : some g ≠ row) : RowV w' g T xs := (hb.block g h.lt hg).trans h
theorem RowV.alloc (h : RowV w g T xs) (o : Obj) : RowV (w.alloc o) g T xs := row_alloc h o
theorem RowV.drewN (h : RowV w g T xs) (n : Nat) : RowV (w.drewN n) g T xs := h
end
def natv (n : Nat) : Value := .int .i64 (n : Int)
theorem Sl.nat {w : World} {B : Nat} {A : Option Addr} {l : List Nat} (h : Sl w B A (l.map natv)) {k : Nat} (hk : k < l.length) : ∃ a, A = some a ∧ a.block < B ∧ w.cell? (a.add k) = some (.int .i64 (l[k] : Int)) :=
  h k _ (by rw [List.getElem?_map, List.getElem?_eq_getElem hk]; rfl)
theorem lq1 : type_of% @List.getElem_toArray := @List.getElem_toArray
theorem lq2 : type_of% @List.getElem_cons_zero := @List.getElem_cons_zero
theorem lq3 : type_of% @List.getElem_cons_succ := @List.getElem_cons_succ
theorem lq4 : type_of% @List.setIfInBounds_toArray := @List.setIfInBounds_toArray
theorem lq5 : type_of% @List.set_cons_zero := @List.set_cons_zero
theorem lq6 : type_of% @List.set_cons_succ := @List.set_cons_succ
end Go.Proofs.YtgjcbfdhpbkhoaaGreatDoor.WMem
/- What a call may turn: only blocks of a set, and new ones. Words for calls that write into structures of their own. Nothing of the program. -/
namespace Go.Proofs.YtgjcbfdhpbkhoaaGreatDoor.Ext
open Go.RowKit WMem
structure Ext (S : Nat → Prop) (a w : World) : Prop where
  os : w.os = a.os
  tape : w.tape = a.tape
  output : w.output = a.output
  size : a.heap.size ≤ w.heap.size
  block : ∀ k, k < a.heap.size → ¬ S k → w.heap[k]? = a.heap[k]?
def In (S' S : Nat → Prop) (a : World) : Prop := ∀ k, S' k → S k ∨ a.heap.size ≤ k
def There (S : Nat → Prop) (a : World) : Prop := ∀ k, S k → k < a.heap.size
def Far (S S' : Nat → Prop) : Prop := ∀ k, S k → S' k → False
section
variable {S S' S'' : Nat → Prop} {a b w : World}
theorem In.refl (S : Nat → Prop) (a : World) : In S S a := fun _ h => .inl h
theorem In.trans (h : In S' S a) (h' : In S'' S' b) (hs : a.heap.size ≤ b.heap.size) : In S'' S a := fun k hk => by
  rcases h' k hk with h1 | h1
  · exact h k h1
  · exact .inr (by omega)
theorem Ext.refl (S : Nat → Prop) (a : World) : Ext S a a := ⟨rfl, rfl, rfl, Nat.le_refl _, fun _ _ _ => rfl⟩
theorem Ext.trans (h : Ext S a b) (h' : Ext S' b w) (hi : In S' S a) : Ext S a w :=
  ⟨h'.os.trans h.os, h'.tape.trans h.tape, h'.output.trans h.output, Nat.le_trans h.size h'.size, fun k hk hn =>
    (h'.block k (Nat.lt_of_lt_of_le hk h.size) (fun hs => by
      rcases hi k hs with h1 | h1
      · exact hn h1
      · omega)).trans (h.block k hk hn)⟩
theorem Ext.more (h : Ext S a w) (hs : ∀ k, k < a.heap.size → S k → S' k) : Ext S' a w := ⟨h.os, h.tape, h.output, h.size, fun k hk hn => h.block k hk fun h1 => hn (hs k hk h1)⟩
theorem Ext.of_below (h : Below a.heap.size a w) (S : Nat → Prop) : Ext S a w := ⟨h.os, h.tape, h.output, h.size, fun k hk _ => h.block k hk⟩
theorem Ext.below {B : Nat} (h : Ext S a w) (hB : B ≤ a.heap.size) (hs : ∀ k, S k → B ≤ k) : Below B a w := ⟨h.os, h.tape, h.output, h.size, fun k hk => h.block k (by omega) fun h1 => by have := hs k h1; omega⟩
theorem Ext.of_grown {row : Option Nat} (h : a.grownBy w row) (hs : ∀ k, row = some k → k < a.heap.size → S k) : Ext S a w :=
  ⟨h.os, h.tape, h.output, h.size, fun k hk hn => h.block k hk fun e => hn (hs k e.symm hk)⟩
theorem Ext.alloc (h : Ext S a w) (o : Obj) : Ext S a (w.alloc o) :=
  ⟨h.os, h.tape, h.output, Nat.le_trans h.size (by simp), fun k hk hn => (Below.heap_alloc w o k (Nat.lt_of_lt_of_le hk h.size)).trans (h.block k hk hn)⟩
theorem Ext.drew (h : Ext S a w) : Ext S a w.drew := ⟨h.os, h.tape, h.output, h.size, h.block⟩
theorem Ext.drewN (h : Ext S a w) (n : Nat) : Ext S a (w.drewN n) := ⟨h.os, h.tape, h.output, h.size, h.block⟩
theorem Ext.setCell (h : Ext S a w) {p : Addr} (hp : S p.block ∨ a.heap.size ≤ p.block) (u : Value) : Ext S a (w.setCell p u) :=
  ⟨h.os, h.tape, h.output, by simpa [World.setCell] using h.size, fun k hk hn => (Below.heap_setCell w p u k (by
    rintro rfl
    rcases hp with hp | hp
    · exact hn hp
    · omega)).trans (h.block k hk hn)⟩
theorem There.up (h : There S a) (hs : a.heap.size ≤ b.heap.size) : There S b := fun k hk => Nat.lt_of_lt_of_le (h k hk) hs
theorem Far.step (h : Far S S') (hi : In S'' S a) (ht : There S' a) : Far S'' S' := fun k h1 h2 => by
  rcases hi k h1 with h3 | h3
  · exact h k h3 h2
  · have := ht k h2; omega
theorem Far.symm (h : Far S S') : Far S' S := fun k h1 h2 => h k h2 h1
theorem Ext.keeps (h : Ext S a w) (hf : Far S S') (ht : There S' a) : ∀ k, S' k → w.heap[k]? = a.heap[k]? := fun k hk => h.block k (ht k hk) fun h1 => hf k h1 hk
end
end Go.Proofs.YtgjcbfdhpbkhoaaGreatDoor.Ext
