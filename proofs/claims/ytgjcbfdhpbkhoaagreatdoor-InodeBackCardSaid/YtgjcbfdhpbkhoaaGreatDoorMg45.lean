/- The allocator: a row of blocks is taken. -/
import Derived.Test.YtgjcbfdhpbkhoaaGreatDoorMg44
import Derived.Test.YtgjcbfdhpbkhoaaGreatDoorMg48
namespace Go.Proofs.YtgjcbfdhpbkhoaaGreatDoor.ATake
open Go.RowKit Go.Shelf WMem WPlain WAppend WCrc WSeal TPlain TBits TSet TTurn TFace TTurnF TSame TFind TFacts GPlain GGeo GGeo2 GFace Ext Map DPlain DMem EPlain EMem EFace EBack EAny SPlain QPlain QMem QChunk APlain AMem AGeo AOpen ATurn ACount AHad ARound
attribute [local go_sem] Oper.semAt_some
def hadB (A : Al) (hld : Nat → Bool) (i : Nat) : Bk := hadL (A.bm i) (had A hld i) (A.size i)
def ok1 (A : Al) (hld : Nat → Bool) (goal want : Int) (i : Nat) : Bool := fOk (hadB A hld i) (wi A i goal) want
def at1 (A : Al) (hld : Nat → Bool) (goal want : Int) (i : Nat) : Nat := (fI (hadB A hld i) (wi A i goal) want).toNat
def ct1 (A : Al) (hld : Nat → Bool) (goal want : Int) (i : Nat) : Nat := (fN (hadB A hld i) (wi A i goal) want).toNat
def gth (A : Al) (goal : Int) (k : Nat) : Nat := nth (gof A goal) A.ng k
section
variable {A : Al} {hld : Nat → Bool} {goal want : Int} {i : Nat}
end
section
variable {a w : World} {B : Nat} {S : Nat → Prop} {b db : Nat} {s : Sto} {A : Al} {lb gb c : Nat}
structure Bx (w0 w : World) (lb : Nat) (goal want : Int) : Prop where
  b0 : RowV w w0.heap.size 163 [.pointer (some ⟨lb, 0, none⟩)]
  b1 : RowV w (w0.heap.size + 1) 3 [.int .i64 goal]
  b2 : RowV w (w0.heap.size + 2) 3 [.int .i64 want]
  b3 : RowV w (w0.heap.size + 3) 3 [.int .i64 0]
  b4 : RowV w (w0.heap.size + 4) 3 [.int .i64 0]
  b5 : RowV w (w0.heap.size + 5) 26 [.int .i64 0]
theorem Bx.keep {w0 w w' : World} {lb : Nat} {goal want : Int} (h : Bx w0 w lb goal want) (hk : ∀ q, w0.heap.size ≤ q → q < w0.heap.size + 6 → w'.heap[q]? = w.heap[q]?) : Bx w0 w' lb goal want :=
  ⟨(hk _ (by omega) (by omega)).trans h.b0, (hk _ (by omega) (by omega)).trans h.b1, (hk _ (by omega) (by omega)).trans h.b2, (hk _ (by omega) (by omega)).trans h.b3, (hk _ (by omega) (by omega)).trans h.b4, (hk _ (by omega) (by omega)).trans h.b5⟩
def Took (d : Nat) (A : Al) (s : Sto) (goal want : Int) (v : Value) (s' : Sto) : Prop :=
  (upFrom (fun k => ok1 A s.now.hld goal want (gth A goal k)) 0 A.ng = none ∧ v = .tuple #[.int .i64 0, .int .i64 0, .int .i64 28] ∧ Rd s s' d) ∨
  ∃ k i x n l, upFrom (fun k => ok1 A s.now.hld goal want (gth A goal k)) 0 A.ng = some k ∧ gth A goal k = i ∧ at1 A s.now.hld goal want i = x ∧ ct1 A s.now.hld goal want i = n ∧ turnL (A.bm i) x n (A.bat i) = l ∧
    v = .tuple #[.int .i64 (A.at_ i + x : Nat), .int .i64 (n : Int), .int .i64 0] ∧ ∃ s1, Rd s s1 d ∧ s' = ((s1.write (A.bat i) l).write 1 (A.setB i l).grps).write 0 (A.setB i l).sup
structure PL (A : Al) (i x0 x1 x2 x3 x4 x5 n : Nat) : Prop where
  e0 : A.at_ i = x0
  e1 : A.at_ i + A.size i = x1
  e2 : A.bat i = x2
  e3 : A.bat i + 1 = x3
  e4 : A.bat i + 2 = x4
  e5 : A.at_ i + A.own i = x5
  en : A.size i = n
section
variable {a w : World} {B : Nat} {S : Nat → Prop} {b db : Nat} {s : Sto} {A : Al} {lb gb c : Nat} {gs : List Grp} {fb fi : Int} {i x0 x1 x2 x3 x4 x5 n : Nat}
theorem place_l (hp : PL A i x0 x1 x2 x3 x4 x5 n) (hM : May A.b A.p A.n A.j) (hi : i < A.ng) (w : World) : Calls Tryz.prog 85 #[.agg #[.int .i64 A.b, .int .i64 A.p, .int .i64 A.n, .int .i64 A.j], .int .i64 (i : Int)] w fun e w' =>
    e = .returned (.agg #[.int .i64 (x0 : Int), .int .i64 (x1 : Int), .int .i64 (x2 : Int), .int .i64 (x3 : Int), .int .i64 (x4 : Int), .int .i64 (x5 : Int)]) ∧ Below w.heap.size w w' := by
  obtain ⟨rfl, rfl, rfl, rfl, rfl, rfl, rfl⟩ := hp
  exact placeOf_any hM hi w
end
def TI (a : World) (B : Nat) (b db : Nat) (s : Sto) (A : Al) (goal want : Int) (Sx : Nat → Prop) (W1 : World) (pre : List Nat) (W : World) : Prop :=
  ∃ s1, Rd s s1 pre.length ∧ AS a B Sx W b db s1 ∧ Kp Sx W1 W ∧ (pre = List.range pre.length → ∀ y, y < pre.length → ok1 A s.now.hld goal want (gth A goal y) = false)
def TX (a : World) (B : Nat) (b db : Nat) (s : Sto) (A : Al) (goal want : Int) (Sx : Nat → Prop) (lb gb z : Nat) (W1 : World) (cc : Code) (pre : List Nat) (W : World) : Prop :=
  cc = .ret ∧ ∃ ini x i xx n l s1, pre = ini ++ [x] ∧ (ini = List.range ini.length → ∀ y, y < ini.length → ok1 A s.now.hld goal want (gth A goal y) = false) ∧ gth A goal x = i ∧ ok1 A s.now.hld goal want i = true ∧ at1 A s.now.hld goal want i = xx ∧ ct1 A s.now.hld goal want i = n ∧
    turnL (A.bm i) xx n (A.bat i) = l ∧ Rd s s1 14 ∧ AS a B Sx W b db (((s1.write (A.bat i) l).write 1 (A.setB i l).grps).write 0 (A.setB i l).sup) ∧ Kp (fun q => Sx q ∧ q ≠ lb ∧ q ≠ gb ∧ q ≠ z + 3 ∧ q ≠ z + 4 ∧ q ≠ z + 5) W1 W ∧
    RowV W (z + 3) 3 [.int .i64 (A.at_ i + xx : Nat)] ∧ RowV W (z + 4) 3 [.int .i64 (n : Int)] ∧ RowV W (z + 5) 26 [.int .i64 0]
section
variable {a W1 : World} {B b db : Nat} {s : Sto} {A : Al} {goal want : Int} {Sx : Nat → Prop} {lb gb z : Nat}
theorem kp_grown {Q : Nat → Prop} {W0 X Y : World} {row : Option Nat} (h : Kp Q W0 X) (hQ : ∀ q, Q q → q < W0.heap.size) (hX : W0.heap.size ≤ X.heap.size) (hg : X.grownBy Y row) (hr : ∀ r, row = some r → W0.heap.size ≤ r) : Kp Q W0 Y := fun q hq =>
  (hg.block q (Nat.lt_of_lt_of_le (hQ q hq) hX) (fun e => by have := hr q e.symm; have := hQ q hq; omega)).trans (h q hq)
theorem TI.own (hB : B ≤ W1.heap.size) (ha : a.heap.size ≤ W1.heap.size) (hS : ∀ q, Sx q → q < W1.heap.size) : OwnFrom W1.heap.size (fun pre W => TI a B b db s A goal want Sx W1 pre W ∧ W1.heap.size ≤ W.heap.size) := by
  rintro pre X Y row ⟨⟨s1, h1, h2, h3, h4⟩, hz⟩ hg hr
  exact ⟨⟨s1, h1, h2.grown hg (fun r e => ⟨by have := (hr r e).1; omega, by have := (hr r e).1; omega, (hr r e).2⟩), kp_grown h3 hS hz hg (fun r e => (hr r e).1), h4⟩, Nat.le_trans hz hg.size⟩
theorem TX.own (hB : B ≤ W1.heap.size) (ha : a.heap.size ≤ W1.heap.size) (hS : ∀ q, Sx q → q < W1.heap.size) (hz6 : z + 6 ≤ W1.heap.size) (cc : Code) : OwnFrom W1.heap.size (fun pre W => TX a B b db s A goal want Sx lb gb z W1 cc pre W ∧ W1.heap.size ≤ W.heap.size) := by
  rintro pre X Y row ⟨⟨h0, ini, x, i, xx, n, l, s1, h1, h2, h3, h4, h5, h6, h7, h8, h9, h10, h11, h12, h13⟩, hz⟩ hg hr
  have hk : ∀ q, q < W1.heap.size → Y.heap[q]? = X.heap[q]? := fun q hq => hg.block q (by omega) (fun e => by have := (hr q e.symm).1; omega)
  exact ⟨⟨h0, ini, x, i, xx, n, l, s1, h1, h2, h3, h4, h5, h6, h7, h8, h9.grown hg (fun r e => ⟨by have := (hr r e).1; omega, by have := (hr r e).1; omega, (hr r e).2⟩), kp_grown h10 (fun q hq => hS q hq.1) hz hg (fun r e => (hr r e).1),
    (hk _ (by omega)).trans h11, (hk _ (by omega)).trans h12, (hk _ (by omega)).trans h13⟩, Nat.le_trans hz hg.size⟩
end
theorem Took.pre {d e : Nat} {A : Al} {s s0 s' : Sto} {goal want : Int} {v : Value} (h : Took d A s0 goal want v s') (hr : Rd s s0 e) : Took (e + d) A s goal want v s' := by
  rcases h with ⟨h1, h2, h3⟩ | ⟨k, i, x, n, l, h1, h2, h3, h4, h5, h6, s1, h7, h8⟩
  · rw [hr.now] at h1
    exact .inl ⟨h1, h2, hr.trans h3⟩
  · rw [hr.now] at h1 h3 h4
    exact .inr ⟨k, i, x, n, l, h1, h2, h3, h4, h5, h6, s1, hr.trans h7, h8⟩
end
end Go.Proofs.YtgjcbfdhpbkhoaaGreatDoor.ATake
