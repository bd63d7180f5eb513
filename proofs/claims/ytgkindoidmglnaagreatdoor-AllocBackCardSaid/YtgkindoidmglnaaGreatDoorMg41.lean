/- The allocator: a row of blocks is taken. -/
import Derived.Test.YtgkindoidmglnaaGreatDoorMg40
import Derived.Test.YtgkindoidmglnaaGreatDoorMg49
namespace Go.Proofs.YtgkindoidmglnaaGreatDoor.ATake
open Go.RowKit Go.Shelf WMem WPlain WAppend WCrc WSeal TPlain TBits TSet TTurn TFace TTurnF TSame TFind TFacts GPlain GGeo GGeo2 GFace Ext Map DPlain DMem EPlain EMem EFace EBack EAny SPlain QPlain QMem QChunk APlain AMem AGeo AOpen ATurn ACount AHad ARound

attribute [local go_sem] Oper.semAt_some

/-- the bitmap in which is sought -/
def hadB (A : Al) (hld : Nat → Bool) (i : Nat) : Bk := hadL (A.bm i) (had A hld i) (A.size i)
/-- is there something in a group? what? -/
def ok1 (A : Al) (hld : Nat → Bool) (goal want : Int) (i : Nat) : Bool := fOk (hadB A hld i) (wi A i goal) want
def at1 (A : Al) (hld : Nat → Bool) (goal want : Int) (i : Nat) : Nat := (fI (hadB A hld i) (wi A i goal) want).toNat
def ct1 (A : Al) (hld : Nat → Bool) (goal want : Int) (i : Nat) : Nat := (fN (hadB A hld i) (wi A i goal) want).toNat
/-- the groups as they are asked -/
def gth (A : Al) (goal : Int) (k : Nat) : Nat := nth (gof A goal) A.ng k
section
variable {A : Al} {hld : Nat → Bool} {goal want : Int} {i : Nat}
theorem hadB_len (h : A.Fine) (hi : i < A.ng) : (hadB A hld i).length = 256 := (hadL_len _ _ _).trans (map_of (h.bm i hi)).1
/-- what is found is free, no fixed block, and not held -/
theorem ok1_facts (h : A.Fine) (hi : i < A.ng) (ho : ok1 A hld goal want i = true) : fI (hadB A hld i) (wi A i goal) want = (at1 A hld goal want i : Int) ∧ fN (hadB A hld i) (wi A i goal) want = (ct1 A hld goal want i : Int) ∧
    1 ≤ ct1 A hld goal want i ∧ (ct1 A hld goal want i : Int) ≤ want ∧ at1 A hld goal want i + ct1 A hld goal want i ≤ A.size i ∧
    ∀ j, j < ct1 A hld goal want i → fr (A.bm i) (at1 A hld goal want i + j) = true ∧ A.own i ≤ at1 A hld goal want i + j ∧ hld (A.at_ i + (at1 A hld goal want i + j)) = false := by
  obtain ⟨x, n, e1, e2, h1, h2, h3, h4⟩ := found ho
  have g := geo h.may hi
  have h7 := g.a7
  have hx : at1 A hld goal want i = x := by unfold at1; rw [e1]; rfl
  have hn : ct1 A hld goal want i = n := by unfold ct1; rw [e2]; rfl
  rw [hx, hn]
  have hb := (map_of (h.bm i hi)).1
  have hj : ∀ j, j < n → fr (A.bm i) (x + j) = true ∧ A.own i ≤ x + j ∧ hld (A.at_ i + (x + j)) = false ∧ x + j < A.size i := fun j hj => by
    have e := h4 j hj
    unfold hadB at e
    rw [fr_had hb _ (by omega) _ h7] at e
    simp only [Bool.and_eq_true, Bool.not_eq_true'] at e
    obtain ⟨q1, q2⟩ := e
    have q3 : x + j < A.size i := Nat.lt_of_not_le fun hle => by rw [map_end (h.bm i hi) hle] at q1; cases q1
    simp only [q3, decide_true, Bool.true_and, had, Bool.or_eq_false_iff, decide_eq_false_iff_not] at q2
    exact ⟨q1, by omega, q2.2, q3⟩
  refine ⟨e1, e2, h1, h2, ?_, fun j hjn => ?_⟩
  · have := (hj (n - 1) (by omega)).2.2.2
    omega
  · obtain ⟨q1, q2, q3, _⟩ := hj j hjn
    exact ⟨q1, q2, q3⟩
/-- nothing is found: every block of the group is taken, fixed or held -/
theorem ok1_none (h : A.Fine) (hi : i < A.ng) (hw : 1 ≤ want) (ho : ok1 A hld goal want i = false) : ∀ k, k < A.size i → fr (A.bm i) k = false ∨ k < A.own i ∨ hld (A.at_ i + k) = true := by
  obtain ⟨_, _, hz⟩ := not_found ho
  have hz : TBits.zeros (hadB A hld i) = 0 := by rcases hz with hz | hz <;> first | omega | exact hz
  have g := geo h.may hi
  have h7 := g.a7
  have hb := (map_of (h.bm i hi)).1
  have hall : ∀ p, p ≤ 2016 → ∀ k, k < p → fr (hadB A hld i) k = false := by
    have mono : ∀ p q, p ≤ q → zer (fr (hadB A hld i)) p ≤ zer (fr (hadB A hld i)) q := fun p q hpq => by
      induction hpq with
      | refl => exact Nat.le_refl _
      | step _ ih => exact Nat.le_trans ih (by simp only [zer]; omega)
    intro p hp k hk
    cases e : fr (hadB A hld i) k with
    | false => rfl
    | true =>
      have h1 : zer (fr (hadB A hld i)) (k + 1) = zer (fr (hadB A hld i)) k + 1 := by simp [zer, e]
      have h2 := mono (k + 1) 2016 (by omega)
      unfold TBits.zeros at hz
      omega
  intro k hk
  have e := hall 2016 (Nat.le_refl _) k (by omega)
  unfold hadB at e
  rw [fr_had hb _ (by omega) _ h7] at e
  simp only [hk, decide_true, Bool.true_and, had, Bool.and_eq_false_iff, Bool.not_eq_false', Bool.or_eq_true, decide_eq_true_eq] at e
  exact e
end
section
variable {a w : World} {B : Nat} {S : Nat → Prop} {b db : Nat} {s : Sto} {A : Al} {lb gb c : Nat}
/-- the blocks that the call lays ahead of its loop -/
def boxes (w : World) (lb : Nat) (goal want : Int) : World :=
  (((((w.alloc (.cells #[.pointer (some ⟨lb, 0, none⟩)] 61)).alloc (.cells #[.int .i64 goal] 3)).alloc (.cells #[.int .i64 want] 3)).alloc (.cells #[.int .i64 0] 3)).alloc (.cells #[.int .i64 0] 3)).alloc (.cells #[.int .i64 0] 30)
/-- the call's own boxes -/
structure Bx (w0 w : World) (lb : Nat) (goal want : Int) : Prop where
  b0 : RowV w w0.heap.size 61 [.pointer (some ⟨lb, 0, none⟩)]
  b1 : RowV w (w0.heap.size + 1) 3 [.int .i64 goal]
  b2 : RowV w (w0.heap.size + 2) 3 [.int .i64 want]
  b3 : RowV w (w0.heap.size + 3) 3 [.int .i64 0]
  b4 : RowV w (w0.heap.size + 4) 3 [.int .i64 0]
  b5 : RowV w (w0.heap.size + 5) 30 [.int .i64 0]
theorem boxes_is (w : World) (lb : Nat) (goal want : Int) : (boxes w lb goal want).heap.size = w.heap.size + 6 ∧ Below w.heap.size w (boxes w lb goal want) ∧ Bx w (boxes w lb goal want) lb goal want := by
  unfold boxes
  have h0 := rowV_new w [.pointer (some ⟨lb, 0, none⟩)] 61
  have h1 := rowV_new (w.alloc (.cells #[.pointer (some ⟨lb, 0, none⟩)] 61)) [.int .i64 goal] 3
  have h2 := rowV_new ((w.alloc (.cells #[.pointer (some ⟨lb, 0, none⟩)] 61)).alloc (.cells #[.int .i64 goal] 3)) [.int .i64 want] 3
  have h3 := rowV_new (((w.alloc (.cells #[.pointer (some ⟨lb, 0, none⟩)] 61)).alloc (.cells #[.int .i64 goal] 3)).alloc (.cells #[.int .i64 want] 3)) [.int .i64 0] 3
  have h4 := rowV_new ((((w.alloc (.cells #[.pointer (some ⟨lb, 0, none⟩)] 61)).alloc (.cells #[.int .i64 goal] 3)).alloc (.cells #[.int .i64 want] 3)).alloc (.cells #[.int .i64 0] 3)) [.int .i64 0] 3
  have h5 := rowV_new (((((w.alloc (.cells #[.pointer (some ⟨lb, 0, none⟩)] 61)).alloc (.cells #[.int .i64 goal] 3)).alloc (.cells #[.int .i64 want] 3)).alloc (.cells #[.int .i64 0] 3)).alloc (.cells #[.int .i64 0] 3)) [.int .i64 0] 30
  simp only [World.size_alloc, Nat.add_assoc, Nat.reduceAdd] at h1 h2 h3 h4 h5
  refine ⟨by simp, ?_, ⟨((((h0.alloc _).alloc _).alloc _).alloc _).alloc _, (((h1.alloc _).alloc _).alloc _).alloc _, ((h2.alloc _).alloc _).alloc _, (h3.alloc _).alloc _, h4.alloc _, h5⟩⟩
  refine ((((((Below.refl _ _).alloc (Nat.le_refl _) _).alloc ?_ _).alloc ?_ _).alloc ?_ _).alloc ?_ _).alloc ?_ _ <;> simp <;> omega
theorem Bx.keep {w0 w w' : World} {lb : Nat} {goal want : Int} (h : Bx w0 w lb goal want) (hk : ∀ q, w0.heap.size ≤ q → q < w0.heap.size + 6 → w'.heap[q]? = w.heap[q]?) : Bx w0 w' lb goal want :=
  ⟨(hk _ (by omega) (by omega)).trans h.b0, (hk _ (by omega) (by omega)).trans h.b1, (hk _ (by omega) (by omega)).trans h.b2, (hk _ (by omega) (by omega)).trans h.b3, (hk _ (by omega) (by omega)).trans h.b4, (hk _ (by omega) (by omega)).trans h.b5⟩
theorem up_none {P : Nat → Bool} {n : Nat} (h : ∀ y, y < n → P y = false) : upFrom P 0 n = none := by
  cases e : upFrom P 0 n with
  | none => rfl
  | some r =>
    obtain ⟨_, h2, h3, _⟩ := upFrom_some e
    rw [h r (by omega)] at h3
    cases h3
theorem up_some {P : Nat → Bool} {n x : Nat} (hx : x < n) (h : ∀ y, y < x → P y = false) (h1 : P x = true) : upFrom P 0 n = some x := by
  cases e : upFrom P 0 n with
  | none =>
    have := upFrom_none e x (by omega) (by omega)
    rw [h1] at this
    cases this
  | some r =>
    obtain ⟨_, h2, h3, h4⟩ := upFrom_some e
    have : ¬ r < x := fun hr => by rw [h r hr] at h3; cases h3
    have : ¬ x < r := fun hr => by rw [h4 x (by omega) hr] at h1; cases h1
    rw [show r = x by omega]
/-- what is left when nothing was found, or something -/
def Took (d : Nat) (A : Al) (s : Sto) (goal want : Int) (v : Value) (s' : Sto) : Prop :=
  (upFrom (fun k => ok1 A s.now.hld goal want (gth A goal k)) 0 A.ng = none ∧ v = .tuple #[.int .i64 0, .int .i64 0, .int .i64 28] ∧ Rd s s' d) ∨
  ∃ k i x n l, upFrom (fun k => ok1 A s.now.hld goal want (gth A goal k)) 0 A.ng = some k ∧ gth A goal k = i ∧ at1 A s.now.hld goal want i = x ∧ ct1 A s.now.hld goal want i = n ∧ turnL (A.bm i) x n (A.bat i) = l ∧
    v = .tuple #[.int .i64 (A.at_ i + x : Nat), .int .i64 (n : Int), .int .i64 0] ∧ ∃ s1, Rd s s1 d ∧ s' = ((s1.write (A.bat i) l).write 1 (A.setB i l).grps).write 0 (A.setB i l).sup
/-- a group's place, in letters -/
structure PL (A : Al) (i x0 x1 x2 x3 x4 x5 n : Nat) : Prop where
  e0 : A.at_ i = x0
  e1 : A.at_ i + A.size i = x1
  e2 : A.bat i = x2
  e3 : A.bat i + 1 = x3
  e4 : A.bat i + 2 = x4
  e5 : A.at_ i + A.own i = x5
  en : A.size i = n
section
variable {a w : World} {B : Nat} {S : Nat → Prop} {b db : Nat} {s : Sto} {A : Al} {lb gb c : Nat} {gs : List Grp} {fb fi : Int} {i x0 x1 x2 x3 x4 x5 n : Nat}
theorem place_l (hp : PL A i x0 x1 x2 x3 x4 x5 n) (hM : May A.b A.p A.n A.j) (hi : i < A.ng) (w : World) : Calls Tryz.prog 61 #[.agg #[.int .i64 A.b, .int .i64 A.p, .int .i64 A.n, .int .i64 A.j], .int .i64 (i : Int)] w fun e w' =>
    e = .returned (.agg #[.int .i64 (x0 : Int), .int .i64 (x1 : Int), .int .i64 (x2 : Int), .int .i64 (x3 : Int), .int .i64 (x4 : Int), .int .i64 (x5 : Int)]) ∧ Below w.heap.size w w' := by
  obtain ⟨rfl, rfl, rfl, rfl, rfl, rfl, rfl⟩ := hp
  exact placeOf_any hM hi w
theorem had_l (hp : PL A i x0 x1 x2 x3 x4 x5 n) (h : AS a B S w b db s) (hL : Led w lb gb c b A gs fb fi) (hM : May A.b A.p A.n A.j) (hi : i < A.ng) (x : Int) (l : Bk) (hl : l.length = 256) (g c' : Nat) (rest : List Value) (hc' : 256 ≤ c') (hR : Row w g l rest) :
    Calls Tryz.prog 64 #[.pointer (some ⟨lb, 0, none⟩), .agg #[.int .i64 (x0 : Int), .int .i64 (x1 : Int), .int .i64 (x2 : Int), .int .i64 (x3 : Int), .int .i64 (x4 : Int), .int .i64 (x5 : Int)], .agg #[.int .i64 x, .int .i64 (n : Int), .slice (some ⟨g, 0, none⟩) 256 c']] w fun e w' =>
      ∃ g1 cap rest1, e = .returned (.slice (some ⟨g1, 0, none⟩) 256 cap) ∧ w.heap.size ≤ g1 ∧ 256 ≤ cap ∧ Row w' g1 (hadL l (had A s.now.hld i) n) rest1 ∧ Below w.heap.size w w' := by
  obtain ⟨rfl, rfl, rfl, rfl, rfl, rfl, rfl⟩ := hp
  exact had_own h hL hM hi x l hl g c' rest hc' hR
theorem within_l (hp : PL A i x0 x1 x2 x3 x4 x5 n) (hM : May A.b A.p A.n A.j) (hi : i < A.ng) (m : Int) (w : World) :
    Calls Tryz.prog 65 #[.agg #[.int .i64 (x0 : Int), .int .i64 (x1 : Int), .int .i64 (x2 : Int), .int .i64 (x3 : Int), .int .i64 (x4 : Int), .int .i64 (x5 : Int)], .int .i64 m] w fun e w' => e = .returned (.int .i64 (wi A i m)) ∧ Below w.heap.size w w' := by
  obtain ⟨rfl, rfl, rfl, rfl, rfl, rfl, rfl⟩ := hp
  exact within_any hM hi m w
end
/-- the cells that a round reads -/
structure Rg (w : World) (z q0 q1 lb : Nat) (goal want : Int) (x0 x1 x2 x3 x4 x5 n g c' : Nat) : Prop where
  r0 : RowV w z 61 [.pointer (some ⟨lb, 0, none⟩)]
  r1 : RowV w (z + 1) 3 [.int .i64 goal]
  r2 : RowV w (z + 2) 3 [.int .i64 want]
  r3 : RowV w q0 115 [.int .i64 x0, .int .i64 x1, .int .i64 x2, .int .i64 x3, .int .i64 x4, .int .i64 x5]
  r4 : RowV w q1 122 [.int .i64 x2, .int .i64 n, .slice (some ⟨g, 0, none⟩) 256 c']
theorem Rg.keep {w w' : World} {z q0 q1 lb : Nat} {goal want : Int} {x0 x1 x2 x3 x4 x5 n g c' : Nat} (h : Rg w z q0 q1 lb goal want x0 x1 x2 x3 x4 x5 n g c') (hb : Below w.heap.size w w') : Rg w' z q0 q1 lb goal want x0 x1 x2 x3 x4 x5 n g c' :=
  ⟨h.r0.keep hb h.r0.lt, h.r1.keep hb h.r1.lt, h.r2.keep hb h.r2.lt, h.r3.keep hb h.r3.lt, h.r4.keep hb h.r4.lt⟩
/-- behind rounds in which nothing was found -/
def TI (a : World) (B : Nat) (b db : Nat) (s : Sto) (A : Al) (goal want : Int) (Sx : Nat → Prop) (W1 : World) (pre : List Nat) (W : World) : Prop :=
  ∃ s1, Rd s s1 pre.length ∧ AS a B Sx W b db s1 ∧ Kp Sx W1 W ∧ (pre = List.range pre.length → ∀ y, y < pre.length → ok1 A s.now.hld goal want (gth A goal y) = false)
/-- behind the one in which something was found -/
def TX (a : World) (B : Nat) (b db : Nat) (s : Sto) (A : Al) (goal want : Int) (Sx : Nat → Prop) (lb gb z : Nat) (W1 : World) (cc : Code) (pre : List Nat) (W : World) : Prop :=
  cc = .ret ∧ ∃ ini x i xx n l s1, pre = ini ++ [x] ∧ (ini = List.range ini.length → ∀ y, y < ini.length → ok1 A s.now.hld goal want (gth A goal y) = false) ∧ gth A goal x = i ∧ ok1 A s.now.hld goal want i = true ∧ at1 A s.now.hld goal want i = xx ∧ ct1 A s.now.hld goal want i = n ∧
    turnL (A.bm i) xx n (A.bat i) = l ∧ Rd s s1 14 ∧ AS a B Sx W b db (((s1.write (A.bat i) l).write 1 (A.setB i l).grps).write 0 (A.setB i l).sup) ∧ Kp (fun q => Sx q ∧ q ≠ lb ∧ q ≠ gb ∧ q ≠ z + 3 ∧ q ≠ z + 4 ∧ q ≠ z + 5) W1 W ∧
    RowV W (z + 3) 3 [.int .i64 (A.at_ i + xx : Nat)] ∧ RowV W (z + 4) 3 [.int .i64 (n : Int)] ∧ RowV W (z + 5) 30 [.int .i64 0]
section
variable {a W1 : World} {B b db : Nat} {s : Sto} {A : Al} {goal want : Int} {Sx : Nat → Prop} {lb gb z : Nat}
theorem kp_grown {Q : Nat → Prop} {W0 X Y : World} {row : Option Nat} (h : Kp Q W0 X) (hQ : ∀ q, Q q → q < W0.heap.size) (hX : W0.heap.size ≤ X.heap.size) (hg : X.grownBy Y row) (hr : ∀ r, row = some r → W0.heap.size ≤ r) : Kp Q W0 Y := fun q hq =>
  (hg.block q (Nat.lt_of_lt_of_le (hQ q hq) hX) (fun e => by have := hr q e.symm; have := hQ q hq; omega)).trans (h q hq)
theorem TI.own (hB : B ≤ W1.heap.size) (ha : a.heap.size ≤ W1.heap.size) (hS : ∀ q, Sx q → q < W1.heap.size) : OwnFrom W1.heap.size (fun pre W => TI a B b db s A goal want Sx W1 pre W ∧ W1.heap.size ≤ W.heap.size) := by
  rintro pre X Y row ⟨⟨s1, h1, h2, h3, h4⟩, hz⟩ hg hr
  exact ⟨⟨s1, h1, h2.grown hg (fun r e => ⟨by have := (hr r e).1; omega, by have := (hr r e).1; omega, (hr r e).2⟩), kp_grown h3 hS hz hg (fun r e => (hr r e).1), h4⟩, Nat.le_trans hz hg.size⟩
theorem TX.own (hB : B ≤ W1.heap.size) (ha : a.heap.size ≤ W1.heap.size) (hS : ∀ q, Sx q → q < W1.heap.size) (hz6 : z + 6 ≤ W1.heap.size) (cc : Code) : OwnFrom W1.heap.size (fun pre W => TX a B b db s A goal want Sx lb gb z W1 cc pre W ∧ W1.heap.size ≤ W.heap.size) := by
  rintro pre X Y row ⟨⟨h0, ini, x, i, xx, n, l, s1, h1, h2, h3, h4, h5, h6, h7, h8, h9, h10, h11, h12, h13⟩, hz⟩ hg hr
  have hk : ∀ q, q < W1.heap.size → Y.heap[q]? = X.heap[q]? := fun q hq => hg.block q (by omega) (fun e => by have := (hr q e.symm).1; omega)
  exact ⟨⟨h0, ini, x, i, xx, n, l, s1, h1, h2, h3, h4, h5, h6, h7, h8, h9.grown hg (fun r e => ⟨by have := (hr r e).1; omega, by have := (hr r e).1; omega, (hr r e).2⟩), kp_grown h10 (fun q hq => hS q hq.1) hz hg (fun r e => (hr r e).1),
    (hk _ (by omega)).trans h11, (hk _ (by omega)).trans h12, (hk _ (by omega)).trans h13⟩, Nat.le_trans hz hg.size⟩
end
/-- the call's own slots while a round is under way -/
def TA (z1 lb z : Nat) (A : Al) (goal want : Int) (x : Nat) (a' : Act) (_W : World) : Prop :=
  a' = { tmps := #[.pointer (some ⟨lb, 0, none⟩), .int .i64 goal, .int .i64 want, .pointer (some ⟨z, 0, none⟩), .pointer (some ⟨z + 1, 0, none⟩), .pointer (some ⟨z + 2, 0, none⟩), .pointer (some ⟨z + 3, 0, none⟩), .pointer (some ⟨z + 4, 0, none⟩), .pointer (some ⟨z + 5, 0, none⟩),
    .int .i64 (gth A goal x : Nat), undef, undef, undef, undef, undef, undef, undef, undef, .int .i64 want, .bool false, .pointer (some ⟨lb, 0, none⟩), .pointer (some ⟨lb, 0, none⟩), .int .i64 goal, .int .i64 (gof A goal : Nat),
    .func (.func 102) #[] #[.pointer (some ⟨z1, 0, none⟩), .pointer (some ⟨z1 + 1, 0, none⟩)], .int .i64 (gth A goal x : Nat), undef, undef, undef, undef, undef, undef, undef, undef, undef, undef, undef, undef, undef, undef, undef, undef, undef, undef, undef, undef, undef, undef, undef, undef, undef, undef, undef, undef, undef, undef, undef, undef, undef, undef, undef, undef, undef, undef, undef, undef, undef, undef, undef, undef, undef, undef, undef, undef, undef, undef, undef, undef, undef, undef, undef, undef, undef, undef, undef, undef], defers := [] }
theorem Took.pre {d e : Nat} {A : Al} {s s0 s' : Sto} {goal want : Int} {v : Value} (h : Took d A s0 goal want v s') (hr : Rd s s0 e) : Took (e + d) A s goal want v s' := by
  rcases h with ⟨h1, h2, h3⟩ | ⟨k, i, x, n, l, h1, h2, h3, h4, h5, h6, s1, h7, h8⟩
  · rw [hr.now] at h1
    exact .inl ⟨h1, h2, hr.trans h3⟩
  · rw [hr.now] at h1 h3 h4
    exact .inr ⟨k, i, x, n, l, h1, h2, h3, h4, h5, h6, s1, hr.trans h7, h8⟩
set_option maxRecDepth 100000 in
set_option maxHeartbeats 4000000 in
theorem take_in (h : AS a B S w b db s) (hs : Says s A) (hL : Led w lb gb c b A A.gs A.fb A.fi) (hS1 : S lb) (hS2 : S gb) (ha1 : a.heap.size ≤ lb) (ha2 : a.heap.size ≤ gb) (hBw : B ≤ w.heap.size) (hT : Tab a) (hload : s.load + 40 ≤ 1073741824) (goal want : Int) (hw1 : 1 ≤ want) :
    CallsIn Fence.wide 6 Tryz.prog 30 #[.pointer (some ⟨lb, 0, none⟩), .int .i64 goal, .int .i64 want] w fun e w' => ∃ v s', e = .returned v ∧ Took 14 A s goal want v s' ∧ AS a B S w' b db s' ∧ Kp (fun q => S q ∧ q ≠ lb ∧ q ≠ gb) w w' := by
  have hM := hs.fine.may
  have hng := ng_le hM
  have hd : decide (want < 1) = false := by simp; omega
  obtain ⟨q1, q2, q3⟩ := boxes_is w lb goal want
  have H0 := Lib.hid (h.also q2)
  have HB0 := Lib.hid q2
  have HX0 := Lib.hid q3
  have HL0 := Lib.hid (hL.below q2)
  have HQ1 := Lib.hid q1
  have x2 := rowc q3.b2 0 rfl
  have H := Lib.hid h
  have HS := Lib.hid hs
  have HT := Lib.hid hT
  clear h hs hL hT q1 q2 q3
  refine callsIn_of_wp_marks Tryz.func30 rfl trivial ?_ rfl
  simp only [Tryz.ntmps30, List.size_toArray, List.length_cons, List.length_nil, Nat.reduceAdd, Nat.reduceSub, Array.replicate_succ, Array.replicate_zero, List.push_toArray, List.append_toArray, List.nil_append, List.cons_append]
  gi_wp2_with fail
  simp only [Nat.add_assoc, Nat.reduceAdd]
  rw [show (((((w.alloc (.cells #[.pointer (some ⟨lb, 0, none⟩)] 61)).alloc (.cells #[.int .i64 goal] 3)).alloc (.cells #[.int .i64 want] 3)).alloc (.cells #[.int .i64 0] 3)).alloc (.cells #[.int .i64 0] 3)).alloc (.cells #[.int .i64 0] 30) = boxes w lb goal want from rfl]
  generalize hW0 : boxes w lb goal want = W0 at *
  clear hW0 x2
  have y0 := rowc HX0.out.b0 0 rfl
  have y1 := rowc HX0.out.b1 0 rfl
  have hG := Lib.hid (fun (n : Nat) => groupOf_any (HL0.out.drewN n) hM goal)
  refine wpIn_wide.2 (wp_only ?_)
  go_region_held3 (fun w' => w'.cell? ⟨w.heap.size, 0, none⟩ = some (.pointer (some ⟨lb, 0, none⟩)) ∧ w'.cell? ⟨w.heap.size + 1, 0, none⟩ = some (.int .i64 goal)) (first | (go_keep; done) | exact ⟨u0, u1⟩)
    ((first
      | (go_at_call 60; refine (hG.out _).mono ?_; rintro e w1 ⟨rfl, hb1⟩
         have u0 : w1.cell? ⟨w.heap.size, 0, none⟩ = some (.pointer (some ⟨lb, 0, none⟩)) := (hb1.cell (p := ⟨w.heap.size, 0, none⟩) (by have := HX0.out.b0.lt; simpa using this)).trans y0
         have u1 : w1.cell? ⟨w.heap.size + 1, 0, none⟩ = some (.int .i64 goal) := (hb1.cell (p := ⟨w.heap.size + 1, 0, none⟩) (by have := HX0.out.b1.lt; simpa using this)).trans y1
         have HB1 := Lib.hid hb1
         clear hb1)
      | (go_at_call 59; refine (callsIn_wide.1 (round_in 0 lb (gof A goal : Nat) _)).mono ?_; rintro e w2 ⟨rfl, rfl⟩)))
  rw [only_normal]
  have hz1 : w.heap.size + 6 ≤ w1.heap.size := by have := HB1.out.size; have := HQ1.out; simp at *; omega
  have HB2 : Hid (Below w.heap.size w ((w1.alloc (.cells #[.pointer (some ⟨lb, 0, none⟩)] 61)).alloc (.cells #[.int .i64 (gof A goal : Nat)] 3))) := Lib.hid (((below_up (below_drewN HB0.out 1) HB1.out (by have := HQ1.out; show w.heap.size ≤ W0.heap.size; omega)).alloc (by omega) _).alloc (by simp; omega) _)
  have HBB : Hid (Below (W0.drewN 1).heap.size (W0.drewN 1) ((w1.alloc (.cells #[.pointer (some ⟨lb, 0, none⟩)] 61)).alloc (.cells #[.int .i64 (gof A goal : Nat)] 3))) := Lib.hid ((HB1.out.alloc HB1.out.size _).alloc (by have := HB1.out.size; simp at *; omega) _)
  have R1 := Lib.hid ((rowV_new w1 [.pointer (some ⟨lb, 0, none⟩)] 61).alloc (.cells #[.int .i64 (gof A goal : Nat)] 3))
  have r2 := rowV_new (w1.alloc (.cells #[.pointer (some ⟨lb, 0, none⟩)] 61)) [.int .i64 (gof A goal : Nat)] 3
  simp only [World.size_alloc] at r2
  have R2 := Lib.hid r2
  clear r2 y0 y1 u0 u1
  have HZ1 : Hid (((w1.alloc (.cells #[.pointer (some ⟨lb, 0, none⟩)] 61)).alloc (.cells #[.int .i64 (gof A goal : Nat)] 3)).heap.size = w1.heap.size + 2) := Lib.hid (by simp)
  obtain ⟨z1, hz⟩ : ∃ z1, w1.heap.size = z1 := ⟨_, rfl⟩
  rw [hz] at hz1 HZ1 R1 R2 ⊢
  generalize hW1 : (w1.alloc (.cells #[.pointer (some ⟨lb, 0, none⟩)] 61)).alloc (.cells #[.int .i64 (gof A goal : Nat)] 3) = W1 at *
  have HLW := Lib.hid ((HL0.out.drewN 1).below HBB.out)
  have HXW : Hid (Bx w W1 lb goal want) := Lib.hid (HX0.out.keep (fun q h1 h2 => HBB.out.block q (by have := HQ1.out; simp; omega)))
  have HAW := Lib.hid (H.out.also HB2.out)
  have HKW := Lib.hid (H.out.kp HB2.out)
  clear hW1 hz HB1
  have HST := Lib.hid (round_stops 5 (by omega) z1 (z1 + 1) (gof A goal) A.ng hng.1 hng.2 (gof_lt hM goal) W1 lb gb c HLW.out.lt.1 R1.out R2.out (by have := HLW.out.cs.2.2.2.2.2.2.2.2.2.2; rw [gs_len] at this; exact this))
  generalize hSx : (fun q => S q ∨ (w.heap.size ≤ q ∧ q < W1.heap.size)) = Sx at *
  have HSX : Hid ((∀ q, S q → Sx q) ∧ (∀ q, w.heap.size ≤ q → q < W1.heap.size → Sx q) ∧ ∀ q, Sx q → q < W1.heap.size) := Lib.hid (by subst hSx; exact ⟨fun q hq => .inl hq, fun q h1 h2 => .inr ⟨h1, h2⟩, HAW.out.there⟩)
  clear hSx
  have HI0 : Hid (TI a B b db s A goal want Sx W1 [] W1 ∧ W1.heap.size ≤ W1.heap.size) := Lib.hid ⟨⟨s, Rd.refl HS.out.coh, HAW.out, Kp.refl _ _, fun _ y hy => (by cases hy)⟩, Nat.le_refl _⟩
  have hBW : B ≤ W1.heap.size := by have := HZ1.out; omega
  have haW : a.heap.size ≤ W1.heap.size := HAW.out.below.size
  gi_wp2_with fail
  obtain ⟨z, hz⟩ : ∃ z, w.heap.size = z := ⟨_, rfl⟩
  rw [hz]
  have HZ := Lib.hid hz
  refine wpIn_rangeFunc_ownH rfl (by omega) (gf := 102) (lb := #[.pointer (some ⟨z1, 0, none⟩), .pointer (some ⟨z1 + 1, 0, none⟩)]) rfl trivial (enters_of Tryz.func102 (by kernel_rfl) rfl)
    HST.out CKeep.trans (fun W l o o' _ h hc _ => CKeep.turn W l o o' h hc) (Below.refl _ _) (fun _ => rfl) (fun pre W => TI a B b db s A goal want Sx W1 pre W ∧ W1.heap.size ≤ W.heap.size) (fun cc pre W => TX a B b db s A goal want Sx lb gb z W1 cc pre W ∧ W1.heap.size ≤ W.heap.size) ?hI ?hIx HI0.out (TA z1 lb z A goal want) ?hAx ?assign ?body ?done ?stop
  case hI => exact TI.own hBW haW HSX.out.2.2
  case hIx => exact fun cc => TX.own hBW haW HSX.out.2.2 (by have := HZ1.out; omega) cc
  case hAx => intro x a'; exact fun _ _ _ _ hs _ _ => hs
  case assign =>
    intro lo pre x W K hi hK
    simp only [rnd]
    gi_wp2
    exact hK _ _ (KeepsFrom.refl _ _) (CKeep.refl _ _) hi rfl
  case body =>
    rintro lo pre x a' W hlo - ⟨⟨s1, h1, h2, h3, h4⟩, hzW⟩ rfl hlt
    have hpl : pre.length ≤ 13 := by omega
    obtain ⟨i, hi0⟩ : ∃ i, gth A goal x = i := ⟨_, rfl⟩
    have hi : i < A.ng := by rw [← hi0]; exact nth_lt x hng.1
    rw [hi0]
    obtain ⟨x0, x1, x2, x3, x4, x5, n, hp⟩ : ∃ x0 x1 x2 x3 x4 x5 n, PL A i x0 x1 x2 x3 x4 x5 n := ⟨_, _, _, _, _, _, _, ⟨rfl, rfl, rfl, rfl, rfl, rfl, rfl⟩⟩
    have G := geo hM hi
    have hn16 : n ≤ 2016 := by rw [← hp.en]; exact G.a7
    have hx1 : x1 ≤ 4096 := by have := G.a8; have := hM.b1; have := hp.e1; omega
    have hx01 : x0 + n = x1 := by rw [← hp.e0, ← hp.e1, ← hp.en]
    have hsub : wrap64 ((x1 : Int) - (x0 : Int)) = (n : Int) := by rw [IntWalk.wrap64_in _ ⟨by omega, by omega⟩]; omega
    have hx2 : x2 < s1.N := by rw [h1.N, ← hp.e2]; have := HS.out.bat_lt hi; omega
    have hv2 : s1.val x2 = A.bm i := by rw [h1.val, ← hp.e2]; exact HS.out.bms i hi
    have hm2 : isMap (A.bm i) n x2 = true := by rw [← hp.en, ← hp.e2]; exact HS.out.fine.bm i hi
    have HP := Lib.hid hp
    have HLd := Lib.hid (HLW.out.kp h3 (HSX.out.1 _ hS1) (HSX.out.1 _ hS2))
    have HBX : Hid (Bx w W lb goal want) := Lib.hid (HXW.out.keep (fun q q1 q2 => h3 q (HSX.out.2.1 q q1 (by have := HZ1.out; omega))))
    have HA := Lib.hid (h2.walks W1.heap.size hBW)
    have H3 := Lib.hid h3
    have H1 := Lib.hid h1
    have H4 := Lib.hid h4
    have HM2 := Lib.hid (And.intro hx2 (And.intro hv2 hm2))
    obtain ⟨c0, c1, c2, c3, c4, -⟩ := HLd.out.cs
    have y0 := rowc HBX.out.b0 0 rfl
    rw [hz] at y0
    clear h1 h2 h3 h4 hp G hx2 hv2 hm2
    gi_wp2_with fail
    refine ⟨trivial, ((callsIn_wide.2 (place_l HP.out hM hi _)).inRound lo).mono ?_⟩
    rintro e W2 ⟨rfl, hb2⟩
    have HB2 := Lib.hid (hb2.alloc hb2.size (.cells #[.int .i64 x0, .int .i64 x1, .int .i64 x2, .int .i64 x3, .int .i64 x4, .int .i64 x5] 115))
    have HA2 := Lib.hid (HA.out.also HB2.out)
    have hX2 := HBX.out.keep (w' := W2.alloc (.cells #[.int .i64 x0, .int .i64 x1, .int .i64 x2, .int .i64 x3, .int .i64 x4, .int .i64 x5] 115)) (fun q q1 q2 => HB2.out.block q (by have := HZ1.out; omega))
    have y0 := rowc hX2.b0 0 rfl
    rw [hz] at y0
    have HBX2 := Lib.hid hX2
    have r2 := rowV_new W2 [.int .i64 x0, .int .i64 x1, .int .i64 x2, .int .i64 x3, .int .i64 x4, .int .i64 x5] 115
    have HLd2 := Lib.hid (HLd.out.below HB2.out)
    have HS2 : Hid (W.heap.size ≤ W2.heap.size) := Lib.hid hb2.size
    have hz2 : W2.heap.size < (W2.alloc (.cells #[.int .i64 x0, .int .i64 x1, .int .i64 x2, .int .i64 x3, .int .i64 x4, .int .i64 x5] 115)).heap.size := by simp
    clear hX2 hb2 c0 c1 c2 c3 c4
    gi_wp2_with fail
    rw [show (x1 : Int) - (x0 : Int) = (n : Int) by omega]
    refine ⟨trivial, ((callsIn_wide.2 (read_own HA2.out HLd2.out (.inl (.inl (HSX.out.1 _ hS1))) H1.out.coh HT.out (by have := H1.out.load; omega) x2 n (A.bm i) HM2.out.1 HM2.out.2.1 hn16 HM2.out.2.2)).inRound lo).mono ?_⟩
    rintro e W3 ⟨g, c', rest, rfl, hg, hc', hR, hA3, hk3, hr3⟩
    have HRD := Lib.hid (H1.out.trans hr3)
    generalize s1.read x2 = s2 at *
    have HBL : Hid ((A.bm i).length = 256) := Lib.hid (map_of HM2.out.2.2).1
    have HHL : Hid ((hadL (A.bm i) (had A s2.now.hld i) n).length = 256) := Lib.hid ((hadL_len _ _ _).trans HBL.out)
    obtain ⟨q0, hq0⟩ : ∃ q0, W2.heap.size = q0 := ⟨_, rfl⟩
    rw [hq0]
    have HB4 : Hid (Below W3.heap.size W3 (W3.alloc (.cells #[.int .i64 x2, .int .i64 n, .slice (some ⟨g, 0, none⟩) 256 c'] 122))) := Lib.hid ((Below.refl _ _).alloc (Nat.le_refl _) _)
    have HA4 := Lib.hid (hA3.also HB4.out)
    have hX3 := HBX2.out.keep (w' := W3) (fun q q1 q2 => hk3 q (.inl (.inl (HSX.out.2.1 q q1 (by have := HZ1.out; omega)))))
    have r3 : RowV W3 W2.heap.size 115 [.int .i64 x0, .int .i64 x1, .int .i64 x2, .int .i64 x3, .int .i64 x4, .int .i64 x5] := (hk3 _ (.inr ⟨HS2.out, hz2⟩)).trans r2
    rw [hq0] at r3
    have hrg : Rg (W3.alloc (.cells #[.int .i64 x2, .int .i64 n, .slice (some ⟨g, 0, none⟩) 256 c'] 122)) z q0 W3.heap.size lb goal want x0 x1 x2 x3 x4 x5 n g c' := by
      have b0 := hX3.b0
      have b1 := hX3.b1
      have b2 := hX3.b2
      rw [hz] at b0 b1 b2
      exact ⟨b0.alloc _, b1.alloc _, b2.alloc _, r3.alloc _, rowV_new _ _ _⟩
    have HLd4 := Lib.hid ((HLd2.out.kp hk3 (.inl (.inl (HSX.out.1 _ hS1))) (.inl (.inl (HSX.out.1 _ hS2)))).below HB4.out)
    have HK3 := Lib.hid hk3
    have HA3 := Lib.hid hA3
    have HR4 : Hid (Row (W3.alloc (.cells #[.int .i64 x2, .int .i64 n, .slice (some ⟨g, 0, none⟩) 256 c'] 122)) g (A.bm i) rest) := Lib.hid (row_alloc hR _)
    have hg3 : g < W3.heap.size := hR.lt
    have HQ0 := Lib.hid hq0
    have HRG0 := Lib.hid hrg
    have HR3 := Lib.hid r2
    clear hX3 r3 hrg hk3 hA3 hR y0 r2 hq0 hr3
    gi_wp2_with fail
    obtain ⟨q1, hq1⟩ : ∃ q1, W3.heap.size = q1 := ⟨_, rfl⟩
    rw [hq1] at HRG0 ⊢
    have HQ1 := Lib.hid hq1
    clear hq1
    generalize hW4 : W3.alloc (.cells #[.int .i64 x2, .int .i64 n, .slice (some ⟨g, 0, none⟩) 256 c'] 122) = W4 at *
    clear hW4
    have HRG : Hid (Rg W4.drew z q0 q1 lb goal want x0 x1 x2 x3 x4 x5 n g c') := Lib.hid ⟨HRG0.out.r0, HRG0.out.r1, HRG0.out.r2, HRG0.out.r3, HRG0.out.r4⟩
    refine ARegion.region_in_held (S := fun w' => Rg w' z q0 q1 lb goal want x0 x1 x2 x3 x4 x5 n g c') (by kernel_rfl) (by kernel_rfl) (by rintro ⟨_, _, h⟩; exact h.elim) HRG.out (fun hHeld => ?_)
    -- WALK9 begin
    refine wpAnyH_take (i := 0) (v := ?_) rfl (by kernel_rfl) (by kernel_rfl) (by kernel_rfl) (fun _ _ _ h => h) (Or.inl ⟨by rfl, ?_⟩) hHeld ?_
    rotate_left
    · intro wq hSw
      have s0 := rowc hSw.r0 0 rfl
      have s1 := rowc hSw.r1 0 rfl
      have s2 := rowc hSw.r2 0 rfl
      have p0 := rowc hSw.r3 0 rfl
      have p1 := rowc hSw.r3 1 rfl
      have p2 := rowc hSw.r3 2 rfl
      have p3 := rowc hSw.r3 3 rfl
      have p4 := rowc hSw.r3 4 rfl
      have p5 := rowc hSw.r3 5 rfl
      have b0 := rowc hSw.r4 0 rfl
      have b1 := rowc hSw.r4 1 rfl
      have b2 := rowc hSw.r4 2 rfl
      go_simp
      try with_reducible rfl
    try simp only [Act.put, List.getElem_toArray, List.getElem_cons_zero, List.setIfInBounds_toArray, List.set_cons_zero, List.set_cons_succ]
    refine wpAnyH_take (i := 1) (v := ?_) rfl (by kernel_rfl) (by kernel_rfl) (by kernel_rfl) (fun _ _ _ h => h) (Or.inl ⟨by rfl, ?_⟩) hHeld ?_
    rotate_left
    · intro wq hSw
      have s0 := rowc hSw.r0 0 rfl
      have s1 := rowc hSw.r1 0 rfl
      have s2 := rowc hSw.r2 0 rfl
      have p0 := rowc hSw.r3 0 rfl
      have p1 := rowc hSw.r3 1 rfl
      have p2 := rowc hSw.r3 2 rfl
      have p3 := rowc hSw.r3 3 rfl
      have p4 := rowc hSw.r3 4 rfl
      have p5 := rowc hSw.r3 5 rfl
      have b0 := rowc hSw.r4 0 rfl
      have b1 := rowc hSw.r4 1 rfl
      have b2 := rowc hSw.r4 2 rfl
      go_simp
      try with_reducible rfl
    try simp only [Act.put, List.getElem_toArray, List.getElem_cons_zero, List.getElem_cons_succ, List.setIfInBounds_toArray, List.set_cons_zero, List.set_cons_succ]
    refine wpAnyH_take (i := 2) (v := ?_) rfl (by kernel_rfl) (by kernel_rfl) (by kernel_rfl) (fun _ _ _ h => h) (Or.inl ⟨by rfl, ?_⟩) hHeld ?_
    rotate_left
    · intro wq hSw
      have s0 := rowc hSw.r0 0 rfl
      have s1 := rowc hSw.r1 0 rfl
      have s2 := rowc hSw.r2 0 rfl
      have p0 := rowc hSw.r3 0 rfl
      have p1 := rowc hSw.r3 1 rfl
      have p2 := rowc hSw.r3 2 rfl
      have p3 := rowc hSw.r3 3 rfl
      have p4 := rowc hSw.r3 4 rfl
      have p5 := rowc hSw.r3 5 rfl
      have b0 := rowc hSw.r4 0 rfl
      have b1 := rowc hSw.r4 1 rfl
      have b2 := rowc hSw.r4 2 rfl
      go_simp
      try with_reducible rfl
    try simp only [Act.put, List.getElem_toArray, List.getElem_cons_zero, List.getElem_cons_succ, List.setIfInBounds_toArray, List.set_cons_zero, List.set_cons_succ]
    refine wpAnyH_take (i := 4) (v := ?_) rfl (by kernel_rfl) (by kernel_rfl) (by kernel_rfl) (fun _ _ _ h => h) (Or.inl ⟨by rfl, ?_⟩) hHeld ?_
    rotate_left
    · intro wq hSw
      have s0 := rowc hSw.r0 0 rfl
      have s1 := rowc hSw.r1 0 rfl
      have s2 := rowc hSw.r2 0 rfl
      have p0 := rowc hSw.r3 0 rfl
      have p1 := rowc hSw.r3 1 rfl
      have p2 := rowc hSw.r3 2 rfl
      have p3 := rowc hSw.r3 3 rfl
      have p4 := rowc hSw.r3 4 rfl
      have p5 := rowc hSw.r3 5 rfl
      have b0 := rowc hSw.r4 0 rfl
      have b1 := rowc hSw.r4 1 rfl
      have b2 := rowc hSw.r4 2 rfl
      go_simp
      try with_reducible rfl
    try simp only [Act.put, List.getElem_toArray, List.getElem_cons_zero, List.getElem_cons_succ, List.setIfInBounds_toArray, List.set_cons_zero, List.set_cons_succ]
    refine wpAnyH_take (i := 5) (v := ?_) rfl (by kernel_rfl) (by kernel_rfl) (by kernel_rfl) (fun _ _ _ h => h) (Or.inl ⟨by rfl, ?_⟩) hHeld ?_
    rotate_left
    · intro wq hSw
      have s0 := rowc hSw.r0 0 rfl
      have s1 := rowc hSw.r1 0 rfl
      have s2 := rowc hSw.r2 0 rfl
      have p0 := rowc hSw.r3 0 rfl
      have p1 := rowc hSw.r3 1 rfl
      have p2 := rowc hSw.r3 2 rfl
      have p3 := rowc hSw.r3 3 rfl
      have p4 := rowc hSw.r3 4 rfl
      have p5 := rowc hSw.r3 5 rfl
      have b0 := rowc hSw.r4 0 rfl
      have b1 := rowc hSw.r4 1 rfl
      have b2 := rowc hSw.r4 2 rfl
      go_simp
      try with_reducible rfl
    try simp only [Act.put, List.getElem_toArray, List.getElem_cons_zero, List.getElem_cons_succ, List.setIfInBounds_toArray, List.set_cons_zero, List.set_cons_succ]
    refine wpAnyH_take (i := 7) (v := ?_) rfl (by kernel_rfl) (by kernel_rfl) (by kernel_rfl) (fun _ _ _ h => h) (Or.inl ⟨by rfl, ?_⟩) hHeld ?_
    rotate_left
    · intro wq hSw
      have s0 := rowc hSw.r0 0 rfl
      have s1 := rowc hSw.r1 0 rfl
      have s2 := rowc hSw.r2 0 rfl
      have p0 := rowc hSw.r3 0 rfl
      have p1 := rowc hSw.r3 1 rfl
      have p2 := rowc hSw.r3 2 rfl
      have p3 := rowc hSw.r3 3 rfl
      have p4 := rowc hSw.r3 4 rfl
      have p5 := rowc hSw.r3 5 rfl
      have b0 := rowc hSw.r4 0 rfl
      have b1 := rowc hSw.r4 1 rfl
      have b2 := rowc hSw.r4 2 rfl
      go_simp
      try with_reducible rfl
    try simp only [Act.put, List.getElem_toArray, List.getElem_cons_zero, List.getElem_cons_succ, List.setIfInBounds_toArray, List.set_cons_zero, List.set_cons_succ]
    refine wpAnyH_ready (rs := [3]) (by kernel_rfl) (by simp) ?_
    refine AllReadyH.cons (o := _) rfl (fun K hK => ?_) (AllReadyH.nil)
    go_simp
    go_at_call 64
    refine (had_l HP.out (HA4.out.drewN 1) (HLd4.out.drewN 1) hM hi (x2 : Int) (A.bm i) HBL.out g c' rest hc' HR4.out).mono ?_
    rintro e W5 ⟨g5, c5, rest5, rfl, hg5, hc5, hR5, hb5⟩
    have HRG5 := Lib.hid (HRG.out.keep hb5)
    have HB5 := Lib.hid hb5
    have HR5 := Lib.hid hR5
    clear hb5 hR5
    go_wp2_with fail
    refine hK.out _ _ HRG5.out (fun hHeld => ?_)
    clear hK K
    try simp only [Act.put, List.getElem_toArray, List.getElem_cons_zero, List.getElem_cons_succ, List.setIfInBounds_toArray, List.set_cons_zero, List.set_cons_succ]
    refine wpAnyH_ready (rs := [6]) (by kernel_rfl) (by simp) ?_
    refine AllReadyH.cons (o := _) rfl (fun K hK => ?_) (AllReadyH.nil)
    go_simp
    go_at_call 65
    refine (within_l HP.out hM hi goal _).mono ?_
    rintro e W6 ⟨rfl, hb6⟩
    have HRG6 := Lib.hid (HRG5.out.keep hb6)
    have HR6 : Hid (Row W6 g5 (hadL (A.bm i) (had A s2.now.hld i) n) rest5) := Lib.hid (row_below HR5.out hb6 HR5.out.lt)
    have HB6 := Lib.hid (below_up HB5.out hb6 HB5.out.size)
    clear hb6
    go_wp2_with fail
    refine hK.out _ _ HRG6.out (fun hHeld => ?_)
    clear hK K
    try simp only [Act.put, List.getElem_toArray, List.getElem_cons_zero, List.getElem_cons_succ, List.setIfInBounds_toArray, List.set_cons_zero, List.set_cons_succ]
    refine wpAnyH_ready (rs := [8]) (by kernel_rfl) (by simp) ?_
    refine AllReadyH.cons (o := _) rfl (fun K hK => ?_) (AllReadyH.nil)
    go_simp
    go_at_call 63
    refine (Find_any (hadL (A.bm i) (had A s2.now.hld i) n) 256 HHL.out W6.heap.size (some ⟨g5, 0, none⟩) c5 (wi A i goal) want W6 (Nat.le_refl _) (by decide) (HR6.out.sl HR6.out.lt)).mono ?_
    rintro e W7 ⟨rfl, hb7⟩
    have HRG7 := Lib.hid (HRG6.out.keep hb7)
    have HB7 := Lib.hid (below_up HB6.out hb7 HB6.out.size)
    clear hb7
    unfold findV
    go_wp2_with fail
    refine hK.out _ _ HRG7.out (fun hHeld => ?_)
    clear hK K
    try simp only [Act.put, List.getElem_toArray, List.getElem_cons_zero, List.getElem_cons_succ, List.setIfInBounds_toArray, List.set_cons_zero, List.set_cons_succ]
    refine wpAnyH_take (i := 9) (v := ?_) rfl (by kernel_rfl) (by kernel_rfl) (by kernel_rfl) (fun _ _ _ h => h) (Or.inl ⟨by rfl, ?_⟩) hHeld ?_
    rotate_left
    · intro wq hSw
      go_simp
      try with_reducible rfl
    try simp only [Act.put, List.getElem_toArray, List.getElem_cons_zero, List.getElem_cons_succ, List.setIfInBounds_toArray, List.set_cons_zero, List.set_cons_succ]
    refine wpAnyH_take (i := 10) (v := ?_) rfl (by kernel_rfl) (by kernel_rfl) (by kernel_rfl) (fun _ _ _ h => h) (Or.inl ⟨by rfl, ?_⟩) hHeld ?_
    rotate_left
    · intro wq hSw
      go_simp
      try with_reducible rfl
    try simp only [Act.put, List.getElem_toArray, List.getElem_cons_zero, List.getElem_cons_succ, List.setIfInBounds_toArray, List.set_cons_zero, List.set_cons_succ]
    refine wpAnyH_take (i := 11) (v := ?_) rfl (by kernel_rfl) (by kernel_rfl) (by kernel_rfl) (fun _ _ _ h => h) (Or.inl ⟨by rfl, ?_⟩) hHeld ?_
    rotate_left
    · intro wq hSw
      go_simp
      try with_reducible rfl
    try simp only [Act.put, List.getElem_toArray, List.getElem_cons_zero, List.getElem_cons_succ, List.setIfInBounds_toArray, List.set_cons_zero, List.set_cons_succ]
    refine wpAnyH_take (i := 12) (v := ?_) rfl (by kernel_rfl) (by kernel_rfl) (by kernel_rfl) (fun _ _ _ h => h) (Or.inl ⟨by rfl, ?_⟩) hHeld ?_
    rotate_left
    · intro wq hSw
      go_simp
      try with_reducible rfl
    try simp only [Act.put, List.getElem_toArray, List.getElem_cons_zero, List.getElem_cons_succ, List.setIfInBounds_toArray, List.set_cons_zero, List.set_cons_succ]
    refine wpAnyH_take (i := 13) (v := ?_) rfl (by kernel_rfl) (by kernel_rfl) (by kernel_rfl) (fun _ _ _ h => h) (Or.inl ⟨by rfl, ?_⟩) hHeld ?_
    rotate_left
    · intro wq hSw
      go_simp
      try with_reducible rfl
    try simp only [Act.put, List.getElem_toArray, List.getElem_cons_zero, List.getElem_cons_succ, List.setIfInBounds_toArray, List.set_cons_zero, List.set_cons_succ]
    refine wpAnyH_take (i := 14) (v := ?_) rfl (by kernel_rfl) (by kernel_rfl) (by kernel_rfl) (fun _ _ _ h => h) (Or.inl ⟨by rfl, ?_⟩) hHeld ?_
    rotate_left
    · intro wq hSw
      go_simp
      try with_reducible rfl
    try simp only [Act.put, List.getElem_toArray, List.getElem_cons_zero, List.getElem_cons_succ, List.setIfInBounds_toArray, List.set_cons_zero, List.set_cons_succ]
    refine wpAnyH_take (i := 15) (v := ?_) rfl (by kernel_rfl) (by kernel_rfl) (by kernel_rfl) (fun _ _ _ h => h) (Or.inl ⟨by rfl, ?_⟩) hHeld ?_
    rotate_left
    · intro wq hSw
      go_simp
      try with_reducible rfl
    try simp only [Act.put, List.getElem_toArray, List.getElem_cons_zero, List.getElem_cons_succ, List.setIfInBounds_toArray, List.set_cons_zero, List.set_cons_succ]
    refine wpAnyH_done (by kernel_rfl) ?_ _
    have hok : fOk (hadL (A.bm i) (had A s2.now.hld i) n) (wi A i goal) want = ok1 A s.now.hld goal want i := by unfold ok1 hadB; rw [HRD.out.now, HP.out.en]
    rw [hok]
    have HA7 := Lib.hid ((HA4.out.drewN 1).also HB7.out)
    have HKP : Hid (Kp (fun q => Sx q ∨ (W1.heap.size ≤ q ∧ ∃ o : Obj, W.heap[q]? = some o ∧ o.isCells = false)) W W7) := Lib.hid (((((HA.out.kp HB2.out).trans (HK3.out.less fun _ h => .inl h)).trans ((HA3.out.kp HB4.out).less fun _ h => .inl (.inl h))).trans (Kp.drewN _ _ 1)).trans (((HA4.out.drewN 1).kp HB7.out).less fun _ h => .inl (.inl (.inl h))))
    clear hok
    have hsz : W.heap.size ≤ W7.heap.size := by have := HS2.out; have := HB4.out.size; have := HB7.out.size; simp at *; omega
    have hkp := HKP.out
    cases hq : ok1 A s.now.hld goal want i with
    | false =>
      gi_wp2_with fail
      refine ⟨⟨hsz, fun k o hB hk ho => (hkp k (.inr ⟨hB, o, hk, ho⟩)).trans hk⟩, fun k o hk ho _ => (hkp k (.inl (HSX.out.2.1 k ?_ ?_))).trans ho, ⟨s2, ?_, HA7.out.less fun q hq => .inl (.inl (.inl (.inl (.inl hq)))), H3.out.trans (hkp.less fun _ h => .inl h), fun hp2 y hy => ?_⟩, Nat.le_trans hzW hsz⟩
      · rcases hk with rfl | rfl <;> omega
      · have := HZ1.out; rcases hk with rfl | rfl <;> omega
      · rw [List.length_append, List.length_singleton]
        exact HRD.out
      · rw [List.length_append, List.length_singleton] at hp2 hy
        rw [List.range_succ] at hp2
        obtain ⟨h5, h6⟩ := List.append_inj' hp2 rfl
        by_cases hy2 : y < pre.length
        · exact H4.out h5 y hy2
        · obtain rfl : y = pre.length := by omega
          obtain rfl : x = pre.length := by simpa using h6
          rw [hi0]
          exact hq
    | true =>
      obtain ⟨f1, f2, f3, f4, f5, f6⟩ := ok1_facts HS.out.fine hi hq
      obtain ⟨xx, hxx⟩ : ∃ xx, at1 A s.now.hld goal want i = xx := ⟨_, rfl⟩
      obtain ⟨m, hm⟩ : ∃ m, ct1 A s.now.hld goal want i = m := ⟨_, rfl⟩
      rw [hxx] at f1 f5 f6
      rw [hm] at f2 f3 f4 f5 f6
      have hI : fI (hadL (A.bm i) (had A s2.now.hld i) n) (wi A i goal) want = (xx : Int) := by rw [HRD.out.now, ← HP.out.en]; exact f1
      have hN : fN (hadL (A.bm i) (had A s2.now.hld i) n) (wi A i goal) want = (m : Int) := by rw [HRD.out.now, ← HP.out.en]; exact f2
      rw [hI, hN]
      rw [HP.out.en] at f5
      have hfree : ∀ j, j < m → fr (A.bm i) (xx + j) = true := fun j hj => (f6 j hj).1
      have hall : allB (A.bm i) xx m (!true) = true := allB_iff.2 fun j hj => by rw [hfree j hj]
      have hfx : ∀ j, j < m → A.own i ≤ xx + j := fun j hj => (f6 j hj).2.1
      obtain ⟨l, hl⟩ : ∃ l, turnL (A.bm i) xx m x2 = l := ⟨_, rfl⟩
      have hl2 : turnL (A.bm i) xx m (A.bat i) = l := by rw [HP.out.e2]; exact hl
      have hfine : (A.setB i l).Fine := setB_fine HS.out.fine (fun _ => by rw [← hl2, HP.out.en]; exact turn_map (by have := HS.out.fine.bm i hi; rw [HP.out.en] at this; exact this) f5 hn16) (fun k hk => by
        rw [← hl2, fr_turn HBL.out xx m (A.bat i) (by omega), HS.out.fine.fx i hi k hk]
        have : ¬ (xx ≤ k ∧ k < xx + m) := fun hc => by
          have := hfx 0 (by omega)
          omega
        simp [this])
      have hzero : TBits.zeros l + m = TBits.zeros (A.bm i) := by rw [← hl]; exact turn_take HBL.out x2 (by omega) hfree
      have hfb := setB_fb (A := A) l hi
      have hgi : A.gs[i]'(by rw [gs_len]; exact hi) = A.grp i := gs_get _
      have hgs := setB_gs (A := A) (i := i) l
      have HF := Lib.hid hfine
      have HGS := Lib.hid hgs
      have HCN := Lib.hid (fun (W : World) (S' : Nat → Prop) (s' : Sto) (h1 : AS a B S' W b db s') (h2 : Led W lb gb c b A A.gs A.fb A.fi) (h3 : S' lb) (h4 : S' gb) (h5 : s'.load + 10 ≤ 1073741824) =>
        count_own h1 h2 h3 h4 ha1 ha2 HT.out h5 (i := i) (by rw [gs_len]; exact hi) (-(m : Int)) 0 0 (TBits.zeros l : Nat) (TBits.zeros (A.im i) : Nat) (A.dirs i) ((A.setB i l).fb : Nat) (A.fi : Nat)
          (by rw [hgi]; show (TBits.zeros (A.bm i) : Int) + _ = _; omega) (by rw [hgi]; exact Int.add_zero _) (by rw [hgi]; exact Int.add_zero _) (by omega) (Int.add_zero _) (by rw [show A.gs.set i ⟨(TBits.zeros l : Nat), (TBits.zeros (A.im i) : Nat), A.dirs i⟩ = (A.setB i l).gs from hgs.symm]; exact fine_grp hfine) (fine_sup hfine))
      have hneg : wrap64 (-(m : Int)) = -(m : Int) := IntWalk.wrap64_in _ ⟨by omega, by omega⟩
      have hadd : wrap64 ((x0 : Int) + (xx : Int)) = (x0 : Int) + (xx : Int) := IntWalk.wrap64_in _ ⟨by omega, by omega⟩
      have HAL := Lib.hid hall
      have HXM := Lib.hid (And.intro f3 f5)
      have HEQ := Lib.hid (And.intro hxx (And.intro hm (And.intro hl2 hl)))
      have HLd7 := Lib.hid ((HLd4.out.drewN 1).below HB7.out)
      have HR7 : Hid (Row W7 g (A.bm i) rest) := Lib.hid (row_below (w := W4.drewN 1) HR4.out HB7.out HR4.out.lt)
      have HTN := Lib.hid (turn_own HA7.out HLd7.out (.inl (.inl (.inl (.inl (.inl (HSX.out.1 _ hS1)))))) HT.out (by have := HRD.out.load; omega) x2 n xx m true (A.bm i) (by rw [HRD.out.N, ← H1.out.N]; exact HM2.out.1) hn16 HM2.out.2.2 f3 f5 hall g c' rest hc' HR7.out)
      have s0 := rowc HRG7.out.r0 0 rfl
      have b0 := rowc HRG7.out.r4 0 rfl
      have b1 := rowc HRG7.out.r4 1 rfl
      have b2 := rowc HRG7.out.r4 2 rfl
      have HOK := Lib.hid hq
      clear f1 f2 f3 f4 f5 f6 hI hN hfree hall hfx hfine hgs hgi hzero hfb hq hl hl2 hxx hm hkp
      gi_wp2_with fail
      refine ⟨trivial, ((callsIn_wide.2 HTN.out).inRound lo).mono ?_⟩
      rintro e W8 ⟨rfl, hA8, hk8⟩
      have HA8 := Lib.hid hA8
      have HLd8 := Lib.hid (HLd7.out.kp hk8 (.inl (.inl (.inl (.inl (.inl (HSX.out.1 _ hS1)))))) (.inl (.inl (.inl (.inl (.inl (HSX.out.1 _ hS2)))))))
      have HK8 := Lib.hid (HKP.out.trans (hk8.less fun q hq => .inl (.inl (.inl (.inl hq)))))
      have hzin : ∀ k, k < 6 → Sx (z + k) := fun k hk => HSX.out.2.1 _ (by have := HZ.out; omega) (by have := HZ1.out; have := HZ.out; omega)
      have r0 : RowV W8 z 61 [.pointer (some ⟨lb, 0, none⟩)] := (hk8 _ (.inl (.inl (.inl (.inl (.inl (hzin 0 (by omega)))))))).trans HRG7.out.r0
      have r3 : RowV W8 q0 115 [.int .i64 x0, .int .i64 x1, .int .i64 x2, .int .i64 x3, .int .i64 x4, .int .i64 x5] := (hk8 _ (.inl (.inl (.inl (.inr (by rw [← HQ0.out]; exact ⟨HS2.out, hz2⟩)))))).trans HRG7.out.r3
      have HR8 := Lib.hid r3
      have HZIN := Lib.hid hzin
      have HK8S := Lib.hid hk8
      have s0 := rowc r0 0 rfl
      clear hA8 hk8 r0 r3 hzin b0 b1 b2
      gi_wp2_with fail
      refine ⟨trivial, ((callsIn_wide.2 (HCN.out W8 _ _ HA8.out HLd8.out (.inl (.inl (.inl (.inl (.inl (HSX.out.1 _ hS1)))))) (.inl (.inl (.inl (.inl (.inl (HSX.out.1 _ hS2)))))) (by have := HRD.out.load; have := Sto.load_write s2 x2 l; rw [HEQ.out.2.2.2]; omega))).inRound lo).mono ?_⟩
      rintro e W9 ⟨rfl, hA9, hk9⟩
      have hlbz : lb < z ∧ gb < z := by have := H.out.there _ hS1; have := H.out.there _ hS2; have := HZ.out; omega
      have hWz : z + 6 ≤ W1.heap.size := by have := HZ1.out; have := HZ.out; omega
      have HK9 : Hid (Kp (fun q => (Sx q ∨ (W1.heap.size ≤ q ∧ ∃ o : Obj, W.heap[q]? = some o ∧ o.isCells = false)) ∧ q ≠ lb ∧ q ≠ gb) W W9) := Lib.hid ((HK8.out.less fun q hq => hq.1).trans (hk9.less fun q hq => ⟨.inl (.inl (.inl (.inl hq.1))), hq.2⟩))
      have hbx9 : Bx w W9 lb goal want := HBX.out.keep fun q h1 h2 => HK9.out q ⟨.inl (HSX.out.2.1 q h1 (by have := HZ.out; omega)), by have := HZ.out; omega, by have := HZ.out; omega⟩
      have r3 : RowV W9 q0 115 [.int .i64 x0, .int .i64 x1, .int .i64 x2, .int .i64 x3, .int .i64 x4, .int .i64 x5] := (hk9 _ ⟨.inl (.inl (.inl (.inr (by rw [← HQ0.out]; exact ⟨HS2.out, hz2⟩)))), by have := HQ0.out; have := HS2.out; omega, by have := HQ0.out; have := HS2.out; omega⟩).trans HR8.out
      have p0 := rowc r3 0 rfl
      have r6 := hbx9.b3
      have r7 := hbx9.b4
      have r8 := hbx9.b5
      rw [HZ.out] at r6 r7 r8
      have e6 := rowc r6 0 rfl
      have e7 := rowc r7 0 rfl
      have e8 := rowc r8 0 rfl
      have g6 := r6.free
      have g7 := r7.free
      have g8 := r8.free
      have R6 := Lib.hid r6
      have R7 := Lib.hid r7
      have R8 := Lib.hid r8
      have HA9 := Lib.hid hA9
      clear hA9 hk9 hbx9 r3 r6 r7 r8 s0
      gi_wp2_with fail
      have ha3 : a.heap.size ≤ z := by have := H.out.below.size; have := HZ.out; omega
      have hSz : ∀ k, k < 6 → Sx (z + k) := HZIN.out
      have hAf := ((HA9.out.cell ⟨z + 3, 0, none⟩ (.int .i64 ((x0 : Int) + (xx : Int))) (.inl (.inl (.inl (.inl (.inl (hSz 3 (by omega))))))) (by show a.heap.size ≤ z + 3; omega)).cell ⟨z + 4, 0, none⟩ (.int .i64 (m : Int)) (.inl (.inl (.inl (.inl (.inl (hSz 4 (by omega))))))) (by show a.heap.size ≤ z + 4; omega)).cell ⟨z + 5, 0, none⟩ (.int .i64 0) (.inl (.inl (.inl (.inl (.inl (hSz 5 (by omega))))))) (by show a.heap.size ≤ z + 5; omega)
      have f6 := rowV_far (rowV_far (R6.out.set 0 (.int .i64 ((x0 : Int) + (xx : Int)))) ⟨z + 4, 0, none⟩ (.int .i64 (m : Int)) (by simp)) ⟨z + 5, 0, none⟩ (.int .i64 0) (by simp)
      have f7 := rowV_far ((rowV_far R7.out ⟨z + 3, 0, none⟩ (.int .i64 ((x0 : Int) + (xx : Int))) (by simp)).set 0 (.int .i64 (m : Int))) ⟨z + 5, 0, none⟩ (.int .i64 0) (by simp)
      have f8 := (rowV_far (rowV_far R8.out ⟨z + 3, 0, none⟩ (.int .i64 ((x0 : Int) + (xx : Int))) (by simp)) ⟨z + 4, 0, none⟩ (.int .i64 (m : Int)) (by simp)).set 0 (.int .i64 0)
      have hfar : ∀ q, q ≠ z + 3 → q ≠ z + 4 → q ≠ z + 5 → (((W9.setCell ⟨z + 3, 0, none⟩ (.int .i64 ((x0 : Int) + (xx : Int)))).setCell ⟨z + 4, 0, none⟩ (.int .i64 (m : Int))).setCell ⟨z + 5, 0, none⟩ (.int .i64 0)).heap[q]? = W9.heap[q]? := fun q q3 q4 q5 =>
        (Below.heap_setCell _ ⟨z + 5, 0, none⟩ _ q q5).trans ((Below.heap_setCell _ ⟨z + 4, 0, none⟩ _ q q4).trans (Below.heap_setCell _ ⟨z + 3, 0, none⟩ _ q q3))
      have hszf : W.heap.size ≤ (((W9.setCell ⟨z + 3, 0, none⟩ (.int .i64 ((x0 : Int) + (xx : Int)))).setCell ⟨z + 4, 0, none⟩ (.int .i64 (m : Int))).setCell ⟨z + 5, 0, none⟩ (.int .i64 0)).heap.size := by
        have h1 := hAf.there q1 (.inl (.inr ⟨Nat.le_of_eq HQ1.out, HRG0.out.r4.lt⟩))
        have h2 := HS2.out
        have h3 := HQ1.out
        have h4 := hg
        rw [World.size_alloc] at h4
        omega
      refine ⟨⟨hszf, fun k o hB hk ho => ?_⟩, ⟨rfl, pre, x, i, xx, m, l, s2, rfl, fun hp y hy => H4.out hp y hy, hi0, HOK.out, HEQ.out.1, HEQ.out.2.1, HEQ.out.2.2.1, HRD.out.more (by omega), (hAf.less fun q hq => .inl (.inl (.inl (.inl (.inl hq))))).is ?_, ?_, ?_, f7, f8⟩, Nat.le_trans hzW hszf⟩
      · exact (hfar k (by omega) (by omega) (by omega)).trans ((HK9.out k ⟨.inr ⟨hB, o, hk, ho⟩, by omega, by omega⟩).trans hk)
      · rw [HEQ.out.2.2.2, HP.out.e2]
        rw [show A.gs.set i ⟨(TBits.zeros l : Nat), (TBits.zeros (A.im i) : Nat), A.dirs i⟩ = (A.setB i l).gs from HGS.out.symm]
        rfl
      · exact (H3.out.less fun q hq => hq.1).trans ((HK9.out.less fun q hq => ⟨.inl hq.1, hq.2.1, hq.2.2.1⟩).trans fun q hq => hfar q hq.2.2.2.1 hq.2.2.2.2.1 hq.2.2.2.2.2)
      · rw [HP.out.e0, Int.natCast_add]
        exact f6
    -- WALK9 end
  case done =>
    rintro D ys W hD rfl ⟨⟨s1, h1, h2, h3, h4⟩, hzW⟩ hK
    have hHX : Bx w W lb goal want := HXW.out.keep (fun q q1 q2 => h3 q (HSX.out.2.1 q q1 (by have := HZ1.out; omega)))
    have r6 := hHX.b3
    have r7 := hHX.b4
    have r8 := hHX.b5
    rw [hz] at r6 r7 r8
    have e6 := rowc r6 0 rfl
    have e7 := rowc r7 0 rfl
    have e8 := rowc r8 0 rfl
    have g6 := r6.free
    have g7 := r7.free
    have g8 := r8.free
    have hzW1 : z + 6 ≤ W1.heap.size := by have := HZ1.out; omega
    have F6 := Lib.hid (rowV_far (rowV_far (r6.set 0 (.int .i64 0)) ⟨z + 4, 0, none⟩ (.int .i64 0) (by simp)) ⟨z + 5, 0, none⟩ (.int .i64 28) (by simp))
    have F7 := Lib.hid (rowV_far ((rowV_far r7 ⟨z + 3, 0, none⟩ (.int .i64 0) (by simp)).set 0 (.int .i64 0)) ⟨z + 5, 0, none⟩ (.int .i64 28) (by simp))
    have F8 := Lib.hid ((rowV_far (rowV_far r8 ⟨z + 3, 0, none⟩ (.int .i64 0) (by simp)) ⟨z + 4, 0, none⟩ (.int .i64 0) (by simp)).set 0 (.int .i64 28))
    have hfar : ∀ q, q ≠ z + 3 → q ≠ z + 4 → q ≠ z + 5 → (((W.setCell ⟨z + 3, 0, none⟩ (.int .i64 0)).setCell ⟨z + 4, 0, none⟩ (.int .i64 0)).setCell ⟨z + 5, 0, none⟩ (.int .i64 28)).heap[q]? = W.heap[q]? := fun q q3 q4 q5 =>
      (Below.heap_setCell _ ⟨z + 5, 0, none⟩ _ q q5).trans ((Below.heap_setCell _ ⟨z + 4, 0, none⟩ _ q q4).trans (Below.heap_setCell _ ⟨z + 3, 0, none⟩ _ q q3))
    have ha3 : a.heap.size ≤ z := by have := H.out.below.size; omega
    have hSz : ∀ k, k < 6 → Sx (z + k) := fun k hk => HSX.out.2.1 _ (by omega) (by omega)
    have hAf := ((h2.cell ⟨z + 3, 0, none⟩ (.int .i64 0) (hSz 3 (by omega)) (by show a.heap.size ≤ z + 3; omega)).cell ⟨z + 4, 0, none⟩ (.int .i64 0) (hSz 4 (by omega)) (by show a.heap.size ≤ z + 4; omega)).cell ⟨z + 5, 0, none⟩ (.int .i64 28) (hSz 5 (by omega)) (by show a.heap.size ≤ z + 5; omega)
    have HAF := Lib.hid hAf
    have HFAR := Lib.hid hfar
    have HKD : Hid ((((W.setCell ⟨z + 3, 0, none⟩ (.int .i64 0)).setCell ⟨z + 4, 0, none⟩ (.int .i64 0)).setCell ⟨z + 5, 0, none⟩ (.int .i64 28)).heap[D]? = some (.deferred (some []))) := Lib.hid ((hfar D (by omega) (by omega) (by omega)).trans hK)
    have H1 := Lib.hid h1
    have H3 := Lib.hid h3
    have H4 := Lib.hid h4
    clear h1 h2 h3 h4 hHX r6 r7 r8 hfar hAf hSz hK
    gi_wp2_with fail
    refine ⟨by simp, .inl ⟨_, _, rfl, run_takeDeferred HKD.out, ?_⟩⟩
    have hDz : W1.heap.size ≤ D := hD
    have d6 := rowc ((World.putObj_heap_other (w := ((W.setCell ⟨z + 3, 0, none⟩ (.int .i64 0)).setCell ⟨z + 4, 0, none⟩ (.int .i64 0)).setCell ⟨z + 5, 0, none⟩ (.int .i64 28)) (r := D) (o := .deferred none) (show z + 3 ≠ D by omega)).trans F6.out) 0 rfl
    have d7 := rowc ((World.putObj_heap_other (w := ((W.setCell ⟨z + 3, 0, none⟩ (.int .i64 0)).setCell ⟨z + 4, 0, none⟩ (.int .i64 0)).setCell ⟨z + 5, 0, none⟩ (.int .i64 28)) (r := D) (o := .deferred none) (show z + 4 ≠ D by omega)).trans F7.out) 0 rfl
    have d8 := rowc ((World.putObj_heap_other (w := ((W.setCell ⟨z + 3, 0, none⟩ (.int .i64 0)).setCell ⟨z + 4, 0, none⟩ (.int .i64 0)).setCell ⟨z + 5, 0, none⟩ (.int .i64 28)) (r := D) (o := .deferred none) (show z + 5 ≠ D by omega)).trans F8.out) 0 rfl
    refine ⟨.tuple #[.int .i64 0, .int .i64 0, .int .i64 28], ?_, _, s1, rfl, .inl ⟨up_none fun y hy => ?_, rfl, H1.out.more (by rw [List.length_range]; omega)⟩, ?_, ?_⟩
    · simp [results, Tryz.f30, go_sem, d6, d7, d8]
    · have := H4.out (by rw [List.length_range])
      rw [List.length_range] at this
      exact this y hy
    · exact ((HAF.out.grown (grownBy_putObj' _ D (.deferred none)) (fun r e => by cases e; exact ⟨by omega, by omega, _, HKD.out, rfl⟩)).less HSX.out.1)
    · have hn : ∀ k, 3 ≤ k → ¬ S (z + k) := fun k _ hq => by have := H.out.there _ hq; omega
      refine ((HKW.out.trans (H3.out.less HSX.out.1)).less fun q hq => hq.1).trans fun q hq => ?_
      have hlt := H.out.there q hq.1
      exact (World.putObj_heap_other (by omega)).trans (HFAR.out q (by omega) (by omega) (by omega))
  case stop =>
    rintro D cc pre W hD ⟨k, hk, hpre⟩ ⟨⟨rfl, ini, x, i, xx, n, l, s1, h1, h2, h3, h4, h5, h6, h7, h8, h9, h10, h11, h12, h13⟩, hzW⟩ hK
    have hxk : x + 1 = k ∧ ini = List.range x := by
      obtain ⟨k', rfl⟩ : ∃ k', k = k' + 1 := by
        cases k with
        | zero => rw [hpre] at h1; simp at h1
        | succ k' => exact ⟨k', rfl⟩
      rw [hpre, List.range_succ] at h1
      obtain ⟨e1, e2⟩ := List.append_inj' h1 rfl
      obtain rfl : k' = x := by simpa using e2
      exact ⟨rfl, e1.symm⟩
    have hup := up_some (P := fun k => ok1 A s.now.hld goal want (gth A goal k)) (n := A.ng) (x := x) (by omega) (fun y hy => h2 (by rw [hxk.2, List.length_range]) y (by rw [hxk.2, List.length_range]; exact hy)) (by show ok1 A s.now.hld goal want (gth A goal x) = true; rw [h3]; exact h4)
    have hDz : W1.heap.size ≤ D := hD
    have HUP := Lib.hid hup
    have HK := Lib.hid hK
    have HA := Lib.hid h9
    have HK10 := Lib.hid h10
    have HT2 := Lib.hid (And.intro h3 (And.intro h5 (And.intro h6 (And.intro h7 h8))))
    have R6 := Lib.hid h11
    have R7 := Lib.hid h12
    have R8 := Lib.hid h13
    clear hup hK h1 h2 h3 h4 h5 h6 h7 h8 h9 h10 h11 h12 h13 hpre hxk
    gi_wp2_with fail
    refine ⟨by simp, .inl ⟨_, _, rfl, run_takeDeferred HK.out, ?_⟩⟩
    have hzW1 : z + 6 ≤ W1.heap.size := by have := HZ1.out; omega
    have d6 := rowc ((World.putObj_heap_other (w := W) (r := D) (o := .deferred none) (show z + 3 ≠ D by omega)).trans R6.out) 0 rfl
    have d7 := rowc ((World.putObj_heap_other (w := W) (r := D) (o := .deferred none) (show z + 4 ≠ D by omega)).trans R7.out) 0 rfl
    have d8 := rowc ((World.putObj_heap_other (w := W) (r := D) (o := .deferred none) (show z + 5 ≠ D by omega)).trans R8.out) 0 rfl
    refine ⟨.tuple #[.int .i64 (A.at_ i + xx : Nat), .int .i64 (n : Int), .int .i64 0], ?_, _, _, rfl, .inr ⟨x, i, xx, n, l, HUP.out, HT2.out.1, HT2.out.2.1, HT2.out.2.2.1, HT2.out.2.2.2.1, rfl, s1, HT2.out.2.2.2.2, rfl⟩, ?_, ?_⟩
    · simp [results, Tryz.f30, go_sem, d6, d7, d8]
    · exact (HA.out.grown (grownBy_putObj' _ D (.deferred none)) (fun r e => by cases e; exact ⟨by omega, by omega, _, HK.out, rfl⟩)).less HSX.out.1
    · refine ((HKW.out.less fun q hq => hq.1).trans (HK10.out.less fun q hq => ?_)).trans fun q hq => ?_
      · have hlt := H.out.there q hq.1
        exact ⟨HSX.out.1 q hq.1, hq.2.1, hq.2.2, by omega, by omega, by omega⟩
      · have hlt := H.out.there q hq.1
        exact World.putObj_heap_other (by omega)
theorem take_any (h : AS a B S w b db s) (hs : Says s A) (hL : Led w lb gb c b A A.gs A.fb A.fi) (hS1 : S lb) (hS2 : S gb) (ha1 : a.heap.size ≤ lb) (ha2 : a.heap.size ≤ gb) (hBw : B ≤ w.heap.size) (hT : Tab a) (hload : s.load + 40 ≤ 1073741824) (goal want : Int) (hw1 : 1 ≤ want) :
    Calls Tryz.prog 30 #[.pointer (some ⟨lb, 0, none⟩), .int .i64 goal, .int .i64 want] w fun e w' => ∃ v s', e = .returned v ∧ Took 14 A s goal want v s' ∧ AS a B S w' b db s' ∧ Kp (fun q => S q ∧ q ≠ lb ∧ q ≠ gb) w w' :=
  callsIn_wide.1 (take_in h hs hL hS1 hS2 ha1 ha2 hBw hT hload goal want hw1)
set_option maxRecDepth 100000 in
set_option maxHeartbeats 1000000 in
theorem take_small (lb : Nat) (goal want : Int) (hw1 : want < 1) (w : World) :
    Calls Tryz.prog 30 #[.pointer (some ⟨lb, 0, none⟩), .int .i64 goal, .int .i64 want] w fun e w' => e = .returned (.tuple #[.int .i64 0, .int .i64 0, .int .i64 22]) ∧ Below w.heap.size w w' := by
  refine (callsIn_wide (n := 6)).1 ?_
  refine callsIn_of_wp_marks Tryz.func30 rfl trivial ?_ rfl
  simp only [Tryz.ntmps30, List.size_toArray, List.length_cons, List.length_nil, Nat.reduceAdd, Nat.reduceSub, Array.replicate_succ, Array.replicate_zero, List.push_toArray, List.append_toArray, List.nil_append, List.cons_append]
  gi_wp2_with fail
  refine ⟨.tuple #[.int .i64 0, .int .i64 0, .int .i64 22], ?_, rfl, ?_⟩
  · simp [results, Tryz.f30, go_sem]
  · refine ((((((Below.refl _ _).alloc (Nat.le_refl _) _).alloc ?_ _).alloc ?_ _).alloc ?_ _).alloc ?_ _).alloc ?_ _ <;> simp <;> omega
end
end Go.Proofs.YtgkindoidmglnaaGreatDoor.ATake
