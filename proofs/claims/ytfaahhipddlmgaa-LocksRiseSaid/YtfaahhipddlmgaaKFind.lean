/- The program's table: a thread's claim is found. -/
import Derived.Test.YtfaahhipddlmgaaKSeq
namespace Go.Proofs.Ytfaahhipddlmgaa.KFind
open Go.RowKit Go.Shelf WMem Ext KMap KPlain KMem KSeq

attribute [local go_sem] Oper.semAt_some

/-- what find answers -/
def found (l : List Cl) (th : Int) : Value :=
  match place l th with
  | none => .tuple #[.int .i64 (-1), .agg #[.int .i64 0, .bool false, .bool false]]
  | some i => .tuple #[.int .i64 (i : Int), told l i]

set_option maxHeartbeats 1000000 in
theorem row_in (n : Nat) (tv : Option Addr) (key : Int) (w : World) :
    CallsIn Fence.wide n Try.prog 27 #[.pointer tv, .int .i64 key] w fun e w' => e = .returned (.func (.func 28) #[] #[.pointer (some ⟨w.heap.size, 0, none⟩), .pointer (some ⟨w.heap.size + 1, 0, none⟩)]) ∧
      w' = (w.alloc (.cells #[.pointer tv] 24)).alloc (.cells #[.int .i64 key] 3) := by
  refine callsIn_of_wp Try.func27 rfl trivial ?_ rfl
  simp only [Try.ntmps27, List.size_toArray, List.length_cons, List.length_nil, Nat.reduceAdd, Nat.reduceSub, Array.replicate_succ, Array.replicate_zero, List.push_toArray, List.append_toArray, List.nil_append, List.cons_append]
  gi_wp2
  go_ret
  exact ⟨rfl, rfl⟩

/-- a block of cells stays where only what is no cells turns -/
theorem cells_own {A B : World} {row : Option Nat} {k : Nat} {cs : Array Value} {t : TypeId} (h : A.heap[k]? = some (.cells cs t (0, 0))) (hg : A.grownBy B row) (hr : ∀ r, row = some r → ∃ o : Obj, A.heap[r]? = some o ∧ o.isCells = false) : B.heap[k]? = some (.cells cs t (0, 0)) :=
  (hg.block k (row_lt h) (fun e => by obtain ⟨o, ho, hc⟩ := hr k e.symm; rw [h] at ho; cases ho; cases hc)).trans h

/-- the blocks that find lays ahead of its loop -/
def lay5 (w : World) (tv : Option Addr) (th key : Int) : World :=
  ((((w.alloc (.cells #[.int .i64 th] 3)).alloc (.cells #[.int .i64 0] 3)).alloc (.cells #[.int .i64 0, .bool false, .bool false] 39)).alloc (.cells #[.pointer tv] 24)).alloc (.cells #[.int .i64 key] 3)
theorem lay5_is (w : World) (tv : Option Addr) (th key : Int) : (lay5 w tv th key).heap.size = w.heap.size + 5 ∧ Below w.heap.size w (lay5 w tv th key) ∧
    (lay5 w tv th key).heap[w.heap.size]? = some (.cells #[.int .i64 th] 3 (0, 0)) ∧ (lay5 w tv th key).heap[w.heap.size + 1]? = some (.cells #[.int .i64 0] 3 (0, 0)) ∧
    (lay5 w tv th key).heap[w.heap.size + 2]? = some (.cells #[.int .i64 0, .bool false, .bool false] 39 (0, 0)) ∧ (lay5 w tv th key).cell? ⟨w.heap.size + 3, 0, none⟩ = some (.pointer tv) ∧ (lay5 w tv th key).cell? ⟨w.heap.size + 4, 0, none⟩ = some (.int .i64 key) := by
  unfold lay5
  have h0 := row_new w (.cells #[.int .i64 th] 3)
  have h1 := row_new (w.alloc (.cells #[.int .i64 th] 3)) (.cells #[.int .i64 0] 3)
  have h2 := row_new ((w.alloc (.cells #[.int .i64 th] 3)).alloc (.cells #[.int .i64 0] 3)) (.cells #[.int .i64 0, .bool false, .bool false] 39)
  have h3 := row_new (((w.alloc (.cells #[.int .i64 th] 3)).alloc (.cells #[.int .i64 0] 3)).alloc (.cells #[.int .i64 0, .bool false, .bool false] 39)) (.cells #[.pointer tv] 24)
  have h4 := row_new ((((w.alloc (.cells #[.int .i64 th] 3)).alloc (.cells #[.int .i64 0] 3)).alloc (.cells #[.int .i64 0, .bool false, .bool false] 39)).alloc (.cells #[.pointer tv] 24)) (.cells #[.int .i64 key] 3)
  simp only [World.size_alloc, Nat.add_assoc, Nat.reduceAdd] at h1 h2 h3 h4
  refine ⟨by simp, ((((Below.refl _ _).alloc (Nat.le_refl _) _).alloc (by simp) _).alloc (by simp; omega) _ |>.alloc (by simp; omega) _).alloc (by simp; omega) _, row_alloc (row_alloc (row_alloc (row_alloc h0 _) _) _) _, row_alloc (row_alloc (row_alloc h1 _) _) _, row_alloc (row_alloc h2 _) _, ?_, ?_⟩
  · rw [row_cell (row_alloc h3 _)]; rfl
  · rw [row_cell h4]; rfl

theorem set_both (W : World) (B : Nat) (x : Int) (c : Cl) (h : Bool) {u : Value} {u0 u1 u2 : Value} (b1 : W.heap[B + 1]? = some (.cells #[u] 3 (0, 0))) (b2 : W.heap[B + 2]? = some (.cells #[u0, u1, u2] 39 (0, 0))) :
    let W' := (((W.setCell ⟨B + 1, 0, none⟩ (.int .i64 x)).setCell ⟨B + 2, 0, none⟩ (.int .i64 c.1)).setCell ⟨B + 2, 1, none⟩ (.bool c.2)).setCell ⟨B + 2, 2, none⟩ (.bool h)
    KeepsOthers W W' ∧ (∀ n₀, n₀ ≤ B + 1 → Below n₀ W W') ∧ W'.heap[B + 1]? = some (.cells #[.int .i64 x] 3 (0, 0)) ∧ W'.heap[B + 2]? = some (.cells #[.int .i64 c.1, .bool c.2, .bool h] 39 (0, 0)) := by
  intro W'
  refine ⟨(((KeepsOthers.setCell _ _ _).trans (KeepsOthers.setCell _ _ _)).trans (KeepsOthers.setCell _ _ _)).trans (KeepsOthers.setCell _ _ _), fun n₀ hn => ((((Below.refl n₀ W).setCell (p := ⟨B + 1, 0, none⟩) hn _).setCell (p := ⟨B + 2, 0, none⟩) (by simp; omega) _).setCell (p := ⟨B + 2, 1, none⟩) (by simp; omega) _).setCell (p := ⟨B + 2, 2, none⟩) (by simp; omega) _, ?_, ?_⟩
  · have h1 := row_set b1 0 (.int .i64 x)
    have h2 := (Below.heap_setCell _ ⟨B + 2, 0, none⟩ (.int .i64 c.1) (B + 1) (by simp)).trans h1
    have h3 := (Below.heap_setCell _ ⟨B + 2, 1, none⟩ (.bool c.2) (B + 1) (by simp)).trans h2
    have h4 := (Below.heap_setCell _ ⟨B + 2, 2, none⟩ (.bool h) (B + 1) (by simp)).trans h3
    simpa using h4
  · have h1 := (Below.heap_setCell W ⟨B + 1, 0, none⟩ (.int .i64 x) (B + 2) (by simp)).trans b2
    have h2 := row_set (row_set (row_set h1 0 (.int .i64 c.1)) 1 (.bool c.2)) 2 (.bool h)
    simpa using h2
theorem set_drew (W : World) (B : Nat) (x : Int) (c : Cl) (h : Bool) {u : Value} {u0 u1 u2 : Value} (b1 : W.heap[B + 1]? = some (.cells #[u] 3 (0, 0))) (b2 : W.heap[B + 2]? = some (.cells #[u0, u1, u2] 39 (0, 0))) :
    let W' := ((((W.setCell ⟨B + 1, 0, none⟩ (.int .i64 x)).setCell ⟨B + 2, 0, none⟩ (.int .i64 c.1)).setCell ⟨B + 2, 1, none⟩ (.bool c.2)).setCell ⟨B + 2, 2, none⟩ (.bool h)).drew
    KeepsOthers W W' ∧ (∀ n₀, n₀ ≤ B + 1 → Below n₀ W W') ∧ W'.heap[B + 1]? = some (.cells #[.int .i64 x] 3 (0, 0)) ∧ W'.heap[B + 2]? = some (.cells #[.int .i64 c.1, .bool c.2, .bool h] 39 (0, 0)) := by
  have h1 := set_both W B x c h b1 b2
  exact ⟨⟨h1.1.size, h1.1.same⟩, fun n₀ hn => ⟨(h1.2.1 n₀ hn).os, (h1.2.1 n₀ hn).tape, (h1.2.1 n₀ hn).output, (h1.2.1 n₀ hn).size, (h1.2.1 n₀ hn).block⟩, h1.2.2.1, h1.2.2.2⟩
theorem found_none {l : List Cl} {th : Int} (h : ∀ y ∈ List.range l.length, (at_ l y).1 ≠ th) : found l th = .tuple #[.int .i64 (-1), .agg #[.int .i64 0, .bool false, .bool false]] := by
  have hp : place l th = none := by
    cases hc : place l th with
    | none => rfl
    | some i =>
      obtain ⟨hi, h1, _⟩ := place_some.1 hc
      exact absurd (by rw [at_get l hi]; exact h1) (h i (List.mem_range.2 hi))
  unfold found
  rw [hp]
theorem found_some {l : List Cl} {th : Int} {k last : Nat} {ini : List Nat} (hk : k ≤ l.length) (e : List.range k = ini ++ [last]) (h : ∀ y ∈ ini, (at_ l y).1 ≠ th) (h2 : (at_ l last).1 = th) : found l th = .tuple #[.int .i64 (last : Int), told l last] := by
  obtain ⟨k', rfl⟩ : ∃ k', k = k' + 1 := by
    cases k with
    | zero => simp at e
    | succ k' => exact ⟨k', rfl⟩
  rw [List.range_succ] at e
  obtain ⟨rfl, e5⟩ := List.append_inj' e rfl
  obtain rfl : k' = last := by simpa using e5
  have hp : place l th = some k' := place_some.2 ⟨by omega, by rw [← at_get l (by omega)]; exact h2, fun j hj => by rw [← at_get l (by omega)]; exact h j (List.mem_range.2 hj)⟩
  unfold found
  rw [hp]

/-- what a round of find leaves -/
def FI (w : World) (l : List Cl) (th : Int) (pre : List Nat) (W : World) : Prop :=
  ((∀ y ∈ pre, (at_ l y).1 ≠ th) ∧ w.heap.size + 5 ≤ W.heap.size ∧ W.heap[w.heap.size]? = some (.cells #[.int .i64 th] 3 (0, 0)) ∧ W.heap[w.heap.size + 1]? = some (.cells #[.int .i64 0] 3 (0, 0)) ∧
    W.heap[w.heap.size + 2]? = some (.cells #[.int .i64 0, .bool false, .bool false] 39 (0, 0))) ∧ Below w.heap.size w W
def FX (w : World) (l : List Cl) (th : Int) (c : Code) (pre : List Nat) (W : World) : Prop :=
  (c = .ret ∧ ∃ ini last, pre = ini ++ [last] ∧ (∀ y ∈ ini, (at_ l y).1 ≠ th) ∧ (at_ l last).1 = th ∧ W.heap[w.heap.size + 1]? = some (.cells #[.int .i64 (last : Int)] 3 (0, 0)) ∧
    W.heap[w.heap.size + 2]? = some (.cells #[.int .i64 (at_ l last).1, .bool (at_ l last).2, .bool (holdsAt l last)] 39 (0, 0))) ∧ Below w.heap.size w W
def FA (w : World) (l : List Cl) (tv : Option Addr) (th key : Int) (x : Nat) (a' : Act) (W : World) : Prop :=
  ∃ Bx, w.heap.size + 5 ≤ Bx ∧ W.heap[Bx]? = some (.cells #[.int .i64 (at_ l x).1, .bool (at_ l x).2, .bool (holdsAt l x)] 39 (0, 0)) ∧
    a' = { tmps := #[.pointer tv, .int .i64 th, .int .i64 key, undef, .pointer (some ⟨w.heap.size, 0, none⟩), undef, .pointer (some ⟨w.heap.size + 1, 0, none⟩), .pointer (some ⟨w.heap.size + 2, 0, none⟩), .int .i64 (x : Int), .pointer (some ⟨Bx, 0, none⟩), .pointer tv, .int .i64 key,
      .func (.func 28) #[] #[.pointer (some ⟨w.heap.size + 3, 0, none⟩), .pointer (some ⟨w.heap.size + 4, 0, none⟩)], .int .i64 (x : Int), .agg #[.int .i64 (at_ l x).1, .bool (at_ l x).2, .bool (holdsAt l x)], undef, undef, undef, undef, undef, undef, undef], defers := [] }

set_option maxRecDepth 100000 in
set_option maxHeartbeats 2000000 in
theorem find_in (tv : Option Addr) (th key : Int) (l : List Cl) (w : World) (hs : Src w tv key l) :
    CallsIn Fence.wide 5 Try.prog 24 #[.pointer tv, .int .i64 th, .int .i64 key] w fun e w' => e = .returned (found l th) ∧ Below w.heap.size w w' := by
  obtain ⟨hsz, hbl, q0, q1, q2, q3, q4⟩ := lay5_is w tv th key
  have HST := Lib.hid (row_stops 4 (by omega) (w.heap.size + 3) (w.heap.size + 4) tv key l w (lay5 w tv th key) hbl hs (by omega) (by omega) q3 q4)
  have H0 : Hid (FI w l th [] (lay5 w tv th key)) := ⟨⟨by simp, by omega, q0, q1, q2⟩, hbl⟩
  have HSZ := Lib.hid hsz
  clear hs hsz hbl q0 q1 q2 q3 q4
  refine callsIn_of_wp_marks Try.func24 rfl trivial ?_ rfl
  simp only [Try.ntmps24, List.size_toArray, List.length_cons, List.length_nil, Nat.reduceAdd, Nat.reduceSub, Array.replicate_succ, Array.replicate_zero, List.push_toArray, List.append_toArray, List.nil_append, List.cons_append]
  gi_wp2_with (refine ⟨trivial, ?_⟩; gi_at_call 27; refine (row_in _ _ _ _).mono ?_; rintro e w' ⟨rfl, rfl⟩)
  simp only [Nat.add_assoc, Nat.reduceAdd]
  rw [show ((((w.alloc (.cells #[.int .i64 th] 3)).alloc (.cells #[.int .i64 0] 3)).alloc (.cells #[.int .i64 0, .bool false, .bool false] 39)).alloc (.cells #[.pointer tv] 24)).alloc (.cells #[.int .i64 key] 3) = lay5 w tv th key from rfl]
  generalize hW0 : lay5 w tv th key = W0 at *
  have hsz := HSZ.out
  refine wpIn_rangeFunc_ownH rfl (by omega) (gf := 28) (lb := #[.pointer (some ⟨w.heap.size + 3, 0, none⟩), .pointer (some ⟨w.heap.size + 4, 0, none⟩)]) rfl trivial (enters_of Try.func28 (by kernel_rfl) rfl)
    HST.out belowK_t (belowK_b (by omega)) (Below.refl _ _) (fun _ => rfl) (FI w l th) (FX w l th) ?hI ?hIx H0.out (FA w l tv th key) ?hAx ?assign ?body ?done ?stop
  case hI => exact OwnFrom.and (Own.from (fun s A B row hs hg hr => ⟨hs.1, Nat.le_trans hs.2.1 hg.size, cells_own hs.2.2.1 hg hr, cells_own hs.2.2.2.1 hg hr, cells_own hs.2.2.2.2 hg hr⟩) _) (ownFrom_below (Nat.le_refl _) (by omega))
  case hIx =>
    intro c
    refine OwnFrom.and (Own.from (fun s A B row hs hg hr => ?_) _) (ownFrom_below (Nat.le_refl _) (by omega))
    obtain ⟨hc, ini, last, e1, e2, e3, e4, e5⟩ := hs
    exact ⟨hc, ini, last, e1, e2, e3, cells_own e4 hg hr, cells_own e5 hg hr⟩
  case hAx =>
    intro x a'
    refine Own.from (fun s A B row hs hg hr => ?_) _
    obtain ⟨Bx, e1, e2, e3⟩ := hs
    exact ⟨Bx, e1, cells_own e2 hg hr, e3⟩
  case assign =>
    intro lo pre x W K hi hK
    simp only [args, told]
    gi_wp2
    have hn := row_new W (.cells #[.int .i64 (at_ l x).1, .bool (at_ l x).2, .bool (holdsAt l x)] 39)
    obtain ⟨⟨hp, hsW, b0, b1, b2⟩, hB⟩ := hi
    exact hK _ _ ((KeepsOthers.alloc _ _).from _) ((Below.refl _ W).alloc hB.size _) ⟨⟨hp, by simp; omega, row_alloc b0 _, row_alloc b1 _, row_alloc b2 _⟩, hB.alloc hB.size _⟩ ⟨W.heap.size, hsW, hn, rfl⟩
  case body =>
    rintro lo pre x a' W hlo - ⟨⟨hp, hsW, b0, b1, b2⟩, hB⟩ ⟨Bx, hBx, bX, rfl⟩ hlt
    have x0 : W.cell? ⟨Bx, 0, none⟩ = some (.int .i64 (at_ l x).1) := by rw [row_cell bX]; rfl
    have x1 : W.cell? ⟨Bx, 1, none⟩ = some (.bool (at_ l x).2) := by rw [row_cell bX]; rfl
    have x2 : W.cell? ⟨Bx, 2, none⟩ = some (.bool (holdsAt l x)) := by rw [row_cell bX]; rfl
    have y0 : W.cell? ⟨w.heap.size, 0, none⟩ = some (.int .i64 th) := by rw [row_cell b0]; rfl
    have y1 : W.cell? ⟨w.heap.size + 1, 0, none⟩ = some (.int .i64 0) := by rw [row_cell b1]; rfl
    have z0 : W.cell? ⟨w.heap.size + 2, 0, none⟩ = some (.int .i64 0) := by rw [row_cell b2]; rfl
    have z1 : W.cell? ⟨w.heap.size + 2, 1, none⟩ = some (.bool false) := by rw [row_cell b2]; rfl
    have z2 : W.cell? ⟨w.heap.size + 2, 2, none⟩ = some (.bool false) := by rw [row_cell b2]; rfl
    have f1 : ∀ i, W.frozen? ⟨w.heap.size + 1, i, none⟩ = false := row_free b1
    have f2 : ∀ i, W.frozen? ⟨w.heap.size + 2, i, none⟩ = false := row_free b2
    have HB1 := Lib.hid b1
    have HB2 := Lib.hid b2
    have HB0 := Lib.hid b0
    have HBX := Lib.hid bX
    have HBB := Lib.hid hB
    clear b0 b1 b2 bX hB
    cases hc : (at_ l x).1 == th
    · have hx : Hid ((at_ l x).1 ≠ th) := fun e => by rw [beq_eq_false_iff_ne] at hc; exact hc e
      gi_wp2
      exact ⟨KeepsFrom.refl _ _, Below.refl _ _, ⟨fun y hy => (List.mem_append.1 hy).elim (hp y) (fun e => by rw [List.mem_singleton.1 e]; exact hx.out), hsW, HB0.out, HB1.out, HB2.out⟩, HBB.out⟩
    · have hx := Lib.hid (beq_iff_eq.1 hc)
      have HSET := Lib.hid (set_drew W w.heap.size x (at_ l x) (holdsAt l x) HB1.out HB2.out)
      gi_wp2
      gi_region
      all_goals gi_wp2
      all_goals exact ⟨HSET.out.1.from _, ⟨rfl, pre, x, rfl, hp, hx.out, HSET.out.2.2.1, HSET.out.2.2.2⟩, HBB.out.trans (HSET.out.2.1 _ (Nat.le_succ _))⟩
  case done =>
    rintro D ys W hD rfl ⟨⟨hp, hsW, b0, b1, b2⟩, hB⟩ hK
    have y1 : W.cell? ⟨w.heap.size + 1, 0, none⟩ = some (.int .i64 0) := by rw [row_cell b1]; rfl
    have z0 : W.cell? ⟨w.heap.size + 2, 0, none⟩ = some (.int .i64 0) := by rw [row_cell b2]; rfl
    have z1 : W.cell? ⟨w.heap.size + 2, 1, none⟩ = some (.bool false) := by rw [row_cell b2]; rfl
    have z2 : W.cell? ⟨w.heap.size + 2, 2, none⟩ = some (.bool false) := by rw [row_cell b2]; rfl
    have f1 : ∀ i, W.frozen? ⟨w.heap.size + 1, i, none⟩ = false := row_free b1
    have f2 : ∀ i, W.frozen? ⟨w.heap.size + 2, i, none⟩ = false := row_free b2
    have HSET := Lib.hid (set_both W w.heap.size (-1) (0, false) false b1 b2)
    clear b0 b1 b2
    gi_wp2
    have hK' := HSET.out.1.same D _ hK rfl
    have hb := HSET.out.2.1 _ (Nat.le_succ _)
    have c1 := cells_own HSET.out.2.2.1 (grownBy_putObj' _ D (.deferred none)) (fun r e => by cases e; exact ⟨_, hK', rfl⟩)
    have c2 := cells_own HSET.out.2.2.2 (grownBy_putObj' _ D (.deferred none)) (fun r e => by cases e; exact ⟨_, hK', rfl⟩)
    refine ⟨by simp, .inl ⟨_, _, rfl, run_takeDeferred hK', ?_⟩⟩
    refine ⟨.tuple #[.int .i64 (-1), .agg #[.int .i64 0, .bool false, .bool false]], ?_, by rw [found_none hp], (hB.trans hb).trans (belowK_b (w := w) (Nat.le_refl _) _ D _ _ (by omega) hK' rfl rfl)⟩
    have d1 := row_cell c1 0
    have e0 := row_cell c2 0
    have e1 := row_cell c2 1
    have e2 := row_cell c2 2
    simp at d1 e0 e1 e2
    simp [results, Try.f24, go_sem, d1, e0, e1, e2]
  case stop =>
    rintro D c pre W hD ⟨k, hk, rfl⟩ ⟨⟨rfl, ini, last, e1, e2, e3, b1, b2⟩, hB⟩ hK
    have HF := Lib.hid (found_some hk e1 e2 e3)
    have HB1 := Lib.hid b1
    have HB2 := Lib.hid b2
    clear b1 b2 e1 e2 e3
    gi_wp2
    have c1 := cells_own HB1.out (grownBy_putObj' _ D (.deferred none)) (fun r e => by cases e; exact ⟨_, hK, rfl⟩)
    have c2 := cells_own HB2.out (grownBy_putObj' _ D (.deferred none)) (fun r e => by cases e; exact ⟨_, hK, rfl⟩)
    refine ⟨by simp, .inl ⟨_, _, rfl, run_takeDeferred hK, ?_⟩⟩
    refine ⟨.tuple #[.int .i64 (last : Int), told l last], ?_, by rw [HF.out], hB.trans (belowK_b (w := w) (Nat.le_refl _) _ D _ _ (by omega) hK rfl rfl)⟩
    have d1 := row_cell c1 0
    have e0 := row_cell c2 0
    have e1 := row_cell c2 1
    have e2 := row_cell c2 2
    simp at d1 e0 e1 e2
    simp [results, Try.f24, go_sem, d1, e0, e1, e2, told]

/-- find, as all others call it -/
theorem find_any (tv : Option Addr) (th key : Int) (l : List Cl) (w : World) (hs : Src w tv key l) :
    Calls Try.prog 24 #[.pointer tv, .int .i64 th, .int .i64 key] w fun e w' => e = .returned (found l th) ∧ Below w.heap.size w w' :=
  callsIn_wide.1 (find_in tv th key l w hs)
end Go.Proofs.Ytfaahhipddlmgaa.KFind
