/- Rows of operations that come in: a slice of slices of operations. -/
import Derived.Test.YtmlgchmladkfpaaGreatDoorMg44
import Derived.Test.YtmlgchmladkfpaaGreatDoorMg20
import Derived.Test.YtmlgchmladkfpaaGreatDoorMg47
namespace Go.Proofs.YtmlgchmladkfpaaGreatDoor.NDoor
open Go.ChangeShapes Go.WideShapes Go.ChangeAt Go.RowKit Go.Deep WMem Map EScript EArgs NScript RowEnd Args Door

section
variable {H : Type} {enc : TypeId × Value → H} {P : Program} {w : World} {base : Nat} {held : Bool}
theorem ops_of2 {t e : TypeId} {f0 f1 f2 : Field} {fuel : Nat} {v : Value} {x : DataW H × List MemPlace} (ht : P.underlying t = some (.slice e)) (he : P.underlying e = some (.struct #[f0, f1, f2]))
    (hone : oneCellFields P #[f0, f1, f2] = true) (hC : P.cellsOf e = 3) (t0 : P.underlying f0.type = some (.int .i64)) (t1 : P.underlying f1.type = some (.int .i64)) (t2 : P.underlying f2.type = some (.int .i64))
    (h : DataW.trod enc P w base (fun _ => true) held fuel t [v] = some x) :
    ∃ (A : Option Addr) (ops : List OpV) (c : Nat), v = .slice A ops.length c ∧ OpsIn w w.heap.size A ops ∧ ops.length ≤ c ∧ ops.length ≤ 9223372036854775807 ∧ HasLen x.1 ops.length := by
  have hmx : maxLen ≤ 9223372036854775807 := by decide
  rcases open_slice_fields ht he hone hC h with ⟨hcs, hx⟩ | ⟨a, len, cap, m, D, Pl, hcs, _, hl, hml, hmm, hx, hi⟩
  · obtain rfl : v = .slice none 0 0 := by simpa using hcs
    exact ⟨none, [], 0, rfl, (fun i hi => (by cases hi)), Nat.le_refl _, Nat.zero_le _, .inl rfl⟩
  · obtain rfl : v = .slice (some a) len cap := by simpa using hcs
    simp only [if_true] at hmm
    subst hmm
    obtain ⟨B, hB⟩ := choose_lt (α := OpV) (n := len) (p := fun i o => w.cell? (a.add (i * 3)) = some (.int .i64 o.what) ∧ w.cell? (a.add (i * 3 + 1)) = some (.int .i64 o.block) ∧ w.cell? (a.add (i * 3 + 2)) = some (.int .i64 o.fill) ∧ Fits o.block) (fun i hil => by
      obtain ⟨ys, n, _, _, _, hf⟩ := hi i (by omega)
      obtain ⟨v0, y0, c0, _, g0⟩ := hf 0 f0 rfl
      obtain ⟨v1, y1, c1, _, g1⟩ := hf 1 f1 rfl
      obtain ⟨v2, y2, c2, _, g2⟩ := hf 2 f2 rfl
      obtain ⟨n0, e0, _⟩ := DataW.trod_int t0 g0
      obtain ⟨n1, e1, _, w1⟩ := DataW.trod_int t1 g1
      obtain ⟨n2, e2, _⟩ := DataW.trod_int t2 g2
      obtain rfl : v0 = .int .i64 n0 := by simpa using e0
      obtain rfl : v1 = .int .i64 n1 := by simpa using e1
      obtain rfl : v2 = .int .i64 n2 := by simpa using e2
      exact ⟨⟨n0, n1, n2⟩, c0, c1, c2, fits_of w1⟩)
    refine ⟨some a, (List.range len).map B, m, by simp, (fun i hi' => ?_), by simpa using hl, by simp; omega, .inr ⟨_, _, by rw [hx], by simp⟩⟩
    have hil : i < len := by simpa using hi'
    obtain ⟨c0, c1, c2, hk⟩ := hB i hil
    have hbk := World.block_lt_of_cell? w _ c0
    rw [addr_add_block] at hbk
    have e : ((List.range len).map B)[i] = B i := by simp
    rw [e]
    exact ⟨a, rfl, hbk, c0, c1, c2, hk⟩
theorem rows_of {tt t e : TypeId} {f0 f1 f2 : Field} {fuel : Nat} {v : Value} {x : DataW H × List MemPlace} (htt : P.underlying tt = some (.slice t)) (hct : P.cellsOf t = 1) (ht : P.underlying t = some (.slice e)) (he : P.underlying e = some (.struct #[f0, f1, f2]))
    (hone : oneCellFields P #[f0, f1, f2] = true) (hC : P.cellsOf e = 3) (t0 : P.underlying f0.type = some (.int .i64)) (t1 : P.underlying f1.type = some (.int .i64)) (t2 : P.underlying f2.type = some (.int .i64))
    (h : DataW.trod enc P w base (fun _ => true) held fuel tt [v] = some x) :
    ∃ (A : Option Addr) (ll : List (List OpV)) (c : Nat), v = .slice A ll.length c ∧ OpsIn2 w w.heap.size A ll ∧ ll.length ≤ 9223372036854775807 ∧ (∀ (i : Nat) (hi : i < ll.length), ll[i].length ≤ 9223372036854775807) ∧
      (ll = [] ∨ ∃ es sp, x.1 = .slice es sp ∧ es.length = ll.length ∧ ∀ (i : Nat) (h1 : i < es.length) (h2 : i < ll.length), HasLen es[i] ll[i].length) := by
  have hmx : maxLen ≤ 9223372036854775807 := by decide
  rcases open_slice htt h with ⟨hcs, hx⟩ | ⟨a, len, cap, m, n, D, Pl, hcs, _, hl, hml, hmm, hx, hi⟩
  · obtain rfl : v = .slice none 0 0 := by simpa using hcs
    exact ⟨none, [], 0, rfl, (fun i hi => (by cases hi)), Nat.zero_le _, (fun i hi => (by cases hi)), .inl rfl⟩
  · obtain rfl : v = .slice (some a) len cap := by simpa using hcs
    simp only [if_true] at hmm
    subst hmm
    obtain ⟨B, hB⟩ := choose_lt (α := List OpV) (n := len) (p := fun i l => ∃ Ai ci, w.cell? (a.add i) = some (.slice Ai l.length ci) ∧ OpsIn w w.heap.size Ai l ∧ l.length ≤ ci ∧ l.length ≤ 9223372036854775807 ∧ HasLen (D i) l.length) (fun i hil => by
      obtain ⟨cs', hc, ht'⟩ := hi i (by omega)
      rw [hct, Nat.mul_one] at hc
      obtain ⟨_, hcl, hat⟩ := World.cells?_some hc
      obtain ⟨v', rfl⟩ : ∃ v', cs' = [v'] := by
        match cs', hcl with
        | [v'], _ => exact ⟨v', rfl⟩
      have hcell := hat 0 (by decide)
      obtain ⟨A, l, c, rfl, h1, h2, h3, h4⟩ := ops_of2 ht he hone hC t0 t1 t2 ht'
      exact ⟨l, A, c, (by have h0 := hcell; rw [show (a.add i).add 0 = a.add i by rw [Go.Deep.add_add]; congr 1] at h0; simpa using h0), h1, h2, h3, h4⟩)
    refine ⟨some a, (List.range len).map B, m, by simp, (fun i hi' => ?_), by simp; omega, (fun i hi' => ?_), .inr ⟨_, _, by rw [hx], by simp, fun i h1 h2 => ?_⟩⟩
    · have hil : i < len := by simpa using hi'
      obtain ⟨Ai, ci, g1, g2, g3, g4, g5⟩ := hB i hil
      have hbk := World.block_lt_of_cell? w _ g1
      rw [addr_add_block] at hbk
      have e : ((List.range len).map B)[i] = B i := by simp
      rw [e]
      exact ⟨a, Ai, ci, rfl, hbk, g1, g2, g3⟩
    · have hil : i < len := by simpa using hi'
      obtain ⟨Ai, ci, g1, g2, g3, g4, g5⟩ := hB i hil
      have e : ((List.range len).map B)[i] = B i := by simp
      rw [e]
      exact g4
    · have hil : i < len := by simpa using h2
      obtain ⟨Ai, ci, g1, g2, g3, g4, g5⟩ := hB i hil
      simpa using g5
end
theorem opst2 : Tryz.prog.underlying 22 = some (.slice 39) := by kernel_rfl
theorem cops : Tryz.prog.cellsOf 39 = 1 := by kernel_rfl
theorem opst : Tryz.prog.underlying 39 = some (.slice 42) := by kernel_rfl
theorem cop : Tryz.prog.cellsOf 42 = 3 := by kernel_rfl
set_option maxRecDepth 100000 in
theorem uop : ∃ f0 f1 f2, Tryz.prog.underlying 42 = some (.struct #[f0, f1, f2]) ∧ oneCellFields Tryz.prog #[f0, f1, f2] = true ∧
    f0.type = 3 ∧ f1.type = 3 ∧ f2.type = 3 :=
  ⟨_, _, _, Tryz.underlying42, by kernel_rfl, rfl, rfl, rfl⟩
section
variable {H : Type} {enc : TypeId × Value → H}
set_option maxRecDepth 100000 in
theorem arg_ops2 {W : World} {b0 : Nat} {v : Value} {d : DataW H} {p : List MemPlace} (hv : Value.okWide Tryz.prog W .any b0 22 v) (h : DataW.Trod enc Tryz.prog W 0 (fun _ => true) true 22 v d p) :
    ∃ (A : Option Addr) (ll : List (List OpV)) (c : Nat), v = .slice A ll.length c ∧ OpsIn2 W W.heap.size A ll ∧ ll.length ≤ 9223372036854775807 ∧ (∀ (i : Nat) (hi : i < ll.length), ll[i].length ≤ 9223372036854775807) ∧
      (ll = [] ∨ ∃ es sp, d = .slice es sp ∧ es.length = ll.length ∧ ∀ (i : Nat) (h1 : i < es.length) (h2 : i < ll.length), HasLen es[i] ll[i].length) := by
  obtain ⟨f0, f1, f2, hu, hone, e0, e1, e2⟩ := uop
  obtain ⟨a0, len, cap, rfl⟩ := okWide_slice opst2 hv
  obtain ⟨fuel, hf⟩ := h
  exact rows_of (x := (d, p)) opst2 cops opst hu hone cop (by rw [e0]; exact i64t) (by rw [e1]; exact i64t) (by rw [e2]; exact i64t) (by simpa [Value.cells] using hf)
end
end Go.Proofs.YtmlgchmladkfpaaGreatDoor.NDoor
