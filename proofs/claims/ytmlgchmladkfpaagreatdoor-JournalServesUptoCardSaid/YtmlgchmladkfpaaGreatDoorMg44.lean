/- How a script that comes in is opened: a list of operations. -/
import Derived.Test.YtmlgchmladkfpaaGreatDoorMg20
import Derived.Deep.Slices
import Derived.Deep.Fields
import Derived.Deep.Grids
import Derived.ChangeSame
import Derived.ProofKit
import Derived.OpenShut
import Derived.SizedLaws
namespace Go.Proofs.YtmlgchmladkfpaaGreatDoor.EArgs
open Go.ChangeShapes Go.WideShapes Go.ChangeAt Go.RowKit Go.Deep WMem Map EScript

section
variable {H : Type} {enc : TypeId × Value → H} {P : Program} {w : World} {base : Nat} {spare : Nat → Bool} {held : Bool}
theorem open_slice_fields {t e : TypeId} {fs : Array Field} {fuel : Nat} {cs : List Value} {x : DataW H × List MemPlace} (ht : P.underlying t = some (.slice e)) (he : P.underlying e = some (.struct fs))
    (hone : oneCellFields P fs = true) (hC : P.cellsOf e = fs.size) (h : DataW.trod enc P w base spare held fuel t cs = some x) :
    (cs = [.slice none 0 0] ∧ x = (.nil, [])) ∨
    ∃ (a : Addr) (len cap m : Nat) (D : Nat → DataW H) (Pl : Nat → List MemPlace), cs = [.slice (some a) len cap] ∧ base ≤ a.block ∧ len ≤ cap ∧ cap ≤ maxLen ∧ m = (if spare a.block then cap else len) ∧
      x = (.slice ((List.range len).map D) ((List.range (m - len)).map fun j => D (len + j)), MemPlace.row a (m * fs.size) ++ (List.range m).flatMap Pl) ∧
      ∀ i, i < m → ∃ (ys : List (DataW H × List MemPlace)) (n : Nat), D i = .agg (ys.map (·.1)) ∧ Pl i = ys.flatMap (·.2) ∧ ys.length = fs.size ∧
        ∀ (j : Nat) (f : Field), fs[j]? = some f → ∃ (v : Value) (y : DataW H × List MemPlace), w.cell? (a.add (i * fs.size + j)) = some v ∧ ys[j]? = some y ∧ DataW.trod enc P w base spare held n f.type [v] = some y := by
  rcases open_slice ht h with h0 | ⟨a, len, cap, m, n, D, Pl, hcs, hb, hl, hm, hmm, hx, hi⟩
  · exact .inl h0
  · refine .inr ⟨a, len, cap, m, D, Pl, hcs, hb, hl, hm, hmm, by rw [hC] at hx; exact hx, fun i him => ?_⟩
    obtain ⟨cs', hc, ht'⟩ := hi i him
    rw [hC] at hc
    obtain ⟨ys, n', hn', hy, hlen, hyl, hf⟩ := DataW.trod_struct he ht'
    obtain ⟨_, hcl, hat⟩ := World.cells?_some hc
    simp only [Prod.mk.injEq] at hy
    refine ⟨ys, n', hy.1, hy.2, hyl, fun j f hj => ?_⟩
    obtain ⟨ho, hk⟩ := hone_of hone j f hj
    have hjl : j < fs.size := (Array.getElem?_eq_some_iff.1 hj).1
    have hcell := hat j hjl
    have hv : cs'[j]? = some (cs'[j]'(by omega)) := List.getElem?_eq_getElem (by omega)
    have h1 := hf j f hj
    rw [ho, hk] at h1
    have hone' : (cs'.drop j).take 1 = [cs'[j]'(by omega)] := by
      rw [List.drop_eq_getElem_cons (by omega)]
      rfl
    rw [hone'] at h1
    have hys : ys[j]? = some (ys[j]'(by omega)) := List.getElem?_eq_getElem (by omega)
    refine ⟨_, _, ?_, hys, h1.trans hys⟩
    rw [← Go.Deep.add_add, hcell, hv]

theorem fits_of {n : Int} (h : (Lit.int .i64 n).wf = true) : Fits n := by
  have hb := bounds_i64 h
  exact ⟨by omega, by omega⟩
/-- a script -/
theorem ops_of {t e : TypeId} {f0 f1 f2 : Field} {fuel : Nat} {v : Value} {x : DataW H × List MemPlace} (ht : P.underlying t = some (.slice e)) (he : P.underlying e = some (.struct #[f0, f1, f2]))
    (hone : oneCellFields P #[f0, f1, f2] = true) (hC : P.cellsOf e = 3) (t0 : P.underlying f0.type = some (.int .i64)) (t1 : P.underlying f1.type = some (.int .i64)) (t2 : P.underlying f2.type = some (.int .i64))
    (h : DataW.trod enc P w base (fun _ => true) held fuel t [v] = some x) :
    ∃ (A : Option Addr) (ops : List OpV) (c : Nat), v = .slice A ops.length c ∧ OpsIn w w.heap.size A ops ∧ (ops.length = 0 ∨ ∃ es sp, x.1 = .slice es sp ∧ ops.length = es.length) := by
  rcases open_slice_fields ht he hone hC h with ⟨hcs, hx⟩ | ⟨a, len, cap, m, D, Pl, hcs, _, hl, _, hmm, hx, hi⟩
  · obtain rfl : v = .slice none 0 0 := by simpa using hcs
    exact ⟨none, [], 0, rfl, (fun i hi => (by cases hi)), .inl rfl⟩
  · obtain rfl : v = .slice (some a) len cap := by simpa using hcs
    simp only [if_true] at hmm
    subst hmm
    obtain ⟨B, hB⟩ := choose_lt (α := OpV) (n := len) (p := fun i o => w.cell? (a.add (i * 3)) = some (.int .i64 o.what) ∧ w.cell? (a.add (i * 3 + 1)) = some (.int .i64 o.block) ∧ w.cell? (a.add (i * 3 + 2)) = some (.int .i64 o.fill) ∧ Fits o.block) (fun i hil => by
      obtain ⟨ys, n, _, _, _, hf⟩ := hi i (by omega)
      obtain ⟨v0, y0, c0, _, g0⟩ := hf 0 f0 rfl
      obtain ⟨v1, y1, c1, _, g1⟩ := hf 1 f1 rfl
      obtain ⟨v2, y2, c2, _, g2⟩ := hf 2 f2 rfl
      obtain ⟨n0, e0, _⟩ := DataW.trod_int t0 g0
      obtain ⟨n1, e1, _, w1⟩ := DataW.trod_int t1 g1
      obtain ⟨n2, e2, _⟩ := DataW.trod_int t2 g2
      obtain rfl : v0 = .int .i64 n0 := by simpa using e0
      obtain rfl : v1 = .int .i64 n1 := by simpa using e1
      obtain rfl : v2 = .int .i64 n2 := by simpa using e2
      exact ⟨⟨n0, n1, n2⟩, c0, c1, c2, fits_of w1⟩)
    refine ⟨some a, (List.range len).map B, m, by simp, (fun i hi' => ?_), .inr ⟨_, _, by rw [hx], by simp⟩⟩
    have hil : i < len := by simpa using hi'
    obtain ⟨c0, c1, c2, hk⟩ := hB i hil
    have hbk := World.block_lt_of_cell? w _ c0
    rw [addr_add_block] at hbk
    have e : ((List.range len).map B)[i] = B i := by simp
    rw [e]
    exact ⟨a, rfl, hbk, c0, c1, c2, hk⟩
theorem arg_ops {t e : TypeId} {f0 f1 f2 : Field} {b0 : Nat} (ht : P.underlying t = some (.slice e)) (he : P.underlying e = some (.struct #[f0, f1, f2]))
    (hone : oneCellFields P #[f0, f1, f2] = true) (hC : P.cellsOf e = 3) (t0 : P.underlying f0.type = some (.int .i64)) (t1 : P.underlying f1.type = some (.int .i64)) (t2 : P.underlying f2.type = some (.int .i64))
    (hby : 1 ≤ P.bytesOf e) {v : Value} {d : DataW H} {p : List MemPlace}
    (hv : Value.okWide P w .any b0 t v) (h : DataW.Trod enc P w 0 (fun _ => true) true t v d p)
    {ts : List TypeId} {ds : List (DataW H)} {j : Nat} (hsz : (DataW.weightsEach P ts ds).all (· ≤ reachBytes) = true) (htj : ts[j]? = some t) (hdj : ds[j]? = some d) :
    ∃ (A : Option Addr) (ops : List OpV) (c : Nat), v = .slice A ops.length c ∧ OpsIn w w.heap.size A ops ∧ ops.length ≤ 140737488355328 := by
  obtain ⟨a0, len, cap, rfl⟩ := okWide_slice ht hv
  obtain ⟨fuel, hf⟩ := h
  obtain ⟨A, ops, c, h1, h2, h3⟩ := ops_of (x := (d, p)) ht he hone hC t0 t1 t2 (by simpa [Value.cells] using hf)
  refine ⟨A, ops, c, h1, h2, ?_⟩
  rcases h3 with h3 | ⟨es, sp, h3, h4⟩
  · omega
  · have h3' : d = .slice es sp := h3
    subst h3'
    have hs := sized_slice hsz htj hdj ht
    have hr : reachBytes = 140737488351232 := by decide
    rw [hr] at hs
    have h5 : (es.length + sp.length) * 1 ≤ (es.length + sp.length) * P.bytesOf e := Nat.mul_le_mul_left _ hby
    omega
end
end Go.Proofs.YtmlgchmladkfpaaGreatDoor.EArgs
