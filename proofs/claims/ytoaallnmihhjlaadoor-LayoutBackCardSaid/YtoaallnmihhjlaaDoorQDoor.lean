/- A list of groups that comes in: a slice of structs of three numbers. -/
import Derived.Test.YtoaallnmihhjlaaDoorSDoor
import Derived.Test.YtoaallnmihhjlaaDoorQMem
import Derived.Deep.Slices
import Derived.Deep.Fields
import Derived.Deep.Grids
import Derived.ChangeSame
import Derived.ProofKit
import Derived.OpenShut
import Derived.SizedLaws
namespace Go.Proofs.YtoaallnmihhjlaaDoor.QDoor
open Go.ChangeShapes Go.WideShapes Go.ChangeAt Go.RowKit Go.Deep WMem RowEnd GArgs Door QPlain QMem

section
variable {H : Type} {enc : TypeId × Value → H} {P : Program} {w : World} {base : Nat} {spare : Nat → Bool} {held : Bool}
theorem open_slice_fields {t e : TypeId} {fs : Array Field} {fuel : Nat} {cs : List Value} {x : DataW H × List MemPlace} (ht : P.underlying t = some (.slice e)) (he : P.underlying e = some (.struct fs))
    (hone : oneCellFields P fs = true) (hC : P.cellsOf e = fs.size) (h : DataW.trod enc P w base spare held fuel t cs = some x) :
    (cs = [.slice none 0 0] ∧ x = (.nil, [])) ∨
    ∃ (a : Addr) (len cap m : Nat) (D : Nat → DataW H) (Pl : Nat → List MemPlace), cs = [.slice (some a) len cap] ∧ base ≤ a.block ∧ len ≤ cap ∧ cap ≤ maxLen ∧ m = (if spare a.block then cap else len) ∧
      x = (.slice ((List.range len).map D) ((List.range (m - len)).map fun j => D (len + j)), MemPlace.row a (m * fs.size) ++ (List.range m).flatMap Pl) ∧
      ∀ i, i < m → ∃ (ys : List (DataW H × List MemPlace)) (n : Nat), D i = .agg (ys.map (·.1)) ∧ Pl i = ys.flatMap (·.2) ∧ ys.length = fs.size ∧
        ∀ (j : Nat) (f : Field), fs[j]? = some f → ∃ (v : Value) (y : DataW H × List MemPlace), w.cell? (a.add (i * fs.size + j)) = some v ∧ ys[j]? = some y ∧ DataW.trod enc P w base spare held n f.type [v] = some y := by
  rcases open_slice ht h with h0 | ⟨a, len, cap, m, n, D, Pl, hcs, hb, hl, hm, hmm, hx, hi⟩
  · exact .inl h0
  · refine .inr ⟨a, len, cap, m, D, Pl, hcs, hb, hl, hm, hmm, by rw [hC] at hx; exact hx, fun i him => ?_⟩
    obtain ⟨cs', hc, ht'⟩ := hi i him
    rw [hC] at hc
    obtain ⟨ys, n', hn', hy, hlen, hyl, hf⟩ := DataW.trod_struct he ht'
    obtain ⟨_, hcl, hat⟩ := World.cells?_some hc
    simp only [Prod.mk.injEq] at hy
    refine ⟨ys, n', hy.1, hy.2, hyl, fun j f hj => ?_⟩
    obtain ⟨ho, hk⟩ := hone_of hone j f hj
    have hjl : j < fs.size := (Array.getElem?_eq_some_iff.1 hj).1
    have hcell := hat j hjl
    have hv : cs'[j]? = some (cs'[j]'(by omega)) := List.getElem?_eq_getElem (by omega)
    have h1 := hf j f hj
    rw [ho, hk] at h1
    have hone' : (cs'.drop j).take 1 = [cs'[j]'(by omega)] := by
      rw [List.drop_eq_getElem_cons (by omega)]
      rfl
    rw [hone'] at h1
    have hys : ys[j]? = some (ys[j]'(by omega)) := List.getElem?_eq_getElem (by omega)
    refine ⟨_, _, ?_, hys, h1.trans hys⟩
    rw [← Go.Deep.add_add, hcell, hv]

end
theorem cgrp : Tryd.prog.cellsOf 67 = 3 := by kernel_rfl
theorem bgrp24 : Tryd.prog.bytesOf 67 = 24 := by kernel_rfl
theorem bgrp : 1 ≤ Tryd.prog.bytesOf 67 := by rw [bgrp24]; decide
instance : Inhabited Grp := ⟨⟨0, 0, 0⟩⟩
theorem ugrps : Tryd.prog.underlying 35 = some (.slice 67) := by kernel_rfl
theorem ugrp : ∃ f0 f1 f2, Tryd.prog.underlying 67 = some (.struct #[f0, f1, f2]) ∧ oneCellFields Tryd.prog #[f0, f1, f2] = true ∧ f0.type = 3 ∧ f1.type = 3 ∧ f2.type = 3 :=
  ⟨_, _, _, Tryd.underlying67, by kernel_rfl, rfl, rfl, rfl⟩
section
variable {H : Type} {enc : TypeId × Value → H} {w : World} {base : Nat} {held : Bool}
theorem grps_open {fuel : Nat} {v : Value} {x : DataW H × List MemPlace} (h : DataW.trod enc Tryd.prog w base (fun _ => true) held fuel 35 [v] = some x) :
    ∃ (A : Option Addr) (l : List Grp) (c : Nat), v = .slice A l.length c ∧ Grps w w.heap.size A l ∧ (l.length = 0 ∨ ∃ es sp, x.1 = .slice es sp ∧ l.length = es.length) := by
  obtain ⟨f0, f1, f2, he, hone, e0, e1, e2⟩ := ugrp
  have t0 : Tryd.prog.underlying f0.type = some (.int .i64) := by rw [e0]; exact i64t
  have t1 : Tryd.prog.underlying f1.type = some (.int .i64) := by rw [e1]; exact i64t
  have t2 : Tryd.prog.underlying f2.type = some (.int .i64) := by rw [e2]; exact i64t
  rcases open_slice_fields ugrps he hone cgrp h with ⟨hcs, hx⟩ | ⟨a, len, cap, m, D, Pl, hcs, _, hl, _, hmm, hx, hi⟩
  · obtain rfl : v = .slice none 0 0 := by simpa using hcs
    exact ⟨none, [], 0, rfl, (fun i hi => (by cases hi)), .inl rfl⟩
  · obtain rfl : v = .slice (some a) len cap := by simpa using hcs
    simp only [if_true] at hmm
    subst hmm
    obtain ⟨B, hB⟩ := choose_lt (α := Grp) (n := len) (p := fun i o => w.cell? (a.add (i * 3)) = some (.int .i64 o.fb) ∧ w.cell? (a.add (i * 3 + 1)) = some (.int .i64 o.fi) ∧ w.cell? (a.add (i * 3 + 2)) = some (.int .i64 o.dirs)) (fun i hil => by
      obtain ⟨ys, n, _, _, _, hf⟩ := hi i (by omega)
      obtain ⟨v0, y0, c0, _, g0⟩ := hf 0 f0 rfl
      obtain ⟨v1, y1, c1, _, g1⟩ := hf 1 f1 rfl
      obtain ⟨v2, y2, c2, _, g2⟩ := hf 2 f2 rfl
      obtain ⟨n0, rfl, _⟩ := int_of t0 g0
      obtain ⟨n1, rfl, _⟩ := int_of t1 g1
      obtain ⟨n2, rfl, _⟩ := int_of t2 g2
      exact ⟨⟨n0, n1, n2⟩, c0, c1, c2⟩)
    refine ⟨some a, (List.range len).map B, m, by simp, (fun i hi' => ?_), .inr ⟨_, _, by rw [hx], by simp⟩⟩
    have hil : i < len := by simpa using hi'
    obtain ⟨c0, c1, c2⟩ := hB i hil
    have hbk := World.block_lt_of_cell? w _ c0
    rw [addr_add_block] at hbk
    have e : ((List.range len).map B)[i] = B i := by simp
    rw [e]
    exact ⟨a, rfl, hbk, c0, c1, c2⟩
set_option maxRecDepth 100000 in
theorem arg_grps {b0 : Nat} {v : Value} {d : DataW H} {p : List MemPlace} (hv : Value.okWide Tryd.prog w .any b0 35 v) (h : DataW.Trod enc Tryd.prog w 0 (fun _ => true) true 35 v d p)
    {ts : List TypeId} {ds : List (DataW H)} {j : Nat} (hsz : (DataW.weightsEach Tryd.prog ts ds).all (· ≤ reachBytes) = true) (htj : ts[j]? = some 35) (hdj : ds[j]? = some d) :
    ∃ (A : Option Addr) (l : List Grp) (c : Nat), v = .slice A l.length c ∧ Grps w w.heap.size A l ∧ l.length ≤ 140737488355328 := by
  obtain ⟨a0, len, cap, rfl⟩ := okWide_slice ugrps hv
  obtain ⟨fuel, hf⟩ := h
  obtain ⟨A, l, c, h1, h2, h3⟩ := grps_open (x := (d, p)) (fuel := fuel) (by rw [show (Value.slice a0 len cap).cells.toList = [Value.slice a0 len cap] from rfl] at hf; exact hf)
  refine ⟨A, l, c, h1, h2, ?_⟩
  rcases h3 with h3 | ⟨es, sp, h3, h4⟩
  · omega
  · have h3' : d = .slice es sp := h3
    subst h3'
    have hs := sized_slice hsz htj hdj ugrps
    have hr : reachBytes = 140737488351232 := by decide
    rw [hr] at hs
    have h5 : (es.length + sp.length) * 1 ≤ (es.length + sp.length) * Tryd.prog.bytesOf 67 := Nat.mul_le_mul_left _ bgrp
    omega
end
end Go.Proofs.YtoaallnmihhjlaaDoor.QDoor
