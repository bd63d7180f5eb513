/- How a script that comes in is opened: a list of operations. -/
import Derived.Test.YtfaahhipddlmgaaKScript
import Derived.Deep.Slices
import Derived.Deep.Fields
import Derived.Deep.Grids
import Derived.ChangeSame
import Derived.ProofKit
import Derived.OpenShut
import Derived.SizedLaws
namespace Go.Proofs.Ytfaahhipddlmgaa.KArgs
open Go.ChangeShapes Go.WideShapes Go.ChangeAt Go.RowKit Go.Deep WMem KMap KScript

section
variable {H : Type} {enc : TypeId × Value → H} {P : Program} {w : World} {base : Nat} {spare : Nat → Bool} {held : Bool}
theorem open_slice_fields {t e : TypeId} {fs : Array Field} {fuel : Nat} {cs : List Value} {x : DataW H × List MemPlace} (ht : P.underlying t = some (.slice e)) (he : P.underlying e = some (.struct fs))
    (hone : oneCellFields P fs = true) (hC : P.cellsOf e = fs.size) (h : DataW.trod enc P w base spare held fuel t cs = some x) :
    (cs = [.slice none 0 0] ∧ x = (.nil, [])) ∨
    ∃ (a : Addr) (len cap m : Nat) (D : Nat → DataW H) (Pl : Nat → List MemPlace), cs = [.slice (some a) len cap] ∧ base ≤ a.block ∧ len ≤ cap ∧ cap ≤ maxLen ∧ m = (if spare a.block then cap else len) ∧
      x = (.slice ((List.range len).map D) ((List.range (m - len)).map fun j => D (len + j)), MemPlace.row a (m * fs.size) ++ (List.range m).flatMap Pl) ∧
      ∀ i, i < m → ∃ (ys : List (DataW H × List MemPlace)) (n : Nat), D i = .agg (ys.map (·.1)) ∧ Pl i = ys.flatMap (·.2) ∧ ys.length = fs.size ∧
        ∀ (j : Nat) (f : Field), fs[j]? = some f → ∃ (v : Value) (y : DataW H × List MemPlace), w.cell? (a.add (i * fs.size + j)) = some v ∧ ys[j]? = some y ∧ DataW.trod enc P w base spare held n f.type [v] = some y := by
  rcases open_slice ht h with h0 | ⟨a, len, cap, m, n, D, Pl, hcs, hb, hl, hm, hmm, hx, hi⟩
  · exact .inl h0
  · refine .inr ⟨a, len, cap, m, D, Pl, hcs, hb, hl, hm, hmm, by rw [hC] at hx; exact hx, fun i him => ?_⟩
    obtain ⟨cs', hc, ht'⟩ := hi i him
    rw [hC] at hc
    obtain ⟨ys, n', hn', hy, hlen, hyl, hf⟩ := DataW.trod_struct he ht'
    obtain ⟨_, hcl, hat⟩ := World.cells?_some hc
    simp only [Prod.mk.injEq] at hy
    refine ⟨ys, n', hy.1, hy.2, hyl, fun j f hj => ?_⟩
    obtain ⟨ho, hk⟩ := hone_of hone j f hj
    have hjl : j < fs.size := (Array.getElem?_eq_some_iff.1 hj).1
    have hcell := hat j hjl
    have hv : cs'[j]? = some (cs'[j]'(by omega)) := List.getElem?_eq_getElem (by omega)
    have h1 := hf j f hj
    rw [ho, hk] at h1
    have hone' : (cs'.drop j).take 1 = [cs'[j]'(by omega)] := by
      rw [List.drop_eq_getElem_cons (by omega)]
      rfl
    rw [hone'] at h1
    have hys : ys[j]? = some (ys[j]'(by omega)) := List.getElem?_eq_getElem (by omega)
    refine ⟨_, _, ?_, hys, h1.trans hys⟩
    rw [← Go.Deep.add_add, hcell, hv]

theorem fits_of {n : Int} (h : (Lit.int .i64 n).wf = true) : Fits n := by
  have hb := bounds_i64 h
  exact ⟨by omega, by omega⟩
/-- one operation by itself -/
theorem op_of {e : TypeId} {f0 f1 f2 f3 : Field} {fuel : Nat} {cs : List Value} {x : DataW H × List MemPlace} (he : P.underlying e = some (.struct #[f0, f1, f2, f3])) (hone : oneCellFields P #[f0, f1, f2, f3] = true)
    (t0 : P.underlying f0.type = some (.int .i64)) (t1 : P.underlying f1.type = some (.int .i64)) (t2 : P.underlying f2.type = some (.int .i64)) (t3 : P.underlying f3.type = some .bool) (hl : cs.length = 4)
    (h : DataW.trod enc P w base spare held fuel e cs = some x) : ∃ o : OpV, cs = [.int .i64 o.what, .int .i64 o.th, .int .i64 o.key, .bool o.al] ∧ Fits o.key := by
  obtain ⟨ys, n', hn', hy, hlen, hyl, hf⟩ := DataW.trod_struct he h
  have g : ∀ (j : Nat) (f : Field), (#[f0, f1, f2, f3] : Array Field)[j]? = some f → ∃ v y, cs[j]? = some v ∧ DataW.trod enc P w base spare held n' f.type [v] = some y := by
    intro j f hj
    obtain ⟨ho, hk⟩ := hone_of hone j f hj
    have hjl : j < 4 := (Array.getElem?_eq_some_iff.1 hj).1
    have h1 := hf j f hj
    rw [ho, hk] at h1
    have hone' : (cs.drop j).take 1 = [cs[j]'(by omega)] := by
      rw [List.drop_eq_getElem_cons (by omega)]
      rfl
    rw [hone'] at h1
    have hyl4 : ys.length = 4 := hyl
    have hys : ys[j]? = some (ys[j]'(by omega)) := List.getElem?_eq_getElem (by omega)
    exact ⟨_, _, List.getElem?_eq_getElem (by omega), h1.trans hys⟩
  obtain ⟨v0, y0, c0, g0⟩ := g 0 f0 rfl
  obtain ⟨v1, y1, c1, g1⟩ := g 1 f1 rfl
  obtain ⟨v2, y2, c2, g2⟩ := g 2 f2 rfl
  obtain ⟨v3, y3, c3, g3⟩ := g 3 f3 rfl
  obtain ⟨n0, e0, _⟩ := DataW.trod_int t0 g0
  obtain ⟨n1, e1, _⟩ := DataW.trod_int t1 g1
  obtain ⟨n2, e2, _, w2⟩ := DataW.trod_int t2 g2
  obtain ⟨n3, e3, _⟩ := DataW.trod_bool t3 g3
  obtain rfl : v0 = .int .i64 n0 := by simpa using e0
  obtain rfl : v1 = .int .i64 n1 := by simpa using e1
  obtain rfl : v2 = .int .i64 n2 := by simpa using e2
  obtain rfl : v3 = .bool n3 := by simpa using e3
  refine ⟨⟨n0, n1, n2, n3⟩, ?_, fits_of w2⟩
  match cs, hl with
  | [a, b, c, d], _ =>
    simp at c0 c1 c2 c3
    simp [c0, c1, c2, c3]

/-- a script -/
theorem ops_of {t e : TypeId} {f0 f1 f2 f3 : Field} {fuel : Nat} {v : Value} {x : DataW H × List MemPlace} (ht : P.underlying t = some (.slice e)) (he : P.underlying e = some (.struct #[f0, f1, f2, f3]))
    (hone : oneCellFields P #[f0, f1, f2, f3] = true) (hC : P.cellsOf e = 4) (t0 : P.underlying f0.type = some (.int .i64)) (t1 : P.underlying f1.type = some (.int .i64)) (t2 : P.underlying f2.type = some (.int .i64)) (t3 : P.underlying f3.type = some .bool)
    (h : DataW.trod enc P w base (fun _ => true) held fuel t [v] = some x) :
    ∃ (A : Option Addr) (ops : List OpV) (c : Nat), v = .slice A ops.length c ∧ OpsIn w w.heap.size A ops ∧ (ops.length = 0 ∨ ∃ es sp, x.1 = .slice es sp ∧ ops.length = es.length) := by
  rcases open_slice_fields ht he hone hC h with ⟨hcs, hx⟩ | ⟨a, len, cap, m, D, Pl, hcs, _, hl, _, hmm, hx, hi⟩
  · obtain rfl : v = .slice none 0 0 := by simpa using hcs
    exact ⟨none, [], 0, rfl, (fun i hi => (by cases hi)), .inl rfl⟩
  · obtain rfl : v = .slice (some a) len cap := by simpa using hcs
    simp only [if_true] at hmm
    subst hmm
    obtain ⟨B, hB⟩ := choose_lt (α := OpV) (n := len) (p := fun i o => w.cell? (a.add (i * 4)) = some (.int .i64 o.what) ∧ w.cell? (a.add (i * 4 + 1)) = some (.int .i64 o.th) ∧ w.cell? (a.add (i * 4 + 2)) = some (.int .i64 o.key) ∧
        w.cell? (a.add (i * 4 + 3)) = some (.bool o.al) ∧ Fits o.key) (fun i hil => by
      obtain ⟨ys, n, _, _, _, hf⟩ := hi i (by omega)
      obtain ⟨v0, y0, c0, _, g0⟩ := hf 0 f0 rfl
      obtain ⟨v1, y1, c1, _, g1⟩ := hf 1 f1 rfl
      obtain ⟨v2, y2, c2, _, g2⟩ := hf 2 f2 rfl
      obtain ⟨v3, y3, c3, _, g3⟩ := hf 3 f3 rfl
      obtain ⟨n0, e0, _⟩ := DataW.trod_int t0 g0
      obtain ⟨n1, e1, _⟩ := DataW.trod_int t1 g1
      obtain ⟨n2, e2, _, w2⟩ := DataW.trod_int t2 g2
      obtain ⟨n3, e3, _⟩ := DataW.trod_bool t3 g3
      obtain rfl : v0 = .int .i64 n0 := by simpa using e0
      obtain rfl : v1 = .int .i64 n1 := by simpa using e1
      obtain rfl : v2 = .int .i64 n2 := by simpa using e2
      obtain rfl : v3 = .bool n3 := by simpa using e3
      exact ⟨⟨n0, n1, n2, n3⟩, c0, c1, c2, c3, fits_of w2⟩)
    refine ⟨some a, (List.range len).map B, m, by simp, (fun i hi' => ?_), .inr ⟨_, _, by rw [hx], by simp⟩⟩
    have hil : i < len := by simpa using hi'
    obtain ⟨c0, c1, c2, c3, hk⟩ := hB i hil
    have hbk := World.block_lt_of_cell? w _ c0
    rw [addr_add_block] at hbk
    have e : ((List.range len).map B)[i] = B i := by simp
    rw [e]
    exact ⟨a, rfl, hbk, c0, c1, c2, c3, hk⟩
theorem arg_ops {t e : TypeId} {f0 f1 f2 f3 : Field} {b0 : Nat} (ht : P.underlying t = some (.slice e)) (he : P.underlying e = some (.struct #[f0, f1, f2, f3]))
    (hone : oneCellFields P #[f0, f1, f2, f3] = true) (hC : P.cellsOf e = 4) (t0 : P.underlying f0.type = some (.int .i64)) (t1 : P.underlying f1.type = some (.int .i64)) (t2 : P.underlying f2.type = some (.int .i64)) (t3 : P.underlying f3.type = some .bool)
    (hby : 1 ≤ P.bytesOf e) {v : Value} {d : DataW H} {p : List MemPlace}
    (hv : Value.okWide P w .any b0 t v) (h : DataW.Trod enc P w 0 (fun _ => true) true t v d p)
    {ts : List TypeId} {ds : List (DataW H)} {j : Nat} (hsz : (DataW.weightsEach P ts ds).all (· ≤ reachBytes) = true) (htj : ts[j]? = some t) (hdj : ds[j]? = some d) :
    ∃ (A : Option Addr) (ops : List OpV) (c : Nat), v = .slice A ops.length c ∧ OpsIn w w.heap.size A ops ∧ ops.length ≤ 140737488355328 := by
  obtain ⟨a0, len, cap, rfl⟩ := okWide_slice ht hv
  obtain ⟨fuel, hf⟩ := h
  obtain ⟨A, ops, c, h1, h2, h3⟩ := ops_of (x := (d, p)) ht he hone hC t0 t1 t2 t3 (by simpa [Value.cells] using hf)
  refine ⟨A, ops, c, h1, h2, ?_⟩
  rcases h3 with h3 | ⟨es, sp, h3, h4⟩
  · omega
  · have h3' : d = .slice es sp := h3
    subst h3'
    have hs := sized_slice hsz htj hdj ht
    have hr : reachBytes = 140737488351232 := by decide
    rw [hr] at hs
    have h5 : (es.length + sp.length) * 1 ≤ (es.length + sp.length) * P.bytesOf e := Nat.mul_le_mul_left _ hby
    omega
/-- a list of numbers -/
theorem ints_of {t e : TypeId} {fuel : Nat} {v : Value} {x : DataW H × List MemPlace} (ht : P.underlying t = some (.slice e)) (he : P.underlying e = some (.int .i64)) (hc : P.cellsOf e = 1)
    (h : DataW.trod enc P w base (fun _ => true) held fuel t [v] = some x) :
    ∃ (A : Option Addr) (zs : List Int) (c : Nat), v = .slice A zs.length c ∧ (∀ z ∈ zs, Fits z) ∧ Sl w w.heap.size A (zs.map i64v) ∧ (zs.length = 0 ∨ ∃ es sp, x.1 = .slice es sp ∧ zs.length = es.length) := by
  rcases open_ints ht he hc h with ⟨hcs, hx⟩ | ⟨a, len, cap, zs, hcs, _, hl, hm, hz, hx, hcell, hwz⟩
  · obtain rfl : v = .slice none 0 0 := by simpa using hcs
    exact ⟨none, [], 0, rfl, by simp, Sl.nil _ _ _, .inl rfl⟩
  · obtain rfl : v = .slice (some a) len cap := by simpa using hcs
    simp only [if_true] at hz
    have hlen : (zs.take len).length = len := by simp; omega
    refine ⟨some a, zs.take len, cap, by rw [hlen], fun n hn => ?_, ?_, .inr ⟨_, _, by rw [hx], by rw [hlen]; simp [lits]; omega⟩⟩
    · exact fits_of (hwz n (List.mem_of_mem_take hn))
    · intro k' u hu
      rw [List.getElem?_map, List.getElem?_take] at hu
      split at hu
      · rename_i hk
        have hk' : k' < zs.length := by omega
        rw [List.getElem?_eq_getElem hk'] at hu
        simp at hu
        subst hu
        have hc' := hcell k' hk'
        rw [List.getD_eq_getElem?_getD, List.getElem?_eq_getElem hk'] at hc'
        simp at hc'
        refine ⟨a, rfl, ?_, hc'⟩
        have := World.block_lt_of_cell? w _ hc'
        rwa [addr_add_block] at this
      · cases hu
theorem arg_ints {t e : TypeId} {b0 : Nat} (ht : P.underlying t = some (.slice e)) (he : P.underlying e = some (.int .i64)) (hc : P.cellsOf e = 1) (hby : 1 ≤ P.bytesOf e) {v : Value} {d : DataW H} {p : List MemPlace}
    (hv : Value.okWide P w .any b0 t v) (h : DataW.Trod enc P w 0 (fun _ => true) true t v d p)
    {ts : List TypeId} {ds : List (DataW H)} {j : Nat} (hsz : (DataW.weightsEach P ts ds).all (· ≤ reachBytes) = true) (htj : ts[j]? = some t) (hdj : ds[j]? = some d) :
    ∃ (A : Option Addr) (zs : List Int) (c : Nat), v = .slice A zs.length c ∧ (∀ z ∈ zs, Fits z) ∧ Sl w w.heap.size A (zs.map i64v) ∧ zs.length ≤ 140737488355328 := by
  obtain ⟨a0, len, cap, rfl⟩ := okWide_slice ht hv
  obtain ⟨fuel, hf⟩ := h
  obtain ⟨A, zs, c, h1, h2, h3, h4⟩ := ints_of (x := (d, p)) ht he hc (by simpa [Value.cells] using hf)
  refine ⟨A, zs, c, h1, h2, h3, ?_⟩
  rcases h4 with h4 | ⟨es, sp, h4, h5⟩
  · omega
  · have h4' : d = .slice es sp := h4
    subst h4'
    have hs := sized_slice hsz htj hdj ht
    have hr : reachBytes = 140737488351232 := by decide
    rw [hr] at hs
    have h6 : (es.length + sp.length) * 1 ≤ (es.length + sp.length) * P.bytesOf e := Nat.mul_le_mul_left _ hby
    omega
/-- rows of numbers -/
def Grid (w : World) (B : Nat) (A : Option Addr) (G : List (List Int)) : Prop :=
  ∀ (i : Nat) (hi : i < G.length), ∃ a A' c, A = some a ∧ a.block < B ∧ w.cell? (a.add i) = some (.slice A' G[i].length c) ∧ Sl w B A' (G[i].map i64v) ∧ (∀ z ∈ G[i], Fits z)
theorem Grid.below {w w' : World} {B B' : Nat} {A : Option Addr} {G : List (List Int)} (h : Grid w B A G) (hb : Below B' w w') (hB : B ≤ B') : Grid w' B A G := fun i hi => by
  obtain ⟨a, A', c, hA, hab, h1, h2, h3⟩ := h i hi
  exact ⟨a, A', c, hA, hab, (hb.cell (by rw [addr_add_block]; omega)).trans h1, h2.below_le hb hB, h3⟩
theorem grid_of {t te e : TypeId} {fuel : Nat} {v : Value} {x : DataW H × List MemPlace} (ht : P.underlying t = some (.slice te)) (hte : P.underlying te = some (.slice e)) (he : P.underlying e = some (.int .i64)) (hc : P.cellsOf e = 1) (hC : P.cellsOf te = 1)
    (h : DataW.trod enc P w base (fun _ => true) held fuel t [v] = some x) :
    ∃ (A : Option Addr) (G : List (List Int)) (c : Nat), v = .slice A G.length c ∧ Grid w w.heap.size A G ∧ (G.length = 0 ∨ ∃ es sp, x.1 = .slice es sp ∧ G.length = es.length) := by
  rcases open_slice ht h with ⟨hcs, hx⟩ | ⟨a, len, cap, m, n, D, Pl, hcs, _, hl, _, hmm, hx, hi⟩
  · obtain rfl : v = .slice none 0 0 := by simpa using hcs
    exact ⟨none, [], 0, rfl, (fun i hi => (by cases hi)), .inl rfl⟩
  · obtain rfl : v = .slice (some a) len cap := by simpa using hcs
    simp only [if_true] at hmm
    subst hmm
    obtain ⟨B, hB⟩ := choose_lt (α := List Int) (n := len) (p := fun i zs => ∃ A' c, w.cell? (a.add i) = some (.slice A' zs.length c) ∧ Sl w w.heap.size A' (zs.map i64v) ∧ (∀ z ∈ zs, Fits z)) (fun i hil => by
      obtain ⟨cs', hc', ht'⟩ := hi i (by omega)
      rw [hC] at hc'
      obtain ⟨_, hcl, hat⟩ := World.cells?_some hc'
      have hcell := hat 0 (by omega)
      obtain ⟨v', rfl⟩ : ∃ v', cs' = [v'] := List.length_eq_one_iff.1 (by omega)
      obtain ⟨A', zs, c, rfl, h2, h3, _⟩ := ints_of hte he hc ht'
      refine ⟨zs, A', c, ?_, h3, h2⟩
      have e1 : (a.add (i * 1)).add 0 = a.add i := by rw [Go.Deep.add_add]; congr 1; omega
      rw [e1] at hcell
      exact hcell)
    refine ⟨some a, (List.range len).map B, m, by simp, (fun i hi' => ?_), .inr ⟨_, _, by rw [hx], by simp⟩⟩
    have hil : i < len := by simpa using hi'
    obtain ⟨A', c, h1, h2, h3⟩ := hB i hil
    have hbk := World.block_lt_of_cell? w _ h1
    rw [addr_add_block] at hbk
    have e : ((List.range len).map B)[i] = B i := by simp
    rw [e]
    exact ⟨a, A', c, rfl, hbk, h1, h2, h3⟩
theorem arg_grid {t te e : TypeId} {b0 : Nat} (ht : P.underlying t = some (.slice te)) (hte : P.underlying te = some (.slice e)) (he : P.underlying e = some (.int .i64)) (hc : P.cellsOf e = 1) (hC : P.cellsOf te = 1) (hby : 1 ≤ P.bytesOf te) {v : Value} {d : DataW H} {p : List MemPlace}
    (hv : Value.okWide P w .any b0 t v) (h : DataW.Trod enc P w 0 (fun _ => true) true t v d p)
    {ts : List TypeId} {ds : List (DataW H)} {j : Nat} (hsz : (DataW.weightsEach P ts ds).all (· ≤ reachBytes) = true) (htj : ts[j]? = some t) (hdj : ds[j]? = some d) :
    ∃ (A : Option Addr) (G : List (List Int)) (c : Nat), v = .slice A G.length c ∧ Grid w w.heap.size A G ∧ G.length ≤ 140737488355328 := by
  obtain ⟨a0, len, cap, rfl⟩ := okWide_slice ht hv
  obtain ⟨fuel, hf⟩ := h
  obtain ⟨A, zs, c, h1, h3, h4⟩ := grid_of (x := (d, p)) ht hte he hc hC (by simpa [Value.cells] using hf)
  refine ⟨A, zs, c, h1, h3, ?_⟩
  rcases h4 with h4 | ⟨es, sp, h4, h5⟩
  · omega
  · have h4' : d = .slice es sp := h4
    subst h4'
    have hs := sized_slice hsz htj hdj ht
    have hr : reachBytes = 140737488351232 := by decide
    rw [hr] at hs
    have h6 : (es.length + sp.length) * 1 ≤ (es.length + sp.length) * P.bytesOf te := Nat.mul_le_mul_left _ hby
    omega
end
end Go.Proofs.Ytfaahhipddlmgaa.KArgs
