/- A record that comes in: a struct with a slice of structs in it, handed in by value. -/
import Derived.Test.YtgegmoejhnjhjaaDoorDoor
import Derived.Test.YtgegmoejhnjhjaaDoorJMem
import Derived.Deep.Slices
import Derived.Deep.Fields
import Derived.Deep.Grids
import Derived.ChangeSame
import Derived.ProofKit
import Derived.OpenShut
import Derived.SizedLaws
namespace Go.Proofs.YtgegmoejhnjhjaaDoor.JDoor
open Go.ChangeShapes Go.WideShapes Go.ChangeAt Go.RowKit Go.Deep WMem RowEnd Args Door JPlain JMem

section
variable {H : Type} {enc : TypeId × Value → H} {P : Program} {w : World} {base : Nat} {spare : Nat → Bool} {held : Bool}
theorem fields_of {e : TypeId} {fs : Array Field} {fuel : Nat} {cs : List Value} {x : DataW H × List MemPlace} (he : P.underlying e = some (.struct fs)) (hone : oneCellFields P fs = true) (hl : cs.length = fs.size)
    (h : DataW.trod enc P w base spare held fuel e cs = some x) (j : Nat) (f : Field) (hj : fs[j]? = some f) : ∃ v y n', cs[j]? = some v ∧ DataW.trod enc P w base spare held n' f.type [v] = some y := by
  obtain ⟨ys, n', hn', hy, hlen, hyl, hf⟩ := DataW.trod_struct he h
  obtain ⟨ho, hk⟩ := hone_of hone j f hj
  have hjl : j < fs.size := (Array.getElem?_eq_some_iff.1 hj).1
  have h1 := hf j f hj
  rw [ho, hk] at h1
  have hone' : (cs.drop j).take 1 = [cs[j]'(by omega)] := by
    rw [List.drop_eq_getElem_cons (by omega)]
    rfl
  rw [hone'] at h1
  have hys : ys[j]? = some (ys[j]'(by omega)) := List.getElem?_eq_getElem (by omega)
  exact ⟨_, _, n', List.getElem?_eq_getElem (by omega), h1.trans hys⟩
theorem open_slice_fields {t e : TypeId} {fs : Array Field} {fuel : Nat} {cs : List Value} {x : DataW H × List MemPlace} (ht : P.underlying t = some (.slice e)) (he : P.underlying e = some (.struct fs))
    (hone : oneCellFields P fs = true) (hC : P.cellsOf e = fs.size) (h : DataW.trod enc P w base spare held fuel t cs = some x) :
    (cs = [.slice none 0 0] ∧ x = (.nil, [])) ∨
    ∃ (a : Addr) (len cap m : Nat) (D : Nat → DataW H) (Pl : Nat → List MemPlace), cs = [.slice (some a) len cap] ∧ base ≤ a.block ∧ len ≤ cap ∧ cap ≤ maxLen ∧ m = (if spare a.block then cap else len) ∧
      x = (.slice ((List.range len).map D) ((List.range (m - len)).map fun j => D (len + j)), MemPlace.row a (m * fs.size) ++ (List.range m).flatMap Pl) ∧
      ∀ i, i < m → ∃ (ys : List (DataW H × List MemPlace)) (n : Nat), D i = .agg (ys.map (·.1)) ∧ Pl i = ys.flatMap (·.2) ∧ ys.length = fs.size ∧
        ∀ (j : Nat) (f : Field), fs[j]? = some f → ∃ (v : Value) (y : DataW H × List MemPlace), w.cell? (a.add (i * fs.size + j)) = some v ∧ ys[j]? = some y ∧ DataW.trod enc P w base spare held n f.type [v] = some y := by
  rcases open_slice ht h with h0 | ⟨a, len, cap, m, n, D, Pl, hcs, hb, hl, hm, hmm, hx, hi⟩
  · exact .inl h0
  · refine .inr ⟨a, len, cap, m, D, Pl, hcs, hb, hl, hm, hmm, by rw [hC] at hx; exact hx, fun i him => ?_⟩
    obtain ⟨cs', hc, ht'⟩ := hi i him
    rw [hC] at hc
    obtain ⟨ys, n', hn', hy, hlen, hyl, hf⟩ := DataW.trod_struct he ht'
    obtain ⟨_, hcl, hat⟩ := World.cells?_some hc
    simp only [Prod.mk.injEq] at hy
    refine ⟨ys, n', hy.1, hy.2, hyl, fun j f hj => ?_⟩
    obtain ⟨ho, hk⟩ := hone_of hone j f hj
    have hjl : j < fs.size := (Array.getElem?_eq_some_iff.1 hj).1
    have hcell := hat j hjl
    have hv : cs'[j]? = some (cs'[j]'(by omega)) := List.getElem?_eq_getElem (by omega)
    have h1 := hf j f hj
    rw [ho, hk] at h1
    have hone' : (cs'.drop j).take 1 = [cs'[j]'(by omega)] := by
      rw [List.drop_eq_getElem_cons (by omega)]
      rfl
    rw [hone'] at h1
    have hys : ys[j]? = some (ys[j]'(by omega)) := List.getElem?_eq_getElem (by omega)
    refine ⟨_, _, ?_, hys, h1.trans hys⟩
    rw [← Go.Deep.add_add, hcell, hv]

end
instance : Inhabited Ent := ⟨⟨0, false⟩⟩
section
variable {H : Type} {enc : TypeId × Value → H} {P : Program} {w : World} {base : Nat} {held : Bool}
/-- a slice of entries: structs of a number and a yes or no -/
theorem ents_open {t e : TypeId} {f0 f1 : Field} {fuel : Nat} {v : Value} {x : DataW H × List MemPlace} (ht : P.underlying t = some (.slice e)) (he : P.underlying e = some (.struct #[f0, f1])) (hone : oneCellFields P #[f0, f1] = true) (hC : P.cellsOf e = 2)
    (t0 : P.underlying f0.type = some (.int .i64)) (t1 : P.underlying f1.type = some .bool) (h : DataW.trod enc P w base (fun _ => true) held fuel t [v] = some x) :
    ∃ (A : Option Addr) (l : List Ent) (c : Nat), v = .slice A l.length c ∧ Ents w w.heap.size A l ∧ (l.length = 0 ∨ ∃ es sp, x.1 = .slice es sp ∧ l.length = es.length) := by
  rcases open_slice_fields ht he hone hC h with ⟨hcs, hx⟩ | ⟨a, len, cap, m, D, Pl, hcs, _, hl, _, hmm, hx, hi⟩
  · obtain rfl : v = .slice none 0 0 := by simpa using hcs
    exact ⟨none, [], 0, rfl, Ents.nil _ _ _, .inl rfl⟩
  · obtain rfl : v = .slice (some a) len cap := by simpa using hcs
    simp only [if_true] at hmm
    subst hmm
    obtain ⟨B, hB⟩ := choose_lt (α := Ent) (n := len) (p := fun i o => w.cell? (a.add (i * 2)) = some (.int .i64 o.blk) ∧ w.cell? (a.add (i * 2 + 1)) = some (.bool o.esc)) (fun i hil => by
      obtain ⟨ys, n, _, _, _, hf⟩ := hi i (by omega)
      obtain ⟨v0, y0, c0, _, g0⟩ := hf 0 f0 rfl
      obtain ⟨v1, y1, c1, _, g1⟩ := hf 1 f1 rfl
      obtain ⟨n0, e0, _⟩ := DataW.trod_int t0 g0
      obtain ⟨n1, e1, _⟩ := DataW.trod_bool t1 g1
      obtain rfl : v0 = .int .i64 n0 := by simpa using e0
      obtain rfl : v1 = .bool n1 := by simpa using e1
      exact ⟨⟨n0, n1⟩, c0, c1⟩)
    refine ⟨some a, (List.range len).map B, m, by simp, (fun i hi' => ?_), .inr ⟨_, _, by rw [hx], by simp⟩⟩
    have hil : i < len := by simpa using hi'
    obtain ⟨c0, c1⟩ := hB i hil
    have hbk := World.block_lt_of_cell? w _ c0
    rw [addr_add_block] at hbk
    have e : ((List.range len).map B)[i] = B i := by simp
    rw [e]
    exact ⟨a, rfl, hbk, c0, c1⟩
/-- the slice in a record takes no more than the reach -/
theorem sized_in {ts : List TypeId} {ds : List (DataW H)} (hsz : (DataW.weightsEach P ts ds).all (· ≤ reachBytes) = true) {j : Nat} {t : TypeId} {parts : List (DataW H)} {fs : Array Field} (htj : ts[j]? = some t) (hdj : ds[j]? = some (.agg parts)) (hu : P.underlying t = some (.struct fs))
    {i : Nat} {f : Field} {e : TypeId} {es sp : List (DataW H)} (hf : fs[i]? = some f) (hp : parts[i]? = some (.slice es sp)) (hue : P.underlying f.type = some (.slice e)) : (es.length + sp.length) * P.bytesOf e ≤ reachBytes := by
  have hin : ∀ n ∈ DataW.weightsEach P (fs.toList.map (·.type)) parts, n ≤ reachBytes := fun n hn => by
    have := List.all_eq_true.1 hsz n (DataW.weights_mem_each htj hdj n (by simp only [DataW.weights, hu]; exact hn))
    simpa using this
  refine hin _ (DataW.weights_mem_each (j := i) (t := f.type) (d := .slice es sp) (by rw [List.getElem?_map, Array.getElem?_toList, hf]; rfl) hp _ ?_)
  simp [DataW.weights, hue]
end
theorem cent : Tryd.prog.cellsOf 69 = 2 := by kernel_rfl
theorem bent : Tryd.prog.bytesOf 69 = 16 := by kernel_rfl
theorem uents : Tryd.prog.underlying 22 = some (.slice 69) := by kernel_rfl
theorem uent : ∃ f0 f1, Tryd.prog.underlying 69 = some (.struct #[f0, f1]) ∧ oneCellFields Tryd.prog #[f0, f1] = true ∧ f0.type = 3 ∧ f1.type = 4 :=
  ⟨_, _, Tryd.underlying69, by kernel_rfl, rfl, rfl⟩
theorem crec : Tryd.prog.cellsOf 25 = 5 := by kernel_rfl
theorem urec : ∃ f0 f1 f2 f3 f4, Tryd.prog.underlying 25 = some (.struct #[f0, f1, f2, f3, f4]) ∧ oneCellFields Tryd.prog #[f0, f1, f2, f3, f4] = true ∧ f0.type = 3 ∧ f1.type = 3 ∧ f2.type = 22 ∧ f3.type = 23 ∧ f4.type = 3 :=
  ⟨_, _, _, _, _, Tryd.underlying25, by kernel_rfl, rfl, rfl, rfl, rfl, rfl⟩
section
variable {H : Type} {enc : TypeId × Value → H}
set_option maxRecDepth 100000 in
theorem arg_rec {W : World} {b0 : Nat} {v : Value} {d : DataW H} {p : List MemPlace} (hv : Value.okWide Tryd.prog W .any b0 25 v) (h : DataW.Trod enc Tryd.prog W 0 (fun _ => true) true 25 v d p)
    {ts : List TypeId} {ds : List (DataW H)} {j : Nat} (hsz : (DataW.weightsEach Tryd.prog ts ds).all (· ≤ reachBytes) = true) (htj : ts[j]? = some 25) (hdj : ds[j]? = some d) :
    ∃ (r : Rec) (A : Option Addr) (c : Nat), v = recV r A c ∧ Ents W W.heap.size A r.ents ∧ r.ents.length ≤ 8796093022207 ∧ r.sum < 4294967296 := by
  obtain ⟨f0, f1, f2, f3, f4, hu, hone, e0, e1, e2, e3, e4⟩ := urec
  obtain ⟨g0, g1, gu, gone, k0, k1⟩ := uent
  obtain ⟨cs, rfl, hc⟩ := okWide_struct hu hv
  obtain ⟨fuel, hf⟩ := h
  have hlen : cs.toList.length = 5 := by rw [crec] at hc; simpa [Value.cells] using hc
  have hf' : DataW.trod enc Tryd.prog W 0 (fun _ => true) true fuel 25 cs.toList = some (d, p) := by simpa [Value.cells] using hf
  obtain ⟨ys, n', hn', hy, hl2, hyl, hg⟩ := DataW.trod_struct hu hf'
  have hd : d = .agg (ys.map (·.1)) := (Prod.mk.inj hy).1
  have at_ : ∀ (i : Nat) (f : Field), (#[f0, f1, f2, f3, f4] : Array Field)[i]? = some f → ∃ (u : Value) (y : DataW H × List MemPlace), cs.toList[i]? = some u ∧ ys[i]? = some y ∧ DataW.trod enc Tryd.prog W 0 (fun _ => true) true n' f.type [u] = some y := fun i f hi => by
    obtain ⟨ho, hk⟩ := hone_of hone i f hi
    have hil : i < 5 := (Array.getElem?_eq_some_iff.1 hi).1
    have h1 := hg i f hi
    rw [ho, hk] at h1
    have hone' : (cs.toList.drop i).take 1 = [cs.toList[i]'(by omega)] := by
      rw [List.drop_eq_getElem_cons (by omega)]
      rfl
    rw [hone'] at h1
    have hyl5 : ys.length = 5 := hyl
    have hys : ys[i]? = some (ys[i]'(by omega)) := List.getElem?_eq_getElem (by omega)
    exact ⟨_, _, List.getElem?_eq_getElem (by omega), hys, h1.trans hys⟩
  obtain ⟨u0, y0, q0, _, h0⟩ := at_ 0 f0 rfl
  obtain ⟨u1, y1, q1, _, h1⟩ := at_ 1 f1 rfl
  obtain ⟨u2, y2, q2, z2, h2⟩ := at_ 2 f2 rfl
  obtain ⟨u3, y3, q3, _, h3⟩ := at_ 3 f3 rfl
  obtain ⟨u4, y4, q4, _, h4⟩ := at_ 4 f4 rfl
  obtain ⟨x0, r0, _⟩ := DataW.trod_int (by rw [e0]; exact i64t) h0
  obtain ⟨x1, r1, _⟩ := DataW.trod_int (by rw [e1]; exact i64t) h1
  rw [e2] at h2
  obtain ⟨A, l, c, r2, hE, hsl⟩ := ents_open uents gu gone cent (by rw [k0]; exact i64t) (by rw [k1]; exact boolt) h2
  obtain ⟨x3, r3, _, w3⟩ := DataW.trod_int (by rw [e3]; exact u32t) h3
  obtain ⟨x4, r4, _⟩ := DataW.trod_int (by rw [e4]; exact i64t) h4
  obtain rfl : u0 = .int .i64 x0 := by simpa using r0
  obtain rfl : u1 = .int .i64 x1 := by simpa using r1
  obtain rfl : u3 = .int .u32 x3 := by simpa using r3
  obtain rfl : u4 = .int .i64 x4 := by simpa using r4
  subst r2
  have b3 := bounds_u32 w3
  obtain ⟨s, rfl⟩ := Int.eq_ofNat_of_zero_le b3.1
  refine ⟨⟨x0, x1, l, s, x4⟩, A, c, ?_, hE, ?_, by simp only; omega⟩
  · unfold recV
    congr 1
    obtain ⟨L⟩ := cs
    simp only at hlen q0 q1 q2 q3 q4
    match L, hlen with
    | [v0, v1, v2, v3, v4], _ =>
      simp at q0 q1 q2 q3 q4
      subst q0 q1 q2 q3 q4
      rfl
  · simp only
    rcases hsl with hsl | ⟨es, sp, e, hl⟩
    · omega
    · subst hd
      have hs := sized_in hsz htj hdj hu (i := 2) (f := f2) (e := 69) (es := es) (sp := sp) rfl (by rw [List.getElem?_map, z2]; simp [e]) (by rw [e2]; exact uents)
      have hr : reachBytes = 140737488351232 := by decide
      rw [hr, bent] at hs
      omega
end
end Go.Proofs.YtgegmoejhnjhjaaDoor.JDoor
