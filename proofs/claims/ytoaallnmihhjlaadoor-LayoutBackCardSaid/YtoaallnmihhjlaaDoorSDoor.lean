/- A super that comes in: a struct with a struct in it, nine cells, handed in by value. -/
import Derived.Test.YtoaallnmihhjlaaDoorDoor
import Derived.Test.YtoaallnmihhjlaaDoorGArgs
namespace Go.Proofs.YtoaallnmihhjlaaDoor.SDoor
open Go.ChangeShapes Go.WideShapes Go.ChangeAt Go.RowKit Go.Deep WMem RowEnd GArgs Door

theorem csup : Tryd.prog.cellsOf 25 = 9 := by kernel_rfl
theorem cgeo : Tryd.prog.cellsOf 23 = 4 := by kernel_rfl
theorem cbool : Tryd.prog.cellsOf 4 = 1 := by kernel_rfl
theorem ugeo : ∃ f0 f1 f2 f3, Tryd.prog.underlying 23 = some (.struct #[f0, f1, f2, f3]) ∧ oneCellFields Tryd.prog #[f0, f1, f2, f3] = true ∧
    f0.type = 3 ∧ f1.type = 3 ∧ f2.type = 3 ∧ f3.type = 3 :=
  ⟨_, _, _, _, Tryd.underlying23, by kernel_rfl, rfl, rfl, rfl, rfl⟩
theorem usup : ∃ f0 f1 f2 f3 f4 f5 : Field, Tryd.prog.underlying 25 = some (.struct #[f0, f1, f2, f3, f4, f5]) ∧
    (f0.type = 23 ∧ f0.offset = 0) ∧ (f1.type = 3 ∧ f1.offset = 4) ∧ (f2.type = 3 ∧ f2.offset = 5) ∧ (f3.type = 3 ∧ f3.offset = 6) ∧ (f4.type = 3 ∧ f4.offset = 7) ∧ (f5.type = 4 ∧ f5.offset = 8) :=
  ⟨_, _, _, _, _, _, Tryd.underlying25, ⟨rfl, rfl⟩, ⟨rfl, rfl⟩, ⟨rfl, rfl⟩, ⟨rfl, rfl⟩, ⟨rfl, rfl⟩, ⟨rfl, rfl⟩⟩
set_option maxRecDepth 20000 in
theorem sup_of {H : Type} {enc : TypeId × Value → H} {W : World} {b0 : Nat} {v : Value} {d : DataW H} {p : List MemPlace} (hv : Value.okWide Tryd.prog W .any b0 25 v)
    (h : DataW.Trod enc Tryd.prog W 0 (fun _ => true) true 25 v d p) :
    ∃ (b p n j fb fi oo mo : Int) (cl : Bool), v = .agg #[.int .i64 b, .int .i64 p, .int .i64 n, .int .i64 j, .int .i64 fb, .int .i64 fi, .int .i64 oo, .int .i64 mo, .bool cl] := by
  obtain ⟨f0, f1, f2, f3, f4, f5, hu, ⟨t0, o0⟩, ⟨t1, o1⟩, ⟨t2, o2⟩, ⟨t3, o3⟩, ⟨t4, o4⟩, ⟨t5, o5⟩⟩ := usup
  obtain ⟨g0, g1, g2, g3, gu, gone, e0, e1, e2, e3⟩ := ugeo
  obtain ⟨cs, rfl, hc⟩ := okWide_struct hu hv
  obtain ⟨fuel, hf⟩ := h
  have hlen : cs.toList.length = 9 := by rw [csup] at hc; simpa [Value.cells] using hc
  have hf' : DataW.trod enc Tryd.prog W 0 (fun _ => true) true fuel 25 cs.toList = some (d, p) := by simpa [Value.cells] using hf
  obtain ⟨ys, n', hn', hy, hl2, hyl, hg⟩ := DataW.trod_struct hu hf'
  have hyl6 : ys.length = 6 := hyl
  have some_of : ∀ (i : Nat), i < 6 → ∃ y, ys[i]? = some y := fun i hi => ⟨_, List.getElem?_eq_getElem (by omega)⟩
  obtain ⟨y0, q0⟩ := some_of 0 (by decide)
  obtain ⟨y1, q1⟩ := some_of 1 (by decide)
  obtain ⟨y2, q2⟩ := some_of 2 (by decide)
  obtain ⟨y3, q3⟩ := some_of 3 (by decide)
  obtain ⟨y4, q4⟩ := some_of 4 (by decide)
  obtain ⟨y5, q5⟩ := some_of 5 (by decide)
  have k0 := hg 0 f0 rfl
  have k1 := hg 1 f1 rfl
  have k2 := hg 2 f2 rfl
  have k3 := hg 3 f3 rfl
  have k4 := hg 4 f4 rfl
  have k5 := hg 5 f5 rfl
  rw [t0, o0, cgeo, q0] at k0
  rw [t1, o1, ci, q1] at k1
  rw [t2, o2, ci, q2] at k2
  rw [t3, o3, ci, q3] at k3
  rw [t4, o4, ci, q4] at k4
  rw [t5, o5, cbool, q5] at k5
  obtain ⟨l⟩ := cs
  simp only at hlen k0 k1 k2 k3 k4 k5
  match l, hlen with
  | [v0, v1, v2, v3, v4, v5, v6, v7, v8], _ =>
    obtain ⟨b, p, n, j, h0⟩ := four_of gu gone (by rw [e0]; exact i64t) (by rw [e1]; exact i64t) (by rw [e2]; exact i64t) (by rw [e3]; exact i64t) rfl k0
    obtain ⟨x1, r1, _⟩ := int_of (v := v4) i64t k1
    obtain ⟨x2, r2, _⟩ := int_of (v := v5) i64t k2
    obtain ⟨x3, r3, _⟩ := int_of (v := v6) i64t k3
    obtain ⟨x4, r4, _⟩ := int_of (v := v7) i64t k4
    obtain ⟨x5, r5, _⟩ := DataW.trod_bool boolt k5
    simp at h0 r5
    obtain ⟨rfl, rfl, rfl, rfl⟩ := h0
    subst r1 r2 r3 r4 r5
    exact ⟨b, p, n, j, x1, x2, x3, x4, x5, rfl⟩
end Go.Proofs.YtoaallnmihhjlaaDoor.SDoor
