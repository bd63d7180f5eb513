/- Writes that come in: a slice of structs, each with a slice of bytes in it. -/
import Derived.Test.YtgegmoejhnjhjaaDoorJDoor
import Derived.Test.YtgegmoejhnjhjaaDoorJLayM
namespace Go.Proofs.YtgegmoejhnjhjaaDoor.JDoor2
open Go.ChangeShapes Go.WideShapes Go.ChangeAt Go.RowKit Go.Deep WMem RowEnd Args Door JDoor JLayM

section
variable {H : Type} {enc : TypeId × Value → H} {P : Program} {w : World} {base : Nat} {held : Bool}
theorem u8s_of {t e : TypeId} {fuel : Nat} {v : Value} {x : DataW H × List MemPlace} (ht : P.underlying t = some (.slice e)) (he : P.underlying e = some (.int .u8)) (hc : P.cellsOf e = 1)
    (h : DataW.trod enc P w base (fun _ => true) held fuel t [v] = some x) : ∃ (A : Option Addr) (l : List UInt8) (c : Nat), v = .slice A l.length c ∧ Sl w w.heap.size A (l.map u8v) := by
  rcases open_ints ht he hc h with ⟨hcs, hx⟩ | ⟨a, len, cap, zs, hcs, _, hl, hm, hz, hx, hcell, hwz⟩
  · obtain rfl : v = .slice none 0 0 := by simpa using hcs
    exact ⟨none, [], 0, rfl, Sl.nil _ _ _⟩
  · obtain rfl : v = .slice (some a) len cap := by simpa using hcs
    simp only [if_true] at hz
    have hlen : (zs.take len).length = len := by simp; omega
    have e1 : (zs.take len).map (Value.int .u8) = ((zs.take len).map fun z => UInt8.ofNat z.toNat).map u8v := by
      rw [List.map_map]
      apply List.map_congr_left
      intro z hz
      have := bounds_u8 (hwz z (List.mem_of_mem_take hz))
      simp only [Function.comp, u8v]
      congr 1
      simp
      omega
    refine ⟨some a, (zs.take len).map fun z => UInt8.ofNat z.toNat, cap, by rw [List.length_map, hlen], ?_⟩
    rw [← e1]
    intro k' u hu
    rw [List.getElem?_map, List.getElem?_take] at hu
    split at hu
    · rename_i hk
      have hk' : k' < zs.length := by omega
      rw [List.getElem?_eq_getElem hk'] at hu
      simp at hu
      subst hu
      have hc' := hcell k' hk'
      rw [List.getD_eq_getElem?_getD, List.getElem?_eq_getElem hk'] at hc'
      simp at hc'
      refine ⟨a, rfl, ?_, hc'⟩
      have := World.block_lt_of_cell? w _ hc'
      rwa [addr_add_block] at this
    · cases hu
theorem wrs_open {t e : TypeId} {f0 f1 : Field} {fuel : Nat} {v : Value} {x : DataW H × List MemPlace} (ht : P.underlying t = some (.slice e)) (he : P.underlying e = some (.struct #[f0, f1])) (hone : oneCellFields P #[f0, f1] = true) (hC : P.cellsOf e = 2)
    (t0 : P.underlying f0.type = some (.int .i64)) {be : TypeId} (t1 : P.underlying f1.type = some (.slice be)) (t2 : P.underlying be = some (.int .u8)) (t3 : P.cellsOf be = 1) (h : DataW.trod enc P w base (fun _ => true) held fuel t [v] = some x) :
    ∃ (A : Option Addr) (l : List Wr) (c : Nat), v = .slice A l.length c ∧ Wrs w w.heap.size A l ∧ l.length ≤ c := by
  rcases open_slice_fields ht he hone hC h with ⟨hcs, hx⟩ | ⟨a, len, cap, m, D, Pl, hcs, _, hl, _, hmm, hx, hi⟩
  · obtain rfl : v = .slice none 0 0 := by simpa using hcs
    exact ⟨none, [], 0, rfl, (fun i hi => (by cases hi)), Nat.le_refl _⟩
  · obtain rfl : v = .slice (some a) len cap := by simpa using hcs
    simp only [if_true] at hmm
    subst hmm
    obtain ⟨B, hB⟩ := choose_lt (α := Wr) (n := len) (p := fun i o => ∃ K c, w.cell? (a.add (i * 2)) = some (.int .i64 o.blk) ∧ w.cell? (a.add (i * 2 + 1)) = some (.slice K o.data.length c) ∧ Sl w w.heap.size K (o.data.map u8v)) (fun i hil => by
      obtain ⟨ys, n, _, _, _, hf⟩ := hi i (by omega)
      obtain ⟨v0, y0, c0, _, g0⟩ := hf 0 f0 rfl
      obtain ⟨v1, y1, c1, _, g1⟩ := hf 1 f1 rfl
      obtain ⟨n0, e0, _⟩ := DataW.trod_int t0 g0
      obtain ⟨K, l, c, rfl, hK⟩ := u8s_of t1 t2 t3 g1
      obtain rfl : v0 = .int .i64 n0 := by simpa using e0
      exact ⟨⟨n0, l⟩, K, c, c0, c1, hK⟩)
    refine ⟨some a, (List.range len).map B, m, by simp, (fun i hi' => ?_), by simpa using hl⟩
    have hil : i < len := by simpa using hi'
    obtain ⟨K, c, c0, c1, hK⟩ := hB i hil
    have hbk := World.block_lt_of_cell? w _ c0
    rw [addr_add_block] at hbk
    have e : ((List.range len).map B)[i] = B i := by simp
    rw [e]
    exact ⟨a, K, c, rfl, hbk, c0, c1, hK⟩
end
theorem cwr : Tryd.prog.cellsOf 76 = 2 := by kernel_rfl
theorem uwrs : Tryd.prog.underlying 44 = some (.slice 76) := by kernel_rfl
theorem uwr : ∃ f0 f1, Tryd.prog.underlying 76 = some (.struct #[f0, f1]) ∧ oneCellFields Tryd.prog #[f0, f1] = true ∧ f0.type = 3 ∧ f1.type = 26 :=
  ⟨_, _, Tryd.underlying76, by kernel_rfl, rfl, rfl⟩
section
variable {H : Type} {enc : TypeId × Value → H}
set_option maxRecDepth 100000 in
theorem arg_wrs {W : World} {b0 : Nat} {v : Value} {d : DataW H} {p : List MemPlace} (hv : Value.okWide Tryd.prog W .any b0 44 v) (h : DataW.Trod enc Tryd.prog W 0 (fun _ => true) true 44 v d p) :
    ∃ (A : Option Addr) (l : List Wr) (c : Nat), v = .slice A l.length c ∧ Wrs W W.heap.size A l ∧ l.length ≤ c := by
  obtain ⟨f0, f1, hu, hone, e0, e1⟩ := uwr
  obtain ⟨a0, len, cap, rfl⟩ := okWide_slice uwrs hv
  obtain ⟨fuel, hf⟩ := h
  exact wrs_open uwrs hu hone cwr (by rw [e0]; exact i64t) (by rw [e1]; exact u8s) u8t c8 (by simpa [Value.cells] using hf)
end
end Go.Proofs.YtgegmoejhnjhjaaDoor.JDoor2
