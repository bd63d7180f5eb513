/- How a slice of numbers that comes in is opened: what it reads as, nil too, and that it lies below the heap's size. Nothing of the program but its name. -/
import Derived.Test.YtgkindoidmglnaaGreatDoorMg1
import Derived.ProofKit
import Derived.OpenShut
import Derived.SizedLaws
namespace Go.Proofs.YtgkindoidmglnaaGreatDoor.Args
open Go.ChangeShapes Go.WideShapes Go.ChangeAt Go.RowKit WMem
section
variable {H : Type} {enc : TypeId × Value → H} {P : Program}

/-- a datum that is a list of so many values -/
def HasLen (d : DataW H) (n : Nat) : Prop := n = 0 ∨ ∃ elems spare, d = .slice elems spare ∧ elems.length = n

theorem arg_len {k : IntKind} {t e : TypeId} {base : Nat} (ht : P.underlying t = some (.slice e)) (he : P.underlying e = some (.int k)) (hc : P.cellsOf e = 1)
    {W : World} {A : Option Addr} {n c : Nat} {d : DataW H} {p : List MemPlace} (_hv : Value.okWide P W .any base t (.slice A n c)) (h : DataW.Trod enc P W 0 (fun _ => true) true t (.slice A n c) d p) : HasLen d n := by
  obtain ⟨fuel, hf⟩ := h
  rcases open_ints ht he hc hf with ⟨hcs, hx⟩ | ⟨a, len', cap', zs, hcs, _, hl, hm, hz, hx, hcell, hwz⟩
  · simp [Value.cells] at hcs
    obtain ⟨rfl, rfl, rfl⟩ := hcs
    exact .inl rfl
  · simp [Value.cells] at hcs
    obtain ⟨rfl, rfl, rfl⟩ := hcs
    simp only [if_true] at hz
    simp only [Prod.mk.injEq] at hx
    obtain ⟨rfl, _⟩ := hx
    exact .inr ⟨_, _, rfl, by simp [lits]; omega⟩

theorem arg_list {k : IntKind} {t e : TypeId} {bytes base : Nat} (ht : P.underlying t = some (.slice e)) (he : P.underlying e = some (.int k)) (hc : P.cellsOf e = 1) (hby : P.bytesOf e = bytes)
    {W : World} {v : Value} {d : DataW H} {p : List MemPlace} (hv : Value.okWide P W .any base t v) (h : DataW.Trod enc P W 0 (fun _ => true) true t v d p)
    {ts : List TypeId} {ds : List (DataW H)} {j : Nat} (hsz : (DataW.weightsEach P ts ds).all (· ≤ reachBytes) = true) (htj : ts[j]? = some t) (hdj : ds[j]? = some d) :
    ∃ (A : Option Addr) (zs : List Int) (c : Nat), v = .slice A zs.length c ∧ (∀ n ∈ zs, (Lit.int k n).wf = true) ∧ Sl W W.heap.size A (zs.map (Value.int k)) ∧ zs.length * bytes ≤ 140737488351232 ∧ zs.length ≤ c ∧ (A = none → c = 0) := by
  obtain ⟨a0, len, cap, rfl⟩ := okWide_slice ht hv
  obtain ⟨fuel, hf⟩ := h
  rcases open_ints ht he hc hf with ⟨hcs, hx⟩ | ⟨a, len', cap', zs, hcs, _, hl, hm, hz, hx, hcell, hwz⟩
  · simp [Value.cells] at hcs
    obtain ⟨rfl, rfl, rfl⟩ := hcs
    exact ⟨none, [], 0, rfl, by simp, Sl.nil _ _ _, by simp, Nat.le_refl _, fun _ => rfl⟩
  · simp [Value.cells] at hcs
    obtain ⟨rfl, rfl, rfl⟩ := hcs
    simp only [if_true] at hz
    simp only [Prod.mk.injEq] at hx
    obtain ⟨rfl, _⟩ := hx
    have hs := sized_slice hsz htj hdj ht
    rw [hby] at hs
    simp only [lits, List.length_map, List.length_take, List.length_drop] at hs
    have hlen : (zs.take len).length = len := by simp; omega
    refine ⟨some a, zs.take len, cap, by rw [hlen], fun n hn => hwz n (List.mem_of_mem_take hn), ?_, ?_, by rw [hlen]; exact hl, fun h => by cases h⟩
    · intro k' u hu
      rw [List.getElem?_map, List.getElem?_take] at hu
      split at hu
      · rename_i hk
        have hk' : k' < zs.length := by omega
        rw [List.getElem?_eq_getElem hk'] at hu
        simp at hu
        subst hu
        have hc' := hcell k' hk'
        rw [List.getD_eq_getElem?_getD, List.getElem?_eq_getElem hk'] at hc'
        simp at hc'
        refine ⟨a, rfl, ?_, hc'⟩
        have := World.block_lt_of_cell? W _ hc'
        rwa [addr_add_block] at this
      · cases hu
    · rw [hlen]
      have h1 : min len zs.length + (zs.length - len) = cap := by omega
      rw [h1] at hs
      have h2 : reachBytes = 140737488351232 := by decide
      rw [h2] at hs
      exact Nat.le_trans (Nat.mul_le_mul_right _ hl) hs

theorem arg_u8s {t e : TypeId} {base : Nat} (ht : P.underlying t = some (.slice e)) (he : P.underlying e = some (.int .u8)) (hc : P.cellsOf e = 1) (hby : P.bytesOf e = 1)
    {W : World} {v : Value} {d : DataW H} {p : List MemPlace} (hv : Value.okWide P W .any base t v) (h : DataW.Trod enc P W 0 (fun _ => true) true t v d p)
    {ts : List TypeId} {ds : List (DataW H)} {j : Nat} (hsz : (DataW.weightsEach P ts ds).all (· ≤ reachBytes) = true) (htj : ts[j]? = some t) (hdj : ds[j]? = some d) :
    ∃ (A : Option Addr) (l : List UInt8) (c : Nat), v = .slice A l.length c ∧ Sl W W.heap.size A (l.map u8v) ∧ l.length ≤ 140737488351232 ∧ l.length ≤ c := by
  obtain ⟨A, zs, c, rfl, hw, hs, hb, hlc, _⟩ := arg_list ht he hc hby hv h hsz htj hdj
  have e1 : zs.map (Value.int .u8) = (zs.map fun z => UInt8.ofNat z.toNat).map u8v := by
    rw [List.map_map]
    apply List.map_congr_left
    intro z hz
    have := bounds_u8 (hw z hz)
    simp only [Function.comp, u8v]
    congr 1
    simp
    omega
  refine ⟨A, zs.map fun z => UInt8.ofNat z.toNat, c, by simp, by rw [← e1]; exact hs, by simpa using hb, by simpa using hlc⟩
theorem arg_u8s_bulk {t e : TypeId} {base : Nat} (ht : P.underlying t = some (.slice e)) (he : P.underlying e = some (.int .u8)) (hc : P.cellsOf e = 1) (hby : P.bytesOf e = 1)
    {W : World} {v : Value} {d : DataW H} {p : List MemPlace} (hv : Value.okWide P W .any base t v) (h : DataW.Trod enc P W 0 (fun _ => true) true t v d p)
    {ts : List TypeId} {ds : List (DataW H)} {j : Nat} (hsz : (DataW.weightsEach P ts ds).all (· ≤ reachBytes) = true) (htj : ts[j]? = some t) (hdj : ds[j]? = some d) :
    ∃ (A : Option Addr) (l : List UInt8) (c : Nat), v = .slice A l.length c ∧ Sl W W.heap.size A (l.map u8v) ∧ l.length ≤ 140737488351232 ∧ l.length ≤ c ∧ HasLen d l.length := by
  obtain ⟨A, l, c, rfl, h1, h2, h3⟩ := arg_u8s ht he hc hby hv h hsz htj hdj
  exact ⟨A, l, c, rfl, h1, h2, h3, arg_len ht he hc hv h⟩
theorem arg_u64s {t e : TypeId} {base : Nat} (ht : P.underlying t = some (.slice e)) (he : P.underlying e = some (.int .u64)) (hc : P.cellsOf e = 1) (hby : P.bytesOf e = 8)
    {W : World} {v : Value} {d : DataW H} {p : List MemPlace} (hv : Value.okWide P W .any base t v) (h : DataW.Trod enc P W 0 (fun _ => true) true t v d p)
    {ts : List TypeId} {ds : List (DataW H)} {j : Nat} (hsz : (DataW.weightsEach P ts ds).all (· ≤ reachBytes) = true) (htj : ts[j]? = some t) (hdj : ds[j]? = some d) :
    ∃ (A : Option Addr) (l : List UInt64) (c : Nat), v = .slice A l.length c ∧ Sl W W.heap.size A (l.map u64v) ∧ l.length ≤ 17592186043904 ∧ l.length ≤ c := by
  obtain ⟨A, zs, c, rfl, hw, hs, hb, hlc, _⟩ := arg_list ht he hc hby hv h hsz htj hdj
  have e1 : zs.map (Value.int .u64) = (zs.map fun z => UInt64.ofNat z.toNat).map u64v := by
    rw [List.map_map]
    apply List.map_congr_left
    intro z hz
    have := bounds_u64 (hw z hz)
    simp only [Function.comp, u64v]
    congr 1
    simp
    omega
  refine ⟨A, zs.map fun z => UInt64.ofNat z.toNat, c, by simp, by rw [← e1]; exact hs, by simp; omega, by simpa using hlc⟩
theorem arg_ints {t e : TypeId} {base : Nat} (ht : P.underlying t = some (.slice e)) (he : P.underlying e = some (.int .i64)) (hc : P.cellsOf e = 1) (hby : P.bytesOf e = 8)
    {W : World} {v : Value} {d : DataW H} {p : List MemPlace} (hv : Value.okWide P W .any base t v) (h : DataW.Trod enc P W 0 (fun _ => true) true t v d p)
    {ts : List TypeId} {ds : List (DataW H)} {j : Nat} (hsz : (DataW.weightsEach P ts ds).all (· ≤ reachBytes) = true) (htj : ts[j]? = some t) (hdj : ds[j]? = some d) :
    ∃ (A : Option Addr) (l : List Int) (c : Nat), v = .slice A l.length c ∧ Sl W W.heap.size A (l.map i64v) ∧ l.length ≤ 17592186043904 ∧ l.length ≤ c ∧ (∀ n ∈ l, -9223372036854775808 ≤ n ∧ n ≤ 9223372036854775807) := by
  obtain ⟨A, zs, c, rfl, hw, hs, hb, hlc, _⟩ := arg_list ht he hc hby hv h hsz htj hdj
  exact ⟨A, zs, c, rfl, hs, by omega, hlc, fun n hn => bounds_i64 (hw n hn)⟩
end
end Go.Proofs.YtgkindoidmglnaaGreatDoor.Args
