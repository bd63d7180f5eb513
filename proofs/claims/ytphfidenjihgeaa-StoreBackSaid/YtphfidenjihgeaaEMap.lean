/- More laws on maps from numbers: what is taken out, a map that is cleared, how many entries there can be, a set of numbers. -/
import Derived.Test.YtphfidenjihgeaaMap
import Derived.Test.YtphfidenjihgeaaExt
import Derived.Lib.SlKeysI
namespace Go.Proofs.Ytphfidenjihgeaa.Map
open Go.RowKit WMem Ext
open Go.Maps (Keyed)

theorem underH : Try.prog.underlying 29 = some (.map 3 72) := by kernel_rfl
theorem zeroH (w : World) : (zeroValue 72).run Try.prog w = .ok (.agg #[]) w := by kernel_rfl
/-- delete(m, k) -/
def del (f : Int → Option Value) (k : Int) : Int → Option Value := fun j => if j = k then none else f j

section
variable {w w' : World} {b n : Nat} {f : Int → Option Value}
theorem del_is {D : DataW Value} {k : Int} (_hk : Fits k) (hf : ∀ k : Int, Fits k → Maps.has D (.int .i64 k) = (f k).isSome ∧ ∀ v, f k = some v → ∀ z, D.atKey (.int .i64 k) z = .held v) :
    ∀ j : Int, Fits j → Maps.has (D.del (.int .i64 k)) (.int .i64 j) = (del f k j).isSome ∧ ∀ u, del f k j = some u → ∀ z, (D.del (.int .i64 k)).atKey (.int .i64 j) z = .held u := by
  intro j hj
  unfold del
  by_cases e : j = k
  · subst e
    rw [if_pos rfl]
    exact ⟨by rw [Maps.has_del_same]; rfl, fun u hu => by cases hu⟩
  · rw [if_neg e]
    refine ⟨by rw [Maps.has_del_other (key_ne e)]; exact (hf j hj).1, fun u hu z => ?_⟩
    rw [Maps.atKey_del_other (key_ne e)]
    exact (hf j hj).2 u hu z
theorem MapIs.drop {T E : TypeId} (hT : Try.prog.underlying T = some (.map 3 E)) (h : MapIs w b n f) {k : Int} (hk : Fits k) (ty : TypeId) :
    ∃ w', (Builtin.delete_ #[T, 3] ty #[.map (some b), .int .i64 k]).run Try.prog w = .ok (.tuple #[]) w' ∧ MapIs w' b n (del f k) ∧ w.mapTurned w' b := by
  obtain ⟨D, ho, hf⟩ := h
  obtain ⟨w', hrun, h1, h2⟩ := ho.drop law hT (keyed hk) ty
  exact ⟨w', hrun, ⟨_, h1, del_is hk hf⟩, h2⟩
theorem MapIs.put {T E : TypeId} (hT : Try.prog.underlying T = some (.map 3 E)) (h : MapIs w b n f) {k : Int} (hk : Fits k) (hn : n < maxLen) (v : Value) :
    ∃ w', (Instr.mapUpdate T (.map (some b)) (.int .i64 k) v).run Try.prog w = .ok () w' ∧ MapIs w' b (n + 1) (upd f k v) ∧ w.mapTurned w' b := by
  obtain ⟨D, ho, hf⟩ := h
  obtain ⟨w', hrun, h1, h2⟩ := ho.store law hT hn (keyed hk) (val := v) (d := .held v) (ps := []) rfl
  exact ⟨w', hrun, ⟨_, h1, put_is ho.isMap hk hf⟩, h2⟩
set_option maxRecDepth 100000 in
/-- v, ok := m[k], at whatever elements -/
theorem MapIs.look2 {T E : TypeId} {z : Value} (hT : Try.prog.underlying T = some (.map 3 E)) (hz : ∀ w, (zeroValue E).run Try.prog w = .ok z w) (h : MapIs w b n f) {k : Int} (hk : Fits k) :
    (Instr.lookup T (.map (some b)) (.int .i64 k) true).run Try.prog w = .ok (.tuple #[(f k).getD z, .bool (f k).isSome]) w := by
  obtain ⟨D, ho, hf⟩ := h
  obtain ⟨v, ps, hrun, hv⟩ := ho.look_ok law hT (hz w) (zd := .held z) (zp := []) rfl (keyed hk)
  rw [hrun, (hf k hk).1]
  simp only [Rv, Option.some.injEq, Prod.mk.injEq] at hv
  cases hfk : f k with
  | none =>
    have hh := (hf k hk).1
    rw [hfk] at hh
    rw [Maps.atKey_of_not_has hh] at hv
    obtain ⟨hv, _⟩ := hv
    injection hv with hv
    rw [hv]; rfl
  | some u =>
    rw [(hf k hk).2 u hfk] at hv
    obtain ⟨hv, _⟩ := hv
    injection hv with hv
    rw [hv]; rfl
theorem keys_of {D : DataW Value} (ho : w.ownsMap Try.prog 3 Rv b n D) : ∃ es, D = .map es ∧ ∀ p ∈ es, ∃ k : Int, Fits k ∧ p.1 = .int .i64 k := by
  obtain ⟨es, clock, _, F, _, rfl⟩ := ho
  refine ⟨_, rfl, fun p hp => ?_⟩
  obtain ⟨x, hx, rfl⟩ := List.mem_map.1 (mem_sorted.1 hp)
  obtain ⟨y, hy⟩ := F.reads x hx
  rw [Go.WideElems.rg_of hy]
  obtain ⟨k, _, hk, hw⟩ := Maps.keyOf_int_inv (q := .i64) (by kernel_rfl) (Go.WideElems.rd_key hy)
  have := bounds_i64 hw
  exact ⟨k, ⟨by omega, by omega⟩, hk⟩
/-- no number twice, all below m: no more than m -/
theorem nodup_le : ∀ (m : Nat) (l : List Nat), l.Nodup → (∀ x ∈ l, x < m) → l.length ≤ m
  | 0, l, _, h => by
    cases l with
    | nil => exact Nat.le_refl _
    | cons a r => exact absurd (h a (by simp)) (by omega)
  | m + 1, l, hn, h => by
    have h1 := nodup_le m (l.filter fun x => !decide (x = m)) (hn.sublist List.filter_sublist) (fun x hx => by
      simp at hx
      have := h x hx.1
      omega)
    have h2 : l.length ≤ (l.filter fun x => !decide (x = m)).length + 1 := by
      clear h h1
      induction l with
      | nil => simp
      | cons a r ih =>
        obtain ⟨ha, hr⟩ := List.nodup_cons.1 hn
        rw [List.filter_cons]
        by_cases e : a = m
        · subst e
          have : (r.filter fun x => !decide (x = a)) = r := List.filter_eq_self.2 fun x hx => by simp; rintro rfl; exact ha hx
          simp [this]
        · simp [e]
          exact ih hr
    omega
theorem has_of_mem {es : List (Lit × DataW Value)} {p : Lit × DataW Value} (hp : p ∈ es) {a : Int} (ha : p.1 = .int .i64 a) : Maps.has (.map es) (.int .i64 a) = true := by
  rw [Maps.has_eq, List.any_eq_true]
  exact ⟨p, hp, by rw [ha]; simp [Lit.sameKey]⟩
theorem mem_of_has {es : List (Lit × DataW Value)} (hk : ∀ p ∈ es, ∃ k : Int, Fits k ∧ p.1 = .int .i64 k) {x : Int} (h : Maps.has (.map es) (.int .i64 x) = true) : Fits x := by
  rw [Maps.has_eq, List.any_eq_true] at h
  obtain ⟨p, hp, hs⟩ := h
  obtain ⟨k, hf, hk⟩ := hk p hp
  rw [hk] at hs
  have : k = x := by simpa [Lit.sameKey] using hs
  exact this ▸ hf
/-- the numbers are all below m: there are no more than m entries -/
theorem MapIs.cap (h : MapIs w b n f) {m : Nat} (hm : ∀ k v, f k = some v → 0 ≤ k ∧ k < (m : Int)) : MapIs w b m f := by
  obtain ⟨D, ho, hf⟩ := h
  refine ⟨D, ?_, hf⟩
  have hk := keys_of ho
  have hp := ho.tidy law
  obtain ⟨es, clock, hb, F, hs, hD⟩ := ho
  refine ⟨es, clock, hb, F, ?_, hD⟩
  obtain ⟨l, hl, hk⟩ := hk
  obtain ⟨l', hl', hpw⟩ := hp
  rw [hl] at hl'
  injection hl' with hl'
  subst hl'
  have hat : ∀ p ∈ l, ∃ a : Int, p.1 = .int .i64 a ∧ 0 ≤ a ∧ a < (m : Int) := fun p hp => by
    obtain ⟨a, fa, ha⟩ := hk p hp
    have h1 := (hf a fa).1
    rw [hl, has_of_mem hp ha] at h1
    obtain ⟨v, hv⟩ := Option.isSome_iff_exists.1 h1.symm
    exact ⟨a, ha, hm a v hv⟩
  have hlen : es.size = l.length := by
    rw [hl] at hD
    injection hD with hD
    rw [hD, length_sorted]
    simp
  rw [hlen]
  have h1 := nodup_le m (l.map fun p => (Go.intOf p.1).toNat) ?_ ?_
  · simpa using h1
  · refine List.pairwise_map.2 (hpw.imp_of_mem fun {p q} hp' hq' hne e => hne ?_)
    obtain ⟨a, ha, a1, a2⟩ := hat p hp'
    obtain ⟨c, hc, c1, c2⟩ := hat q hq'
    rw [ha, hc] at e ⊢
    simp only [Go.intOf] at e
    have : a = c := by omega
    rw [this]
  · intro x hx
    obtain ⟨p, hp', rfl⟩ := List.mem_map.1 hx
    obtain ⟨a, ha, a1, a2⟩ := hat p hp'
    rw [ha]
    simp only [Go.intOf]
    omega
/-- the numbers at which something stands, rising -/
def nums (f : Int → Option Value) (m : Nat) : List Int := ((List.range m).filter fun j : Nat => (f (j : Int)).isSome).map fun j : Nat => (j : Int)
theorem mem_nums {m : Nat} {x : Int} : x ∈ nums f m ↔ 0 ≤ x ∧ x < (m : Int) ∧ (f x).isSome = true := by
  unfold nums
  simp only [List.mem_map, List.mem_filter, List.mem_range]
  constructor
  · rintro ⟨j, ⟨h1, h2⟩, rfl⟩
    exact ⟨by omega, by omega, h2⟩
  · rintro ⟨h1, h2, h3⟩
    exact ⟨x.toNat, ⟨by omega, by rw [Int.toNat_of_nonneg h1]; exact h3⟩, Int.toNat_of_nonneg h1⟩
theorem nums_sorted (f : Int → Option Value) (m : Nat) : (nums f m).Pairwise (fun a b => a < b) := by
  unfold nums
  exact List.pairwise_map.2 ((List.pairwise_lt_range (n := m)).filter _ |>.imp fun h => by omega)
theorem perm_nums {D : DataW Value} (ho : w.ownsMap Try.prog 3 Rv b n D) (hf : ∀ k : Int, Fits k → Maps.has D (.int .i64 k) = (f k).isSome ∧ ∀ v, f k = some v → ∀ z, D.atKey (.int .i64 k) z = .held v) {m : Nat} (hmm : m ≤ 1073741824) (hm : ∀ k v, f k = some v → 0 ≤ k ∧ k < (m : Int)) :
    (nums f m).Perm (intKeys D) := by
  obtain ⟨l, hl, hk⟩ := keys_of ho
  obtain ⟨l', hl', hpw⟩ := ho.tidy law
  rw [hl] at hl'
  injection hl' with hl'
  subst hl'
  subst hl
  refine perm_intKeys hpw (fun p hp => by obtain ⟨a, _, ha⟩ := hk p hp; exact ⟨a, ha⟩) ((nums_sorted f m).imp fun h => by omega) fun x => ?_
  rw [mem_nums]
  constructor
  · rintro ⟨h1, h2, h3⟩
    obtain ⟨v, hv⟩ := Option.isSome_iff_exists.1 h3
    have hfx : Fits x := ⟨by omega, by omega⟩
    rw [(hf x hfx).1]; exact h3
  · intro h
    have hfx := mem_of_has hk h
    rw [(hf x hfx).1] at h
    obtain ⟨v, hv⟩ := Option.isSome_iff_exists.1 h
    exact ⟨(hm x v hv).1, (hm x v hv).2, h⟩
theorem sort_nums (f : Int → Option Value) (m : Nat) {ss : List Int} (h : ss.Perm (nums f m)) : ss.mergeSort leI = nums f m := by
  rw [mergeSort_of_perm_i h]
  exact List.mergeSort_of_pairwise ((nums_sorted f m).imp fun h => by simp [leI]; omega)
theorem size_nums {D : DataW Value} (ho : w.ownsMap Try.prog 3 Rv b n D) : Maps.size D ≤ n := ho.size_le

/-- clear(m) -/
theorem MapIs.wipe {T E : TypeId} (hT : Try.prog.underlying T = some (.map 3 E)) (h : MapIs w b n f) (ty : TypeId) :
    ∃ w', (Builtin.clear_ #[T] ty #[.map (some b)]).run Try.prog w = .ok (.tuple #[]) w' ∧ MapIs w' b 0 (fun _ => none) ∧ w.mapTurned w' b := by
  obtain ⟨D, ⟨es, clock, hb, r⟩, hf⟩ := h
  have hb' : (Go.ChangeMaps.setBlock w b (.map #[] clock)).heap[b]? = some (.map #[] clock) := Go.ChangeMaps.heap_setBlock_same hb _
  refine ⟨Go.ChangeMaps.setBlock w b (.map #[] clock), ?_, ⟨.map [], ⟨#[], clock, hb', ⟨by simp, ⟨by simp, by simp, by simp⟩, by simp⟩, Nat.le_refl _, rfl⟩, fun k _ => ⟨rfl, fun v hv => by cases hv⟩⟩, ⟨es, clock, #[], clock, hb, rfl⟩⟩
  simp [Builtin.clear_, run_underlying hT, Go.MapKept.run_getObj_map hb, Go.MapKept.run_setObj_map _ hb, Result.andThen, Go.ChangeMaps.setBlock]
end
end Go.Proofs.Ytphfidenjihgeaa.Map
