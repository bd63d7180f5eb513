/- One word for a map from numbers to rows of claims: what stands at each key, and how look-ups, stores and ranges go. -/
import Derived.Test.YtfaahhipddlmgaaProg
import Derived.Test.YtfaahhipddlmgaaWMem
import Derived.Maps.RangeWalk
import Derived.Maps.Ext
import Derived.KernelRfl
import Derived.OpenShut
namespace Go.Proofs.Ytfaahhipddlmgaa.KMap
open Go.RowKit WMem
open Go.Maps (Keyed)

/-- an element is read as itself -/
def Rv (v : Value) : Option (DataW Value × List MemPlace) := some (.held v, [])
theorem law : Keyed Try.prog 3 := Maps.int_keyed (q := .i64) (by kernel_rfl)
theorem under : Try.prog.underlying 56 = some (.map 3 61) := by kernel_rfl
theorem zeroE (w : World) : (zeroValue 61).run Try.prog w = .ok (.slice none 0 0) w := by kernel_rfl
def Fits (k : Int) : Prop := -9223372036854775808 ≤ k ∧ k ≤ 9223372036854775807
theorem fits_wf {k : Int} (h : Fits k) : (Lit.int .i64 k).wf = true := WalkArith.wf_i64 (by obtain ⟨h1, h2⟩ := h; constructor <;> assumption)
theorem keyed {k : Int} (h : Fits k) : keyOf Try.prog 3 (.int .i64 k) = some (.int .i64 k) := Maps.keyOf_int_mk (by kernel_rfl) (fits_wf h)

/-- block b is a map of at most n entries; at the number k stands f k -/
def MapIs (w : World) (b n : Nat) (f : Int → Option Value) : Prop :=
  ∃ D : DataW Value, w.ownsMap Try.prog 3 Rv b n D ∧ ∀ k : Int, Fits k → Maps.has D (.int .i64 k) = (f k).isSome ∧ ∀ v, f k = some v → ∀ z, D.atKey (.int .i64 k) z = .held v
/-- the same, with one key more -/
def upd (f : Int → Option Value) (k : Int) (v : Value) : Int → Option Value := fun j => if j = k then some v else f j

section
variable {w w' : World} {b n : Nat} {f : Int → Option Value}
theorem MapIs.keep (h : MapIs w b n f) (hk : w'.heap[b]? = w.heap[b]?) : MapIs w' b n f := by
  obtain ⟨D, ⟨es, clock, hb, r⟩, hf⟩ := h
  exact ⟨D, ⟨es, clock, hk.trans hb, r⟩, hf⟩
theorem MapIs.mono (h : MapIs w b n f) {n' : Nat} (hn : n ≤ n') : MapIs w b n' f := by
  obtain ⟨D, ho, hf⟩ := h
  exact ⟨D, ho.mono hn, hf⟩
theorem MapIs.lt (h : MapIs w b n f) : b < w.heap.size := by
  obtain ⟨D, ho, _⟩ := h
  exact ho.lt
theorem MapIs.alloc (h : MapIs w b n f) (o : Obj) : MapIs (w.alloc o) b n f := h.keep (Below.heap_alloc w o b h.lt)
theorem MapIs.drewN (h : MapIs w b n f) (k : Nat) : MapIs (w.drewN k) b n f := h.keep rfl
theorem MapIs.made (w : World) : MapIs (w.alloc (.map #[] 0)) w.heap.size 0 (fun _ => none) :=
  ⟨_, World.ownsMap_made _ _ _ _, fun k _ => ⟨rfl, fun v hv => by cases hv⟩⟩
/-- a block of cells is no map -/
theorem MapIs.ne {g : Nat} {cs : Array Value} {T : TypeId} {fz : Nat × Nat} (h : MapIs w b n f) (hg : w.heap[g]? = some (.cells cs T fz)) : g ≠ b := by
  rintro rfl
  obtain ⟨D, ⟨es, clock, hb, _⟩, _⟩ := h
  rw [hb] at hg
  cases hg
theorem MapIs.own_ne {base : Nat} {e : TypeId} {size m : Nat} {v : Value} {xs : List Value} (h : MapIs w b n f) (ho : w.ownsRow base e size v m xs) : v.ownBlock ≠ some b := by
  rcases ho.2 with ⟨rfl, _⟩ | ⟨g', cap, cur, rfl, _, hh, _⟩
  · simp [Value.ownBlock]
  · intro he
    have : g' = b := by simpa [Value.ownBlock] using he
    exact h.ne hh this

/-- v, ok := m[k] -/
theorem MapIs.look_ok (h : MapIs w b n f) {k : Int} (hk : Fits k) :
    (Instr.lookup 56 (.map (some b)) (.int .i64 k) true).run Try.prog w = .ok (.tuple #[(f k).getD (.slice none 0 0), .bool (f k).isSome]) w := by
  obtain ⟨D, ho, hf⟩ := h
  obtain ⟨v, ps, hrun, hv⟩ := ho.look_ok law under (zeroE w) (zd := .held (.slice none 0 0)) (zp := []) rfl (keyed hk)
  rw [hrun, (hf k hk).1]
  simp only [Rv, Option.some.injEq, Prod.mk.injEq] at hv
  cases hfk : f k with
  | none =>
    have hh := (hf k hk).1
    rw [hfk] at hh
    rw [Maps.atKey_of_not_has hh] at hv
    obtain ⟨hv, _⟩ := hv
    injection hv with hv
    rw [hv]; rfl
  | some u =>
    rw [(hf k hk).2 u hfk] at hv
    obtain ⟨hv, _⟩ := hv
    injection hv with hv
    rw [hv]; rfl
/-- m[k] -/
theorem MapIs.look (h : MapIs w b n f) {k : Int} (hk : Fits k) :
    (Instr.lookup 56 (.map (some b)) (.int .i64 k) false).run Try.prog w = .ok ((f k).getD (.slice none 0 0)) w := by
  obtain ⟨D, ho, hf⟩ := h
  obtain ⟨v, ps, hrun, hv⟩ := ho.lookup law under (zeroE w) (zd := .held (.slice none 0 0)) (zp := []) rfl (keyed hk)
  rw [hrun]
  simp only [Rv, Option.some.injEq, Prod.mk.injEq] at hv
  cases hfk : f k with
  | none =>
    have hh := (hf k hk).1
    rw [hfk] at hh
    rw [Maps.atKey_of_not_has hh] at hv
    obtain ⟨hv, _⟩ := hv
    injection hv with hv
    rw [hv]; rfl
  | some u =>
    rw [(hf k hk).2 u hfk] at hv
    obtain ⟨hv, _⟩ := hv
    injection hv with hv
    rw [hv]; rfl
theorem key_ne {j k : Int} (h : j ≠ k) : (Lit.int .i64 j) ≠ (Lit.int .i64 k) := by
  intro e
  injection e with _ e
  exact h e
theorem put_is {D : DataW Value} {k : Int} {v : Value} (hD : Maps.IsMap D) (hk : Fits k) (hf : ∀ k : Int, Fits k → Maps.has D (.int .i64 k) = (f k).isSome ∧ ∀ v, f k = some v → ∀ z, D.atKey (.int .i64 k) z = .held v) :
    ∀ j : Int, Fits j → Maps.has (D.put (.int .i64 k) (.held v)) (.int .i64 j) = (upd f k v j).isSome ∧ ∀ u, upd f k v j = some u → ∀ z, (D.put (.int .i64 k) (.held v)).atKey (.int .i64 j) z = .held u := by
  intro j hj
  have hkk := law.key (keyed hk)
  unfold upd
  by_cases e : j = k
  · subst e
    rw [if_pos rfl]
    refine ⟨by rw [Maps.has_put_same hD hkk]; rfl, fun u hu z => ?_⟩
    injection hu with hu
    subst hu
    exact Maps.atKey_put_same hD hkk _ _
  · rw [if_neg e]
    refine ⟨by rw [Maps.has_put_other (key_ne e)]; exact (hf j hj).1, fun u hu z => ?_⟩
    rw [Maps.atKey_put_other (key_ne e)]
    exact (hf j hj).2 u hu z
/-- m[k] = v -/
theorem MapIs.store (h : MapIs w b n f) {k : Int} (hk : Fits k) (hn : n < maxLen) (v : Value) :
    ∃ w', (Instr.mapUpdate 56 (.map (some b)) (.int .i64 k) v).run Try.prog w = .ok () w' ∧ MapIs w' b (n + 1) (upd f k v) ∧ w.mapTurned w' b := by
  obtain ⟨D, ho, hf⟩ := h
  obtain ⟨w', hrun, h1, h2⟩ := ho.store law under hn (keyed hk) (val := v) (d := .held v) (ps := []) rfl
  exact ⟨w', hrun, ⟨_, h1, put_is ho.isMap hk hf⟩, h2⟩
theorem rv_keys {D : DataW Value} (ho : w.ownsMap Try.prog 3 Rv b n D) : ∃ es, D = .map es ∧ ∀ p ∈ es, ∃ k : Int, Fits k ∧ p.1 = .int .i64 k := by
  obtain ⟨es, clock, _, F, _, rfl⟩ := ho
  refine ⟨_, rfl, fun p hp => ?_⟩
  obtain ⟨x, hx, rfl⟩ := List.mem_map.1 (mem_sorted.1 hp)
  obtain ⟨y, hy⟩ := F.reads x hx
  rw [Go.WideElems.rg_of hy]
  obtain ⟨k, _, hk, hw⟩ := Maps.keyOf_int_inv (q := .i64) (by kernel_rfl) (Go.WideElems.rd_key hy)
  have := bounds_i64 hw
  exact ⟨k, ⟨by omega, by omega⟩, hk⟩
theorem MapIs.size_zero {D : DataW Value} (ho : w.ownsMap Try.prog 3 Rv b n D) (hf : ∀ k : Int, Fits k → Maps.has D (.int .i64 k) = (f k).isSome) : Maps.size D = 0 ↔ ∀ k, Fits k → f k = none := by
  obtain ⟨es, rfl, hk⟩ := rv_keys ho
  constructor
  · intro h k hkf
    have h1 := hf k hkf
    rw [Maps.size_eq] at h
    rw [List.length_eq_zero_iff.1 h] at h1
    cases hv : f k with
    | none => rfl
    | some v => rw [hv] at h1; cases h1
  · intro h
    rw [Maps.size_eq]
    cases es with
    | nil => rfl
    | cons p r =>
      obtain ⟨k, hkf, hp⟩ := hk p (by simp)
      have h1 := hf k hkf
      rw [h k hkf, Maps.has_eq] at h1
      simp [hp, Lit.sameKey] at h1
/-- len(m): nought just where nothing stands -/
theorem MapIs.len (h : MapIs w b n f) : ∃ m : Nat, (m = 0 ↔ ∀ k, Fits k → f k = none) ∧ m ≤ n ∧ ∀ ty, (Builtin.len_ #[56] ty #[.map (some b)]).run Try.prog w = .ok (.int .i64 (m : Int)) w := by
  obtain ⟨D, ho, hf⟩ := h
  exact ⟨_, MapIs.size_zero ho (fun k hk => (hf k hk).1), ho.size_le, fun ty => ho.len under ty⟩

/-- delete(m, k) -/
def del (f : Int → Option Value) (k : Int) : Int → Option Value := fun j => if j = k then none else f j
theorem del_is {D : DataW Value} {k : Int} (hk : Fits k) (hf : ∀ k : Int, Fits k → Maps.has D (.int .i64 k) = (f k).isSome ∧ ∀ v, f k = some v → ∀ z, D.atKey (.int .i64 k) z = .held v) :
    ∀ j : Int, Fits j → Maps.has (D.del (.int .i64 k)) (.int .i64 j) = (del f k j).isSome ∧ ∀ u, del f k j = some u → ∀ z, (D.del (.int .i64 k)).atKey (.int .i64 j) z = .held u := by
  intro j hj
  unfold del
  by_cases e : j = k
  · subst e
    rw [if_pos rfl]
    exact ⟨by rw [Maps.has_del_same]; rfl, fun u hu => by cases hu⟩
  · rw [if_neg e]
    refine ⟨by rw [Maps.has_del_other (key_ne e)]; exact (hf j hj).1, fun u hu z => ?_⟩
    rw [Maps.atKey_del_other (key_ne e)]
    exact (hf j hj).2 u hu z
theorem MapIs.drop (h : MapIs w b n f) {k : Int} (hk : Fits k) (ty : TypeId) :
    ∃ w', (Builtin.delete_ #[56, 3] ty #[.map (some b), .int .i64 k]).run Try.prog w = .ok (.tuple #[]) w' ∧ MapIs w' b n (del f k) ∧ w.mapTurned w' b := by
  obtain ⟨D, ho, hf⟩ := h
  obtain ⟨w', hrun, h1, h2⟩ := ho.drop law under (keyed hk) ty
  exact ⟨w', hrun, ⟨_, h1, del_is hk hf⟩, h2⟩
end
section
variable (w : World) {ops : Array Oper} {rest : List Oper} {o : Oper} {a : Act} {Q : Exit → Act → World → Prop}
theorem wl_store (hg : o.guard = none) (m x v : Operand) (hop : o.op = Op.mapUpdate 56 m x v) (b n : Nat) (f : Int → Option Value) (hm : a.eval m = .map (some b)) (h : MapIs w b n f) (hn : n < maxLen)
    (k : Int) (hk : Fits k) (val : Value) (hx : a.eval x = .int .i64 k) (hv : a.eval v = val)
    (hK : ∀ w', MapIs w' b (n + 1) (upd f k val) → w.mapTurned w' b → wpList Try.prog ops Q rest (a.put o.dst undef) w') : wpList Try.prog ops Q (o :: rest) a w := by
  refine wpList_plain hg fun K' hK' => ?_
  obtain ⟨w', hrun, r1, r2⟩ := h.store hk hn val
  unfold Oper.wp
  simp [execOp, hop, hm, hx, hv, hrun, Result.andThen]
  exact hK' _ _ (hK w' r1 r2)
theorem wl_drop (hg : o.guard = none) (m x : Operand) (hop : o.op = Op.call { callee := Callee.builtin Builtin.delete, args := #[m, x], argTypes := #[56, 3] }) (b n : Nat) (f : Int → Option Value) (hm : a.eval m = .map (some b)) (h : MapIs w b n f)
    (k : Int) (hk : Fits k) (hx : a.eval x = .int .i64 k)
    (hK : ∀ w', MapIs w' b n (del f k) → w.mapTurned w' b → wpList Try.prog ops Q rest (a.put o.dst (.tuple #[])) w') : wpList Try.prog ops Q (o :: rest) a w := by
  refine wpList_plain hg fun K' hK' => ?_
  obtain ⟨w', hrun, r1, r2⟩ := h.drop hk o.type
  unfold Oper.wp
  simp [execOp, hop, resolve, invoke, builtin, hm, hx, hrun, Result.andThen]
  exact hK' _ _ (hK w' r1 r2)
end
end Go.Proofs.Ytfaahhipddlmgaa.KMap
