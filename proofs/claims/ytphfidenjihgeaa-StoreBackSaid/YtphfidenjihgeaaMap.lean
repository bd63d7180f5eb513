/- One word for a map from numbers to slices of bytes: what stands at each key, and how look-ups, stores and ranges go. -/
import Derived.Test.YtphfidenjihgeaaProg
import Derived.Test.YtphfidenjihgeaaWMem
import Derived.Maps.RangeWalk
import Derived.Maps.Ext
import Derived.KernelRfl
import Derived.OpenShut
namespace Go.Proofs.Ytphfidenjihgeaa.Map
open Go.RowKit WMem
open Go.Maps (Keyed)

/-- an element is read as itself -/
def Rv (v : Value) : Option (DataW Value × List MemPlace) := some (.held v, [])
theorem law : Keyed Try.prog 3 := Maps.int_keyed (q := .i64) (by kernel_rfl)
theorem under : Try.prog.underlying 25 = some (.map 3 34) := by kernel_rfl
theorem zeroE (w : World) : (zeroValue 34).run Try.prog w = .ok (.slice none 0 0) w := by kernel_rfl
def Fits (k : Int) : Prop := -9223372036854775808 ≤ k ∧ k ≤ 9223372036854775807
theorem fits_wf {k : Int} (h : Fits k) : (Lit.int .i64 k).wf = true := WalkArith.wf_i64 (by obtain ⟨h1, h2⟩ := h; constructor <;> assumption)
theorem keyed {k : Int} (h : Fits k) : keyOf Try.prog 3 (.int .i64 k) = some (.int .i64 k) := Maps.keyOf_int_mk (by kernel_rfl) (fits_wf h)

/-- block b is a map of at most n entries; at the number k stands f k -/
def MapIs (w : World) (b n : Nat) (f : Int → Option Value) : Prop :=
  ∃ D : DataW Value, w.ownsMap Try.prog 3 Rv b n D ∧ ∀ k : Int, Fits k → Maps.has D (.int .i64 k) = (f k).isSome ∧ ∀ v, f k = some v → ∀ z, D.atKey (.int .i64 k) z = .held v
/-- the same, with one key more -/
def upd (f : Int → Option Value) (k : Int) (v : Value) : Int → Option Value := fun j => if j = k then some v else f j

section
variable {w w' : World} {b n : Nat} {f : Int → Option Value}
theorem MapIs.keep (h : MapIs w b n f) (hk : w'.heap[b]? = w.heap[b]?) : MapIs w' b n f := by
  obtain ⟨D, ⟨es, clock, hb, r⟩, hf⟩ := h
  exact ⟨D, ⟨es, clock, hk.trans hb, r⟩, hf⟩
theorem MapIs.mono (h : MapIs w b n f) {n' : Nat} (hn : n ≤ n') : MapIs w b n' f := by
  obtain ⟨D, ho, hf⟩ := h
  exact ⟨D, ho.mono hn, hf⟩
theorem MapIs.lt (h : MapIs w b n f) : b < w.heap.size := by
  obtain ⟨D, ho, _⟩ := h
  exact ho.lt
theorem MapIs.alloc (h : MapIs w b n f) (o : Obj) : MapIs (w.alloc o) b n f := h.keep (Below.heap_alloc w o b h.lt)
theorem MapIs.drewN (h : MapIs w b n f) (k : Nat) : MapIs (w.drewN k) b n f := h.keep rfl
theorem MapIs.made (w : World) : MapIs (w.alloc (.map #[] 0)) w.heap.size 0 (fun _ => none) :=
  ⟨_, World.ownsMap_made _ _ _ _, fun k _ => ⟨rfl, fun v hv => by cases hv⟩⟩
/-- a block of cells is no map -/
theorem MapIs.ne {g : Nat} {cs : Array Value} {T : TypeId} {fz : Nat × Nat} (h : MapIs w b n f) (hg : w.heap[g]? = some (.cells cs T fz)) : g ≠ b := by
  rintro rfl
  obtain ⟨D, ⟨es, clock, hb, _⟩, _⟩ := h
  rw [hb] at hg
  cases hg
theorem MapIs.own_ne {base : Nat} {e : TypeId} {size m : Nat} {v : Value} {xs : List Value} (h : MapIs w b n f) (ho : w.ownsRow base e size v m xs) : v.ownBlock ≠ some b := by
  rcases ho.2 with ⟨rfl, _⟩ | ⟨g', cap, cur, rfl, _, hh, _⟩
  · simp [Value.ownBlock]
  · intro he
    have : g' = b := by simpa [Value.ownBlock] using he
    exact h.ne hh this

set_option maxRecDepth 100000 in
/-- v, ok := m[k] -/
theorem MapIs.look_ok (h : MapIs w b n f) {k : Int} (hk : Fits k) :
    (Instr.lookup 25 (.map (some b)) (.int .i64 k) true).run Try.prog w = .ok (.tuple #[(f k).getD (.slice none 0 0), .bool (f k).isSome]) w := by
  obtain ⟨D, ho, hf⟩ := h
  obtain ⟨v, ps, hrun, hv⟩ := ho.look_ok law under (zeroE w) (zd := .held (.slice none 0 0)) (zp := []) rfl (keyed hk)
  rw [hrun, (hf k hk).1]
  simp only [Rv, Option.some.injEq, Prod.mk.injEq] at hv
  cases hfk : f k with
  | none =>
    have hh := (hf k hk).1
    rw [hfk] at hh
    rw [Maps.atKey_of_not_has hh] at hv
    obtain ⟨hv, _⟩ := hv
    injection hv with hv
    rw [hv]; rfl
  | some u =>
    rw [(hf k hk).2 u hfk] at hv
    obtain ⟨hv, _⟩ := hv
    injection hv with hv
    rw [hv]; rfl
set_option maxRecDepth 100000 in
/-- m[k] -/
theorem MapIs.look (h : MapIs w b n f) {k : Int} (hk : Fits k) :
    (Instr.lookup 25 (.map (some b)) (.int .i64 k) false).run Try.prog w = .ok ((f k).getD (.slice none 0 0)) w := by
  obtain ⟨D, ho, hf⟩ := h
  obtain ⟨v, ps, hrun, hv⟩ := ho.lookup law under (zeroE w) (zd := .held (.slice none 0 0)) (zp := []) rfl (keyed hk)
  rw [hrun]
  simp only [Rv, Option.some.injEq, Prod.mk.injEq] at hv
  cases hfk : f k with
  | none =>
    have hh := (hf k hk).1
    rw [hfk] at hh
    rw [Maps.atKey_of_not_has hh] at hv
    obtain ⟨hv, _⟩ := hv
    injection hv with hv
    rw [hv]; rfl
  | some u =>
    rw [(hf k hk).2 u hfk] at hv
    obtain ⟨hv, _⟩ := hv
    injection hv with hv
    rw [hv]; rfl
theorem key_ne {j k : Int} (h : j ≠ k) : (Lit.int .i64 j) ≠ (Lit.int .i64 k) := by
  intro e
  injection e with _ e
  exact h e
theorem put_is {D : DataW Value} {k : Int} {v : Value} (hD : Maps.IsMap D) (hk : Fits k) (hf : ∀ k : Int, Fits k → Maps.has D (.int .i64 k) = (f k).isSome ∧ ∀ v, f k = some v → ∀ z, D.atKey (.int .i64 k) z = .held v) :
    ∀ j : Int, Fits j → Maps.has (D.put (.int .i64 k) (.held v)) (.int .i64 j) = (upd f k v j).isSome ∧ ∀ u, upd f k v j = some u → ∀ z, (D.put (.int .i64 k) (.held v)).atKey (.int .i64 j) z = .held u := by
  intro j hj
  have hkk := law.key (keyed hk)
  unfold upd
  by_cases e : j = k
  · subst e
    rw [if_pos rfl]
    refine ⟨by rw [Maps.has_put_same hD hkk]; rfl, fun u hu z => ?_⟩
    injection hu with hu
    subst hu
    exact Maps.atKey_put_same hD hkk _ _
  · rw [if_neg e]
    refine ⟨by rw [Maps.has_put_other (key_ne e)]; exact (hf j hj).1, fun u hu z => ?_⟩
    rw [Maps.atKey_put_other (key_ne e)]
    exact (hf j hj).2 u hu z
/-- m[k] = v -/
theorem MapIs.store (h : MapIs w b n f) {k : Int} (hk : Fits k) (hn : n < maxLen) (v : Value) :
    ∃ w', (Instr.mapUpdate 25 (.map (some b)) (.int .i64 k) v).run Try.prog w = .ok () w' ∧ MapIs w' b (n + 1) (upd f k v) ∧ w.mapTurned w' b := by
  obtain ⟨D, ho, hf⟩ := h
  obtain ⟨w', hrun, h1, h2⟩ := ho.store law under hn (keyed hk) (val := v) (d := .held v) (ps := []) rfl
  exact ⟨w', hrun, ⟨_, h1, put_is ho.isMap hk hf⟩, h2⟩
/-- len(m): some number, no more than n -/
theorem MapIs.len (h : MapIs w b n f) (ty : TypeId) : ∃ m : Nat, (Builtin.len_ #[25] ty #[.map (some b)]).run Try.prog w = .ok (.int .i64 (m : Int)) w ∧ m ≤ n := by
  obtain ⟨D, ho, hf⟩ := h
  exact ⟨_, ho.len under ty, ho.size_le⟩

/-- a range over the map under way: what is still to come -/
def RangeIs (w : World) (b r n : Nat) (f : Int → Option Value) (left : Lit → Bool) (cnt : Nat) : Prop :=
  ∃ D : DataW Value, w.ranges Try.prog 3 Rv b r n D left cnt ∧ ∀ k : Int, Fits k → Maps.has D (.int .i64 k) = (f k).isSome ∧ ∀ v, f k = some v → ∀ z, D.atKey (.int .i64 k) z = .held v
theorem RangeIs.left_eq {r cnt : Nat} {left : Lit → Bool} (h : RangeIs w b r n f left cnt) : w.rangeLeft b r = cnt := by
  obtain ⟨D, h, _⟩ := h
  exact h.left_eq
theorem RangeIs.map {r cnt : Nat} {left : Lit → Bool} (h : RangeIs w b r n f left cnt) : MapIs w b n f := by
  obtain ⟨D, h, hf⟩ := h
  exact ⟨D, h.owns, hf⟩
theorem RangeIs.lt {r cnt : Nat} {left : Lit → Bool} (h : RangeIs w b r n f left cnt) : r < w.heap.size := by
  obtain ⟨D, h, _⟩ := h
  exact h.lt
theorem RangeIs.ne {r cnt : Nat} {left : Lit → Bool} (h : RangeIs w b r n f left cnt) : r ≠ b := by
  obtain ⟨D, h, _⟩ := h
  exact h.ne
theorem RangeIs.keep {r cnt : Nat} {left : Lit → Bool} (h : RangeIs w b r n f left cnt) (hb : w'.heap[b]? = w.heap[b]?) (hr : w'.heap[r]? = w.heap[r]?) : RangeIs w' b r n f left cnt := by
  obtain ⟨D, ⟨es, clock, since, seen, c0, h1, h2, h3, h4, h5, rest⟩, hf⟩ := h
  exact ⟨D, ⟨es, clock, since, seen, c0, hb.trans h1, h2, h3, h4, hr.trans h5, rest⟩, hf⟩
end

section
variable (w : World) {ops : Array Oper} {rest : List Oper} {o : Oper} {a : Act} {Q : Exit → Act → World → Prop}
theorem wl_len (hg : o.guard = none) (m : Operand) (hop : o.op = Op.call { callee := Callee.builtin Builtin.len, args := #[m], argTypes := #[25] }) (b n : Nat) (f : Int → Option Value) (hm : a.eval m = .map (some b)) (h : MapIs w b n f)
    (hK : ∀ k : Nat, k ≤ n → wpList Try.prog ops Q rest (a.put o.dst (.int .i64 (k : Int))) w) : wpList Try.prog ops Q (o :: rest) a w := by
  obtain ⟨D, ho, hf⟩ := h
  exact wpList_len_own w hg m _ hop _ _ under Rv b n D hm ho (hK _ ho.size_le)
theorem wl_range (hg : o.guard = none) (m : Operand) (hop : o.op = Op.range 25 m) (b n : Nat) (f : Int → Option Value) (hm : a.eval m = .map (some b)) (h : MapIs w b n f)
    (hK : ∀ w' left cnt, RangeIs w' b w.heap.size n f left cnt → (∀ k : Int, Fits k → left (.int .i64 k) = (f k).isSome) → cnt ≤ n → w.grownBy w' none → w'.heap.size = w.heap.size + 1 → wpList Try.prog ops Q rest (a.put o.dst (.pointer (some ⟨w.heap.size, 0, none⟩))) w') :
    wpList Try.prog ops Q (o :: rest) a w := by
  obtain ⟨D, ho, hf⟩ := h
  exact wpList_range_own w hg m _ hop _ _ law under Rv b n D hm ho fun w' h1 h2 h3 => hK w' _ _ ⟨D, h1, hf⟩ (fun k hk => (hf k hk).1) ho.size_le h2 h3
set_option maxRecDepth 100000 in
theorem wl_next (hg : o.guard = none) (it : Operand) (hop : o.op = Op.next it false) (b r n : Nat) (f : Int → Option Value) (left : Lit → Bool) (cnt : Nat) (hit : a.eval it = .pointer (some ⟨r, 0, none⟩)) (h : RangeIs w b r n f left cnt)
    (hDone : (∀ k : Int, left (.int .i64 k) = false) → wpList Try.prog ops Q rest (a.put o.dst (.tuple #[.bool false])) w)
    (hMore : ∀ (x : Int) (v : Value) (w' : World) (cnt' : Nat), Fits x → f x = some v → RangeIs w' b r n f (fun z => left z && !z.sameKey (.int .i64 x)) cnt' → cnt' < cnt →
      w.grownBy w' (some r) → w'.heap.size = w.heap.size → (Instr.entry (.pointer (some ⟨r, 0, none⟩))).run Try.prog w' = .ok (.tuple #[.int .i64 x, v]) w' → wpList Try.prog ops Q rest (a.put o.dst (.tuple #[.bool true, .int .i64 x, v])) w') :
    wpList Try.prog ops Q (o :: rest) a w := by
  obtain ⟨D, hr, hf⟩ := h
  refine wpList_next_ranges w hg it hop _ law Rv (Value.int .i64) (fun v : Value => v) (fun key kl hkey => by obtain ⟨x, rfl, _⟩ := Maps.keyOf_int_inv (q := .i64) (by kernel_rfl) hkey; exact ⟨x, rfl⟩) (fun v y hv => ⟨v, rfl⟩) b r n D left cnt hit hr (fun _ hl => hDone fun k => hl _) ?_
  intro x v kl y w' cnt' hkey hlk hv hat hrg hlt hgr hsz hen
  obtain ⟨x', ex, rfl, hwx⟩ := Maps.keyOf_int_inv (q := .i64) (by kernel_rfl) hkey
  cases ex
  have hfx : Fits x := by have := bounds_i64 hwx; exact ⟨by omega, by omega⟩
  have hy : y = (.held v, []) := (Option.some.inj hv).symm
  subst hy
  have hfv : f x = some v := by
    have hh := (hf x hfx).1
    rw [Maps.has_true_of_atKey hat] at hh
    obtain ⟨u, hu⟩ := Option.isSome_iff_exists.1 hh.symm
    have h1 := (hf x hfx).2 u hu .nil
    rw [hat] at h1
    injection h1 with h1
    rw [hu, h1]
  exact hMore x v w' cnt' hfx hfv ⟨D, hrg, hf⟩ hlt hgr hsz hen
end
end Go.Proofs.Ytphfidenjihgeaa.Map
