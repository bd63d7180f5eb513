/- Walkers with rising keys, in memory. -/
import Derived.Test.YtfaahhipddlmgaaKWPlain
import Derived.Test.YtfaahhipddlmgaaKArgs
import Derived.Test.YtfaahhipddlmgaaKRMem
import Derived.Test.YtfaahhipddlmgaaWAppend
namespace Go.Proofs.Ytfaahhipddlmgaa.KWMem
open Go.RowKit WMem Ext WAppend KMap KPlain KMem KAsk KLeave KLaw KScript KWPlain KRMem

def ptrs (p : Nat → Nat) (m : Nat) : List Value := (List.range m).map fun i => .pointer (some ⟨p i, 0, none⟩)
def ints (f : Nat → Int) (m : Nat) : List Value := (List.range m).map fun i => .int .i64 (f i)
/-- one walker: block g -/
structure Body (a w : World) (T : Nat → Prop) (g : Nat) (x : Wk) : Prop where
  is : ∃ K c, w.heap[g]? = some (.cells #[.slice K x.len c, .int .i64 x.n, .bool x.done] 51 (0, 0)) ∧ w.ownsRow a.heap.size 3 1 (.slice K x.len c) x.len (ints x.key x.len) ∧ ∀ q, (Value.slice K x.len c).ownBlock = some q → T q
  here : T g
/-- the walkers: v a row of pointers to them; all that they are made of lies in T -/
structure Team (a w : World) (T : Nat → Prop) (v : Value) (p : Nat → Nat) (W : Nat → Wk) (m : Nat) : Prop where
  row : w.ownsRow a.heap.size 52 1 v m (ptrs p m)
  rowT : ∀ q, v.ownBlock = some q → T q
  body : ∀ i, i < m → Body a w T (p i) (W i)
  apart : ∀ i j, i < m → j < m → p i = p j → i = j
  there : There T w
  new : ∀ q, T q → a.heap.size ≤ q
section
variable {a w w' : World} {T T' S : Nat → Prop} {v : Value} {p : Nat → Nat} {W : Nat → Wk} {m g : Nat} {x : Wk}
theorem Body.keep (h : Body a w T g x) (hk : ∀ q, T q → w'.heap[q]? = w.heap[q]?) : Body a w' T g x := by
  obtain ⟨⟨K, c, h1, h2, h3⟩, h4⟩ := h
  exact ⟨⟨K, c, (hk g h4).trans h1, own_same h2 (fun q hq => hk q (h3 q hq)), h3⟩, h4⟩
theorem Body.up (h : Body a w T g x) (hT : ∀ q, T q → T' q) : Body a w T' g x := by
  obtain ⟨⟨K, c, h1, h2, h3⟩, h4⟩ := h
  exact ⟨⟨K, c, h1, h2, fun q hq => hT q (h3 q hq)⟩, hT g h4⟩
theorem Team.keep (h : Team a w T v p W m) (hk : ∀ q, T q → w'.heap[q]? = w.heap[q]?) (hs : w.heap.size ≤ w'.heap.size) : Team a w' T v p W m :=
  ⟨own_same h.row (fun q hq => hk q (h.rowT q hq)), h.rowT, fun i hi => (h.body i hi).keep hk, h.apart, h.there.up hs, h.new⟩
/-- a call turns nothing but what is not of the walkers -/
theorem Team.ext (h : Team a w T v p W m) (he : Ext S w w') (hf : Far S T) : Team a w' T v p W m := h.keep (he.keeps hf h.there) he.size
theorem Team.below (h : Team a w T v p W m) (hb : Below w.heap.size w w') : Team a w' T v p W m := h.keep (fun q hq => hb.block q (h.there q hq)) hb.size
theorem body_set (x' : Wk) (i : Nat) (u : Value) (h : Body a w T g x)
    (hc : ∀ K c, (#[.slice K x.len c, .int .i64 x.n, .bool x.done] : Array Value).setIfInBounds i u = #[.slice K x'.len c, .int .i64 x'.n, .bool x'.done]) (hl : x'.len = x.len) (hk : x'.key = x.key) : Body a (w.setCell ⟨g, i, none⟩ u) T g x' := by
  obtain ⟨⟨K, c, h1, h2, h3⟩, h4⟩ := h
  have hne := own_ne h2 h1 (by decide)
  have h5 := row_set h1 i u
  rw [hc] at h5
  refine ⟨⟨K, c, h5, ?_, ?_⟩, h4⟩
  · rw [hl, hk]
    exact own_same h2 (fun q hq => Below.heap_setCell _ _ _ q (fun e => hne (by rw [hq]; exact congrArg some e)))
  · rw [hl]; exact h3
/-- a walker's own cells are turned -/
theorem Team.turn (h : Team a w T v p W m) {i : Nat} (hi : i < m) (x' : Wk) (j : Nat) (u : Value)
    (hc : ∀ K c, (#[.slice K (W i).len c, .int .i64 (W i).n, .bool (W i).done] : Array Value).setIfInBounds j u = #[.slice K x'.len c, .int .i64 x'.n, .bool x'.done]) (hl : x'.len = (W i).len) (hk : x'.key = (W i).key) :
    Team a (w.setCell ⟨p i, j, none⟩ u) T v p (upd W i x') m := by
  have hb : ∀ q, q ≠ p i → (w.setCell ⟨p i, j, none⟩ u).heap[q]? = w.heap[q]? := fun q hq => Below.heap_setCell _ _ _ q hq
  refine ⟨own_same h.row (fun q hq => hb q ?_), h.rowT, fun k hk2 => ?_, h.apart, fun q hq => by simpa [World.setCell] using h.there q hq, h.new⟩
  · rintro rfl
    obtain ⟨⟨K, c, h1, _, _⟩, _⟩ := h.body i hi
    exact own_ne h.row h1 (by decide) hq
  · by_cases e : k = i
    · subst e
      rw [upd_same]
      exact body_set x' j u (h.body k hk2) hc hl hk
    · rw [upd_other _ _ e]
      obtain ⟨⟨K, c, h1, h2, h3⟩, h4⟩ := h.body k hk2
      refine ⟨⟨K, c, (hb _ (fun e2 => e (h.apart k i hk2 hi e2))).trans h1, own_same h2 (fun q hq => hb q ?_), h3⟩, h4⟩
      rintro rfl
      obtain ⟨⟨K', c', g1, _, _⟩, _⟩ := h.body i hi
      exact own_ne h2 g1 (by decide) hq
/-- it has asked for one more -/
theorem Team.more (h : Team a w T v p W m) {i : Nat} (hi : i < m) : Team a (w.setCell ⟨p i, 1, none⟩ (.int .i64 ((W i).n + 1 : Nat))) T v p (upd W i (more (W i))) m :=
  h.turn hi _ 1 _ (fun _ _ => rfl) rfl rfl
/-- it is done -/
theorem Team.ends (h : Team a w T v p W m) {i : Nat} (hi : i < m) : Team a (w.setCell ⟨p i, 2, none⟩ (.bool true)) T v p (upd W i (ended (W i))) m :=
  h.turn hi _ 2 _ (fun _ _ => rfl) rfl rfl
/-- what is read of it -/
theorem Team.reads (h : Team a w T v p W m) {i : Nat} (hi : i < m) : ∃ g0 c K d, v = .slice (some ⟨g0, 0, none⟩) m c ∧ w.cell? ⟨g0, i, none⟩ = some (.pointer (some ⟨p i, 0, none⟩)) ∧
    w.cell? ⟨p i, 0, none⟩ = some (.slice K (W i).len d) ∧ w.cell? ⟨p i, 1, none⟩ = some (.int .i64 (W i).n) ∧ w.cell? ⟨p i, 2, none⟩ = some (.bool (W i).done) ∧
    ∀ j, j < (W i).len → ∃ g, K = some ⟨g, 0, none⟩ ∧ g < w.heap.size ∧ T g ∧ w.cell? ⟨g, j, none⟩ = some (.int .i64 ((W i).key j)) := by
  obtain ⟨⟨K, d, h1, h2, h3⟩, h4⟩ := h.body i hi
  have hr := h.row
  rcases hr.2 with ⟨_, h0⟩ | ⟨g, cap, cur, rfl, _, _⟩
  · omega
  · refine ⟨g, _, K, d, rfl, ?_, (row_cell h1 0).trans rfl, (row_cell h1 1).trans rfl, (row_cell h1 2).trans rfl, fun j hj => ?_⟩
    · rw [hr.cellAt i (by omega)]
      simp [ptrs, hi]
    · have h2' := h2
      rcases h2.2 with ⟨_, h0⟩ | ⟨g', cap', cur', hv, _, hg', _⟩
      · omega
      · simp only [Value.slice.injEq] at hv
        obtain ⟨rfl, -, rfl⟩ := hv
        refine ⟨g', rfl, row_lt hg', h3 _ rfl, ?_⟩
        rw [h2'.cellAt j (by omega)]
        simp [ints, hj]
theorem Team.at (h : Team a w T v p W m) {i : Nat} (hi : i < m) : T (p i) ∧ p i < w.heap.size := ⟨(h.body i hi).here, h.there _ (h.body i hi).here⟩
end
end Go.Proofs.Ytfaahhipddlmgaa.KWMem
