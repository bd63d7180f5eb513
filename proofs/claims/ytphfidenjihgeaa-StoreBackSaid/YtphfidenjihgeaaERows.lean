/- Rows of a law's own beside a store: they grow, the store goes on. -/
import Derived.Test.YtphfidenjihgeaaESame
namespace Go.Proofs.Ytphfidenjihgeaa.ERows
open DPlain hiding OpV low7 low7_lt
open Go.RowKit WMem WPlain WAppend Ext Map DMem Mk DBase EPlain EMem EFace EAny EFix EAwM EAwake ELaw

structure KR (B0 : Nat) (w : World) (ρ : Ro) (D : Nat → Prop) (T : TypeId) (v : Value) (n : Nat) (zs : List Value) : Prop where
  own : w.ownsRow B0 T 1 v n zs
  far : ∀ q, v.ownBlock = some q → ¬ All ρ D q
structure KE (w : World) (ρ : Ro) (D : Nat → Prop) (vs : List Value) (val : Nat → Bk) : Prop where
  each : ∀ i u, vs[i]? = some u → IsBlk w (fun q => ¬ All ρ D q ∧ q < w.heap.size) u (val i)
section
variable {B0 : Nat} {w w' : World} {ρ ρ' : Ro} {D D' : Nat → Prop} {b db n : Nat} {s' : Sto} {T : TypeId} {v : Value} {zs vs : List Value} {val : Nat → Bk}
theorem KR.nil (B0 : Nat) (w : World) (ρ : Ro) (D : Nat → Prop) (T : TypeId) : KR B0 w ρ D T (.slice none 0 0) 0 [] := ⟨World.ownsRow_nil _ _ _ _, fun q hq => (by cases hq)⟩
theorem KR.goes (h : KR B0 w ρ D T v n zs) (g : Goes w w' ρ D ρ' D' b db s') : KR B0 w' ρ' D' T v n zs :=
  ⟨own_same h.own (fun q hq => g.ext.block q (own_lt h.own q hq) (h.far q hq)), fun q hq hA => by
    rcases g.new q hA with h1 | h1
    · exact h.far q hq h1
    · have := own_lt h.own q hq; omega⟩
theorem KR.below (h : KR B0 w ρ D T v n zs) (hb : Below w.heap.size w w') : KR B0 w' ρ D T v n zs := ⟨own_same h.own (fun q hq => hb.block q (own_lt h.own q hq)), h.far⟩
theorem KE.goes (h : KE w ρ D vs val) (g : Goes w w' ρ D ρ' D' b db s') : KE w' ρ' D' vs val := ⟨fun i u hu =>
  ((h.each i u hu).keep (fun k o hk _ => g.ext.block k hk.2 hk.1)).more fun q hq => ⟨fun hA => by
    rcases g.new q hA with h1 | h1
    · exact hq.1 h1
    · omega, Nat.lt_of_lt_of_le hq.2 g.ext.size⟩⟩
theorem KE.below (h : KE w ρ D vs val) (hb : Below w.heap.size w w') : KE w' ρ D vs val := ⟨fun i u hu =>
  ((h.each i u hu).keep (fun k _ hk _ => hb.block k hk.2)).more fun _ hq => ⟨hq.1, Nat.lt_of_lt_of_le hq.2 hb.size⟩⟩
/-- what a row's growing leaves as it was: whatever is of another type -/
structure Grew (T : TypeId) (w w' : World) : Prop where
  keep : ∀ (q : Nat) (cs : Array Value) (T' : TypeId), w.heap[q]? = some (.cells cs T' (0, 0)) → T ≠ T' → w'.heap[q]? = w.heap[q]?
  size : w.heap.size ≤ w'.heap.size
theorem grew {o : Obj} (h : KR B0 w ρ D T v n zs) (hg : (w.alloc o).grownBy w' v.ownBlock) : Grew T w w' := by
  have hs := hg.size
  simp only [World.size_alloc] at hs
  refine ⟨fun q cs T' hq hne => ?_, by omega⟩
  have h1 := own_ne h.own hq hne
  exact (hg.block q (by simp; have := row_lt hq; omega) (fun e => h1 e.symm)).trans (Below.heap_alloc _ _ _ (row_lt hq))
theorem KR.grew {T2 : TypeId} (h : KR B0 w ρ D T v n zs) (g : Grew T2 w w') (hne : T2 ≠ T) : KR B0 w' ρ D T v n zs := by
  refine ⟨own_same h.own (fun q hq => ?_), h.far⟩
  rcases h.own.2 with ⟨rfl, _⟩ | ⟨g', cap, cur, rfl, _, hh, _⟩
  · cases hq
  · have : g' = q := by simpa [Value.ownBlock] using hq
    subst this
    exact g.keep _ _ _ hh hne
theorem KE.grew {T2 : TypeId} (h : KE w ρ D vs val) (g : Grew T2 w w') (hne : T2 ≠ 5) : KE w' ρ D vs val := ⟨fun i u hu =>
  ((h.each i u hu).keep (fun k _ _ ho => g.keep k _ _ ho hne)).more fun _ hq => ⟨hq.1, Nat.lt_of_lt_of_le hq.2 g.size⟩⟩
theorem KE.snoc (h : KE w ρ D vs val) {u : Value} (hu : IsBlk w (fun q => ¬ All ρ D q ∧ q < w.heap.size) u (val vs.length)) : KE w ρ D (vs ++ [u]) val := ⟨fun i x hx => by
  rcases Nat.lt_or_ge i vs.length with h1 | h1
  · rw [List.getElem?_append_left h1] at hx
    exact h.each i x hx
  · rw [List.getElem?_append_right h1] at hx
    have h2 : i - vs.length < 1 := by have := (List.getElem?_eq_some_iff.1 hx).1; simpa using this
    have h3 : i = vs.length := by omega
    subst h3
    simp at hx
    subst hx
    exact hu⟩
/-- the row that grew -/
theorem KR.snoc {o : Obj} {v' u : Value} (h : KR B0 w ρ D T v n zs) (ht : There (All ρ D) w) (ho : w'.ownsRow B0 T 1 v' (n + 1) (zs ++ [u])) (hat : v'.ownBlock = v.ownBlock ∨ v'.ownBlock = some (w.alloc o).heap.size) : KR B0 w' ρ D T v' (n + 1) (zs ++ [u]) :=
  ⟨ho, fun q hq hA => by
    rcases hat with h1 | h1
    · rw [h1] at hq; exact h.far q hq hA
    · rw [h1] at hq
      injection hq with hq
      have := ht q hA
      simp at hq
      omega⟩
theorem live_grew {a : World} {s : Sto} {o : Obj} (hl : Live a w ρ D b db s) (h : KR a.heap.size w ρ D T v n zs) (hg : (w.alloc o).grownBy w' v.ownBlock) : Live a w' ρ D b db s := by
  have h1 : Live a (w.alloc o) ρ D b db s := hl.go ((Below.refl _ _).alloc (Nat.le_refl _) _)
  exact h1.ext (Ext.of_grown hg (S := fun q => v.ownBlock = some q) (fun q hq _ => hq)) (fun q h2 h3 => h.far q h2 h3) (fun q hq => own_ge h.own q hq)
end
theorem elemV : Elem Try.prog 59 34 24 := ⟨by kernel_rfl, by
  obtain ⟨i, h1, h2, h3, h4⟩ := info_parts (P := Try.prog) (e := 34) (z := .slice none 0 0) (size := 1) (bytes := 24) (by kernel_rfl)
  exact ⟨i, _, h1, h2, h3, h4, rfl⟩⟩
theorem elemB : Elem Try.prog 60 4 1 := ⟨by kernel_rfl, by
  obtain ⟨i, h1, h2, h3, h4⟩ := info_parts (P := Try.prog) (e := 4) (z := .bool false) (size := 1) (bytes := 1) (by kernel_rfl)
  exact ⟨i, _, h1, h2, h3, h4, rfl⟩⟩

set_option maxHeartbeats 1600000 in
set_option maxRecDepth 100000 in
/-- two lists of the same numbers are the same -/
theorem sameInts_yes (l : List Nat) (B B' : Nat) (A A' : Option Addr) (c c' : Nat) (w : World) (hl : l.length ≤ 1073741824) (h1 : Sl w B A (l.map natv)) (h2 : Sl w B' A' (l.map natv)) :
    Calls Try.prog 28 #[.slice A l.length c, .slice A' l.length c'] w fun e w' => e = .returned (.bool true) ∧ ∃ n, w' = w.drewN n := by
  have H1 := Lib.hid h1
  have H2 := Lib.hid h2
  clear h1 h2
  go_enter Try.func28, Try.ntmps28
  go_wp2
  go_loopw [5] (fun i wr => ∃ k n : Nat, k ≤ l.length ∧ i = .int .i64 k ∧ wr = w.drewN n) (fun i _ => l.length - (RowKit.intOf i).toNat)
  case atStart => exact ⟨0, 0, Nat.zero_le _, rfl, rfl⟩
  case round =>
    obtain ⟨k, n, hk, rfl, rfl⟩ := hrel
    by_cases hlt : k < l.length
    · obtain ⟨a, rfl, _, p0⟩ := H1.out.nat hlt
      obtain ⟨a', rfl, _, p0'⟩ := H2.out.nat hlt
      have hk0 : (0 : Int) ≤ (k : Int) := Int.natCast_nonneg _
      have hk1 : (k : Int) < (l.length : Int) := by omega
      generalize l[k] = j at *
      have hne : ((j : Int) != (j : Int)) = false := by simp
      go_wp2
      go_quiet (fail)
      go_wp2
      go_roundw
      case rel => exact ⟨k + 1, n + nq, by omega, by go_num, rfl⟩
      case measure => simp [RowKit.intOf]; omega
    · go_wp2
      go_ret
      exact ⟨rfl, n, rfl⟩

/-! ### what a later change leaves to be undone -/
structure Later (s t : Sto) : Prop where
  ex : ∃ xs, t.acts = s.acts ++ xs ∧ undoAll xs t.now = s.now
  wai : t.wai = s.wai
  d : t.d = s.d
theorem Later.refl (s : Sto) : Later s s := ⟨⟨[], by simp, rfl⟩, rfl, rfl⟩
section
variable {s t : Sto} (h : Later s t)
include h
theorem Later.N : t.N = s.N := by unfold Sto.N; rw [h.d]
theorem Later.write (n : Int) (l : Bk) : Later s (writeI t n l) := by
  unfold writeI
  split
  · obtain ⟨xs, h1, h2⟩ := h.ex
    refine ⟨⟨xs ++ [Sto.actW t.now n.toNat], by show t.acts ++ _ = _; rw [h1, List.append_assoc], ?_⟩, h.wai, h.d⟩
    rw [undoAll_snoc]
    show undoAll xs ((Sto.actW t.now n.toNat).undo ⟨fun j => if j = n.toNat then some l else t.now.chg j, t.now.hld⟩) = _
    rw [Sto.actW_undo, h2]
  · exact h
theorem Later.hold (n : Int) : Later s (holdI t n) := by
  unfold holdI
  split
  · obtain ⟨xs, h1, h2⟩ := h.ex
    refine ⟨⟨xs ++ [Sto.actH t.now n.toNat], by show t.acts ++ _ = _; rw [h1, List.append_assoc], ?_⟩, h.wai, h.d⟩
    rw [undoAll_snoc]
    show undoAll xs ((Sto.actH t.now n.toNat).undo ⟨t.now.chg, fun j => if j = n.toNat then true else t.now.hld j⟩) = _
    rw [Sto.actH_undo, h2]
  · exact h
theorem Later.readN (n : Nat) : Later s (t.read n) := by
  have hr : (t.read n).d = t.d ∧ (t.read n).now = t.now ∧ (t.read n).wai = t.wai ∧ (t.read n).acts = t.acts := by
    unfold Sto.read
    split
    · exact ⟨rfl, rfl, rfl, rfl⟩
    · split <;> exact ⟨rfl, rfl, rfl, rfl⟩
  obtain ⟨a1, a2, a3, a4⟩ := hr
  obtain ⟨xs, h1, h2⟩ := h.ex
  exact ⟨⟨xs, by rw [a4, h1], by rw [a2, h2]⟩, by rw [a3, h.wai], by rw [a1, h.d]⟩
theorem Later.read (n : Int) : Later s (readI t n) := by
  unfold readI
  split
  · exact h.readN _
  · exact h
theorem Later.val (hn : t.now = s.now) (n : Nat) : t.val n = s.val n := by unfold Sto.val; rw [hn, h.wai, h.d]
theorem Later.le : s.acts.length ≤ t.acts.length := by
  obtain ⟨xs, h1, _⟩ := h.ex
  rw [h1, List.length_append]
  omega
theorem Later.back : Later s (t.back s.acts.length) ∧ (t.back s.acts.length).now = s.now ∧ (t.back s.acts.length).acts = s.acts := by
  obtain ⟨xs, h1, h2⟩ := h.ex
  have e1 : (t.back s.acts.length).now = s.now := by
    show undoAll (t.acts.drop s.acts.length) t.now = _
    rw [h1, List.drop_left, h2]
  have e2 : (t.back s.acts.length).acts = s.acts := by
    show t.acts.take s.acts.length = _
    rw [h1, List.take_left]
  exact ⟨⟨⟨[], by rw [e2]; simp, e1⟩, h.wai, h.d⟩, e1, e2⟩
end
end Go.Proofs.Ytphfidenjihgeaa.ERows
