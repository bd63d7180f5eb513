/- The store's parts turn, one at a time: what is changed, what is held, the caches, the counts, what undoes. -/
import Derived.Test.YtphfidenjihgeaaEUnwrite
namespace Go.Proofs.Ytphfidenjihgeaa.EPush
open Go.RowKit WMem WPlain WAppend Ext Map DPlain DMem Mk DBase DRead DWrite EPlain EMem ECache EFace EUnwrite

section
variable {w w' w1 w2 : World} {ρ ρ' : Ro} {b db m1 m2 m3 g : Nat} {s : Sto} {Uv : Value} {us : List Value}
theorem role_ne {q m : Nat} {r : Role} (h : ρ m = r) (hq : ρ q ≠ r) : q ≠ m := fun e => hq (by rw [e, h])
/-- one map's block has turned; all else stands -/
theorem SSx.chgTurn {f : Nat → Option Bk} (hx : SSx w ρ b db s m1 m2 m3 g Uv us) (hm : MapB w' ρ .chg m1 s.N f) (ht : w.mapTurned w' m1) : SSx w' ρ b db { s with now := ⟨f, s.now.hld⟩ } m1 m2 m3 g Uv us := by
  have kr : ∀ q, ρ q ≠ .chg → w'.heap[q]? = w.heap[q]? := fun q hq => turned_far ht (role_ne hx.chg.1 hq)
  have kst : ∀ q, ρ q = .still → w'.heap[q]? = w.heap[q]? := fun q hq => kr q (by rw [hq]; intro e; cases e)
  refine ⟨(kr b (by rw [hx.rb]; intro e; cases e)).trans hx.block, hx.rb, hm, hx.wai.keep kst (fun _ h => h) (kr _ (by rw [hx.wai.1]; intro e; cases e)) rfl, hx.hld.keep (kr _ (by rw [hx.hld.1]; intro e; cases e)) rfl,
    hx.cac.keep (fun q hq => ?_) (fun _ _ => rfl), OwnS.part hx.undo (fun q hq => kr q (by rw [hq]; intro e; cases e)) (fun _ h => h), hx.acts.keep kst (fun _ h => h), hx.there.up (Nat.le_of_eq (turned_size ht).symm)⟩
  rcases hq with hq | hq
  · exact kst q hq
  · exact kr q (fun e => by rw [e] at hq; exact hq)
theorem SSx.waiTurn {f : Nat → Option Bk} (hx : SSx w ρ b db s m1 m2 m3 g Uv us) (hm : MapB w' ρ .wai m2 s.N f) (ht : w.mapTurned w' m2) : SSx w' ρ b db { s with wai := f } m1 m2 m3 g Uv us := by
  have kr : ∀ q, ρ q ≠ .wai → w'.heap[q]? = w.heap[q]? := fun q hq => turned_far ht (role_ne hx.wai.1 hq)
  have kst : ∀ q, ρ q = .still → w'.heap[q]? = w.heap[q]? := fun q hq => kr q (by rw [hq]; intro e; cases e)
  refine ⟨(kr b (by rw [hx.rb]; intro e; cases e)).trans hx.block, hx.rb, hx.chg.keep kst (fun _ h => h) (kr _ (by rw [hx.chg.1]; intro e; cases e)) rfl, hm, hx.hld.keep (kr _ (by rw [hx.hld.1]; intro e; cases e)) rfl,
    hx.cac.keep (fun q hq => ?_) (fun _ _ => rfl), OwnS.part hx.undo (fun q hq => kr q (by rw [hq]; intro e; cases e)) (fun _ h => h), hx.acts.keep kst (fun _ h => h), hx.there.up (Nat.le_of_eq (turned_size ht).symm)⟩
  rcases hq with hq | hq
  · exact kst q hq
  · exact kr q (fun e => by rw [e] at hq; exact hq)
theorem SSx.hldTurn {f : Nat → Bool} (hx : SSx w ρ b db s m1 m2 m3 g Uv us) (hm : MapH w' ρ m3 s.N f) (ht : w.mapTurned w' m3) : SSx w' ρ b db { s with now := ⟨s.now.chg, f⟩ } m1 m2 m3 g Uv us := by
  have kr : ∀ q, ρ q ≠ .hld → w'.heap[q]? = w.heap[q]? := fun q hq => turned_far ht (role_ne hx.hld.1 hq)
  have kst : ∀ q, ρ q = .still → w'.heap[q]? = w.heap[q]? := fun q hq => kr q (by rw [hq]; intro e; cases e)
  refine ⟨(kr b (by rw [hx.rb]; intro e; cases e)).trans hx.block, hx.rb, hx.chg.keep kst (fun _ h => h) (kr _ (by rw [hx.chg.1]; intro e; cases e)) rfl, hx.wai.keep kst (fun _ h => h) (kr _ (by rw [hx.wai.1]; intro e; cases e)) rfl, hm,
    hx.cac.keep (fun q hq => ?_) (fun _ _ => rfl), OwnS.part hx.undo (fun q hq => kr q (by rw [hq]; intro e; cases e)) (fun _ h => h), hx.acts.keep kst (fun _ h => h), hx.there.up (Nat.le_of_eq (turned_size ht).symm)⟩
  rcases hq with hq | hq
  · exact kst q hq
  · exact kr q (fun e => by rw [e] at hq; exact hq)
/-- the caches have turned -/
theorem SSx.cacTurn {cch : List (List Nat)} (hx : SSx w ρ b db s m1 m2 m3 g Uv us) (hl : cch.length = s.cch.length) (hc : Cac w' ρ' g s.N s.d.readAt cch) (he : Ext (fun k => isC (ρ k)) w w') (hs : Same ρ ρ' w) (ht : There (Mine ρ') w') :
    SSx w' ρ' b db { s with cch := cch } m1 m2 m3 g Uv us := by
  have kr : ∀ q, Mine ρ q → ¬ isC (ρ q) → w'.heap[q]? = w.heap[q]? := fun q hm hq => he.block q (hx.there q hm) hq
  have rr : ∀ q, Mine ρ q → ρ' q = ρ q := fun q hm => hs q (hx.there q hm)
  have kst : ∀ q, ρ q = .still → w'.heap[q]? = w.heap[q]? := fun q hq => kr q (mine_still q hq) (by rw [hq]; exact id)
  have rst : ∀ q, ρ q = .still → ρ' q = .still := fun q hq => (rr q (mine_still q hq)).trans hq
  have mb := mine_of hx.rb (by intro e; cases e)
  have mc := mine_of hx.chg.1 (by intro e; cases e)
  have mw := mine_of hx.wai.1 (by intro e; cases e)
  have mh := mine_of hx.hld.1 (by intro e; cases e)
  refine ⟨?_, (rr b mb).trans hx.rb, hx.chg.keep kst rst (kr _ mc (by rw [hx.chg.1]; exact id)) (rr _ mc), hx.wai.keep kst rst (kr _ mw (by rw [hx.wai.1]; exact id)) (rr _ mw), hx.hld.keep (kr _ mh (by rw [hx.hld.1]; exact id)) (rr _ mh),
    hc, OwnS.part hx.undo (fun q hq => kr q (mine_of hq (by intro e; cases e)) (by rw [hq]; exact id)) (fun q hq => (rr q (mine_of hq (by intro e; cases e))).trans hq), hx.acts.keep kst rst, ht⟩
  rw [kr b mb (by rw [hx.rb]; exact id), hx.block]
  simp only [hl]
/-- one of the structure's cells has turned -/
theorem SSx.cellTurn {i : Nat} {v : Value} {s' : Sto} (hx : SSx w ρ b db s m1 m2 m3 g Uv us) (hblock : (w.setCell ⟨b, i, none⟩ v).heap[b]? = some (.cells #[.pointer (some ⟨db, 0, none⟩), .map (some m1), .map (some m2), .slice (some ⟨g, 0, none⟩) s'.cch.length s'.cch.length, .int .i64 (s'.room : Int), .map (some m3), Uv, .int .i64 (s'.found : Int), .int .i64 (s'.asked : Int)] 32 (0, 0)))
    (e1 : s'.d = s.d) (e2 : s'.now = s.now) (e3 : s'.wai = s.wai) (e4 : s'.acts = s.acts) (e5 : s'.cch = s.cch) : SSx (w.setCell ⟨b, i, none⟩ v) ρ b db s' m1 m2 m3 g Uv us := by
  have kr : ∀ q, ρ q ≠ .store → (w.setCell ⟨b, i, none⟩ v).heap[q]? = w.heap[q]? := fun q hq => Below.heap_setCell w _ _ q (role_ne hx.rb hq)
  have kst : ∀ q, ρ q = .still → (w.setCell ⟨b, i, none⟩ v).heap[q]? = w.heap[q]? := fun q hq => kr q (by rw [hq]; intro e; cases e)
  have eN : s'.N = s.N := by unfold Sto.N; rw [e1]
  refine ⟨hblock, hx.rb, ?_, ?_, ?_, ?_, ?_, ?_, hx.there.up (by simp [World.setCell])⟩
  · rw [eN, e2]
    exact hx.chg.keep kst (fun _ h => h) (kr _ (by rw [hx.chg.1]; intro e; cases e)) rfl
  · rw [eN, e3]
    exact hx.wai.keep kst (fun _ h => h) (kr _ (by rw [hx.wai.1]; intro e; cases e)) rfl
  · rw [eN, e2]
    exact hx.hld.keep (kr _ (by rw [hx.hld.1]; intro e; cases e)) rfl
  · rw [eN, e1, e5]
    refine hx.cac.keep (fun q hq => ?_) (fun _ _ => rfl)
    rcases hq with hq | hq
    · exact kst q hq
    · exact kr q (fun e => by rw [e] at hq; exact hq)
  · rw [e4]
    exact OwnS.part hx.undo (fun q hq => kr q (by rw [hq]; intro e; cases e)) (fun _ h => h)
  · rw [e4]
    exact hx.acts.keep kst (fun _ h => h)
theorem SSx.foundTurn (hx : SSx w ρ b db s m1 m2 m3 g Uv us) (n : Nat) : SSx (w.setCell ⟨b, 7, none⟩ (.int .i64 (n : Int))) ρ b db { s with found := n } m1 m2 m3 g Uv us :=
  SSx.cellTurn hx (by have h := row_set hx.block 7 (.int .i64 (n : Int)); simpa using h) rfl rfl rfl rfl rfl
theorem SSx.askedTurn (hx : SSx w ρ b db s m1 m2 m3 g Uv us) (n : Nat) : SSx (w.setCell ⟨b, 8, none⟩ (.int .i64 (n : Int))) ρ b db { s with asked := n } m1 m2 m3 g Uv us :=
  SSx.cellTurn hx (by have h := row_set hx.block 8 (.int .i64 (n : Int)); simpa using h) rfl rfl rfl rfl rfl

/-- a call that turns only the store's own blocks -/
theorem goes_of {D : Nat → Prop} {s' : Sto} {m1' m2' m3' g' : Nat} {Uv' : Value} {us' : List Value} (h : Own w ρ D b db s) (hx : SSx w' ρ' b db s' m1' m2' m3' g' Uv' us') (hw : s'.Wf) (hd : s'.d = s.d) (hs : Same ρ ρ' w) (he : Ext (Mine ρ) w w') : Goes w w' ρ D ρ' D b db s' := by
  have hm : ∀ k, Mine ρ' k → k < w.heap.size → Mine ρ k := fun k hk hlt => by
    unfold Mine at hk ⊢
    rw [← hs k hlt]; exact hk
  refine ⟨⟨⟨_, _, _, _, _, _, hx, hw⟩, ?_, fun k h1 h2 => h.far k (hm k h1 (h.dd.there k h2)) h2⟩, he.more (fun k _ hk => .inl hk), fun k hk => ?_⟩
  · rw [hd]
    exact h.dd.ext he h.far
  · rcases hk with hk | hk
    · by_cases hlt : k < w.heap.size
      · exact .inl (.inl (hm k hk hlt))
      · exact .inr (by omega)
    · exact .inl (.inr hk)
theorem Same.trans {ρ'' : Ro} (h : Same ρ ρ' w) (h' : Same ρ' ρ'' w') (hs : w.heap.size ≤ w'.heap.size) : Same ρ ρ'' w := fun q hq => (h' q (Nat.lt_of_lt_of_le hq hs)).trans (h q hq)
theorem same_more (ρ : Ro) (w : World) (z' : Nat) : Same ρ (more ρ w.heap.size z') w := fun _ hq => more_old hq
/-- what may turn later, seen from before -/
theorem in_mine (hs : Same ρ ρ' w) {S : Nat → Prop} (h : ∀ q, S q → Mine ρ' q) : In S (Mine ρ) w := fun q hq => by
  by_cases hlt : q < w.heap.size
  · have := h q hq
    unfold Mine at this ⊢
    rw [hs q hlt] at this
    exact .inl this
  · exact .inr (by omega)

/-- one more that undoes -/
theorem push_of {gg cap : Nat} {v : Value} {a : Deed} {o : Obj} (hx : SSx w ρ b db s m1 m2 m3 g Uv us) (hb : Below w.heap.size w w1) (ha : ActIs w1 (more ρ w.heap.size w1.heap.size) b v a)
    (hown : w2.ownsRow 0 1 1 (.slice (some ⟨gg, 0, none⟩) (s.acts.length + 1) cap) (s.acts.length + 1) (us ++ [v])) (hg : (w1.alloc o).grownBy w2 Uv.ownBlock) (hat : Uv.ownBlock = some gg ∨ gg = w1.heap.size + 1) :
    ∃ ρ', SSx (w2.setCell ⟨b, 6, none⟩ (.slice (some ⟨gg, 0, none⟩) (s.acts.length + 1) cap)) ρ' b db { s with acts := s.acts ++ [a] } m1 m2 m3 g (.slice (some ⟨gg, 0, none⟩) (s.acts.length + 1) cap) (us ++ [v]) ∧
      Same ρ ρ' w ∧ Ext (Mine ρ) w (w2.setCell ⟨b, 6, none⟩ (.slice (some ⟨gg, 0, none⟩) (s.acts.length + 1) cap)) := by
  have hx1 := SSx.more hx hb
  obtain ⟨R1, hR⟩ : ∃ R1, more ρ w.heap.size w1.heap.size = R1 := ⟨_, rfl⟩
  rw [hR] at hx1 ha
  have s1 := hb.size
  have s2 := hg.size
  simp only [World.size_alloc] at s2
  have ru : ∀ q, Uv.ownBlock = some q → R1 q = .undo := fun q hq => hx1.undo.2 q hq
  have lb : b < w1.heap.size := row_lt hx1.block
  have far2 : ∀ q, q < w1.heap.size → R1 q ≠ .undo → w2.heap[q]? = w1.heap[q]? := fun q q1 q2 => (hg.block q (by simp; omega) (fun e => q2 (ru q e.symm))).trans (Below.heap_alloc _ _ _ q1)
  have far : ∀ q, q < w1.heap.size → R1 q ≠ .undo → R1 q ≠ .store → (w2.setCell ⟨b, 6, none⟩ (.slice (some ⟨gg, 0, none⟩) (s.acts.length + 1) cap)).heap[q]? = w1.heap[q]? := fun q q1 q2 q3 =>
    (Below.heap_setCell w2 _ _ q (role_ne hx1.rb q3)).trans (far2 q q1 q2)
  have rb1 := hx1.rb
  have hgg : gg < w1.heap.size → R1 gg = .undo := fun hlt => by
    rcases hat with h | h
    · exact ru gg h
    · omega
  have ngb : gg ≠ b := fun e => by
    by_cases hlt : gg < w1.heap.size
    · have := hgg hlt; rw [e, rb1] at this; cases this
    · omega
  have hsame1 : ∀ q, q < w1.heap.size → (if q = gg then Role.undo else R1 q) = R1 q := fun q hq => by
    split
    · rename_i e; subst e; exact (hgg hq).symm
    · rfl
  have mine1 : ∀ q, Mine R1 q → (if q = gg then Role.undo else R1 q) = R1 q := fun q hq => hsame1 q (hx1.there q hq)
  have kst : ∀ q, R1 q = .still → (w2.setCell ⟨b, 6, none⟩ (.slice (some ⟨gg, 0, none⟩) (s.acts.length + 1) cap)).heap[q]? = w1.heap[q]? := fun q hq => far q (hx1.there q (mine_still q hq)) (by rw [hq]; intro e; cases e) (by rw [hq]; intro e; cases e)
  have rst : ∀ q, R1 q = .still → (if q = gg then Role.undo else R1 q) = .still := fun q hq => (mine1 q (mine_still q hq)).trans hq
  have kr : ∀ q, Mine R1 q → R1 q ≠ .undo → R1 q ≠ .store → (w2.setCell ⟨b, 6, none⟩ (.slice (some ⟨gg, 0, none⟩) (s.acts.length + 1) cap)).heap[q]? = w1.heap[q]? := fun q hm a1 a2 => far q (hx1.there q hm) a1 a2
  have mc := mine_of hx1.chg.1 (by intro e; cases e)
  have mw := mine_of hx1.wai.1 (by intro e; cases e)
  have mh := mine_of hx1.hld.1 (by intro e; cases e)
  have hgs : gg < w2.heap.size := own_lt hown gg rfl
  have ez : (w2.setCell ⟨b, 6, none⟩ (.slice (some ⟨gg, 0, none⟩) (s.acts.length + 1) cap)).heap.size = w2.heap.size := by simp [World.setCell]
  refine ⟨fun q => if q = gg then .undo else R1 q, ⟨?_, (mine1 b (mine_of rb1 (by intro e; cases e))).trans rb1, ?_, ?_, ?_, ?_, ?_, ?_, fun q hq => ?_⟩, fun q hq => ?_, ?_⟩
  · have h5 := row_set ((far2 b lb (by rw [rb1]; intro e; cases e)).trans hx1.block) 6 (.slice (some ⟨gg, 0, none⟩) (s.acts.length + 1) cap)
    simpa using h5
  · exact hx1.chg.keep kst rst (kr _ mc (by rw [hx1.chg.1]; intro e; cases e) (by rw [hx1.chg.1]; intro e; cases e)) (mine1 _ mc)
  · exact hx1.wai.keep kst rst (kr _ mw (by rw [hx1.wai.1]; intro e; cases e) (by rw [hx1.wai.1]; intro e; cases e)) (mine1 _ mw)
  · exact hx1.hld.keep (kr _ mh (by rw [hx1.hld.1]; intro e; cases e) (by rw [hx1.hld.1]; intro e; cases e)) (mine1 _ mh)
  · refine hx1.cac.keep (fun q hq => ?_) (fun q hq => ?_)
    · rcases hq with hq | hq
      · exact kst q hq
      · exact kr q (mine_c hq) (fun e => by rw [e] at hq; exact hq) (fun e => by rw [e] at hq; exact hq)
    · rcases hq with hq | hq
      · exact mine1 q (mine_still q hq)
      · exact mine1 q (mine_c hq)
  · refine ⟨?_, fun q hq => ?_⟩
    · show World.ownsRow _ 0 _ 1 _ (s.acts ++ [a]).length _
      rw [List.length_append]
      exact own_same hown (fun q hq => Below.heap_setCell w2 _ _ q (by simp [Value.ownBlock] at hq; subst hq; exact ngb))
    · simp [Value.ownBlock] at hq
      exact if_pos hq.symm
  · exact (hx1.acts.snoc ha).keep kst rst
  · rw [ez]
    by_cases e : q = gg
    · rw [e]; exact hgs
    · unfold Mine at hq
      simp only [if_neg e] at hq
      have := hx1.there q hq
      omega
  · refine (hsame1 q (by omega)).trans ?_
    rw [← hR]
    exact more_old hq
  · have e1 : Ext (Mine ρ) w (w1.alloc o) := (Ext.of_below hb _).alloc o
    have e2 : Ext (fun q => R1 q = .undo) (w1.alloc o) w2 := Ext.of_grown hg (fun q hq _ => ru q hq)
    refine (e1.trans e2 (fun q hq => ?_)).setCell (.inl (mine_of hx.rb (by intro e; cases e))) _
    by_cases hlt : q < w.heap.size
    · rw [← hR, more_old hlt] at hq
      exact .inl (mine_of hq (by intro e; cases e))
    · exact .inr (by omega)
end
end Go.Proofs.Ytphfidenjihgeaa.EPush
