/- What goes on holding, in plain mathematics. -/
import Derived.Test.YtfaahhipddlmgaaKBits
namespace Go.Proofs.Ytfaahhipddlmgaa.KAPlain
open Go.RowKit WMem Ext KMap KPlain KMem KAsk KLeave KClaims KLaw KScript KBits

theorem all_alone {l : List Cl} {n : Nat} (h : sharedTo l n = true) {i : Nat} (hi : i < n) (hl : i < l.length) : (at_ l i).2 = false := by
  unfold sharedTo at h
  rw [List.all_eq_true] at h
  have h1 := h (at_ l i) (by
    rw [at_get l hl]
    exact List.mem_take_iff_getElem.2 ⟨i, by omega, rfl⟩)
  simpa using h1
theorem shared_mono {l : List Cl} {n m : Nat} (h : sharedTo l n = true) (hm : m ≤ n) : sharedTo l m = true := by
  unfold sharedTo at *
  rw [List.all_eq_true] at *
  intro c hc
  obtain ⟨i, hi, rfl⟩ := List.mem_take_iff_getElem.1 hc
  exact h _ (List.mem_take_iff_getElem.2 ⟨i, by omega, rfl⟩)
/-- claims hold from the front on; what holds behind another is not alone, nor is the first one -/
theorem hold_back {l : List Cl} {k : Nat} (hk : k + 1 < l.length) (h : holdsAt l (k + 1) = true) : holdsAt l k = true ∧ (at_ l (k + 1)).2 = false ∧ (at_ l 0).2 = false := by
  have hs : sharedTo l (k + 1 + 1) = true := by simpa [holdsAt] using h
  refine ⟨?_, all_alone hs (by omega) hk, all_alone hs (by omega) (by omega)⟩
  unfold holdsAt
  rw [shared_mono hs (by omega)]
  simp
theorem hold_first (l : List Cl) : holdsAt l 0 = true := rfl

/-- the part of a row ahead of a claim -/
theorem row_split (l : List Cl) {k : Nat} (hk : k < l.length) : l = l.take k ++ ((at_ l k).1, (at_ l k).2) :: l.drop (k + 1) := by
  have h1 : l.drop k = l[k] :: l.drop (k + 1) := List.drop_eq_getElem_cons hk
  conv => lhs; rw [← List.take_append_drop k l, h1]
  rw [at_get l hk]
theorem split_no {l : List Cl} (hn : (l.map (·.1)).Nodup) {k : Nat} (hk : k < l.length) : has (l.take k) (at_ l k).1 = false := by
  cases hh : has (l.take k) (at_ l k).1 with
  | false => rfl
  | true =>
    obtain ⟨c, hc, h1⟩ := has_mem.1 hh
    obtain ⟨i, hi, rfl⟩ := List.mem_take_iff_getElem.1 hc
    have hi' : i < k := by omega
    rw [at_get l hk] at h1
    have h2 : (l.map (·.1))[i]'(by simp; omega) = (l.map (·.1))[k]'(by simpa using hk) := by simpa using h1
    have h3 := (List.getElem_inj hn).1 h2
    omega
theorem hold_is {l : List Cl} {k : Nat} (hk : k < l.length) : holdsAt l k = ((l.take k).isEmpty || ((l.take k).all (fun c => !c.2) && !(at_ l k).2)) := by
  unfold holdsAt
  rw [shared_succ l k hk]
  cases k with
  | zero => simp
  | succ k =>
    have : (l.take (k + 1)).isEmpty = false := by
      cases l with
      | nil => cases hk
      | cons c r => rfl
    rw [this]
    rfl
theorem hold_split {R : Rw} {th k : Int} {l1 l2 : List Cl} {al : Bool} (h : R k = l1 ++ (th, al) :: l2) (hn : has l1 th = false) : holdd R th k = (l1.isEmpty || (l1.all (fun c => !c.2) && !al)) := by
  have hp : place (R k) th = some l1.length := by
    rw [place_some, h]
    refine ⟨by simp, by simp, fun j hj => ?_⟩
    rw [List.getElem_append_left hj]
    intro e
    have : has l1 th = true := has_mem.2 ⟨_, List.getElem_mem hj, e⟩
    rw [this] at hn
    cases hn
  unfold holdd
  rw [hp]
  unfold holdsAt sharedTo
  rw [h]
  have e1 : (l1 ++ (th, al) :: l2).take (l1.length + 1) = l1 ++ [(th, al)] := by
    rw [List.take_append, List.take_of_length_le (Nat.le_succ _)]
    simp
  show (l1.length == 0 || ((l1 ++ (th, al) :: l2).take (l1.length + 1)).all fun c => !c.2) = _
  rw [e1, List.all_append]
  cases l1 with
  | nil => simp
  | cons c r => simp
/-- of each claim of a row: does it hold? -/
theorem hold_at {R : Rw} {k : Int} (hn : ((R k).map (·.1)).Nodup) {i : Nat} (hi : i < (R k).length) : holdd R (at_ (R k) i).1 k = holdsAt (R k) i := by
  rw [hold_split (row_split (R k) hi) (split_no hn hi), hold_is hi]
theorem erase_split {l1 l2 : List Cl} {th t : Int} {al : Bool} (hne : t ≠ th) : ∃ l1' l2', (l1 ++ (th, al) :: l2).eraseP (isT t) = l1' ++ (th, al) :: l2' ∧ l1'.Sublist l1 := by
  by_cases h : ∃ c ∈ l1, isT t c = true
  · exact ⟨l1.eraseP (isT t), l2, List.eraseP_append_left h.choose_spec.2 _ h.choose_spec.1, List.eraseP_sublist⟩
  · refine ⟨l1, l2.eraseP (isT t), ?_, List.Sublist.refl _⟩
    rw [List.eraseP_append_right _ (fun b hb hc => h ⟨b, hb, hc⟩), List.eraseP_cons_of_neg (by simp [isT]; exact fun e => hne e.symm)]
/-- who holds goes on holding until it leaves -/
theorem goes_on {R R' : Rw} {k : Int} (hu : Uniq R) {t : Int} (hR : (∃ al, R' = askd R t k al) ∨ R' = leavd R t k) {i : Nat} (hi : i < (R k).length) (hh : holdsAt (R k) i = true) (hne : R' = leavd R t k → (at_ (R k) i).1 ≠ t) : holdd R' (at_ (R k) i).1 k = true := by
  have hs := row_split (R k) hi
  have hno := split_no (hu k) hi
  rw [hold_is hi] at hh
  rcases hR with ⟨al, rfl⟩ | rfl
  · have e : ∃ l2, askd R t k al k = (R k).take i ++ ((at_ (R k) i).1, (at_ (R k) i).2) :: l2 := by
      unfold askd
      split
      · rw [put_same]
        exact ⟨(R k).drop (i + 1) ++ [(t, al)], by conv => lhs; rw [hs]
                                                   simp⟩
      · exact ⟨_, hs⟩
    obtain ⟨l2, e⟩ := e
    rw [hold_split e hno]
    exact hh
  · have hne := hne rfl
    unfold leavd
    split
    · obtain ⟨l1', l2', e, hsub⟩ := erase_split (l1 := (R k).take i) (l2 := (R k).drop (i + 1)) (th := (at_ (R k) i).1) (t := t) (al := (at_ (R k) i).2) (fun h => hne h.symm)
      rw [← hs] at e
      have e2 : (put R k ((R k).eraseP (isT t))) k = l1' ++ ((at_ (R k) i).1, (at_ (R k) i).2) :: l2' := by rw [put_same, e]
      have hno' : has l1' (at_ (R k) i).1 = false := by
        cases hx : has l1' (at_ (R k) i).1 with
        | false => rfl
        | true =>
          obtain ⟨c, hc, h1⟩ := has_mem.1 hx
          have : has ((R k).take i) (at_ (R k) i).1 = true := has_mem.2 ⟨c, hsub.subset hc, h1⟩
          rw [this] at hno
          cases hno
      rw [hold_split e2 hno']
      simp only [Bool.or_eq_true, Bool.and_eq_true, List.isEmpty_iff] at hh ⊢
      rcases hh with h1 | ⟨h1, h2⟩
      · rw [h1] at hsub
        exact .inl (List.sublist_nil.1 hsub)
      · refine .inr ⟨?_, h2⟩
        rw [List.all_eq_true] at h1 ⊢
        exact fun c hc => h1 c (hsub.subset hc)
    · rw [hold_split hs hno]
      exact hh
end Go.Proofs.Ytfaahhipddlmgaa.KAPlain
