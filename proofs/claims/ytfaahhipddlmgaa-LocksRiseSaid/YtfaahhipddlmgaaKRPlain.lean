/- The document's locks: one list of all claims; and what its rows are. -/
import Derived.Test.YtfaahhipddlmgaaKAPlain
namespace Go.Proofs.Ytfaahhipddlmgaa.KRPlain
open Go.RowKit WMem Ext KMap KPlain KMem KAsk KLeave KClaims KLaw KScript KBits KAPlain

/-- a claim: thread, key, alone -/
abbrev E := Int × Int × Bool
def isE (th k : Int) (e : E) : Bool := e.1 == th && e.2.1 == k
def placeE (L : List E) (th k : Int) : Option Nat := L.findIdx? (isE th k)
def atE (L : List E) (i : Nat) : E := L[i]?.getD (0, 0, false)
theorem atE_get (L : List E) {i : Nat} (hi : i < L.length) : atE L i = L[i] := by
  unfold atE
  rw [List.getElem?_eq_getElem hi]
  rfl
theorem placeE_none {L : List E} {th k : Int} : placeE L th k = none ↔ ∀ i, i < L.length → isE th k (atE L i) = false := by
  unfold placeE
  rw [List.findIdx?_eq_none_iff]
  constructor
  · intro h i hi
    rw [atE_get L hi]
    exact h _ (List.getElem_mem hi)
  · intro h x hx
    obtain ⟨i, hi, rfl⟩ := List.mem_iff_getElem.1 hx
    rw [← atE_get L hi]
    exact h i hi
theorem placeE_some {L : List E} {th k : Int} {i : Nat} : placeE L th k = some i ↔ i < L.length ∧ isE th k (atE L i) = true ∧ ∀ j, j < i → isE th k (atE L j) = false := by
  unfold placeE
  rw [List.findIdx?_eq_some_iff_getElem]
  constructor
  · rintro ⟨hi, h1, h2⟩
    refine ⟨hi, by rw [atE_get L hi]; exact h1, fun j hj => ?_⟩
    have := h2 j hj
    rw [atE_get L (by omega)]
    simpa using this
  · rintro ⟨hi, h1, h2⟩
    refine ⟨hi, by rw [← atE_get L hi]; exact h1, fun j hj => ?_⟩
    have := h2 j hj
    rw [atE_get L (by omega)] at this
    simpa using this
def rOk (L : List E) (th k : Int) : Bool := decide (1 ≤ th) && decide (th ≤ 64) && decide (0 ≤ k) && (placeE L th k).isNone
def rAsk (L : List E) (th k : Int) (al : Bool) : List E := if rOk L th k = true then L ++ [(th, k, al)] else L
def rLeave (L : List E) (th k : Int) : List E := match placeE L th k with | none => L | some i => L.take i ++ L.drop (i + 1)
/-- how many stand aheadOf of place i at a key, and is one of them, or that one, alone? -/
def aheadOf (L : List E) (k : Int) (i : Nat) : Nat := ((L.take i).filter fun e => e.2.1 == k).length
def aloneTo (L : List E) (k : Int) (i j : Nat) : Bool := (atE L i).2.2 || ((L.take j).filter fun e => e.2.1 == k).any fun e => e.2.2
def rHolds (L : List E) (th k : Int) : Bool := match placeE L th k with | none => false | some i => (aheadOf L k i == 0) || !(aloneTo L k i i)
/-- a key's row -/
def rowOf (L : List E) (k : Int) : List Cl := (L.filter fun e => e.2.1 == k).map fun e => (e.1, e.2.2)

theorem rowOf_append (L M : List E) (k : Int) : rowOf (L ++ M) k = rowOf L k ++ rowOf M k := by simp [rowOf]
theorem rowOf_one (e : E) (k : Int) : rowOf [e] k = if e.2.1 = k then [(e.1, e.2.2)] else [] := by
  unfold rowOf
  by_cases h : e.2.1 = k <;> simp [h]
theorem rowOf_has {L : List E} {th k : Int} : has (rowOf L k) th = (placeE L th k).isSome := by
  cases hp : placeE L th k with
  | none =>
    cases hh : has (rowOf L k) th with
    | false => rfl
    | true =>
      obtain ⟨c, hc, h1⟩ := has_mem.1 hh
      obtain ⟨e, he, rfl⟩ := List.mem_map.1 hc
      obtain ⟨he, h2⟩ := List.mem_filter.1 he
      obtain ⟨i, hi, rfl⟩ := List.mem_iff_getElem.1 he
      have := placeE_none.1 hp i hi
      rw [atE_get L hi] at this
      simp only [isE] at this
      rw [h2, show L[i].1 = th from h1] at this
      simp at this
  | some i =>
    obtain ⟨hi, h1, _⟩ := placeE_some.1 hp
    rw [atE_get L hi] at h1
    simp only [isE, Bool.and_eq_true, beq_iff_eq] at h1
    exact has_mem.2 ⟨(L[i].1, L[i].2.2), List.mem_map.2 ⟨L[i], List.mem_filter.2 ⟨List.getElem_mem hi, by simp [h1.2]⟩, rfl⟩, h1.1⟩
theorem rowOf_ok (L : List E) (th k : Int) : askOk (rowOf L) th k = rOk L th k := by
  unfold askOk rOk
  rw [rowOf_has]
  cases placeE L th k <;> rfl
theorem rowOf_ask (L : List E) (th k : Int) (al : Bool) : askd (rowOf L) th k al = rowOf (rAsk L th k al) := by
  unfold askd rAsk
  rw [rowOf_ok]
  split
  · funext j
    rw [rowOf_append, rowOf_one]
    by_cases e : j = k
    · subst e
      rw [put_same, if_pos rfl]
    · rw [put_other _ _ e, if_neg (fun h => e h.symm), List.append_nil]
  · rfl
theorem rowOf_erase (L : List E) (th k j : Int) : rowOf (L.eraseP (isE th k)) j = if j = k then (rowOf L k).eraseP (isT th) else rowOf L j := by
  induction L with
  | nil => simp [rowOf]
  | cons e r ih =>
    have hc : ∀ (M : List E) (i : Int), rowOf (e :: M) i = (if e.2.1 = i then [(e.1, e.2.2)] else []) ++ rowOf M i := fun M i => by
      rw [← rowOf_one, ← rowOf_append]; rfl
    by_cases he : isE th k e = true
    · rw [List.eraseP_cons_of_pos he]
      simp only [isE, Bool.and_eq_true, beq_iff_eq] at he
      by_cases hj : j = k
      · subst hj
        rw [if_pos rfl, hc, if_pos he.2, List.singleton_append, List.eraseP_cons_of_pos (by simp [isT, he.1])]
      · rw [if_neg hj, hc, if_neg (fun h => hj (h.symm.trans he.2)), List.nil_append]
    · rw [List.eraseP_cons_of_neg he, hc, ih]
      by_cases hj : j = k
      · subst hj
        rw [if_pos rfl, if_pos rfl, hc]
        by_cases h2 : e.2.1 = j
        · have hne : ¬ isT th (e.1, e.2.2) = true := by
            simp only [isE, Bool.and_eq_true, beq_iff_eq] at he
            simp only [isT, beq_iff_eq]
            exact fun h => he ⟨h, h2⟩
          rw [if_pos h2, List.singleton_append, List.singleton_append, List.eraseP_cons_of_neg hne]
        · rw [if_neg h2, List.nil_append, List.nil_append]
      · rw [if_neg hj, if_neg hj, hc]
theorem rLeave_erase (L : List E) (th k : Int) : rLeave L th k = L.eraseP (isE th k) := by
  unfold rLeave
  cases hp : placeE L th k with
  | none =>
    rw [List.eraseP_of_forall_not]
    intro e he h
    obtain ⟨i, hi, rfl⟩ := List.mem_iff_getElem.1 he
    have := placeE_none.1 hp i hi
    rw [atE_get L hi, h] at this
    cases this
  | some i =>
    obtain ⟨hi, h1, h2⟩ := placeE_some.1 hp
    have e : L = L.take i ++ L[i] :: L.drop (i + 1) := by rw [← List.drop_eq_getElem_cons hi, List.take_append_drop]
    have hn : ∀ b ∈ L.take i, ¬ isE th k b = true := by
      intro b hb h
      obtain ⟨j, hj, rfl⟩ := List.mem_take_iff_getElem.1 hb
      have := h2 j (by omega)
      rw [atE_get L (by omega), h] at this
      cases this
    rw [atE_get L hi] at h1
    show _ = L.eraseP (isE th k)
    conv => rhs; rw [e]
    rw [List.eraseP_append_right _ hn, List.eraseP_cons_of_pos h1]
theorem rowOf_leave (L : List E) (th k : Int) : leavd (rowOf L) th k = rowOf (rLeave L th k) := by
  rw [rLeave_erase]
  funext j
  rw [rowOf_erase]
  unfold leavd
  by_cases hh : has (rowOf L k) th = true
  · rw [if_pos hh]; rfl
  · rw [if_neg hh]
    by_cases e : j = k
    · subst e
      rw [if_pos rfl, List.eraseP_of_forall_not]
      intro c hc h
      exact hh (has_mem.2 ⟨c, hc, by simpa [isT] using h⟩)
    · rw [if_neg e]
theorem aheadOf_row (L : List E) (k : Int) (i : Nat) : aheadOf L k i = (rowOf (L.take i) k).length := by simp [aheadOf, rowOf]
theorem rowOf_holds (L : List E) (th k : Int) : holdd (rowOf L) th k = rHolds L th k := by
  unfold rHolds
  cases hp : placeE L th k with
  | none =>
    refine holdd_no ?_
    rw [rowOf_has, hp]
    simp
  | some i =>
    obtain ⟨hi, h1, h2⟩ := placeE_some.1 hp
    have e : L = L.take i ++ L[i] :: L.drop (i + 1) := by rw [← List.drop_eq_getElem_cons hi, List.take_append_drop]
    have h1' := h1
    rw [atE_get L hi] at h1'
    simp only [isE, Bool.and_eq_true, beq_iff_eq] at h1'
    have er : rowOf L k = rowOf (L.take i) k ++ ((th, L[i].2.2) :: rowOf (L.drop (i + 1)) k) := by
      conv => lhs; rw [e]
      rw [rowOf_append, show L[i] :: L.drop (i + 1) = [L[i]] ++ L.drop (i + 1) from rfl, rowOf_append, rowOf_one, if_pos h1'.2, h1'.1]
      rfl
    have hno : has (rowOf (L.take i) k) th = false := by
      rw [rowOf_has]
      have : placeE (L.take i) th k = none := by
        rw [placeE_none]
        intro j hj
        rw [List.length_take] at hj
        have h3 := h2 j (by omega)
        rw [atE_get L (by omega)] at h3
        rw [atE_get _ (by rw [List.length_take]; exact hj), List.getElem_take]
        exact h3
      rw [this]
      rfl
    rw [hold_split er hno]
    show _ = ((aheadOf L k i == 0) || !(aloneTo L k i i))
    rw [aheadOf_row]
    unfold aloneTo
    rw [atE_get L hi, Bool.not_or]
    congr 1
    · cases rowOf (L.take i) k <;> rfl
    · rw [Bool.and_comm]
      congr 1
      unfold rowOf
      rw [List.all_map, Bool.eq_iff_iff]
      simp
theorem uniq_same {R R' : Rw} (h : Uniq R) (e : R = R') : Uniq R' := e ▸ h
end Go.Proofs.Ytfaahhipddlmgaa.KRPlain
