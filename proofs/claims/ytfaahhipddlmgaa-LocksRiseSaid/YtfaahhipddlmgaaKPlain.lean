/- Locks in plain mathematics: rows of claims by their keys. Nothing of the program. -/
import Derived.Lib.Hide
namespace Go.Proofs.Ytfaahhipddlmgaa.KPlain

/-- a claim: its thread, and whether it is alone -/
abbrev Cl := Int × Bool
/-- a row at each key -/
abbrev Rw := Int → List Cl
def isT (th : Int) (c : Cl) : Bool := c.1 == th
def place (l : List Cl) (th : Int) : Option Nat := l.findIdx? (isT th)
def at_ (l : List Cl) (i : Nat) : Cl := l[i]?.getD (0, false)
/-- neither the claim at place i nor any ahead of it is alone -/
def sharedTo (l : List Cl) (i : Nat) : Bool := (l.take i).all fun c => !c.2
def holdsAt (l : List Cl) (i : Nat) : Bool := i == 0 || sharedTo l (i + 1)
def has (l : List Cl) (th : Int) : Bool := l.any (isT th)
def askOk (R : Rw) (th k : Int) : Bool := decide (1 ≤ th) && decide (th ≤ 64) && decide (0 ≤ k) && !has (R k) th
def put (R : Rw) (k : Int) (l : List Cl) : Rw := fun j => if j = k then l else R j
def askd (R : Rw) (th k : Int) (al : Bool) : Rw := if askOk R th k = true then put R k (R k ++ [(th, al)]) else R
def leavd (R : Rw) (th k : Int) : Rw := if has (R k) th = true then put R k ((R k).eraseP (isT th)) else R
def holdd (R : Rw) (th k : Int) : Bool :=
  match place (R k) th with
  | none => false
  | some i => holdsAt (R k) i

theorem shared_succ (l : List Cl) (i : Nat) (hi : i < l.length) : sharedTo l (i + 1) = (sharedTo l i && !(at_ l i).2) := by
  unfold sharedTo at_
  rw [List.take_add_one, List.all_append, List.getElem?_eq_getElem hi]
  simp
theorem at_get (l : List Cl) {i : Nat} (hi : i < l.length) : at_ l i = l[i] := by
  unfold at_
  rw [List.getElem?_eq_getElem hi]
  rfl
theorem place_none {l : List Cl} {th : Int} : place l th = none ↔ has l th = false := by
  unfold place has
  rw [List.findIdx?_eq_none_iff, List.any_eq_false]
  simp
theorem place_some {l : List Cl} {th : Int} {i : Nat} : place l th = some i ↔ ∃ h : i < l.length, l[i].1 = th ∧ ∀ j, (hj : j < i) → (l[j]'(by omega)).1 ≠ th := by
  unfold place
  rw [List.findIdx?_eq_some_iff_getElem]
  simp [isT]
theorem put_same (R : Rw) (k : Int) (l : List Cl) : put R k l k = l := if_pos rfl
theorem put_other (R : Rw) {k j : Int} (l : List Cl) (h : j ≠ k) : put R k l j = R j := if_neg h
/-- what is left of a row: all but the claim at place i -/
theorem erase_at {l : List Cl} {th : Int} {i : Nat} (h : place l th = some i) : l.eraseP (isT th) = l.take i ++ l.drop (i + 1) := by
  obtain ⟨hi, h1, h2⟩ := place_some.1 h
  have e : l = l.take i ++ l[i] :: l.drop (i + 1) := by
    rw [← List.drop_eq_getElem_cons hi, List.take_append_drop]
  have hn : ∀ b ∈ l.take i, ¬ isT th b = true := by
    intro b hb
    obtain ⟨j, hj, rfl⟩ := List.mem_iff_getElem.1 hb
    rw [List.length_take] at hj
    rw [List.getElem_take]
    have := h2 j (by omega)
    simpa [isT] using this
  conv => lhs; rw [e]
  rw [List.eraseP_append_right _ hn, List.eraseP_cons_of_pos (by simp [isT, h1])]
end Go.Proofs.Ytfaahhipddlmgaa.KPlain
