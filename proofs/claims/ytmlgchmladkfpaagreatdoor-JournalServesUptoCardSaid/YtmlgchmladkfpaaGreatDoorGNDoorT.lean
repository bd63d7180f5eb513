/- How long rows that come in may be together, by the second form's bound. -/
import Derived.Test.YtmlgchmladkfpaaGreatDoorMg48
import Derived.Test.YtmlgchmladkfpaaGreatDoorGNLServes
namespace Go.Proofs.YtmlgchmladkfpaaGreatDoor.NDoorT
open Go.ChangeShapes Go.WideShapes Go.RowKit EScript RowEnd Args Door NLServes

theorem bulk_len {H : Type} {d : DataW H} {n : Nat} (h : HasLen d n) : n ≤ Rows.uptoBulk d := by
  rcases h with rfl | ⟨es, sp, rfl, rfl⟩
  · exact Nat.zero_le _
  · have h3 := (bulk_many es).1
    simp only [Rows.uptoBulk]
    omega
theorem tot_bulk {H : Type} : ∀ (es : List (DataW H)) (ll : List (List OpV)) (k : Nat), es.length = ll.length → (∀ (i : Nat) (h1 : i < es.length) (h2 : i < ll.length), HasLen es[i] ll[i].length) → tot ll k ≤ Rows.uptoBulkAll es
  | es, [], 0, _, _ => Nat.zero_le _
  | es, [], _ + 1, _, _ => Nat.zero_le _
  | es, _ :: _, 0, _, _ => Nat.zero_le _
  | [], l :: ll, k + 1, h, _ => by simp at h
  | d :: es, l :: ll, k + 1, h, hh => by
    have ih := tot_bulk es ll k (by simpa using h) (fun i h1 h2 => hh (i + 1) (Nat.succ_lt_succ h1) (Nat.succ_lt_succ h2))
    have h0 := bulk_len (hh 0 (Nat.succ_pos _) (Nat.succ_pos _))
    simp only [Rows.uptoBulkAll]
    show l.length + tot ll k ≤ _
    simp at h0
    omega
theorem tot_small {H : Type} {ds : List (DataW H)} {d : DataW H} {ll : List (List OpV)} (hk : Rows.uptoSmall H ds = true) (hd : d ∈ ds)
    (h : ll = [] ∨ ∃ es sp, d = .slice es sp ∧ es.length = ll.length ∧ ∀ (i : Nat) (h1 : i < es.length) (h2 : i < ll.length), HasLen es[i] ll[i].length) (k : Nat) : tot ll k ≤ 1048576 := by
  have h1 := of_decide_eq_true hk
  have h2 := (bulk_many ds).2 d hd
  rcases h with rfl | ⟨es, sp, rfl, h3, h4⟩
  · cases k <;> exact Nat.zero_le _
  · have h5 := tot_bulk es ll k h3 h4
    simp only [Rows.uptoBulk] at h2
    omega
end Go.Proofs.YtmlgchmladkfpaaGreatDoor.NDoorT
