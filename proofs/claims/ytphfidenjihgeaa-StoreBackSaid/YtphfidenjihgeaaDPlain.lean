/- What a disk is, in plain mathematics: blocks that stand for good, writes that are pending, a count; what each call does to it. Nothing of the program. -/
namespace Go.Proofs.Ytphfidenjihgeaa.DPlain

def zeros : List UInt8 := List.replicate 256 0
/-- the byte that a number is -/
def octet (x : Int) : UInt8 := UInt8.ofNat (x % 256).toNat
/-- a block of one byte -/
def full (x : UInt8) : List UInt8 := List.replicate 256 x
theorem full_len (x : UInt8) : (full x).length = 256 := List.length_replicate

structure St where
  L : List (List UInt8)
  P : List (Nat × List UInt8)
  N : Nat

def St.new (n : Nat) : St := ⟨List.replicate n zeros, [], 0⟩
/-- what was written last to block k among these -/
def lastOf : List (Nat × List UInt8) → Nat → Option (List UInt8)
  | [], _ => none
  | x :: r, k => match lastOf r k with
    | some l => some l
    | none => if x.1 = k then some x.2 else none
theorem lastOf_snoc (P : List (Nat × List UInt8)) (x : Nat × List UInt8) (k : Nat) : lastOf (P ++ [x]) k = if x.1 = k then some x.2 else lastOf P k := by
  induction P with
  | nil => simp [lastOf]
  | cons y r ih =>
    simp only [List.cons_append, lastOf, ih]
    by_cases h : x.1 = k
    · simp [h]
    · simp [h]
theorem lastOf_none {P : List (Nat × List UInt8)} {k : Nat} (h : ∀ x ∈ P, x.1 ≠ k) : lastOf P k = none := by
  induction P with
  | nil => rfl
  | cons y r ih => simp [lastOf, ih (fun x hx => h x (by simp [hx])), h y (by simp)]
theorem lastOf_mem {P : List (Nat × List UInt8)} {k : Nat} {l : List UInt8} (h : lastOf P k = some l) : (k, l) ∈ P := by
  induction P with
  | nil => cases h
  | cons y r ih =>
    simp only [lastOf] at h
    cases hr : lastOf r k with
    | some l' =>
      rw [hr] at h
      injection h with h
      subst h
      exact List.mem_cons_of_mem _ (ih hr)
    | none =>
      rw [hr] at h
      by_cases e : y.1 = k
      · simp only [e, if_true, Option.some.injEq] at h
        rw [← h, ← e]
        exact List.mem_cons_self ..
      · simp [e] at h

def St.readAt (s : St) (k : Nat) : List UInt8 := (lastOf s.P k).getD (s.L.getD k [])
/-- the blocks when the first k of the pending writes have been looked at, and those are done of which keeps says so -/
def doneTo (keeps : Nat → Bool) (L : List (List UInt8)) (P : List (Nat × List UInt8)) : Nat → List (List UInt8)
  | 0 => L
  | k + 1 => match P[k]? with
    | some x => if keeps k then (doneTo keeps L P k).set x.1 x.2 else doneTo keeps L P k
    | none => doneTo keeps L P k
def St.settled (s : St) (keeps : Nat → Bool) : St := ⟨doneTo keeps s.L s.P s.P.length, [], s.N⟩
def St.flush (s : St) : St := ⟨doneTo (fun _ => true) s.L s.P s.P.length, [], s.N + 1⟩
def keepF (keep : List Bool) (k : Nat) : Bool := keep.getD k false
def St.crash (s : St) (keep : List Bool) : St := s.settled (keepF keep)
def St.write (s : St) (k : Nat) (l : List UInt8) : St := ⟨s.L, s.P ++ [(k, l)], s.N + 1⟩

section
variable (keeps : Nat → Bool) (L : List (List UInt8)) (P : List (Nat × List UInt8))
theorem doneTo_zero : doneTo keeps L P 0 = L := rfl
theorem doneTo_yes {k : Nat} (h : k < P.length) (hk : keeps k = true) : doneTo keeps L P (k + 1) = (doneTo keeps L P k).set P[k].1 P[k].2 := by
  simp [doneTo, List.getElem?_eq_getElem h, hk]
theorem doneTo_no {k : Nat} (hk : keeps k = false) : doneTo keeps L P (k + 1) = doneTo keeps L P k := by
  simp only [doneTo]
  split <;> simp [hk]
theorem doneTo_len (k : Nat) : (doneTo keeps L P k).length = L.length := by
  induction k with
  | zero => rfl
  | succ k ih =>
    simp only [doneTo]
    split
    · split <;> simp [ih]
    · exact ih
/-- behind the last place that is kept nothing turns -/
theorem doneTo_stay {j : Nat} (h : ∀ i, j ≤ i → keeps i = false) (k : Nat) (hk : j ≤ k) : doneTo keeps L P k = doneTo keeps L P j := by
  induction k with
  | zero => have : j = 0 := by omega
            subst this; rfl
  | succ k ih =>
    by_cases e : j = k + 1
    · rw [e]
    · rw [doneTo_no _ _ _ (h k (by omega))]
      exact ih (by omega)
/-- a block that none of them is of is as it was -/
theorem doneTo_other {i : Nat} (h : ∀ x ∈ P, x.1 ≠ i) (k : Nat) : (doneTo keeps L P k).getD i [] = L.getD i [] := by
  induction k with
  | zero => rfl
  | succ k ih =>
    simp only [doneTo]
    split
    · rename_i x hx
      split
      · rw [← ih]
        simp only [List.getD_eq_getElem?_getD]
        rw [List.getElem?_set_ne (h x (List.mem_of_getElem? hx))]
      · exact ih
    · exact ih
/-- all of them done: what was written last stands there -/
theorem doneTo_all (i : Nat) (hi : i < L.length) (k : Nat) (hk : k ≤ P.length) : (doneTo (fun _ => true) L P k).getD i [] = (lastOf (P.take k) i).getD (L.getD i []) := by
  induction k with
  | zero => simp [doneTo, lastOf]
  | succ k ih =>
    have hlt : k < P.length := by omega
    rw [doneTo_yes (fun _ => true) L P hlt rfl, List.take_succ_eq_append_getElem hlt, lastOf_snoc]
    by_cases e : P[k].1 = i
    · rw [if_pos e]
      simp [List.getD_eq_getElem?_getD, e, doneTo_len, hi]
    · rw [if_neg e, ← ih (by omega)]
      simp only [List.getD_eq_getElem?_getD]
      rw [List.getElem?_set_ne e]
theorem doneTo_congr {keeps' : Nat → Bool} {j : Nat} (h : ∀ i, i < j → keeps i = keeps' i) : doneTo keeps L P j = doneTo keeps' L P j := by
  induction j with
  | zero => rfl
  | succ j ih =>
    simp only [doneTo]
    rw [ih (fun i hi => h i (by omega)), h j (by omega)]
end

/-- what each block is: 256 bytes; each write one of a block that there is -/
structure St.Wf (s : St) : Prop where
  each : ∀ l ∈ s.L, l.length = 256
  pend : ∀ x ∈ s.P, x.1 < s.L.length ∧ x.2.length = 256
theorem wf_new (n : Nat) : (St.new n).Wf := ⟨(fun l hl => by rw [(List.mem_replicate.1 hl).2]; exact List.length_replicate), (fun x hx => by cases hx)⟩
theorem St.Wf.write {s : St} (h : s.Wf) {k : Nat} {l : List UInt8} (hk : k < s.L.length) (hl : l.length = 256) : (s.write k l).Wf :=
  ⟨h.each, fun x hx => by
    rcases List.mem_append.1 hx with h1 | h1
    · exact h.pend x h1
    · rw [List.mem_singleton.1 h1]; exact ⟨hk, hl⟩⟩
theorem doneTo_each (keeps : Nat → Bool) {L : List (List UInt8)} {P : List (Nat × List UInt8)} (hL : ∀ l ∈ L, l.length = 256) (hP : ∀ x ∈ P, x.2.length = 256) (k : Nat) : ∀ l ∈ doneTo keeps L P k, l.length = 256 := by
  induction k with
  | zero => exact hL
  | succ k ih =>
    intro l hl
    simp only [doneTo] at hl
    split at hl
    · rename_i x hx
      split at hl
      · rcases List.mem_or_eq_of_mem_set hl with h1 | h1
        · exact ih l h1
        · rw [h1]; exact hP x (List.mem_of_getElem? hx)
      · exact ih l hl
    · exact ih l hl
theorem St.Wf.settled {s : St} (h : s.Wf) (keeps : Nat → Bool) : (s.settled keeps).Wf :=
  ⟨doneTo_each keeps h.each (fun x hx => (h.pend x hx).2) _, (fun x hx => by cases hx)⟩
theorem St.Wf.flush {s : St} (h : s.Wf) : s.flush.Wf :=
  ⟨doneTo_each _ h.each (fun x hx => (h.pend x hx).2) _, (fun x hx => by cases hx)⟩
theorem St.Wf.read {s : St} (h : s.Wf) {k : Nat} (hk : k < s.L.length) : (s.readAt k).length = 256 := by
  unfold St.readAt
  cases hl : lastOf s.P k with
  | some l => exact (h.pend _ (lastOf_mem hl)).2
  | none =>
    simp only [Option.getD_none]
    rw [List.getD_eq_getElem?_getD, List.getElem?_eq_getElem hk]
    exact h.each _ (List.getElem_mem hk)

/-- the last three, the last seven bits of a number -/
def low7 (x : Int) : Nat := (BitVec.ofInt 64 x &&& BitVec.ofInt 64 7).toNat
def low127 (x : Int) : Nat := (BitVec.ofInt 64 x &&& BitVec.ofInt 64 127).toNat
theorem low7_lt (x : Int) : low7 x < 8 := by
  unfold low7
  rw [BitVec.toNat_and]
  exact Nat.lt_of_le_of_lt Nat.and_le_right (by decide)
theorem low127_lt (x : Int) : low127 x < 128 := by
  unfold low127
  rw [BitVec.toNat_and]
  exact Nat.lt_of_le_of_lt Nat.and_le_right (by decide)
/-- an operation of a script -/
structure OpV where
  what : Int
  block : Int
  fill : Int
  keep : List Bool
/-- what a write of l to block n does, whatever n and l -/
def wst (s : St) (n : Int) (l : List UInt8) : St := if 0 ≤ n ∧ n < s.L.length ∧ l.length = 256 then s.write n.toNat l else s
def werr (s : St) (n : Int) (m : Nat) : Int := if 0 ≤ n ∧ n < s.L.length then (if m = 256 then 0 else 22) else 5
/-- the bytes that a script writes -/
def fillOf (x : Int) : List UInt8 := if x < 0 then (full (octet x)).take 255 else full (octet x)
theorem wst_len (s : St) (n : Int) (l : List UInt8) : (wst s n l).L.length = s.L.length := by unfold wst; split <;> rfl
theorem wst_wf {s : St} (h : s.Wf) (n : Int) (l : List UInt8) : (wst s n l).Wf := by
  unfold wst
  split
  · rename_i hc
    exact h.write (by omega) hc.2.2
  · exact h
theorem wst_count (s : St) (n : Int) (l : List UInt8) : (wst s n l).N ≤ s.N + 1 := by
  unfold wst
  split
  · exact Nat.le_refl _
  · exact Nat.le_succ _
def stepSt (s : St) (o : OpV) : St :=
  if low7 o.what < 4 then wst s o.block (fillOf o.fill)
  else if low7 o.what = 5 then s.flush else if low7 o.what = 6 then s.crash o.keep else s
def runs (s : St) (ops : List OpV) (k : Nat) : St := (ops.take k).foldl stepSt s
theorem runs_zero (s : St) (ops : List OpV) : runs s ops 0 = s := by simp [runs]
theorem runs_succ (s : St) (ops : List OpV) {k : Nat} (h : k < ops.length) : runs s ops (k + 1) = stepSt (runs s ops k) ops[k] := by
  unfold runs
  rw [List.take_succ_eq_append_getElem h, List.foldl_append]
  rfl
theorem step_len (s : St) (o : OpV) : (stepSt s o).L.length = s.L.length := by
  unfold stepSt
  split
  · exact wst_len ..
  · split
    · exact doneTo_len ..
    · split
      · exact doneTo_len ..
      · rfl
theorem step_wf {s : St} (h : s.Wf) (o : OpV) : (stepSt s o).Wf := by
  unfold stepSt
  split
  · exact wst_wf h _ _
  · split
    · exact h.flush
    · split
      · exact h.settled _
      · exact h
theorem step_count (s : St) (o : OpV) : (stepSt s o).N ≤ s.N + 1 := by
  unfold stepSt
  split
  · exact wst_count ..
  · split
    · exact Nat.le_refl _
    · split
      · exact Nat.le_succ _
      · exact Nat.le_succ _
theorem runs_len (s : St) (ops : List OpV) (k : Nat) : (runs s ops k).L.length = s.L.length := by
  unfold runs
  generalize ops.take k = l
  induction l generalizing s with
  | nil => rfl
  | cons o r ih => rw [List.foldl_cons, ih, step_len]
theorem runs_wf {s : St} (h : s.Wf) (ops : List OpV) (k : Nat) : (runs s ops k).Wf := by
  unfold runs
  generalize ops.take k = l
  induction l generalizing s with
  | nil => exact h
  | cons o r ih => exact ih (step_wf h o)
theorem runs_count (s : St) (ops : List OpV) (k : Nat) : (runs s ops k).N ≤ s.N + k := by
  induction k with
  | zero => rw [runs_zero]; exact Nat.le_refl _
  | succ k ih =>
    by_cases h : k < ops.length
    · rw [runs_succ s ops h]
      have := step_count (runs s ops k) ops[k]
      omega
    · have : runs s ops (k + 1) = runs s ops k := by
        unfold runs
        rw [List.take_of_length_le (by omega), List.take_of_length_le (by omega)]
      rw [this]; omega
end Go.Proofs.Ytphfidenjihgeaa.DPlain
