/- What a store is, in plain mathematics: what is changed, waiting, held, cached; what undoes a change; what each call does. Nothing of the program. -/
import Derived.Test.YtphfidenjihgeaaDPlain
namespace Go.Proofs.Ytphfidenjihgeaa.EPlain
open DPlain

abbrev Bk := List UInt8
/-- what may be undone: what is changed, and what is held -/
structure Now where
  chg : Nat → Option Bk
  hld : Nat → Bool
theorem Now.ext' {a b : Now} (h1 : ∀ n, a.chg n = b.chg n) (h2 : ∀ n, a.hld n = b.hld n) : a = b := by
  cases a; cases b
  congr
  · exact funext h1
  · exact funext h2

/-- what undoes one change -/
inductive Deed where
  | unset (n : Nat)
  | set (n : Nat) (l : Bk)
  | nop
  | free (n : Nat)
def Deed.undo : Deed → Now → Now
  | .unset n, p => ⟨fun j => if j = n then none else p.chg j, p.hld⟩
  | .set n l, p => ⟨fun j => if j = n then some l else p.chg j, p.hld⟩
  | .nop, p => p
  | .free n, p => ⟨p.chg, fun j => if j = n then false else p.hld j⟩
/-- the last is undone first -/
def undoAll : List Deed → Now → Now
  | [], p => p
  | a :: r, p => a.undo (undoAll r p)
theorem undoAll_append (l r : List Deed) (p : Now) : undoAll (l ++ r) p = undoAll l (undoAll r p) := by
  induction l with
  | nil => rfl
  | cons a l ih => simp [undoAll, ih]
theorem undoAll_snoc (l : List Deed) (a : Deed) (p : Now) : undoAll (l ++ [a]) p = undoAll l (a.undo p) := by
  rw [undoAll_append]; rfl

def Deed.Fine (N : Nat) : Deed → Prop
  | .unset n => n < N
  | .set n l => n < N ∧ l.length = 256
  | .nop => True
  | .free n => n < N

/-- where an act lays bytes back, there is something changed -/
def Ok (acts : List Deed) (p : Now) : Prop := ∀ (k : Nat) (h : k < acts.length) (n : Nat) (l : Bk), acts[k] = .set n l → (undoAll (acts.drop (k + 1)) p).chg n ≠ none
theorem Ok.nil (p : Now) : Ok [] p := fun k h => by cases h
theorem Ok.snoc {acts : List Deed} {p : Now} {a : Deed} (h : Ok acts (a.undo p)) (ha : ∀ n l, a = .set n l → p.chg n ≠ none) : Ok (acts ++ [a]) p := by
  intro k hk n l e
  by_cases hlt : k < acts.length
  · rw [List.getElem_append_left hlt] at e
    rw [List.drop_append_of_le_length (by omega), undoAll_snoc]
    exact h k hlt n l e
  · have hk' : k = acts.length := by simp at hk; omega
    subst hk'
    rw [List.getElem_append_right (Nat.le_refl _)] at e
    simp only [Nat.sub_self, List.getElem_cons_zero] at e
    rw [List.drop_eq_nil_of_le (by simp)]
    exact ha n l e
theorem Ok.drop {acts : List Deed} {p : Now} (h : Ok acts p) (k : Nat) : ∀ n, (undoAll (acts.drop k) p).chg n ≠ none → p.chg n ≠ none := by
  intro n
  by_cases hk : acts.length ≤ k
  · rw [List.drop_eq_nil_of_le hk]; exact id
  · obtain ⟨d, hd⟩ : ∃ d, acts.length = k + d := ⟨acts.length - k, by omega⟩
    induction d generalizing k with
    | zero => rw [List.drop_eq_nil_of_le (by omega)]; exact id
    | succ d ih =>
      have hlt : k < acts.length := by omega
      rw [List.drop_eq_getElem_cons hlt]
      intro hc
      have hnext : (undoAll (acts.drop (k + 1)) p).chg n ≠ none → p.chg n ≠ none := by
        by_cases hk1 : acts.length ≤ k + 1
        · rw [List.drop_eq_nil_of_le hk1]; exact id
        · exact ih (k + 1) hk1 (by omega)
      apply hnext
      intro h0
      apply hc
      simp only [undoAll]
      cases ha : acts[k] with
      | unset m =>
        simp only [Deed.undo]
        split
        · rfl
        · exact h0
      | set m l =>
        have := h k hlt m l ha
        simp only [Deed.undo]
        split
        · rename_i e; subst e; exact absurd h0 this
        · exact h0
      | nop => exact h0
      | free m => exact h0
theorem Ok.take {acts : List Deed} {p : Now} (h : Ok acts p) (m : Nat) : Ok (acts.take m) (undoAll (acts.drop m) p) := by
  intro k hk n l e
  have hk1 : k < acts.length := by simp at hk; omega
  have hkm : k < m := by simp at hk; omega
  rw [List.getElem_take] at e
  have h1 := h k hk1 n l e
  have e2 : acts.drop (k + 1) = (acts.take m).drop (k + 1) ++ acts.drop m := by
    rw [List.drop_take]
    have h3 := (List.take_append_drop (m - (k + 1)) (acts.drop (k + 1))).symm
    rw [List.drop_drop, show k + 1 + (m - (k + 1)) = m by omega] at h3
    exact h3
  rw [e2, undoAll_append] at h1
  exact h1
/-- nothing is held any more: nor behind whatever is undone -/
def Now.bare (p : Now) : Now := ⟨p.chg, fun _ => false⟩
theorem undo_bare (a : Deed) (p : Now) : a.undo p.bare = (a.undo p).bare := by
  cases a <;> simp [Deed.undo, Now.bare]
theorem undoAll_bare (l : List Deed) (p : Now) : undoAll l p.bare = (undoAll l p).bare := by
  induction l with
  | nil => rfl
  | cons a l ih => simp only [undoAll, ih, undo_bare]
theorem Ok.bare {acts : List Deed} {p : Now} (h : Ok acts p) : Ok acts p.bare := fun k hk n l e => by
  rw [undoAll_bare]; exact h k hk n l e

/-- the numbers that a shard has, from the one that was used longest ago on -/
def dropC (n : Nat) (l : List Nat) : List Nat := l.filter (fun x => !decide (x = n))
def putC (room n : Nat) (l : List Nat) : List Nat := if room < (dropC n l ++ [n]).length then (dropC n l ++ [n]).tail else dropC n l ++ [n]
theorem mem_dropC {n x : Nat} {l : List Nat} : x ∈ dropC n l ↔ x ∈ l ∧ x ≠ n := by simp [dropC]
theorem dropC_not {n : Nat} {l : List Nat} (h : n ∉ l) : dropC n l = l := by
  unfold dropC
  rw [List.filter_eq_self]
  intro x hx
  simp
  rintro rfl
  exact h hx
theorem dropC_nodup {n : Nat} {l : List Nat} (h : l.Nodup) : (dropC n l).Nodup := h.sublist List.filter_sublist
theorem dropC_len (n : Nat) (l : List Nat) : (dropC n l).length ≤ l.length := List.length_filter_le _ _
theorem put_nodup {n : Nat} {l : List Nat} (h : l.Nodup) : (dropC n l ++ [n]).Nodup :=
  List.nodup_append.2 ⟨dropC_nodup h, by simp, fun a ha b hb => by simp at hb; subst hb; exact (mem_dropC.1 ha).2⟩
theorem tail_sub {α : Type} (l : List α) : l.tail.Sublist l := List.tail_sublist l
theorem putC_nodup {room n : Nat} {l : List Nat} (h : l.Nodup) : (putC room n l).Nodup := by
  unfold putC
  split
  · exact (put_nodup h).sublist (tail_sub _)
  · exact put_nodup h
theorem mem_putC {room n x : Nat} {l : List Nat} (h : x ∈ putC room n l) : x = n ∨ x ∈ l := by
  have : x ∈ dropC n l ++ [n] := by
    unfold putC at h
    split at h
    · exact (tail_sub _).subset h
    · exact h
  rcases List.mem_append.1 this with h1 | h1
  · exact .inr (mem_dropC.1 h1).1
  · exact .inl (by simpa using h1)
theorem putC_len {room n : Nat} {l : List Nat} (h : l.length ≤ room) : (putC room n l).length ≤ room := by
  have := dropC_len n l
  unfold putC
  split
  · simp; omega
  · omega
/-- taking the head out is dropping its number -/
theorem dropC_head {a : Nat} {l : List Nat} (h : (a :: l).Nodup) : dropC a (a :: l) = l := by
  have h1 := (List.nodup_cons.1 h).1
  unfold dropC
  rw [List.filter_cons]
  simp only [decide_true, Bool.not_true, Bool.false_eq_true, if_false]
  exact dropC_not h1
theorem dropC_split {n : Nat} {a b : List Nat} (h : (a ++ n :: b).Nodup) : dropC n (a ++ n :: b) = a ++ b := by
  obtain ⟨h1, h2, h3⟩ := List.nodup_append.1 h
  have ha : n ∉ a := fun hn => h3 n hn n (by simp) rfl
  have := dropC_head h2
  unfold dropC at *
  rw [List.filter_append, this]
  rw [show List.filter (fun x => !decide (x = n)) a = a from dropC_not ha]

structure Sto where
  d : St
  now : Now
  wai : Nat → Option Bk
  acts : List Deed
  room : Nat
  cch : List (List Nat)
  found : Nat
  asked : Nat
namespace Sto
def N (s : Sto) : Nat := s.d.L.length
/-- the shard of a number -/
def sh (s : Sto) (n : Nat) : List Nat := s.cch.getD (n % s.cch.length) []
def use (s : Sto) (n : Nat) : Sto := { s with cch := s.cch.set (n % s.cch.length) (putC s.room n (s.sh n)) }
def lose (s : Sto) (n : Nat) : Sto := { s with cch := s.cch.set (n % s.cch.length) (dropC n (s.sh n)) }
/-- what a block's bytes are -/
def val (s : Sto) (n : Nat) : Bk := match s.now.chg n with
  | some l => l
  | none => match s.wai n with
    | some l => l
    | none => s.d.readAt n
def inMem (s : Sto) (n : Nat) : Bool := (s.now.chg n).isSome || (s.wai n).isSome
def read (s : Sto) (n : Nat) : Sto :=
  if s.inMem n then { s with found := s.found + 1 }
  else if n ∈ s.sh n then { s.use n with found := s.found + 1 }
  else { s.use n with asked := s.asked + 1 }
def actW (p : Now) (n : Nat) : Deed := match p.chg n with
  | none => .unset n
  | some was => .set n was
def actH (p : Now) (n : Nat) : Deed := if p.hld n then .nop else .free n
def write (s : Sto) (n : Nat) (l : Bk) : Sto :=
  { s.lose n with now := ⟨fun j => if j = n then some l else s.now.chg j, s.now.hld⟩, acts := s.acts ++ [actW s.now n] }
def hold (s : Sto) (n : Nat) : Sto :=
  { s with now := ⟨s.now.chg, fun j => if j = n then true else s.now.hld j⟩, acts := s.acts ++ [actH s.now n] }
def back (s : Sto) (m : Nat) : Sto := { s with now := undoAll (s.acts.drop m) s.now, acts := s.acts.take m }
def commit (s : Sto) : Sto :=
  { s with now := ⟨fun _ => none, s.now.hld⟩, wai := fun n => match s.now.chg n with | some l => some l | none => s.wai n, acts := [] }
def release (s : Sto) : Sto := { s with now := s.now.bare }
def home0 (s : Sto) (n : Nat) (l : Bk) : Sto := { s with d := s.d.write n l, wai := fun j => if j = n then none else s.wai j }
def home (s : Sto) (n : Nat) (l : Bk) : Sto := if (s.now.chg n).isSome then s.home0 n l else (s.home0 n l).use n

structure Wf (s : Sto) : Prop where
  chg : ∀ n l, s.now.chg n = some l → n < s.N ∧ l.length = 256
  wai : ∀ n l, s.wai n = some l → n < s.N ∧ l.length = 256
  hld : ∀ n, s.now.hld n = true → n < s.N
  fine : ∀ a ∈ s.acts, a.Fine s.N
  ok : Ok s.acts s.now
  sh1 : 1 ≤ s.cch.length
  sh2 : s.cch.length ≤ 16
  room1 : 1 ≤ s.room
  room2 : s.room ≤ 256
  each : ∀ (i : Nat) (h : i < s.cch.length), s.cch[i].Nodup ∧ s.cch[i].length ≤ s.room ∧ ∀ n ∈ s.cch[i], n < s.N ∧ n % s.cch.length = i ∧ s.now.chg n = none ∧ s.wai n = none
  pos : 128 ≤ s.N
  most : s.N ≤ 4096

theorem sh_eq (s : Sto) (h : s.Wf) (n : Nat) : ∃ hi : n % s.cch.length < s.cch.length, s.sh n = s.cch[n % s.cch.length] := by
  have := h.sh1
  have hi : n % s.cch.length < s.cch.length := Nat.mod_lt _ (by omega)
  exact ⟨hi, by unfold sh; rw [List.getD_eq_getElem?_getD, List.getElem?_eq_getElem hi]; rfl⟩

/-- the caches after a change of one shard -/
theorem Wf.cset {s : Sto} (h : s.Wf) (n : Nat) (hn : n < s.N) (l : List Nat) (hl : l.Nodup) (hr : l.length ≤ s.room) (hm : ∀ x ∈ l, (x = n ∧ s.now.chg n = none ∧ s.wai n = none) ∨ x ∈ s.sh n) : Wf { s with cch := s.cch.set (n % s.cch.length) l } := by
  obtain ⟨hi, hs⟩ := sh_eq s h n
  refine ⟨h.chg, h.wai, h.hld, h.fine, h.ok, by simpa using h.sh1, by simpa using h.sh2, h.room1, h.room2, ?_, h.pos, h.most⟩
  intro i hlt
  have hlt' : i < s.cch.length := by simpa using hlt
  simp only [List.length_set]
  by_cases e : n % s.cch.length = i
  · subst e
    simp only [List.getElem_set_self]
    refine ⟨hl, hr, fun x hx => ?_⟩
    rcases hm x hx with ⟨rfl, h1, h2⟩ | h1
    · exact ⟨hn, rfl, h1, h2⟩
    · rw [hs] at h1
      exact (h.each _ hi).2.2 x h1
  · rw [List.getElem_set_ne e]
    exact h.each i hlt'
theorem Wf.use {s : Sto} (h : s.Wf) {n : Nat} (hn : n < s.N) (h1 : s.now.chg n = none) (h2 : s.wai n = none) : (s.use n).Wf := by
  obtain ⟨hi, hs⟩ := sh_eq s h n
  have he := h.each _ hi
  rw [← hs] at he
  exact h.cset n hn _ (putC_nodup he.1) (putC_len he.2.1) fun x hx => by
    rcases mem_putC hx with rfl | h3
    · exact .inl ⟨rfl, h1, h2⟩
    · exact .inr h3
theorem Wf.lose {s : Sto} (h : s.Wf) {n : Nat} (hn : n < s.N) : (s.lose n).Wf := by
  obtain ⟨hi, hs⟩ := sh_eq s h n
  have he := h.each _ hi
  rw [← hs] at he
  exact h.cset n hn _ (dropC_nodup he.1) (Nat.le_trans (dropC_len _ _) he.2.1) fun x hx => .inr (mem_dropC.1 hx).1
theorem Wf.counts {s : Sto} (h : s.Wf) (f a : Nat) : Wf { s with found := f, asked := a } :=
  ⟨h.chg, h.wai, h.hld, h.fine, h.ok, h.sh1, h.sh2, h.room1, h.room2, h.each, h.pos, h.most⟩
theorem inMem_no {s : Sto} {n : Nat} (h : s.inMem n = false) : s.now.chg n = none ∧ s.wai n = none := by
  unfold inMem at h
  simp at h
  exact h
theorem Wf.read {s : Sto} (h : s.Wf) {n : Nat} (hn : n < s.N) : (s.read n).Wf := by
  unfold Sto.read
  split
  · exact h.counts _ _
  · rename_i hm
    obtain ⟨h1, h2⟩ := inMem_no (by simpa using hm)
    split
    · exact (h.use hn h1 h2).counts _ _
    · exact (h.use hn h1 h2).counts _ _
theorem actW_undo (p : Now) (n : Nat) (l : Bk) : (actW p n).undo ⟨fun j => if j = n then some l else p.chg j, p.hld⟩ = p := by
  unfold actW
  cases h : p.chg n with
  | none => exact Now.ext' (fun j => by simp only [Deed.undo]; split <;> simp_all) (fun j => rfl)
  | some was => exact Now.ext' (fun j => by simp only [Deed.undo]; split <;> simp_all) (fun j => rfl)
theorem actH_undo (p : Now) (n : Nat) : (actH p n).undo ⟨p.chg, fun j => if j = n then true else p.hld j⟩ = p := by
  unfold actH
  cases h : p.hld n with
  | true => exact Now.ext' (fun j => rfl) (fun j => by simp only [Deed.undo, if_true]; split <;> simp_all)
  | false => exact Now.ext' (fun j => rfl) (fun j => by simp only [Deed.undo, Bool.false_eq_true, if_false]; split <;> simp_all)
theorem not_in {s : Sto} (h : s.Wf) {n : Nat} {i : Nat} (hi : i < s.cch.length) (hc : s.now.chg n ≠ none ∨ s.wai n ≠ none) : n ∉ s.cch[i] := fun hx => by
  obtain ⟨_, _, h1, h2⟩ := (h.each i hi).2.2 n hx
  rcases hc with hc | hc
  · exact hc h1
  · exact hc h2
theorem Wf.write {s : Sto} (h : s.Wf) {n : Nat} {l : Bk} (hn : n < s.N) (hl : l.length = 256) : (s.write n l).Wf := by
  have hw := h.lose hn
  refine ⟨fun m b hb => ?_, h.wai, h.hld, fun a ha => ?_, Ok.snoc ?_ ?_, hw.sh1, hw.sh2, h.room1, h.room2, fun i hi => ?_, h.pos, h.most⟩
  · simp only [Sto.write] at hb
    split at hb
    · rename_i e
      injection hb with hb
      subst e; subst hb
      exact ⟨hn, hl⟩
    · exact h.chg m b hb
  · rcases List.mem_append.1 ha with h1 | h1
    · exact h.fine a h1
    · rw [List.mem_singleton.1 h1]
      unfold actW
      cases hc : s.now.chg n with
      | none => exact hn
      | some was => exact ⟨hn, (h.chg n was hc).2⟩
  · have e := actW_undo s.now n l
    show Ok s.acts ((actW s.now n).undo ⟨fun j => if j = n then some l else s.now.chg j, s.now.hld⟩)
    rw [e]; exact h.ok
  · intro m b e
    unfold actW at e
    cases hc : s.now.chg n with
    | none => rw [hc] at e; cases e
    | some was =>
      rw [hc] at e
      injection e with e1 e2
      subst e1
      simp [Sto.write]
  · obtain ⟨h1, h2, h3⟩ := hw.each i hi
    refine ⟨h1, h2, fun m hm => ?_⟩
    obtain ⟨a1, a2, a3, a4⟩ := h3 m hm
    refine ⟨a1, a2, ?_, a4⟩
    simp only [Sto.write]
    rw [if_neg]
    · exact a3
    · rintro rfl
      obtain ⟨hi', hs⟩ := sh_eq s h m
      simp only [Sto.lose, List.length_set] at a2
      subst a2
      simp only [Sto.write, Sto.lose, List.getElem_set_self] at hm
      exact (mem_dropC.1 hm).2 rfl
theorem Wf.hold {s : Sto} (h : s.Wf) {n : Nat} (hn : n < s.N) : (s.hold n).Wf := by
  refine ⟨h.chg, h.wai, fun m hm => ?_, fun a ha => ?_, Ok.snoc ?_ ?_, h.sh1, h.sh2, h.room1, h.room2, h.each, h.pos, h.most⟩
  · simp only [Sto.hold] at hm
    split at hm
    · rename_i e; subst e; exact hn
    · exact h.hld m hm
  · rcases List.mem_append.1 ha with h1 | h1
    · exact h.fine a h1
    · rw [List.mem_singleton.1 h1]
      unfold actH
      split
      · trivial
      · exact hn
  · have e := actH_undo s.now n
    show Ok s.acts ((actH s.now n).undo ⟨s.now.chg, fun j => if j = n then true else s.now.hld j⟩)
    rw [e]; exact h.ok
  · intro m b e
    unfold actH at e
    split at e <;> cases e
theorem undo_chg {a : Deed} {p : Now} {N : Nat} (hf : a.Fine N) (hp : ∀ n l, p.chg n = some l → n < N ∧ l.length = 256) : ∀ n l, (a.undo p).chg n = some l → n < N ∧ l.length = 256 := by
  intro n l h
  cases a with
  | unset m =>
    simp only [Deed.undo] at h
    split at h
    · cases h
    · exact hp n l h
  | set m b =>
    simp only [Deed.undo] at h
    split at h
    · rename_i e; subst e
      injection h with h
      subst h
      exact hf
    · exact hp n l h
  | nop => exact hp n l h
  | free m => exact hp n l h
theorem undo_hld {a : Deed} {p : Now} {N : Nat} (hp : ∀ n, p.hld n = true → n < N) : ∀ n, (a.undo p).hld n = true → n < N := by
  intro n h
  cases a with
  | unset m => exact hp n h
  | set m b => exact hp n h
  | nop => exact hp n h
  | free m =>
    simp only [Deed.undo] at h
    split at h
    · cases h
    · exact hp n h
theorem undoAll_fine {acts : List Deed} {p : Now} {N : Nat} (hf : ∀ a ∈ acts, a.Fine N) (hp : ∀ n l, p.chg n = some l → n < N ∧ l.length = 256) (hh : ∀ n, p.hld n = true → n < N) :
    (∀ n l, (undoAll acts p).chg n = some l → n < N ∧ l.length = 256) ∧ ∀ n, (undoAll acts p).hld n = true → n < N := by
  induction acts with
  | nil => exact ⟨hp, hh⟩
  | cons a r ih =>
    obtain ⟨h1, h2⟩ := ih fun b hb => hf b (by simp [hb])
    exact ⟨undo_chg (hf a (by simp)) h1, undo_hld h2⟩
theorem Wf.back {s : Sto} (h : s.Wf) (m : Nat) : (s.back m).Wf := by
  obtain ⟨h1, h2⟩ := undoAll_fine (fun a ha => h.fine a (List.mem_of_mem_drop ha)) h.chg h.hld (acts := s.acts.drop m)
  refine ⟨h1, h.wai, h2, fun a ha => h.fine a (List.mem_of_mem_take ha), h.ok.take m, h.sh1, h.sh2, h.room1, h.room2, fun i hi => ?_, h.pos, h.most⟩
  obtain ⟨a1, a2, a3⟩ := h.each i hi
  refine ⟨a1, a2, fun n hn => ?_⟩
  obtain ⟨b1, b2, b3, b4⟩ := a3 n hn
  refine ⟨b1, b2, ?_, b4⟩
  cases hc : (s.back m).now.chg n with
  | none => rfl
  | some l => exact absurd b3 (h.ok.drop m n (by unfold Sto.back at hc; simp only at hc; rw [hc]; simp))
theorem Wf.commit {s : Sto} (h : s.Wf) : s.commit.Wf := by
  refine ⟨fun n l e => (by cases e), fun n l e => ?_, h.hld, fun a ha => (by cases ha), Ok.nil _, h.sh1, h.sh2, h.room1, h.room2, fun i hi => ?_, h.pos, h.most⟩
  · simp only [Sto.commit] at e
    cases hc : s.now.chg n with
    | none => rw [hc] at e; exact h.wai n l e
    | some b => rw [hc] at e; injection e with e; subst e; exact h.chg n b hc
  · obtain ⟨a1, a2, a3⟩ := h.each i hi
    refine ⟨a1, a2, fun n hn => ?_⟩
    obtain ⟨b1, b2, b3, b4⟩ := a3 n hn
    exact ⟨b1, b2, rfl, by simp only [Sto.commit]; rw [b3]; exact b4⟩
theorem Wf.release {s : Sto} (h : s.Wf) : s.release.Wf :=
  ⟨h.chg, h.wai, fun n hn => (by cases hn), h.fine, h.ok.bare, h.sh1, h.sh2, h.room1, h.room2, h.each, h.pos, h.most⟩
theorem Wf.home0 {s : Sto} (h : s.Wf) {n : Nat} {l : Bk} : (s.home0 n l).Wf := by
  refine ⟨h.chg, fun m b e => ?_, h.hld, h.fine, h.ok, h.sh1, h.sh2, h.room1, h.room2, fun i hi => ?_, h.pos, h.most⟩
  · simp only [Sto.home0] at e
    split at e
    · cases e
    · exact h.wai m b e
  · obtain ⟨a1, a2, a3⟩ := h.each i hi
    refine ⟨a1, a2, fun m hm => ?_⟩
    obtain ⟨b1, b2, b3, b4⟩ := a3 m hm
    refine ⟨b1, b2, b3, ?_⟩
    simp only [Sto.home0]
    split
    · rfl
    · exact b4
theorem Wf.home {s : Sto} (h : s.Wf) {n : Nat} {l : Bk} (hn : n < s.N) : (s.home n l).Wf := by
  unfold Sto.home
  split
  · exact h.home0
  · rename_i hc
    exact h.home0.use hn (by simpa [Sto.home0] using hc) (by simp [Sto.home0])

/-- how much there is to count -/
def load (s : Sto) : Nat := s.acts.length + s.found + s.asked + s.d.N
theorem load_use (s : Sto) (n : Nat) : (s.use n).load = s.load := rfl
theorem load_read (s : Sto) (n : Nat) : (s.read n).load ≤ s.load + 1 := by
  unfold Sto.read
  split
  · simp [load]; omega
  · split <;> simp [load, Sto.use] <;> omega
theorem load_write (s : Sto) (n : Nat) (l : Bk) : (s.write n l).load ≤ s.load + 1 := by simp [load, Sto.write, Sto.lose]; omega
theorem load_hold (s : Sto) (n : Nat) : (s.hold n).load ≤ s.load + 1 := by simp [load, Sto.hold]; omega
theorem load_back (s : Sto) (m : Nat) : (s.back m).load ≤ s.load := by simp [load, Sto.back]; omega
theorem load_commit (s : Sto) : s.commit.load ≤ s.load := by simp [load, Sto.commit]
theorem load_release (s : Sto) : s.release.load ≤ s.load := by simp [load, Sto.release]
theorem load_home (s : Sto) (n : Nat) (l : Bk) : (s.home n l).load ≤ s.load + 1 := by
  unfold Sto.home
  split <;> simp [load, Sto.home0, Sto.use, St.write] <;> omega
end Sto
def fresh (d : St) (shards room : Nat) : Sto := ⟨d, ⟨fun _ => none, fun _ => false⟩, fun _ => none, [], room, List.replicate shards [], 0, 0⟩
theorem fresh_wf {d : St} {shards room : Nat} (h1 : 1 ≤ shards) (h2 : shards ≤ 16) (h3 : 1 ≤ room) (h4 : room ≤ 256) (h5 : 128 ≤ d.L.length) (h6 : d.L.length ≤ 4096) : (fresh d shards room).Wf :=
  ⟨fun n l h => (by cases h), fun n l h => (by cases h), fun n h => (by cases h), fun a h => (by cases h), Ok.nil _, by simpa [fresh] using h1, by simpa [fresh] using h2, h3, h4, fun i hi => by simp [fresh], h5, h6⟩
/-- the numbers at which something stands, rising -/
def numsOf (f : Nat → Option Bk) (N : Nat) : List Nat := (List.range N).filter fun n => (f n).isSome
/-- .. with what stands there -/
def wrs (f : Nat → Option Bk) (N : Nat) : List (Nat × Bk) := (numsOf f N).map fun n => (n, (f n).getD [])
end Go.Proofs.Ytphfidenjihgeaa.EPlain
