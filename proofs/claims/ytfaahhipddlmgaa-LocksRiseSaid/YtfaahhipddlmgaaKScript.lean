/- A script of operations in memory. -/
import Derived.Test.YtfaahhipddlmgaaKLaw
namespace Go.Proofs.Ytfaahhipddlmgaa.KScript
open Go.RowKit WMem Ext KMap KPlain KLeave KLaw

/-- what is done to a table -/
structure OpV where
  what : Int
  th : Int
  key : Int
  al : Bool
instance : Inhabited OpV := ⟨⟨0, 0, 0, false⟩⟩

def OpsIn (w : World) (B : Nat) (A : Option Addr) (ops : List OpV) : Prop :=
  ∀ (i : Nat) (hi : i < ops.length), ∃ a, A = some a ∧ a.block < B ∧ w.cell? (a.add (i * 4)) = some (.int .i64 ops[i].what) ∧ w.cell? (a.add (i * 4 + 1)) = some (.int .i64 ops[i].th) ∧ w.cell? (a.add (i * 4 + 2)) = some (.int .i64 ops[i].key) ∧
    w.cell? (a.add (i * 4 + 3)) = some (.bool ops[i].al) ∧ Fits ops[i].key
theorem OpsIn.below {w w' : World} {B B' : Nat} {A : Option Addr} {ops : List OpV} (h : OpsIn w B A ops) (hb : Below B' w w') (hB : B ≤ B') : OpsIn w' B A ops := fun i hi => by
  obtain ⟨a, hA, hab, h1, h2, h3, h4, h5⟩ := h i hi
  have hk : ∀ n, w'.cell? (a.add n) = w.cell? (a.add n) := fun n => hb.cell (by rw [addr_add_block]; omega)
  exact ⟨a, hA, hab, (hk _).trans h1, (hk _).trans h2, (hk _).trans h3, (hk _).trans h4, h5⟩
theorem addr_field (a : Addr) (n j : Nat) (hj : j ≠ 0) : (⟨(a.add n).block, (a.add n).off + j, none⟩ : Addr) = a.add (n + j) := by
  rw [← addr_add_add a n j]
  generalize a.add n = x
  unfold Addr.add
  rw [if_neg hj]

/-! ### what claims there can be -/
theorem has_append (l r : List Cl) (th : Int) : has (l ++ r) th = (has l th || has r th) := by simp [has]
theorem has_one (t th : Int) (al : Bool) : has [(t, al)] th = (t == th) := by simp [has, isT]
theorem has_mem {l : List Cl} {th : Int} : has l th = true ↔ ∃ c ∈ l, c.1 = th := by simp [has, isT]
/-- a thread has no more than one claim at a key -/
def Uniq (R : Rw) : Prop := ∀ k, ((R k).map (·.1)).Nodup
theorem Uniq.ask {R : Rw} (h : Uniq R) (th k : Int) (al : Bool) : Uniq (askd R th k al) := by
  intro j
  unfold askd
  split
  · rename_i ha
    by_cases e : j = k
    · subst e
      rw [put_same, List.map_append, List.nodup_append]
      have hn : has (R j) th = false := by simp only [askOk, Bool.and_eq_true, Bool.not_eq_true'] at ha; exact ha.2
      refine ⟨h j, by simp, fun a ha' b hb => ?_⟩
      simp at hb
      subst hb
      obtain ⟨c, hc, rfl⟩ := List.mem_map.1 ha'
      rintro rfl
      have : has (R j) c.1 = true := has_mem.2 ⟨c, hc, rfl⟩
      rw [this] at hn
      cases hn
    · rw [put_other _ _ e]; exact h j
  · exact h j
theorem Uniq.leave {R : Rw} (h : Uniq R) (th k : Int) : Uniq (leavd R th k) := by
  intro j
  unfold leavd
  split
  · by_cases e : j = k
    · subst e
      rw [put_same]
      exact (h j).sublist (List.eraseP_sublist.map _)
    · rw [put_other _ _ e]; exact h j
  · exact h j
theorem erase_has {l : List Cl} {th t : Int} (hn : (l.map (·.1)).Nodup) : has (l.eraseP (isT th)) t = true ↔ has l t = true ∧ t ≠ th := by
  induction l with
  | nil => simp [has]
  | cons c r ih =>
    rw [List.map_cons, List.nodup_cons] at hn
    by_cases hc : isT th c = true
    · rw [List.eraseP_cons_of_pos hc]
      have hc1 : c.1 = th := by simpa [isT] using hc
      have e : has (c :: r) t = (c.1 == t || has r t) := by simp [has, isT]
      rw [e, Bool.or_eq_true, beq_iff_eq]
      constructor
      · intro h
        refine ⟨.inr h, fun e2 => hn.1 ?_⟩
        obtain ⟨d, hd, hd1⟩ := has_mem.1 h
        exact List.mem_map.2 ⟨d, hd, by rw [hd1, e2, hc1]⟩
      · rintro ⟨h1 | h1, h2⟩
        · exact absurd (h1.symm.trans hc1) h2
        · exact h1
    · rw [List.eraseP_cons_of_neg hc]
      have hc1 : c.1 ≠ th := by simpa [isT] using hc
      have e : ∀ r', has (c :: r') t = (c.1 == t || has r' t) := fun r' => by simp [has, isT]
      rw [e, e, Bool.or_eq_true, Bool.or_eq_true, beq_iff_eq, ih hn.2]
      constructor
      · rintro (h1 | ⟨h1, h2⟩)
        · exact ⟨.inl h1, by rw [← h1]; exact hc1⟩
        · exact ⟨.inr h1, h2⟩
      · rintro ⟨h1 | h1, h2⟩
        · exact .inl h1
        · exact .inr ⟨h1, h2⟩
theorem leave_has {R : Rw} (h : Uniq R) (th k t j : Int) : has (leavd R th k j) t = true ↔ has (R j) t = true ∧ ¬(j = k ∧ t = th) := by
  unfold leavd
  split
  · by_cases e : j = k
    · subst e
      rw [put_same, erase_has (h j)]
      simp
    · rw [put_other _ _ e]
      simp [e]
  · rename_i hn
    constructor
    · intro h1
      refine ⟨h1, ?_⟩
      rintro ⟨rfl, rfl⟩
      exact hn h1
    · exact fun h1 => h1.1
theorem ask_has {R : Rw} (th k t j : Int) (al : Bool) : has (askd R th k al j) t = true → has (R j) t = true ∨ (j = k ∧ t = th) := by
  unfold askd
  split
  · by_cases e : j = k
    · subst e
      rw [put_same, has_append, Bool.or_eq_true, has_one, beq_iff_eq]
      rintro (h | h)
      · exact .inl h
      · exact .inr ⟨rfl, h.symm⟩
    · rw [put_other _ _ e]; exact .inl
  · exact .inl
theorem holdd_no {R : Rw} {th k : Int} (h : ¬ has (R k) th = true) : holdd R th k = false := by
  unfold holdd
  rw [place_none.2 (by simpa using h)]
/-- all claims are from some operations of the script -/
def From (ops : List OpV) (a b : Nat) (R : Rw) : Prop := ∀ k t, has (R k) t = true → ∃ (i : Nat) (h : i < ops.length), a ≤ i ∧ i < b ∧ ops[i].th = t ∧ ops[i].key = k
theorem From.start (ops : List OpV) : From ops 0 0 (fun _ => []) := fun k t h => by cases h
theorem From.ask {ops : List OpV} {j : Nat} {R : Rw} (h : From ops 0 j R) (hj : j < ops.length) : From ops 0 (j + 1) (askd R ops[j].th ops[j].key ops[j].al) := by
  intro k t hh
  rcases ask_has _ _ _ _ _ hh with h1 | ⟨h1, h2⟩
  · obtain ⟨i, hi, q1, q2, q3⟩ := h k t h1
    exact ⟨i, hi, q1, by omega, q3⟩
  · exact ⟨j, hj, Nat.zero_le _, Nat.lt_succ_self _, h2.symm, h1.symm⟩
theorem From.leave {ops : List OpV} {j m : Nat} {R : Rw} (h : From ops j m R) (hu : Uniq R) (hj : j < ops.length) : From ops (j + 1) m (leavd R ops[j].th ops[j].key) := by
  intro k t hh
  obtain ⟨h1, h2⟩ := (leave_has hu _ _ _ _).1 hh
  obtain ⟨i, hi, q1, q2, q3, q4⟩ := h k t h1
  refine ⟨i, hi, ?_, q2, q3, q4⟩
  rcases Nat.lt_or_ge j i with h3 | h3
  · exact h3
  · obtain rfl : i = j := by omega
    exact absurd ⟨q4.symm, q3.symm⟩ h2
theorem From.empty {ops : List OpV} {a b : Nat} {R : Rw} (h : From ops a b R) (hab : b ≤ a) : Empty R := by
  intro k _
  cases hl : R k with
  | nil => rfl
  | cons c r =>
    obtain ⟨i, _, q1, q2, _⟩ := h k c.1 (by rw [hl]; simp [has, isT])
    omega
/-- a row's three cells that a call reads -/
structure OpAt (w : World) (a : Addr) (k : Nat) (o : OpV) : Prop where
  c1 : w.cell? ⟨(a.add (k * 4)).block, (a.add (k * 4)).off + 1, none⟩ = some (.int .i64 o.th)
  c2 : w.cell? ⟨(a.add (k * 4)).block, (a.add (k * 4)).off + 2, none⟩ = some (.int .i64 o.key)
  c3 : w.cell? ⟨(a.add (k * 4)).block, (a.add (k * 4)).off + 3, none⟩ = some (.bool o.al)
  c0 : w.cell? (a.add (k * 4)) = some (.int .i64 o.what)
theorem op_at {w wr : World} {B : Nat} {A : Option Addr} {ops : List OpV} (hA : OpsIn w B A ops) (hb : Below B w wr) {k : Nat} (hk : k < ops.length) : ∃ a, A = some a ∧ a.block < B ∧ OpAt wr a k ops[k] ∧ Fits ops[k].key := by
  obtain ⟨a, hA, hab, h0, h1, h2, h3, h4⟩ := hA k hk
  have hk' : ∀ n, wr.cell? (a.add n) = w.cell? (a.add n) := fun n => hb.cell (by rw [addr_add_block]; exact hab)
  refine ⟨a, hA, hab, ⟨(congrArg wr.cell? (addr_field a (k * 4) 1 (by decide))).trans ((hk' _).trans h1), (congrArg wr.cell? (addr_field a (k * 4) 2 (by decide))).trans ((hk' _).trans h2),
    (congrArg wr.cell? (addr_field a (k * 4) 3 (by decide))).trans ((hk' _).trans h3), (hk' _).trans h0⟩, h4⟩
theorem OpAt.drew {w : World} {a : Addr} {k : Nat} {o : OpV} (h : OpAt w a k o) : OpAt w.drew a k o := ⟨h.c1, h.c2, h.c3, h.c0⟩
theorem OpAt.below {w w' : World} {a : Addr} {k : Nat} {o : OpV} {B : Nat} (h : OpAt w a k o) (hb : Below B w w') (ha : a.block < B) : OpAt w' a k o := by
  have hk : ∀ (p : Addr), p.block = a.block → w'.cell? p = w.cell? p := fun p hp => hb.cell (by rw [hp]; exact ha)
  have hk2 : ∀ j, w'.cell? ⟨(a.add (k * 4)).block, (a.add (k * 4)).off + j, none⟩ = w.cell? ⟨(a.add (k * 4)).block, (a.add (k * 4)).off + j, none⟩ := fun j => hk ⟨(a.add (k * 4)).block, (a.add (k * 4)).off + j, none⟩ (addr_add_block a (k * 4))
  exact ⟨(hk2 1).trans h.c1, (hk2 2).trans h.c2, (hk2 3).trans h.c3, (hk _ (addr_add_block _ _)).trans h.c0⟩
end Go.Proofs.Ytfaahhipddlmgaa.KScript
