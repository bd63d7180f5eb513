/- Walkers with rising keys, in plain mathematics. -/
import Derived.Test.YtfaahhipddlmgaaKAPlain
namespace Go.Proofs.Ytfaahhipddlmgaa.KWPlain
open KPlain KMem KScript KAPlain KLeave

/-- a walker: how many keys, which, how many it has asked for, whether it is done -/
structure Wk where
  len : Nat
  key : Nat → Int
  n : Nat
  done : Bool
/-- it has asked for one more -/
def more (x : Wk) : Wk := ⟨x.len, x.key, x.n + 1, x.done⟩
/-- it is done -/
def ended (x : Wk) : Wk := ⟨x.len, x.key, x.n, true⟩
def thOf (i : Nat) : Int := (i : Int) + 1
def upd (W : Nat → Wk) (i : Nat) (x : Wk) : Nat → Wk := fun j => if j = i then x else W j
theorem upd_same (W : Nat → Wk) (i : Nat) (x : Wk) : upd W i x i = x := if_pos rfl
theorem upd_other (W : Nat → Wk) {i j : Nat} (x : Wk) (h : j ≠ i) : upd W i x j = W j := if_neg h
/-- may walker i go? -/
def mayGo (R : Rw) (W : Nat → Wk) (i : Nat) : Bool := !(W i).done && ((W i).n == 0 || holdd R (thOf i) ((W i).key ((W i).n - 1)))
structure Keys (W : Nat → Wk) (m : Nat) : Prop where
  rise : ∀ i, i < m → ∀ a b, a < b → b < (W i).len → (W i).key a < (W i).key b
  pos : ∀ i, i < m → ∀ a, a < (W i).len → 1 ≤ (W i).key a ∧ (W i).key a ≤ 32
  short : ∀ i, i < m → (W i).len ≤ 8
structure Inv (R : Rw) (W : Nat → Wk) (m : Nat) : Prop where
  uniq : Uniq R
  keys : Keys W m
  few : m ≤ 8
  nle : ∀ i, i < m → (W i).n ≤ (W i).len
  mine : ∀ k t, has (R k) t = true → ∃ i, i < m ∧ t = thOf i ∧ (W i).done = false ∧ ∃ j, j < (W i).n ∧ k = (W i).key j
  there : ∀ i, i < m → (W i).done = false → ∀ j, j < (W i).n → has (R ((W i).key j)) (thOf i) = true
theorem th_inj {i j : Nat} (h : thOf i = thOf j) : i = j := by unfold thOf at h; omega

/-- of those who are not done the one whose last key is the greatest -/
theorem greatest (p : Nat → Bool) (f : Nat → Int) (m : Nat) (h : ∃ i, i < m ∧ p i = true) : ∃ i, i < m ∧ p i = true ∧ ∀ j, j < m → p j = true → f j ≤ f i := by
  induction m with
  | zero => obtain ⟨i, hi, _⟩ := h; omega
  | succ m ih =>
    by_cases hm : ∃ i, i < m ∧ p i = true
    · obtain ⟨i, hi, hp, hg⟩ := ih hm
      by_cases hq : p m = true ∧ f i < f m
      · refine ⟨m, by omega, hq.1, fun j hj hpj => ?_⟩
        rcases Nat.lt_or_ge j m with h1 | h1
        · have := hg j h1 hpj; omega
        · obtain rfl : j = m := by omega
          omega
      · refine ⟨i, by omega, hp, fun j hj hpj => ?_⟩
        rcases Nat.lt_or_ge j m with h1 | h1
        · exact hg j h1 hpj
        · obtain rfl : j = m := by omega
          have : ¬ f i < f j := fun h2 => hq ⟨hpj, h2⟩
          omega
    · obtain ⟨i, hi, hp⟩ := h
      have hi2 : ¬ i < m := fun h1 => hm ⟨i, h1, hp⟩
      obtain rfl : i = m := by omega
      refine ⟨i, by omega, hp, fun j hj hpj => ?_⟩
      rcases Nat.lt_or_ge j i with h1 | h1
      · exact absurd ⟨j, h1, hpj⟩ hm
      · obtain rfl : j = i := by omega
        exact Int.le_refl _
/-- rising keys never lock up -/
theorem somebody {R : Rw} {W : Nat → Wk} {m : Nat} (h : Inv R W m) (hl : ∃ i, i < m ∧ (W i).done = false) : ∃ i, i < m ∧ mayGo R W i = true := by
  obtain ⟨i, hi, hd, hg⟩ := greatest (fun i => !(W i).done) (fun i => (W i).key ((W i).n - 1)) m (by obtain ⟨i, hi, hd⟩ := hl; exact ⟨i, hi, by simp [hd]⟩)
  have hd : (W i).done = false := by simpa using hd
  by_cases h0 : (W i).n = 0
  · exact ⟨i, hi, by simp [mayGo, hd, h0]⟩
  · have hh := h.there i hi hd ((W i).n - 1) (by omega)
    generalize hK : (W i).key ((W i).n - 1) = K at *
    obtain ⟨c, hc, _⟩ := has_mem.1 hh
    have hlen : 0 < (R K).length := List.length_pos_of_mem hc
    have h1 := hold_at (h.uniq K) hlen
    rw [hold_first] at h1
    have h2 : has (R K) (at_ (R K) 0).1 = true := has_mem.2 ⟨_, by rw [at_get _ hlen]; exact List.getElem_mem hlen, rfl⟩
    obtain ⟨i', hi', ht, hd', j, hj, hk⟩ := h.mine K _ h2
    refine ⟨i', hi', ?_⟩
    have h3 := hg i' hi' (by simp [hd'])
    have hj2 : j = (W i').n - 1 := by
      rcases Nat.lt_or_ge j ((W i').n - 1) with h4 | h4
      · have h5 := h.keys.rise i' hi' j ((W i').n - 1) h4 (by have := h.nle i' hi'; omega)
        omega
      · omega
    subst hj2
    rw [ht, hk] at h1
    simp [mayGo, hd', h1]

/-! ### a step: another key -/
theorem Inv.more {R : Rw} {W : Nat → Wk} {m : Nat} (h : Inv R W m) {i : Nat} (hi : i < m) (hd : (W i).done = false) (hn : (W i).n < (W i).len) (al : Bool) :
    Inv (askd R (thOf i) ((W i).key (W i).n) al) (upd W i (more (W i))) m := by
  have hmono : ∀ k t, has (R k) t = true → has (askd R (thOf i) ((W i).key (W i).n) al k) t = true := by
    intro k t ht
    unfold askd
    split
    · by_cases e : k = (W i).key (W i).n
      · subst e; rw [put_same, has_append, ht]; rfl
      · rw [put_other _ _ e]; exact ht
    · exact ht
  refine ⟨h.uniq.ask _ _ _, ⟨?_, ?_, ?_⟩, h.few, ?_, ?_, ?_⟩
  · intro j hj a b hab hb
    by_cases e : j = i
    · subst e; rw [upd_same] at hb ⊢; exact h.keys.rise j hj a b hab hb
    · rw [upd_other _ _ e] at hb ⊢; exact h.keys.rise j hj a b hab hb
  · intro j hj a ha
    by_cases e : j = i
    · subst e; rw [upd_same] at ha ⊢; exact h.keys.pos j hj a ha
    · rw [upd_other _ _ e] at ha ⊢; exact h.keys.pos j hj a ha
  · intro j hj
    by_cases e : j = i
    · subst e; rw [upd_same]; exact h.keys.short j hj
    · rw [upd_other _ _ e]; exact h.keys.short j hj
  · intro j hj
    by_cases e : j = i
    · subst e; rw [upd_same]; exact hn
    · rw [upd_other _ _ e]; exact h.nle j hj
  · intro k t hh
    rcases ask_has _ _ _ _ _ hh with h1 | ⟨h1, h2⟩
    · obtain ⟨i', hi', ht, hd', j, hj, hk⟩ := h.mine k t h1
      refine ⟨i', hi', ht, ?_⟩
      by_cases e : i' = i
      · subst e; rw [upd_same]; exact ⟨hd', j, by show j < _ + 1; omega, hk⟩
      · rw [upd_other _ _ e]; exact ⟨hd', j, hj, hk⟩
    · refine ⟨i, hi, h2, ?_⟩
      rw [upd_same]
      exact ⟨hd, (W i).n, Nat.lt_succ_self _, h1⟩
  · intro j hj hdj a ha
    by_cases e : j = i
    · subst e
      rw [upd_same] at hdj ha ⊢
      rcases Nat.lt_or_ge a (W j).n with h1 | h1
      · exact hmono _ _ (h.there j hj hd a h1)
      · have ha2 : a < (W j).n + 1 := ha
        obtain rfl : a = (W j).n := by omega
        by_cases hx : has (R ((W j).key (W j).n)) (thOf j) = true
        · exact hmono _ _ hx
        · have hp := h.keys.pos j hj _ hn
          have hf := h.few
          have hok : askOk R (thOf j) ((W j).key (W j).n) = true := by
            unfold askOk thOf
            unfold thOf at hx
            simp only [Bool.and_eq_true, decide_eq_true_eq, Bool.not_eq_true']
            exact ⟨⟨⟨by omega, by omega⟩, by omega⟩, by simpa using hx⟩
          show has (askd R (thOf j) ((W j).key (W j).n) al ((W j).key (W j).n)) (thOf j) = true
          unfold askd
          rw [if_pos hok, put_same, has_append, has_one]
          simp
    · rw [upd_other _ _ e] at hdj ha ⊢
      exact hmono _ _ (h.there j hj hdj a ha)

/-! ### a step: it leaves all -/
def leaves (R : Rw) (t : Int) (key : Nat → Int) : Nat → Rw
  | 0 => R
  | j + 1 => leavd (leaves R t key j) t (key j)
theorem leaves_uniq {R : Rw} (h : Uniq R) (t : Int) (key : Nat → Int) (j : Nat) : Uniq (leaves R t key j) := by
  induction j with
  | zero => exact h
  | succ j ih => exact ih.leave _ _
theorem leaves_has {R : Rw} (h : Uniq R) (t : Int) (key : Nat → Int) (j : Nat) (k s : Int) : has (leaves R t key j k) s = true ↔ has (R k) s = true ∧ ¬ (s = t ∧ ∃ a, a < j ∧ k = key a) := by
  induction j with
  | zero => simp [leaves]
  | succ j ih =>
    show has (leavd (leaves R t key j) t (key j) k) s = true ↔ _
    rw [leave_has (leaves_uniq h t key j), ih]
    constructor
    · rintro ⟨⟨h1, h2⟩, h3⟩
      refine ⟨h1, ?_⟩
      rintro ⟨rfl, a, ha, hk⟩
      rcases Nat.lt_or_ge a j with h4 | h4
      · exact h2 ⟨rfl, a, h4, hk⟩
      · obtain rfl : a = j := by omega
        exact h3 ⟨hk, rfl⟩
    · rintro ⟨h1, h2⟩
      exact ⟨⟨h1, fun ⟨h3, a, ha, hk⟩ => h2 ⟨h3, a, by omega, hk⟩⟩, fun ⟨hk, h3⟩ => h2 ⟨h3, j, Nat.lt_succ_self _, hk⟩⟩
theorem Inv.ends {R : Rw} {W : Nat → Wk} {m : Nat} (h : Inv R W m) {i : Nat} (hn : (W i).n = (W i).len) :
    Inv (leaves R (thOf i) (W i).key (W i).len) (upd W i (ended (W i))) m := by
  have hH := leaves_has h.uniq (thOf i) (W i).key (W i).len
  refine ⟨leaves_uniq h.uniq _ _ _, ⟨?_, ?_, ?_⟩, h.few, ?_, ?_, ?_⟩
  · intro j hj a b hab hb
    by_cases e : j = i
    · subst e; rw [upd_same] at hb ⊢; exact h.keys.rise j hj a b hab hb
    · rw [upd_other _ _ e] at hb ⊢; exact h.keys.rise j hj a b hab hb
  · intro j hj a ha
    by_cases e : j = i
    · subst e; rw [upd_same] at ha ⊢; exact h.keys.pos j hj a ha
    · rw [upd_other _ _ e] at ha ⊢; exact h.keys.pos j hj a ha
  · intro j hj
    by_cases e : j = i
    · subst e; rw [upd_same]; exact h.keys.short j hj
    · rw [upd_other _ _ e]; exact h.keys.short j hj
  · intro j hj
    by_cases e : j = i
    · subst e; rw [upd_same]; exact h.nle j hj
    · rw [upd_other _ _ e]; exact h.nle j hj
  · intro k t hh
    obtain ⟨h1, h2⟩ := (hH k t).1 hh
    obtain ⟨i', hi', ht, hd', j, hj, hk⟩ := h.mine k t h1
    have e : i' ≠ i := by
      rintro rfl
      exact h2 ⟨ht, j, by omega, hk⟩
    refine ⟨i', hi', ht, ?_⟩
    rw [upd_other _ _ e]
    exact ⟨hd', j, hj, hk⟩
  · intro j hj hdj a ha
    by_cases e : j = i
    · subst e
      rw [upd_same] at hdj
      exact absurd hdj (by simp [ended])
    · rw [upd_other _ _ e] at hdj ha ⊢
      refine (hH _ _).2 ⟨h.there j hj hdj a ha, ?_⟩
      rintro ⟨h1, _⟩
      exact e (th_inj h1)
/-- when all are done nothing is claimed -/
theorem Inv.free {R : Rw} {W : Nat → Wk} {m : Nat} (h : Inv R W m) (hd : ∀ i, i < m → (W i).done = true) : ∀ k, R k = [] := by
  intro k
  cases hk : R k with
  | nil => rfl
  | cons c r =>
    obtain ⟨i, hi, _, h2, _⟩ := h.mine k c.1 (by rw [hk]; exact has_mem.2 ⟨c, by simp, rfl⟩)
    rw [hd i hi] at h2
    cases h2

/-! ### how much there is to do -/
def sumTo (f : Nat → Nat) : Nat → Nat
  | 0 => 0
  | m + 1 => sumTo f m + f m
theorem sum_same {f g : Nat → Nat} {m : Nat} (h : ∀ j, j < m → f j = g j) : sumTo f m = sumTo g m := by
  induction m with
  | zero => rfl
  | succ m ih => show sumTo f m + f m = sumTo g m + g m; rw [ih (fun j hj => h j (by omega)), h m (by omega)]
theorem sum_turn {f g : Nat → Nat} {m i : Nat} (hi : i < m) (h : ∀ j, j ≠ i → f j = g j) : sumTo f m + g i = sumTo g m + f i := by
  induction m with
  | zero => omega
  | succ m ih =>
    show sumTo f m + f m + g i = sumTo g m + g m + f i
    rcases Nat.lt_or_ge i m with h1 | h1
    · have := ih h1; have := h m (by omega); omega
    · obtain rfl : i = m := by omega
      have := sum_same (f := f) (g := g) (m := i) (fun j hj => h j (by omega))
      omega
theorem sum_le {f : Nat → Nat} {m c : Nat} (h : ∀ j, j < m → f j ≤ c) : sumTo f m ≤ m * c := by
  induction m with
  | zero => exact Nat.zero_le _
  | succ m ih =>
    have h1 := ih (fun j hj => h j (by omega))
    have h2 := h m (by omega)
    show sumTo f m + f m ≤ _
    rw [Nat.succ_mul]
    omega
theorem sum_mono {f g : Nat → Nat} {m : Nat} (h : ∀ j, j < m → f j ≤ g j) : sumTo f m ≤ sumTo g m := by
  induction m with
  | zero => exact Nat.le_refl _
  | succ m ih =>
    have h1 := ih (fun j hj => h j (by omega))
    have h2 := h m (by omega)
    show sumTo f m + f m ≤ sumTo g m + g m
    omega
theorem sum_zero {f : Nat → Nat} {m : Nat} (h : sumTo f m = 0) : ∀ j, j < m → f j = 0 := by
  induction m with
  | zero => intro j hj; omega
  | succ m ih =>
    intro j hj
    have h1 : sumTo f m + f m = 0 := h
    rcases Nat.lt_or_ge j m with h2 | h2
    · exact ih (by omega) j h2
    · obtain rfl : j = m := by omega
      omega
def liveOf (W : Nat → Wk) (i : Nat) : Nat := if (W i).done then 0 else 1
def workOf (W : Nat → Wk) (i : Nat) : Nat := if (W i).done then 0 else (W i).len - (W i).n + 1
/-- how many are not done -/
def live (W : Nat → Wk) (m : Nat) : Nat := sumTo (liveOf W) m
/-- how many steps there are yet -/
def work (W : Nat → Wk) (m : Nat) : Nat := sumTo (workOf W) m
theorem live_le_work (W : Nat → Wk) (m : Nat) : live W m ≤ work W m := sum_mono fun j _ => by unfold liveOf workOf; split <;> omega
theorem live_all {W : Nat → Wk} {m : Nat} (h : ∀ i, i < m → (W i).done = false) : live W m = m := by
  unfold live
  induction m with
  | zero => rfl
  | succ m ih =>
    show sumTo (liveOf W) m + liveOf W m = m + 1
    rw [ih (fun i hi => h i (by omega))]
    simp [liveOf, h m (Nat.lt_succ_self m)]
theorem live_zero {W : Nat → Wk} {m : Nat} (h : live W m = 0) : ∀ i, i < m → (W i).done = true := fun i hi => by
  have h1 := sum_zero h i hi
  unfold liveOf at h1
  split at h1
  · assumption
  · cases h1
theorem live_some {W : Nat → Wk} {m : Nat} (h : 0 < live W m) : ∃ i, i < m ∧ (W i).done = false := Classical.byContradiction fun hn => by
  have h0 : live W m ≤ m * 0 := sum_le fun j hj => by
    unfold liveOf
    cases hd : (W j).done with
    | true => simp
    | false => exact absurd ⟨j, hj, hd⟩ hn
  omega
theorem work_start {R : Rw} {W : Nat → Wk} {m : Nat} (h : Inv R W m) : work W m ≤ 72 := by
  have h1 : work W m ≤ m * 9 := sum_le fun j hj => by
    have := h.keys.short j hj
    unfold workOf
    split <;> omega
  have := h.few
  omega
theorem more_turn {W : Nat → Wk} {m i : Nat} (hi : i < m) (hd : (W i).done = false) (hn : (W i).n < (W i).len) :
    live (upd W i (more (W i))) m = live W m ∧ work (upd W i (more (W i))) m + 1 = work W m := by
  have h1 := sum_turn (f := liveOf (upd W i (more (W i)))) (g := liveOf W) hi (fun j hj => by unfold liveOf; rw [upd_other _ _ hj])
  have h2 := sum_turn (f := workOf (upd W i (more (W i)))) (g := workOf W) hi (fun j hj => by unfold workOf; rw [upd_other _ _ hj])
  have e1 : liveOf (upd W i (more (W i))) i = 1 := by unfold liveOf; rw [upd_same]; simp [more, hd]
  have e2 : workOf (upd W i (more (W i))) i = (W i).len - ((W i).n + 1) + 1 := by unfold workOf; rw [upd_same]; simp [more, hd]
  have e3 : liveOf W i = 1 := by simp [liveOf, hd]
  have e4 : workOf W i = (W i).len - (W i).n + 1 := by simp [workOf, hd]
  unfold live work
  omega
theorem ends_turn {W : Nat → Wk} {m i : Nat} (hi : i < m) (hd : (W i).done = false) (hn : (W i).n = (W i).len) :
    live (upd W i (ended (W i))) m + 1 = live W m ∧ work (upd W i (ended (W i))) m + 1 = work W m := by
  have h1 := sum_turn (f := liveOf (upd W i (ended (W i)))) (g := liveOf W) hi (fun j hj => by unfold liveOf; rw [upd_other _ _ hj])
  have h2 := sum_turn (f := workOf (upd W i (ended (W i)))) (g := workOf W) hi (fun j hj => by unfold workOf; rw [upd_other _ _ hj])
  have e1 : liveOf (upd W i (ended (W i))) i = 0 := by unfold liveOf; rw [upd_same]; simp [ended]
  have e2 : workOf (upd W i (ended (W i))) i = 0 := by unfold workOf; rw [upd_same]; simp [ended]
  have e3 : liveOf W i = 1 := by simp [liveOf, hd]
  have e4 : workOf W i = (W i).len - (W i).n + 1 := by simp [workOf, hd]
  unfold live work
  omega
end Go.Proofs.Ytfaahhipddlmgaa.KWPlain
