/- Plain mathematics for layer bits: chunks of a row of bits, buddies among them, how many there are and which is the first; the walk that cuts. Nothing of the program. -/
namespace Go.Proofs.YtlpipnpcgancmaaDoor.TPlain

variable (F : Nat → Bool)

/-- are all bits of the chunk free? -/
def chunk (c k : Nat) : Bool := (List.range (2 ^ k)).all fun j => F (c + j)
theorem chunk_iff {F : Nat → Bool} {c k : Nat} : chunk F c k = true ↔ ∀ j, j < 2 ^ k → F (c + j) = true := by
  simp [chunk, List.all_eq_true, List.mem_range]
theorem chunk_no {F : Nat → Bool} {c k j : Nat} (hj : j < 2 ^ k) (h : F (c + j) = false) : chunk F c k = false := by
  cases e : chunk F c k with
  | false => rfl
  | true => rw [chunk_iff.1 e j hj] at h; cases h
/-- a free chunk that is a buddy's -/
def bud (c k : Nat) : Bool := decide (c % 2 ^ k = 0) && chunk F c k && (decide (k = 10) || !chunk F (c - c % 2 ^ (k + 1)) (k + 1))
/-- how many buddies of an order begin ahead of p -/
def cnt (k : Nat) : Nat → Nat
  | 0 => 0
  | p + 1 => cnt k p + if bud F p k = true then 1 else 0
/-- where the first one begins; 0, if there is none -/
def fst (k : Nat) : Nat → Nat
  | 0 => 0
  | p + 1 => if cnt F k p = 0 then (if bud F p k = true then p else 0) else fst k p
/-- how many bits ahead of p are free -/
def zer : Nat → Nat
  | 0 => 0
  | p + 1 => zer p + if F p = true then 1 else 0

/-- no free chunk lies over p -/
def Cut (p : Nat) : Prop := ∀ c k, k ≤ 10 → c % 2 ^ k = 0 → c < p → p < c + 2 ^ k → chunk F c k = false

variable {F}
theorem cut_zero : Cut F 0 := fun c k _ _ h => by omega
theorem cut_next {p : Nat} (h : F p = false) : Cut F (p + 1) := fun c k _ _ h1 h2 => by
  refine chunk_no (j := p - c) (by omega) ?_
  rw [show c + (p - c) = p by omega]
  exact h

theorem two_pow_pos (k : Nat) : 0 < 2 ^ k := Nat.two_pow_pos k
theorem pow_up {a b : Nat} (h : a ≤ b) : ∃ m, 2 ^ b = 2 ^ a * m ∧ 1 ≤ m := ⟨2 ^ (b - a), by rw [← Nat.pow_add]; congr 1; omega, two_pow_pos _⟩
theorem pow_lt_up {a b : Nat} (h : a < b) : ∃ m, 2 ^ b = 2 ^ a * (2 * m) ∧ 1 ≤ m := ⟨2 ^ (b - a - 1), by rw [← Nat.pow_succ', ← Nat.pow_add]; congr 1; omega, two_pow_pos _⟩
theorem mod_le {c a b : Nat} (h : a ≤ b) (hc : c % 2 ^ b = 0) : c % 2 ^ a = 0 := by
  obtain ⟨m, hm, _⟩ := pow_up h
  rw [hm] at hc
  exact Nat.mod_eq_zero_of_dvd (Nat.dvd_trans (Nat.dvd_mul_right _ _) (Nat.dvd_of_mod_eq_zero hc))
/-- chunks lie in one another or apart -/
theorem nest {c k d j : Nat} (hk : c % 2 ^ k = 0) (hj : d % 2 ^ j = 0) (hkj : k ≤ j) (h1 : c < d + 2 ^ j) (h2 : d < c + 2 ^ k) : d ≤ c ∧ c + 2 ^ k ≤ d + 2 ^ j := by
  have hd : d % 2 ^ k = 0 := mod_le hkj hj
  obtain ⟨m, hm, hm1⟩ := pow_up hkj
  obtain ⟨x, rfl⟩ := Nat.dvd_of_mod_eq_zero hk
  obtain ⟨y, rfl⟩ := Nat.dvd_of_mod_eq_zero hd
  rw [hm] at h1 ⊢
  have hp := two_pow_pos k
  generalize 2 ^ k = q at *
  rw [← Nat.mul_add] at h1
  have a1 : x < y + m := Nat.lt_of_mul_lt_mul_left h1
  have a2 : y < x + 1 := by
    rw [show q * x + q = q * (x + 1) by rw [Nat.mul_add, Nat.mul_one]] at h2
    exact Nat.lt_of_mul_lt_mul_left h2
  refine ⟨Nat.mul_le_mul_left _ (by omega), ?_⟩
  rw [← Nat.mul_add, show q * x + q = q * (x + 1) by rw [Nat.mul_add, Nat.mul_one]]
  exact Nat.mul_le_mul_left _ (by omega)
theorem chunk_in {c k d j : Nat} (h1 : d ≤ c) (h2 : c + 2 ^ k ≤ d + 2 ^ j) (h : chunk F d j = true) : chunk F c k = true := by
  rw [chunk_iff] at h ⊢
  intro i hi
  have := h (c - d + i) (by omega)
  rwa [show d + (c - d + i) = c + i by omega] at this
/-- the chunk one order up in which a chunk lies -/
theorem parent {c k : Nat} (hc : c % 2 ^ k = 0) : (c - c % 2 ^ (k + 1)) % 2 ^ (k + 1) = 0 ∧ c - c % 2 ^ (k + 1) ≤ c ∧ c + 2 ^ k ≤ c - c % 2 ^ (k + 1) + 2 ^ (k + 1) := by
  have h0 : (c - c % 2 ^ (k + 1)) % 2 ^ (k + 1) = 0 := by
    have := Nat.div_add_mod c (2 ^ (k + 1))
    rw [show c - c % 2 ^ (k + 1) = 2 ^ (k + 1) * (c / 2 ^ (k + 1)) by omega]
    exact Nat.mul_mod_right _ _
  have h1 := Nat.mod_lt c (two_pow_pos (k + 1))
  have h2 := Nat.mod_le c (2 ^ (k + 1))
  have h3 := two_pow_pos k
  exact ⟨h0, by omega, (nest hc h0 (by omega) (by omega) (by omega)).2⟩

theorem bud_chunk {c k : Nat} (h : bud F c k = true) : c % 2 ^ k = 0 ∧ chunk F c k = true := by
  simp only [bud, Bool.and_eq_true, decide_eq_true_eq] at h
  exact h.1
theorem bud_max {c k : Nat} (h : bud F c k = true) (hk : k < 10) : chunk F (c - c % 2 ^ (k + 1)) (k + 1) = false := by
  simp only [bud, Bool.and_eq_true, Bool.or_eq_true, decide_eq_true_eq, Bool.not_eq_true'] at h
  rcases h.2 with h | h
  · omega
  · exact h
/-- a buddy lies in no other free chunk -/
theorem bud_top {c k d j : Nat} (h : bud F c k = true) (hkj : k < j) (hj10 : j ≤ 10) (hj : d % 2 ^ j = 0) (h1 : c < d + 2 ^ j) (h2 : d < c + 2 ^ k) : chunk F d j = false := by
  cases e : chunk F d j with
  | false => rfl
  | true =>
    have h3 := bud_max h (by omega)
    have h4 := bud_chunk h
    obtain ⟨p1, p2, p3⟩ := parent h4.1
    have h5 := two_pow_pos k
    have h6 := nest p1 hj (by omega) (by omega) (by omega)
    rw [chunk_in h6.1 h6.2 e] at h3
    cases h3

/-- where the walk cuts a chunk, that one is a buddy's, and no other begins in it -/
structure Here (F : Nat → Bool) (p k : Nat) : Prop where
  cut : Cut F p
  le : k ≤ 10
  at_ : p % 2 ^ k = 0
  free : chunk F p k = true
  top : k = 10 ∨ p % 2 ^ (k + 1) ≠ 0 ∨ chunk F p (k + 1) = false
section
variable {p k : Nat} (h : Here F p k)
include h
theorem Here.big {j : Nat} (hj : k < j) (hj10 : j ≤ 10) (hp : p % 2 ^ j = 0) : chunk F p j = false := by
  cases e : chunk F p j with
  | false => rfl
  | true =>
    have h1 := mod_le (a := k + 1) (b := j) (by omega) hp
    obtain ⟨m, hm, hm1⟩ := pow_up (show k + 1 ≤ j by omega)
    have h2 : chunk F p (k + 1) = true := chunk_in (Nat.le_refl _) (by rw [hm]; have := Nat.mul_le_mul_left (2 ^ (k + 1)) hm1; omega) e
    rcases h.top with t | t | t
    · omega
    · exact absurd h1 t
    · rw [h2] at t; cases t
theorem Here.after : Cut F (p + 2 ^ k) := fun c j hj hc h1 h2 => by
  cases e : chunk F c j with
  | false => rfl
  | true =>
    have hp := two_pow_pos k
    have hkj : k < j := by
      refine Nat.lt_of_not_le fun hle => ?_
      have := nest hc h.at_ hle (by omega) (by omega)
      omega
    have h3 := nest h.at_ hc (by omega) (by omega) (by omega)
    by_cases h4 : c = p
    · subst h4
      rw [h.big hkj hj hc] at e
      cases e
    · rw [h.cut c j hj hc (by omega) (by omega)] at e
      cases e
theorem Here.bud : bud F p k = true := by
  simp only [TPlain.bud, Bool.and_eq_true, Bool.or_eq_true, decide_eq_true_eq, Bool.not_eq_true']
  refine ⟨⟨h.at_, h.free⟩, ?_⟩
  by_cases h1 : k = 10
  · exact .inl h1
  · refine .inr ?_
    have hl := h.le
    obtain ⟨p1, p2, p3⟩ := parent h.at_
    have hp := two_pow_pos k
    have hm := Nat.mod_lt p (two_pow_pos (k + 1))
    have hm2 := Nat.mod_le p (2 ^ (k + 1))
    by_cases h2 : p % 2 ^ (k + 1) = 0
    · rw [h2]
      exact h.big (by omega) (by omega) h2
    · exact h.cut _ _ (by omega) p1 (by omega) (by omega)
theorem Here.only {c j : Nat} (hj : j ≤ 10) (h1 : p ≤ c) (h2 : c < p + 2 ^ k) (hb : TPlain.bud F c j = true) : c = p ∧ j = k := by
  obtain ⟨b1, b2⟩ := bud_chunk hb
  have hp := two_pow_pos k
  have hp2 := two_pow_pos j
  rcases Nat.lt_trichotomy j k with hl | rfl | hl
  · have := bud_top hb hl h.le h.at_ (by omega) (by omega)
    rw [h.free] at this
    cases this
  · have := nest b1 h.at_ (Nat.le_refl _) (by omega) (by omega)
    exact ⟨by omega, rfl⟩
  · have h3 := nest h.at_ b1 (by omega) (by omega) (by omega)
    have h4 : c = p := by omega
    subst h4
    rw [h.big hl hj b1] at b2
    cases b2
end
theorem cnt_none {k p n : Nat} (h : ∀ c, p ≤ c → c < p + n → bud F c k = false) : cnt F k (p + n) = cnt F k p ∧ fst F k (p + n) = fst F k p := by
  induction n with
  | zero => exact ⟨rfl, rfl⟩
  | succ n ih =>
    obtain ⟨i1, i2⟩ := ih fun c h1 h2 => h c h1 (by omega)
    have hb := h (p + n) (by omega) (by omega)
    have hf : ∀ q, cnt F k q = 0 → fst F k q = 0 := by
      intro q
      induction q with
      | zero => intro _; rfl
      | succ q iq =>
        intro hq
        simp only [cnt] at hq
        simp only [fst]
        by_cases hb : bud F q k = true
        · simp [hb] at hq
        · rw [if_pos (by omega), if_neg hb]
    constructor
    · rw [← Nat.add_assoc]; simp only [cnt, hb]; simpa using i1
    · rw [← Nat.add_assoc]; simp only [fst, hb]
      by_cases h0 : cnt F k (p + n) = 0
      · rw [if_pos h0, hf p (by omega)]; rfl
      · rw [if_neg h0, i2]
theorem fst_none : ∀ {k q : Nat}, cnt F k q = 0 → fst F k q = 0 := by
  intro k q
  have := fun n => cnt_none (F := F) (k := k) (p := 0) (n := n)
  induction q with
  | zero => intro _; rfl
  | succ q iq =>
    intro hq
    simp only [cnt] at hq
    simp only [fst]
    by_cases hb : bud F q k = true
    · simp [hb] at hq
    · rw [if_pos (by omega), if_neg hb]
theorem Here.cnt_at {p k : Nat} (h : Here F p k) : cnt F k (p + 2 ^ k) = cnt F k p + 1 ∧ fst F k (p + 2 ^ k) = if cnt F k p = 0 then p else fst F k p := by
  have hp := two_pow_pos k
  have h1 := cnt_none (F := F) (k := k) (p := p + 1) (n := 2 ^ k - 1) (fun c h1 h2 => by
    cases e : TPlain.bud F c k with
    | false => rfl
    | true => have := h.only h.le (by omega) (by omega) e; omega)
  rw [show p + 1 + (2 ^ k - 1) = p + 2 ^ k by omega] at h1
  rw [h1.1, h1.2]
  simp only [cnt, fst, h.bud, if_true]
  exact ⟨trivial, trivial⟩
theorem Here.cnt_else {p k j : Nat} (h : Here F p k) (hj : j ≤ 10) (hjk : j ≠ k) : cnt F j (p + 2 ^ k) = cnt F j p ∧ fst F j (p + 2 ^ k) = fst F j p :=
  cnt_none (fun c h1 h2 => by
    cases e : TPlain.bud F c j with
    | false => rfl
    | true => exact absurd (h.only hj h1 h2 e).2 hjk)
theorem cnt_skip {k p : Nat} (h : F p = false) : cnt F k (p + 1) = cnt F k p ∧ fst F k (p + 1) = fst F k p :=
  cnt_none (fun c h1 h2 => by
    obtain rfl : c = p := by omega
    cases e : bud F c k with
    | false => rfl
    | true =>
      have := chunk_iff.1 (bud_chunk e).2 0 (two_pow_pos _)
      rw [Nat.add_zero, h] at this
      cases this)
/-- the greatest order that goes in -/
def OrdAt (p d k : Nat) : Prop := k ≤ 10 ∧ p % 2 ^ k = 0 ∧ 2 ^ k ≤ d ∧ (k = 10 ∨ p % 2 ^ (k + 1) ≠ 0 ∨ d < 2 ^ (k + 1))
theorem here_of {p e k : Nat} (hc : Cut F p) (hf : ∀ i, p ≤ i → i < e → F i = true) (he : F e = false) (hpe : p < e) (h : OrdAt p (e - p) k) : Here F p k := by
  obtain ⟨h1, h2, h3, h4⟩ := h
  refine ⟨hc, h1, h2, chunk_iff.2 fun j hj => hf _ (by omega) (by omega), ?_⟩
  rcases h4 with h4 | h4 | h4
  · exact .inl h4
  · exact .inr (.inl h4)
  · exact .inr (.inr (chunk_no (j := e - p) (by omega) (by rw [show p + (e - p) = e by omega]; exact he)))
theorem ordAt_ex (p d : Nat) (hd : 0 < d) : ∃ k, OrdAt p d k := by
  have step : ∀ n k, k + n = 10 → p % 2 ^ k = 0 → 2 ^ k ≤ d → ∃ k, OrdAt p d k := by
    intro n
    induction n with
    | zero => intro k h1 h2 h3; exact ⟨k, by omega, h2, h3, .inl (by omega)⟩
    | succ n ih =>
      intro k h1 h2 h3
      by_cases h4 : p % 2 ^ (k + 1) = 0
      · by_cases h5 : 2 ^ (k + 1) ≤ d
        · exact ih (k + 1) (by omega) h4 h5
        · exact ⟨k, by omega, h2, h3, .inr (.inr (by omega))⟩
      · exact ⟨k, by omega, h2, h3, .inr (.inl h4)⟩
  exact step 10 0 rfl (Nat.mod_one _) (by omega)

/-! Buddies part what is free. -/
def sumTo (f : Nat → Nat) : Nat → Nat
  | 0 => 0
  | n + 1 => sumTo f n + f n
theorem sumTo_congr {f g : Nat → Nat} {n : Nat} (h : ∀ k, k < n → f k = g k) : sumTo f n = sumTo g n := by
  induction n with
  | zero => rfl
  | succ n ih => simp only [sumTo]; rw [ih fun k hk => h k (by omega), h n (by omega)]
theorem sumTo_one {f g : Nat → Nat} {n m x : Nat} (hm : m < n) (h : ∀ k, k < n → k ≠ m → f k = g k) (hx : f m = g m + x) : sumTo f n = sumTo g n + x := by
  induction n with
  | zero => omega
  | succ n ih =>
    simp only [sumTo]
    by_cases e : m = n
    · subst e
      rw [sumTo_congr (f := f) (g := g) fun k hk => h k (by omega) (by omega), hx]; omega
    · rw [ih (by omega) fun k hk => h k (by omega), h n (by omega) (by omega)]; omega
variable (F) in
/-- the buddies ahead of p, all orders together, in bits -/
def all (p : Nat) : Nat := sumTo (fun k => cnt F k p * 2 ^ k) 11
theorem zer_run {p n : Nat} (h : ∀ i, p ≤ i → i < p + n → F i = true) : zer F (p + n) = zer F p + n := by
  induction n with
  | zero => rfl
  | succ n ih =>
    rw [← Nat.add_assoc]
    simp only [zer, h (p + n) (by omega) (by omega), if_true]
    rw [ih fun i h1 h2 => h i h1 (by omega)]; omega
theorem Here.all {p k : Nat} (h : Here F p k) (he : all F p = zer F p) : TPlain.all F (p + 2 ^ k) = zer F (p + 2 ^ k) := by
  have hl := h.le
  rw [zer_run (n := 2 ^ k) fun i h1 h2 => by have := chunk_iff.1 h.free (i - p) (by omega); rwa [show p + (i - p) = i by omega] at this, ← he]
  refine sumTo_one (m := k) (by omega) (fun j hj hjk => ?_) ?_
  · rw [(h.cnt_else (by omega) hjk).1]
  · rw [h.cnt_at.1, Nat.add_mul, Nat.one_mul]
theorem all_skip {p : Nat} (h : F p = false) (he : all F p = zer F p) : all F (p + 1) = zer F (p + 1) := by
  simp only [zer, h, Bool.false_eq_true, if_false, Nat.add_zero, ← he]
  exact sumTo_congr fun j _ => by rw [(cnt_skip h).1]
/-- from a cut on there is a next one -/
theorem reach (N : Nat) (hN : ∀ i, N ≤ i → F i = false) : ∀ n p, p + n = N → Cut F p → all F p = zer F p → all F N = zer F N := by
  intro n
  induction n using Nat.strongRecOn with
  | _ n ih =>
    intro p hp hc he
    by_cases h0 : n = 0
    · obtain rfl : p = N := by omega
      exact he
    · by_cases hf : F p = true
      · have hend : ∃ e, p < e ∧ (∀ i, p ≤ i → i < e → F i = true) ∧ F e = false ∧ e ≤ N := by
          have step : ∀ m q, q + m = N → p < q → (∀ i, p ≤ i → i < q → F i = true) → ∃ e, p < e ∧ (∀ i, p ≤ i → i < e → F i = true) ∧ F e = false ∧ e ≤ N := by
            intro m
            induction m with
            | zero => intro q h1 h2 h3; exact ⟨q, h2, h3, hN q (by omega), by omega⟩
            | succ m im =>
              intro q h1 h2 h3
              cases hq : F q with
              | false => exact ⟨q, h2, h3, hq, by omega⟩
              | true =>
                have h4 : ∀ i, p ≤ i → i < q + 1 → F i = true := by
                  intro i i1 i2
                  by_cases e : i = q
                  · rw [e]; exact hq
                  · exact h3 i i1 (by omega)
                exact im (q + 1) (by omega) (by omega) h4
          exact step (n - 1) (p + 1) (by omega) (by omega) fun i i1 i2 => by rw [show i = p by omega]; exact hf
        obtain ⟨e, h1, h2, h3, h4⟩ := hend
        obtain ⟨k, hk⟩ := ordAt_ex p (e - p) (by omega)
        have hh := here_of hc h2 h3 h1 hk
        have hk2 := hk.2.2.1
        have := two_pow_pos k
        exact ih (n - 2 ^ k) (by omega) (p + 2 ^ k) (by omega) hh.after (hh.all he)
      · have hf' : F p = false := by simpa using hf
        exact ih (n - 1) (by omega) (p + 1) (by omega) (cut_next hf') (all_skip hf' he)
theorem parts (N : Nat) (hN : ∀ i, N ≤ i → F i = false) : all F N = zer F N :=
  reach N hN N 0 (by omega) cut_zero (by simp [all, sumTo, cnt, zer])
end Go.Proofs.YtlpipnpcgancmaaDoor.TPlain
