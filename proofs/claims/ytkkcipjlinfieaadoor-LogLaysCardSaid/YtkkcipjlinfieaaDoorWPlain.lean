/- Plain mathematics for layer wire: the sum over bytes on natural numbers, step by step and four steps at once; that steps lose nothing; numbers in bytes. Nothing of the program. -/
namespace Go.Proofs.YtkkcipjlinfieaaDoor.WPlain

/-- one step of the sum -/
def stp (c : Nat) : Nat := if c % 2 = 1 then (c / 2) ^^^ 2197175160 else c / 2
def stp8 (c : Nat) : Nat := stp (stp (stp (stp (stp (stp (stp (stp c)))))))
/-- what one byte makes of the sum -/
def eat (c : Nat) (x : UInt8) : Nat := stp8 (c ^^^ x.toNat)
def eats (c : Nat) (l : List UInt8) : Nat := l.foldl eat c
def crc (seed : Nat) (l : List UInt8) : Nat := 4294967295 - eats (4294967295 - seed) l

def tab : List Nat := [0, 274646895, 549293790, 820201905, 1098587580, 1361435347, 1640403810, 1905808397, 2197175160, 2460548119, 2722870694, 2987750089, 3280807620, 3553878443, 3811616794, 4084100981]
/-- four steps at once -/
def nib (c : Nat) : Nat := (c / 16) ^^^ tab.getD (c % 16) 0

theorem xor_half (a b : Nat) : (a ^^^ b) / 2 = (a / 2) ^^^ (b / 2) := by
  apply Nat.eq_of_testBit_eq; intro i; simp [Nat.testBit_div_two]
theorem xor_odd (a b : Nat) : (a ^^^ b) % 2 = (a % 2 + b % 2) % 2 := by
  have h := Nat.xor_mod_two_eq_one (a := a) (b := b)
  have h1 := Nat.mod_two_eq_zero_or_one (a ^^^ b)
  have h2 := Nat.mod_two_eq_zero_or_one a
  have h3 := Nat.mod_two_eq_zero_or_one b
  omega

theorem stp_xor (a b : Nat) : stp (a ^^^ b) = stp a ^^^ stp b := by
  unfold stp
  rw [xor_half, xor_odd]
  rcases Nat.mod_two_eq_zero_or_one a with ha | ha <;> rcases Nat.mod_two_eq_zero_or_one b with hb | hb <;> simp only [ha, hb] <;>
    (apply Nat.eq_of_testBit_eq; intro i; simp <;> (try (cases (a / 2).testBit i <;> cases (b / 2).testBit i <;> cases (2197175160 : Nat).testBit i <;> rfl)))

theorem stp_even (x : Nat) : stp (2 * x) = x := by
  unfold stp; rw [if_neg (by omega)]; omega

theorem low_high (c : Nat) : c = (16 * (c / 16)) ^^^ (c % 16) := by
  have h := Nat.two_pow_add_eq_or_of_lt (i := 4) (b := c % 16) (by omega) (c / 16)
  have h2 : (2 ^ 4 * (c / 16)) &&& (c % 16) = 0 := by
    apply Nat.eq_of_testBit_eq; intro i
    simp only [Nat.testBit_and, Nat.zero_testBit, Nat.testBit_two_pow_mul]
    by_cases hi : 4 ≤ i
    · have : (c % 16).testBit i = false := Nat.testBit_lt_two_pow (Nat.lt_of_lt_of_le (show c % 16 < 2 ^ 4 by omega) (Nat.pow_le_pow_right (by decide) hi))
      simp [this]
    · simp [hi]
  have h3 : (2 ^ 4 * (c / 16)) ^^^ (c % 16) = (2 ^ 4 * (c / 16)) ||| (c % 16) := by
    apply Nat.eq_of_testBit_eq; intro i
    have := congrArg (fun x => Nat.testBit x i) h2
    simp only [Nat.testBit_and, Nat.zero_testBit] at this
    simp only [Nat.testBit_xor, Nat.testBit_or]
    revert this
    cases (2 ^ 4 * (c / 16)).testBit i <;> cases (c % 16).testBit i <;> simp
  have h4 : 2 ^ 4 * (c / 16) + c % 16 = c := by omega
  have h5 : (16 : Nat) = 2 ^ 4 := rfl
  calc c = 2 ^ 4 * (c / 16) + c % 16 := h4.symm
    _ = (2 ^ 4 * (c / 16)) ||| (c % 16) := h
    _ = (2 ^ 4 * (c / 16)) ^^^ (c % 16) := h3.symm

theorem four_small : ∀ r : Nat, r < 16 → stp (stp (stp (stp r))) = tab.getD r 0 := by decide

theorem four (c : Nat) : stp (stp (stp (stp c))) = nib c := by
  have e : stp (stp (stp (stp (16 * (c / 16) ^^^ c % 16)))) = nib c := by
    rw [stp_xor, stp_xor, stp_xor, stp_xor]
    have h : 16 * (c / 16) = 2 * (2 * (2 * (2 * (c / 16)))) := by omega
    rw [h, stp_even, stp_even, stp_even, stp_even, four_small _ (Nat.mod_lt _ (by decide))]
    rfl
  rw [← low_high] at e
  exact e

theorem stp8_nib (c : Nat) : stp8 c = nib (nib c) := by
  unfold stp8; rw [four, four]

theorem stp_lt {c : Nat} (h : c < 4294967296) : stp c < 4294967296 := by
  unfold stp; split
  · exact Nat.xor_lt_two_pow (n := 32) (by omega) (by decide)
  · omega
theorem tab_lt : ∀ r : Nat, tab.getD r 0 < 4294967296 := by
  intro r
  by_cases h : r < 16
  · revert r; decide
  · rw [List.getD_eq_getElem?_getD, List.getElem?_eq_none (by simp [tab]; omega)]; decide
theorem nib_lt {c : Nat} (h : c < 4294967296) : nib c < 4294967296 :=
  Nat.xor_lt_two_pow (n := 32) (by omega) (tab_lt _)
theorem byte_lt (x : UInt8) : x.toNat < 256 := x.toNat_lt
theorem xorb_lt {c : Nat} (h : c < 4294967296) (x : UInt8) : c ^^^ x.toNat < 4294967296 :=
  Nat.xor_lt_two_pow (n := 32) h (by have := byte_lt x; omega)
theorem stp8_lt {c : Nat} (h : c < 4294967296) : stp8 c < 4294967296 := by
  unfold stp8; exact stp_lt (stp_lt (stp_lt (stp_lt (stp_lt (stp_lt (stp_lt (stp_lt h)))))))
theorem eat_lt {c : Nat} (h : c < 4294967296) (x : UInt8) : eat c x < 4294967296 := stp8_lt (xorb_lt h x)
theorem eats_lt {c : Nat} (h : c < 4294967296) (l : List UInt8) : eats c l < 4294967296 := by
  induction l generalizing c with
  | nil => exact h
  | cons x r ih => exact ih (eat_lt h x)
theorem crc_lt (seed : Nat) (l : List UInt8) : crc seed l < 4294967296 := by unfold crc; omega

theorem eats_append (c : Nat) (l r : List UInt8) : eats c (l ++ r) = eats (eats c l) r := by simp [eats]
theorem eats_snoc (c : Nat) (l : List UInt8) (x : UInt8) : eats c (l ++ [x]) = eat (eats c l) x := by simp [eats]
theorem eats_take_succ (c : Nat) (l : List UInt8) (k : Nat) (h : k < l.length) : eats c (l.take (k + 1)) = eat (eats c (l.take k)) l[k] := by
  rw [List.take_succ_eq_append_getElem h, eats_snoc]

/-- a sum that goes on -/
theorem crc_append (seed : Nat) (hs : seed < 4294967296) (a b : List UInt8) : crc seed (a ++ b) = crc (crc seed a) b := by
  unfold crc
  have h : eats (4294967295 - seed) a < 4294967296 := eats_lt (by omega) a
  rw [eats_append, show 4294967295 - (4294967295 - eats (4294967295 - seed) a) = eats (4294967295 - seed) a by omega]

/-! Steps lose nothing. -/
theorem xor_cancel {a b p : Nat} (h : a ^^^ p = b ^^^ p) : a = b := by
  have := congrArg (· ^^^ p) h
  simpa [Nat.xor_assoc] using this
theorem top_half {a : Nat} (h : a < 2147483648) : (a ^^^ 2197175160) ≥ 2147483648 := by
  have hb : (a ^^^ 2197175160).testBit 31 = true := by
    have : a.testBit 31 = false := Nat.testBit_lt_two_pow (by omega)
    rw [Nat.testBit_xor, this]; decide
  have := Nat.ge_two_pow_of_testBit hb
  omega
theorem stp_inj {a b : Nat} (ha : a < 4294967296) (hb : b < 4294967296) (h : stp a = stp b) : a = b := by
  unfold stp at h
  rcases Nat.mod_two_eq_zero_or_one a with h1 | h1 <;> rcases Nat.mod_two_eq_zero_or_one b with h2 | h2 <;> simp only [h1, h2] at h
  · simp at h; omega
  · simp at h
    have := top_half (a := b / 2) (by omega)
    omega
  · simp at h
    have := top_half (a := a / 2) (by omega)
    omega
  · simp only [if_true] at h
    have := xor_cancel h
    omega
theorem stp8_inj {a b : Nat} (ha : a < 4294967296) (hb : b < 4294967296) (h : stp8 a = stp8 b) : a = b := by
  unfold stp8 at h
  have l1 := stp_lt ha; have r1 := stp_lt hb
  have l2 := stp_lt l1; have r2 := stp_lt r1
  have l3 := stp_lt l2; have r3 := stp_lt r2
  have l4 := stp_lt l3; have r4 := stp_lt r3
  have l5 := stp_lt l4; have r5 := stp_lt r4
  have l6 := stp_lt l5; have r6 := stp_lt r5
  have l7 := stp_lt l6; have r7 := stp_lt r6
  exact stp_inj ha hb (stp_inj l1 r1 (stp_inj l2 r2 (stp_inj l3 r3 (stp_inj l4 r4 (stp_inj l5 r5 (stp_inj l6 r6 (stp_inj l7 r7 h)))))))
theorem eats_inj {a b : Nat} (ha : a < 4294967296) (hb : b < 4294967296) (l : List UInt8) (h : eats a l = eats b l) : a = b := by
  induction l generalizing a b with
  | nil => exact h
  | cons x r ih =>
    have := ih (eat_lt ha x) (eat_lt hb x) h
    exact xor_cancel (stp8_inj (xorb_lt ha x) (xorb_lt hb x) this)
/-- one byte turned turns the sum -/
theorem crc_turned (seed : Nat) (p q : List UInt8) (x y : UInt8) (hxy : x ≠ y) : crc seed (p ++ x :: q) ≠ crc seed (p ++ y :: q) := by
  intro h
  have hs : 4294967295 - seed < 4294967296 := by omega
  have h0 := eats_lt hs p
  have h1 := eats_lt (eats_lt hs p) (x :: q)
  have h2 := eats_lt (eats_lt hs p) (y :: q)
  unfold crc at h
  rw [eats_append, eats_append] at h
  have h3 : eats (eats (4294967295 - seed) p) (x :: q) = eats (eats (4294967295 - seed) p) (y :: q) := by omega
  have h4 := eats_inj (eat_lt h0 x) (eat_lt h0 y) q h3
  have h5 := stp8_inj (xorb_lt h0 x) (xorb_lt h0 y) h4
  rw [Nat.xor_comm _ x.toNat, Nat.xor_comm _ y.toNat] at h5
  exact hxy (UInt8.toNat_inj.1 (xor_cancel h5))

/-! Numbers in bytes. -/
/-- the number that bytes are, the least one first -/
def num : List UInt8 → Nat
  | [] => 0
  | x :: r => x.toNat + 256 * num r
/-- the first n bytes of a number, the least one first -/
def dig : Nat → Nat → List UInt8
  | 0, _ => []
  | n + 1, x => UInt8.ofNat (x % 256) :: dig n (x / 256)

theorem num_snoc (l : List UInt8) (x : UInt8) : num (l ++ [x]) = num l + 2 ^ (8 * l.length) * x.toNat := by
  induction l with
  | nil => simp [num]
  | cons y r ih =>
    simp only [List.cons_append, num, ih, List.length_cons]
    have : 2 ^ (8 * (r.length + 1)) = 256 * 2 ^ (8 * r.length) := by rw [show 8 * (r.length + 1) = 8 * r.length + 8 by omega, Nat.pow_add]; omega
    rw [this, Nat.mul_add, Nat.mul_assoc]; omega
theorem num_lt (l : List UInt8) : num l < 2 ^ (8 * l.length) := by
  induction l with
  | nil => simp [num]
  | cons y r ih =>
    simp only [num, List.length_cons]
    have : 2 ^ (8 * (r.length + 1)) = 256 * 2 ^ (8 * r.length) := by rw [show 8 * (r.length + 1) = 8 * r.length + 8 by omega, Nat.pow_add]; omega
    have := byte_lt y
    omega
/-- a byte more, as the program lays it -/
theorem num_or (l : List UInt8) (x : UInt8) : num l ||| (x.toNat * 2 ^ (8 * l.length)) = num (l ++ [x]) := by
  have h := Nat.two_pow_add_eq_or_of_lt (num_lt l) x.toNat
  rw [num_snoc, Nat.mul_comm x.toNat, Nat.or_comm, ← h, Nat.add_comm]
theorem dig_length (n x : Nat) : (dig n x).length = n := by
  induction n generalizing x with
  | zero => rfl
  | succ n ih => simp [dig, ih]
theorem num_dig (n x : Nat) : num (dig n x) = x % 2 ^ (8 * n) := by
  induction n generalizing x with
  | zero => simp [dig, num, Nat.mod_one]
  | succ n ih =>
    simp only [dig, num, ih]
    have e : 2 ^ (8 * (n + 1)) = 256 * 2 ^ (8 * n) := by rw [show 8 * (n + 1) = 8 * n + 8 by omega, Nat.pow_add]; omega
    rw [e, Nat.mod_mul]
    have : (UInt8.ofNat (x % 256)).toNat = x % 256 := by simp
    rw [this]
theorem dig_num (l : List UInt8) : dig l.length (num l) = l := by
  induction l with
  | nil => rfl
  | cons y r ih =>
    have hy := byte_lt y
    simp only [List.length_cons, dig, num]
    have h1 : (y.toNat + 256 * num r) % 256 = y.toNat := by omega
    have h2 : (y.toNat + 256 * num r) / 256 = num r := by omega
    rw [h1, h2, ih]
    simp
theorem dig_get (n x k : Nat) (h : k < (dig n x).length) : (dig n x)[k] = UInt8.ofNat (x / 2 ^ (8 * k) % 256) := by
  induction n generalizing x k with
  | zero => simp [dig] at h
  | succ n ih =>
    cases k with
    | zero => simp [dig]
    | succ k =>
      simp only [dig, List.getElem_cons_succ]
      rw [ih]
      have e : 2 ^ (8 * (k + 1)) = 256 * 2 ^ (8 * k) := by rw [show 8 * (k + 1) = 8 * k + 8 by omega, Nat.pow_add]; omega
      rw [e, Nat.div_div_eq_div_mul]

/-- l with d written at place p -/
def patch (l : List UInt8) (p : Nat) (d : List UInt8) : List UInt8 := l.take p ++ d ++ l.drop (p + d.length)
theorem patch_nil (l : List UInt8) (p : Nat) : patch l p [] = l := by simp [patch]
theorem patch_length (l : List UInt8) (p : Nat) (d : List UInt8) (h : p + d.length ≤ l.length) : (patch l p d).length = l.length := by
  simp only [patch, List.length_append, List.length_take, List.length_drop]; omega
theorem patch_get (l : List UInt8) (p : Nat) (d : List UInt8) (h : p + d.length ≤ l.length) (i : Nat) :
    (patch l p d)[i]? = if p ≤ i ∧ i < p + d.length then d[i - p]? else l[i]? := by
  unfold patch
  by_cases h1 : i < p
  · rw [if_neg (by omega), List.append_assoc, List.getElem?_append_left (by simp; omega), List.getElem?_take_of_lt h1]
  · by_cases h2 : i < p + d.length
    · rw [if_pos ⟨by omega, h2⟩, List.getElem?_append_left (by simp; omega), List.getElem?_append_right (by simp; omega)]
      simp only [List.length_take]
      rw [Nat.min_eq_left (by omega)]
    · rw [if_neg (by omega), List.getElem?_append_right (by simp; omega), List.getElem?_drop]
      congr 1
      simp; omega
theorem dig_succ (k x : Nat) : dig (k + 1) x = dig k x ++ [UInt8.ofNat (x / 2 ^ (8 * k) % 256)] := by
  apply List.ext_getElem
  · simp [dig_length]
  · intro i h1 h2
    rw [dig_get]
    by_cases h : i < k
    · rw [List.getElem_append_left (by rw [dig_length]; exact h), dig_get]
    · have : i = k := by simp [dig_length] at h1; omega
      subst this
      rw [List.getElem_append_right (by rw [dig_length]; exact Nat.le_refl _)]
      simp
theorem patch_snoc (l : List UInt8) (p : Nat) (d : List UInt8) (y : UInt8) (h : p + d.length < l.length) : patch l p (d ++ [y]) = (patch l p d).set (p + d.length) y := by
  apply List.ext_getElem?
  intro i
  rw [patch_get _ _ _ (by simp; omega), List.getElem?_set, patch_get _ _ _ (by omega), patch_length _ _ _ (by omega)]
  simp only [List.length_append, List.length_cons, List.length_nil]
  by_cases h1 : p + d.length = i
  · subst h1
    rw [if_pos ⟨by omega, by omega⟩, if_pos rfl, if_pos h, show p + d.length - p = d.length by omega]
    simp
  · rw [if_neg h1]
    by_cases h2 : p ≤ i ∧ i < p + d.length
    · rw [if_pos ⟨by omega, by omega⟩, if_pos h2, List.getElem?_append_left (by omega)]
    · rw [if_neg (by omega), if_neg h2]
theorem patch_part (l : List UInt8) (p : Nat) (d : List UInt8) (h : p + d.length ≤ l.length) : ((patch l p d).drop p).take d.length = d := by
  apply List.ext_getElem?
  intro i
  rw [List.getElem?_take, List.getElem?_drop, patch_get _ _ _ h]
  by_cases hi : i < d.length
  · rw [if_pos hi, if_pos ⟨by omega, by omega⟩, show p + i - p = i by omega]
  · rw [if_neg hi, List.getElem?_eq_none (by omega)]
theorem patch_apart (l : List UInt8) (p : Nat) (d : List UInt8) (h : p + d.length ≤ l.length) (q m : Nat) (hq : q + m ≤ p ∨ p + d.length ≤ q) : ((patch l p d).drop q).take m = (l.drop q).take m := by
  apply List.ext_getElem?
  intro i
  rw [List.getElem?_take, List.getElem?_drop, patch_get _ _ _ h, List.getElem?_take, List.getElem?_drop]
  by_cases hi : i < m
  · rw [if_pos hi, if_pos hi, if_neg (by omega)]
  · rw [if_neg hi, if_neg hi]

/-! Lists of numbers, each in its width. -/
/-- how many bytes -/
def tot (ns : List Nat) : Nat := ns.sum
/-- each width may be -/
def fine (ns : List Nat) : Prop := ∀ n ∈ ns, 1 ≤ n ∧ n ≤ 8
def packed : List Nat → List UInt64 → List UInt8
  | n :: ns, x :: xs => dig n x.toNat ++ packed ns xs
  | _, _ => []
def unp : List Nat → List UInt8 → List UInt64
  | n :: ns, b => UInt64.ofNat (num (b.take n)) :: unp ns (b.drop n)
  | [], _ => []
/-- each number goes into its width -/
def fit : List Nat → List UInt64 → Prop
  | n :: ns, x :: xs => x.toNat < 2 ^ (8 * n) ∧ fit ns xs
  | _, _ => True

theorem tot_take_succ (ns : List Nat) (k : Nat) (h : k < ns.length) : tot (ns.take (k + 1)) = tot (ns.take k) + ns[k] := by
  rw [tot, List.take_succ_eq_append_getElem h, List.sum_append]; simp [tot]
theorem tot_take_le (ns : List Nat) (k : Nat) : tot (ns.take k) ≤ tot ns := by
  have := List.sum_append (l₁ := ns.take k) (l₂ := ns.drop k)
  rw [List.take_append_drop] at this
  unfold tot; omega
theorem tot_le (ns : List Nat) (h : fine ns) : ns.length ≤ tot ns ∧ tot ns ≤ 8 * ns.length := by
  induction ns with
  | nil => simp [tot]
  | cons n r ih =>
    have h1 := h n (by simp)
    have h2 := ih (fun m hm => h m (by simp [hm]))
    unfold tot at h2 ⊢
    simp only [List.length_cons, List.sum_cons]; omega
theorem fine_get {ns : List Nat} (h : fine ns) {k : Nat} (hk : k < ns.length) : 1 ≤ ns[k] ∧ ns[k] ≤ 8 := h _ (List.getElem_mem hk)
theorem packed_length (ns : List Nat) (xs : List UInt64) (h : ns.length = xs.length) : (packed ns xs).length = tot ns := by
  induction ns generalizing xs with
  | nil => cases xs <;> simp [packed, tot]
  | cons n r ih =>
    cases xs with
    | nil => simp at h
    | cons x xs =>
      have := ih xs (by simpa using h)
      simp only [packed, List.length_append, dig_length, this, tot, List.sum_cons]
theorem packed_snoc (ns : List Nat) (xs : List UInt64) (h : ns.length = xs.length) (n : Nat) (x : UInt64) : packed (ns ++ [n]) (xs ++ [x]) = packed ns xs ++ dig n x.toNat := by
  induction ns generalizing xs with
  | nil =>
    cases xs with
    | nil => simp [packed]
    | cons y ys => simp at h
  | cons m r ih =>
    cases xs with
    | nil => simp at h
    | cons y ys =>
      simp only [List.cons_append, packed]
      rw [ih ys (by simpa using h), List.append_assoc]
theorem packed_take_succ (ns : List Nat) (xs : List UInt64) (h : ns.length = xs.length) (k : Nat) (hk : k < ns.length) :
    packed (ns.take (k + 1)) (xs.take (k + 1)) = packed (ns.take k) (xs.take k) ++ dig ns[k] (xs[k]'(by omega)).toNat := by
  rw [List.take_succ_eq_append_getElem hk, List.take_succ_eq_append_getElem (by omega : k < xs.length), packed_snoc _ _ (by simp; omega)]
/-- the next number is written behind those ahead of it -/
theorem patch_zeros (d e : List UInt8) (z : Nat) : patch (d ++ List.replicate z 0) d.length e = (d ++ e) ++ List.replicate (z - e.length) 0 := by
  unfold patch
  rw [List.take_left, List.drop_append]
  simp
theorem fit_get {ns : List Nat} {xs : List UInt64} (h : ns.length = xs.length) (hf : fit ns xs) {k : Nat} (hk : k < ns.length) : (xs[k]'(by omega)).toNat < 2 ^ (8 * ns[k]) := by
  induction ns generalizing xs k with
  | nil => simp at hk
  | cons n r ih =>
    cases xs with
    | nil => simp at h
    | cons x xs =>
      cases k with
      | zero => exact hf.1
      | succ k => exact ih (by simpa using h) hf.2 (by simpa using hk)
theorem fit_succ {ns : List Nat} {xs : List UInt64} (h : ns.length = xs.length) {k : Nat} (hk : k < ns.length) (hf : fit (ns.take k) (xs.take k)) (hx : (xs[k]'(by omega)).toNat < 2 ^ (8 * ns[k])) : fit (ns.take (k + 1)) (xs.take (k + 1)) := by
  induction ns generalizing xs k with
  | nil => simp at hk
  | cons n r ih =>
    cases xs with
    | nil => simp at h
    | cons x xs =>
      cases k with
      | zero => exact ⟨hx, by simp [fit]⟩
      | succ k => exact ⟨hf.1, ih (by simpa using h) (by simpa using hk) hf.2 hx⟩
theorem fit_of_get (ns : List Nat) (xs : List UInt64) (h : ns.length = xs.length) (hf : ∀ k (hk : k < ns.length), (xs[k]'(by omega)).toNat < 2 ^ (8 * ns[k])) : fit ns xs := by
  induction ns generalizing xs with
  | nil => cases xs <;> trivial
  | cons n r ih =>
    cases xs with
    | nil => trivial
    | cons x xs => exact ⟨hf 0 (by simp), ih xs (by simpa using h) fun k hk => hf (k + 1) (by simpa using hk)⟩
theorem unp_length (ns : List Nat) (b : List UInt8) : (unp ns b).length = ns.length := by
  induction ns generalizing b with
  | nil => rfl
  | cons n r ih => simp [unp, ih]
theorem unp_get (ns : List Nat) (b : List UInt8) (k : Nat) (hk : k < ns.length) : (unp ns b)[k]'(by rw [unp_length]; exact hk) = UInt64.ofNat (num ((b.drop (tot (ns.take k))).take ns[k])) := by
  induction ns generalizing b k with
  | nil => simp at hk
  | cons n r ih =>
    cases k with
    | zero => simp [unp, tot]
    | succ k =>
      simp only [unp, List.getElem_cons_succ, List.take_succ_cons, tot, List.sum_cons]
      rw [ih _ _ (by simpa using hk), List.drop_drop]
      rfl
theorem unp_packed (ns : List Nat) (xs : List UInt64) (h : ns.length = xs.length) (hf : fit ns xs) : unp ns (packed ns xs) = xs := by
  induction ns generalizing xs with
  | nil => cases xs <;> simp [unp] at h ⊢
  | cons n r ih =>
    cases xs with
    | nil => simp at h
    | cons x xs =>
      simp only [packed, unp]
      have h1 : (dig n x.toNat ++ packed r xs).take n = dig n x.toNat := by
        rw [List.take_append_of_le_length (by rw [dig_length]; exact Nat.le_refl _), List.take_of_length_le (by rw [dig_length]; exact Nat.le_refl _)]
      have h2 : (dig n x.toNat ++ packed r xs).drop n = packed r xs := by
        rw [List.drop_append_of_le_length (by rw [dig_length]; exact Nat.le_refl _), List.drop_of_length_le (by rw [dig_length]; exact Nat.le_refl _), List.nil_append]
      rw [h1, h2, ih xs (by simpa using h) hf.2, num_dig, Nat.mod_eq_of_lt hf.1]
      simp
theorem num_u64 (l : List UInt8) (h : l.length ≤ 8) : (UInt64.ofNat (num l)).toNat = num l := by
  have h1 := num_lt l
  have h2 : 2 ^ (8 * l.length) ≤ 2 ^ 64 := Nat.pow_le_pow_right (by decide) (by omega)
  rw [UInt64.toNat_ofNat']
  exact Nat.mod_eq_of_lt (by omega)
theorem packed_unp (ns : List Nat) (b : List UInt8) (hf : fine ns) (h : b.length = tot ns) : packed ns (unp ns b) = b := by
  induction ns generalizing b with
  | nil => simp [tot] at h; subst h; rfl
  | cons n r ih =>
    have h1 := hf n (by simp)
    have h3 : (b.take n).length = n := by simp [tot] at h ⊢; omega
    simp only [unp, packed]
    rw [num_u64 _ (by omega), ih (b.drop n) (fun m hm => hf m (by simp [hm])) (by simp [tot] at h ⊢; omega)]
    have h4 := dig_num (b.take n)
    rw [h3] at h4
    rw [h4, List.take_append_drop]
theorem fit_unp (ns : List Nat) (b : List UInt8) (hf : fine ns) (h : b.length = tot ns) : fit ns (unp ns b) := by
  induction ns generalizing b with
  | nil => trivial
  | cons n r ih =>
    have h1 := hf n (by simp)
    have h3 : (b.take n).length = n := by simp [tot] at h ⊢; omega
    refine ⟨?_, ih (b.drop n) (fun m hm => hf m (by simp [hm])) (by simp [tot] at h ⊢; omega)⟩
    rw [num_u64 _ (by omega)]
    have := num_lt (b.take n)
    rwa [h3] at this
end Go.Proofs.YtkkcipjlinfieaaDoor.WPlain
