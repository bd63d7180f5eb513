/- Plain mathematics for layer wire: the sum over bytes on natural numbers, step by step and four steps at once; that steps lose nothing; numbers in bytes. Nothing of the program. -/
namespace Go.Proofs.YtgjcbfdhpbkhoaaGreatDoor.WPlain
def stp (c : Nat) : Nat := if c % 2 = 1 then (c / 2) ^^^ 2197175160 else c / 2
def stp8 (c : Nat) : Nat := stp (stp (stp (stp (stp (stp (stp (stp c)))))))
def eat (c : Nat) (x : UInt8) : Nat := stp8 (c ^^^ x.toNat)
def eats (c : Nat) (l : List UInt8) : Nat := l.foldl eat c
def crc (seed : Nat) (l : List UInt8) : Nat := 4294967295 - eats (4294967295 - seed) l
def tab : List Nat := [0, 274646895, 549293790, 820201905, 1098587580, 1361435347, 1640403810, 1905808397, 2197175160, 2460548119, 2722870694, 2987750089, 3280807620, 3553878443, 3811616794, 4084100981]
def nib (c : Nat) : Nat := (c / 16) ^^^ tab.getD (c % 16) 0
theorem xor_half (a b : Nat) : (a ^^^ b) / 2 = (a / 2) ^^^ (b / 2) := by
  apply Nat.eq_of_testBit_eq; intro i; simp [Nat.testBit_div_two]
theorem xor_odd (a b : Nat) : (a ^^^ b) % 2 = (a % 2 + b % 2) % 2 := by
  have h := Nat.xor_mod_two_eq_one (a := a) (b := b)
  have h1 := Nat.mod_two_eq_zero_or_one (a ^^^ b)
  have h2 := Nat.mod_two_eq_zero_or_one a
  have h3 := Nat.mod_two_eq_zero_or_one b
  omega
theorem stp_xor (a b : Nat) : stp (a ^^^ b) = stp a ^^^ stp b := by
  unfold stp
  rw [xor_half, xor_odd]
  rcases Nat.mod_two_eq_zero_or_one a with ha | ha <;> rcases Nat.mod_two_eq_zero_or_one b with hb | hb <;> simp only [ha, hb] <;>
    (apply Nat.eq_of_testBit_eq; intro i; simp <;> (try (cases (a / 2).testBit i <;> cases (b / 2).testBit i <;> cases (2197175160 : Nat).testBit i <;> rfl)))
theorem stp_even (x : Nat) : stp (2 * x) = x := by
  unfold stp; rw [if_neg (by omega)]; omega
theorem low_high (c : Nat) : c = (16 * (c / 16)) ^^^ (c % 16) := by
  have h := Nat.two_pow_add_eq_or_of_lt (i := 4) (b := c % 16) (by omega) (c / 16)
  have h2 : (2 ^ 4 * (c / 16)) &&& (c % 16) = 0 := by
    apply Nat.eq_of_testBit_eq; intro i
    simp only [Nat.testBit_and, Nat.zero_testBit, Nat.testBit_two_pow_mul]
    by_cases hi : 4 ≤ i
    · have : (c % 16).testBit i = false := Nat.testBit_lt_two_pow (Nat.lt_of_lt_of_le (show c % 16 < 2 ^ 4 by omega) (Nat.pow_le_pow_right (by decide) hi))
      simp [this]
    · simp [hi]
  have h3 : (2 ^ 4 * (c / 16)) ^^^ (c % 16) = (2 ^ 4 * (c / 16)) ||| (c % 16) := by
    apply Nat.eq_of_testBit_eq; intro i
    have := congrArg (fun x => Nat.testBit x i) h2
    simp only [Nat.testBit_and, Nat.zero_testBit] at this
    simp only [Nat.testBit_xor, Nat.testBit_or]
    revert this
    cases (2 ^ 4 * (c / 16)).testBit i <;> cases (c % 16).testBit i <;> simp
  have h4 : 2 ^ 4 * (c / 16) + c % 16 = c := by omega
  have h5 : (16 : Nat) = 2 ^ 4 := rfl
  calc c = 2 ^ 4 * (c / 16) + c % 16 := h4.symm
    _ = (2 ^ 4 * (c / 16)) ||| (c % 16) := h
    _ = (2 ^ 4 * (c / 16)) ^^^ (c % 16) := h3.symm
theorem four_small : ∀ r : Nat, r < 16 → stp (stp (stp (stp r))) = tab.getD r 0 := by decide
theorem four (c : Nat) : stp (stp (stp (stp c))) = nib c := by
  have e : stp (stp (stp (stp (16 * (c / 16) ^^^ c % 16)))) = nib c := by
    rw [stp_xor, stp_xor, stp_xor, stp_xor]
    have h : 16 * (c / 16) = 2 * (2 * (2 * (2 * (c / 16)))) := by omega
    rw [h, stp_even, stp_even, stp_even, stp_even, four_small _ (Nat.mod_lt _ (by decide))]
    rfl
  rw [← low_high] at e
  exact e
theorem stp8_nib (c : Nat) : stp8 c = nib (nib c) := by
  unfold stp8; rw [four, four]
theorem stp_lt {c : Nat} (h : c < 4294967296) : stp c < 4294967296 := by
  unfold stp; split
  · exact Nat.xor_lt_two_pow (n := 32) (by omega) (by decide)
  · omega
theorem tab_lt : ∀ r : Nat, tab.getD r 0 < 4294967296 := by
  intro r
  by_cases h : r < 16
  · revert r; decide
  · rw [List.getD_eq_getElem?_getD, List.getElem?_eq_none (by simp [tab]; omega)]; decide
theorem nib_lt {c : Nat} (h : c < 4294967296) : nib c < 4294967296 :=
  Nat.xor_lt_two_pow (n := 32) (by omega) (tab_lt _)
theorem byte_lt (x : UInt8) : x.toNat < 256 := x.toNat_lt
theorem xorb_lt {c : Nat} (h : c < 4294967296) (x : UInt8) : c ^^^ x.toNat < 4294967296 :=
  Nat.xor_lt_two_pow (n := 32) h (by have := byte_lt x; omega)
theorem stp8_lt {c : Nat} (h : c < 4294967296) : stp8 c < 4294967296 := by
  unfold stp8; exact stp_lt (stp_lt (stp_lt (stp_lt (stp_lt (stp_lt (stp_lt (stp_lt h)))))))
theorem eat_lt {c : Nat} (h : c < 4294967296) (x : UInt8) : eat c x < 4294967296 := stp8_lt (xorb_lt h x)
theorem eats_lt {c : Nat} (h : c < 4294967296) (l : List UInt8) : eats c l < 4294967296 := by
  induction l generalizing c with
  | nil => exact h
  | cons x r ih => exact ih (eat_lt h x)
theorem crc_lt (seed : Nat) (l : List UInt8) : crc seed l < 4294967296 := by unfold crc; omega
theorem eats_append (c : Nat) (l r : List UInt8) : eats c (l ++ r) = eats (eats c l) r := by simp [eats]
theorem eats_snoc (c : Nat) (l : List UInt8) (x : UInt8) : eats c (l ++ [x]) = eat (eats c l) x := by simp [eats]
theorem eats_take_succ (c : Nat) (l : List UInt8) (k : Nat) (h : k < l.length) : eats c (l.take (k + 1)) = eat (eats c (l.take k)) l[k] := by
  rw [List.take_succ_eq_append_getElem h, eats_snoc]
theorem xor_cancel {a b p : Nat} (h : a ^^^ p = b ^^^ p) : a = b := by
  have := congrArg (· ^^^ p) h
  simpa [Nat.xor_assoc] using this
theorem top_half {a : Nat} (h : a < 2147483648) : (a ^^^ 2197175160) ≥ 2147483648 := by
  have hb : (a ^^^ 2197175160).testBit 31 = true := by
    have : a.testBit 31 = false := Nat.testBit_lt_two_pow (by omega)
    rw [Nat.testBit_xor, this]; decide
  have := Nat.ge_two_pow_of_testBit hb
  omega
theorem stp_inj {a b : Nat} (ha : a < 4294967296) (hb : b < 4294967296) (h : stp a = stp b) : a = b := by
  unfold stp at h
  rcases Nat.mod_two_eq_zero_or_one a with h1 | h1 <;> rcases Nat.mod_two_eq_zero_or_one b with h2 | h2 <;> simp only [h1, h2] at h
  · simp at h; omega
  · simp at h
    have := top_half (a := b / 2) (by omega)
    omega
  · simp at h
    have := top_half (a := a / 2) (by omega)
    omega
  · simp only [if_true] at h
    have := xor_cancel h
    omega
theorem stp8_inj {a b : Nat} (ha : a < 4294967296) (hb : b < 4294967296) (h : stp8 a = stp8 b) : a = b := by
  unfold stp8 at h
  have l1 := stp_lt ha; have r1 := stp_lt hb
  have l2 := stp_lt l1; have r2 := stp_lt r1
  have l3 := stp_lt l2; have r3 := stp_lt r2
  have l4 := stp_lt l3; have r4 := stp_lt r3
  have l5 := stp_lt l4; have r5 := stp_lt r4
  have l6 := stp_lt l5; have r6 := stp_lt r5
  have l7 := stp_lt l6; have r7 := stp_lt r6
  exact stp_inj ha hb (stp_inj l1 r1 (stp_inj l2 r2 (stp_inj l3 r3 (stp_inj l4 r4 (stp_inj l5 r5 (stp_inj l6 r6 (stp_inj l7 r7 h)))))))
theorem eats_inj {a b : Nat} (ha : a < 4294967296) (hb : b < 4294967296) (l : List UInt8) (h : eats a l = eats b l) : a = b := by
  induction l generalizing a b with
  | nil => exact h
  | cons x r ih =>
    have := ih (eat_lt ha x) (eat_lt hb x) h
    exact xor_cancel (stp8_inj (xorb_lt ha x) (xorb_lt hb x) this)
theorem crc_turned (seed : Nat) (p q : List UInt8) (x y : UInt8) (hxy : x ≠ y) : crc seed (p ++ x :: q) ≠ crc seed (p ++ y :: q) := by
  intro h
  have hs : 4294967295 - seed < 4294967296 := by omega
  have h0 := eats_lt hs p
  have h1 := eats_lt (eats_lt hs p) (x :: q)
  have h2 := eats_lt (eats_lt hs p) (y :: q)
  unfold crc at h
  rw [eats_append, eats_append] at h
  have h3 : eats (eats (4294967295 - seed) p) (x :: q) = eats (eats (4294967295 - seed) p) (y :: q) := by omega
  have h4 := eats_inj (eat_lt h0 x) (eat_lt h0 y) q h3
  have h5 := stp8_inj (xorb_lt h0 x) (xorb_lt h0 y) h4
  rw [Nat.xor_comm _ x.toNat, Nat.xor_comm _ y.toNat] at h5
  exact hxy (UInt8.toNat_inj.1 (xor_cancel h5))
def num : List UInt8 → Nat
  | [] => 0
  | x :: r => x.toNat + 256 * num r
def dig : Nat → Nat → List UInt8
  | 0, _ => []
  | n + 1, x => UInt8.ofNat (x % 256) :: dig n (x / 256)
theorem num_snoc (l : List UInt8) (x : UInt8) : num (l ++ [x]) = num l + 2 ^ (8 * l.length) * x.toNat := by
  induction l with
  | nil => simp [num]
  | cons y r ih =>
    simp only [List.cons_append, num, ih, List.length_cons]
    have : 2 ^ (8 * (r.length + 1)) = 256 * 2 ^ (8 * r.length) := by rw [show 8 * (r.length + 1) = 8 * r.length + 8 by omega, Nat.pow_add]; omega
    rw [this, Nat.mul_add, Nat.mul_assoc]; omega
theorem num_lt (l : List UInt8) : num l < 2 ^ (8 * l.length) := by
  induction l with
  | nil => simp [num]
  | cons y r ih =>
    simp only [num, List.length_cons]
    have : 2 ^ (8 * (r.length + 1)) = 256 * 2 ^ (8 * r.length) := by rw [show 8 * (r.length + 1) = 8 * r.length + 8 by omega, Nat.pow_add]; omega
    have := byte_lt y
    omega
theorem num_or (l : List UInt8) (x : UInt8) : num l ||| (x.toNat * 2 ^ (8 * l.length)) = num (l ++ [x]) := by
  have h := Nat.two_pow_add_eq_or_of_lt (num_lt l) x.toNat
  rw [num_snoc, Nat.mul_comm x.toNat, Nat.or_comm, ← h, Nat.add_comm]
theorem dig_length (n x : Nat) : (dig n x).length = n := by
  induction n generalizing x with
  | zero => rfl
  | succ n ih => simp [dig, ih]
theorem num_dig (n x : Nat) : num (dig n x) = x % 2 ^ (8 * n) := by
  induction n generalizing x with
  | zero => simp [dig, num, Nat.mod_one]
  | succ n ih =>
    simp only [dig, num, ih]
    have e : 2 ^ (8 * (n + 1)) = 256 * 2 ^ (8 * n) := by rw [show 8 * (n + 1) = 8 * n + 8 by omega, Nat.pow_add]; omega
    rw [e, Nat.mod_mul]
    have : (UInt8.ofNat (x % 256)).toNat = x % 256 := by simp
    rw [this]
theorem dig_num (l : List UInt8) : dig l.length (num l) = l := by
  induction l with
  | nil => rfl
  | cons y r ih =>
    have hy := byte_lt y
    simp only [List.length_cons, dig, num]
    have h1 : (y.toNat + 256 * num r) % 256 = y.toNat := by omega
    have h2 : (y.toNat + 256 * num r) / 256 = num r := by omega
    rw [h1, h2, ih]
    simp
theorem dig_get (n x k : Nat) (h : k < (dig n x).length) : (dig n x)[k] = UInt8.ofNat (x / 2 ^ (8 * k) % 256) := by
  induction n generalizing x k with
  | zero => simp [dig] at h
  | succ n ih =>
    cases k with
    | zero => simp [dig]
    | succ k =>
      simp only [dig, List.getElem_cons_succ]
      rw [ih]
      have e : 2 ^ (8 * (k + 1)) = 256 * 2 ^ (8 * k) := by rw [show 8 * (k + 1) = 8 * k + 8 by omega, Nat.pow_add]; omega
      rw [e, Nat.div_div_eq_div_mul]
def patch (l : List UInt8) (p : Nat) (d : List UInt8) : List UInt8 := l.take p ++ d ++ l.drop (p + d.length)
theorem patch_nil (l : List UInt8) (p : Nat) : patch l p [] = l := by simp [patch]
theorem patch_length (l : List UInt8) (p : Nat) (d : List UInt8) (h : p + d.length ≤ l.length) : (patch l p d).length = l.length := by
  simp only [patch, List.length_append, List.length_take, List.length_drop]; omega
theorem patch_get (l : List UInt8) (p : Nat) (d : List UInt8) (h : p + d.length ≤ l.length) (i : Nat) :
    (patch l p d)[i]? = if p ≤ i ∧ i < p + d.length then d[i - p]? else l[i]? := by
  unfold patch
  by_cases h1 : i < p
  · rw [if_neg (by omega), List.append_assoc, List.getElem?_append_left (by simp; omega), List.getElem?_take_of_lt h1]
  · by_cases h2 : i < p + d.length
    · rw [if_pos ⟨by omega, h2⟩, List.getElem?_append_left (by simp; omega), List.getElem?_append_right (by simp; omega)]
      simp only [List.length_take]
      rw [Nat.min_eq_left (by omega)]
    · rw [if_neg (by omega), List.getElem?_append_right (by simp; omega), List.getElem?_drop]
      congr 1
      simp; omega
theorem dig_succ (k x : Nat) : dig (k + 1) x = dig k x ++ [UInt8.ofNat (x / 2 ^ (8 * k) % 256)] := by
  apply List.ext_getElem
  · simp [dig_length]
  · intro i h1 h2
    rw [dig_get]
    by_cases h : i < k
    · rw [List.getElem_append_left (by rw [dig_length]; exact h), dig_get]
    · have : i = k := by simp [dig_length] at h1; omega
      subst this
      rw [List.getElem_append_right (by rw [dig_length]; exact Nat.le_refl _)]
      simp
theorem patch_snoc (l : List UInt8) (p : Nat) (d : List UInt8) (y : UInt8) (h : p + d.length < l.length) : patch l p (d ++ [y]) = (patch l p d).set (p + d.length) y := by
  apply List.ext_getElem?
  intro i
  rw [patch_get _ _ _ (by simp; omega), List.getElem?_set, patch_get _ _ _ (by omega), patch_length _ _ _ (by omega)]
  simp only [List.length_append, List.length_cons, List.length_nil]
  by_cases h1 : p + d.length = i
  · subst h1
    rw [if_pos ⟨by omega, by omega⟩, if_pos rfl, if_pos h, show p + d.length - p = d.length by omega]
    simp
  · rw [if_neg h1]
    by_cases h2 : p ≤ i ∧ i < p + d.length
    · rw [if_pos ⟨by omega, by omega⟩, if_pos h2, List.getElem?_append_left (by omega)]
    · rw [if_neg (by omega), if_neg h2]
theorem patch_part (l : List UInt8) (p : Nat) (d : List UInt8) (h : p + d.length ≤ l.length) : ((patch l p d).drop p).take d.length = d := by
  apply List.ext_getElem?
  intro i
  rw [List.getElem?_take, List.getElem?_drop, patch_get _ _ _ h]
  by_cases hi : i < d.length
  · rw [if_pos hi, if_pos ⟨by omega, by omega⟩, show p + i - p = i by omega]
  · rw [if_neg hi, List.getElem?_eq_none (by omega)]
theorem patch_apart (l : List UInt8) (p : Nat) (d : List UInt8) (h : p + d.length ≤ l.length) (q m : Nat) (hq : q + m ≤ p ∨ p + d.length ≤ q) : ((patch l p d).drop q).take m = (l.drop q).take m := by
  apply List.ext_getElem?
  intro i
  rw [List.getElem?_take, List.getElem?_drop, patch_get _ _ _ h, List.getElem?_take, List.getElem?_drop]
  by_cases hi : i < m
  · rw [if_pos hi, if_pos hi, if_neg (by omega)]
  · rw [if_neg hi, if_neg hi]
def tot (ns : List Nat) : Nat := ns.sum
def fine (ns : List Nat) : Prop := ∀ n ∈ ns, 1 ≤ n ∧ n ≤ 8
def packed : List Nat → List UInt64 → List UInt8
  | n :: ns, x :: xs => dig n x.toNat ++ packed ns xs
  | _, _ => []
def unp : List Nat → List UInt8 → List UInt64
  | n :: ns, b => UInt64.ofNat (num (b.take n)) :: unp ns (b.drop n)
  | [], _ => []
def fit : List Nat → List UInt64 → Prop
  | n :: ns, x :: xs => x.toNat < 2 ^ (8 * n) ∧ fit ns xs
  | _, _ => True
theorem tot_take_succ (ns : List Nat) (k : Nat) (h : k < ns.length) : tot (ns.take (k + 1)) = tot (ns.take k) + ns[k] := by
  rw [tot, List.take_succ_eq_append_getElem h, List.sum_append]; simp [tot]
theorem tot_take_le (ns : List Nat) (k : Nat) : tot (ns.take k) ≤ tot ns := by
  have := List.sum_append (l₁ := ns.take k) (l₂ := ns.drop k)
  rw [List.take_append_drop] at this
  unfold tot; omega
theorem tot_le (ns : List Nat) (h : fine ns) : ns.length ≤ tot ns ∧ tot ns ≤ 8 * ns.length := by
  induction ns with
  | nil => simp [tot]
  | cons n r ih =>
    have h1 := h n (by simp)
    have h2 := ih (fun m hm => h m (by simp [hm]))
    unfold tot at h2 ⊢
    simp only [List.length_cons, List.sum_cons]; omega
theorem fine_get {ns : List Nat} (h : fine ns) {k : Nat} (hk : k < ns.length) : 1 ≤ ns[k] ∧ ns[k] ≤ 8 := h _ (List.getElem_mem hk)
theorem packed_length (ns : List Nat) (xs : List UInt64) (h : ns.length = xs.length) : (packed ns xs).length = tot ns := by
  induction ns generalizing xs with
  | nil => cases xs <;> simp [packed, tot]
  | cons n r ih =>
    cases xs with
    | nil => simp at h
    | cons x xs =>
      have := ih xs (by simpa using h)
      simp only [packed, List.length_append, dig_length, this, tot, List.sum_cons]
theorem packed_snoc (ns : List Nat) (xs : List UInt64) (h : ns.length = xs.length) (n : Nat) (x : UInt64) : packed (ns ++ [n]) (xs ++ [x]) = packed ns xs ++ dig n x.toNat := by
  induction ns generalizing xs with
  | nil =>
    cases xs with
    | nil => simp [packed]
    | cons y ys => simp at h
  | cons m r ih =>
    cases xs with
    | nil => simp at h
    | cons y ys =>
      simp only [List.cons_append, packed]
      rw [ih ys (by simpa using h), List.append_assoc]
theorem packed_take_succ (ns : List Nat) (xs : List UInt64) (h : ns.length = xs.length) (k : Nat) (hk : k < ns.length) :
    packed (ns.take (k + 1)) (xs.take (k + 1)) = packed (ns.take k) (xs.take k) ++ dig ns[k] (xs[k]'(by omega)).toNat := by
  rw [List.take_succ_eq_append_getElem hk, List.take_succ_eq_append_getElem (by omega : k < xs.length), packed_snoc _ _ (by simp; omega)]
theorem patch_zeros (d e : List UInt8) (z : Nat) : patch (d ++ List.replicate z 0) d.length e = (d ++ e) ++ List.replicate (z - e.length) 0 := by
  unfold patch
  rw [List.take_left, List.drop_append]
  simp
theorem fit_get {ns : List Nat} {xs : List UInt64} (h : ns.length = xs.length) (hf : fit ns xs) {k : Nat} (hk : k < ns.length) : (xs[k]'(by omega)).toNat < 2 ^ (8 * ns[k]) := by
  induction ns generalizing xs k with
  | nil => simp at hk
  | cons n r ih =>
    cases xs with
    | nil => simp at h
    | cons x xs =>
      cases k with
      | zero => exact hf.1
      | succ k => exact ih (by simpa using h) hf.2 (by simpa using hk)
theorem fit_of_get (ns : List Nat) (xs : List UInt64) (h : ns.length = xs.length) (hf : ∀ k (hk : k < ns.length), (xs[k]'(by omega)).toNat < 2 ^ (8 * ns[k])) : fit ns xs := by
  induction ns generalizing xs with
  | nil => cases xs <;> trivial
  | cons n r ih =>
    cases xs with
    | nil => trivial
    | cons x xs => exact ⟨hf 0 (by simp), ih xs (by simpa using h) fun k hk => hf (k + 1) (by simpa using hk)⟩
theorem unp_length (ns : List Nat) (b : List UInt8) : (unp ns b).length = ns.length := by
  induction ns generalizing b with
  | nil => rfl
  | cons n r ih => simp [unp, ih]
theorem unp_get (ns : List Nat) (b : List UInt8) (k : Nat) (hk : k < ns.length) : (unp ns b)[k]'(by rw [unp_length]; exact hk) = UInt64.ofNat (num ((b.drop (tot (ns.take k))).take ns[k])) := by
  induction ns generalizing b k with
  | nil => simp at hk
  | cons n r ih =>
    cases k with
    | zero => simp [unp, tot]
    | succ k =>
      simp only [unp, List.getElem_cons_succ, List.take_succ_cons, tot, List.sum_cons]
      rw [ih _ _ (by simpa using hk), List.drop_drop]
      rfl
theorem unp_packed (ns : List Nat) (xs : List UInt64) (h : ns.length = xs.length) (hf : fit ns xs) : unp ns (packed ns xs) = xs := by
  induction ns generalizing xs with
  | nil => cases xs <;> simp [unp] at h ⊢
  | cons n r ih =>
    cases xs with
    | nil => simp at h
    | cons x xs =>
      simp only [packed, unp]
      have h1 : (dig n x.toNat ++ packed r xs).take n = dig n x.toNat := by
        rw [List.take_append_of_le_length (by rw [dig_length]; exact Nat.le_refl _), List.take_of_length_le (by rw [dig_length]; exact Nat.le_refl _)]
      have h2 : (dig n x.toNat ++ packed r xs).drop n = packed r xs := by
        rw [List.drop_append_of_le_length (by rw [dig_length]; exact Nat.le_refl _), List.drop_of_length_le (by rw [dig_length]; exact Nat.le_refl _), List.nil_append]
      rw [h1, h2, ih xs (by simpa using h) hf.2, num_dig, Nat.mod_eq_of_lt hf.1]
      simp
theorem num_u64 (l : List UInt8) (h : l.length ≤ 8) : (UInt64.ofNat (num l)).toNat = num l := by
  have h1 := num_lt l
  have h2 : 2 ^ (8 * l.length) ≤ 2 ^ 64 := Nat.pow_le_pow_right (by decide) (by omega)
  rw [UInt64.toNat_ofNat']
  exact Nat.mod_eq_of_lt (by omega)
end Go.Proofs.YtgjcbfdhpbkhoaaGreatDoor.WPlain
/- Plain mathematics for layer bits: chunks of a row of bits, buddies among them, how many there are and which is the first; the walk that cuts. Nothing of the program. -/
namespace Go.Proofs.YtgjcbfdhpbkhoaaGreatDoor.TPlain
variable (F : Nat → Bool)
def chunk (c k : Nat) : Bool := (List.range (2 ^ k)).all fun j => F (c + j)
theorem chunk_iff {F : Nat → Bool} {c k : Nat} : chunk F c k = true ↔ ∀ j, j < 2 ^ k → F (c + j) = true := by
  simp [chunk, List.all_eq_true, List.mem_range]
def bud (c k : Nat) : Bool := decide (c % 2 ^ k = 0) && chunk F c k && (decide (k = 10) || !chunk F (c - c % 2 ^ (k + 1)) (k + 1))
def cnt (k : Nat) : Nat → Nat
  | 0 => 0
  | p + 1 => cnt k p + if bud F p k = true then 1 else 0
def fst (k : Nat) : Nat → Nat
  | 0 => 0
  | p + 1 => if cnt F k p = 0 then (if bud F p k = true then p else 0) else fst k p
def zer : Nat → Nat
  | 0 => 0
  | p + 1 => zer p + if F p = true then 1 else 0
def Cut (p : Nat) : Prop := ∀ c k, k ≤ 10 → c % 2 ^ k = 0 → c < p → p < c + 2 ^ k → chunk F c k = false
variable {F}
theorem two_pow_pos (k : Nat) : 0 < 2 ^ k := Nat.two_pow_pos k
theorem pow_up {a b : Nat} (h : a ≤ b) : ∃ m, 2 ^ b = 2 ^ a * m ∧ 1 ≤ m := ⟨2 ^ (b - a), by rw [← Nat.pow_add]; congr 1; omega, two_pow_pos _⟩
theorem mod_le {c a b : Nat} (h : a ≤ b) (hc : c % 2 ^ b = 0) : c % 2 ^ a = 0 := by
  obtain ⟨m, hm, _⟩ := pow_up h
  rw [hm] at hc
  exact Nat.mod_eq_zero_of_dvd (Nat.dvd_trans (Nat.dvd_mul_right _ _) (Nat.dvd_of_mod_eq_zero hc))
theorem nest {c k d j : Nat} (hk : c % 2 ^ k = 0) (hj : d % 2 ^ j = 0) (hkj : k ≤ j) (h1 : c < d + 2 ^ j) (h2 : d < c + 2 ^ k) : d ≤ c ∧ c + 2 ^ k ≤ d + 2 ^ j := by
  have hd : d % 2 ^ k = 0 := mod_le hkj hj
  obtain ⟨m, hm, hm1⟩ := pow_up hkj
  obtain ⟨x, rfl⟩ := Nat.dvd_of_mod_eq_zero hk
  obtain ⟨y, rfl⟩ := Nat.dvd_of_mod_eq_zero hd
  rw [hm] at h1 ⊢
  have hp := two_pow_pos k
  generalize 2 ^ k = q at *
  rw [← Nat.mul_add] at h1
  have a1 : x < y + m := Nat.lt_of_mul_lt_mul_left h1
  have a2 : y < x + 1 := by
    rw [show q * x + q = q * (x + 1) by rw [Nat.mul_add, Nat.mul_one]] at h2
    exact Nat.lt_of_mul_lt_mul_left h2
  refine ⟨Nat.mul_le_mul_left _ (by omega), ?_⟩
  rw [← Nat.mul_add, show q * x + q = q * (x + 1) by rw [Nat.mul_add, Nat.mul_one]]
  exact Nat.mul_le_mul_left _ (by omega)
theorem chunk_in {c k d j : Nat} (h1 : d ≤ c) (h2 : c + 2 ^ k ≤ d + 2 ^ j) (h : chunk F d j = true) : chunk F c k = true := by
  rw [chunk_iff] at h ⊢
  intro i hi
  have := h (c - d + i) (by omega)
  rwa [show d + (c - d + i) = c + i by omega] at this
theorem parent {c k : Nat} (hc : c % 2 ^ k = 0) : (c - c % 2 ^ (k + 1)) % 2 ^ (k + 1) = 0 ∧ c - c % 2 ^ (k + 1) ≤ c ∧ c + 2 ^ k ≤ c - c % 2 ^ (k + 1) + 2 ^ (k + 1) := by
  have h0 : (c - c % 2 ^ (k + 1)) % 2 ^ (k + 1) = 0 := by
    have := Nat.div_add_mod c (2 ^ (k + 1))
    rw [show c - c % 2 ^ (k + 1) = 2 ^ (k + 1) * (c / 2 ^ (k + 1)) by omega]
    exact Nat.mul_mod_right _ _
  have h1 := Nat.mod_lt c (two_pow_pos (k + 1))
  have h2 := Nat.mod_le c (2 ^ (k + 1))
  have h3 := two_pow_pos k
  exact ⟨h0, by omega, (nest hc h0 (by omega) (by omega) (by omega)).2⟩
theorem bud_chunk {c k : Nat} (h : bud F c k = true) : c % 2 ^ k = 0 ∧ chunk F c k = true := by
  simp only [bud, Bool.and_eq_true, decide_eq_true_eq] at h
  exact h.1
theorem bud_max {c k : Nat} (h : bud F c k = true) (hk : k < 10) : chunk F (c - c % 2 ^ (k + 1)) (k + 1) = false := by
  simp only [bud, Bool.and_eq_true, Bool.or_eq_true, decide_eq_true_eq, Bool.not_eq_true'] at h
  rcases h.2 with h | h
  · omega
  · exact h
theorem bud_top {c k d j : Nat} (h : bud F c k = true) (hkj : k < j) (hj10 : j ≤ 10) (hj : d % 2 ^ j = 0) (h1 : c < d + 2 ^ j) (h2 : d < c + 2 ^ k) : chunk F d j = false := by
  cases e : chunk F d j with
  | false => rfl
  | true =>
    have h3 := bud_max h (by omega)
    have h4 := bud_chunk h
    obtain ⟨p1, p2, p3⟩ := parent h4.1
    have h5 := two_pow_pos k
    have h6 := nest p1 hj (by omega) (by omega) (by omega)
    rw [chunk_in h6.1 h6.2 e] at h3
    cases h3
structure Here (F : Nat → Bool) (p k : Nat) : Prop where
  cut : Cut F p
  le : k ≤ 10
  at_ : p % 2 ^ k = 0
  free : chunk F p k = true
  top : k = 10 ∨ p % 2 ^ (k + 1) ≠ 0 ∨ chunk F p (k + 1) = false
section
variable {p k : Nat} (h : Here F p k)
include h
theorem Here.big {j : Nat} (hj : k < j) (hj10 : j ≤ 10) (hp : p % 2 ^ j = 0) : chunk F p j = false := by
  cases e : chunk F p j with
  | false => rfl
  | true =>
    have h1 := mod_le (a := k + 1) (b := j) (by omega) hp
    obtain ⟨m, hm, hm1⟩ := pow_up (show k + 1 ≤ j by omega)
    have h2 : chunk F p (k + 1) = true := chunk_in (Nat.le_refl _) (by rw [hm]; have := Nat.mul_le_mul_left (2 ^ (k + 1)) hm1; omega) e
    rcases h.top with t | t | t
    · omega
    · exact absurd h1 t
    · rw [h2] at t; cases t
theorem Here.bud : bud F p k = true := by
  simp only [TPlain.bud, Bool.and_eq_true, Bool.or_eq_true, decide_eq_true_eq, Bool.not_eq_true']
  refine ⟨⟨h.at_, h.free⟩, ?_⟩
  by_cases h1 : k = 10
  · exact .inl h1
  · refine .inr ?_
    have hl := h.le
    obtain ⟨p1, p2, p3⟩ := parent h.at_
    have hp := two_pow_pos k
    have hm := Nat.mod_lt p (two_pow_pos (k + 1))
    have hm2 := Nat.mod_le p (2 ^ (k + 1))
    by_cases h2 : p % 2 ^ (k + 1) = 0
    · rw [h2]
      exact h.big (by omega) (by omega) h2
    · exact h.cut _ _ (by omega) p1 (by omega) (by omega)
theorem Here.only {c j : Nat} (hj : j ≤ 10) (h1 : p ≤ c) (h2 : c < p + 2 ^ k) (hb : TPlain.bud F c j = true) : c = p ∧ j = k := by
  obtain ⟨b1, b2⟩ := bud_chunk hb
  have hp := two_pow_pos k
  have hp2 := two_pow_pos j
  rcases Nat.lt_trichotomy j k with hl | rfl | hl
  · have := bud_top hb hl h.le h.at_ (by omega) (by omega)
    rw [h.free] at this
    cases this
  · have := nest b1 h.at_ (Nat.le_refl _) (by omega) (by omega)
    exact ⟨by omega, rfl⟩
  · have h3 := nest h.at_ b1 (by omega) (by omega) (by omega)
    have h4 : c = p := by omega
    subst h4
    rw [h.big hl hj b1] at b2
    cases b2
end
theorem cnt_none {k p n : Nat} (h : ∀ c, p ≤ c → c < p + n → bud F c k = false) : cnt F k (p + n) = cnt F k p ∧ fst F k (p + n) = fst F k p := by
  induction n with
  | zero => exact ⟨rfl, rfl⟩
  | succ n ih =>
    obtain ⟨i1, i2⟩ := ih fun c h1 h2 => h c h1 (by omega)
    have hb := h (p + n) (by omega) (by omega)
    have hf : ∀ q, cnt F k q = 0 → fst F k q = 0 := by
      intro q
      induction q with
      | zero => intro _; rfl
      | succ q iq =>
        intro hq
        simp only [cnt] at hq
        simp only [fst]
        by_cases hb : bud F q k = true
        · simp [hb] at hq
        · rw [if_pos (by omega), if_neg hb]
    constructor
    · rw [← Nat.add_assoc]; simp only [cnt, hb]; simpa using i1
    · rw [← Nat.add_assoc]; simp only [fst, hb]
      by_cases h0 : cnt F k (p + n) = 0
      · rw [if_pos h0, hf p (by omega)]; rfl
      · rw [if_neg h0, i2]
theorem Here.cnt_at {p k : Nat} (h : Here F p k) : cnt F k (p + 2 ^ k) = cnt F k p + 1 ∧ fst F k (p + 2 ^ k) = if cnt F k p = 0 then p else fst F k p := by
  have hp := two_pow_pos k
  have h1 := cnt_none (F := F) (k := k) (p := p + 1) (n := 2 ^ k - 1) (fun c h1 h2 => by
    cases e : TPlain.bud F c k with
    | false => rfl
    | true => have := h.only h.le (by omega) (by omega) e; omega)
  rw [show p + 1 + (2 ^ k - 1) = p + 2 ^ k by omega] at h1
  rw [h1.1, h1.2]
  simp only [cnt, fst, h.bud, if_true]
  exact ⟨trivial, trivial⟩
theorem Here.cnt_else {p k j : Nat} (h : Here F p k) (hj : j ≤ 10) (hjk : j ≠ k) : cnt F j (p + 2 ^ k) = cnt F j p ∧ fst F j (p + 2 ^ k) = fst F j p :=
  cnt_none (fun c h1 h2 => by
    cases e : TPlain.bud F c j with
    | false => rfl
    | true => exact absurd (h.only hj h1 h2 e).2 hjk)
def sumTo (f : Nat → Nat) : Nat → Nat
  | 0 => 0
  | n + 1 => sumTo f n + f n
theorem sumTo_congr {f g : Nat → Nat} {n : Nat} (h : ∀ k, k < n → f k = g k) : sumTo f n = sumTo g n := by
  induction n with
  | zero => rfl
  | succ n ih => simp only [sumTo]; rw [ih fun k hk => h k (by omega), h n (by omega)]
theorem sumTo_one {f g : Nat → Nat} {n m x : Nat} (hm : m < n) (h : ∀ k, k < n → k ≠ m → f k = g k) (hx : f m = g m + x) : sumTo f n = sumTo g n + x := by
  induction n with
  | zero => omega
  | succ n ih =>
    simp only [sumTo]
    by_cases e : m = n
    · subst e
      rw [sumTo_congr (f := f) (g := g) fun k hk => h k (by omega) (by omega), hx]; omega
    · rw [ih (by omega) fun k hk => h k (by omega), h n (by omega) (by omega)]; omega
variable (F) in
def all (p : Nat) : Nat := sumTo (fun k => cnt F k p * 2 ^ k) 11
theorem zer_run {p n : Nat} (h : ∀ i, p ≤ i → i < p + n → F i = true) : zer F (p + n) = zer F p + n := by
  induction n with
  | zero => rfl
  | succ n ih =>
    rw [← Nat.add_assoc]
    simp only [zer, h (p + n) (by omega) (by omega), if_true]
    rw [ih fun i h1 h2 => h i h1 (by omega)]; omega
theorem Here.all {p k : Nat} (h : Here F p k) (he : all F p = zer F p) : TPlain.all F (p + 2 ^ k) = zer F (p + 2 ^ k) := by
  have hl := h.le
  rw [zer_run (n := 2 ^ k) fun i h1 h2 => by have := chunk_iff.1 h.free (i - p) (by omega); rwa [show p + (i - p) = i by omega] at this, ← he]
  refine sumTo_one (m := k) (by omega) (fun j hj hjk => ?_) ?_
  · rw [(h.cnt_else (by omega) hjk).1]
  · rw [h.cnt_at.1, Nat.add_mul, Nat.one_mul]
end Go.Proofs.YtgjcbfdhpbkhoaaGreatDoor.TPlain
/- Bits in a row of bytes. Nothing of the program. -/
namespace Go.Proofs.YtgjcbfdhpbkhoaaGreatDoor.TBits
open WPlain TPlain
def fr (l : List UInt8) (i : Nat) : Bool := decide (i < 2016) && decide (i / 8 < l.length) && !((l.getD (i / 8) 0).toNat.testBit (i % 8))
theorem fr_big {l : List UInt8} {i : Nat} (h : 2016 ≤ i) : fr l i = false := by simp [fr]; omega
theorem fr_in {l : List UInt8} {i : Nat} (h : i < 2016) (h2 : i / 8 < l.length) : fr l i = !(l[i / 8].toNat.testBit (i % 8)) := by
  simp [fr, h, h2]
theorem fr_out {l : List UInt8} {i : Nat} (h2 : l.length ≤ i / 8) : fr l i = false := by
  simp [fr]; omega
def frI (l : List UInt8) (i : Int) : Bool := decide (0 ≤ i) && fr l i.toNat
theorem frI_nat (l : List UInt8) (i : Nat) : frI l (i : Int) = fr l i := by simp [frI]
theorem testBit_go (x s : Nat) : ((x : Int) / 2 ^ s % 2 == 1) = x.testBit s := by
  rw [Nat.testBit_eq_decide_div_mod_eq, Bool.eq_iff_iff]
  simp only [beq_iff_eq, decide_eq_true_eq]
  have h : ((x / 2 ^ s : Nat) : Int) = (x : Int) / 2 ^ s := by simp
  rw [← h]
  omega
def zeros (l : List UInt8) : Nat := zer (fr l) 2016
def ordN (l : List UInt8) (k : Nat) : Nat := cnt (fr l) k 2016
def firN (l : List UInt8) (k : Nat) : Nat := fst (fr l) k 2016
def allB (l : List UInt8) (a n : Nat) (set : Bool) : Bool := (List.range n).all fun j => (!fr l (a + j)) == set
theorem allB_iff {l : List UInt8} {a n : Nat} {set : Bool} : allB l a n set = true ↔ ∀ j, j < n → (!fr l (a + j)) = set := by
  simp [allB, List.all_eq_true, List.mem_range]
theorem allB_no {l : List UInt8} {a n j : Nat} {set : Bool} (hj : j < n) (h : (!fr l (a + j)) ≠ set) : allB l a n set = false := by
  cases e : allB l a n set with
  | false => rfl
  | true => exact absurd (allB_iff.1 e j hj) h
def run (F : Nat → Bool) (a : Nat) : Nat → Nat
  | 0 => 0
  | n + 1 => if F a = true then 1 + run F (a + 1) n else 0
theorem run_le (F : Nat → Bool) : ∀ n a, run F a n ≤ n
  | 0, _ => Nat.le_refl _
  | n + 1, a => by
    simp only [run]
    split
    · have := run_le F n (a + 1); omega
    · omega
theorem run_free (F : Nat → Bool) : ∀ n a j, j < run F a n → F (a + j) = true
  | 0, _, _, h => by simp [run] at h
  | n + 1, a, j, h => by
    simp only [run] at h
    split at h
    · rename_i hf
      cases j with
      | zero => exact hf
      | succ j =>
        have := run_free F n (a + 1) j (by omega)
        rwa [show a + 1 + j = a + (j + 1) by omega] at this
    · omega
def upFrom (P : Nat → Bool) (j : Nat) : Nat → Option Nat
  | 0 => none
  | n + 1 => if P j = true then some j else upFrom P (j + 1) n
def downFrom (P : Nat → Bool) : Nat → Option Nat
  | 0 => none
  | k + 1 => if P k = true then some k else downFrom P k
theorem upFrom_some {P : Nat → Bool} : ∀ {n j r}, upFrom P j n = some r → j ≤ r ∧ r < j + n ∧ P r = true ∧ ∀ i, j ≤ i → i < r → P i = false
  | 0, _, _, h => by simp [upFrom] at h
  | n + 1, j, r, h => by
    simp only [upFrom] at h
    split at h
    · rename_i hp
      injection h with h
      subst h
      exact ⟨by omega, by omega, hp, fun i h1 h2 => by omega⟩
    · rename_i hp
      obtain ⟨h1, h2, h3, h4⟩ := upFrom_some h
      refine ⟨by omega, by omega, h3, fun i i1 i2 => ?_⟩
      by_cases e : i = j
      · subst e; simpa using hp
      · exact h4 i (by omega) i2
theorem downFrom_some {P : Nat → Bool} : ∀ {k r}, downFrom P k = some r → r < k ∧ P r = true ∧ ∀ i, r < i → i < k → P i = false
  | 0, _, h => by simp [downFrom] at h
  | k + 1, r, h => by
    simp only [downFrom] at h
    split at h
    · rename_i hp
      injection h with h
      subst h
      exact ⟨by omega, hp, fun i h1 h2 => by omega⟩
    · rename_i hp
      obtain ⟨h1, h2, h3⟩ := downFrom_some h
      refine ⟨by omega, h2, fun i i1 i2 => ?_⟩
      by_cases e : i = k
      · subst e; simpa using hp
      · exact h3 i i1 (by omega)
def chsO (P : Nat → Bool) (k : Nat) : Option Nat := (upFrom P k (11 - k)).or (downFrom P k)
def optI : Option Nat → Int
  | some j => (j : Int)
  | none => -1
def chs (P : Nat → Bool) (k : Nat) : Int := optI (chsO P k)
def ordOf (want : Int) : Nat := (upFrom (fun j => decide (want ≤ ((2 ^ j : Nat) : Int))) 0 10).getD 10
theorem ordOf_le (want : Int) : ordOf want ≤ 10 := by
  unfold ordOf
  cases h : upFrom (fun j => decide (want ≤ ((2 ^ j : Nat) : Int))) 0 10 with
  | none => simp
  | some r => have := upFrom_some h; simp; omega
end Go.Proofs.YtgjcbfdhpbkhoaaGreatDoor.TBits
/- Buddies counted from multiple to multiple, in plain mathematics. -/
namespace Go.Proofs.YtgjcbfdhpbkhoaaGreatDoor.TNext
open WPlain TPlain TBits
variable {F : Nat → Bool}
theorem fst_bud {k : Nat} : ∀ {p : Nat}, 0 < cnt F k p → bud F (fst F k p) k = true ∧ fst F k p < p
  | 0, h => by simp [cnt] at h
  | p + 1, h => by
    simp only [fst]
    by_cases h0 : cnt F k p = 0
    · rw [if_pos h0]
      simp only [cnt] at h
      by_cases hb : bud F p k = true
      · rw [if_pos hb]; exact ⟨hb, Nat.lt_succ_self p⟩
      · rw [if_neg hb] at h; exact absurd h (by omega)
    · rw [if_neg h0]
      have := fst_bud (k := k) (p := p) (Nat.pos_of_ne_zero h0)
      exact ⟨this.1, Nat.lt_succ_of_lt this.2⟩
end Go.Proofs.YtgjcbfdhpbkhoaaGreatDoor.TNext
/- How a disk is parted, in plain mathematics: nothing of the program. -/
namespace Go.Proofs.YtgjcbfdhpbkhoaaGreatDoor.GPlain
def inB (lo hi x : Int) : Bool := decide (lo ≤ x) && decide (x ≤ hi)
def allIn (lo hi : Int) (l : List Int) : Bool := l.all (inB lo hi)
theorem inB_true {lo hi x : Int} : inB lo hi x = true ↔ lo ≤ x ∧ x ≤ hi := by simp [inB]
theorem inB_false {lo hi x : Int} : inB lo hi x = false ↔ x < lo ∨ hi < x := by
  rw [← Bool.not_eq_true, inB_true]; omega
theorem allIn_take (lo hi : Int) (l : List Int) (k : Nat) (h : k < l.length) : allIn lo hi (l.take (k + 1)) = (allIn lo hi (l.take k) && inB lo hi l[k]) := by
  unfold allIn
  rw [List.take_succ_eq_append_getElem h, List.all_append]; simp
theorem allIn_no (lo hi : Int) (l : List Int) (k : Nat) (h : k < l.length) (hx : inB lo hi l[k] = false) : allIn lo hi l = false := by
  unfold allIn
  rw [List.all_eq_false]
  exact ⟨l[k], List.getElem_mem h, by simp [hx]⟩
def gN (b p : Int) : Int := (b + p - 1) / p
def baseI (p j k : Int) : Int := if k = 0 then 2 + j else k * p
def tableI (p j k : Int) : Int := baseI p j k + 2
def dataI (p n j k : Int) : Int := tableI p j k + n / 2
def endI (b p k : Int) : Int := min (k * p + p) b
def roomB (b p n j k : Int) : Bool := decide (dataI p n j k < endI b p k)
theorem endI_if (b p k : Int) : endI b p k = if b < k * p + p then b else k * p + p := by unfold endI; split <;> omega
theorem endI_bd (b p k : Int) (hb0 : 128 ≤ b) (hb1 : b ≤ 4096) (h0 : 0 ≤ k * p) (hp : 32 ≤ p) : 0 ≤ endI b p k ∧ endI b p k ≤ 4096 := by unfold endI; omega
theorem room_iff {b p n j k : Int} : roomB b p n j k = true ↔ dataI p n j k < endI b p k := by unfold roomB; exact decide_eq_true_iff
theorem base_0 (p j : Int) : baseI p j 0 = 2 + j := rfl
theorem base_up (p j k : Int) (h : k ≠ 0) : baseI p j k = k * p := if_neg h
theorem room_0 {b p n j : Int} : roomB b p n j 0 = true ↔ 2 + j + 2 + n / 2 < min p b := by
  rw [room_iff, dataI, tableI, base_0, endI, Int.zero_mul, Int.zero_add]
theorem room_up {b p n j k : Int} (h : k ≠ 0) : roomB b p n j k = true ↔ k * p + 2 + n / 2 < min (k * p + p) b := by
  rw [room_iff, dataI, tableI, base_up _ _ _ h, endI]
def numsB (b p n j : Int) : Bool := inB 128 4096 b && inB 32 2016 p && inB 8 512 n && (n % 2 == 0) && inB 96 512 j
def mayB (b p n j : Int) : Bool := numsB b p n j && decide (gN b p ≤ 14) && roomB b p n j 0 && roomB b p n j (gN b p - 1)
theorem nums_of {b p n j : Int} (h : numsB b p n j = true) : 128 ≤ b ∧ b ≤ 4096 ∧ 32 ≤ p ∧ p ≤ 2016 ∧ 8 ≤ n ∧ n ≤ 512 ∧ n % 2 = 0 ∧ 96 ≤ j ∧ j ≤ 512 := by
  simp only [numsB, Bool.and_eq_true, inB_true, beq_iff_eq] at h
  omega
theorem nums_mk {b p n j : Int} (h : 128 ≤ b ∧ b ≤ 4096 ∧ 32 ≤ p ∧ p ≤ 2016 ∧ 8 ≤ n ∧ n ≤ 512 ∧ n % 2 = 0 ∧ 96 ≤ j ∧ j ≤ 512) : numsB b p n j = true := by
  simp only [numsB, Bool.and_eq_true, inB_true, beq_iff_eq]
  omega
theorem gN_of {b p : Int} (hb : 1 ≤ b) (hp : 1 ≤ p) : 1 ≤ gN b p ∧ (gN b p - 1) * p < b ∧ b ≤ gN b p * p ∧ gN b p ≤ b := by
  have h1 := Int.mul_ediv_add_emod (b + p - 1) p
  have h2 := Int.emod_nonneg (b + p - 1) (show p ≠ 0 by omega)
  have h3 := Int.emod_lt_of_pos (b + p - 1) (show 0 < p by omega)
  have h4 : 1 ≤ gN b p := by
    unfold gN
    exact (Int.le_ediv_iff_mul_le (by omega)).2 (by omega)
  unfold gN at h4 ⊢
  generalize (b + p - 1) / p = q at *
  have h5 : (q - 1) * p = p * q - p := by rw [Int.sub_mul, Int.mul_comm]; omega
  have h6 : q * p = p * q := Int.mul_comm _ _
  refine ⟨h4, by omega, by omega, ?_⟩
  have h7 : (q - 1) * 1 ≤ (q - 1) * p := Int.mul_le_mul_of_nonneg_left hp (by omega)
  omega
def groupsI (b p n j : Int) : Int := if mayB b p n j = true then gN b p else 0
def fixedI (b p n j : Int) : Int := if mayB b p n j = true then 2 + j + gN b p * (2 + n / 2) else 0
def hasB (b p n j k : Int) : Bool := inB 0 (groupsI b p n j - 1) k
def inoB (b p n j i : Int) : Bool := inB 1 (groupsI b p n j * n) i
theorem groupsI_yes {b p n j : Int} (h : mayB b p n j = true) : groupsI b p n j = gN b p := if_pos h
theorem groupsI_no {b p n j : Int} (h : mayB b p n j = false) : groupsI b p n j = 0 := if_neg (by simp [h])
theorem fixedI_yes {b p n j : Int} (h : mayB b p n j = true) : fixedI b p n j = 2 + j + gN b p * (2 + n / 2) := if_pos h
theorem fixedI_no {b p n j : Int} (h : mayB b p n j = false) : fixedI b p n j = 0 := if_neg (by simp [h])
structure May (b p n j : Int) : Prop where
  b0 : 128 ≤ b
  b1 : b ≤ 4096
  p0 : 32 ≤ p
  p1 : p ≤ 2016
  n0 : 8 ≤ n
  n1 : n ≤ 512
  ev : n % 2 = 0
  j0 : 96 ≤ j
  j1 : j ≤ 512
  g0 : 1 ≤ gN b p
  g1 : gN b p ≤ 14
  lo : (gN b p - 1) * p < b
  hi : b ≤ gN b p * p
  first : 2 + j + 2 + n / 2 < min p b
  last : gN b p = 1 ∨ (gN b p - 1) * p + 2 + n / 2 < b
theorem may_iff {b p n j : Int} : mayB b p n j = true ↔ May b p n j := by
  constructor
  · intro h
    simp only [mayB, Bool.and_eq_true, decide_eq_true_eq] at h
    obtain ⟨⟨⟨h1, h2⟩, h3⟩, h4⟩ := h
    obtain ⟨a1, a2, a3, a4, a5, a6, a7, a8, a9⟩ := nums_of h1
    obtain ⟨c1, c2, c3, _⟩ := gN_of (b := b) (p := p) (by omega) (by omega)
    have r0 : 2 + j + 2 + n / 2 < min p b := room_0.1 h3
    refine ⟨a1, a2, a3, a4, a5, a6, a7, a8, a9, c1, h2, c2, c3, r0, ?_⟩
    by_cases hg : gN b p = 1
    · exact .inl hg
    · right
      have h5 := (room_up (by omega)).1 h4
      omega
  · intro h
    obtain ⟨a1, a2, a3, a4, a5, a6, a7, a8, a9, c1, h2, c2, c3, r0, r1⟩ := h
    simp only [mayB, Bool.and_eq_true, decide_eq_true_eq]
    have h30 : roomB b p n j 0 = true := room_0.2 r0
    refine ⟨⟨⟨nums_mk ⟨a1, a2, a3, a4, a5, a6, a7, a8, a9⟩, h2⟩, h30⟩, ?_⟩
    by_cases hg : gN b p = 1
    · rw [hg]; exact h30
    · have h5 : (gN b p - 1) * p + p = gN b p * p := by rw [Int.sub_mul]; omega
      exact (room_up (by omega)).2 (by omega)
theorem groupsI_bd (b p n j : Int) : 0 ≤ groupsI b p n j ∧ groupsI b p n j ≤ 14 := by
  by_cases h : mayB b p n j = true
  · rw [groupsI_yes h]
    have := may_iff.1 h
    have := this.g0
    have := (may_iff.1 h).g1
    omega
  · rw [groupsI_no (by simpa using h)]; omega
theorem has_may {b p n j k : Int} (h : hasB b p n j k = true) : mayB b p n j = true ∧ 0 ≤ k ∧ k < gN b p ∧ k ≤ 13 := by
  unfold hasB at h
  rw [inB_true] at h
  by_cases hm : mayB b p n j = true
  · rw [groupsI_yes hm] at h
    have := (may_iff.1 hm).g1
    exact ⟨hm, by omega, by omega, by omega⟩
  · rw [groupsI_no (by simpa using hm)] at h; omega
theorem ino_may {b p n j i : Int} (h : inoB b p n j i = true) : mayB b p n j = true ∧ 1 ≤ i ∧ i ≤ gN b p * n := by
  unfold inoB at h
  rw [inB_true] at h
  by_cases hm : mayB b p n j = true
  · rw [groupsI_yes hm] at h
    exact ⟨hm, h.1, h.2⟩
  · rw [groupsI_no (by simpa using hm)] at h; omega
theorem mul_bd {k p : Int} (h0 : 0 ≤ k) (h1 : k ≤ 200) (h2 : 0 ≤ p) (h3 : p ≤ 2016) : 0 ≤ k * p ∧ k * p ≤ 403200 := by
  refine ⟨Int.mul_nonneg h0 h2, ?_⟩
  have h4 : k * p ≤ 200 * p := Int.mul_le_mul_of_nonneg_right h1 h2
  omega
theorem gN_bd {b p : Int} (h0 : 128 ≤ b) (h1 : b ≤ 4096) (h2 : 32 ≤ p) (h3 : p ≤ 2016) : 1 ≤ gN b p ∧ gN b p ≤ 191 := by
  refine ⟨(gN_of (by omega) (by omega)).1, ?_⟩
  have h4 := (gN_of (b := b) (p := p) (by omega) (by omega)).2.1
  have h5 : (gN b p - 1) * 32 ≤ (gN b p - 1) * p := Int.mul_le_mul_of_nonneg_left h2 (by have := (gN_of (b := b) (p := p) (by omega) (by omega)).1; omega)
  omega
theorem base_bd (p j k : Int) (hp0 : 32 ≤ p) (hp1 : p ≤ 2016) (hj0 : 96 ≤ j) (hj1 : j ≤ 512) (hk0 : 0 ≤ k) (hk1 : k ≤ 200) : 0 ≤ baseI p j k ∧ baseI p j k ≤ 403200 := by
  have := mul_bd hk0 hk1 (show 0 ≤ p by omega) hp1
  unfold baseI
  split <;> omega
theorem table_bd (p j k : Int) (hp0 : 32 ≤ p) (hp1 : p ≤ 2016) (hj0 : 96 ≤ j) (hj1 : j ≤ 512) (hk0 : 0 ≤ k) (hk1 : k ≤ 200) : 0 ≤ tableI p j k ∧ tableI p j k ≤ 403202 := by
  have := base_bd p j k hp0 hp1 hj0 hj1 hk0 hk1
  unfold tableI
  omega
theorem data_bd (p n j k : Int) (hp0 : 32 ≤ p) (hp1 : p ≤ 2016) (hj0 : 96 ≤ j) (hj1 : j ≤ 512) (hk0 : 0 ≤ k) (hk1 : k ≤ 200) (hn0 : 8 ≤ n) (hn1 : n ≤ 512) : 0 ≤ dataI p n j k ∧ dataI p n j k ≤ 403458 := by
  have := table_bd p j k hp0 hp1 hj0 hj1 hk0 hk1
  unfold dataI
  omega
theorem prod_bd {g n : Int} (hg0 : 0 ≤ g) (hg1 : g ≤ 14) (hn0 : 8 ≤ n) (hn1 : n ≤ 512) : 0 ≤ g * n ∧ g * n ≤ 7168 := by
  refine ⟨Int.mul_nonneg hg0 (by omega), ?_⟩
  have h4 : g * n ≤ g * 512 := Int.mul_le_mul_of_nonneg_left hn1 hg0
  omega
theorem prod2_bd {g n : Int} (hg0 : 0 ≤ g) (hg1 : g ≤ 14) (hn0 : 8 ≤ n) (hn1 : n ≤ 512) : 0 ≤ g * (2 + n / 2) ∧ g * (2 + n / 2) ≤ 7168 := by
  refine ⟨Int.mul_nonneg hg0 (by omega), ?_⟩
  have h4 : g * (2 + n / 2) ≤ g * 512 := Int.mul_le_mul_of_nonneg_left (by omega) hg0
  omega
theorem inos_bd (b p n j : Int) : 0 ≤ groupsI b p n j * n ∧ groupsI b p n j * n ≤ 7168 := by
  by_cases h : mayB b p n j = true
  · have hm := may_iff.1 h
    rw [groupsI_yes h]
    exact prod_bd (by have := hm.g0; omega) hm.g1 hm.n0 hm.n1
  · rw [groupsI_no (by simpa using h), Int.zero_mul]; omega
def inoGroup (n i : Int) : Int := (i - 1) / n
def inoPlace (n i : Int) : Int := (i - 1) % n
def inoBlock (p n j i : Int) : Int := tableI p j (inoGroup n i) + inoPlace n i / 2
def inoByte (n i : Int) : Int := inoPlace n i % 2 * 128
theorem inoGroup_bd {g n i : Int} (hn0 : 8 ≤ n) (hi0 : 1 ≤ i) (hi1 : i ≤ g * n) : 0 ≤ inoGroup n i ∧ inoGroup n i < g := by
  unfold inoGroup
  refine ⟨Int.ediv_nonneg (by omega) (by omega), ?_⟩
  exact (Int.ediv_lt_iff_lt_mul (by omega)).2 (by omega)
theorem inoPlace_bd {n : Int} (i : Int) (hn0 : 8 ≤ n) : 0 ≤ inoPlace n i ∧ inoPlace n i < n :=
  ⟨Int.emod_nonneg _ (by omega), Int.emod_lt_of_pos _ (by omega)⟩
def chk (b p n j : Int) : Int := if mayB b p n j = true then 0 else 22
def er (b p n j k : Int) : Int := if hasB b p n j k = true then 0 else 22
def sp0 (b p n j k : Int) : Int := if hasB b p n j k = true then k * p else 0
def sp1 (b p n j k : Int) : Int := if hasB b p n j k = true then endI b p k else 0
def pl0 (b p n j k : Int) : Int := if hasB b p n j k = true then baseI p j k else 0
def pl1 (b p n j k : Int) : Int := if hasB b p n j k = true then baseI p j k + 1 else 0
def pl2 (b p n j k : Int) : Int := if hasB b p n j k = true then tableI p j k else 0
def pl3 (b p n j k : Int) : Int := if hasB b p n j k = true then dataI p n j k else 0
def ie (b p n j i : Int) : Int := if inoB b p n j i = true then 0 else 22
def in0 (b p n j i : Int) : Int := if inoB b p n j i = true then inoBlock p n j i else 0
def in1 (b p n j i : Int) : Int := if inoB b p n j i = true then inoByte n i else 0
end Go.Proofs.YtgjcbfdhpbkhoaaGreatDoor.GPlain
/- Groups lie end to end, inodes stand one behind the other: plain mathematics. -/
namespace Go.Proofs.YtgjcbfdhpbkhoaaGreatDoor.GPlain3
open GPlain
def atI (b p k : Int) : Int := if k = 0 then 0 else endI b p (k - 1)
def dataK (b p n k j : Int) : Int := if k = 0 then 0 else atI b p k - (2 + j) - k * (2 + n / 2)
theorem at_next (b p k : Int) (hk : 0 ≤ k) : atI b p (k + 1) = endI b p k := by
  unfold atI
  rw [if_neg (by omega), Int.add_sub_cancel]
section
variable {b p n j k : Int} (h : May b p n j)
include h
theorem below_last (hk : k < gN b p) : k * p ≤ (gN b p - 1) * p := Int.mul_le_mul_of_nonneg_right (by omega) (by have := h.p0; omega)
theorem at_eq (_hk0 : 0 ≤ k) (hk : k < gN b p) : atI b p k = k * p := by
  have h1 := below_last h hk
  have h2 := h.lo
  unfold atI
  by_cases hz : k = 0
  · rw [if_pos hz, hz]; simp
  · rw [if_neg hz]
    have h3 : (k - 1) * p = k * p - p := by rw [Int.sub_mul, Int.one_mul]
    unfold endI
    omega
theorem at_end : atI b p (gN b p) = b := by
  have h1 := h.hi
  have h2 := h.g0
  unfold atI
  rw [if_neg (by omega)]
  have h3 : (gN b p - 1) * p = gN b p * p - p := by rw [Int.sub_mul, Int.one_mul]
  unfold endI
  omega
theorem group_in (hk0 : 0 ≤ k) (hk : k < gN b p) : k * p < endI b p k ∧ k * p ≤ baseI p j k ∧ tableI p j k < dataI p n j k ∧ dataI p n j k < endI b p k ∧ endI b p k ≤ 4096 ∧ 0 ≤ k * p ∧ endI b p k ≤ (k + 1) * p := by
  have h1 := below_last h hk
  have h2 := h.lo
  have h3 := h.first
  have h4 := h.last
  have h5 : (k + 1) * p = k * p + p := by rw [Int.add_mul, Int.one_mul]
  have h6 := h.b1
  have h7 := h.n0
  have h8 := h.j0
  have h9 : 0 ≤ k * p := Int.mul_nonneg hk0 (by have := h.p0; omega)
  have h10 := h.p0
  by_cases hz : k = 0
  · subst hz
    unfold dataI tableI
    rw [base_0]
    unfold endI
    rw [Int.zero_mul] at *
    omega
  · unfold dataI tableI
    rw [base_up _ _ _ hz]
    have h11 : k * p + 2 + n / 2 < b := by
      rcases h4 with h4 | h4
      · omega
      · omega
    unfold endI
    omega
theorem dataK_next (hk0 : 0 ≤ k) (hk : k < gN b p) : dataK b p n (k + 1) j = dataK b p n k j + endI b p k - dataI p n j k := by
  have h1 : (k + 1) * (2 + n / 2) = k * (2 + n / 2) + (2 + n / 2) := by rw [Int.add_mul, Int.one_mul]
  unfold dataK
  rw [if_neg (by omega), at_next _ _ _ hk0]
  by_cases hz : k = 0
  · subst hz
    unfold dataI tableI
    rw [base_0, if_pos rfl]
    rw [Int.zero_mul] at h1
    omega
  · rw [if_neg hz, at_eq h hk0 hk]
    unfold dataI tableI
    rw [base_up _ _ _ hz]
    omega
theorem dataK_end : dataK b p n (gN b p) j = b - (2 + j + gN b p * (2 + n / 2)) := by
  have h2 := h.g0
  unfold dataK
  rw [if_neg (by omega), at_end h]
  omega
end
section
variable {b p n j i : Int} (h : May b p n j)
include h
end
end Go.Proofs.YtgjcbfdhpbkhoaaGreatDoor.GPlain3
/- What a disk is, in plain mathematics: blocks that stand for good, writes that are pending, a count; what each call does to it. Nothing of the program. -/
namespace Go.Proofs.YtgjcbfdhpbkhoaaGreatDoor.DPlain
def zeros : List UInt8 := List.replicate 256 0
structure St where
  L : List (List UInt8)
  P : List (Nat × List UInt8)
  N : Nat
def St.new (n : Nat) : St := ⟨List.replicate n zeros, [], 0⟩
def lastOf : List (Nat × List UInt8) → Nat → Option (List UInt8)
  | [], _ => none
  | x :: r, k => match lastOf r k with
    | some l => some l
    | none => if x.1 = k then some x.2 else none
theorem lastOf_snoc (P : List (Nat × List UInt8)) (x : Nat × List UInt8) (k : Nat) : lastOf (P ++ [x]) k = if x.1 = k then some x.2 else lastOf P k := by
  induction P with
  | nil => simp [lastOf]
  | cons y r ih =>
    simp only [List.cons_append, lastOf, ih]
    by_cases h : x.1 = k
    · simp [h]
    · simp [h]
theorem lastOf_mem {P : List (Nat × List UInt8)} {k : Nat} {l : List UInt8} (h : lastOf P k = some l) : (k, l) ∈ P := by
  induction P with
  | nil => cases h
  | cons y r ih =>
    simp only [lastOf] at h
    cases hr : lastOf r k with
    | some l' =>
      rw [hr] at h
      injection h with h
      subst h
      exact List.mem_cons_of_mem _ (ih hr)
    | none =>
      rw [hr] at h
      by_cases e : y.1 = k
      · simp only [e, if_true, Option.some.injEq] at h
        rw [← h, ← e]
        exact List.mem_cons_self ..
      · simp [e] at h
def St.readAt (s : St) (k : Nat) : List UInt8 := (lastOf s.P k).getD (s.L.getD k [])
def doneTo (keeps : Nat → Bool) (L : List (List UInt8)) (P : List (Nat × List UInt8)) : Nat → List (List UInt8)
  | 0 => L
  | k + 1 => match P[k]? with
    | some x => if keeps k then (doneTo keeps L P k).set x.1 x.2 else doneTo keeps L P k
    | none => doneTo keeps L P k
def St.settled (s : St) (keeps : Nat → Bool) : St := ⟨doneTo keeps s.L s.P s.P.length, [], s.N⟩
def St.flush (s : St) : St := ⟨doneTo (fun _ => true) s.L s.P s.P.length, [], s.N + 1⟩
def St.write (s : St) (k : Nat) (l : List UInt8) : St := ⟨s.L, s.P ++ [(k, l)], s.N + 1⟩
section
variable (keeps : Nat → Bool) (L : List (List UInt8)) (P : List (Nat × List UInt8))
theorem doneTo_yes {k : Nat} (h : k < P.length) (hk : keeps k = true) : doneTo keeps L P (k + 1) = (doneTo keeps L P k).set P[k].1 P[k].2 := by
  simp [doneTo, List.getElem?_eq_getElem h, hk]
theorem doneTo_no {k : Nat} (hk : keeps k = false) : doneTo keeps L P (k + 1) = doneTo keeps L P k := by
  simp only [doneTo]
  split <;> simp [hk]
theorem doneTo_len (k : Nat) : (doneTo keeps L P k).length = L.length := by
  induction k with
  | zero => rfl
  | succ k ih =>
    simp only [doneTo]
    split
    · split <;> simp [ih]
    · exact ih
theorem doneTo_all (i : Nat) (hi : i < L.length) (k : Nat) (hk : k ≤ P.length) : (doneTo (fun _ => true) L P k).getD i [] = (lastOf (P.take k) i).getD (L.getD i []) := by
  induction k with
  | zero => simp [doneTo, lastOf]
  | succ k ih =>
    have hlt : k < P.length := by omega
    rw [doneTo_yes (fun _ => true) L P hlt rfl, List.take_succ_eq_append_getElem hlt, lastOf_snoc]
    by_cases e : P[k].1 = i
    · rw [if_pos e]
      simp [List.getD_eq_getElem?_getD, e, doneTo_len, hi]
    · rw [if_neg e, ← ih (by omega)]
      simp only [List.getD_eq_getElem?_getD]
      rw [List.getElem?_set_ne e]
end
structure St.Wf (s : St) : Prop where
  each : ∀ l ∈ s.L, l.length = 256
  pend : ∀ x ∈ s.P, x.1 < s.L.length ∧ x.2.length = 256
theorem wf_new (n : Nat) : (St.new n).Wf := ⟨(fun l hl => by rw [(List.mem_replicate.1 hl).2]; exact List.length_replicate), (fun x hx => by cases hx)⟩
theorem St.Wf.write {s : St} (h : s.Wf) {k : Nat} {l : List UInt8} (hk : k < s.L.length) (hl : l.length = 256) : (s.write k l).Wf :=
  ⟨h.each, fun x hx => by
    rcases List.mem_append.1 hx with h1 | h1
    · exact h.pend x h1
    · rw [List.mem_singleton.1 h1]; exact ⟨hk, hl⟩⟩
theorem doneTo_each (keeps : Nat → Bool) {L : List (List UInt8)} {P : List (Nat × List UInt8)} (hL : ∀ l ∈ L, l.length = 256) (hP : ∀ x ∈ P, x.2.length = 256) (k : Nat) : ∀ l ∈ doneTo keeps L P k, l.length = 256 := by
  induction k with
  | zero => exact hL
  | succ k ih =>
    intro l hl
    simp only [doneTo] at hl
    split at hl
    · rename_i x hx
      split at hl
      · rcases List.mem_or_eq_of_mem_set hl with h1 | h1
        · exact ih l h1
        · rw [h1]; exact hP x (List.mem_of_getElem? hx)
      · exact ih l hl
    · exact ih l hl
theorem St.Wf.settled {s : St} (h : s.Wf) (keeps : Nat → Bool) : (s.settled keeps).Wf :=
  ⟨doneTo_each keeps h.each (fun x hx => (h.pend x hx).2) _, (fun x hx => by cases hx)⟩
theorem St.Wf.flush {s : St} (h : s.Wf) : s.flush.Wf :=
  ⟨doneTo_each _ h.each (fun x hx => (h.pend x hx).2) _, (fun x hx => by cases hx)⟩
theorem St.Wf.read {s : St} (h : s.Wf) {k : Nat} (hk : k < s.L.length) : (s.readAt k).length = 256 := by
  unfold St.readAt
  cases hl : lastOf s.P k with
  | some l => exact (h.pend _ (lastOf_mem hl)).2
  | none =>
    simp only [Option.getD_none]
    rw [List.getD_eq_getElem?_getD, List.getElem?_eq_getElem hk]
    exact h.each _ (List.getElem_mem hk)
end Go.Proofs.YtgjcbfdhpbkhoaaGreatDoor.DPlain
/- What a store is, in plain mathematics: what is changed, waiting, held, cached; what undoes a change; what each call does. Nothing of the program. -/
namespace Go.Proofs.YtgjcbfdhpbkhoaaGreatDoor.EPlain
open DPlain
abbrev Bk := List UInt8
structure Now where
  chg : Nat → Option Bk
  hld : Nat → Bool
theorem Now.ext' {a b : Now} (h1 : ∀ n, a.chg n = b.chg n) (h2 : ∀ n, a.hld n = b.hld n) : a = b := by
  cases a; cases b
  congr
  · exact funext h1
  · exact funext h2
inductive Deed where
  | unset (n : Nat)
  | set (n : Nat) (l : Bk)
  | nop
  | free (n : Nat)
def Deed.undo : Deed → Now → Now
  | .unset n, p => ⟨fun j => if j = n then none else p.chg j, p.hld⟩
  | .set n l, p => ⟨fun j => if j = n then some l else p.chg j, p.hld⟩
  | .nop, p => p
  | .free n, p => ⟨p.chg, fun j => if j = n then false else p.hld j⟩
def undoAll : List Deed → Now → Now
  | [], p => p
  | a :: r, p => a.undo (undoAll r p)
theorem undoAll_append (l r : List Deed) (p : Now) : undoAll (l ++ r) p = undoAll l (undoAll r p) := by
  induction l with
  | nil => rfl
  | cons a l ih => simp [undoAll, ih]
theorem undoAll_snoc (l : List Deed) (a : Deed) (p : Now) : undoAll (l ++ [a]) p = undoAll l (a.undo p) := by
  rw [undoAll_append]; rfl
def Deed.Fine (N : Nat) : Deed → Prop
  | .unset n => n < N
  | .set n l => n < N ∧ l.length = 256
  | .nop => True
  | .free n => n < N
def Ok (acts : List Deed) (p : Now) : Prop := ∀ (k : Nat) (h : k < acts.length) (n : Nat) (l : Bk), acts[k] = .set n l → (undoAll (acts.drop (k + 1)) p).chg n ≠ none
theorem Ok.nil (p : Now) : Ok [] p := fun k h => by cases h
theorem Ok.snoc {acts : List Deed} {p : Now} {a : Deed} (h : Ok acts (a.undo p)) (ha : ∀ n l, a = .set n l → p.chg n ≠ none) : Ok (acts ++ [a]) p := by
  intro k hk n l e
  by_cases hlt : k < acts.length
  · rw [List.getElem_append_left hlt] at e
    rw [List.drop_append_of_le_length (by omega), undoAll_snoc]
    exact h k hlt n l e
  · have hk' : k = acts.length := by simp at hk; omega
    subst hk'
    rw [List.getElem_append_right (Nat.le_refl _)] at e
    simp only [Nat.sub_self, List.getElem_cons_zero] at e
    rw [List.drop_eq_nil_of_le (by simp)]
    exact ha n l e
theorem Ok.drop {acts : List Deed} {p : Now} (h : Ok acts p) (k : Nat) : ∀ n, (undoAll (acts.drop k) p).chg n ≠ none → p.chg n ≠ none := by
  intro n
  by_cases hk : acts.length ≤ k
  · rw [List.drop_eq_nil_of_le hk]; exact id
  · obtain ⟨d, hd⟩ : ∃ d, acts.length = k + d := ⟨acts.length - k, by omega⟩
    induction d generalizing k with
    | zero => rw [List.drop_eq_nil_of_le (by omega)]; exact id
    | succ d ih =>
      have hlt : k < acts.length := by omega
      rw [List.drop_eq_getElem_cons hlt]
      intro hc
      have hnext : (undoAll (acts.drop (k + 1)) p).chg n ≠ none → p.chg n ≠ none := by
        by_cases hk1 : acts.length ≤ k + 1
        · rw [List.drop_eq_nil_of_le hk1]; exact id
        · exact ih (k + 1) hk1 (by omega)
      apply hnext
      intro h0
      apply hc
      simp only [undoAll]
      cases ha : acts[k] with
      | unset m =>
        simp only [Deed.undo]
        split
        · rfl
        · exact h0
      | set m l =>
        have := h k hlt m l ha
        simp only [Deed.undo]
        split
        · rename_i e; subst e; exact absurd h0 this
        · exact h0
      | nop => exact h0
      | free m => exact h0
theorem Ok.take {acts : List Deed} {p : Now} (h : Ok acts p) (m : Nat) : Ok (acts.take m) (undoAll (acts.drop m) p) := by
  intro k hk n l e
  have hk1 : k < acts.length := by simp at hk; omega
  have hkm : k < m := by simp at hk; omega
  rw [List.getElem_take] at e
  have h1 := h k hk1 n l e
  have e2 : acts.drop (k + 1) = (acts.take m).drop (k + 1) ++ acts.drop m := by
    rw [List.drop_take]
    have h3 := (List.take_append_drop (m - (k + 1)) (acts.drop (k + 1))).symm
    rw [List.drop_drop, show k + 1 + (m - (k + 1)) = m by omega] at h3
    exact h3
  rw [e2, undoAll_append] at h1
  exact h1
def Now.bare (p : Now) : Now := ⟨p.chg, fun _ => false⟩
theorem undo_bare (a : Deed) (p : Now) : a.undo p.bare = (a.undo p).bare := by
  cases a <;> simp [Deed.undo, Now.bare]
theorem undoAll_bare (l : List Deed) (p : Now) : undoAll l p.bare = (undoAll l p).bare := by
  induction l with
  | nil => rfl
  | cons a l ih => simp only [undoAll, ih, undo_bare]
theorem Ok.bare {acts : List Deed} {p : Now} (h : Ok acts p) : Ok acts p.bare := fun k hk n l e => by
  rw [undoAll_bare]; exact h k hk n l e
def dropC (n : Nat) (l : List Nat) : List Nat := l.filter (fun x => !decide (x = n))
def putC (room n : Nat) (l : List Nat) : List Nat := if room < (dropC n l ++ [n]).length then (dropC n l ++ [n]).tail else dropC n l ++ [n]
theorem mem_dropC {n x : Nat} {l : List Nat} : x ∈ dropC n l ↔ x ∈ l ∧ x ≠ n := by simp [dropC]
theorem dropC_not {n : Nat} {l : List Nat} (h : n ∉ l) : dropC n l = l := by
  unfold dropC
  rw [List.filter_eq_self]
  intro x hx
  simp
  rintro rfl
  exact h hx
theorem dropC_nodup {n : Nat} {l : List Nat} (h : l.Nodup) : (dropC n l).Nodup := h.sublist List.filter_sublist
theorem dropC_len (n : Nat) (l : List Nat) : (dropC n l).length ≤ l.length := List.length_filter_le _ _
theorem put_nodup {n : Nat} {l : List Nat} (h : l.Nodup) : (dropC n l ++ [n]).Nodup :=
  List.nodup_append.2 ⟨dropC_nodup h, by simp, fun a ha b hb => by simp at hb; subst hb; exact (mem_dropC.1 ha).2⟩
theorem tail_sub {α : Type} (l : List α) : l.tail.Sublist l := List.tail_sublist l
theorem putC_nodup {room n : Nat} {l : List Nat} (h : l.Nodup) : (putC room n l).Nodup := by
  unfold putC
  split
  · exact (put_nodup h).sublist (tail_sub _)
  · exact put_nodup h
theorem mem_putC {room n x : Nat} {l : List Nat} (h : x ∈ putC room n l) : x = n ∨ x ∈ l := by
  have : x ∈ dropC n l ++ [n] := by
    unfold putC at h
    split at h
    · exact (tail_sub _).subset h
    · exact h
  rcases List.mem_append.1 this with h1 | h1
  · exact .inr (mem_dropC.1 h1).1
  · exact .inl (by simpa using h1)
theorem putC_len {room n : Nat} {l : List Nat} (h : l.length ≤ room) : (putC room n l).length ≤ room := by
  have := dropC_len n l
  unfold putC
  split
  · simp; omega
  · omega
theorem dropC_head {a : Nat} {l : List Nat} (h : (a :: l).Nodup) : dropC a (a :: l) = l := by
  have h1 := (List.nodup_cons.1 h).1
  unfold dropC
  rw [List.filter_cons]
  simp only [decide_true, Bool.not_true, Bool.false_eq_true, if_false]
  exact dropC_not h1
theorem dropC_split {n : Nat} {a b : List Nat} (h : (a ++ n :: b).Nodup) : dropC n (a ++ n :: b) = a ++ b := by
  obtain ⟨h1, h2, h3⟩ := List.nodup_append.1 h
  have ha : n ∉ a := fun hn => h3 n hn n (by simp) rfl
  have := dropC_head h2
  unfold dropC at *
  rw [List.filter_append, this]
  rw [show List.filter (fun x => !decide (x = n)) a = a from dropC_not ha]
structure Sto where
  d : St
  now : Now
  wai : Nat → Option Bk
  acts : List Deed
  room : Nat
  cch : List (List Nat)
  found : Nat
  asked : Nat
  mem : Nat → Bk
namespace Sto
def N (s : Sto) : Nat := s.d.L.length
def sh (s : Sto) (n : Nat) : List Nat := s.cch.getD (n % s.cch.length) []
def use (s : Sto) (n : Nat) : Sto := { s with cch := s.cch.set (n % s.cch.length) (putC s.room n (s.sh n)) }
def lose (s : Sto) (n : Nat) : Sto := { s with cch := s.cch.set (n % s.cch.length) (dropC n (s.sh n)) }
def val (s : Sto) (n : Nat) : Bk := match s.now.chg n with
  | some l => l
  | none => match s.wai n with
    | some l => l
    | none => s.d.readAt n
def inMem (s : Sto) (n : Nat) : Bool := (s.now.chg n).isSome || (s.wai n).isSome
def read (s : Sto) (n : Nat) : Sto :=
  if s.inMem n then { s with found := s.found + 1 }
  else if n ∈ s.sh n then { s.use n with found := s.found + 1 }
  else { s.use n with asked := s.asked + 1, mem := fun j => if j = n then s.d.readAt n else s.mem j }
def actW (p : Now) (n : Nat) : Deed := match p.chg n with
  | none => .unset n
  | some was => .set n was
def actH (p : Now) (n : Nat) : Deed := if p.hld n then .nop else .free n
def write (s : Sto) (n : Nat) (l : Bk) : Sto :=
  { s.lose n with now := ⟨fun j => if j = n then some l else s.now.chg j, s.now.hld⟩, acts := s.acts ++ [actW s.now n] }
def hold (s : Sto) (n : Nat) : Sto :=
  { s with now := ⟨s.now.chg, fun j => if j = n then true else s.now.hld j⟩, acts := s.acts ++ [actH s.now n] }
structure Wf (s : Sto) : Prop where
  chg : ∀ n l, s.now.chg n = some l → n < s.N ∧ l.length = 256
  wai : ∀ n l, s.wai n = some l → n < s.N ∧ l.length = 256
  hld : ∀ n, s.now.hld n = true → n < s.N
  fine : ∀ a ∈ s.acts, a.Fine s.N
  ok : Ok s.acts s.now
  sh1 : 1 ≤ s.cch.length
  sh2 : s.cch.length ≤ 16
  room1 : 1 ≤ s.room
  room2 : s.room ≤ 256
  each : ∀ (i : Nat) (h : i < s.cch.length), s.cch[i].Nodup ∧ s.cch[i].length ≤ s.room ∧ ∀ n ∈ s.cch[i], n < s.N ∧ n % s.cch.length = i ∧ s.now.chg n = none ∧ s.wai n = none
  pos : 128 ≤ s.N
  most : s.N ≤ 4096
theorem sh_eq (s : Sto) (h : s.Wf) (n : Nat) : ∃ hi : n % s.cch.length < s.cch.length, s.sh n = s.cch[n % s.cch.length] := by
  have := h.sh1
  have hi : n % s.cch.length < s.cch.length := Nat.mod_lt _ (by omega)
  exact ⟨hi, by unfold sh; rw [List.getD_eq_getElem?_getD, List.getElem?_eq_getElem hi]; rfl⟩
theorem Wf.cset {s : Sto} (h : s.Wf) (n : Nat) (hn : n < s.N) (l : List Nat) (hl : l.Nodup) (hr : l.length ≤ s.room) (hm : ∀ x ∈ l, (x = n ∧ s.now.chg n = none ∧ s.wai n = none) ∨ x ∈ s.sh n) : Wf { s with cch := s.cch.set (n % s.cch.length) l } := by
  obtain ⟨hi, hs⟩ := sh_eq s h n
  refine ⟨h.chg, h.wai, h.hld, h.fine, h.ok, by simpa using h.sh1, by simpa using h.sh2, h.room1, h.room2, ?_, h.pos, h.most⟩
  intro i hlt
  have hlt' : i < s.cch.length := by simpa using hlt
  simp only [List.length_set]
  by_cases e : n % s.cch.length = i
  · subst e
    simp only [List.getElem_set_self]
    refine ⟨hl, hr, fun x hx => ?_⟩
    rcases hm x hx with ⟨rfl, h1, h2⟩ | h1
    · exact ⟨hn, rfl, h1, h2⟩
    · rw [hs] at h1
      exact (h.each _ hi).2.2 x h1
  · rw [List.getElem_set_ne e]
    exact h.each i hlt'
theorem Wf.use {s : Sto} (h : s.Wf) {n : Nat} (hn : n < s.N) (h1 : s.now.chg n = none) (h2 : s.wai n = none) : (s.use n).Wf := by
  obtain ⟨hi, hs⟩ := sh_eq s h n
  have he := h.each _ hi
  rw [← hs] at he
  exact h.cset n hn _ (putC_nodup he.1) (putC_len he.2.1) fun x hx => by
    rcases mem_putC hx with rfl | h3
    · exact .inl ⟨rfl, h1, h2⟩
    · exact .inr h3
theorem Wf.lose {s : Sto} (h : s.Wf) {n : Nat} (hn : n < s.N) : (s.lose n).Wf := by
  obtain ⟨hi, hs⟩ := sh_eq s h n
  have he := h.each _ hi
  rw [← hs] at he
  exact h.cset n hn _ (dropC_nodup he.1) (Nat.le_trans (dropC_len _ _) he.2.1) fun x hx => .inr (mem_dropC.1 hx).1
theorem Wf.counts {s : Sto} (h : s.Wf) (f a : Nat) {m : Nat → Bk} : Wf { s with found := f, asked := a, mem := m } :=
  ⟨h.chg, h.wai, h.hld, h.fine, h.ok, h.sh1, h.sh2, h.room1, h.room2, h.each, h.pos, h.most⟩
theorem inMem_no {s : Sto} {n : Nat} (h : s.inMem n = false) : s.now.chg n = none ∧ s.wai n = none := by
  unfold inMem at h
  simp at h
  exact h
theorem Wf.read {s : Sto} (h : s.Wf) {n : Nat} (hn : n < s.N) : (s.read n).Wf := by
  unfold Sto.read
  split
  · exact h.counts _ _
  · rename_i hm
    obtain ⟨h1, h2⟩ := inMem_no (by simpa using hm)
    split
    · exact (h.use hn h1 h2).counts _ _
    · exact (h.use hn h1 h2).counts _ _
theorem actW_undo (p : Now) (n : Nat) (l : Bk) : (actW p n).undo ⟨fun j => if j = n then some l else p.chg j, p.hld⟩ = p := by
  unfold actW
  cases h : p.chg n with
  | none => exact Now.ext' (fun j => by simp only [Deed.undo]; split <;> simp_all) (fun j => rfl)
  | some was => exact Now.ext' (fun j => by simp only [Deed.undo]; split <;> simp_all) (fun j => rfl)
theorem actH_undo (p : Now) (n : Nat) : (actH p n).undo ⟨p.chg, fun j => if j = n then true else p.hld j⟩ = p := by
  unfold actH
  cases h : p.hld n with
  | true => exact Now.ext' (fun j => rfl) (fun j => by simp only [Deed.undo, if_true]; split <;> simp_all)
  | false => exact Now.ext' (fun j => rfl) (fun j => by simp only [Deed.undo, Bool.false_eq_true, if_false]; split <;> simp_all)
theorem Wf.write {s : Sto} (h : s.Wf) {n : Nat} {l : Bk} (hn : n < s.N) (hl : l.length = 256) : (s.write n l).Wf := by
  have hw := h.lose hn
  refine ⟨fun m b hb => ?_, h.wai, h.hld, fun a ha => ?_, Ok.snoc ?_ ?_, hw.sh1, hw.sh2, h.room1, h.room2, fun i hi => ?_, h.pos, h.most⟩
  · simp only [Sto.write] at hb
    split at hb
    · rename_i e
      injection hb with hb
      subst e; subst hb
      exact ⟨hn, hl⟩
    · exact h.chg m b hb
  · rcases List.mem_append.1 ha with h1 | h1
    · exact h.fine a h1
    · rw [List.mem_singleton.1 h1]
      unfold actW
      cases hc : s.now.chg n with
      | none => exact hn
      | some was => exact ⟨hn, (h.chg n was hc).2⟩
  · have e := actW_undo s.now n l
    show Ok s.acts ((actW s.now n).undo ⟨fun j => if j = n then some l else s.now.chg j, s.now.hld⟩)
    rw [e]; exact h.ok
  · intro m b e
    unfold actW at e
    cases hc : s.now.chg n with
    | none => rw [hc] at e; cases e
    | some was =>
      rw [hc] at e
      injection e with e1 e2
      subst e1
      simp [Sto.write]
  · obtain ⟨h1, h2, h3⟩ := hw.each i hi
    refine ⟨h1, h2, fun m hm => ?_⟩
    obtain ⟨a1, a2, a3, a4⟩ := h3 m hm
    refine ⟨a1, a2, ?_, a4⟩
    simp only [Sto.write]
    rw [if_neg]
    · exact a3
    · rintro rfl
      obtain ⟨hi', hs⟩ := sh_eq s h m
      simp only [Sto.lose, List.length_set] at a2
      subst a2
      simp only [Sto.write, Sto.lose, List.getElem_set_self] at hm
      exact (mem_dropC.1 hm).2 rfl
theorem Wf.hold {s : Sto} (h : s.Wf) {n : Nat} (hn : n < s.N) : (s.hold n).Wf := by
  refine ⟨h.chg, h.wai, fun m hm => ?_, fun a ha => ?_, Ok.snoc ?_ ?_, h.sh1, h.sh2, h.room1, h.room2, h.each, h.pos, h.most⟩
  · simp only [Sto.hold] at hm
    split at hm
    · rename_i e; subst e; exact hn
    · exact h.hld m hm
  · rcases List.mem_append.1 ha with h1 | h1
    · exact h.fine a h1
    · rw [List.mem_singleton.1 h1]
      unfold actH
      split
      · trivial
      · exact hn
  · have e := actH_undo s.now n
    show Ok s.acts ((actH s.now n).undo ⟨s.now.chg, fun j => if j = n then true else s.now.hld j⟩)
    rw [e]; exact h.ok
  · intro m b e
    unfold actH at e
    split at e <;> cases e
def load (s : Sto) : Nat := s.acts.length + s.found + s.asked + s.d.N
theorem load_read (s : Sto) (n : Nat) : (s.read n).load ≤ s.load + 1 := by
  unfold Sto.read
  split
  · simp [load]; omega
  · split <;> simp [load, Sto.use] <;> omega
theorem load_write (s : Sto) (n : Nat) (l : Bk) : (s.write n l).load ≤ s.load + 1 := by simp [load, Sto.write, Sto.lose]; omega
end Sto
def fresh (d : St) (shards room : Nat) : Sto := ⟨d, ⟨fun _ => none, fun _ => false⟩, fun _ => none, [], room, List.replicate shards [], 0, 0, d.readAt⟩
theorem fresh_wf {d : St} {shards room : Nat} (h1 : 1 ≤ shards) (h2 : shards ≤ 16) (h3 : 1 ≤ room) (h4 : room ≤ 256) (h5 : 128 ≤ d.L.length) (h6 : d.L.length ≤ 4096) : (fresh d shards room).Wf :=
  ⟨fun n l h => (by cases h), fun n l h => (by cases h), fun n h => (by cases h), fun a h => (by cases h), Ok.nil _, by simpa [fresh] using h1, by simpa [fresh] using h2, h3, h4, fun i hi => by simp [fresh], h5, h6⟩
def numsOf (f : Nat → Option Bk) (N : Nat) : List Nat := (List.range N).filter fun n => (f n).isSome
end Go.Proofs.YtgjcbfdhpbkhoaaGreatDoor.EPlain
