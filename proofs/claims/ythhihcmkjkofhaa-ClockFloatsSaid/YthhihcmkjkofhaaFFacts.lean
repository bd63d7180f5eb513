/- What follows of the times and of the floats. -/
import Derived.Test.YthhihcmkjkofhaaFAwake
namespace Go.Proofs.Ythhihcmkjkofhaa.FFacts
open Go.RowKit FPlain FWord FNear FBits FMath FExp FLd FCut FNano FFrom FCmp FDiv FSec

theorem neg_is (x : Nat) (h : x < 18446744073709551616) : Op.negFloat .f64 x = Ieee.double.word (!sg x) (rg x) := by
  rw [word_eq]
  have hr : rg x < 9223372036854775808 := by unfold rg; exact Nat.mod_lt _ (by decide)
  cases hs : sg x
  · have hx : x = rg x := by unfold sg at hs; simp only [decide_eq_false_iff_not] at hs; unfold rg; omega
    rw [hx, neg_word _ hr, rg_pos hr]
    rfl
  · have hx : x = 9223372036854775808 + rg x := by unfold sg at hs; simp only [decide_eq_true_eq] at hs; unfold rg; omega
    have hn := neg_word (rg x) hr
    rw [← hx] at hn
    have hi : Op.negFloat .f64 (Op.negFloat .f64 (rg x)) = rg x := by
      show (rg x ^^^ _) ^^^ _ = rg x
      rw [Nat.xor_assoc, Nat.xor_self, Nat.xor_zero]
    rw [hn] at hi
    rw [hi]
    rfl
theorem neg_parts (x : Nat) (h : x < 18446744073709551616) : ∃ y, Op.negFloat .f64 x = y ∧ y < 18446744073709551616 ∧ fromE y = fromE x ∧ fromT x = -fromT y ∧ -9000000000000000000 ≤ fromT y ∧ fromT y ≤ 9000000000000000000 := by
  have hr : rg x < 9223372036854775808 := by unfold rg; exact Nat.mod_lt _ (by decide)
  refine ⟨_, neg_is x h, word_lt _ _ hr, ?_⟩
  have e1 := rg_word (!sg x) (rg x) hr
  have e2 := sg_word (!sg x) (rg x) hr
  obtain ⟨y, hy⟩ : ∃ y, y = Ieee.double.word (!sg x) (rg x) := ⟨_, rfl⟩
  rw [← hy] at e1 e2 ⊢
  have e3 : nanW y = nanW x := by unfold nanW; rw [e1]
  have e4 : sk y = -sk x := by unfold sk; rw [e1, e2]; cases sg x <;> simp
  have e5 : fromE y = fromE x := by unfold fromE; rw [e3, e1]
  refine ⟨e5, ?_⟩
  unfold fromT
  rw [e3, e1]
  cases hn : nanW x
  · rcases Nat.lt_or_ge (rg x) 4755801206503243776 with hl | hl
    · have hb := fromN_le hl
      have hz : rg x = 0 → fromN (rg x) = 0 := by intro h; rw [h, fromN_zero]
      have hk : sk x = 0 ↔ rg x = 0 := by unfold sk; cases sg x <;> simp <;> omega
      rw [if_neg (by decide), if_neg (by omega), if_neg (by decide), if_neg (by omega)]
      unfold timeOf
      rw [e1, e4]
      generalize fromN (rg x) = z at *
      by_cases h1 : sk x < 0
      · rw [if_pos h1, if_neg (by omega)]; omega
      · rw [if_neg h1]
        by_cases h2 : sk x = 0
        · have := hz (hk.1 h2)
          rw [if_neg (by omega)]; omega
        · rw [if_pos (by omega)]; omega
    · rw [if_neg (by decide), if_pos hl, if_neg (by decide), if_pos hl]; omega
  · rw [if_pos rfl, if_pos rfl]; omega

theorem limit_lt {r : Nat} (h : amt r < 8589934592 * 2 ^ un) : r < 4755801206503243776 := by
  rw [← limit_amt] at h
  exact amt_lt_iff.1 h
/-- what stands at the nearest rung -/
theorem sec_back {n : Nat} (h0 : 0 < n) (h : n < 4503599627370496) : fromN (secR n) = n ∧ secR n < 4755801206503243776 := by
  obtain ⟨U, hU⟩ : ∃ U, U = 2 ^ un := ⟨_, rfl⟩
  have hUp : 0 < U := by rw [hU]; exact Nat.two_pow_pos _
  obtain ⟨a, ha⟩ : ∃ a, a = n * 2 ^ un := ⟨_, rfl⟩
  have hq := un_big h0
  rw [← ha] at hq
  obtain ⟨l, hl⟩ : ∃ l, l = (a / 1000000000).log2 := ⟨_, rfl⟩
  have h52 : 52 ≤ l := by
    have := log2_mono hq
    rw [log2_is (n := 4503599627370496) (k := 52) (by decide) (by decide)] at this
    omega
  have l1 := log2_lo (n := a / 1000000000) (by omega)
  rw [← hl] at l1
  have l2 := FPlain.div_lo (by omega) l1
  obtain ⟨t, ht⟩ : ∃ t, l = t + 52 := ⟨l - 52, by omega⟩
  obtain ⟨W, hW⟩ : ∃ W, W = 2 ^ t := ⟨_, rfl⟩
  have hWp : 0 < W := by rw [hW]; exact Nat.two_pow_pos _
  have e1 : 2 ^ l = W * 4503599627370496 := by rw [ht, Nat.pow_add, hW]
  rw [e1] at l2
  have hp := nr_part (a := a) (b := 1000000000) (by omega)
  have hn := rnd_near (a := a) (b := 1000000000 * W) (Nat.mul_pos (by omega) hWp)
  have hs : secR n = t * 4503599627370496 + rnd a (1000000000 * W) := by
    unfold secR nr
    rw [← ha, ← hl, ht, show t + 52 - 52 = t by omega, ← hW]
  rw [← hl, ht, show t + 52 - 52 = t by omega, ← hW] at hp
  obtain ⟨m, hm⟩ : ∃ m, m = rnd a (1000000000 * W) := ⟨_, rfl⟩
  rw [← hm] at hp hn hs
  have hm1 : 4503599627370496 ≤ m := by
    rcases hp.1 with h | h
    · exact h
    · -- the least binade of all: the quotient itself is as great
      have ht0 : t = 0 := by omega
      rw [ht0, Nat.pow_zero] at hW
      rw [hm, hW, Nat.mul_one]
      exact Nat.le_trans hq (rnd_le _ _)
  have hA : amt (secR n) = m * W := by rw [hs, amt_part hm1 hp.2, hW]
  have hB : 1000000000 * W < U := by
    have h1 : W * 4503599627370496 * 1000000000 ≤ a := l2
    have h2 : a < 4503599627370496 * U := by rw [ha, hU]; exact Nat.mul_lt_mul_of_pos_right h (Nat.two_pow_pos _)
    clear hn hs hA hp hm ha e1
    omega
  have e2 : m * W * 1000000000 = m * (1000000000 * W) := by rw [Nat.mul_assoc, Nat.mul_comm W]
  have e3 : (2 * m + 1) * (1000000000 * W) = 2 * (m * (1000000000 * W)) + 1000000000 * W := by rw [Nat.add_mul, Nat.one_mul, Nat.mul_assoc]
  rw [e3] at hn
  have ha2 : a = n * U := by rw [ha, hU]
  constructor
  · unfold fromN
    rw [hA, e2, ← hU]
    refine rnd_of_near hUp ?_ ?_
    · rw [Nat.add_mul, Nat.one_mul, Nat.mul_assoc, ← ha2]
      generalize m * (1000000000 * W) = z at *
      generalize 1000000000 * W = y at *
      omega
    · rw [← ha2]
      generalize m * (1000000000 * W) = z at *
      generalize 1000000000 * W = y at *
      omega
  · apply limit_lt
    rw [hA, ← hU]
    have h3 : a ≤ 4503599627370496 * U := by rw [ha2]; exact Nat.mul_le_mul_right _ (Nat.le_of_lt h)
    have h4 : m * W * 1000000000 ≤ a + U := by
      rw [e2]
      generalize m * (1000000000 * W) = z at *
      generalize 1000000000 * W = y at *
      omega
    generalize m * W = z at *
    omega
theorem toW_parts (ns : Int) (h1 : -9223372036854775808 ≤ ns) (h2 : ns < 9223372036854775808) : toW ns < 18446744073709551616 ∧ rg (toW ns) = secR ns.natAbs ∧ sg (toW ns) = decide (ns < 0) ∧ nanW (toW ns) = false := by
  have hl := secR_lt (n := ns.natAbs) (by omega)
  unfold toW
  have e : (if ns < 0 then 9223372036854775808 + secR ns.natAbs else secR ns.natAbs) = Ieee.double.word (decide (ns < 0)) (secR ns.natAbs) := by
    rw [word_eq]; by_cases h : ns < 0 <;> simp [h]
  rw [e]
  have e1 := rg_word (decide (ns < 0)) (secR ns.natAbs) (by omega)
  refine ⟨word_lt _ _ (by omega), e1, sg_word _ _ (by omega), ?_⟩
  unfold nanW
  rw [e1]
  simp; omega
/-- there and back -/
theorem back (ns : Int) (h1 : -4503599627370496 < ns) (h2 : ns < 4503599627370496) : fromT (toW ns) = ns ∧ fromE (toW ns) = 0 := by
  obtain ⟨p1, p2, p3, p4⟩ := toW_parts ns (by omega) (by omega)
  have hb : fromN (secR ns.natAbs) = ns.natAbs ∧ secR ns.natAbs < 4755801206503243776 := by
    rcases Nat.eq_zero_or_pos ns.natAbs with h | h
    · rw [h, secR_zero, fromN_zero]; exact ⟨rfl, by decide⟩
    · exact sec_back h (by omega)
  have hz : ns ≠ 0 → 0 < secR ns.natAbs := by
    intro h
    rcases Nat.eq_zero_or_pos (secR ns.natAbs) with h3 | h3
    · have := hb.1
      rw [h3, fromN_zero] at this
      omega
    · exact h3
  unfold fromT fromE
  rw [p4, p2, if_neg (by decide), if_neg (by omega), if_neg (by decide), if_neg (by omega)]
  refine ⟨?_, rfl⟩
  unfold timeOf sk
  rw [p2, p3, hb.1]
  generalize secR ns.natAbs = z at *
  by_cases h : ns < 0
  · have := hz (by omega)
    simp only [h, decide_true, if_true]
    rw [if_pos (by omega)]; omega
  · simp only [h, decide_false, if_false, Bool.false_eq_true]
    rw [if_neg (by omega)]; omega
theorem fromN_mono {x y : Nat} (h : x ≤ y) : fromN x ≤ fromN y := by
  unfold fromN
  exact rnd_mono (Nat.two_pow_pos _) (Nat.mul_le_mul_right _ (amt_le_iff.2 h))
theorem time_mono {x y : Nat} (h : sk x ≤ sk y) : timeOf x ≤ timeOf y := by
  unfold timeOf
  have h1 : sk x < 0 → sk x = -(rg x : Int) := by unfold sk; cases sg x <;> simp <;> omega
  have h2 : ¬ sk x < 0 → sk x = (rg x : Int) := by unfold sk; cases sg x <;> simp <;> omega
  have h3 : sk y < 0 → sk y = -(rg y : Int) := by unfold sk; cases sg y <;> simp <;> omega
  have h4 : ¬ sk y < 0 → sk y = (rg y : Int) := by unfold sk; cases sg y <;> simp <;> omega
  by_cases c1 : sk x < 0
  · rw [if_pos c1]
    by_cases c2 : sk y < 0
    · rw [if_pos c2]
      have := fromN_mono (x := rg y) (y := rg x) (by have := h1 c1; have := h3 c2; omega)
      omega
    · rw [if_neg c2]; omega
  · rw [if_neg c1, if_neg (by omega)]
    have := fromN_mono (x := rg x) (y := rg y) (by have := h2 c1; have := h4 (by omega); omega)
    omega
theorem secR_mono {a b : Nat} (h : a ≤ b) : secR a ≤ secR b := by
  unfold secR
  exact nr_mono (by omega) (Nat.mul_le_mul_right _ h)
theorem toW_mono {a b : Int} (h1 : -9223372036854775808 ≤ a) (h2 : b < 9223372036854775808) (h : a ≤ b) : sk (toW a) ≤ sk (toW b) := by
  obtain ⟨_, p2, p3, _⟩ := toW_parts a h1 (by omega)
  obtain ⟨_, q2, q3, _⟩ := toW_parts b (by omega) h2
  unfold sk
  rw [p2, p3, q2, q3]
  by_cases c1 : a < 0
  · by_cases c2 : b < 0
    · have := secR_mono (a := b.natAbs) (b := a.natAbs) (by omega)
      simp only [c1, c2, decide_true, if_true]; omega
    · simp only [c1, c2, decide_true, decide_false, if_true, if_false, Bool.false_eq_true]; omega
  · have c2 : ¬ b < 0 := by omega
    have := secR_mono (a := a.natAbs) (b := b.natAbs) (by omega)
    simp only [c1, c2, decide_false, if_false, Bool.false_eq_true]; omega
theorem nr_scale (a b c : Nat) (hc : 0 < c) : nr (a * c) (b * c) = nr a b := by
  unfold nr
  rw [Nat.mul_div_mul_right _ _ hc, Nat.mul_right_comm, rnd_scale _ _ _ hc]
/-- whole seconds -/
theorem whole (n : Nat) (h0 : 0 < n) (h : n < 8589934592) : amt (nr (n * 2 ^ un) 1) = n * 2 ^ un ∧ secR (n * 1000000000) = nr (n * 2 ^ un) 1 ∧ nr (n * 2 ^ un) 1 < 4755801206503243776 ∧ fromN (nr (n * 2 ^ un) 1) = n * 1000000000 := by
  have l1 := log2_lo h0
  have l2 := log2_hi n
  have hl : n.log2 ≤ 33 := by
    rcases Nat.lt_or_ge n.log2 34 with h3 | h3
    · omega
    · have := Nat.pow_le_pow_right (show 0 < 2 by omega) h3
      have e : (2 : Nat) ^ 34 = 17179869184 := by decide +kernel
      omega
  obtain ⟨k, hk⟩ : ∃ k, n.log2 + k = 52 := ⟨52 - n.log2, by omega⟩
  obtain ⟨t, ht⟩ : ∃ t, k + t = un := ⟨un - k, by have := un_eq; omega⟩
  have q1 : 2 ^ n.log2 * 2 ^ k = 4503599627370496 := by rw [← Nat.pow_add, hk]
  have q2 : 2 ^ (n.log2 + 1) * 2 ^ k = 9007199254740992 := by rw [← Nat.pow_add, show n.log2 + 1 + k = 53 by omega]
  have m1 : 4503599627370496 ≤ n * 2 ^ k := by rw [← q1]; exact Nat.mul_le_mul_right _ l1
  have m2 : n * 2 ^ k ≤ 9007199254740992 := by rw [← q2]; exact Nat.mul_le_mul_right _ (by omega)
  have e1 : n * 2 ^ un = n * 2 ^ k * 2 ^ t := by rw [← ht, Nat.pow_add, Nat.mul_assoc]
  have e2 : amt (nr (n * 2 ^ un) 1) = n * 2 ^ un := by
    rw [e1, nr_exact m1 m2, amt_part m1 m2]
  refine ⟨e2, ?_, ?_, ?_⟩
  · unfold secR
    have := nr_scale (n * 2 ^ un) 1 1000000000 (by omega)
    rw [Nat.one_mul, Nat.mul_right_comm] at this
    exact this
  · apply limit_lt
    rw [e2]
    exact Nat.mul_lt_mul_of_pos_right h (Nat.two_pow_pos _)
  · unfold fromN
    rw [e2, Nat.mul_right_comm]
    exact rnd_exact _ _ (Nat.two_pow_pos _)
end Go.Proofs.Ythhihcmkjkofhaa.FFacts
