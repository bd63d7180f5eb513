/- clock.cut: bits taken off the end of a number of 128. -/
import Derived.Test.YthhihcmkjkofhaaFLd
import Derived.Deep.QuietTactic
import Derived.WalkSmall
namespace Go.Proofs.Ythhihcmkjkofhaa.FCut
open Go.RowKit FPlain FWord FNear FBits FMath FExp

/-- nothing but draws -/
def Drew (w w' : World) : Prop := ∀ B, Below B w w'
theorem Drew.refl (w : World) : Drew w w := fun _ => Below.refl _ _
theorem Drew.at_ (w : World) (n : Nat) : Drew w (w.drewN n) := fun _ => below_drewN (Below.refl _ _) n
theorem Drew.trans {a b c : World} (h : Drew a b) (k : Drew b c) : Drew a c := fun B => (h B).trans (k B)
theorem ret_ub {a b : Int} {p q : Bool} (h : a = b) (h2 : p = q) : Ending.returned (.tuple #[.int .u64 a, .bool p]) = .returned (.tuple #[.int .u64 b, .bool q]) := by rw [h, h2]
theorem pow_cut {s n : Nat} (h : s + n = 64) : 2 ^ s * 2 ^ n = 18446744073709551616 := by
  rw [← Nat.pow_add, h]
theorem few_num (hi lo n s V : Nat) (_h1 : hi < 18446744073709551616) (h2 : lo < 18446744073709551616) (hs : s + n = 64) (hV : hi * 18446744073709551616 + lo = V) (hb : V / 2 ^ n < 18446744073709551616) :
    bits .or .u64 (IntKind.u64.wrap ((hi : Int) * 2 ^ s)) ((lo : Int) / 2 ^ n) = ((V / 2 ^ n : Nat) : Int) ∧ (IntKind.u64.wrap ((lo : Int) * 2 ^ s) != 0) = decide (V % 2 ^ n ≠ 0) := by
  have hp := pow_cut hs
  have p1 := Nat.two_pow_pos s
  have p2 := Nat.two_pow_pos n
  have c1 : (hi : Int) * 2 ^ s = ((hi * 2 ^ s : Nat) : Int) := by rw [Int.natCast_mul, Int.natCast_pow]; rfl
  have c2 : (lo : Int) * 2 ^ s = ((lo * 2 ^ s : Nat) : Int) := by rw [Int.natCast_mul, Int.natCast_pow]; rfl
  have c3 : (lo : Int) / 2 ^ n = ((lo / 2 ^ n : Nat) : Int) := by rw [Int.natCast_ediv, Int.natCast_pow]; rfl
  rw [c1, c2, c3]
  have hV2 : V = 2 ^ n * (hi * 2 ^ s) + lo := by rw [Nat.mul_left_comm, Nat.mul_comm (2 ^ n), hp]; exact hV.symm
  have q1 : V / 2 ^ n = hi * 2 ^ s + lo / 2 ^ n := by rw [hV2, Nat.mul_add_div p2]
  have q2 : V % 2 ^ n = lo % 2 ^ n := by rw [hV2, Nat.mul_add_mod]
  have l1 : lo / 2 ^ n < 2 ^ s := by rw [Nat.div_lt_iff_lt_mul p2, hp]; exact h2
  rw [q1] at hb ⊢
  rw [q2]
  have e5 : lo * 2 ^ s % 18446744073709551616 = lo % 2 ^ n * 2 ^ s := by
    rw [← hp, Nat.mul_comm (2 ^ s) (2 ^ n), Nat.mul_mod_mul_right]
  generalize lo / 2 ^ n = y at *
  have w1 : IntKind.u64.wrap ((hi * 2 ^ s : Nat) : Int) = ((hi * 2 ^ s : Nat) : Int) := by
    generalize hi * 2 ^ s = z at *
    rw [IntKind.wrap_u64]; omega
  have w2 : IntKind.u64.wrap ((lo * 2 ^ s : Nat) : Int) = ((lo % 2 ^ n * 2 ^ s : Nat) : Int) := by
    rw [← e5, IntKind.wrap_u64, Int.natCast_emod]; rfl
  rw [w1, w2]
  constructor
  · rw [bits_or_u64_nat _ _ (by omega) (by omega), Nat.mul_comm hi, Nat.two_pow_add_eq_or_of_lt l1]
  · rw [Bool.eq_iff_iff]
    simp only [bne_iff_ne, ne_eq, decide_eq_true_eq]
    have : lo % 2 ^ n * 2 ^ s = 0 ↔ lo % 2 ^ n = 0 := by
      constructor
      · intro h
        rcases Nat.mul_eq_zero.1 h with h | h
        · exact h
        · omega
      · intro h; rw [h, Nat.zero_mul]
    rw [← this]
    generalize lo % 2 ^ n * 2 ^ s = z at *
    omega
theorem many_num (hi lo k V : Nat) (h1 : hi < 18446744073709551616) (h2 : lo < 18446744073709551616) (hV : hi * 18446744073709551616 + lo = V) :
    (hi : Int) / 2 ^ min k 64 = ((V / 2 ^ (k + 64) : Nat) : Int) ∧ (((lo : Int) != 0) = true → decide (V % 2 ^ (k + 64) ≠ 0) = true) ∧ (((lo : Int) != 0) = false → (IntKind.u64.wrap (((V / 2 ^ (k + 64) : Nat) : Int) * 2 ^ min k 64) != (hi : Int)) = decide (V % 2 ^ (k + 64) ≠ 0)) := by
  have p2 := Nat.two_pow_pos k
  have e1 : 2 ^ (k + 64) = 18446744073709551616 * 2 ^ k := by rw [Nat.pow_add, Nat.mul_comm]
  have e2 : V / 18446744073709551616 = hi := by omega
  have e3 : V / 2 ^ (k + 64) = hi / 2 ^ k := by rw [e1, ← Nat.div_div_eq_div_mul, e2]
  have e4 : V % 2 ^ (k + 64) = lo + 18446744073709551616 * (hi % 2 ^ k) := by
    rw [e1, Nat.mod_mul, e2]; omega
  have big : ∀ j, 64 ≤ j → hi / 2 ^ j = 0 := fun j hj => Nat.div_eq_of_lt (by
    have := Nat.pow_le_pow_right (show 0 < 2 by omega) hj
    omega)
  have e6 : hi / 2 ^ min k 64 = hi / 2 ^ k := by
    rcases Nat.le_total k 64 with h | h
    · rw [Nat.min_eq_left h]
    · rw [Nat.min_eq_right h, big 64 (by omega), big k h]
  have c3 : (hi : Int) / 2 ^ min k 64 = ((hi / 2 ^ min k 64 : Nat) : Int) := by rw [Int.natCast_ediv, Int.natCast_pow]; rfl
  rw [c3, e6, e3, e4]
  refine ⟨rfl, ?_, ?_⟩
  · intro h
    simp only [bne_iff_ne, ne_eq] at h
    simp only [decide_eq_true_eq]
    omega
  · intro h
    simp only [bne_eq_false_iff_eq] at h
    have h0 : lo = 0 := by omega
    have hq := Nat.div_add_mod hi (2 ^ k)
    have hm := Nat.mod_lt hi p2
    have c4 : ((hi / 2 ^ k : Nat) : Int) * 2 ^ min k 64 = ((hi / 2 ^ k * 2 ^ k : Nat) : Int) := by
      rcases Nat.le_total k 64 with h3 | h3
      · rw [Nat.min_eq_left h3, Int.natCast_mul, Int.natCast_pow]; rfl
      · rw [big k h3]; simp
    rw [c4, Nat.mul_comm]
    have w1 : IntKind.u64.wrap ((2 ^ k * (hi / 2 ^ k) : Nat) : Int) = ((2 ^ k * (hi / 2 ^ k) : Nat) : Int) := by
      generalize 2 ^ k * (hi / 2 ^ k) = z at *
      rw [IntKind.wrap_u64]; omega
    rw [w1, Bool.eq_iff_iff]
    simp only [bne_iff_ne, ne_eq, decide_eq_true_eq]
    generalize 2 ^ k * (hi / 2 ^ k) = z at *
    generalize hi % 2 ^ k = y at *
    omega
/-- what is left and whether a bit was set of those taken off -/
def CutIs (V n : Nat) (w : World) (e : Ending) (w' : World) : Prop := e = .returned (.tuple #[.int .u64 ((V / 2 ^ n : Nat) : Int), .bool (decide (V % 2 ^ n ≠ 0))]) ∧ Drew w w'
set_option maxHeartbeats 400000 in
theorem cut_few (hi lo n V : Nat) (h1 : hi < 18446744073709551616) (h2 : lo < 18446744073709551616) (hn : 1 ≤ n) (hn2 : n < 64) (hV : hi * 18446744073709551616 + lo = V) (hb : V / 2 ^ n < 18446744073709551616) (w : World) :
    Calls Try.prog 49 #[.int .u64 hi, .int .u64 lo, .int .i64 n] w (CutIs V n w) := by
  have d1 : decide ((n : Int) < 64) = true := by simp; omega
  obtain ⟨s, hs⟩ : ∃ s, s + n = 64 := ⟨64 - n, by omega⟩
  have w1 : 64 - (n : Int) = (s : Int) := by omega
  have w2 : IntKind.i64.wrap (s : Int) = (s : Int) := by rw [IntKind.wrap_i64]; omega
  obtain ⟨v1, v2⟩ := few_num hi lo n s V h1 h2 hs hV hb
  have V1 := Lib.hid v1
  have V2 := Lib.hid v2
  clear v1 v2 hV hb
  go_enter Try.func49, Try.ntmps49
  go_wp2
  go_quiet (fail)
  go_wp2
  go_ret2
  exact ⟨ret_ub V1.out V2.out, Drew.at_ _ _⟩
set_option maxHeartbeats 400000 in
theorem cut_many (hi lo n V : Nat) (h1 : hi < 18446744073709551616) (h2 : lo < 18446744073709551616) (hn : 64 ≤ n) (hn2 : n < 10000) (hV : hi * 18446744073709551616 + lo = V) (w : World) :
    Calls Try.prog 49 #[.int .u64 hi, .int .u64 lo, .int .i64 n] w (CutIs V n w) := by
  have d1 : decide ((n : Int) < 64) = false := by simp; omega
  obtain ⟨k, hk⟩ : ∃ k, k + 64 = n := ⟨n - 64, by omega⟩
  have w1 : (n : Int) - 64 = (k : Int) := by omega
  obtain ⟨v1, v2, v3⟩ := many_num hi lo k V h1 h2 hV
  rw [hk] at v1 v2 v3
  obtain ⟨q, hq⟩ : ∃ q, ((lo : Int) != 0) = q := ⟨_, rfl⟩
  cases q
  · have V3 := Lib.hid (v3 hq)
    clear v2 v3 hV
    go_enter Try.func49, Try.ntmps49
    go_wp2
    go_quiet (fail)
    go_wp2
    go_ret2

    exact ⟨ret_ub rfl V3.out, Drew.at_ _ _⟩
  · have V2 := Lib.hid (v2 hq)
    clear v2 v3 hV
    go_enter Try.func49, Try.ntmps49
    go_wp2
    go_quiet (fail)
    go_wp2
    go_ret2
    exact ⟨ret_ub rfl V2.out.symm, Drew.at_ _ _⟩
theorem cut_any (hi lo n V : Nat) (h1 : hi < 18446744073709551616) (h2 : lo < 18446744073709551616) (hn : 1 ≤ n) (hn2 : n < 10000) (hV : hi * 18446744073709551616 + lo = V) (hb : V / 2 ^ n < 18446744073709551616) (w : World) :
    Calls Try.prog 49 #[.int .u64 hi, .int .u64 lo, .int .i64 n] w (CutIs V n w) := by
  rcases Nat.lt_or_ge n 64 with h | h
  · exact cut_few hi lo n V h1 h2 hn h hV hb w
  · exact cut_many hi lo n V h1 h2 h hn2 hV w
end Go.Proofs.Ythhihcmkjkofhaa.FCut
