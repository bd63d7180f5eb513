/- The document's rows of bits: at, number, length. -/
import Derived.Test.YthhihcmkjkofhaaFRows
import Derived.Test.YthhihcmkjkofhaaFRefC
import Derived.Test.YthhihcmkjkofhaaWMem
namespace Go.Proofs.Ythhihcmkjkofhaa.FRef1
open Go.RowKit WMem FPlain FRows FMath FCmp FExp FNano

theorem bool_at {w : World} {B : Nat} {A : Option Addr} {l : List Bool} (h : Sl w B A (l.map Value.bool)) {k : Nat} (hk : k < l.length) : ∃ a, A = some a ∧ a.block < B ∧ w.cell? (a.add k) = some (.bool (bit (num l) k)) :=
  h k _ (by rw [List.getElem?_map, List.getElem?_eq_getElem hk, get_bit l k hk]; rfl)
set_option maxHeartbeats 400000 in
theorem at_any (l : List Bool) (B : Nat) (A : Option Addr) (c : Nat) (i : Nat) (w : World) (_hl : l.length ≤ 100000) (_hi : i ≤ 100000) (hA : Sl w B A (l.map Value.bool)) :
    Calls Try.prog 51 #[.slice A l.length c, .int .i64 i] w fun e w' => e = .returned (.bool (bit (num l) i)) ∧ w = w' := by
  by_cases h : i < l.length
  · obtain ⟨a, rfl, hb, hc⟩ := bool_at hA h
    generalize bit (num l) i = q at *
    have d : decide ((i : Int) < (l.length : Int)) = true := by simp; omega
    have d2 : decide (i < l.length) = true := by simp; omega
    go_enter Try.func51, Try.ntmps51
    go_wp2
    go_ret
    exact ⟨rfl, rfl⟩
  · rw [bit_out (by omega)]
    have d : decide ((i : Int) < (l.length : Int)) = false := by simp; omega
    have d2 : decide (i < l.length) = false := by simp; omega
    go_enter Try.func51, Try.ntmps51
    go_wp2
    go_ret
    exact ⟨rfl, rfl⟩
/-- a row from its upper end on: at j, or below 0 -/
def Down (N M : Nat) (x i : Value) : Prop := (∃ j, j + 1 ≤ M ∧ i = .int .i64 (j : Int) ∧ x = .int .u64 ((N / 2 ^ (j + 1) : Nat) : Int)) ∨ (i = .int .i64 (-1) ∧ x = .int .u64 (N : Int))
theorem num_step (N j y x : Nat) (b : Bool) (hN : N < 18446744073709551616) (hx : x = N / 2 ^ (j + 1)) (hy : y = N / 2 ^ j) (hb : bit N j = b) : IntKind.u64.wrap ((x : Int) * 2) = ((2 * x : Nat) : Int) ∧ y = 2 * x + b.toNat ∧ IntKind.u64.wrap (((2 * x : Nat) : Int) + 1) = ((2 * x + 1 : Nat) : Int) := by
  have h := div_more N j
  rw [← hx, ← hy, hb] at h
  have hy2 : y ≤ N := by rw [hy]; exact Nat.div_le_self _ _
  have hx2 : 2 * x + 1 < 18446744073709551616 := by
    have h3 : x = y / 2 := by rw [hx, hy, Nat.pow_succ, Nat.div_div_eq_div_mul]
    omega
  clear hx hy hb
  refine ⟨?_, h, ?_⟩
  · rw [IntKind.wrap_u64]; omega
  · rw [IntKind.wrap_u64]; omega
theorem down_more {N M j y : Nat} {q : Int} (hy : y = N / 2 ^ j) (h0 : j = 0 → y = N) (hj : j + 1 ≤ M) (hq : q = (y : Int)) : Down N M (.int .u64 q) (.int .i64 ((j : Int) - 1)) := by
  subst hq
  cases j with
  | zero => right; exact ⟨rfl, by rw [h0 rfl]⟩
  | succ j => left; exact ⟨j, by omega, by congr 1; omega, by rw [hy]⟩
set_option maxHeartbeats 400000 in
theorem number_any (l : List Bool) (B : Nat) (A : Option Addr) (c : Nat) (w : World) (hl : l.length ≤ 100000) (hA : Sl w B A (l.map Value.bool)) :
    Calls Try.prog 50 #[.slice A l.length c] w fun e w' => e = .returned (.int .u64 (num l % 18446744073709551616 : Nat)) ∧ w = w' := by
  obtain ⟨M, hM⟩ : ∃ M, M = min l.length 64 := ⟨_, rfl⟩
  obtain ⟨N, hN⟩ : ∃ N, N = num l % 18446744073709551616 := ⟨_, rfl⟩
  have bN : N < 18446744073709551616 := by rw [hN]; exact Nat.mod_lt _ (by decide)
  have hNM : N < 2 ^ M := by
    rcases Nat.le_total l.length 64 with h | h
    · rw [hM, Nat.min_eq_left h, hN]
      exact Nat.lt_of_le_of_lt (Nat.mod_le _ _) (num_lt l)
    · rw [hM, Nat.min_eq_right h]; exact bN
  have hbit : ∀ j, j < M → bit (num l) j = bit N j := by
    intro j hj
    unfold bit
    have e64 : (18446744073709551616 : Nat) = 2 ^ j * 2 ^ (64 - j) := by rw [← Nat.pow_add, show j + (64 - j) = 64 by omega]
    have e2 : 2 ^ (64 - j) = 2 * 2 ^ (63 - j) := by rw [← Nat.pow_succ']; exact congrArg (2 ^ ·) (by omega)
    rw [hN, e64, Nat.mod_mul_right_div_self, e2, Nat.mod_mul_right_mod]
  have em : min (l.length : Int) 64 - 1 = (M : Int) - 1 := by omega
  have hML : M ≤ l.length := by omega
  have HB := Lib.hid hbit
  have HNM := Lib.hid hNM
  have HML := Lib.hid hML
  have bM : M ≤ 64 := by omega
  rw [← hN]
  clear hM hN hbit hNM hML
  go_enter Try.func50, Try.ntmps50
  go_wp2
  go_loop [3, 4] (Down N M) (fun _ i => (intOf i + 1).toNat)
  case atStart =>
    rcases Nat.eq_zero_or_pos M with h | h
    · right
      have := HNM.out
      rw [h] at this
      have : N = 0 := by simpa using this
      subst this
      exact ⟨by rw [h]; rfl, rfl⟩
    · left
      refine ⟨M - 1, by omega, ?_, ?_⟩
      · congr 1; omega
      · rw [show M - 1 + 1 = M by omega, Nat.div_eq_of_lt HNM.out]; rfl
  case round =>
    rcases hrel with ⟨j, hj, rfl, rfl⟩ | ⟨rfl, rfl⟩
    · have hjl : j < l.length := by have := HML.out; omega
      obtain ⟨a, rfl, hab, hc⟩ := bool_at hA hjl
      rw [HB.out j (by omega)] at hc
      obtain ⟨x, hx⟩ : ∃ x, x = N / 2 ^ (j + 1) := ⟨_, rfl⟩
      obtain ⟨y, hy⟩ : ∃ y, y = N / 2 ^ j := ⟨_, rfl⟩
      obtain ⟨b, hb⟩ : ∃ b, bit N j = b := ⟨_, rfl⟩
      obtain ⟨s1, s2, s3⟩ := num_step N j y x b bN hx hy hb
      rw [hb] at hc
      rw [← hx]
      have hj0 : j = 0 → y = N := by intro h; rw [hy, h]; simp
      have hjs : wrap64 ((j : Int) - 1) = (j : Int) - 1 := wr (by omega)
      obtain ⟨z, hz⟩ : ∃ z, z = 2 * x := ⟨_, rfl⟩
      rw [← hz] at s1 s2 s3
      have H2 := Lib.hid s2
      have HJ := Lib.hid hj0
      have HY := Lib.hid hy
      have S3 := Lib.hid s3
      have HJJ := Lib.hid hj
      clear hz s2 s3 hj0 hx hy hb bN hj
      cases b
      · go_wp2
        exact ⟨down_more HY.out HJ.out HJJ.out (by rw [H2.out]; simp), by simp only [intOf]; omega⟩
      · have s3 := S3.out
        go_wp2
        exact ⟨down_more HY.out HJ.out HJJ.out (by rw [H2.out]; simp), by simp only [intOf]; omega⟩
    · go_wp2
      go_ret
      exact ⟨rfl, rfl⟩
theorem top_bit {x k : Nat} (h : x < 2 ^ (k + 1)) : (bit x k = false → x < 2 ^ k) ∧ (bit x k = true → FBits.len x = k + 1) := by
  have p := Nat.two_pow_pos k
  have h1 : x / 2 ^ k < 2 := by rw [Nat.div_lt_iff_lt_mul p, Nat.mul_comm, ← Nat.pow_succ]; exact h
  have h2 := Nat.div_add_mod x (2 ^ k)
  have h3 := Nat.mod_lt x p
  unfold bit
  obtain ⟨q, hq⟩ : ∃ q, q = x / 2 ^ k := ⟨_, rfl⟩
  rw [← hq] at h1 h2 ⊢
  constructor
  · intro h4
    simp only [decide_eq_false_iff_not] at h4
    have : q = 0 := by clear hq h2 h3 h p; omega
    rw [this, Nat.mul_zero] at h2
    omega
  · intro h4
    simp only [decide_eq_true_eq] at h4
    have : q = 1 := by clear hq h2 h3 h p; omega
    rw [this, Nat.mul_one] at h2
    unfold FBits.len
    rw [if_neg (by omega), log2_is (by omega) h]
set_option maxHeartbeats 400000 in
theorem length_any (l : List Bool) (B : Nat) (A : Option Addr) (c : Nat) (w : World) (hl : l.length ≤ 100000) (hA : Sl w B A (l.map Value.bool)) :
    Calls Try.prog 39 #[.slice A l.length c] w fun e w' => e = .returned (.int .i64 (FBits.len (num l) : Nat)) ∧ w = w' := by
  have hlt := num_lt l
  have HL := Lib.hid hlt
  clear hlt
  go_enter Try.func39, Try.ntmps39
  go_wp2
  go_loop [3] (fun v => ∃ n : Nat, n ≤ l.length ∧ v = .int .i64 (n : Int) ∧ num l < 2 ^ n) (fun v => (intOf v).toNat)
  case atStart => exact ⟨l.length, Nat.le_refl _, rfl, HL.out⟩
  case round =>
    obtain ⟨n, hn, rfl, hb⟩ := hrel
    rcases Nat.eq_zero_or_pos n with h0 | h0
    · subst h0
      have : num l = 0 := by simpa using hb
      go_wp2
      go_ret
      exact ⟨rfl, rfl⟩
    · obtain ⟨k, rfl⟩ : ∃ k, n = k + 1 := ⟨n - 1, by omega⟩
      obtain ⟨a, rfl, hab, hc⟩ := bool_at hA (k := k) (by omega)
      obtain ⟨b, hbb⟩ : ∃ b, bit (num l) k = b := ⟨_, rfl⟩
      rw [hbb] at hc
      have hq : (((k + 1 : Nat) : Int) - 1) = (k : Int) := by omega
      have HB := Lib.hid hb
      have HBB := Lib.hid hbb
      have d : decide (0 < ((k + 1 : Nat) : Int)) = true := by simp
      have HQ := Lib.hid hq
      have hkl : k < l.length := by omega
      obtain ⟨n, hnn⟩ : ∃ n : Nat, n = k + 1 := ⟨_, rfl⟩
      have hq2 : ((n : Nat) : Int) - 1 = (k : Int) := by omega
      have d2 : decide (0 < n) = true := by simp; omega
      have hnl : n ≤ l.length := by omega
      rw [← hnn]
      have HN := Lib.hid hnn
      clear hb hbb hq d hn hnn
      cases b
      · go_wp2
        exact ⟨⟨k, by omega, rfl, (top_bit HB.out).1 HBB.out⟩, by have := HN.out; simp only [intOf]; omega⟩
      · go_wp2
        go_ret
        exact ⟨ret_i (by rw [(top_bit HB.out).2 HBB.out, HN.out]), rfl⟩
end Go.Proofs.Ythhihcmkjkofhaa.FRef1
