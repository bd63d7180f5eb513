/- The document's rows of bits: divided. -/
import Derived.Test.YthhihcmkjkofhaaFRef4
namespace Go.Proofs.Ythhihcmkjkofhaa.FRef5
open Go.RowKit WMem WAppend FPlain FRows FMath FCmp FExp FNano FRef1 FRef2 FRef3 FRef4

theorem num_set : ∀ (l : List Bool) (j : Nat), j < l.length → bit (num l) j = false → num (l.set j true) = num l + 2 ^ j
  | b :: l, 0, _, h => by
    unfold bit at h
    simp only [num, Nat.pow_zero, Nat.div_one, decide_eq_false_iff_not] at h
    cases b
    · simp [num]; try omega
    · simp at h; try omega
  | b :: l, j + 1, hj, h => by
    have hj2 : j < l.length := by simpa using hj
    have h2 : bit (num l) j = false := by
      unfold bit at h ⊢
      have e : num (b :: l) / 2 ^ (j + 1) = num l / 2 ^ j := by
        rw [Nat.pow_succ', ← Nat.div_div_eq_div_mul, num]
        congr 1
        cases b <;> simp <;> omega
      rw [e] at h
      exact h
    have ih := num_set l j hj2 h2
    simp only [List.set_cons_succ, num, ih, Nat.pow_succ]
    omega
theorem low_none {x j : Nat} (q : Nat) (h : x = 2 ^ (j + 1) * q) : bit x j = false := by
  unfold bit
  have : x / 2 ^ j = 2 * q := by rw [h, Nat.pow_succ, Nat.mul_assoc, Nat.mul_div_cancel_left _ (Nat.two_pow_pos j)]
  rw [this]
  simp
/-- one step of the long division -/
theorem div_bit {P P' D b r : Nat} (hD : 0 < D) (hP : P' = 2 * P + b) (hb : b ≤ 1) (hr : r = P % D) : (2 * r + b < D → P' % D = 2 * r + b ∧ P' / D = 2 * (P / D)) ∧ (D ≤ 2 * r + b → P' % D = 2 * r + b - D ∧ P' / D = 2 * (P / D) + 1) := by
  have h1 := Nat.div_add_mod P D
  have h2 := Nat.mod_lt P hD
  rw [← hr] at h1 h2
  obtain ⟨q, hq⟩ : ∃ q, q = P / D := ⟨_, rfl⟩
  rw [← hq] at h1 ⊢
  constructor
  · intro h
    have e : P' = D * (2 * q) + (2 * r + b) := by rw [hP, ← h1, Nat.mul_left_comm]; omega
    rw [e, Nat.mul_add_mod, Nat.mod_eq_of_lt h, Nat.mul_add_div hD, Nat.div_eq_of_lt h]
    exact ⟨rfl, rfl⟩
  · intro h
    have e0 : D * (2 * q + 1) = 2 * (D * q) + D := by rw [Nat.mul_add, Nat.mul_one, Nat.mul_left_comm]
    have e : P' = D * (2 * q + 1) + (2 * r + b - D) := by
      rw [e0, hP, ← h1]
      generalize D * q = z
      omega
    have h3 : 2 * r + b - D < D := by omega
    rw [e, Nat.mul_add_mod, Nat.mod_eq_of_lt h3, Nat.mul_add_div hD, Nat.div_eq_of_lt h3]
    exact ⟨rfl, rfl⟩
/-- where the long division stands: bits from K on are done -/
def DivAt (N D g n : Nat) (w0 : World) (K : Nat) (r : Value) (w : World) : Prop := ∃ o : List Bool, o.length = n ∧ r = .int .u64 ((N / 2 ^ K % D : Nat) : Int) ∧ num o = 2 ^ K * (N / 2 ^ K / D) ∧ RowV w g 4 (o.map Value.bool) ∧ Below w0.heap.size w0 w
theorem ret_div {A : Option Addr} {m n : Nat} {p q : Bool} (h : m = n) (hp : p = q) : Ending.returned (.tuple #[.slice A n n, .bool p]) = .returned (.tuple #[.slice A m m, .bool q]) := by rw [h, hp]
theorem next_i {N D g n : Nat} {w0 w : World} {j : Nat} {r : Value} {i : Int} (hi : i = (j : Int) - 1) (hj : j + 1 ≤ n) (h : DivAt N D g n w0 j r w) :
    (∃ j' : Nat, j' + 1 ≤ n ∧ Value.int .i64 i = .int .i64 (j' : Int) ∧ DivAt N D g n w0 (j' + 1) r w) ∨ (Value.int .i64 i = .int .i64 (-1) ∧ DivAt N D g n w0 0 r w) := by
  subst hi
  cases j with
  | zero => right; exact ⟨rfl, h⟩
  | succ j => left; exact ⟨j, by omega, by congr 1; omega, h⟩
theorem div_keep {N D g n j q : Nat} {w0 w : World} {o : List Bool} {r : Value} (ho : o.length = n) (hnum : num o = 2 ^ (j + 1) * q) (hq : N / 2 ^ j / D = 2 * q) (hr : r = .int .u64 ((N / 2 ^ j % D : Nat) : Int)) (hrow : RowV w g 4 (o.map Value.bool)) (hb : Below w0.heap.size w0 w) : DivAt N D g n w0 j r w :=
  ⟨o, ho, hr, by rw [hnum, hq, Nat.pow_succ, Nat.mul_assoc], hrow, hb⟩
theorem div_mark {N D g n j q : Nat} {w0 w : World} {o : List Bool} {r : Value} (ho : o.length = n) (hj : j < n) (hnum : num o = 2 ^ (j + 1) * q) (hq : N / 2 ^ j / D = 2 * q + 1) (hr : r = .int .u64 ((N / 2 ^ j % D : Nat) : Int)) (hrow : RowV w g 4 (o.map Value.bool)) (hg : w0.heap.size ≤ g) (hb : Below w0.heap.size w0 w) : DivAt N D g n w0 j r (w.setCell ⟨g, j, none⟩ (.bool true)) :=
  ⟨o.set j true, by simpa using ho, hr, by rw [num_set o j (by omega) (low_none q hnum), hnum, hq, Nat.pow_succ, Nat.mul_add, Nat.mul_assoc, Nat.mul_one], by rw [List.map_set]; exact hrow.set j _, hb.setCell hg _⟩
theorem div_facts (r : Nat) (h : r < 1000000000) : IntKind.u64.wrap ((r : Int) * 2) = ((2 * r : Nat) : Int) ∧ IntKind.u64.wrap (((2 * r : Nat) : Int) + 1) = ((2 * r + 1 : Nat) : Int) := by
  constructor <;> (rw [IntKind.wrap_u64]; omega)
theorem div_less (s : Nat) (h : 1000000000 ≤ s) (h2 : s < 4000000000) : IntKind.u64.wrap ((s : Int) - 1000000000) = ((s - 1000000000 : Nat) : Int) := by
  rw [IntKind.wrap_u64]; omega
set_option maxHeartbeats 1000000 in
theorem divided_any (a : List Bool) (B : Nat) (A : Option Addr) (c : Nat) (w : World) (ha : a.length ≤ 1000) (hB : B ≤ w.heap.size) (hA : Sl w B A (a.map Value.bool)) :
    Calls Try.prog 38 #[.slice A a.length c, .int .u64 1000000000] w fun e w' => ∃ (g : Nat) (o : List Bool), e = .returned (.tuple #[.slice (some ⟨g, 0, none⟩) o.length o.length, .bool (decide (num a % 1000000000 ≠ 0))]) ∧ o.length = a.length ∧ num o = num a / 1000000000 ∧ RowV w' g 4 (o.map Value.bool) ∧ w.heap.size ≤ g ∧ Below w.heap.size w w' := by
  have hm := made_row a.length (by omega) w
  have hnb := num_lt a
  obtain ⟨n, hn⟩ : ∃ n, n = a.length := ⟨_, rfl⟩
  obtain ⟨N, hN⟩ : ∃ N, N = num a := ⟨_, rfl⟩
  rw [← hn] at hm
  rw [← hn, ← hN] at hnb
  have h0 : DivAt N 1000000000 w.heap.size n w n (.int .u64 0) (w.alloc (.cells (List.replicate n (Value.bool false)).toArray 4)) :=
    ⟨List.replicate n false, by simp, by rw [Nat.div_eq_of_lt hnb]; rfl, by rw [Nat.div_eq_of_lt hnb, num_none]; simp, by rw [List.map_replicate]; exact row_new _ _, (Below.refl _ _).alloc (Nat.le_refl _) _⟩
  obtain ⟨R, hR⟩ : ∃ R, R = (List.replicate n (Value.bool false)).toArray := ⟨_, rfl⟩
  rw [← hR] at hm h0
  have H0 := Lib.hid h0
  have HA := Lib.hid hA
  have HN := Lib.hid hN
  have HNN := Lib.hid hn
  clear h0 hA hR hnb
  rw [← hn, ← hN]
  have hn1 : n ≤ 1000 := by omega
  clear hn hN
  go_enter Try.func38, Try.ntmps38
  go_wp2
  go_loopw [7, 8] (fun r i wr => (∃ j : Nat, j + 1 ≤ n ∧ i = .int .i64 (j : Int) ∧ DivAt N 1000000000 w.heap.size n w (j + 1) r wr) ∨ (i = .int .i64 (-1) ∧ DivAt N 1000000000 w.heap.size n w 0 r wr)) (fun _ i _ => (intOf i + 1).toNat)
  case atStart =>
    rcases Nat.eq_zero_or_pos n with h | h
    · right
      have := H0.out
      rw [h] at this
      exact ⟨by rw [h]; rfl, by rw [h]; exact this⟩
    · left
      refine ⟨n - 1, by omega, ?_, ?_⟩
      · congr 1; omega
      · rw [show n - 1 + 1 = n by omega]; exact H0.out
  case round =>
    rcases hrel with ⟨j, hj, rfl, o, ho, rfl, hnum, hrow, hb⟩ | ⟨rfl, o, ho, rfl, hnum, hrow, hb⟩
    · have hlt : j < a.length := by have := HNN.out; omega
      obtain ⟨ad, rfl, hab, hc0⟩ := bool_at HA.out hlt
      rw [← HN.out] at hc0
      have hc := (hb.cell (p := ad.add j) (by rw [addr_add_block]; omega)).trans hc0
      have hcell : wr.cell? ⟨w.heap.size, j, none⟩ = some (.bool false) := by
        have h := hrow.cell (i := j) (by simp; omega)
        rw [List.getElem_map, get_bit o j (by omega), low_none _ hnum] at h
        exact h
      have hfree := hrow.free j
      obtain ⟨P, hP⟩ : ∃ P, P = N / 2 ^ (j + 1) := ⟨_, rfl⟩
      obtain ⟨b, hbb⟩ : ∃ b, bit N j = b := ⟨_, rfl⟩
      have hdm := div_more N j
      rw [hbb, ← hP] at hdm
      rw [hbb] at hc
      rw [← hP] at hnum ⊢
      obtain ⟨r, hr⟩ : ∃ r, r = P % 1000000000 := ⟨_, rfl⟩
      have hrD : r < 1000000000 := by rw [hr]; exact Nat.mod_lt _ (by decide)
      rw [← hr]
      obtain ⟨f1, f2⟩ := div_facts r hrD
      obtain ⟨q, hq⟩ : ∃ q, q = P / 1000000000 := ⟨_, rfl⟩
      rw [← hq] at hnum
      have hds := div_bit (P := P) (P' := N / 2 ^ j) (D := 1000000000) (b := b.toNat) (r := r) (by decide) hdm (by cases b <;> simp) hr
      rw [← hq] at hds
      have hws : wrap64 ((j : Int) - 1) = (j : Int) - 1 := FExp.wr (by omega)
      have HO := Lib.hid ho
      have HNUM := Lib.hid hnum
      have HROW := Lib.hid hrow
      have HB := Lib.hid hb
      have HDS := Lib.hid hds
      have HJ := Lib.hid hj
      obtain ⟨r2, hr2⟩ : ∃ r2, r2 = 2 * r := ⟨_, rfl⟩
      rw [← hr2] at f1 f2
      clear hc0 hdm hbb hP hr hq hds hnum hrow hb
      cases b
      · have HD1 : Hid (r2 < 1000000000 → N / 2 ^ j % 1000000000 = r2 ∧ N / 2 ^ j / 1000000000 = 2 * q) := Lib.hid (by have := HDS.out.1; simpa [hr2] using this)
        have HD2 : Hid (1000000000 ≤ r2 → N / 2 ^ j % 1000000000 = r2 - 1000000000 ∧ N / 2 ^ j / 1000000000 = 2 * q + 1) := Lib.hid (by have := HDS.out.2; simpa [hr2] using this)
        by_cases hcmp : 1000000000 ≤ r2
        · have d : decide (1000000000 ≤ (r2 : Int)) = true := by simp; omega
          have f3 := div_less r2 hcmp (by omega)
          obtain ⟨e1, e2⟩ := HD2.out hcmp
          obtain ⟨r4, hr4⟩ : ∃ r4, r4 = r2 - 1000000000 := ⟨_, rfl⟩
          rw [← hr4] at f3 e1
          have E1 := Lib.hid e1
          have E2 := Lib.hid e2
          clear hcmp hr4 e1 e2 hr2 f2
          go_wp2
          go_roundw
          case rel => exact next_i rfl HJ.out (div_mark HO.out (by have := HJ.out; omega) HNUM.out E2.out (by rw [E1.out]) HROW.out (Nat.le_refl _) HB.out)
          case measure => simp only [intOf]; omega
        · have d : decide (1000000000 ≤ (r2 : Int)) = false := by simp; omega
          obtain ⟨e1, e2⟩ := HD1.out (by omega)
          have E1 := Lib.hid e1
          have E2 := Lib.hid e2
          clear hcmp e1 e2 hr2 f2
          go_wp2
          go_roundw
          case rel => exact next_i rfl HJ.out (div_keep HO.out HNUM.out E2.out (by rw [E1.out]) HROW.out HB.out)
          case measure => simp only [intOf]; omega
      · obtain ⟨r3, hr3⟩ : ∃ r3, r3 = r2 + 1 := ⟨_, rfl⟩
        rw [← hr3] at f2
        have HD1 : Hid (r3 < 1000000000 → N / 2 ^ j % 1000000000 = r3 ∧ N / 2 ^ j / 1000000000 = 2 * q) := Lib.hid (by have := HDS.out.1; simpa [hr3, hr2] using this)
        have HD2 : Hid (1000000000 ≤ r3 → N / 2 ^ j % 1000000000 = r3 - 1000000000 ∧ N / 2 ^ j / 1000000000 = 2 * q + 1) := Lib.hid (by have := HDS.out.2; simpa [hr3, hr2] using this)
        by_cases hcmp : 1000000000 ≤ r3
        · have d : decide (1000000000 ≤ (r3 : Int)) = true := by simp; omega
          have f3 := div_less r3 hcmp (by omega)
          obtain ⟨e1, e2⟩ := HD2.out hcmp
          obtain ⟨r4, hr4⟩ : ∃ r4, r4 = r3 - 1000000000 := ⟨_, rfl⟩
          rw [← hr4] at f3 e1
          have E1 := Lib.hid e1
          have E2 := Lib.hid e2
          clear hcmp hr4 e1 e2 hr2 hr3
          go_wp2
          go_roundw
          case rel => exact next_i rfl HJ.out (div_mark HO.out (by have := HJ.out; omega) HNUM.out E2.out (by rw [E1.out]) HROW.out (Nat.le_refl _) HB.out)
          case measure => simp only [intOf]; omega
        · have d : decide (1000000000 ≤ (r3 : Int)) = false := by simp; omega
          obtain ⟨e1, e2⟩ := HD1.out (by omega)
          have E1 := Lib.hid e1
          have E2 := Lib.hid e2
          clear hcmp e1 e2 hr2 hr3
          go_wp2
          go_roundw
          case rel => exact next_i rfl HJ.out (div_keep HO.out HNUM.out E2.out (by rw [E1.out]) HROW.out HB.out)
          case measure => simp only [intOf]; omega
    · rw [Nat.pow_zero, Nat.div_one, Nat.one_mul] at hnum
      rw [Nat.pow_zero, Nat.div_one]
      have HO := Lib.hid ho
      have HNUM := Lib.hid hnum
      have HROW := Lib.hid hrow
      have HB := Lib.hid hb
      obtain ⟨r, hr⟩ : ∃ r, r = N % 1000000000 := ⟨_, rfl⟩
      rw [← hr]
      have hq : decide (0 < r) = decide (r ≠ 0) := by rw [Bool.eq_iff_iff]; simp only [decide_eq_true_eq]; omega
      have HQ := Lib.hid hq
      have HR := Lib.hid hr
      clear ho hnum hrow hb hq hr
      go_wp2
      go_ret2
      exact ⟨w.heap.size, o, ret_div HO.out (by rw [HQ.out, HR.out]), by rw [HO.out, HNN.out], HNUM.out, HROW.out, Nat.le_refl _, HB.out⟩
end Go.Proofs.Ythhihcmkjkofhaa.FRef5
