/- The document's rows of bits: plus, times. -/
import Derived.Test.YthhihcmkjkofhaaFRef2
namespace Go.Proofs.Ythhihcmkjkofhaa.FRef3
open Go.RowKit WMem WAppend FPlain FRows FMath FCmp FExp FNano FRef1 FRef2

def sum3 (x y c : Bool) : Bool := (x != y) != c
def more3 (x y c : Bool) : Bool := x && y || x && c || y && c
theorem plus_step {A B k L : Nat} {c x y : Bool} (h : L + 2 ^ k * c.toNat = A % 2 ^ k + B % 2 ^ k) (hx : bit A k = x) (hy : bit B k = y) : L + 2 ^ k * (sum3 x y c).toNat + 2 ^ (k + 1) * (more3 x y c).toNat = A % 2 ^ (k + 1) + B % 2 ^ (k + 1) := by
  rw [mod_more A k, mod_more B k, hx, hy, Nat.pow_succ]
  generalize 2 ^ k = P at *
  generalize A % P = a at *
  generalize B % P = b at *
  cases x <;> cases y <;> cases c <;> simp [sum3, more3] at h ⊢ <;> omega
theorem plus_end {A B m L : Nat} {c : Bool} (h : L + 2 ^ (m + 1) * c.toNat = A % 2 ^ (m + 1) + B % 2 ^ (m + 1)) (ha : A < 2 ^ m) (hb : B < 2 ^ m) : L = A + B := by
  have e : 2 ^ (m + 1) = 2 * 2 ^ m := Nat.pow_succ'
  rw [Nat.mod_eq_of_lt (by omega), Nat.mod_eq_of_lt (by omega)] at h
  cases c
  · simpa using h
  · simp only [Bool.toNat_true, Nat.mul_one] at h; omega
theorem snoc_len {l : List Bool} {k : Nat} {s : Bool} (h : l.length = k) : (l ++ [s]).length = k + 1 := by simp [h]
theorem snoc_num {l : List Bool} {k X : Nat} {s q : Bool} (hl : l.length = k) (h : num l + 2 ^ k * s.toNat + 2 ^ (k + 1) * q.toNat = X) : num (l ++ [s]) + 2 ^ (k + 1) * q.toNat = X := by
  rw [num_append, hl]; simpa [num] using h
theorem snoc_own {w : World} {b k : Nat} {e : TypeId} {v : Value} {l : List Bool} {s : Bool} (h : w.ownsRow b e 1 v (k + 1) (l.map Value.bool ++ [.bool s])) : w.ownsRow b e 1 v (k + 1) ((l ++ [s]).map Value.bool) := by
  rw [List.map_append]; exact h
set_option maxHeartbeats 1000000 in
theorem plus_any (a b : List Bool) (B1 B2 : Nat) (A1 A2 : Option Addr) (c1 c2 m : Nat) (w : World) (ha : a.length ≤ 50000) (hb : b.length ≤ 50000) (hm : m = max a.length b.length) (hB1 : B1 ≤ w.heap.size) (hB2 : B2 ≤ w.heap.size) (hA1 : Sl w B1 A1 (a.map Value.bool)) (hA2 : Sl w B2 A2 (b.map Value.bool)) :
    Calls Try.prog 52 #[.slice A1 a.length c1, .slice A2 b.length c2] w (RowOf (num a + num b) (m + 1) w) := by
  have na : num a < 2 ^ m := Nat.lt_of_lt_of_le (num_lt a) (Nat.pow_le_pow_right (by decide) (by omega))
  have nb : num b < 2 ^ m := Nat.lt_of_lt_of_le (num_lt b) (Nat.pow_le_pow_right (by decide) (by omega))
  have HE := Lib.hid (fun L c h => plus_end (A := num a) (B := num b) (m := m) (L := L) (c := c) h na nb)
  have hm1 : m ≤ 50000 := by omega
  have hmx : max (a.length : Int) (b.length : Int) = (m : Int) := by omega
  have H1 := Lib.hid hA1
  have H2 := Lib.hid hA2
  clear hm na nb hA1 hA2
  go_enter Try.func52, Try.ntmps52
  go_wp2
  go_loopw [5, 6, 7] (fun v cr i wr => ∃ (k : Nat) (l : List Bool) (c : Bool), k ≤ m + 1 ∧ l.length = k ∧ i = .int .i64 (k : Int) ∧ cr = .bool c ∧ num l + 2 ^ k * c.toNat = num a % 2 ^ k + num b % 2 ^ k ∧ wr.ownsRow w.heap.size 4 1 v k (l.map Value.bool) ∧ Below w.heap.size w wr) (fun _ _ i _ => m + 1 - (intOf i).toNat)
  case atStart => exact ⟨0, [], false, by omega, rfl, rfl, rfl, by simp [num, Nat.mod_one], by simpa using World.ownsRow_nil w w.heap.size 4 1, Below.refl _ _⟩
  case round =>
    obtain ⟨k, l, c, hk, hlen, rfl, rfl, hnum, ho, hbl⟩ := hrel
    have HO := Lib.hid ho
    have HB := Lib.hid hbl
    have sB := hbl.size
    by_cases hlt : k ≤ m
    · have d : decide ((k : Int) ≤ (m : Int)) = true := by simp; omega
      have d' : decide (k ≤ m) = true := by simpa using hlt
      obtain ⟨x, hx⟩ : ∃ x, bit (num a) k = x := ⟨_, rfl⟩
      obtain ⟨y, hy⟩ : ∃ y, bit (num b) k = y := ⟨_, rfl⟩
      have hs := plus_step hnum hx hy
      have c1' := fun wr h => at_any a B1 A1 c1 k wr (by omega) (by omega) h
      have c2' := fun wr h => at_any b B2 A2 c2 k wr (by omega) (by omega) h
      rw [hx] at c1'
      rw [hy] at c2'
      have C1 := Lib.hid (c1' wr (H1.out.below_le HB.out hB1))
      have C2 := Lib.hid (c2' wr (H2.out.below_le HB.out hB2))
      have hsum : ((x != y) != c) = sum3 x y c := rfl
      obtain ⟨s, hs1⟩ : ∃ s, s = sum3 x y c := ⟨_, rfl⟩
      obtain ⟨q, hq1⟩ : ∃ q, q = more3 x y c := ⟨_, rfl⟩
      rw [← hs1, ← hq1] at hs
      have HS := Lib.hid hs
      have HX : Hid (Sl (wr.alloc (.cells #[.bool s] 4)) (wr.heap.size + 1) (some ⟨wr.heap.size, 0, none⟩) [.bool s]) := Lib.hid (Sl.of_row (n := 1) (row_new _ _) (by omega) rfl)
      have HO2 := Lib.hid (HO.out.alloc (.cells #[.bool s] 4))
      have HLT := Lib.hid hlt
      clear hx hy hs c1' c2' hsum ho hbl hnum hlt
      cases x <;> cases y <;> cases c
      all_goals
        first | (obtain rfl : s = true := hs1) | (obtain rfl : s = false := hs1)
        first | (obtain rfl : q = true := hq1) | (obtain rfl : q = false := hq1)
        go_wp2_with (first
          | (go_at_call 51; (with_reducible refine C1.out.mono ?_); rintro e w' ⟨rfl, rfl⟩)
          | (go_at_call 51; (with_reducible refine C2.out.mono ?_); rintro e w' ⟨rfl, rfl⟩)
          | (at_builtin; go_loud (refine wl_append rfl (.tmp 25) (.tmp 31) 49 rfl w.heap.size 4 1 elemR _ k _ rfl HO2.out (wr.heap.size + 1) (some ⟨wr.heap.size, 0, none⟩) 1 1 _ rfl rfl HX.out (by simp [Value.oneCell']) (by omega) (by unfold maxLen; omega) (by simp; omega) ?_); intro v' w1 h1 h2 h3
             have b1 : Below w.heap.size w w1 := (HB.out.alloc sB _).grown h2 (by simp; omega) (fun q hq => (HO.out.lt q hq).1)
             have K1 := Lib.hid h1
             have HB1 := Lib.hid b1
             clear h1 h2 h3 b1))
        have hlt := HLT.out
        first
          | exact ⟨⟨k + 1, l ++ [true], true, by omega, snoc_len hlen, rfl, rfl, snoc_num hlen HS.out, snoc_own K1.out, HB1.out⟩, by simp only [intOf]; omega⟩
          | exact ⟨⟨k + 1, l ++ [true], false, by omega, snoc_len hlen, rfl, rfl, snoc_num hlen HS.out, snoc_own K1.out, HB1.out⟩, by simp only [intOf]; omega⟩
          | exact ⟨⟨k + 1, l ++ [false], true, by omega, snoc_len hlen, rfl, rfl, snoc_num hlen HS.out, snoc_own K1.out, HB1.out⟩, by simp only [intOf]; omega⟩
          | exact ⟨⟨k + 1, l ++ [false], false, by omega, snoc_len hlen, rfl, rfl, snoc_num hlen HS.out, snoc_own K1.out, HB1.out⟩, by simp only [intOf]; omega⟩
    · have hk1 : k = m + 1 := by omega
      have hfin := HE.out _ _ (hk1 ▸ hnum)
      obtain ⟨A, c', rfl, hsl, hcc⟩ := own_sl ho
      have d : decide ((k : Int) ≤ (m : Int)) = false := by simp; omega
      have d' : decide (k ≤ m) = false := by simpa using hlt
      have HL := Lib.hid hlen
      have HK := Lib.hid hk1
      clear ho hbl hnum hlen hlt hk1
      go_wp2
      go_ret
      exact ⟨A, l, c', ret_s HL.out, hfin, by rw [HL.out, HK.out]; exact Nat.le_refl _, hsl, HB.out, by rw [HL.out]; exact hcc⟩
theorem times_odd {a L k y z Y : Nat} (h : L + a * 2 ^ k * y = Y) (hz : z = y / 2) (ho : y % 2 = 1) : 2 ^ k * a + L + a * 2 ^ (k + 1) * z = Y ∧ L + 2 ^ k * a + a * 2 ^ (k + 1) * z = Y := by
  have e : y = 1 + 2 * z := by omega
  rw [e, Nat.mul_add, Nat.mul_one] at h
  have e2 : a * 2 ^ (k + 1) * z = a * 2 ^ k * (2 * z) := by rw [Nat.pow_succ, ← Nat.mul_assoc, Nat.mul_assoc (a * 2 ^ k)]
  rw [e2, Nat.mul_comm (2 ^ k) a]
  omega
theorem times_even {a L k y z Y : Nat} (h : L + a * 2 ^ k * y = Y) (hz : z = y / 2) (ho : y % 2 = 0) : L + a * 2 ^ (k + 1) * z = Y := by
  have e : y = 2 * z := by omega
  rw [e] at h
  have e2 : a * 2 ^ (k + 1) * z = a * 2 ^ k * (2 * z) := by rw [Nat.pow_succ, ← Nat.mul_assoc, Nat.mul_assoc (a * 2 ^ k)]
  rw [e2]; exact h
set_option maxHeartbeats 1000000 in
theorem times_any (a : List Bool) (B : Nat) (A : Option Addr) (c : Nat) (w : World) (ha : a.length ≤ 1000) (hB : B ≤ w.heap.size) (hA : Sl w B A (a.map Value.bool)) :
    Calls Try.prog 34 #[.slice A a.length c, .int .u64 1000000000] w (RowOf (num a * 1000000000) (a.length + 62) w) := by
  have HA := Lib.hid hA
  clear hA
  go_enter Try.func34, Try.ntmps34
  go_wp2
  go_loopw [1, 5, 6] (fun n v i wr => ∃ (k y : Nat) (A' : Option Addr) (l : List Bool) (c' : Nat), k ≤ 30 ∧ y < 2 ^ (30 - k) ∧ n = .int .u64 (y : Int) ∧ i = .int .i64 (k : Int) ∧ v = .slice A' l.length c' ∧ l.length ≤ c' ∧ num l + num a * 2 ^ k * y = num a * 1000000000 ∧ l.length ≤ a.length + 31 + k ∧ Sl wr wr.heap.size A' (l.map Value.bool) ∧ Below w.heap.size w wr) (fun n _ _ _ => (intOf n).toNat)
  case atStart => exact ⟨0, 1000000000, none, [], 0, by omega, by decide, rfl, rfl, rfl, by simp, by simp [num], by simp, Sl.nil _ _ _, Below.refl _ _⟩
  case round =>
    obtain ⟨k, y, A', l, c', hk, hy, rfl, rfl, rfl, hcp, hnum, hlen, hsl, hbl⟩ := hrel
    have HS := Lib.hid hsl
    have HB := Lib.hid hbl
    have sB := hbl.size
    rcases Nat.eq_zero_or_pos y with h0 | h0
    · have d : decide (0 < y) = false := by simp; omega
      have HF : Hid (num l = num a * 1000000000) := Lib.hid (by rw [h0] at hnum; simpa using hnum)
      clear hnum hsl hbl h0 hy
      go_wp2
      go_ret
      exact ⟨A', l, c', rfl, HF.out, by omega, HS.out, HB.out, hcp⟩
    · have d : decide (0 < y) = true := by simpa using h0
      have hk30 : k < 30 := by
        rcases Nat.lt_or_ge k 30 with h | h
        · exact h
        · have : 30 - k = 0 := by omega
          rw [this, Nat.pow_zero] at hy; omega
      obtain ⟨z, hz⟩ : ∃ z, z = y / 2 := ⟨_, rfl⟩
      have hzb : z < 2 ^ (30 - (k + 1)) := by
        have e : 2 ^ (30 - k) = 2 * 2 ^ (30 - (k + 1)) := by rw [← Nat.pow_succ']; exact congrArg (2 ^ ·) (by omega)
        rw [e] at hy
        omega
      have hp30 := Nat.pow_le_pow_right (show 0 < 2 by decide) (show 30 - k ≤ 30 by omega)
      have e30 : (2 : Nat) ^ 30 = 1073741824 := by decide
      rw [e30] at hp30
      have hy30 : y < 1073741824 := Nat.lt_of_lt_of_le hy hp30
      clear hp30 e30
      have hz2 : (y : Int) / 2 = (z : Int) := by omega
      have hwz : IntKind.u64.wrap (z : Int) = (z : Int) := by rw [IntKind.wrap_u64]; omega
      have HZB := Lib.hid hzb
      have HZ : Hid (z < y) := Lib.hid (by omega)
      by_cases ho : y % 2 = 1
      · have hq : ((y : Int) % 2 == 1) = true := by rw [beq_iff_eq]; omega
        have HN := Lib.hid (times_odd hnum hz ho).2
        have HT := Lib.hid (twice_any a k B A c wr (by omega) (by omega) (by omega) (HA.out.below_le HB.out hB))
        clear hnum hsl hbl hz ho hzb hy
        go_wp2_with (first
          | (go_at_call 37; (with_reducible refine HT.out.mono ?_); rintro e w1 ⟨A1, l1, c1, rfl, hn1, hl1, hs1, hb1, hc1⟩
             have HP := Lib.hid (plus_any l l1 wr.heap.size w1.heap.size A' A1 c' c1 _ w1 (by omega) (by omega) rfl hb1.size (Nat.le_refl _) (HS.out.below_le hb1 (Nat.le_refl _)) hs1)
             have HN1 := Lib.hid hn1
             have HB1 := Lib.hid hb1
             clear hn1 hs1 hb1)
          | (go_at_call 52; (with_reducible refine HP.out.mono ?_); rintro e w2 ⟨A2, l2, c2, rfl, hn2, hl2, hs2, hb2, hc2⟩
             have HN2 := Lib.hid hn2
             have HS2 := Lib.hid hs2
             have HB2 := Lib.hid hb2
             clear hn2 hs2 hb2))
        go_roundw
        case rel =>
          refine ⟨k + 1, z, A2, l2, c2, by omega, HZB.out, rfl, by go_num, rfl, hc2, by rw [HN2.out, HN1.out]; exact HN.out, by omega, HS2.out, ?_⟩
          exact (HB.out.trans (HB1.out.mono sB)).trans (HB2.out.mono (Nat.le_trans sB HB1.out.size))
        case measure => have := HZ.out; simp only [intOf]; clear hwz; omega
      · have hq : ((y : Int) % 2 == 1) = false := by rw [beq_eq_false_iff_ne]; omega
        have HN := Lib.hid (times_even hnum hz (by omega))
        clear hnum hsl hbl hz ho hzb hy
        go_wp2
        go_roundw
        case rel => exact ⟨k + 1, z, A', l, c', by omega, HZB.out, rfl, by go_num, rfl, hcp, HN.out, by omega, HS.out, HB.out⟩
        case measure => have := HZ.out; simp only [intOf]; clear hwz; omega
end Go.Proofs.Ythhihcmkjkofhaa.FRef3
