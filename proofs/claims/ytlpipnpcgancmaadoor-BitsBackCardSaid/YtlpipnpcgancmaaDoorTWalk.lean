/- The program's walks over bits: allAre, freeFrom, Zeros, orderAt, orderOf, choose; the document's Zeros. -/
import Derived.Test.YtlpipnpcgancmaaDoorTSet
namespace Go.Proofs.YtlpipnpcgancmaaDoor.TWalk
open Go.RowKit WMem WPlain TPlain TBits TSet

theorem ret_i {a b : Int} (h : a = b) : Ending.returned (.int .i64 a) = .returned (.int .i64 b) := by rw [h]
set_option maxHeartbeats 400000 in
theorem allAre_any (l : List UInt8) (len : Nat) (hlen : l.length = len) (B : Nat) (A : Option Addr) (c a n : Nat) (x y : Int) (hx : x = (a : Int)) (hy : y = (n : Int)) (set : Bool) (w : World) (hn : a + n ≤ 2016) (hl : len ≤ 140737488355328) (hA : Sl w B A (l.map u8v)) :
    Calls Tryd.prog 31 #[.slice A len c, .int .i64 x, .int .i64 y, .bool set] w fun e w' => e = .returned (.bool (allB l a n set)) ∧ w = w' := by
  subst hx hy
  have HL := Lib.hid hlen
  have HA := Lib.hid hA
  clear hlen hA
  go_enter Tryd.func31, Tryd.ntmps31
  go_wp2
  go_loop [11] (fun i => ∃ k : Nat, k ≤ n ∧ i = .int .i64 k ∧ ∀ j, j < k → (!fr l (a + j)) = set) (fun i => n - (intOf i).toNat)
  case atStart => exact ⟨0, Nat.zero_le _, rfl, fun j hj => by omega⟩
  case round =>
    obtain ⟨k, hk, rfl, hall⟩ := hrel
    have H := Lib.hid hall
    clear hall
    by_cases hlt : k < n
    · obtain ⟨q, hq⟩ : ∃ q, fr l (a + k) = q := ⟨_, rfl⟩
      have HQ := Lib.hid hq
      clear hq
      by_cases hs : (!q) = set
      · have hs2 : ((!q) == set) = true := by rw [hs]; simp
        have HS := Lib.hid hs
        clear hs
        go_wp2_with (go_at_call 35; refine (isSet_at l len HL.out B A c (a + k) _ (by omega) q HQ.out _ (by omega) hl HA.out).mono ?_; rintro e w' ⟨rfl, rfl⟩)
        go_round
        case rel =>
          refine ⟨k + 1, by omega, by go_num, fun j hj => ?_⟩
          by_cases e : j = k
          · subst e; rw [HQ.out]; exact HS.out
          · exact H.out j (by omega)
        case measure => simp [intOf]; omega
      · have hs2 : ((!q) == set) = false := by simpa using hs
        have HS := Lib.hid hs
        clear hs
        go_wp2_with (go_at_call 35; refine (isSet_at l len HL.out B A c (a + k) _ (by omega) q HQ.out _ (by omega) hl HA.out).mono ?_; rintro e w' ⟨rfl, rfl⟩)
        go_ret
        exact ⟨ret_bool (allB_no hlt (by rw [HQ.out]; exact HS.out)).symm, rfl⟩
    · obtain rfl : k = n := by omega
      go_wp2
      go_ret
      exact ⟨ret_bool (allB_iff.2 H.out).symm, rfl⟩
set_option maxHeartbeats 400000 in
theorem freeFrom_any (l : List UInt8) (len : Nat) (hlen : l.length = len) (B : Nat) (A : Option Addr) (c a : Nat) (want : Int) (w : World) (ha : a < 2016) (hw : 1 ≤ want) (hl : len ≤ 140737488355328) (hA : Sl w B A (l.map u8v)) :
    Calls Tryd.prog 38 #[.slice A len c, .int .i64 a, .int .i64 want] w fun e w' => e = .returned (.int .i64 (run (fr l) a want.toNat : Nat)) ∧ w = w' := by
  obtain ⟨m, rfl⟩ := Int.eq_ofNat_of_zero_le (show 0 ≤ want by omega)
  have HL := Lib.hid hlen
  have HA := Lib.hid hA
  clear hlen hA
  rw [Int.toNat_natCast]
  by_cases h : m ≤ 2016 - a
  · have hno : ¬ ((2016 : Int) - a < m) := by omega
    go_enter Tryd.func38, Tryd.ntmps38
    go_wp2
    go_loop [14] (fun i => ∃ k : Nat, k ≤ m ∧ i = .int .i64 k ∧ ∀ j, j < k → fr l (a + j) = true) (fun i => m - (intOf i).toNat)
    case atStart => exact ⟨0, Nat.zero_le _, rfl, fun j hj => by omega⟩
    case round =>
      obtain ⟨k, hk, rfl, hall⟩ := hrel
      have H := Lib.hid hall
      clear hall
      by_cases hlt : k < m
      · cases hq : fr l (a + k) with
        | true =>
          have HQ := Lib.hid hq
          clear hq
          go_wp2_with (go_at_call 35; refine (isSet_at l len HL.out B A c (a + k) _ (by omega) true HQ.out _ (by omega) hl HA.out).mono ?_; rintro e w' ⟨rfl, rfl⟩)
          go_round
          case rel =>
            refine ⟨k + 1, by omega, by go_num, fun j hj => ?_⟩
            by_cases e : j = k
            · subst e; exact HQ.out
            · exact H.out j (by omega)
          case measure => simp [intOf]; omega
        | false =>
          have HQ := Lib.hid hq
          clear hq
          go_wp2_with (go_at_call 35; refine (isSet_at l len HL.out B A c (a + k) _ (by omega) false HQ.out _ (by omega) hl HA.out).mono ?_; rintro e w' ⟨rfl, rfl⟩)
          go_ret
          exact ⟨ret_i (by rw [run_is (fr l) a m k (by omega) H.out (.inr HQ.out)]), rfl⟩
      · obtain rfl : k = m := by omega
        go_wp2
        go_ret
        refine ⟨ret_i ?_, rfl⟩
        rw [run_is (fr l) a _ k (by omega) H.out ?_]
        exact .inl rfl
  · obtain ⟨r, hr⟩ : ∃ r : Nat, (2016 : Int) - a = r := ⟨2016 - a, by omega⟩
    have hlt0 : (r : Int) < m := by omega
    have hra : a + r = 2016 := by omega
    have HRA := Lib.hid hra
    clear hra
    go_enter Tryd.func38, Tryd.ntmps38
    go_wp2
    go_loop [14] (fun i => ∃ k : Nat, k ≤ r ∧ i = .int .i64 k ∧ ∀ j, j < k → fr l (a + j) = true) (fun i => r - (intOf i).toNat)
    case atStart => exact ⟨0, Nat.zero_le _, rfl, fun j hj => by omega⟩
    case round =>
      obtain ⟨k, hk, rfl, hall⟩ := hrel
      have H := Lib.hid hall
      clear hall
      by_cases hlt : k < r
      · cases hq : fr l (a + k) with
        | true =>
          have HQ := Lib.hid hq
          clear hq
          go_wp2_with (go_at_call 35; refine (isSet_at l len HL.out B A c (a + k) _ (by omega) true HQ.out _ (by omega) hl HA.out).mono ?_; rintro e w' ⟨rfl, rfl⟩)
          go_round
          case rel =>
            refine ⟨k + 1, by omega, by go_num, fun j hj => ?_⟩
            by_cases e : j = k
            · subst e; exact HQ.out
            · exact H.out j (by omega)
          case measure => simp [intOf]; omega
        | false =>
          have HQ := Lib.hid hq
          clear hq
          go_wp2_with (go_at_call 35; refine (isSet_at l len HL.out B A c (a + k) _ (by omega) false HQ.out _ (by omega) hl HA.out).mono ?_; rintro e w' ⟨rfl, rfl⟩)
          go_ret
          exact ⟨ret_i (by rw [run_is (fr l) a m k (by omega) H.out (.inr HQ.out)]), rfl⟩
      · obtain rfl : k = r := by omega
        go_wp2
        go_ret
        refine ⟨ret_i ?_, rfl⟩
        rw [run_is (fr l) a _ k (by omega) H.out ?_]
        exact .inr (by rw [HRA.out]; exact fr_big (Nat.le_refl _))
theorem zer_le (F : Nat → Bool) (p : Nat) : zer F p ≤ p := by
  induction p with
  | zero => exact Nat.le_refl _
  | succ p ih =>
    simp only [zer]
    split <;> omega
theorem zer_yes {F : Nat → Bool} {p : Nat} (h : F p = true) : zer F (p + 1) = zer F p + 1 := by simp [zer, h]
theorem zer_no {F : Nat → Bool} {p : Nat} (h : F p = false) : zer F (p + 1) = zer F p := by simp [zer, h]
set_option maxHeartbeats 400000 in
set_option maxRecDepth 100000 in
theorem Zeros_any (l : List UInt8) (len : Nat) (hlen : l.length = len) (B : Nat) (A : Option Addr) (c : Nat) (w : World) (hl : len ≤ 140737488355328) (hA : Sl w B A (l.map u8v)) :
    Calls Tryd.prog 23 #[.slice A len c] w fun e w' => e = .returned (.int .i64 (zeros l : Nat)) ∧ w = w' := by
  have HL := Lib.hid hlen
  have HA := Lib.hid hA
  clear hlen hA
  go_enter Tryd.func23, Tryd.ntmps23
  go_wp2
  go_loop [3, 5] (fun v i => ∃ k : Nat, k ≤ 2016 ∧ i = .int .i64 k ∧ v = .int .i64 (zer (fr l) k : Nat)) (fun _ i => 2016 - (intOf i).toNat)
  case atStart => exact ⟨0, Nat.zero_le _, rfl, rfl⟩
  case round =>
    obtain ⟨k, hk, rfl, hv⟩ := hrel
    have hz := zer_le (fr l) k
    obtain ⟨z, hz0⟩ : ∃ z, zer (fr l) k = z := ⟨_, rfl⟩
    rw [hz0] at hv hz
    subst hv
    by_cases hlt : k < 2016
    · cases hq : fr l k with
      | true =>
        have HS : Hid (zer (fr l) (k + 1) = z + 1) := Lib.hid (by rw [zer_yes hq, hz0])
        have HQ := Lib.hid hq
        clear hq hz0
        go_wp2_with (go_at_call 35; refine (isSet_at l len HL.out B A c k _ rfl true HQ.out _ (by omega) hl HA.out).mono ?_; rintro e w' ⟨rfl, rfl⟩)
        go_round
        case rel => exact ⟨k + 1, by omega, by go_num, by rw [HS.out]; go_num⟩
        case measure => simp [intOf]; omega
      | false =>
        have HS : Hid (zer (fr l) (k + 1) = z) := Lib.hid (by rw [zer_no hq, hz0])
        have HQ := Lib.hid hq
        clear hq hz0
        go_wp2_with (go_at_call 35; refine (isSet_at l len HL.out B A c k _ rfl false HQ.out _ (by omega) hl HA.out).mono ?_; rintro e w' ⟨rfl, rfl⟩)
        go_round
        case rel => exact ⟨k + 1, by omega, by go_num, by rw [HS.out]⟩
        case measure => simp [intOf]; omega
    · obtain rfl : k = 2016 := by omega
      have HS : Hid (zeros l = z) := Lib.hid hz0
      clear hz0
      go_wp2
      go_ret
      exact ⟨ret_i (by rw [HS.out]), rfl⟩
set_option maxHeartbeats 400000 in
set_option maxRecDepth 100000 in
theorem refZeros_any (l : List UInt8) (len : Nat) (hlen : l.length = len) (B : Nat) (A : Option Addr) (c : Nat) (w : World) (hl : len ≤ 140737488355328) (hA : Sl w B A (l.map u8v)) :
    Calls Tryd.prog 24 #[.slice A len c] w fun e w' => e = .returned (.int .i64 (zeros l : Nat)) ∧ w = w' := by
  have HL := Lib.hid hlen
  have HA := Lib.hid hA
  clear hlen hA
  go_enter Tryd.func24, Tryd.ntmps24
  go_wp2
  go_loop [3, 4] (fun v i => ∃ k : Nat, k ≤ 2016 ∧ i = .int .i64 k ∧ v = .int .i64 (zer (fr l) k : Nat)) (fun _ i => 2016 - (intOf i).toNat)
  case atStart => exact ⟨0, Nat.zero_le _, rfl, rfl⟩
  case round =>
    obtain ⟨k, hk, rfl, hv⟩ := hrel
    have hz := zer_le (fr l) k
    obtain ⟨z, hz0⟩ : ∃ z, zer (fr l) k = z := ⟨_, rfl⟩
    rw [hz0] at hv hz
    subst hv
    by_cases hlt : k < 2016
    · cases hq : fr l k with
      | true =>
        have HS : Hid (zer (fr l) (k + 1) = z + 1) := Lib.hid (by rw [zer_yes hq, hz0])
        have HQ := Lib.hid hq
        clear hq hz0
        go_wp2_with (go_at_call 33; refine (refSet_nat l len HL.out B A c k _ rfl true HQ.out _ hl HA.out).mono ?_; rintro e w' ⟨rfl, rfl⟩)
        go_round
        case rel => exact ⟨k + 1, by omega, by go_num, by rw [HS.out]; go_num⟩
        case measure => simp [intOf]; omega
      | false =>
        have HS : Hid (zer (fr l) (k + 1) = z) := Lib.hid (by rw [zer_no hq, hz0])
        have HQ := Lib.hid hq
        clear hq hz0
        go_wp2_with (go_at_call 33; refine (refSet_nat l len HL.out B A c k _ rfl false HQ.out _ hl HA.out).mono ?_; rintro e w' ⟨rfl, rfl⟩)
        go_round
        case rel => exact ⟨k + 1, by omega, by go_num, by rw [HS.out]⟩
        case measure => simp [intOf]; omega
    · obtain rfl : k = 2016 := by omega
      have HS : Hid (zeros l = z) := Lib.hid hz0
      clear hz0
      go_wp2
      go_ret
      exact ⟨ret_i (by rw [HS.out]), rfl⟩
end Go.Proofs.YtlpipnpcgancmaaDoor.TWalk
