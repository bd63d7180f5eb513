/- isSet, isPlace, sizeMayBe; the document's Set. -/
import Derived.Test.YtgkindoidmglnaaGreatDoorProg
import Derived.Test.YtgkindoidmglnaaGreatDoorMg1
import Derived.Test.YtgkindoidmglnaaGreatDoorMg2
import Derived.WalkKit
import Derived.WalkSpells
import Derived.WalkLawsBesides
import Derived.IntWalk
import Derived.Test.YtgkindoidmglnaaGreatDoorMg12
namespace Go.Proofs.YtgkindoidmglnaaGreatDoor.TSet
open Go.RowKit WMem WPlain TPlain TBits

theorem and1 (y : Nat) (hy : y < 256) : bits BinOp.and IntKind.u8 (y : Int) 1 = ((y % 2 : Nat) : Int) := by
  show IntKind.u8.wrap ((BitVec.ofInt 8 (y : Int) &&& BitVec.ofInt 8 1).toNat : Int) = _
  have h : (BitVec.ofInt 8 (y : Int) &&& BitVec.ofInt 8 1).toNat = y % 2 := by
    rw [BitVec.toNat_and]
    have h1 : (BitVec.ofInt 8 (y : Int)).toNat = y := by simp; omega
    have h2 : (BitVec.ofInt 8 1).toNat = 1 := by decide
    rw [h1, h2, Nat.and_one_is_mod]
  rw [h, IntKind.wrap_u8']
  omega
theorem bit_go (x s : Nat) (hx : x < 256) : (bits BinOp.and IntKind.u8 ((x : Int) / 2 ^ s) 1 == 1) = x.testBit s := by
  have h : ((x / 2 ^ s : Nat) : Int) = (x : Int) / 2 ^ s := by simp
  have h2 : x / 2 ^ s < 256 := Nat.lt_of_le_of_lt (Nat.div_le_self _ _) hx
  rw [← h, and1 _ h2, Nat.testBit_eq_decide_div_mod_eq, Bool.eq_iff_iff]
  simp only [beq_iff_eq, decide_eq_true_eq]
  omega
theorem ret_bool {a b : Bool} (h : a = b) : Ending.returned (.bool a) = .returned (.bool b) := by rw [h]

set_option maxHeartbeats 400000 in
theorem isSet_in (l : List UInt8) (B : Nat) (A : Option Addr) (c i : Nat) (w : World) (hi : i < 2016) (h : i / 8 < l.length) (hl : l.length ≤ 140737488355328) (hA : Sl w B A (l.map u8v)) :
    Calls Tryz.prog 90 #[.slice A l.length c, .int .i64 i] w fun e w' => e = .returned (.bool (!fr l i)) ∧ w = w' := by
  obtain ⟨a, rfl, _, hc⟩ := hA.u8 h
  have hf := fr_in hi h
  have hx := byte_lt l[i / 8]
  generalize l[i / 8].toNat = x at *
  have hf2 : (bits BinOp.and IntKind.u8 ((x : Int) / 2 ^ (i % 8)) 1 == 1) = (!fr l i) := by rw [hf, bit_go x _ hx]; simp
  have HF := Lib.hid hf2
  clear hf hf2 hA
  have d1 : decide ((l.length : Int) ≤ (i : Int) / 8) = false := by simp; omega
  go_enter Tryz.func90, Tryz.ntmps90
  go_wp2
  go_ret
  exact ⟨ret_bool (by rw [HF.out]), rfl⟩
set_option maxHeartbeats 400000 in
theorem isSet_out (len : Nat) (A : Option Addr) (c i : Nat) (w : World) (hi : i < 2016) (h : len ≤ i / 8) :
    Calls Tryz.prog 90 #[.slice A len c, .int .i64 i] w fun e w' => e = .returned (.bool true) ∧ w = w' := by
  have d1 : decide ((len : Int) ≤ (i : Int) / 8) = true := by simp; omega
  go_enter Tryz.func90, Tryz.ntmps90
  go_wp2
  go_ret
  exact ⟨rfl, rfl⟩
/-- of any row of bytes, a bit that may be there -/
theorem isSet_any (l : List UInt8) (B : Nat) (A : Option Addr) (c i : Nat) (w : World) (hi : i < 2016) (hl : l.length ≤ 140737488355328) (hA : Sl w B A (l.map u8v)) :
    Calls Tryz.prog 90 #[.slice A l.length c, .int .i64 i] w fun e w' => e = .returned (.bool (!fr l i)) ∧ w = w' := by
  by_cases h : i / 8 < l.length
  · exact isSet_in l B A c i w hi h hl hA
  · rw [fr_out (by omega)]
    exact isSet_out l.length A c i w hi (by omega)
/-- the place written as an int -/
theorem isSet_at (l : List UInt8) (len : Nat) (hlen : l.length = len) (B : Nat) (A : Option Addr) (c i : Nat) (x : Int) (hx : x = (i : Int)) (q : Bool) (hq : fr l i = q) (w : World) (hi : i < 2016) (hl : len ≤ 140737488355328) (hA : Sl w B A (l.map u8v)) :
    Calls Tryz.prog 90 #[.slice A len c, .int .i64 x] w fun e w' => e = .returned (.bool (!q)) ∧ w = w' := by
  subst hlen hx hq
  exact isSet_any l B A c i w hi hl hA

def sizeB (n : Int) : Bool := decide (0 ≤ n ∧ n ≤ 2016)
def placeB (i : Int) : Bool := decide (0 ≤ i ∧ i < 2016)
set_option maxHeartbeats 400000 in
theorem sizeMayBe_any (n : Int) (w : World) : Calls Tryz.prog 87 #[.int .i64 n] w fun e w' => e = .returned (.bool (sizeB n)) ∧ w = w' := by
  by_cases h : 0 ≤ n
  · have d1 : decide (0 ≤ n) = true := by simpa using h
    have e : sizeB n = decide (n ≤ 2016) := by simp [sizeB, h]
    rw [e]
    clear e
    go_enter Tryz.func87, Tryz.ntmps87
    go_wp2
    go_ret
    exact ⟨rfl, rfl⟩
  · have d1 : decide (0 ≤ n) = false := by simpa using h
    have e : sizeB n = false := by simp [sizeB, h]
    rw [e]
    clear e h
    go_enter Tryz.func87, Tryz.ntmps87
    go_wp2
    go_ret
    exact ⟨rfl, rfl⟩
set_option maxHeartbeats 400000 in
theorem isPlace_any (n : Int) (w : World) : Calls Tryz.prog 103 #[.int .i64 n] w fun e w' => e = .returned (.bool (placeB n)) ∧ w = w' := by
  by_cases h : 0 ≤ n
  · have d1 : decide (0 ≤ n) = true := by simpa using h
    have e : placeB n = decide (n < 2016) := by simp [placeB, h]
    rw [e]
    clear e
    go_enter Tryz.func103, Tryz.ntmps103
    go_wp2
    go_ret
    exact ⟨rfl, rfl⟩
  · have d1 : decide (0 ≤ n) = false := by simpa using h
    have e : placeB n = false := by simp [placeB, h]
    rw [e]
    clear e h
    go_enter Tryz.func103, Tryz.ntmps103
    go_wp2
    go_ret
    exact ⟨rfl, rfl⟩

/-! The document's. -/
theorem div_step (x k : Nat) : x / 2 ^ k / 2 = x / 2 ^ (k + 1) := by rw [Nat.div_div_eq_div_mul, Nat.pow_succ]
theorem le_div {len i : Nat} (h : len ≤ i / 8) : (len : Int) ≤ (i : Int) / 8 := by omega
end Go.Proofs.YtgkindoidmglnaaGreatDoor.TSet
/- The program's walks over bits: allAre, freeFrom, Zeros, orderAt, orderOf, choose; the document's Zeros. -/
namespace Go.Proofs.YtgkindoidmglnaaGreatDoor.TWalk
open Go.RowKit WMem WPlain TPlain TBits TSet

theorem ret_i {a b : Int} (h : a = b) : Ending.returned (.int .i64 a) = .returned (.int .i64 b) := by rw [h]
set_option maxHeartbeats 400000 in
theorem allAre_any (l : List UInt8) (len : Nat) (hlen : l.length = len) (B : Nat) (A : Option Addr) (c a n : Nat) (x y : Int) (hx : x = (a : Int)) (hy : y = (n : Int)) (set : Bool) (w : World) (hn : a + n ≤ 2016) (hl : len ≤ 140737488355328) (hA : Sl w B A (l.map u8v)) :
    Calls Tryz.prog 89 #[.slice A len c, .int .i64 x, .int .i64 y, .bool set] w fun e w' => e = .returned (.bool (allB l a n set)) ∧ w = w' := by
  subst hx hy
  have HL := Lib.hid hlen
  have HA := Lib.hid hA
  clear hlen hA
  go_enter Tryz.func89, Tryz.ntmps89
  go_wp2
  go_loop [11] (fun i => ∃ k : Nat, k ≤ n ∧ i = .int .i64 k ∧ ∀ j, j < k → (!fr l (a + j)) = set) (fun i => n - (intOf i).toNat)
  case atStart => exact ⟨0, Nat.zero_le _, rfl, fun j hj => by omega⟩
  case round =>
    obtain ⟨k, hk, rfl, hall⟩ := hrel
    have H := Lib.hid hall
    clear hall
    by_cases hlt : k < n
    · obtain ⟨q, hq⟩ : ∃ q, fr l (a + k) = q := ⟨_, rfl⟩
      have HQ := Lib.hid hq
      clear hq
      by_cases hs : (!q) = set
      · have hs2 : ((!q) == set) = true := by rw [hs]; simp
        have HS := Lib.hid hs
        clear hs
        go_wp2_with (go_at_call 90; refine (isSet_at l len HL.out B A c (a + k) _ (by omega) q HQ.out _ (by omega) hl HA.out).mono ?_; rintro e w' ⟨rfl, rfl⟩)
        go_round
        case rel =>
          refine ⟨k + 1, by omega, by go_num, fun j hj => ?_⟩
          by_cases e : j = k
          · subst e; rw [HQ.out]; exact HS.out
          · exact H.out j (by omega)
        case measure => simp [intOf]; omega
      · have hs2 : ((!q) == set) = false := by simpa using hs
        have HS := Lib.hid hs
        clear hs
        go_wp2_with (go_at_call 90; refine (isSet_at l len HL.out B A c (a + k) _ (by omega) q HQ.out _ (by omega) hl HA.out).mono ?_; rintro e w' ⟨rfl, rfl⟩)
        go_ret
        exact ⟨ret_bool (allB_no hlt (by rw [HQ.out]; exact HS.out)).symm, rfl⟩
    · obtain rfl : k = n := by omega
      go_wp2
      go_ret
      exact ⟨ret_bool (allB_iff.2 H.out).symm, rfl⟩
set_option maxHeartbeats 400000 in
theorem freeFrom_any (l : List UInt8) (len : Nat) (hlen : l.length = len) (B : Nat) (A : Option Addr) (c a : Nat) (want : Int) (w : World) (ha : a < 2016) (hw : 1 ≤ want) (hl : len ≤ 140737488355328) (hA : Sl w B A (l.map u8v)) :
    Calls Tryz.prog 104 #[.slice A len c, .int .i64 a, .int .i64 want] w fun e w' => e = .returned (.int .i64 (run (fr l) a want.toNat : Nat)) ∧ w = w' := by
  obtain ⟨m, rfl⟩ := Int.eq_ofNat_of_zero_le (show 0 ≤ want by omega)
  have HL := Lib.hid hlen
  have HA := Lib.hid hA
  clear hlen hA
  rw [Int.toNat_natCast]
  by_cases h : m ≤ 2016 - a
  · have hno : ¬ ((2016 : Int) - a < m) := by omega
    go_enter Tryz.func104, Tryz.ntmps104
    go_wp2
    go_loop [14] (fun i => ∃ k : Nat, k ≤ m ∧ i = .int .i64 k ∧ ∀ j, j < k → fr l (a + j) = true) (fun i => m - (intOf i).toNat)
    case atStart => exact ⟨0, Nat.zero_le _, rfl, fun j hj => by omega⟩
    case round =>
      obtain ⟨k, hk, rfl, hall⟩ := hrel
      have H := Lib.hid hall
      clear hall
      by_cases hlt : k < m
      · cases hq : fr l (a + k) with
        | true =>
          have HQ := Lib.hid hq
          clear hq
          go_wp2_with (go_at_call 90; refine (isSet_at l len HL.out B A c (a + k) _ (by omega) true HQ.out _ (by omega) hl HA.out).mono ?_; rintro e w' ⟨rfl, rfl⟩)
          go_round
          case rel =>
            refine ⟨k + 1, by omega, by go_num, fun j hj => ?_⟩
            by_cases e : j = k
            · subst e; exact HQ.out
            · exact H.out j (by omega)
          case measure => simp [intOf]; omega
        | false =>
          have HQ := Lib.hid hq
          clear hq
          go_wp2_with (go_at_call 90; refine (isSet_at l len HL.out B A c (a + k) _ (by omega) false HQ.out _ (by omega) hl HA.out).mono ?_; rintro e w' ⟨rfl, rfl⟩)
          go_ret
          exact ⟨ret_i (by rw [run_is (fr l) a m k (by omega) H.out (.inr HQ.out)]), rfl⟩
      · obtain rfl : k = m := by omega
        go_wp2
        go_ret
        refine ⟨ret_i ?_, rfl⟩
        rw [run_is (fr l) a _ k (by omega) H.out ?_]
        exact .inl rfl
  · obtain ⟨r, hr⟩ : ∃ r : Nat, (2016 : Int) - a = r := ⟨2016 - a, by omega⟩
    have hlt0 : (r : Int) < m := by omega
    have hra : a + r = 2016 := by omega
    have HRA := Lib.hid hra
    clear hra
    go_enter Tryz.func104, Tryz.ntmps104
    go_wp2
    go_loop [14] (fun i => ∃ k : Nat, k ≤ r ∧ i = .int .i64 k ∧ ∀ j, j < k → fr l (a + j) = true) (fun i => r - (intOf i).toNat)
    case atStart => exact ⟨0, Nat.zero_le _, rfl, fun j hj => by omega⟩
    case round =>
      obtain ⟨k, hk, rfl, hall⟩ := hrel
      have H := Lib.hid hall
      clear hall
      by_cases hlt : k < r
      · cases hq : fr l (a + k) with
        | true =>
          have HQ := Lib.hid hq
          clear hq
          go_wp2_with (go_at_call 90; refine (isSet_at l len HL.out B A c (a + k) _ (by omega) true HQ.out _ (by omega) hl HA.out).mono ?_; rintro e w' ⟨rfl, rfl⟩)
          go_round
          case rel =>
            refine ⟨k + 1, by omega, by go_num, fun j hj => ?_⟩
            by_cases e : j = k
            · subst e; exact HQ.out
            · exact H.out j (by omega)
          case measure => simp [intOf]; omega
        | false =>
          have HQ := Lib.hid hq
          clear hq
          go_wp2_with (go_at_call 90; refine (isSet_at l len HL.out B A c (a + k) _ (by omega) false HQ.out _ (by omega) hl HA.out).mono ?_; rintro e w' ⟨rfl, rfl⟩)
          go_ret
          exact ⟨ret_i (by rw [run_is (fr l) a m k (by omega) H.out (.inr HQ.out)]), rfl⟩
      · obtain rfl : k = r := by omega
        go_wp2
        go_ret
        refine ⟨ret_i ?_, rfl⟩
        rw [run_is (fr l) a _ k (by omega) H.out ?_]
        exact .inr (by rw [HRA.out]; exact fr_big (Nat.le_refl _))
theorem zer_le (F : Nat → Bool) (p : Nat) : zer F p ≤ p := by
  induction p with
  | zero => exact Nat.le_refl _
  | succ p ih =>
    simp only [zer]
    split <;> omega
theorem zer_yes {F : Nat → Bool} {p : Nat} (h : F p = true) : zer F (p + 1) = zer F p + 1 := by simp [zer, h]
theorem zer_no {F : Nat → Bool} {p : Nat} (h : F p = false) : zer F (p + 1) = zer F p := by simp [zer, h]
set_option maxHeartbeats 400000 in
set_option maxRecDepth 100000 in
theorem Zeros_any (l : List UInt8) (len : Nat) (hlen : l.length = len) (B : Nat) (A : Option Addr) (c : Nat) (w : World) (hl : len ≤ 140737488355328) (hA : Sl w B A (l.map u8v)) :
    Calls Tryz.prog 40 #[.slice A len c] w fun e w' => e = .returned (.int .i64 (zeros l : Nat)) ∧ w = w' := by
  have HL := Lib.hid hlen
  have HA := Lib.hid hA
  clear hlen hA
  go_enter Tryz.func40, Tryz.ntmps40
  go_wp2
  go_loop [3, 5] (fun v i => ∃ k : Nat, k ≤ 2016 ∧ i = .int .i64 k ∧ v = .int .i64 (zer (fr l) k : Nat)) (fun _ i => 2016 - (intOf i).toNat)
  case atStart => exact ⟨0, Nat.zero_le _, rfl, rfl⟩
  case round =>
    obtain ⟨k, hk, rfl, hv⟩ := hrel
    have hz := zer_le (fr l) k
    obtain ⟨z, hz0⟩ : ∃ z, zer (fr l) k = z := ⟨_, rfl⟩
    rw [hz0] at hv hz
    subst hv
    by_cases hlt : k < 2016
    · cases hq : fr l k with
      | true =>
        have HS : Hid (zer (fr l) (k + 1) = z + 1) := Lib.hid (by rw [zer_yes hq, hz0])
        have HQ := Lib.hid hq
        clear hq hz0
        go_wp2_with (go_at_call 90; refine (isSet_at l len HL.out B A c k _ rfl true HQ.out _ (by omega) hl HA.out).mono ?_; rintro e w' ⟨rfl, rfl⟩)
        go_round
        case rel => exact ⟨k + 1, by omega, by go_num, by rw [HS.out]; go_num⟩
        case measure => simp [intOf]; omega
      | false =>
        have HS : Hid (zer (fr l) (k + 1) = z) := Lib.hid (by rw [zer_no hq, hz0])
        have HQ := Lib.hid hq
        clear hq hz0
        go_wp2_with (go_at_call 90; refine (isSet_at l len HL.out B A c k _ rfl false HQ.out _ (by omega) hl HA.out).mono ?_; rintro e w' ⟨rfl, rfl⟩)
        go_round
        case rel => exact ⟨k + 1, by omega, by go_num, by rw [HS.out]⟩
        case measure => simp [intOf]; omega
    · obtain rfl : k = 2016 := by omega
      have HS : Hid (zeros l = z) := Lib.hid hz0
      clear hz0
      go_wp2
      go_ret
      exact ⟨ret_i (by rw [HS.out]), rfl⟩
end Go.Proofs.YtgkindoidmglnaaGreatDoor.TWalk
/- Orders: orderAt, orderOf, choose. -/
namespace Go.Proofs.YtgkindoidmglnaaGreatDoor.TOrd
open Go.RowKit WMem WPlain TPlain TBits TSet TWalk

def SomeOrd (p d : Nat) (w : World) (e : Ending) (w' : World) : Prop := ∃ k : Nat, e = .returned (.int .i64 (k : Int)) ∧ OrdAt p d k ∧ w = w'
theorem pow10 {k : Nat} (h : k ≤ 10) : 2 ^ k ≤ 1024 ∧ 0 < 2 ^ k := ⟨by have := Nat.pow_le_pow_right (show 0 < 2 by decide) h; simpa using this, Nat.two_pow_pos _⟩
set_option maxHeartbeats 400000 in
set_option maxRecDepth 100000 in
theorem orderAt_any (p e : Nat) (w : World) (hpe : p < e) (he : e ≤ 2016) :
    Calls Tryz.prog 146 #[.int .i64 p, .int .i64 e] w (SomeOrd p (e - p) w) := by
  go_enter Tryz.func146, Tryz.ntmps146
  go_wp2
  go_loop [5] (fun v => ∃ k : Nat, k ≤ 10 ∧ v = .int .i64 k ∧ p % 2 ^ k = 0 ∧ 2 ^ k ≤ e - p) (fun v => 10 - (intOf v).toNat)
  case atStart => exact ⟨0, by omega, rfl, Nat.mod_one _, by omega⟩
  case round =>
    obtain ⟨k, hk, rfl, h1, h2⟩ := hrel
    have hp := pow10 hk
    by_cases hlt : k < 10
    · have d0 : decide ((k : Int) < 10) = true := by simp; omega
      have hq2 : 2 ^ (k + 1) ≤ 1024 ∧ 0 < 2 ^ (k + 1) := pow10 (by omega)
      obtain ⟨q, hq⟩ : ∃ q, 2 ^ (k + 1) = q := ⟨_, rfl⟩
      have hw : wrap64 (2 * 2 ^ k) = (q : Int) := by
        have e1 : (2 * 2 ^ k : Int) = (q : Int) := by rw [← hq, Nat.pow_succ]; push_cast; omega
        rw [e1, IntWalk.wrap64_in _ ⟨by omega, by omega⟩]
      rw [hq] at hq2
      have H1 := Lib.hid h1
      have H2 := Lib.hid h2
      have HQ := Lib.hid hq
      obtain ⟨hq3, hq4⟩ := hq2
      clear h1 h2 hq
      by_cases t1 : p % q = 0
      · have g1 : ((p : Int) % (q : Int) == 0) = true := by rw [beq_iff_eq]; omega
        by_cases t2 : q ≤ e - p
        · have g2 : decide ((q : Int) ≤ (e : Int) - (p : Int)) = true := by simp; omega
          have T1 := Lib.hid t1
          have T2 := Lib.hid t2
          clear t1 t2
          go_wp2
          go_round
          case rel => exact ⟨k + 1, by omega, by go_num, by rw [HQ.out]; exact T1.out, by rw [HQ.out]; exact T2.out⟩
          case measure => simp [intOf]; omega
        · have g2 : decide ((q : Int) ≤ (e : Int) - (p : Int)) = false := by simp; omega
          have T2 := Lib.hid t2
          clear t1 t2
          go_wp2
          go_ret
          exact ⟨k, rfl, ⟨hk, H1.out, H2.out, .inr (.inr (by rw [HQ.out]; have := T2.out; omega))⟩, rfl⟩
      · have g1 : ((p : Int) % (q : Int) == 0) = false := by rw [beq_eq_false_iff_ne]; omega
        have T1 := Lib.hid t1
        clear t1
        go_wp2
        go_ret
        exact ⟨k, rfl, ⟨hk, H1.out, H2.out, .inr (.inl (by rw [HQ.out]; exact T1.out))⟩, rfl⟩
    · obtain rfl : k = 10 := by omega
      have H1 := Lib.hid h1
      have H2 := Lib.hid h2
      clear h1 h2 hp
      go_wp2
      go_ret
      exact ⟨10, rfl, ⟨hk, H1.out, H2.out, .inl rfl⟩, rfl⟩
theorem ordOf_is {want : Int} {k : Nat} (h : ∀ j, j < k → ((2 ^ j : Nat) : Int) < want) (hk : k < 10 ∧ want ≤ ((2 ^ k : Nat) : Int) ∨ k = 10) : ordOf want = k := by
  unfold ordOf
  cases e : upFrom (fun j => decide (want ≤ ((2 ^ j : Nat) : Int))) 0 10 with
  | none =>
    have h2 := upFrom_none e
    rcases hk with ⟨h3, h4⟩ | h3
    · have := h2 k (by omega) (by omega); simp at this; simp at h4; omega
    · simp [h3]
  | some r =>
    obtain ⟨h1, h2, h3, h4⟩ := upFrom_some e
    simp only [decide_eq_true_eq, decide_eq_false_iff_not] at h3 h4
    simp only [Option.getD_some]
    rcases Nat.lt_trichotomy r k with hl | hl | hl
    · have := h r hl; omega
    · exact hl
    · rcases hk with ⟨h5, h6⟩ | h5
      · exact absurd h6 (h4 k (by omega) hl)
      · omega
set_option maxHeartbeats 400000 in
set_option maxRecDepth 100000 in
theorem orderOf_any (want : Int) (w : World) :
    Calls Tryz.prog 107 #[.int .i64 want] w fun e w' => e = .returned (.int .i64 (ordOf want : Nat)) ∧ w = w' := by
  go_enter Tryz.func107, Tryz.ntmps107
  go_wp2
  go_loop [4] (fun v => ∃ k : Nat, k ≤ 10 ∧ v = .int .i64 k ∧ ∀ j, j < k → ((2 ^ j : Nat) : Int) < want) (fun v => 10 - (intOf v).toNat)
  case atStart => exact ⟨0, by omega, rfl, fun j hj => by omega⟩
  case round =>
    obtain ⟨k, hk, rfl, h1⟩ := hrel
    have H1 := Lib.hid h1
    clear h1
    by_cases hlt : k < 10
    · have hp := pow10 hk
      obtain ⟨q, hq⟩ : ∃ q, 2 ^ k = q := ⟨_, rfl⟩
      have hw : wrap64 (2 ^ k) = (q : Int) := by
        have e1 : (2 ^ k : Int) = (q : Int) := by rw [← hq]; push_cast; rfl
        rw [e1, IntWalk.wrap64_in _ ⟨by omega, by omega⟩]
      rw [hq] at hp
      have HQ := Lib.hid hq
      clear hq
      by_cases t1 : want ≤ q
      · have T1 := Lib.hid t1
        go_wp2
        go_ret
        exact ⟨ret_i (by rw [ordOf_is H1.out (.inl ⟨hlt, by rw [HQ.out]; exact T1.out⟩)]), rfl⟩
      · have T1 := Lib.hid t1
        go_wp2
        go_round
        case rel =>
          refine ⟨k + 1, by omega, by go_num, fun j hj => ?_⟩
          by_cases e : j = k
          · subst e; rw [HQ.out]; have := T1.out; omega
          · exact H1.out j (by omega)
        case measure => simp [intOf]; omega
    · obtain rfl : k = 10 := by omega
      go_wp2
      go_ret
      exact ⟨ret_i (by rw [ordOf_is H1.out (.inr rfl)]; rfl), rfl⟩
/-- eleven counts as an array -/
abbrev arr (f : Nat → Nat) : Value := .agg #[.int .i64 (f 0 : Nat), .int .i64 (f 1 : Nat), .int .i64 (f 2 : Nat), .int .i64 (f 3 : Nat), .int .i64 (f 4 : Nat), .int .i64 (f 5 : Nat), .int .i64 (f 6 : Nat), .int .i64 (f 7 : Nat), .int .i64 (f 8 : Nat), .int .i64 (f 9 : Nat), .int .i64 (f 10 : Nat)]
/-- its cells -/
def vals (f : Nat → Nat) (n : Nat) : List Value := (List.range n).map fun k => .int .i64 (f k : Nat)
theorem vals_len (f : Nat → Nat) (n : Nat) : (vals f n).length = n := by simp [vals]
theorem vals_at (f : Nat → Nat) {n k : Nat} (hk : k < n) : (vals f n)[k]? = some (.int .i64 (f k : Nat)) := by
  simp [vals, List.getElem?_map, List.getElem?_range hk]
/-- is there a chunk of that order? -/
def hasB (f : Nat → Nat) (j : Nat) : Bool := decide (0 < f j)
theorem chs_up {P : Nat → Bool} {k j : Nat} (hkj : k ≤ j) (hj : j ≤ 10) (hn : ∀ i, k ≤ i → i < j → P i = false) (hp : P j = true) : chs P k = j := by
  unfold chs chsO
  cases e : upFrom P k (11 - k) with
  | none => rw [upFrom_none e j hkj (by omega)] at hp; cases hp
  | some r =>
    obtain ⟨h1, h2, h3, h4⟩ := upFrom_some e
    have : r = j := by
      rcases Nat.lt_trichotomy r j with hl | hl | hl
      · rw [hn r h1 hl] at h3; cases h3
      · exact hl
      · rw [h4 j hkj hl] at hp; cases hp
    subst this
    rfl
theorem up_none {P : Nat → Bool} {k : Nat} (hn : ∀ i, k ≤ i → i < 11 → P i = false) : upFrom P k (11 - k) = none := by
  cases e : upFrom P k (11 - k) with
  | none => rfl
  | some r =>
    obtain ⟨h1, h2, h3, h4⟩ := upFrom_some e
    rw [hn r h1 (by omega)] at h3; cases h3
theorem chs_down {P : Nat → Bool} {k j : Nat} (hn : ∀ i, k ≤ i → i < 11 → P i = false) (hjk : j < k) (hm : ∀ i, j < i → i < k → P i = false) (hp : P j = true) : chs P k = j := by
  unfold chs chsO
  rw [up_none hn]
  cases e : downFrom P k with
  | none => rw [downFrom_none e j hjk] at hp; cases hp
  | some r =>
    obtain ⟨h1, h3, h4⟩ := downFrom_some e
    have : r = j := by
      rcases Nat.lt_trichotomy r j with hl | hl | hl
      · rw [h4 j hl hjk] at hp; cases hp
      · exact hl
      · rw [hm r hl h1] at h3; cases h3
    subst this
    rfl
theorem chs_none {P : Nat → Bool} {k : Nat} (hn : ∀ i, k ≤ i → i < 11 → P i = false) (hm : ∀ i, i < k → P i = false) : chs P k = -1 := by
  unfold chs chsO
  rw [up_none hn]
  cases e : downFrom P k with
  | none => rfl
  | some r =>
    obtain ⟨h1, h3, h4⟩ := downFrom_some e
    rw [hm r h1] at h3; cases h3
set_option maxHeartbeats 400000 in
set_option maxRecDepth 100000 in
theorem choose_any (f : Nat → Nat) (k : Nat) (hk : k ≤ 10) (w : World) :
    Calls Tryz.prog 106 #[arr f, .int .i64 k] w fun e w' => e = .returned (.int .i64 (chs (hasB f) k)) ∧ Below w.heap.size w w' := by
  have hrow : RowV (w.alloc (.cells #[.int .i64 (f 0 : Nat), .int .i64 (f 1 : Nat), .int .i64 (f 2 : Nat), .int .i64 (f 3 : Nat), .int .i64 (f 4 : Nat), .int .i64 (f 5 : Nat), .int .i64 (f 6 : Nat), .int .i64 (f 7 : Nat), .int .i64 (f 8 : Nat), .int .i64 (f 9 : Nat), .int .i64 (f 10 : Nat)] 166)) w.heap.size 166 (vals f 11) := row_new w _
  have HR := Lib.hid hrow
  clear hrow
  go_enter Tryz.func106, Tryz.ntmps106
  go_wp2
  go_loopw [5] (fun v wr => ∃ j : Nat, k ≤ j ∧ j ≤ 11 ∧ v = .int .i64 j ∧ (∀ i, k ≤ i → i < j → hasB f i = false) ∧ RowV wr w.heap.size 166 (vals f 11) ∧ Below w.heap.size w wr) (fun v _ => 11 - (intOf v).toNat)
  case atStart => exact ⟨k, Nat.le_refl _, by omega, rfl, fun i h1 h2 => by omega, HR.out, (Below.refl _ _).alloc (Nat.le_refl _) _⟩
  case round =>
    obtain ⟨j, hkj, hj, rfl, hno, hR, hb⟩ := hrel
    have HN := Lib.hid hno
    have HR := Lib.hid hR
    have HB := Lib.hid hb
    clear hno hR hb
    by_cases hlt : j < 11
    · have hcell : wr.cell? ⟨w.heap.size, j, none⟩ = some (.int .i64 (f j : Nat)) := (row_cell HR.out j).trans (by rw [List.getElem?_toArray]; exact vals_at f hlt)
      obtain ⟨q, hq⟩ : ∃ q, f j = q := ⟨_, rfl⟩
      rw [hq] at hcell
      have hd0 : decide ((j : Int) ≤ 10) = true := by simp; omega
      by_cases hz : 0 < q
      · have hd : decide ((0 : Int) < (q : Int)) = true := by simp; omega
        have HQ := Lib.hid hq
        clear hq
        go_wp2
        go_ret
        exact ⟨ret_i (chs_up hkj (by omega) HN.out (by unfold hasB; rw [HQ.out]; simpa using hz)).symm, HB.out⟩
      · have hd : decide ((0 : Int) < (q : Int)) = false := by simp; omega
        have HQ : Hid (hasB f j = false) := Lib.hid (by unfold hasB; rw [hq]; simp; omega)
        clear hq
        go_wp2
        go_roundw
        case rel =>
          refine ⟨j + 1, by omega, by omega, by go_num, fun i h1 h2 => ?_, HR.out, HB.out⟩
          by_cases e : i = j
          · subst e; exact HQ.out
          · exact HN.out i h1 (by omega)
        case measure => simp [intOf]; omega
    · obtain rfl : j = 11 := by omega
      have hd0 : decide (((11 : Nat) : Int) ≤ 10) = false := by decide
      obtain ⟨wo, rfl⟩ : ∃ wo : World, wo = wr := ⟨_, rfl⟩
      have hk1 : wrap64 ((k : Int) - 1) = (k : Int) - 1 := IntWalk.wrap64_in _ ⟨by omega, by omega⟩
      go_wp2
      go_loopw [6] (fun v wr => ∃ j : Nat, j ≤ k ∧ v = .int .i64 ((j : Int) - 1) ∧ (∀ i, j ≤ i → i < k → hasB f i = false) ∧ RowV wr w.heap.size 166 (vals f 11) ∧ Below w.heap.size w wr) (fun v _ => (intOf v + 1).toNat)
      case atStart => exact ⟨k, Nat.le_refl _, rfl, fun i h1 h2 => by omega, HR.out, HB.out⟩
      case round =>
        obtain ⟨j, hjk, rfl, hno, hR, hb⟩ := hrel
        have HM := Lib.hid hno
        have HS := Lib.hid hR
        have HC := Lib.hid hb
        clear hno hR hb
        rcases j with _ | j
        · rw [show (((0 : Nat) : Int) - 1) = -1 by omega]
          go_wp2
          go_ret
          exact ⟨ret_i (chs_none HN.out fun i h => HM.out i (by omega) h).symm, HC.out⟩
        · rw [show (((j + 1 : Nat) : Int) - 1) = (j : Int) by omega]
          have hcell : wr.cell? ⟨w.heap.size, j, none⟩ = some (.int .i64 (f j : Nat)) := (row_cell HS.out j).trans (by rw [List.getElem?_toArray]; exact vals_at f (by omega))
          obtain ⟨q, hq⟩ : ∃ q, f j = q := ⟨_, rfl⟩
          rw [hq] at hcell
          by_cases hz : 0 < q
          · have hd : ((q : Int) == 0) = false := by rw [beq_eq_false_iff_ne]; omega
            have HQ := Lib.hid hq
            clear hq
            go_wp2
            go_ret
            exact ⟨ret_i (chs_down HN.out (by omega) (fun i h1 h2 => HM.out i (by omega) h2) (by unfold hasB; rw [HQ.out]; simpa using hz)).symm, HC.out⟩
          · have hd : ((q : Int) == 0) = true := by rw [beq_iff_eq]; omega
            have HQ : Hid (hasB f j = false) := Lib.hid (by unfold hasB; rw [hq]; simp; omega)
            clear hq
            go_wp2
            go_roundw
            case rel =>
              refine ⟨j, by omega, rfl, fun i h1 h2 => ?_, HS.out, HC.out⟩
              by_cases e : i = j
              · subst e; exact HQ.out
              · exact HM.out i (by omega) h2
            case measure => simp [intOf]
end Go.Proofs.YtgkindoidmglnaaGreatDoor.TOrd
/- The statements' own helper: a block of one byte. -/
namespace Go.Proofs.YtgkindoidmglnaaGreatDoor.EFill
open Go.RowKit WMem WPlain WAppend Mk DPlain

theorem octet_go (x : Int) : IntKind.u8.wrap x = ((octet x).toNat : Int) := by
  rw [IntKind.wrap_u8']
  unfold octet
  simp
  omega
/-- a block that is filled so far -/
def fillTo (n : Nat) (x : UInt8) (k : Nat) : List UInt8 := List.replicate k x ++ List.replicate (n - k) 0
theorem fillTo_len (n : Nat) (x : UInt8) (k : Nat) (h : k ≤ n) : (fillTo n x k).length = n := by simp [fillTo]; omega
theorem fillTo_set (n : Nat) (x : UInt8) (k : Nat) (h : k < n) : (fillTo n x k).set k x = fillTo n x (k + 1) := by
  unfold fillTo
  rw [List.set_append_right _ _ (by simp), List.length_replicate, Nat.sub_self, show n - k = (n - (k + 1)) + 1 by omega, List.replicate_succ, List.set_cons_zero, List.replicate_succ']
  simp
theorem fillTo_zero (n : Nat) (x : UInt8) : fillTo n x 0 = List.replicate n 0 := by simp [fillTo]
theorem fillTo_all (n : Nat) (x : UInt8) : fillTo n x n = List.replicate n x := by simp [fillTo]

end Go.Proofs.YtgkindoidmglnaaGreatDoor.EFill
