/- isSet, isPlace, sizeMayBe; the document's Set. -/
import Derived.Test.YtgjcbfdhpbkhoaaGreatDoorProg
import Derived.Test.YtgjcbfdhpbkhoaaGreatDoorMg1
import Derived.Test.YtgjcbfdhpbkhoaaGreatDoorMg2
import Derived.WalkKit
import Derived.WalkSpells
import Derived.WalkLawsBesides
import Derived.IntWalk
import Derived.Test.YtgjcbfdhpbkhoaaGreatDoorMg12
namespace Go.Proofs.YtgjcbfdhpbkhoaaGreatDoor.TSet
open Go.RowKit WMem WPlain TPlain TBits
theorem and1 (y : Nat) (hy : y < 256) : bits BinOp.and IntKind.u8 (y : Int) 1 = ((y % 2 : Nat) : Int) := by
  show IntKind.u8.wrap ((BitVec.ofInt 8 (y : Int) &&& BitVec.ofInt 8 1).toNat : Int) = _
  have h : (BitVec.ofInt 8 (y : Int) &&& BitVec.ofInt 8 1).toNat = y % 2 := by
    rw [BitVec.toNat_and]
    have h1 : (BitVec.ofInt 8 (y : Int)).toNat = y := by simp; omega
    have h2 : (BitVec.ofInt 8 1).toNat = 1 := by decide
    rw [h1, h2, Nat.and_one_is_mod]
  rw [h, IntKind.wrap_u8']
  omega
theorem bit_go (x s : Nat) (hx : x < 256) : (bits BinOp.and IntKind.u8 ((x : Int) / 2 ^ s) 1 == 1) = x.testBit s := by
  have h : ((x / 2 ^ s : Nat) : Int) = (x : Int) / 2 ^ s := by simp
  have h2 : x / 2 ^ s < 256 := Nat.lt_of_le_of_lt (Nat.div_le_self _ _) hx
  rw [← h, and1 _ h2, Nat.testBit_eq_decide_div_mod_eq, Bool.eq_iff_iff]
  simp only [beq_iff_eq, decide_eq_true_eq]
  omega
theorem ret_bool {a b : Bool} (h : a = b) : Ending.returned (.bool a) = .returned (.bool b) := by rw [h]
set_option maxHeartbeats 400000 in
theorem isSet_in (l : List UInt8) (B : Nat) (A : Option Addr) (c i : Nat) (w : World) (hi : i < 2016) (h : i / 8 < l.length) (hl : l.length ≤ 140737488355328) (hA : Sl w B A (l.map u8v)) :
    Calls Tryz.prog 155 #[.slice A l.length c, .int .i64 i] w fun e w' => e = .returned (.bool (!fr l i)) ∧ w = w' := by
  obtain ⟨a, rfl, _, hc⟩ := hA.u8 h
  have hf := fr_in hi h
  have hx := byte_lt l[i / 8]
  generalize l[i / 8].toNat = x at *
  have hf2 : (bits BinOp.and IntKind.u8 ((x : Int) / 2 ^ (i % 8)) 1 == 1) = (!fr l i) := by rw [hf, bit_go x _ hx]; simp
  have HF := Lib.hid hf2
  clear hf hf2 hA
  have d1 : decide ((l.length : Int) ≤ (i : Int) / 8) = false := by simp; omega
  go_enter Tryz.func155, Tryz.ntmps155
  go_wp2
  go_ret
  exact ⟨ret_bool (by rw [HF.out]), rfl⟩
set_option maxHeartbeats 400000 in
theorem isSet_out (len : Nat) (A : Option Addr) (c i : Nat) (w : World) (hi : i < 2016) (h : len ≤ i / 8) :
    Calls Tryz.prog 155 #[.slice A len c, .int .i64 i] w fun e w' => e = .returned (.bool true) ∧ w = w' := by
  have d1 : decide ((len : Int) ≤ (i : Int) / 8) = true := by simp; omega
  go_enter Tryz.func155, Tryz.ntmps155
  go_wp2
  go_ret
  exact ⟨rfl, rfl⟩
theorem isSet_any (l : List UInt8) (B : Nat) (A : Option Addr) (c i : Nat) (w : World) (hi : i < 2016) (hl : l.length ≤ 140737488355328) (hA : Sl w B A (l.map u8v)) :
    Calls Tryz.prog 155 #[.slice A l.length c, .int .i64 i] w fun e w' => e = .returned (.bool (!fr l i)) ∧ w = w' := by
  by_cases h : i / 8 < l.length
  · exact isSet_in l B A c i w hi h hl hA
  · rw [fr_out (by omega)]
    exact isSet_out l.length A c i w hi (by omega)
theorem isSet_at (l : List UInt8) (len : Nat) (hlen : l.length = len) (B : Nat) (A : Option Addr) (c i : Nat) (x : Int) (hx : x = (i : Int)) (q : Bool) (hq : fr l i = q) (w : World) (hi : i < 2016) (hl : len ≤ 140737488355328) (hA : Sl w B A (l.map u8v)) :
    Calls Tryz.prog 155 #[.slice A len c, .int .i64 x] w fun e w' => e = .returned (.bool (!q)) ∧ w = w' := by
  subst hlen hx hq
  exact isSet_any l B A c i w hi hl hA
def sizeB (n : Int) : Bool := decide (0 ≤ n ∧ n ≤ 2016)
def placeB (i : Int) : Bool := decide (0 ≤ i ∧ i < 2016)
set_option maxHeartbeats 400000 in
theorem sizeMayBe_any (n : Int) (w : World) : Calls Tryz.prog 138 #[.int .i64 n] w fun e w' => e = .returned (.bool (sizeB n)) ∧ w = w' := by
  by_cases h : 0 ≤ n
  · have d1 : decide (0 ≤ n) = true := by simpa using h
    have e : sizeB n = decide (n ≤ 2016) := by simp [sizeB, h]
    rw [e]
    clear e
    go_enter Tryz.func138, Tryz.ntmps138
    go_wp2
    go_ret
    exact ⟨rfl, rfl⟩
  · have d1 : decide (0 ≤ n) = false := by simpa using h
    have e : sizeB n = false := by simp [sizeB, h]
    rw [e]
    clear e h
    go_enter Tryz.func138, Tryz.ntmps138
    go_wp2
    go_ret
    exact ⟨rfl, rfl⟩
theorem div_step (x k : Nat) : x / 2 ^ k / 2 = x / 2 ^ (k + 1) := by rw [Nat.div_div_eq_div_mul, Nat.pow_succ]
set_option maxHeartbeats 400000 in
theorem refSet_in (l : List UInt8) (B : Nat) (A : Option Addr) (c i : Nat) (w : World) (hi : i < 2016) (h : i / 8 < l.length) (hl : l.length ≤ 140737488355328) (hA : Sl w B A (l.map u8v)) :
    Calls Tryz.prog 122 #[.slice A l.length c, .int .i64 i] w fun e w' => e = .returned (.bool (!fr l i)) ∧ w = w' := by
  obtain ⟨a, rfl, _, hc⟩ := hA.u8 h
  have hf := fr_in hi h
  have hx := byte_lt l[i / 8]
  generalize l[i / 8].toNat = x at *
  have hf2 : (((x / 2 ^ (i % 8) : Nat) : Int) % 2 == 1) = (!fr l i) := by rw [hf, ← testBit_go]; simp
  have HF := Lib.hid hf2
  clear hf hf2 hA
  have d0 : decide ((i : Int) < 0) = false := by simp
  have d1 : decide ((l.length : Int) ≤ (i : Int) / 8) = false := by simp; omega
  have d2 : decide ((2016 : Int) ≤ (i : Int)) = false := by simp; omega
  go_enter Tryz.func122, Tryz.ntmps122
  go_wp2
  go_loop [5, 6] (fun v j => ∃ k : Nat, k ≤ i % 8 ∧ j = .int .i64 k ∧ v = .int .i64 ((x / 2 ^ k : Nat) : Int)) (fun _ j => i % 8 - (intOf j).toNat)
  case atStart => exact ⟨0, Nat.zero_le _, rfl, by simp⟩
  case round =>
    obtain ⟨k, hk, rfl, rfl⟩ := hrel
    have HS := Lib.hid (div_step x k)
    have hd : x / 2 ^ k < 256 := Nat.lt_of_le_of_lt (Nat.div_le_self _ _) hx
    by_cases hlt : k < i % 8
    · generalize x / 2 ^ k = y at *
      go_wp2
      go_round
      case rel => exact ⟨k + 1, by omega, by go_num, by rw [← HS.out]; go_num⟩
      case measure => simp [intOf]; omega
    · obtain rfl : k = i % 8 := by omega
      generalize x / 2 ^ (i % 8) = y at *
      go_wp2
      go_ret
      exact ⟨ret_bool HF.out, rfl⟩
set_option maxHeartbeats 400000 in
theorem refSet_out (len : Nat) (A : Option Addr) (c : Nat) (i : Int) (w : World) (h : i < 0 ∨ 2016 ≤ i ∨ (0 ≤ i ∧ i < 2016 ∧ (len : Int) ≤ i / 8)) :
    Calls Tryz.prog 122 #[.slice A len c, .int .i64 i] w fun e w' => e = .returned (.bool true) ∧ w = w' := by
  rcases h with h | h | ⟨h0, h1, h⟩
  · have d0 : decide (i < 0) = true := by simpa using h
    clear h
    go_enter Tryz.func122, Tryz.ntmps122
    go_wp2
    go_ret
    exact ⟨rfl, rfl⟩
  · have d0 : decide (i < 0) = false := by simp; omega
    have d1 : decide ((2016 : Int) ≤ i) = true := by simpa using h
    go_enter Tryz.func122, Tryz.ntmps122
    go_wp2
    go_ret
    exact ⟨rfl, rfl⟩
  · have d0 : decide (i < 0) = false := by simp; omega
    have d1 : decide ((2016 : Int) ≤ i) = false := by simp; omega
    have d2 : decide ((len : Int) ≤ i / 8) = true := by simpa using h
    go_enter Tryz.func122, Tryz.ntmps122
    go_wp2
    go_ret
    exact ⟨rfl, rfl⟩
theorem refSet_any (l : List UInt8) (len : Nat) (hlen : l.length = len) (B : Nat) (A : Option Addr) (c : Nat) (i : Int) (q : Bool) (hq : frI l i = q) (w : World) (hl : len ≤ 140737488355328) (hA : Sl w B A (l.map u8v)) :
    Calls Tryz.prog 122 #[.slice A len c, .int .i64 i] w fun e w' => e = .returned (.bool (!q)) ∧ w = w' := by
  subst hlen hq
  by_cases h0 : 0 ≤ i
  · obtain ⟨i, rfl⟩ := Int.eq_ofNat_of_zero_le h0
    rw [frI_nat]
    by_cases h1 : i < 2016
    · by_cases h : i / 8 < l.length
      · exact refSet_in l B A c i w h1 h hl hA
      · rw [fr_out (by omega)]
        exact refSet_out l.length A c i w (.inr (.inr ⟨by omega, by omega, by omega⟩))
    · rw [fr_big (by omega)]
      exact refSet_out l.length A c i w (.inr (.inl (by omega)))
  · have : frI l i = false := by simp [frI, h0]
    rw [this]
    exact refSet_out l.length A c i w (.inl (by omega))
theorem refSet_nat (l : List UInt8) (len : Nat) (hlen : l.length = len) (B : Nat) (A : Option Addr) (c i : Nat) (x : Int) (hx : x = (i : Int)) (q : Bool) (hq : fr l i = q) (w : World) (hl : len ≤ 140737488355328) (hA : Sl w B A (l.map u8v)) :
    Calls Tryz.prog 122 #[.slice A len c, .int .i64 x] w fun e w' => e = .returned (.bool (!q)) ∧ w = w' := by
  subst hx
  exact refSet_any l len hlen B A c i q (by rw [frI_nat]; exact hq) w hl hA
end Go.Proofs.YtgjcbfdhpbkhoaaGreatDoor.TSet
/- The program's walks over bits: allAre, freeFrom, Zeros, orderAt, orderOf, choose; the document's Zeros. -/
namespace Go.Proofs.YtgjcbfdhpbkhoaaGreatDoor.TWalk
open Go.RowKit WMem WPlain TPlain TBits TSet
theorem ret_i {a b : Int} (h : a = b) : Ending.returned (.int .i64 a) = .returned (.int .i64 b) := by rw [h]
set_option maxHeartbeats 400000 in
theorem allAre_any (l : List UInt8) (len : Nat) (hlen : l.length = len) (B : Nat) (A : Option Addr) (c a n : Nat) (x y : Int) (hx : x = (a : Int)) (hy : y = (n : Int)) (set : Bool) (w : World) (hn : a + n ≤ 2016) (hl : len ≤ 140737488355328) (hA : Sl w B A (l.map u8v)) :
    Calls Tryz.prog 142 #[.slice A len c, .int .i64 x, .int .i64 y, .bool set] w fun e w' => e = .returned (.bool (allB l a n set)) ∧ w = w' := by
  subst hx hy
  have HL := Lib.hid hlen
  have HA := Lib.hid hA
  clear hlen hA
  go_enter Tryz.func142, Tryz.ntmps142
  go_wp2
  go_loop [11] (fun i => ∃ k : Nat, k ≤ n ∧ i = .int .i64 k ∧ ∀ j, j < k → (!fr l (a + j)) = set) (fun i => n - (intOf i).toNat)
  case atStart => exact ⟨0, Nat.zero_le _, rfl, fun j hj => by omega⟩
  case round =>
    obtain ⟨k, hk, rfl, hall⟩ := hrel
    have H := Lib.hid hall
    clear hall
    by_cases hlt : k < n
    · obtain ⟨q, hq⟩ : ∃ q, fr l (a + k) = q := ⟨_, rfl⟩
      have HQ := Lib.hid hq
      clear hq
      by_cases hs : (!q) = set
      · have hs2 : ((!q) == set) = true := by rw [hs]; simp
        have HS := Lib.hid hs
        clear hs
        go_wp2_with (go_at_call 155; refine (isSet_at l len HL.out B A c (a + k) _ (by omega) q HQ.out _ (by omega) hl HA.out).mono ?_; rintro e w' ⟨rfl, rfl⟩)
        go_round
        case rel =>
          refine ⟨k + 1, by omega, by go_num, fun j hj => ?_⟩
          by_cases e : j = k
          · subst e; rw [HQ.out]; exact HS.out
          · exact H.out j (by omega)
        case measure => simp [intOf]; omega
      · have hs2 : ((!q) == set) = false := by simpa using hs
        have HS := Lib.hid hs
        clear hs
        go_wp2_with (go_at_call 155; refine (isSet_at l len HL.out B A c (a + k) _ (by omega) q HQ.out _ (by omega) hl HA.out).mono ?_; rintro e w' ⟨rfl, rfl⟩)
        go_ret
        exact ⟨ret_bool (allB_no hlt (by rw [HQ.out]; exact HS.out)).symm, rfl⟩
    · obtain rfl : k = n := by omega
      go_wp2
      go_ret
      exact ⟨ret_bool (allB_iff.2 H.out).symm, rfl⟩
end Go.Proofs.YtgjcbfdhpbkhoaaGreatDoor.TWalk
/- Orders: orderAt, orderOf, choose. -/
namespace Go.Proofs.YtgjcbfdhpbkhoaaGreatDoor.TOrd
open Go.RowKit WMem WPlain TPlain TBits TSet TWalk
def hasB (f : Nat → Nat) (j : Nat) : Bool := decide (0 < f j)
end Go.Proofs.YtgjcbfdhpbkhoaaGreatDoor.TOrd
/- The statements' own helper: a block of one byte. -/
namespace Go.Proofs.YtgjcbfdhpbkhoaaGreatDoor.EFill
open Go.RowKit WMem WPlain WAppend Mk DPlain
end Go.Proofs.YtgjcbfdhpbkhoaaGreatDoor.EFill
