/- The walk that cuts a row of free bits into chunks: cut, buddiesOf, Orders. -/
import Derived.Test.YtgjcbfdhpbkhoaaGreatDoorMg3
import Derived.RegionTactic
import Derived.ChangeAlike
import Derived.StillTailTactics
import Derived.Test.YtgjcbfdhpbkhoaaGreatDoorMg1
namespace Go.Proofs.YtgjcbfdhpbkhoaaGreatDoor.TCut
open Go.RowKit WMem WPlain TPlain TBits TSet TWalk TOrd
theorem grown_drew {a w : World} {row : Option Nat} (h : a.grownBy w row) : a.grownBy w.drew row := ⟨h.os, h.tape, h.output, h.size, h.block⟩
end Go.Proofs.YtgjcbfdhpbkhoaaGreatDoor.TCut
/- Bits that are turned: turn. -/
namespace Go.Proofs.YtgjcbfdhpbkhoaaGreatDoor.TTurn
open Go.RowKit WMem WPlain TPlain TBits TSet TWalk TOrd TCut
def flipB (x : UInt8) (s : Nat) : UInt8 := UInt8.ofNat (x.toNat ^^^ 2 ^ s)
def flip (l : List UInt8) (i : Nat) : List UInt8 := l.set (i / 8) (flipB (l.getD (i / 8) 0) (i % 8))
def flips (l : List UInt8) (a : Nat) : Nat → List UInt8
  | 0 => l
  | n + 1 => flip (flips l a n) (a + n)
theorem flip_len (l : List UInt8) (i : Nat) : (flip l i).length = l.length := by simp [flip]
theorem flips_len (l : List UInt8) (a n : Nat) : (flips l a n).length = l.length := by
  induction n with
  | zero => rfl
  | succ n ih => simp only [flips]; rw [flip_len, ih]
theorem xor_go (x : UInt8) (s : Nat) (hs : s < 8) : bits BinOp.xor IntKind.u8 (x.toNat : Int) (IntKind.u8.wrap (2 ^ s)) = ((flipB x s).toNat : Int) := by
  have hx := byte_lt x
  have h2 : 2 ^ s < 256 := Nat.lt_of_le_of_lt (Nat.pow_le_pow_right (by decide) (show s ≤ 7 by omega)) (by decide)
  have h0 : IntKind.u8.wrap (2 ^ s) = (2 ^ s : Int) := by
    rw [show (2 : Int) ^ s = ((2 ^ s : Nat) : Int) by push_cast; rfl, IntKind.wrap_u8']
    generalize 2 ^ s = m at h2 ⊢
    omega
  rw [h0]
  show IntKind.u8.wrap ((BitVec.ofInt 8 (x.toNat : Int) ^^^ BitVec.ofInt 8 (2 ^ s)).toNat : Int) = _
  have h : (BitVec.ofInt 8 (x.toNat : Int) ^^^ BitVec.ofInt 8 (2 ^ s)).toNat = x.toNat ^^^ 2 ^ s := by
    rw [BitVec.toNat_xor]
    have h1 : (BitVec.ofInt 8 (x.toNat : Int)).toNat = x.toNat := by simp
    have h3 : (BitVec.ofInt 8 (2 ^ s)).toNat = 2 ^ s := by
      rw [show (2 : Int) ^ s = ((2 ^ s : Nat) : Int) by push_cast; rfl]
      simp only [BitVec.ofInt_natCast, BitVec.toNat_ofNat]
      exact Nat.mod_eq_of_lt h2
    rw [h1, h3]
  have h4 : x.toNat ^^^ 2 ^ s < 256 := Nat.xor_lt_two_pow (n := 8) hx h2
  rw [h, IntKind.wrap_u8']
  unfold flipB
  simp only [UInt8.toNat_ofNat']
  omega
set_option maxHeartbeats 400000 in
set_option maxRecDepth 100000 in
theorem turn_any (l : List UInt8) (rest : List Value) (g c a n : Nat) (w : World) (hl : l.length = 256) (hn : a + n ≤ 2016) (hR : Row w g l rest) :
    Calls Tryz.prog 139 #[.slice (some ⟨g, 0, none⟩) 256 c, .int .i64 a, .int .i64 n] w fun e w' => e = .returned (.tuple #[]) ∧ Row w' g (flips l a n) rest ∧ w.grownBy w' (some g) := by
  have HR0 := Lib.hid hR
  have HL := Lib.hid hl
  clear hR hl
  go_enter Tryz.func139, Tryz.ntmps139
  go_wp2
  go_loopw [9] (fun i wr => ∃ k : Nat, k ≤ n ∧ i = .int .i64 k ∧ Row wr g (flips l a k) rest ∧ w.grownBy wr (some g)) (fun i _ => n - (intOf i).toNat)
  case atStart => exact ⟨0, Nat.zero_le _, rfl, HR0.out, grown_refl _ _⟩
  case round =>
    obtain ⟨k, hk, rfl, hR, hG⟩ := hrel
    have HR := Lib.hid hR
    have HG := Lib.hid hG
    clear hR hG
    by_cases hlt : k < n
    · have hlen : (flips l a k).length = 256 := (flips_len l a k).trans HL.out
      obtain ⟨i, hi⟩ : ∃ i, a + k = i := ⟨_, rfl⟩
      have hiI : wrap64 ((a : Int) + (k : Int)) = (i : Int) := by rw [IntWalk.wrap64_in _ ⟨by omega, by omega⟩]; omega
      have hiI2 : (a : Int) + (k : Int) = (i : Int) := by omega
      have hi2 : i / 8 < (flips l a k).length := by omega
      have hc := HR.out.cell (i := i / 8) hi2
      have hf := HR.out.free (i / 8)
      obtain ⟨x, hxe⟩ : ∃ x, (flips l a k)[i / 8]'hi2 = x := ⟨_, rfl⟩
      rw [hxe] at hc
      have HX : Hid ((flips l a k).getD (i / 8) 0 = x) := Lib.hid (by rw [← hxe]; simp [hi2])
      have hx := byte_lt x
      clear hxe
      obtain ⟨j, hj⟩ : ∃ j, i / 8 = j := ⟨_, rfl⟩
      obtain ⟨s, hs⟩ : ∃ s, i % 8 = s := ⟨_, rfl⟩
      have hs8 : s < 8 := by omega
      have hsI : (s : Int) < 8 := by omega
      have hjI : (j : Int) < 256 := by omega
      have hj0 : (0 : Int) ≤ (j : Int) := by omega
      have hq1 : IntKind.i64.wrap ((i : Int) / 8) = (j : Int) := by rw [IntKind.wrap_i64]; omega
      have hq2 : IntKind.i64.wrap ((i : Int) % 8) = (s : Int) := by rw [IntKind.wrap_i64]; omega
      have hq3 : (i : Int).tmod 8 = (s : Int) := by rw [Int.tmod_eq_emod_of_nonneg (by omega)]; omega
      rw [hj] at hc hf HX
      have hv := xor_go x s hs8
      obtain ⟨y, hy⟩ : ∃ y, flipB x s = y := ⟨_, rfl⟩
      rw [hy] at hv
      have HY := Lib.hid hy
      clear hy
      have HJ := Lib.hid hj
      have HS := Lib.hid hs
      clear hj hs
      have HLEN := Lib.hid hlen
      have HI := Lib.hid hi
      clear hlen hi hi2
      go_wp2
      go_still_tail 10, (by kernel_rfl)
      change wpList _ _ _ _ _ wr.drew
      go_wp2
      go_roundw
      case rel =>
        refine ⟨k + 1, by omega, by go_num, ?_, grown_drew (grown_set HG.out _ _)⟩
        have h1 : flips l a (k + 1) = (flips l a k).set j y := by
          show flip (flips l a k) (a + k) = _
          rw [HI.out]
          unfold flip
          rw [HJ.out, HS.out, HX.out, HY.out]
        rw [h1]
        exact HR.out.set (by have := HLEN.out; omega) y
      case measure => simp [intOf]; omega
    · obtain rfl : k = n := by omega
      go_wp2
      go_end0
      exact ⟨rfl, HR.out, HG.out⟩
end Go.Proofs.YtgjcbfdhpbkhoaaGreatDoor.TTurn
