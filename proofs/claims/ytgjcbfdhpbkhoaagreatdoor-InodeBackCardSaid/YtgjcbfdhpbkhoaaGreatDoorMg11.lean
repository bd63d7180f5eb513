/- The two sums over bytes: the program's (four steps at once, by its table) and the document's (step by step) give the same number. -/
import Derived.Test.YtgjcbfdhpbkhoaaGreatDoorProg
import Derived.Test.YtgjcbfdhpbkhoaaGreatDoorMg2
import Derived.Test.YtgjcbfdhpbkhoaaGreatDoorMg1
import Derived.WalkKit
import Derived.WalkSpells
import Derived.Outline
import Derived.Deep.LoopGhost
namespace Go.Proofs.YtgjcbfdhpbkhoaaGreatDoor.WCrc
open Go.RowKit WMem WPlain
theorem not_u32 (c : Nat) (h : c < 4294967296) : bits BinOp.xor IntKind.u32 IntKind.u32.max (c : Int) = ((4294967295 - c : Nat) : Int) := by
  have e : IntKind.u32.max = ((4294967295 : Nat) : Int) := by decide
  rw [e, u32_xor_nat _ _ (by decide) h]
  have h2 : 4294967295 ^^^ c = 4294967295 - c := by
    have h3 : ∀ x : BitVec 32, (BitVec.allOnes 32 ^^^ x).toNat = 4294967295 - x.toNat := fun x => by
      rw [BitVec.allOnes_xor, BitVec.toNat_not]
    have h4 := h3 (BitVec.ofNat 32 c)
    rw [BitVec.toNat_xor, BitVec.toNat_ofNat, Nat.mod_eq_of_lt (by omega)] at h4
    exact h4
  rw [h2]
def stepn : Nat → Nat → Nat
  | 0, c => c
  | j + 1, c => stp (stepn j c)
theorem stepn_lt {c : Nat} (h : c < 4294967296) : ∀ j, stepn j c < 4294967296
  | 0 => h
  | j + 1 => stp_lt (stepn_lt h j)
theorem stepn_odd (j c : Nat) (h : stepn j c % 2 = 1) : stepn (j + 1) c = (stepn j c / 2) ^^^ 2197175160 := by simp [stepn, stp, h]
theorem stepn_even (j c : Nat) (h : ¬ stepn j c % 2 = 1) : stepn (j + 1) c = stepn j c / 2 := by simp only [stepn, stp, if_neg h]
set_option maxHeartbeats 400000 in
theorem ref_crc (seed : Nat) (l : List UInt8) (B : Nat) (A : Option Addr) (c : Nat) (w : World) (hs : seed < 4294967296) (hl : l.length ≤ 140737488355328) (hA : Sl w B A (l.map u8v)) :
    Calls Tryz.prog 48 #[.int .u32 seed, .slice A l.length c] w fun e w' => e = .returned (.int .u32 (crc seed l)) ∧ w = w' := by
  obtain ⟨s0, hs0, hlt0⟩ : ∃ s0, s0 = 4294967295 - seed ∧ s0 < 4294967296 := ⟨_, rfl, by omega⟩
  have e0 := not_u32 seed hs
  rw [← hs0] at e0
  have H0 := Lib.hid hs0
  clear hs0
  go_enter Tryz.func48, Tryz.ntmps48
  go_wp2
  clear e0
  go_loop [5, 6] (fun v i => ∃ k : Nat, k ≤ l.length ∧ i = .int .i64 k ∧ v = .int .u32 (eats s0 (l.take k) : Nat)) (fun _ i => l.length - (intOf i).toNat)
  case atStart => exact ⟨0, Nat.zero_le _, rfl, by simp [eats]⟩
  case round =>
    obtain ⟨k, hk, rfl, rfl⟩ := hrel
    by_cases hlt : k < l.length
    · obtain ⟨a, rfl, hab, hc⟩ := hA.u8 hlt
      obtain ⟨d, hd, hdl⟩ : ∃ d, d = eats s0 (l.take k) ∧ d < 4294967296 := ⟨_, rfl, eats_lt hlt0 _⟩
      rw [← hd]
      have HE := Lib.hid (eats_take_succ s0 l k hlt)
      rw [← hd] at HE
      clear hd
      have hx := byte_lt l[k]
      obtain ⟨x, hxe⟩ : ∃ x, x = l[k] := ⟨_, rfl⟩
      rw [← hxe] at hc hx HE
      clear hxe
      have ex := u32_xor_nat d x.toNat hdl (by omega)
      have hdx := xorb_lt hdl x
      go_wp2
      clear ex hc
      obtain ⟨y, hy⟩ : ∃ y, y = d ^^^ x.toNat := ⟨_, rfl⟩
      rw [← hy] at hdx ⊢
      have HY := Lib.hid hy
      clear hy
      go_loop [5, 7] (fun v i => ∃ j : Nat, j ≤ 8 ∧ i = .int .i64 j ∧ v = .int .u32 (stepn j y : Nat)) (fun _ i => 8 - (intOf i).toNat)
      case atStart => exact ⟨0, Nat.zero_le _, rfl, rfl⟩
      case round =>
        obtain ⟨j, hj, rfl, rfl⟩ := hrel
        have hz := stepn_lt hdx j
        by_cases hj8 : j < 8
        · have HO := Lib.hid (stepn_odd j y)
          have HV := Lib.hid (stepn_even j y)
          obtain ⟨z, hze⟩ : ∃ z, z = stepn j y := ⟨_, rfl⟩
          rw [← hze] at hz HO HV ⊢
          clear hze
          have ez : bits BinOp.xor IntKind.u32 ((z : Int) / 2) 2197175160 = ((z / 2 ^^^ 2197175160 : Nat) : Int) := u32_xor_nat (z / 2) 2197175160 (by omega) (by decide)
          by_cases hodd : z % 2 = 1
          · have ho := HO.out hodd
            have hb : ((z : Int) % 2 == 1) = true := by rw [beq_iff_eq]; omega
            have H2 := Lib.hid ho
            clear ho HO HV hodd
            go_wp2
            go_round
            case rel => exact ⟨j + 1, by omega, by go_num, by rw [H2.out]⟩
            case measure => simp [intOf]; omega
          · have ho := HV.out hodd
            have hb : ((z : Int) % 2 == 1) = false := by rw [beq_eq_false_iff_ne]; omega
            have H2 := Lib.hid ho
            clear ho HO HV hodd ez
            go_wp2
            go_round
            case rel => exact ⟨j + 1, by omega, by go_num, by rw [H2.out]; rfl⟩
            case measure => simp [intOf]; omega
        · obtain rfl : j = 8 := by omega
          go_wp2
          go_round
          case rel => exact ⟨k + 1, by omega, by go_num, by rw [HE.out, eat, ← HY.out]; rfl⟩
          case measure => simp [intOf]; omega
    · obtain rfl : k = l.length := by omega
      have e1 := not_u32 (eats s0 l) (eats_lt hlt0 _)
      go_wp2
      go_ret
      exact ⟨by rw [crc, ← H0.out]; simp, rfl⟩
def Tab (w : World) : Prop := ∀ r, r < 16 → w.cell? ⟨0, r, none⟩ = some (.int .u32 ((tab.getD r 0 : Nat) : Int))
theorem and15 (c : Nat) (h : c < 4294967296) : bits BinOp.and IntKind.u32 (c : Int) 15 = ((c % 16 : Nat) : Int) := by
  have e := u32_and_nat c 15 h (by decide)
  rw [Nat.and_two_pow_sub_one_eq_mod c 4] at e
  exact e
theorem nib_go (c : Nat) (h : c < 4294967296) : bits BinOp.xor IntKind.u32 ((c : Int) / 16) ((tab.getD (c % 16) 0 : Nat) : Int) = ((nib c : Nat) : Int) :=
  u32_xor_nat (c / 16) _ (by omega) (tab_lt _)
set_option maxHeartbeats 400000 in
theorem wire_crc (seed : Nat) (l : List UInt8) (B : Nat) (A : Option Addr) (c : Nat) (w : World) (hs : seed < 4294967296) (hl : l.length ≤ 140737488355328) (hA : Sl w B A (l.map u8v)) (hT : Tab w) :
    Calls Tryz.prog 78 #[.int .u32 seed, .slice A l.length c] w fun e w' => e = .returned (.int .u32 (crc seed l)) ∧ w = w' := by
  obtain ⟨s0, hs0, hlt0⟩ : ∃ s0, s0 = 4294967295 - seed ∧ s0 < 4294967296 := ⟨_, rfl, by omega⟩
  have e0 := not_u32 seed hs
  rw [← hs0] at e0
  have H0 := Lib.hid hs0
  have HT := Lib.hid hT
  clear hs0 hT
  go_enter Tryz.func78, Tryz.ntmps78
  go_wp2
  clear e0
  go_loop [5, 12] (fun v i => ∃ k : Nat, k ≤ l.length ∧ i = .int .i64 k ∧ v = .int .u32 (eats s0 (l.take k) : Nat)) (fun _ i => l.length - (intOf i).toNat)
  case atStart => exact ⟨0, Nat.zero_le _, rfl, by simp [eats]⟩
  case round =>
    obtain ⟨k, hk, rfl, rfl⟩ := hrel
    by_cases hlt : k < l.length
    · obtain ⟨a, rfl, hab, hc⟩ := hA.u8 hlt
      obtain ⟨d, hd, hdl⟩ : ∃ d, d = eats s0 (l.take k) ∧ d < 4294967296 := ⟨_, rfl, eats_lt hlt0 _⟩
      rw [← hd]
      have HE := Lib.hid (eats_take_succ s0 l k hlt)
      rw [← hd] at HE
      clear hd
      have hx := byte_lt l[k]
      obtain ⟨x, hxe⟩ : ∃ x, x = l[k] := ⟨_, rfl⟩
      rw [← hxe] at hc hx HE
      clear hxe
      have ex := u32_xor_nat d x.toNat hdl (by omega)
      have hy := xorb_lt hdl x
      obtain ⟨y, hye⟩ : ∃ y, y = d ^^^ x.toNat := ⟨_, rfl⟩
      rw [← hye] at hy ex
      have HY := Lib.hid hye
      clear hye
      have hz := nib_lt hy
      have n1 := nib_go y hy
      have a1 := and15 y hy
      have t1 := HT.out (y % 16) (Nat.mod_lt _ (by decide))
      obtain ⟨z, hze⟩ : ∃ z, z = nib y := ⟨_, rfl⟩
      rw [← hze] at hz n1
      have HZ := Lib.hid hze
      clear hze
      have n2 := nib_go z hz
      have a2 := and15 z hz
      have t2 := HT.out (z % 16) (Nat.mod_lt _ (by decide))
      obtain ⟨q1, hq1, hq1b⟩ : ∃ q, q = y % 16 ∧ q < 16 := ⟨_, rfl, Nat.mod_lt _ (by decide)⟩
      rw [← hq1] at a1 t1 n1
      obtain ⟨q2, hq2, hq2b⟩ : ∃ q, q = z % 16 ∧ q < 16 := ⟨_, rfl, Nat.mod_lt _ (by decide)⟩
      rw [← hq2] at a2 t2 n2
      clear hq1 hq2
      obtain ⟨v1, hv1⟩ : ∃ v, v = tab.getD q1 0 := ⟨_, rfl⟩
      rw [← hv1] at t1 n1
      obtain ⟨v2, hv2⟩ : ∃ v, v = tab.getD q2 0 := ⟨_, rfl⟩
      rw [← hv2] at t2 n2
      clear hv1 hv2
      obtain ⟨u, hu⟩ : ∃ u, u = nib z := ⟨_, rfl⟩
      rw [← hu] at n2
      have HU := Lib.hid hu
      clear hu
      go_wp2
      go_round
      case rel => exact ⟨k + 1, by omega, by go_num, by rw [HE.out, eat, ← HY.out, stp8_nib, ← HZ.out, ← HU.out]⟩
      case measure => simp [intOf]; omega
    · obtain rfl : k = l.length := by omega
      have e1 := not_u32 (eats s0 l) (eats_lt hlt0 _)
      go_wp2
      go_ret
      exact ⟨by rw [crc, ← H0.out]; simp, rfl⟩
end Go.Proofs.YtgjcbfdhpbkhoaaGreatDoor.WCrc
