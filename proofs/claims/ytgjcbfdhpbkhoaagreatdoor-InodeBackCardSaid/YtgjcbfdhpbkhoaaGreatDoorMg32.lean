/- slices.Index at rows of ints: where a number stands first. -/
import Derived.Test.YtgjcbfdhpbkhoaaGreatDoorProg
import Derived.Test.YtgjcbfdhpbkhoaaGreatDoorMg1
import Derived.WalkKit
import Derived.KernelRfl
namespace Go.Proofs.YtgjcbfdhpbkhoaaGreatDoor.EIndex
open Go.RowKit WMem
theorem at_split (a b : List Nat) (n k : Nat) (hk : k ≤ a.length) : ∃ (h : k < (a ++ n :: b).length), (k = a.length → (a ++ n :: b)[k] = n) ∧ (k < a.length → (a ++ n :: b)[k] ∈ a) := by
  refine ⟨by simp; omega, ?_, fun h => ?_⟩
  · rintro rfl
    simp
  · rw [List.getElem_append_left h]
    exact List.getElem_mem h
set_option maxRecDepth 100000 in
set_option maxHeartbeats 400000 in
theorem Index_at (B cap : Nat) (A : Option Addr) (a b : List Nat) (n : Nat) (w : World) (hA : Sl w B A ((a ++ n :: b).map natv)) (hn : n ∉ a) (hl : (a ++ n :: b).length ≤ 1073741824) :
    Calls Tryz.prog 127 #[.slice A (a ++ n :: b).length cap, .int .i64 n] w fun e w' => e = .returned (.int .i64 a.length) ∧ w = w' := by
  have HA := Lib.hid hA
  have HN := Lib.hid hn
  have hal : a.length < (a ++ n :: b).length := by simp
  obtain ⟨m, hm⟩ : ∃ m, m = (a ++ n :: b).length := ⟨_, rfl⟩
  rw [← hm] at hal hl ⊢
  have HM := Lib.hid hm
  clear hA hn hm
  go_enter Tryz.func127, Tryz.ntmps127
  go_wp2
  go_loop [8] (fun i => ∃ k : Nat, k ≤ a.length ∧ i = .int .i64 k) (fun i => a.length - (intOf i).toNat)
  case atStart => exact ⟨0, Nat.zero_le _, rfl⟩
  case round =>
    obtain ⟨k, hk, rfl⟩ := hrel
    obtain ⟨hlt, h1, h2⟩ := at_split a b n k hk
    obtain ⟨p, rfl, _, hc⟩ := HA.out.nat hlt
    have hkm : k < m := by omega
    by_cases e : k = a.length
    · rw [h1 e] at hc
      subst e
      go_wp2
      go_ret
      exact ⟨rfl, rfl⟩
    · have hx := h2 (by omega)
      have hne : (a ++ n :: b)[k] ≠ n := fun h => HN.out (h ▸ hx)
      generalize (a ++ n :: b)[k] = x at hc hne
      have hne' : ((n : Int) == (x : Int)) = false := by rw [beq_eq_false_iff_ne]; omega
      clear h1 h2 hx
      go_wp2
      go_round
      case rel => exact ⟨k + 1, by omega, by go_num⟩
      case measure => simp [intOf]; omega
end Go.Proofs.YtgjcbfdhpbkhoaaGreatDoor.EIndex
