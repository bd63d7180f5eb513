/- Lists of numbers, each in its width: the program's inner calls total, pack and unpack. -/
import Derived.Test.YtkkcipjlinfieaaDoorProg
import Derived.Test.YtkkcipjlinfieaaDoorWPlain
import Derived.Test.YtkkcipjlinfieaaDoorWMem
import Derived.Test.YtkkcipjlinfieaaDoorWGive
import Derived.Test.YtkkcipjlinfieaaDoorWGet
import Derived.Test.YtkkcipjlinfieaaDoorWPut
import Derived.Test.YtkkcipjlinfieaaDoorWHelp
import Derived.WalkKit
import Derived.WalkSpells
import Derived.WalkLawsBesides
namespace Go.Proofs.YtkkcipjlinfieaaDoor.WList
open Go.RowKit WMem WPlain WGive WGet WPut WAppend WHelp

set_option maxHeartbeats 400000 in
theorem total_ok (ns : List Nat) (B : Nat) (A : Option Addr) (c : Nat) (w : World) (hf : fine ns) (hl : ns.length ≤ 17592186044416) (hA : Sl w B A (ns.map natv)) :
    Calls Tryd.prog 58 #[.slice A ns.length c] w fun e w' => e = .returned (.int .i64 (tot ns : Nat)) ∧ w = w' := by
  have HF := Lib.hid hf
  have HA := Lib.hid hA
  clear hf hA
  go_enter Tryd.func58, Tryd.ntmps58
  go_wp2
  go_loop [3, 8] (fun v i => ∃ k : Nat, k ≤ ns.length ∧ i = .int .i64 k ∧ v = .int .i64 (tot (ns.take k) : Nat)) (fun _ i => ns.length - (intOf i).toNat)
  case atStart => exact ⟨0, Nat.zero_le _, rfl, by simp [tot]⟩
  case round =>
    obtain ⟨k, hk, rfl, rfl⟩ := hrel
    by_cases hlt : k < ns.length
    · obtain ⟨a, rfl, hab, hc⟩ := HA.out.nat hlt
      obtain ⟨f1, f2⟩ := fine_get HF.out hlt
      have t1 := tot_take_le ns k
      have t2 := (tot_le ns HF.out).2
      have HS := Lib.hid (tot_take_succ ns k hlt)
      generalize tot (ns.take k) = d at *
      generalize tot ns = t at *
      generalize ns[k] = n at *
      go_wp2_with (go_at_call 72; refine (width_ok _ _ (by omega) (by omega)).mono ?_; rintro e w' ⟨rfl, rfl⟩)
      go_round
      case rel => exact ⟨k + 1, by omega, by go_num, by rw [HS.out]; go_num⟩
      case measure => simp [intOf]; omega
    · obtain rfl : k = ns.length := by omega
      go_wp2
      go_ret
      exact ⟨by simp, rfl⟩

/-- a width that may not be -/
theorem total_no (ws : List Int) (B : Nat) (A : Option Addr) (c : Nat) (w : World) (hf : ¬ ∀ n ∈ ws, 1 ≤ n ∧ n ≤ 8) (hl : ws.length ≤ 17592186044416) (hA : Sl w B A (ws.map i64v)) :
    Calls Tryd.prog 58 #[.slice A ws.length c] w fun e w' => e = given 22 ∧ w = w' := by
  have HF := Lib.hid hf
  have HA := Lib.hid hA
  clear hf hA
  go_enter Tryd.func58, Tryd.ntmps58
  go_wp2
  go_loop [3, 8] (fun v i => ∃ k d : Nat, k ≤ ws.length ∧ i = .int .i64 k ∧ v = .int .i64 d ∧ d ≤ 8 * k ∧ (∀ n ∈ ws.take k, 1 ≤ n ∧ n ≤ 8)) (fun _ i => ws.length - (intOf i).toNat)
  case atStart => exact ⟨0, 0, Nat.zero_le _, rfl, rfl, by omega, by simp⟩
  case round =>
    obtain ⟨k, d, hk, rfl, rfl, hd, hF⟩ := hrel
    have HK := Lib.hid hF
    clear hF
    by_cases hlt : k < ws.length
    · obtain ⟨a, rfl, hab, hc⟩ := HA.out.i64 hlt
      have HT := Lib.hid (List.take_succ_eq_append_getElem hlt)
      generalize ws[k] = n at *
      by_cases hn : 1 ≤ n ∧ n ≤ 8
      · obtain ⟨f1, f2⟩ := hn
        obtain ⟨m, rfl⟩ := Int.eq_ofNat_of_zero_le (show 0 ≤ n by omega)
        go_wp2_with (go_at_call 72; refine (width_ok _ _ (by omega) (by omega)).mono ?_; rintro e w' ⟨rfl, rfl⟩)
        go_round
        case rel =>
          refine ⟨k + 1, d + m, by omega, by go_num, by go_num, by omega, ?_⟩
          rw [HT.out]
          intro x hx
          rcases List.mem_append.1 hx with h | h
          · exact HK.out x h
          · simp at h; omega
        case measure => simp [intOf]; omega
      · have hx : n < 1 ∨ 8 < n := by omega
        clear hn
        go_wp2_with (go_at_call 72; refine (width_no _ _ hx).mono ?_; rintro e w' ⟨rfl, rfl⟩)
        exact ⟨rfl, rfl, rfl⟩
    · exact absurd (by have := HK.out; rwa [List.take_of_length_le (by omega)] at this) HF.out
end Go.Proofs.YtkkcipjlinfieaaDoor.WList
