/- The document's answers for lists of numbers: sum, Unpack, Pack; and two lists of numbers that are the same. -/
import Derived.Test.YtkkcipjlinfieaaDoorWWide
import Derived.Test.YtkkcipjlinfieaaDoorWAny
import Derived.Deep.QuietTactic
import Derived.BigQuiet
namespace Go.Proofs.YtkkcipjlinfieaaDoor.WRefList
open Go.RowKit WMem WPlain WGive WGet WPut WAppend WHelp WList WPack WUnpack WFace WFace2 WSeal WRef WAny WWide

theorem nat_get (ws : List Int) (hf : fineI ws) (k : Nat) (h : k < ws.length) : ws[k] = (((nats ws)[k]'(by rw [nats_len]; exact h) : Nat) : Int) := by
  have := hf ws[k] (List.getElem_mem h)
  simp only [nats, List.getElem_map]
  omega

set_option maxHeartbeats 400000 in
theorem refsum_ok (ws : List Int) (B : Nat) (A : Option Addr) (c : Nat) (w : World) (hf : fineI ws) (hl : ws.length ≤ 17592186044416) (hA : Sl w B A (ws.map i64v)) :
    Calls Tryd.prog 63 #[.slice A ws.length c] w fun e w' => e = .returned (.tuple #[.int .i64 (tot (nats ws) : Nat), .bool true]) ∧ w = w' := by
  have HF := Lib.hid hf
  have HA := Lib.hid hA
  clear hf hA
  go_enter Tryd.func63, Tryd.ntmps63
  go_wp2
  go_loop [4, 5] (fun v i => ∃ k : Nat, k ≤ ws.length ∧ i = .int .i64 k ∧ v = .int .i64 (tot ((nats ws).take k) : Nat)) (fun _ i => ws.length - (intOf i).toNat)
  case atStart => exact ⟨0, Nat.zero_le _, rfl, by simp [tot]⟩
  case round =>
    obtain ⟨k, hk, rfl, rfl⟩ := hrel
    by_cases hlt : k < ws.length
    · have hkn : k < (nats ws).length := by rw [nats_len]; exact hlt
      obtain ⟨a, rfl, hab, hc⟩ := HA.out.i64 hlt
      rw [nat_get ws HF.out k hlt] at hc
      obtain ⟨f1, f2⟩ := fine_get (nats_fine ws HF.out) hkn
      have t1 := tot_take_le (nats ws) k
      have t2 := (tot_le (nats ws) (nats_fine ws HF.out)).2
      rw [nats_len] at t2
      have HS := Lib.hid (tot_take_succ (nats ws) k hkn)
      generalize tot ((nats ws).take k) = d at *
      generalize tot (nats ws) = t at *
      generalize (nats ws)[k] = n at *
      clear hkn
      have e1 : decide ((n : Int) < 1) = false := by simp; omega
      have e2 : decide ((8 : Int) < (n : Int)) = false := by simp; omega
      go_wp2
      go_round
      case rel => exact ⟨k + 1, by omega, by go_num, by rw [HS.out]; go_num⟩
      case measure => simp [intOf]; omega
    · obtain rfl : k = ws.length := by omega
      have he : (nats ws).take ws.length = nats ws := List.take_of_length_le (by rw [nats_len]; exact Nat.le_refl _)
      rw [he]
      clear he
      go_wp2
      go_ret2
      exact ⟨rfl, rfl⟩

set_option maxHeartbeats 400000 in
theorem refsum_no (ws : List Int) (B : Nat) (A : Option Addr) (c : Nat) (w : World) (hf : ¬ fineI ws) (hl : ws.length ≤ 17592186044416) (hA : Sl w B A (ws.map i64v)) :
    Calls Tryd.prog 63 #[.slice A ws.length c] w fun e w' => e = .returned (.tuple #[.int .i64 0, .bool false]) ∧ w = w' := by
  have HF := Lib.hid hf
  have HA := Lib.hid hA
  clear hf hA
  go_enter Tryd.func63, Tryd.ntmps63
  go_wp2
  go_loop [4, 5] (fun v i => ∃ k d : Nat, k ≤ ws.length ∧ i = .int .i64 k ∧ v = .int .i64 d ∧ d ≤ 8 * k ∧ (∀ n ∈ ws.take k, 1 ≤ n ∧ n ≤ 8)) (fun _ i => ws.length - (intOf i).toNat)
  case atStart => exact ⟨0, 0, Nat.zero_le _, rfl, rfl, by omega, by simp⟩
  case round =>
    obtain ⟨k, d, hk, rfl, rfl, hd, hF⟩ := hrel
    have HK := Lib.hid hF
    clear hF
    by_cases hlt : k < ws.length
    · obtain ⟨a, rfl, hab, hc⟩ := HA.out.i64 hlt
      have HT := Lib.hid (List.take_succ_eq_append_getElem hlt)
      generalize ws[k] = n at *
      by_cases h1 : n < 1
      · have e1 : decide (n < 1) = true := by simpa using h1
        go_wp2
        go_ret2
        exact ⟨rfl, rfl⟩
      · have e1 : decide (n < 1) = false := by simpa using h1
        by_cases h2 : 8 < n
        · have e2 : decide (8 < n) = true := by simpa using h2
          go_wp2
          go_ret2
          exact ⟨rfl, rfl⟩
        · have e2 : decide (8 < n) = false := by simpa using h2
          obtain ⟨m, rfl⟩ := Int.eq_ofNat_of_zero_le (show 0 ≤ n by omega)
          go_wp2
          go_round
          case rel =>
            refine ⟨k + 1, d + m, by omega, by go_num, by go_num, by omega, ?_⟩
            rw [HT.out]
            intro x hx
            rcases List.mem_append.1 hx with h | h
            · exact HK.out x h
            · simp at h; omega
          case measure => simp [intOf]; omega
    · exact absurd (by have := HK.out; rwa [List.take_of_length_le (by omega)] at this) HF.out

/-- one number more is read -/
theorem unp_take_succ (ns : List Nat) (b : List UInt8) (k : Nat) (hk : k < ns.length) (hf : fine ns) :
    ((unp ns b).take (k + 1)).map u64v = ((unp ns b).take k).map u64v ++ [Value.int .u64 (num ((b.drop (tot (ns.take k))).take ns[k]) : Nat)] := by
  rw [List.take_succ_eq_append_getElem (by rw [unp_length]; exact hk), List.map_append]
  congr 1
  have hn := fine_get hf hk
  simp only [List.map_cons, List.map_nil]
  rw [unp_get ns b k hk, u64v, num_u64 _ (by simp; omega)]

end Go.Proofs.YtkkcipjlinfieaaDoor.WRefList
