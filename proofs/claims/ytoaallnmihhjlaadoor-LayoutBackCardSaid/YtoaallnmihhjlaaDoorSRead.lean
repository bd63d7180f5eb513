/- read: the numbers with which a block begins. -/
import Derived.Test.YtoaallnmihhjlaaDoorWWide
import Derived.Test.YtoaallnmihhjlaaDoorSNums
namespace Go.Proofs.YtoaallnmihhjlaaDoor.SRead
open Go.RowKit WMem WPlain WGive WGet WPut WAppend WHelp WList WPack WUnpack WFace WFace2 WWide

theorem fineI_le {ws : List Int} (h : fineI ws) : tot (nats ws) ≤ 8 * ws.length := by
  have := (tot_le (nats ws) (nats_fine ws h)).2
  rwa [nats_len] at this
theorem tot_next (ws : List Int) (k : Nat) (hk : k < ws.length) (hf : fineI ws) : ((tot ((nats ws).take (k + 1)) : Nat) : Int) = (tot ((nats ws).take k) : Nat) + ws[k] := by
  rw [tot_take_succ (nats ws) k (by rw [nats_len]; exact hk)]
  have h1 := hf ws[k] (List.getElem_mem hk)
  simp only [nats, List.getElem_map]
  omega
set_option maxHeartbeats 1000000 in
theorem read_no (len : Nat) (h : len ≠ 256) (A A' : Option Addr) (c len' c' : Nat) (w : World) :
    Calls Tryd.prog 31 #[.slice A len c, .slice A' len' c'] w fun e w' => e = .returned (.tuple #[.slice none 0 0, .bool false]) ∧ w = w' := by
  have h1 : ((len : Int) != 256) = true := by rw [bne_iff_ne]; omega
  have h2 : (len != 256) = true := by rw [bne_iff_ne]; omega
  clear h
  go_enter Tryd.func31, Tryd.ntmps31
  go_wp2
  go_ret2
  exact ⟨rfl, rfl⟩
set_option maxHeartbeats 1000000 in
theorem read_yes (l : List UInt8) (hl : l.length = 256) (ws : List Int) (hf : fineI ws) (ht : tot (nats ws) ≤ 256) (B : Nat) (A A' : Option Addr) (c c' : Nat) (hc : 256 ≤ c) (w : World) (hB : B ≤ w.heap.size) (hws : ws.length ≤ 1000)
    (hA : Sl w B A (l.map u8v)) (hA' : Sl w B A' (ws.map i64v)) :
    Calls Tryd.prog 31 #[.slice A 256 c, .slice A' ws.length c'] w fun e w' =>
      ∃ g, e = .returned (.tuple #[.slice (some ⟨g, 0, none⟩) ws.length ws.length, .bool true]) ∧ w.heap.size ≤ g ∧ RowV w' g 56 ((unp (nats ws) (l.take (tot (nats ws)))).map u64v) ∧ Below w.heap.size w w' := by
  have HA := Lib.hid hA
  have HA' := Lib.hid hA'
  have HF := Lib.hid hf
  have HL := Lib.hid hl
  have HN := Lib.hid (nats_len ws)
  clear hA hA' hf hl
  go_enter Tryd.func31, Tryd.ntmps31
  go_wp2
  go_loop [6, 16] (fun s i => ∃ k : Nat, k ≤ ws.length ∧ i = .int .i64 k ∧ s = .int .i64 (tot ((nats ws).take k) : Nat)) (fun _ i => ws.length - (intOf i).toNat)
  case atStart => exact ⟨0, Nat.zero_le _, rfl, by simp [tot]⟩
  case round =>
    obtain ⟨k, hk, rfl, rfl⟩ := hrel
    by_cases hlt : k < ws.length
    · obtain ⟨a', rfl, _, hc'⟩ := HA'.out.i64 hlt
      have HT := Lib.hid (tot_next ws k hlt HF.out)
      have t1 := tot_take_le (nats ws) k
      have hx := HF.out ws[k] (List.getElem_mem hlt)
      obtain ⟨x0, x1⟩ := hx
      generalize ws[k] = x at *
      generalize tot ((nats ws).take k) = d at *
      go_wp2
      go_round
      case rel => exact ⟨k + 1, by omega, by go_num, by rw [HT.out]⟩
      case measure => simp [intOf]; omega
    · obtain rfl : k = ws.length := by omega
      rw [List.take_of_length_le (by rw [HN.out]; exact Nat.le_refl _)]
      have HU := Lib.hid (UnpackW_at (tot (nats ws)) (l.take (tot (nats ws))) (by rw [List.length_take, HL.out]; omega) ws B A A' c c' w hB HF.out (by rw [List.length_take, HL.out]; omega) (by omega) (by omega) (by rw [List.map_take]; exact HA.out.take _) HA'.out)
      generalize hd : tot (nats ws) = d at *
      have HD := Lib.hid hd
      clear hd
      go_wp2_with fail
      refine HU.out.mono ?_
      rintro e w1 ⟨g, rfl, hg, hR, hb⟩
      have HR := Lib.hid hR
      have HB := Lib.hid hb
      clear hR hb
      go_wp2
      go_ret2
      exact ⟨g, rfl, hg, by rw [HD.out]; exact HR.out, HB.out⟩
end Go.Proofs.YtoaallnmihhjlaaDoor.SRead
