/- The document's answers for lists of numbers: sum, Unpack, Pack; and two lists of numbers that are the same. -/
import Derived.Test.YtlbolfjelhljjaaDoorWWide
import Derived.Test.YtlbolfjelhljjaaDoorWAny
import Derived.Deep.QuietTactic
import Derived.BigQuiet
namespace Go.Proofs.YtlbolfjelhljjaaDoor.WRefList
open Go.RowKit WMem WPlain WGive WGet WPut WAppend WHelp WList WPack WUnpack WFace WFace2 WSeal WRef WAny WWide

theorem nat_get (ws : List Int) (hf : fineI ws) (k : Nat) (h : k < ws.length) : ws[k] = (((nats ws)[k]'(by rw [nats_len]; exact h) : Nat) : Int) := by
  have := hf ws[k] (List.getElem_mem h)
  simp only [nats, List.getElem_map]
  omega

set_option maxHeartbeats 400000 in
theorem refsum_ok (ws : List Int) (B : Nat) (A : Option Addr) (c : Nat) (w : World) (hf : fineI ws) (hl : ws.length ≤ 17592186044416) (hA : Sl w B A (ws.map i64v)) :
    Calls Tryd.prog 43 #[.slice A ws.length c] w fun e w' => e = .returned (.tuple #[.int .i64 (tot (nats ws) : Nat), .bool true]) ∧ w = w' := by
  have HF := Lib.hid hf
  have HA := Lib.hid hA
  clear hf hA
  go_enter Tryd.func43, Tryd.ntmps43
  go_wp2
  go_loop [4, 5] (fun v i => ∃ k : Nat, k ≤ ws.length ∧ i = .int .i64 k ∧ v = .int .i64 (tot ((nats ws).take k) : Nat)) (fun _ i => ws.length - (intOf i).toNat)
  case atStart => exact ⟨0, Nat.zero_le _, rfl, by simp [tot]⟩
  case round =>
    obtain ⟨k, hk, rfl, rfl⟩ := hrel
    by_cases hlt : k < ws.length
    · have hkn : k < (nats ws).length := by rw [nats_len]; exact hlt
      obtain ⟨a, rfl, hab, hc⟩ := HA.out.i64 hlt
      rw [nat_get ws HF.out k hlt] at hc
      obtain ⟨f1, f2⟩ := fine_get (nats_fine ws HF.out) hkn
      have t1 := tot_take_le (nats ws) k
      have t2 := (tot_le (nats ws) (nats_fine ws HF.out)).2
      rw [nats_len] at t2
      have HS := Lib.hid (tot_take_succ (nats ws) k hkn)
      generalize tot ((nats ws).take k) = d at *
      generalize tot (nats ws) = t at *
      generalize (nats ws)[k] = n at *
      clear hkn
      have e1 : decide ((n : Int) < 1) = false := by simp; omega
      have e2 : decide ((8 : Int) < (n : Int)) = false := by simp; omega
      go_wp2
      go_round
      case rel => exact ⟨k + 1, by omega, by go_num, by rw [HS.out]; go_num⟩
      case measure => simp [intOf]; omega
    · obtain rfl : k = ws.length := by omega
      have he : (nats ws).take ws.length = nats ws := List.take_of_length_le (by rw [nats_len]; exact Nat.le_refl _)
      rw [he]
      clear he
      go_wp2
      go_ret2
      exact ⟨rfl, rfl⟩

set_option maxHeartbeats 400000 in
theorem refsum_no (ws : List Int) (B : Nat) (A : Option Addr) (c : Nat) (w : World) (hf : ¬ fineI ws) (hl : ws.length ≤ 17592186044416) (hA : Sl w B A (ws.map i64v)) :
    Calls Tryd.prog 43 #[.slice A ws.length c] w fun e w' => e = .returned (.tuple #[.int .i64 0, .bool false]) ∧ w = w' := by
  have HF := Lib.hid hf
  have HA := Lib.hid hA
  clear hf hA
  go_enter Tryd.func43, Tryd.ntmps43
  go_wp2
  go_loop [4, 5] (fun v i => ∃ k d : Nat, k ≤ ws.length ∧ i = .int .i64 k ∧ v = .int .i64 d ∧ d ≤ 8 * k ∧ (∀ n ∈ ws.take k, 1 ≤ n ∧ n ≤ 8)) (fun _ i => ws.length - (intOf i).toNat)
  case atStart => exact ⟨0, 0, Nat.zero_le _, rfl, rfl, by omega, by simp⟩
  case round =>
    obtain ⟨k, d, hk, rfl, rfl, hd, hF⟩ := hrel
    have HK := Lib.hid hF
    clear hF
    by_cases hlt : k < ws.length
    · obtain ⟨a, rfl, hab, hc⟩ := HA.out.i64 hlt
      have HT := Lib.hid (List.take_succ_eq_append_getElem hlt)
      generalize ws[k] = n at *
      by_cases h1 : n < 1
      · have e1 : decide (n < 1) = true := by simpa using h1
        go_wp2
        go_ret2
        exact ⟨rfl, rfl⟩
      · have e1 : decide (n < 1) = false := by simpa using h1
        by_cases h2 : 8 < n
        · have e2 : decide (8 < n) = true := by simpa using h2
          go_wp2
          go_ret2
          exact ⟨rfl, rfl⟩
        · have e2 : decide (8 < n) = false := by simpa using h2
          obtain ⟨m, rfl⟩ := Int.eq_ofNat_of_zero_le (show 0 ≤ n by omega)
          go_wp2
          go_round
          case rel =>
            refine ⟨k + 1, d + m, by omega, by go_num, by go_num, by omega, ?_⟩
            rw [HT.out]
            intro x hx
            rcases List.mem_append.1 hx with h | h
            · exact HK.out x h
            · simp at h; omega
          case measure => simp [intOf]; omega
    · exact absurd (by have := HK.out; rwa [List.take_of_length_le (by omega)] at this) HF.out

/-- one number more is read -/
theorem unp_take_succ (ns : List Nat) (b : List UInt8) (k : Nat) (hk : k < ns.length) (hf : fine ns) :
    ((unp ns b).take (k + 1)).map u64v = ((unp ns b).take k).map u64v ++ [Value.int .u64 (num ((b.drop (tot (ns.take k))).take ns[k]) : Nat)] := by
  rw [List.take_succ_eq_append_getElem (by rw [unp_length]; exact hk), List.map_append]
  congr 1
  have hn := fine_get hf hk
  simp only [List.map_cons, List.map_nil]
  rw [unp_get ns b k hk, u64v, num_u64 _ (by simp; omega)]

set_option maxHeartbeats 1000000 in
theorem refUnpack_ok (b : List UInt8) (ws : List Int) (B : Nat) (A A' : Option Addr) (c c' : Nat) (w : World) (hB : B ≤ w.heap.size) (hf : fineI ws) (ht : tot (nats ws) = b.length) (hl : b.length ≤ 140737488351232) (hl' : ws.length ≤ 17592186043904) (hA : Sl w B A (b.map u8v)) (hA' : Sl w B A' (ws.map i64v)) :
    Calls Tryd.prog 29 #[.slice A b.length c, .slice A' ws.length c'] w fun e w' =>
      ∃ v, e = .returned (.tuple #[v, .int .i64 0]) ∧ w'.ownsRow w.heap.size 30 1 v ws.length ((unp (nats ws) b).map u64v) ∧ Below w.heap.size w w' := by
  have HF := Lib.hid hf
  have HT := Lib.hid ht
  have HA := Lib.hid hA
  have HA' := Lib.hid hA'
  have hb : ((b.length : Int) != (tot (nats ws) : Int)) = false := by rw [bne_eq_false_iff_eq]; omega
  have hb2 : (b.length != tot (nats ws)) = false := by rw [bne_eq_false_iff_eq]; omega
  clear hf ht hA hA'
  go_enter Tryd.func29, Tryd.ntmps29
  go_wp2_with (go_at_call 43; refine (refsum_ok ws B A' c' _ HF.out (by omega) HA'.out).mono ?_; rintro e w' ⟨rfl, rfl⟩)
  clear hb hb2
  go_loopw [8, 9, 10] (fun v a i wr => ∃ k : Nat, k ≤ ws.length ∧ i = .int .i64 k ∧ a = .int .i64 (tot ((nats ws).take k) : Nat) ∧ wr.ownsRow w.heap.size 30 1 v k (((unp (nats ws) b).take k).map u64v) ∧ Below w.heap.size w wr) (fun _ _ i _ => ws.length - (intOf i).toNat)
  case atStart => exact ⟨0, Nat.zero_le _, rfl, by simp [tot], by simpa using World.ownsRow_nil w w.heap.size 30 1, Below.refl _ _⟩
  case round =>
    obtain ⟨k, hk, rfl, rfl, ho, hb⟩ := hrel
    have HO := Lib.hid ho
    have HB := Lib.hid hb
    have sB := hb.size
    clear ho hb
    by_cases hlt : k < ws.length
    · have hkn : k < (nats ws).length := by rw [nats_len]; exact hlt
      obtain ⟨a', rfl, hab', hc0⟩ := HA'.out.i64 hlt
      rw [nat_get ws HF.out k hlt] at hc0
      have hc' := (HB.out.cell (p := a'.add k) (by rw [addr_add_block]; omega)).trans hc0
      have HC0 := Lib.hid hc0
      clear hc0
      obtain ⟨f1, f2⟩ := fine_get (nats_fine ws HF.out) hkn
      have t3 := tot_take_le (nats ws) (k + 1)
      rw [tot_take_succ (nats ws) k hkn, HT.out] at t3
      have HS := Lib.hid (tot_take_succ (nats ws) k hkn)
      have HN := Lib.hid (unp_take_succ (nats ws) b k hkn (nats_fine ws HF.out))
      have hn64 := num_lt_u64 ((b.drop (tot ((nats ws).take k))).take (nats ws)[k]) (by simp; omega)
      have HG := Lib.hid (fun W (h : Sl W B A (b.map u8v)) => refGet_ok b B A c (tot ((nats ws).take k)) (nats ws)[k] W f1 f2 t3 (by omega) h)
      generalize num ((b.drop (tot ((nats ws).take k))).take (nats ws)[k]) = x at *
      generalize tot ((nats ws).take k) = d at *
      generalize (nats ws)[k] = n at *
      clear hkn
      go_wp2_with fail
      refine (HG.out _ (HA.out.below_le HB.out hB)).mono ?_
      rintro e w1 ⟨rfl, rfl⟩
      have HX : Hid (Sl (wr.alloc (.cells #[.int .u64 x] 30)) (wr.heap.size + 1) (some ⟨wr.heap.size, 0, none⟩) [.int .u64 x]) := Sl.of_row (n := 1) (row_new _ _) (by omega) rfl
      have HO2 := Lib.hid (HO.out.alloc (.cells #[.int .u64 x] 30))
      go_wp2_with (at_builtin; go_loud (refine wl_append rfl (.tmp 42) (.tmp 44) 39 rfl w.heap.size 30 8 elem64 _ k _ rfl HO2.out (wr.heap.size + 1) (some ⟨wr.heap.size, 0, none⟩) 1 1 [.int .u64 x] rfl rfl HX.out (by simp [Value.oneCell']) (by omega) (by unfold maxLen; omega) (by simp; omega) ?_); intro v' w1 h1 h2 h3
                   have b1 : Below w.heap.size w w1 := (HB.out.alloc sB _).grown h2 (by simp; omega) (fun q hq => (HO.out.lt q hq).1)
                   have hc1 := (b1.cell (p := a'.add k) (by rw [addr_add_block]; omega)).trans HC0.out
                   have H1 := Lib.hid h1
                   have HB1 := Lib.hid b1
                   clear h1 h2 h3 b1)
      go_roundw
      case rel =>
        refine ⟨k + 1, by omega, by go_num, by rw [HS.out]; go_num, by rw [HN.out]; exact H1.out, HB1.out⟩
      case measure => simp [intOf]; omega
    · obtain rfl : k = ws.length := by omega
      go_wp2
      go_ret2
      refine ⟨_, rfl, ?_, HB.out⟩
      have := HO.out
      rwa [List.take_of_length_le (by rw [unp_length, nats_len]; exact Nat.le_refl _)] at this

set_option maxHeartbeats 1000000 in
theorem refUnpack_no (b : List UInt8) (ws : List Int) (B : Nat) (A A' : Option Addr) (c c' : Nat) (w : World) (h : ¬ (fineI ws ∧ tot (nats ws) = b.length)) (hl' : ws.length ≤ 17592186043904) (hA' : Sl w B A' (ws.map i64v)) :
    Calls Tryd.prog 29 #[.slice A b.length c, .slice A' ws.length c'] w fun e w' => e = .returned (.tuple #[.slice none 0 0, .int .i64 22]) ∧ w = w' := by
  have HA' := Lib.hid hA'
  clear hA'
  by_cases hf : fineI ws
  · have hne : tot (nats ws) ≠ b.length := fun e => h ⟨hf, e⟩
    have hb : ((b.length : Int) != (tot (nats ws) : Int)) = true := by rw [bne_iff_ne]; omega
    have hb2 : (b.length != tot (nats ws)) = true := by rw [bne_iff_ne]; omega
    have HF := Lib.hid hf
    clear h hne hf
    go_enter Tryd.func29, Tryd.ntmps29
    go_wp2_with (go_at_call 43; refine (refsum_ok ws B A' c' _ HF.out (by omega) HA'.out).mono ?_; rintro e w' ⟨rfl, rfl⟩)
    go_ret2
    exact ⟨rfl, rfl⟩
  · have HF := Lib.hid hf
    clear h hf
    go_enter Tryd.func29, Tryd.ntmps29
    go_wp2_with (go_at_call 43; refine (refsum_no ws B A' c' _ HF.out (by omega) HA'.out).mono ?_; rintro e w' ⟨rfl, rfl⟩)
    go_ret2
    exact ⟨rfl, rfl⟩
end Go.Proofs.YtlbolfjelhljjaaDoor.WRefList
