/- The document's answer Pack; two lists of numbers that are the same. -/
import Derived.Test.YtkkcipjlinfieaaDoorWRefList
import Derived.StillTailTactics
namespace Go.Proofs.YtkkcipjlinfieaaDoor.WRefPack
open Go.RowKit WMem WPlain WGive WGet WPut WAppend WHelp WList WPack WUnpack WFace WFace2 WSeal WRef WAny WWide WRefList

theorem x64 (x : UInt64) : x.toNat < 18446744073709551616 := x.toNat_lt

set_option maxRecDepth 20000 in
set_option maxHeartbeats 1000000 in
theorem refPack_ok (xs : List UInt64) (ws : List Int) (size : Nat) (B : Nat) (A A' : Option Addr) (c c' : Nat) (w : World) (hB : B ≤ w.heap.size) (h : packs xs ws (size : Int)) (hx : fit (nats ws) xs) (hA : Sl w B A (xs.map u64v)) (hA' : Sl w B A' (ws.map i64v)) :
    Calls Tryd.prog 42 #[.slice A xs.length c, .slice A' ws.length c', .int .i64 (size : Int)] w fun e w' =>
      ∃ g, e = .returned (.tuple #[.slice (some ⟨g, 0, none⟩) size size, .int .i64 0]) ∧ w.heap.size ≤ g ∧ Row w' g (bytesOf_ xs ws (size : Int)) [] ∧ Below w.heap.size w w' := by
  obtain ⟨h1, h2, h3, h4⟩ := h
  have hn := (tot_le (nats ws) (nats_fine ws h2)).1
  rw [nats_len] at hn
  have hwl : ws.length ≤ 4096 := by omega
  have hmk := make_bytes size (by omega)
  have HF := Lib.hid h2
  have HX := Lib.hid hx
  have HA := Lib.hid hA
  have HA' := Lib.hid hA'
  have HE := Lib.hid h1
  have hxl : xs.length ≤ 4096 := by omega
  have e1 : ((xs.length : Int) != (ws.length : Int)) = false := by rw [bne_eq_false_iff_eq]; omega
  have e1' : (xs.length != ws.length) = false := by rw [bne_eq_false_iff_eq]; omega
  have e2 : decide ((size : Int) < 0) = false := by simp
  have e3 : decide ((4096 : Int) < (size : Int)) = false := by simp; omega
  have e3' : decide (4096 < size) = false := by simp; omega
  have e4 : decide ((size : Int) < (tot (nats ws) : Int)) = false := by simp; omega
  have e4' : decide (size < tot (nats ws)) = false := by simp; omega
  have ht : tot (nats ws) ≤ size := by omega
  clear h2 hx hA hA' h1 h3
  go_enter Tryd.func42, Tryd.ntmps42
  go_wp2_with (go_at_call 63; refine (refsum_ok ws B A' c' _ HF.out (by omega) HA'.out).mono ?_; rintro e w' ⟨rfl, rfl⟩)
  clear hmk e1 e1' e2 e3 e3' e4 e4'
  go_loopw [11, 12] (fun v i wr => ∃ k : Nat, k ≤ xs.length ∧ i = .int .i64 k ∧ v = .int .i64 (tot ((nats ws).take k) : Nat) ∧ Row wr w.heap.size (WPack.part size (nats ws) xs k) [] ∧ Below w.heap.size w wr) (fun _ i _ => xs.length - (intOf i).toNat)
  case atStart => exact ⟨0, Nat.zero_le _, rfl, by simp [tot], by rw [part_zero]; exact zrow_row w size, (Below.refl _ _).alloc (Nat.le_refl _) _⟩
  case round =>
    obtain ⟨k, hk, rfl, rfl, hR, hb⟩ := hrel
    have HR := Lib.hid hR
    have HB := Lib.hid hb
    have hgl := hR.lt
    clear hR hb
    by_cases hlt : k < xs.length
    · have hkw : k < ws.length := by have := HE.out; omega
      have hkn : k < (nats ws).length := by rw [nats_len]; exact hkw
      obtain ⟨a', rfl, hab', hc0⟩ := HA'.out.i64 hkw
      rw [nat_get ws HF.out k hkw] at hc0
      have hc' := (HB.out.cell (p := a'.add k) (by rw [addr_add_block]; omega)).trans hc0
      have HC0 := Lib.hid hc0
      clear hc0
      obtain ⟨a, rfl, hab, hc⟩ := (HA.out.below_le HB.out hB).u64 hlt
      obtain ⟨f1, f2⟩ := fine_get (nats_fine ws HF.out) hkn
      have t3 := tot_take_le (nats ws) (k + 1)
      rw [tot_take_succ (nats ws) k hkn] at t3
      have HS := Lib.hid (tot_take_succ (nats ws) k hkn)
      have HP := Lib.hid (part_next size (nats ws) xs k (by rw [nats_len]; exact HE.out.symm) hkn)
      have HL := Lib.hid (part_len size (nats ws) xs k (by rw [nats_len]; exact HE.out.symm) ht)
      have HG := Lib.hid (fit_get (by rw [nats_len]; exact HE.out.symm) HX.out hkn)
      generalize tot ((nats ws).take k) = d at *
      generalize (nats ws)[k] = n at *
      generalize xs[k] = x at *
      generalize WPack.part size (nats ws) xs k = pt at *
      clear hkn
      go_wp2
      go_still_tail 10, (by kernel_rfl)
      go_wp2_with fail
      refine (refPut_ok size pt HL.out [] w.heap.size size d n x.toNat _ f1 f2 (by omega) (by omega) HG.out (show Row wr.drew _ pt [] from HR.out)).mono ?_
      rintro e w1 ⟨rfl, hR1, hG1⟩
      have b1 : Below w.heap.size w w1 := HB.out.drew.trans (grown_below hG1 (Nat.le_refl _) hgl)
      have hc1 := (b1.cell (p := a'.add k) (by rw [addr_add_block]; omega)).trans HC0.out
      have HB1 := Lib.hid b1
      have HR1 := Lib.hid hR1
      clear hR1 hG1 b1
      go_wp2
      go_roundw
      case rel =>
        exact ⟨k + 1, by omega, by go_num, by rw [HS.out]; go_num, by rw [← HP.out]; exact HR1.out, HB1.out⟩
      case measure => simp [intOf]; omega
    · obtain rfl : k = xs.length := by omega
      have he : xs.length = (nats ws).length := by rw [nats_len]; exact HE.out
      have HZ := Lib.hid he
      clear he
      go_wp2
      go_ret2
      refine ⟨w.heap.size, rfl, Nat.le_refl _, ?_, HB.out⟩
      simp only [bytesOf_, Int.toNat_natCast]
      rw [← HZ.out]
      exact HR.out
set_option maxRecDepth 20000 in
set_option maxHeartbeats 1000000 in
/-- a number that does not go into its width -/
theorem refPack_big (xs : List UInt64) (ws : List Int) (size : Nat) (B : Nat) (A A' : Option Addr) (c c' : Nat) (w : World) (hB : B ≤ w.heap.size) (h : packs xs ws (size : Int)) (hx : ¬ fit (nats ws) xs) (hA : Sl w B A (xs.map u64v)) (hA' : Sl w B A' (ws.map i64v)) :
    Calls Tryd.prog 42 #[.slice A xs.length c, .slice A' ws.length c', .int .i64 (size : Int)] w fun e w' =>
      e = .returned (.tuple #[.slice none 0 0, .int .i64 34]) ∧ Below w.heap.size w w' := by
  obtain ⟨h1, h2, h3, h4⟩ := h
  have hn := (tot_le (nats ws) (nats_fine ws h2)).1
  rw [nats_len] at hn
  have hwl : ws.length ≤ 4096 := by omega
  have hmk := make_bytes size (by omega)
  have HF := Lib.hid h2
  have HX := Lib.hid hx
  have HA := Lib.hid hA
  have HA' := Lib.hid hA'
  have HE := Lib.hid h1
  have hxl : xs.length ≤ 4096 := by omega
  have e1 : ((xs.length : Int) != (ws.length : Int)) = false := by rw [bne_eq_false_iff_eq]; omega
  have e1' : (xs.length != ws.length) = false := by rw [bne_eq_false_iff_eq]; omega
  have e2 : decide ((size : Int) < 0) = false := by simp
  have e3 : decide ((4096 : Int) < (size : Int)) = false := by simp; omega
  have e3' : decide (4096 < size) = false := by simp; omega
  have e4 : decide ((size : Int) < (tot (nats ws) : Int)) = false := by simp; omega
  have e4' : decide (size < tot (nats ws)) = false := by simp; omega
  have ht : tot (nats ws) ≤ size := by omega
  clear h2 hx hA hA' h1 h3
  go_enter Tryd.func42, Tryd.ntmps42
  go_wp2_with (go_at_call 63; refine (refsum_ok ws B A' c' _ HF.out (by omega) HA'.out).mono ?_; rintro e w' ⟨rfl, rfl⟩)
  clear hmk e1 e1' e2 e3 e3' e4 e4'
  go_loopw [11, 12] (fun v i wr => ∃ k : Nat, k ≤ xs.length ∧ i = .int .i64 k ∧ v = .int .i64 (tot ((nats ws).take k) : Nat) ∧ Row wr w.heap.size (WPack.part size (nats ws) xs k) [] ∧ Below w.heap.size w wr ∧ fit ((nats ws).take k) (xs.take k)) (fun _ i _ => xs.length - (intOf i).toNat)
  case atStart => exact ⟨0, Nat.zero_le _, rfl, by simp [tot], by rw [part_zero]; exact zrow_row w size, (Below.refl _ _).alloc (Nat.le_refl _) _, by simp [fit]⟩
  case round =>
    obtain ⟨k, hk, rfl, rfl, hR, hb, hfi⟩ := hrel
    have HFI := Lib.hid hfi
    have HR := Lib.hid hR
    have HB := Lib.hid hb
    have hgl := hR.lt
    clear hR hb hfi
    by_cases hlt : k < xs.length
    · have hkw : k < ws.length := by have := HE.out; omega
      have hkn : k < (nats ws).length := by rw [nats_len]; exact hkw
      obtain ⟨a', rfl, hab', hc0⟩ := HA'.out.i64 hkw
      rw [nat_get ws HF.out k hkw] at hc0
      have hc' := (HB.out.cell (p := a'.add k) (by rw [addr_add_block]; omega)).trans hc0
      have HC0 := Lib.hid hc0
      clear hc0
      obtain ⟨a, rfl, hab, hc⟩ := (HA.out.below_le HB.out hB).u64 hlt
      obtain ⟨f1, f2⟩ := fine_get (nats_fine ws HF.out) hkn
      have t3 := tot_take_le (nats ws) (k + 1)
      rw [tot_take_succ (nats ws) k hkn] at t3
      have HS := Lib.hid (tot_take_succ (nats ws) k hkn)
      have HP := Lib.hid (part_next size (nats ws) xs k (by rw [nats_len]; exact HE.out.symm) hkn)
      have HL := Lib.hid (part_len size (nats ws) xs k (by rw [nats_len]; exact HE.out.symm) ht)
      have HNX := Lib.hid (fit_succ (by rw [nats_len]; exact HE.out.symm) hkn HFI.out)
      have hx64 := x64 xs[k]
      generalize tot ((nats ws).take k) = d at *
      generalize (nats ws)[k] = n at *
      generalize xs[k] = x at *
      generalize WPack.part size (nats ws) xs k = pt at *
      clear hkn
      by_cases hg : x.toNat < 2 ^ (8 * n)
      · have HG := Lib.hid hg
        clear hg
        go_wp2
        go_still_tail 10, (by kernel_rfl)
        go_wp2_with fail
        refine (refPut_ok size pt HL.out [] w.heap.size size d n x.toNat _ f1 f2 (by omega) (by omega) HG.out (show Row wr.drew _ pt [] from HR.out)).mono ?_
        rintro e w1 ⟨rfl, hR1, hG1⟩
        have b1 : Below w.heap.size w w1 := HB.out.drew.trans (grown_below hG1 (Nat.le_refl _) hgl)
        have hc1 := (b1.cell (p := a'.add k) (by rw [addr_add_block]; omega)).trans HC0.out
        have HB1 := Lib.hid b1
        have HR1 := Lib.hid hR1
        clear hR1 hG1 b1
        go_wp2
        go_roundw
        case rel =>
          exact ⟨k + 1, by omega, by go_num, by rw [HS.out]; go_num, by rw [← HP.out]; exact HR1.out, HB1.out, HNX.out HG.out⟩
        case measure => simp [intOf]; omega
      · have HG := Lib.hid hg
        clear hg
        go_wp2
        go_still_tail 10, (by kernel_rfl)
        go_wp2_with fail
        refine (refPut_big _ size size d n x.toNat _ f1 f2 (by omega) (by omega) hx64 HG.out).mono ?_
        rintro e w1 ⟨rfl, rfl⟩
        go_wp2
        go_ret2
        exact ⟨rfl, HB.out.drew⟩
    · exact absurd (by have := HFI.out; rwa [List.take_of_length_le (by rw [nats_len]; have := HE.out; omega), List.take_of_length_le (by omega)] at this) HX.out

set_option maxRecDepth 20000 in
set_option maxHeartbeats 1000000 in
theorem refPack_no (xs : List UInt64) (ws : List Int) (size : Int) (B : Nat) (A A' : Option Addr) (c c' : Nat) (w : World) (h : ¬ packs xs ws size) (hl' : ws.length ≤ 17592186044416) (hA' : Sl w B A' (ws.map i64v)) :
    Calls Tryd.prog 42 #[.slice A xs.length c, .slice A' ws.length c', .int .i64 size] w fun e w' => e = .returned (.tuple #[.slice none 0 0, .int .i64 22]) ∧ w = w' := by
  have HA' := Lib.hid hA'
  have HH := Lib.hid h
  clear hA' h
  by_cases hf : fineI ws
  · have HF := Lib.hid hf
    by_cases h1 : xs.length = ws.length
    · have e1 : ((xs.length : Int) != (ws.length : Int)) = false := by rw [bne_eq_false_iff_eq]; omega
      have e1' : (xs.length != ws.length) = false := by rw [bne_eq_false_iff_eq]; omega
      have hn : ¬ ((tot (nats ws) : Int) ≤ size ∧ size ≤ 4096) := fun hh => HH.out ⟨h1, hf, hh⟩
      clear h1 hf
      by_cases h2 : size < 0
      · have e2 : decide (size < 0) = true := by simpa using h2
        clear hn h2
        go_enter Tryd.func42, Tryd.ntmps42
        go_wp2_with (go_at_call 63; refine (refsum_ok ws B A' c' _ HF.out hl' HA'.out).mono ?_; rintro e w' ⟨rfl, rfl⟩)
        go_ret2
        exact ⟨rfl, rfl⟩
      · have e2 : decide (size < 0) = false := by simpa using h2
        by_cases h3 : 4096 < size
        · have e3 : decide (4096 < size) = true := by simpa using h3
          clear hn h2 h3
          go_enter Tryd.func42, Tryd.ntmps42
          go_wp2_with (go_at_call 63; refine (refsum_ok ws B A' c' _ HF.out hl' HA'.out).mono ?_; rintro e w' ⟨rfl, rfl⟩)
          go_ret2
          exact ⟨rfl, rfl⟩
        · have e3 : decide (4096 < size) = false := by simpa using h3
          have e4 : decide (size < (tot (nats ws) : Int)) = true := by simp; omega
          clear hn h2 h3
          go_enter Tryd.func42, Tryd.ntmps42
          go_wp2_with (go_at_call 63; refine (refsum_ok ws B A' c' _ HF.out hl' HA'.out).mono ?_; rintro e w' ⟨rfl, rfl⟩)
          go_ret2
          exact ⟨rfl, rfl⟩
    · have e1 : ((xs.length : Int) != (ws.length : Int)) = true := by rw [bne_iff_ne]; omega
      have e1' : (xs.length != ws.length) = true := by rw [bne_iff_ne]; omega
      clear h1 hf
      go_enter Tryd.func42, Tryd.ntmps42
      go_wp2_with (go_at_call 63; refine (refsum_ok ws B A' c' _ HF.out hl' HA'.out).mono ?_; rintro e w' ⟨rfl, rfl⟩)
      go_ret2
      exact ⟨rfl, rfl⟩
  · have HF := Lib.hid hf
    clear hf
    by_cases h1 : xs.length = ws.length
    · have e1 : ((xs.length : Int) != (ws.length : Int)) = false := by rw [bne_eq_false_iff_eq]; omega
      have e1' : (xs.length != ws.length) = false := by rw [bne_eq_false_iff_eq]; omega
      clear h1
      go_enter Tryd.func42, Tryd.ntmps42
      go_wp2_with (go_at_call 63; refine (refsum_no ws B A' c' _ HF.out hl' HA'.out).mono ?_; rintro e w' ⟨rfl, rfl⟩)
      go_ret2
      exact ⟨rfl, rfl⟩
    · have e1 : ((xs.length : Int) != (ws.length : Int)) = true := by rw [bne_iff_ne]; omega
      have e1' : (xs.length != ws.length) = true := by rw [bne_iff_ne]; omega
      clear h1
      go_enter Tryd.func42, Tryd.ntmps42
      go_wp2_with (go_at_call 63; refine (refsum_no ws B A' c' _ HF.out hl' HA'.out).mono ?_; rintro e w' ⟨rfl, rfl⟩)
      go_ret2
      exact ⟨rfl, rfl⟩

end Go.Proofs.YtkkcipjlinfieaaDoor.WRefPack
