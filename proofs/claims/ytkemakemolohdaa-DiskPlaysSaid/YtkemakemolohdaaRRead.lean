/- The document's disk: Read and Write. -/
import Derived.Test.YtkemakemolohdaaRNew
namespace Go.Proofs.Ytkemakemolohdaa.RRead
open Go.RowKit WMem WPlain WAppend Ext Map DPlain DMem Mk DBase DRead DPend DWrite RNew

theorem L_at {w : World} {S : Nat → Prop} {v : Value} {xs : List Value} {L : List (List UInt8)} (h : OwnS w S 35 1 v L.length xs) (hl : LOf w S xs L) : ∃ A cap, v = .slice A L.length cap ∧ L.length ≤ cap ∧
    ∀ (i : Nat) (hi : i < L.length), ∃ g u, A = some ⟨g, 0, none⟩ ∧ S g ∧ w.cell? ⟨g, i, none⟩ = some u ∧ IsBlk w S u L[i] := by
  obtain ⟨A, cap, hv, hc, hall⟩ := own_cell1 h
  refine ⟨A, cap, hv, hc, fun i hi => ?_⟩
  obtain ⟨u, h1, h2⟩ := hl.2 i hi
  obtain ⟨g, hA, hg, hc1⟩ := hall _ _ h1
  exact ⟨g, u, hA, hg, hc1, h2⟩

set_option maxHeartbeats 1600000 in
set_option maxRecDepth 100000 in
theorem RRead_yes (S : Nat → Prop) (b n : Nat) (s : St) (w : World) (hd : RD w S b s) (hn : n < s.L.length) (hP : s.P.length ≤ 1073741824) :
    Calls Try.prog 31 #[.pointer (some ⟨b, 0, none⟩), .int .i64 n] w fun e w' => ∃ v, e = .returned (.tuple #[v, .int .i64 0]) ∧ IsBlk w' (Made w w') v (s.readAt n) ∧ Below w.heap.size w w' := by
  obtain ⟨Lv, Pv, xs, ys, hx⟩ := hd
  have cL := hx.cL
  have cP := hx.cP
  obtain ⟨A, cap, rfl, hcap, hLat⟩ := L_at hx.rowL hx.eachL
  obtain ⟨A', cap', rfl, hcap', hPat⟩ := P_at hx.rowP hx.eachP
  obtain ⟨gL, u0, rfl, _, cl, hu0⟩ := hLat n hn
  obtain ⟨g0, c0, r0, rfl, _⟩ := id hu0
  have HU := Lib.hid hu0
  have HP := Lib.hid hPat
  have hn0 : (0 : Int) ≤ (n : Int) := Int.natCast_nonneg _
  have hn1 : (n : Int) < (s.L.length : Int) := by omega
  have hd1 : decide ((n : Int) < 0) = false := by simp
  have hd2 : decide ((s.L.length : Int) ≤ (n : Int)) = false := by simp; omega
  have HR : Hid (s.L.getD n [] = s.L[n]) := by show _ = _; rw [List.getD_eq_getElem?_getD, List.getElem?_eq_getElem hn]; rfl
  clear hx hLat hPat hu0
  generalize hLn : s.L[n] = ln at *
  clear hLn
  go_enter Try.func31, Try.ntmps31
  go_wp2
  go_loop [6, 7] (fun v i => ∃ (k g c : Nat), k ≤ s.P.length ∧ i = .int .i64 k ∧ v = .slice (some ⟨g, 0, none⟩) 256 c ∧ IsBlk w S (.slice (some ⟨g, 0, none⟩) 256 c) ((lastOf (s.P.take k) n).getD ln)) (fun _ i => s.P.length - (intOf i).toNat)
  case atStart => exact ⟨0, g0, c0, Nat.zero_le _, rfl, rfl, by simpa [lastOf] using HU.out⟩
  case round =>
    obtain ⟨k, g, c, hk, rfl, rfl, hv⟩ := hrel
    have HV := Lib.hid hv
    clear hv
    by_cases hlt : k < s.P.length
    · obtain ⟨gP, u, rfl, _, p0, p1, hu⟩ := HP.out k hlt
      obtain ⟨g1, c1, r1, rfl, _⟩ := id hu
      have HU1 := Lib.hid hu
      have hk0 : (0 : Int) ≤ (k : Int) := Int.natCast_nonneg _
      have hk1 : (k : Int) < (s.P.length : Int) := by omega
      have HT : Hid (lastOf (s.P.take (k + 1)) n = if s.P[k].1 = n then some s.P[k].2 else lastOf (s.P.take k) n) := by
        show _ = _
        rw [List.take_succ_eq_append_getElem hlt, lastOf_snoc]
      clear hu
      generalize s.P[k].1 = j at *
      generalize s.P[k].2 = lk at *
      by_cases hj : j = n
      · have hb : ((j : Int) == (n : Int)) = true := by rw [hj]; exact beq_self_eq_true _
        have HJ := Lib.hid hj
        clear hj
        go_wp2
        go_round
        case rel => exact ⟨k + 1, g1, c1, by omega, by go_num, rfl, by rw [HT.out, if_pos HJ.out]; exact HU1.out⟩
        case measure => simp [intOf]; omega
      · have hb : ((j : Int) == (n : Int)) = false := by rw [beq_eq_false_iff_ne]; omega
        go_wp2
        go_round
        case rel => exact ⟨k + 1, g, c, by omega, by go_num, rfl, by rw [HT.out, if_neg hj]; exact HV.out⟩
        case measure => simp [intOf]; omega
    · obtain rfl : k = s.P.length := by omega
      go_wp2_with fail
      refine (Copied_blk _ S _ w HV.out).mono ?_
      rintro e w1 ⟨u, rfl, h1, h2⟩
      have H1 := Lib.hid h1
      have H2 := Lib.hid h2
      clear h1 h2
      go_wp2
      go_ret2
      refine ⟨u, rfl, ?_, H2.out⟩
      unfold St.readAt
      rw [HR.out]
      have := H1.out
      rw [List.take_length] at this
      exact this
theorem RRead_no (S : Nat → Prop) (b : Nat) (n : Int) (s : St) (w : World) (hd : RD w S b s) (hn : n < 0 ∨ (s.L.length : Int) ≤ n) :
    Calls Try.prog 31 #[.pointer (some ⟨b, 0, none⟩), .int .i64 n] w fun e w' => e = .returned (.tuple #[.slice none 0 0, .int .i64 5]) ∧ w = w' := by
  obtain ⟨Lv, Pv, xs, ys, hx⟩ := hd
  have cL := hx.cL
  obtain ⟨A, cap, rfl, hcap, hLat⟩ := L_at hx.rowL hx.eachL
  clear hx hLat
  by_cases h0 : n < 0
  · have hd1 : decide (n < 0) = true := by simpa using h0
    clear hn
    go_enter Try.func31, Try.ntmps31
    go_wp2
    go_ret2
    exact ⟨rfl, rfl⟩
  · have h1 : (s.L.length : Int) ≤ n := by omega
    have hd1 : decide (n < 0) = false := by simpa using h0
    have hd2 : decide ((s.L.length : Int) ≤ n) = true := by simpa using h1
    clear hn
    go_enter Try.func31, Try.ntmps31
    go_wp2
    go_ret2
    exact ⟨rfl, rfl⟩
end Go.Proofs.Ytkemakemolohdaa.RRead
