/- The law LogNeeds. -/
import Derived.Test.YtgegmoejhnjhjaaDoorJAwake
namespace Go.Proofs.YtgegmoejhnjhjaaDoor.JLNeeds
open Go.RowKit WMem WPlain WCrc JMem JNeed JAwake

theorem low12 (x : Int) : ∃ y : Nat, y < 4096 ∧ bits BinOp.and IntKind.i64 x 4095 = (y : Int) := by
  refine ⟨(BitVec.ofInt 64 x &&& BitVec.ofInt 64 4095).toNat, ?_, ?_⟩
  · rw [BitVec.toNat_and]
    exact Nat.lt_of_le_of_lt Nat.and_le_right (by decide)
  · have h : (BitVec.ofInt 64 x &&& BitVec.ofInt 64 4095).toNat < 4096 := by
      rw [BitVec.toNat_and]
      exact Nat.lt_of_le_of_lt Nat.and_le_right (by decide)
    show IntKind.i64.wrap ((BitVec.ofInt 64 x &&& BitVec.ofInt 64 4095).toNat : Int) = _
    rw [IntKind.wrap_i64]
    omega
theorem need_w (w x r : Nat) : needN w r ≤ needN (w + x) r := by
  unfold needN rowsN
  split <;> split <;> split <;> omega
theorem need_r (w r s : Nat) : needN w r ≤ needN w (r + s) := by
  unfold needN rowsN
  split <;> split <;> split <;> omega
theorem need_two (w x r s : Nat) : needN (w + x) (r + s) ≤ needN w r + needN x s := by
  have h1 : rowsN (w + x) 48 ≤ rowsN w 48 + rowsN x 48 := by unfold rowsN; split <;> split <;> split <;> omega
  have h2 : rowsN (r + s) 60 ≤ rowsN r 60 + rowsN s 60 := by unfold rowsN; split <;> split <;> split <;> omega
  unfold needN
  omega
theorem need_le (a b : Nat) : needN a b ≤ 2 * a + 2 * b + 3 := by
  have h1 := rowsN_le a 48
  have h2 := rowsN_le b 60
  unfold needN
  omega
set_option maxRecDepth 100000 in
set_option maxHeartbeats 4000000 in
theorem needs (x0 x1 x2 x3 : Int) (w : World) (hT : Tab w) : Calls Tryd.prog 9 #[.int .i64 x0, .int .i64 x1, .int .i64 x2, .int .i64 x3] w fun e w' => e = .returned (.bool true) ∧ Below w.heap.size w w' := by
  have HAW := Lib.hid (awake_any w hT)
  clear hT
  obtain ⟨a, ha, e0⟩ := low12 x0
  obtain ⟨x, hx, e1⟩ := low12 x1
  obtain ⟨r, hr, e2⟩ := low12 x2
  obtain ⟨s, hs, e3⟩ := low12 x3
  have HC1 := Lib.hid (fun w => Need_any (a + x) r (by omega) (by omega) w)
  have HC2 := Lib.hid (fun w => Need_any a r (by omega) (by omega) w)
  have HC3 := Lib.hid (fun w => Need_any a (r + s) (by omega) (by omega) w)
  have HC4 := Lib.hid (fun w => Need_any x s (by omega) (by omega) w)
  have HC5 := Lib.hid (fun w => Need_any (a + x) (r + s) (by omega) (by omega) w)
  have n1 := need_w a x r
  have n2 := need_r a r s
  have n3 := need_two a x r s
  have b1 := need_le a r
  have b2 := need_le x s
  have b3 := need_le (a + x) (r + s)
  have b4 := need_le (a + x) r
  have b5 := need_le a (r + s)
  have s1 : IntKind.i64.wrap ((a : Int) + (x : Int)) = ((a + x : Nat) : Int) := by rw [IntWalk.i64_in _ (by omega)]; simp
  have s2 : IntKind.i64.wrap ((r : Int) + (s : Int)) = ((r + s : Nat) : Int) := by rw [IntWalk.i64_in _ (by omega)]; simp
  generalize hax : a + x = ax at *
  generalize hrs : r + s = rs at *
  clear hax hrs
  generalize needN ax r = N1 at *
  generalize needN a r = N2 at *
  generalize needN a rs = N3 at *
  generalize needN x s = N4 at *
  generalize needN ax rs = N5 at *
  have s3 : IntKind.i64.wrap ((N2 : Int) + (N4 : Int)) = ((N2 + N4 : Nat) : Int) := by rw [IntWalk.i64_in _ (by omega)]; simp
  have g1 : decide ((N2 : Int) ≤ (N1 : Int)) = true := by simp; omega
  have g2 : decide ((N2 : Int) ≤ (N3 : Int)) = true := by simp; omega
  have g3 : decide ((N5 : Int) ≤ ((N2 + N4 : Nat) : Int)) = true := by simp; omega
  have g4 : decide ((N5 : Int) ≤ (N2 : Int) + (N4 : Int)) = true := by simp; omega
  have g1' : decide (N2 ≤ N1) = true := by simp; omega
  have g2' : decide (N2 ≤ N3) = true := by simp; omega
  have g3' : decide (N5 ≤ N2 + N4) = true := by simp; omega
  clear n1 n2 n3 b1 b2 b3 b4 b5
  go_enter Tryd.func9, Tryd.ntmps9
  go_wp2_with fail
  refine HAW.out.mono ?_
  rintro e w1 ⟨rfl, hb1⟩
  have HB1 := Lib.hid hb1
  clear hb1
  go_wp2_with fail
  refine (HC1.out _).mono ?_
  rintro e w2 ⟨rfl, hb2⟩
  have HB2 := Lib.hid (below_up HB1.out hb2 HB1.out.size)
  clear hb2
  go_wp2_with fail
  refine (HC2.out _).mono ?_
  rintro e w3 ⟨rfl, hb3⟩
  have HB3 := Lib.hid (below_up HB2.out hb3 HB2.out.size)
  clear hb3
  go_wp2_with fail
  refine (HC3.out _).mono ?_
  rintro e w4 ⟨rfl, hb4⟩
  have HB4 := Lib.hid (below_up HB3.out hb4 HB3.out.size)
  clear hb4
  go_wp2_with fail
  refine (HC2.out _).mono ?_
  rintro e w5 ⟨rfl, hb5⟩
  have HB5 := Lib.hid (below_up HB4.out hb5 HB4.out.size)
  clear hb5
  go_wp2_with fail
  refine (HC2.out _).mono ?_
  rintro e w6 ⟨rfl, hb6⟩
  have HB6 := Lib.hid (below_up HB5.out hb6 HB5.out.size)
  clear hb6
  go_wp2_with fail
  refine (HC4.out _).mono ?_
  rintro e w7 ⟨rfl, hb7⟩
  have HB7 := Lib.hid (below_up HB6.out hb7 HB6.out.size)
  clear hb7
  go_wp2_with fail
  refine (HC5.out _).mono ?_
  rintro e w8 ⟨rfl, hb8⟩
  have HB8 := Lib.hid (below_up HB7.out hb8 HB7.out.size)
  clear hb8
  go_wp2
  go_ret
  first | exact ⟨rfl, HB8.out⟩ | exact ⟨JMay.ret_b g4, HB8.out⟩
end Go.Proofs.YtgegmoejhnjhjaaDoor.JLNeeds
