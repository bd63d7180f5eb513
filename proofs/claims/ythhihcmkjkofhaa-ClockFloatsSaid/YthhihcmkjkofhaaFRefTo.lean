/- The document's To; the law ClockFloats. -/
import Derived.Test.YthhihcmkjkofhaaFRef5
import Derived.Test.YthhihcmkjkofhaaFToN
namespace Go.Proofs.Ythhihcmkjkofhaa.FRefTo
open Go.RowKit WMem WAppend FPlain FWord FNear FRows FMath FCmp FExp FLd FCut FNano FSec FRef1 FRef2 FRef3 FRef4 FRef5 FToN

theorem own_one (b : Bool) (w : World) : (w.alloc (.cells #[.bool b] 4)).ownsRow w.heap.size 4 1 (.slice (some ⟨w.heap.size, 0, none⟩) 1 1) 1 [.bool b] :=
  ⟨by simp, .inr ⟨w.heap.size, 1, #[.bool b], rfl, Nat.le_refl _, heap_alloc_new w _, Nat.le_refl _, by unfold maxLen; omega, by simp, by simp⟩⟩
theorem to_wraps (cut : Nat) (h1 : 1 ≤ cut) (h2 : cut ≤ 100) : wrap64 (((cut + 53 : Nat) : Int) - 53) = (cut : Int) ∧ wrap64 ((cut : Int) + 1) = ((cut + 1 : Nat) : Int) ∧ wrap64 ((cut : Int) - 100) = (cut : Int) - 100 :=
  ⟨by rw [wr (by omega)]; omega, by rw [wr (by omega)]; omega, wr (by omega)⟩
theorem pos_wrap (n : Nat) (h : n < 9223372036854775808) : IntKind.u64.wrap (n : Int) = n := by rw [IntKind.wrap_u64]; omega
theorem neg_wraps (n : Nat) (h0 : 0 < n) (h : n ≤ 9223372036854775808) : ∃ v : Nat, IntKind.u64.wrap (-(n : Int)) = v ∧ IntKind.u64.wrap (-(v : Int)) = n :=
  ⟨18446744073709551616 - n, by rw [IntKind.wrap_u64]; omega, by rw [IntKind.wrap_u64]; omega⟩
theorem refTo_zero (w : World) : Calls Try.prog 20 #[.int .i64 0] w fun e w' => e = .returned (.float .f64 0) ∧ Below w.heap.size w w' := by
  go_enter Try.func20, Try.ntmps20
  go_wp2
  go_ret
  exact ⟨rfl, Below.refl _ _⟩
theorem twice_100 (l : List Bool) (B : Nat) (A : Option Addr) (c : Nat) (w : World) (hl : l.length ≤ 1000) (hB : B ≤ w.heap.size) (hA : Sl w B A (l.map Value.bool)) :
    Calls Try.prog 37 #[.slice A l.length c, .int .i64 100] w (RowOf (2 ^ 100 * num l) (100 + l.length) w) :=
  twice_any l 100 B A c w (by omega) (by omega) hB hA
theorem len_one (o : List Bool) (b : Bool) : (b :: o).length = 1 + o.length := by simp [Nat.add_comm]
set_option maxHeartbeats 300000 in
theorem refTo_up (n : Nat) (h0 : 0 < n) (h : n < 9223372036854775808) (w : World) : Calls Try.prog 20 #[.int .i64 n] w fun e w' => e = .returned (.float .f64 (secR n)) ∧ Below w.heap.size w w' := by
  obtain ⟨Q, cut, m, T, f, E, y, hQ, hlen, c1, c2, hm, hm2, hsmall, hF, t1, t2, hf, hE, e1, e2, hy, hs⟩ := to_nums n h0 (by omega)
  rw [← hs]
  have d0 : decide (n = 0) = false := by simp; omega
  have d0' : ((n : Int) == 0) = false := by rw [beq_eq_false_iff_ne]; omega
  have d1 : decide ((n : Int) < 0) = false := by simp
  obtain ⟨k3, hk3⟩ : ∃ k3, k3 = cut + 1 := ⟨_, rfl⟩
  have hk1 : 1 ≤ k3 := by omega
  have hk2 : k3 ≤ 5000 := by omega
  have g0 := wr (n := (cut : Int)) (by omega)
  obtain ⟨g1, g2, g3⟩ := to_wraps cut c1 c2
  rw [← hk3] at g2 hm hsmall
  have hw0 := pos_wrap n h
  have hc := fun w => conv_u m hm2 w
  rw [hF] at hc
  obtain ⟨F, hFF⟩ : ∃ F, F = T * 4503599627370496 + f := ⟨_, rfl⟩
  rw [← hFF] at hc
  have HP := Lib.hid (fun w => Ldexp_pos F y ((cut : Int) - 100) w (ldexp_norm F T f E y _ hFF t1 t2 hf hE e1 e2 hy w))
  have HR := Lib.hid (row_any n (by omega) w)
  have HQ := Lib.hid hQ
  have HLEN := Lib.hid hlen
  have HM := Lib.hid hm
  have HSM := Lib.hid hsmall
  have K1 := Lib.hid hk1
  have K2 := Lib.hid hk2
  clear hQ hlen hm hm2 hsmall hF t1 t2 hf hE e1 e2 hy hs hFF h0 h c1 c2 hk1 hk2 hk3
  go_enter Try.func20, Try.ntmps20
  go_wp2_with (first
    | (go_at_call 35; (with_reducible refine HR.out.mono ?_); rintro e w1 ⟨A1, l1, k1, rfl, n1, len1, s1, b1, _⟩
       have N1 := Lib.hid n1
       have L1 := Lib.hid len1
       have HT := Lib.hid (twice_100 l1 w1.heap.size A1 k1 w1 (by omega) (Nat.le_refl _) s1)
       have B1 := Lib.hid b1
       clear n1 len1 s1 b1)
    | (go_at_call 37; (with_reducible refine HT.out.mono ?_); rintro e w2 ⟨A2, l2, k2, rfl, n2, len2, s2, b2, _⟩
       have hl2 : l2.length ≤ 1000 := by have := L1.out; omega
       have HD := Lib.hid (divided_any l2 w2.heap.size A2 k2 w2 hl2 (Nat.le_refl _) s2)
       have N2 := Lib.hid n2
       have L2 := Lib.hid hl2
       have B2 := Lib.hid b2
       clear n2 len2 s2 b2 hl2)
    | (go_at_call 38; (with_reducible refine HD.out.mono ?_); rintro e w3 ⟨g, o, rfl, olen, onum, orow, hg, b3⟩
       rw [N2.out, N1.out] at onum ⊢
       have hon : num o = Q := by rw [onum, HQ.out]
       have hoL : o.length ≤ 1000 := by have := L2.out; omega
       have HG := Lib.hid (length_any o w3.heap.size (some ⟨g, 0, none⟩) o.length w3 (by omega) (orow.sl orow.lt))
       rw [hon, HLEN.out] at HG
       obtain ⟨p, hp⟩ : ∃ p, p = decide (2 ^ 100 * n % 1000000000 ≠ 0) := ⟨_, rfl⟩
       rw [← hp]
       have HPP := Lib.hid hp
       have HO3 := Lib.hid (own_one p w3)
       have HS3 : Hid (Sl (w3.alloc (.cells #[.bool p] 4)) w3.heap.size (some ⟨g, 0, none⟩) (o.map Value.bool)) := Lib.hid ((orow.sl orow.lt).keep fun q hq => World.cell?_alloc_lt w3 _ q (by omega))
       have HON := Lib.hid hon
       have HOL := Lib.hid hoL
       have B3 := Lib.hid b3
       clear olen onum orow hg b3 hon hoL hp)
    | (go_at_call 39; (with_reducible refine HG.out.mono ?_); rintro e w' ⟨rfl, rfl⟩)
    | (at_builtin; go_loud (refine wl_append rfl (.tmp 33) (.tmp 34) 49 rfl w3.heap.size 4 1 elemR _ 1 _ rfl HO3.out w3.heap.size (some ⟨g, 0, none⟩) o.length o.length (o.map Value.bool) rfl (by simp) HS3.out (one_b o) (by have := HOL.out; omega) (by have := HOL.out; unfold maxLen; omega) (by simp) ?_); intro v' w4 h1 h2 h3
       have b4 : Below w3.heap.size w3 w4 := ((Below.refl _ _).alloc (Nat.le_refl _) _).grown h2 (by simp) (fun k hk => own_is hk)
       obtain ⟨A4, k4, hv4, s4, cap4⟩ := own_sl h1
       have HH := Lib.hid (half_any (p :: o) w4.heap.size A4 k4 k3 w4 (by have := HOL.out; simp; omega) (by rw [len_one]; exact cap4) K1.out K2.out (Nat.le_refl _) s4 (by rw [num, HON.out]; rw [HPP.out]; exact HSM.out))
       rw [num, HON.out] at HH
       have hm' := HM.out
       rw [← HPP.out] at hm'
       rw [hm', len_one] at HH
       have B4 := Lib.hid b4
       clear h1 h2 h3 b4 s4 cap4 hm'
       subst hv4)
    | (go_at_call 33; (with_reducible refine HH.out.mono ?_); rintro e w5 ⟨rfl, b5⟩
       have B5 := Lib.hid b5
       clear b5)
    | (go_at_call 26; (with_reducible refine (HP.out _).mono ?_); rintro e w' ⟨rfl, rfl⟩))
  go_ret
  refine ⟨rfl, ?_⟩
  exact (((B1.out.trans (B2.out.mono B1.out.size)).trans (B3.out.mono (Nat.le_trans B1.out.size B2.out.size))).trans (B4.out.mono (Nat.le_trans (Nat.le_trans B1.out.size B2.out.size) B3.out.size))).trans (B5.out.mono (Nat.le_trans (Nat.le_trans (Nat.le_trans B1.out.size B2.out.size) B3.out.size) B4.out.size))
set_option maxHeartbeats 300000 in
theorem refTo_down (n : Nat) (ns : Int) (hns : ns = -(n : Int)) (h0 : 0 < n) (h : n ≤ 9223372036854775808) (w : World) : Calls Try.prog 20 #[.int .i64 ns] w fun e w' => e = .returned (.float .f64 (9223372036854775808 + secR n)) ∧ Below w.heap.size w w' := by
  have hyl := secR_lt (n := n) (by omega)
  have hneg := neg_word (secR n) (Nat.lt_trans hyl (by decide))
  obtain ⟨Q, cut, m, T, f, E, y, hQ, hlen, c1, c2, hm, hm2, hsmall, hF, t1, t2, hf, hE, e1, e2, hy, hs⟩ := to_nums n h0 (by omega)
  rw [← hs] at hneg ⊢
  have d0' : (ns == 0) = false := by rw [beq_eq_false_iff_ne]; omega
  have d1 : decide (ns < 0) = true := by simp; omega
  obtain ⟨k3, hk3⟩ : ∃ k3, k3 = cut + 1 := ⟨_, rfl⟩
  have hk1 : 1 ≤ k3 := by omega
  have hk2 : k3 ≤ 5000 := by omega
  have g0 := wr (n := (cut : Int)) (by omega)
  obtain ⟨g1, g2, g3⟩ := to_wraps cut c1 c2
  rw [← hk3] at g2 hm hsmall
  obtain ⟨v, hv1, hv2⟩ := neg_wraps n h0 h
  rw [← hns] at hv1
  have hc := fun w => conv_u m hm2 w
  rw [hF] at hc
  obtain ⟨F, hFF⟩ : ∃ F, F = T * 4503599627370496 + f := ⟨_, rfl⟩
  rw [← hFF] at hc
  have HP := Lib.hid (fun w => Ldexp_pos F y ((cut : Int) - 100) w (ldexp_norm F T f E y _ hFF t1 t2 hf hE e1 e2 hy w))
  have HR := Lib.hid (row_any n (by omega) w)
  have HQ := Lib.hid hQ
  have HLEN := Lib.hid hlen
  have HM := Lib.hid hm
  have HSM := Lib.hid hsmall
  have K1 := Lib.hid hk1
  have K2 := Lib.hid hk2
  clear hQ hlen hm hm2 hsmall hF t1 t2 hf hE e1 e2 hy hs hFF h0 h hns hyl c1 c2 hk1 hk2 hk3
  go_enter Try.func20, Try.ntmps20
  go_wp2_with (first
    | (go_at_call 35; (with_reducible refine HR.out.mono ?_); rintro e w1 ⟨A1, l1, k1, rfl, n1, len1, s1, b1, _⟩
       have N1 := Lib.hid n1
       have L1 := Lib.hid len1
       have HT := Lib.hid (twice_100 l1 w1.heap.size A1 k1 w1 (by omega) (Nat.le_refl _) s1)
       have B1 := Lib.hid b1
       clear n1 len1 s1 b1)
    | (go_at_call 37; (with_reducible refine HT.out.mono ?_); rintro e w2 ⟨A2, l2, k2, rfl, n2, len2, s2, b2, _⟩
       have hl2 : l2.length ≤ 1000 := by have := L1.out; omega
       have HD := Lib.hid (divided_any l2 w2.heap.size A2 k2 w2 hl2 (Nat.le_refl _) s2)
       have N2 := Lib.hid n2
       have L2 := Lib.hid hl2
       have B2 := Lib.hid b2
       clear n2 len2 s2 b2 hl2)
    | (go_at_call 38; (with_reducible refine HD.out.mono ?_); rintro e w3 ⟨g, o, rfl, olen, onum, orow, hg, b3⟩
       rw [N2.out, N1.out] at onum ⊢
       have hon : num o = Q := by rw [onum, HQ.out]
       have hoL : o.length ≤ 1000 := by have := L2.out; omega
       have HG := Lib.hid (length_any o w3.heap.size (some ⟨g, 0, none⟩) o.length w3 (by omega) (orow.sl orow.lt))
       rw [hon, HLEN.out] at HG
       obtain ⟨p, hp⟩ : ∃ p, p = decide (2 ^ 100 * n % 1000000000 ≠ 0) := ⟨_, rfl⟩
       rw [← hp]
       have HPP := Lib.hid hp
       have HO3 := Lib.hid (own_one p w3)
       have HS3 : Hid (Sl (w3.alloc (.cells #[.bool p] 4)) w3.heap.size (some ⟨g, 0, none⟩) (o.map Value.bool)) := Lib.hid ((orow.sl orow.lt).keep fun q hq => World.cell?_alloc_lt w3 _ q (by omega))
       have HON := Lib.hid hon
       have HOL := Lib.hid hoL
       have B3 := Lib.hid b3
       clear olen onum orow hg b3 hon hoL hp)
    | (go_at_call 39; (with_reducible refine HG.out.mono ?_); rintro e w' ⟨rfl, rfl⟩)
    | (at_builtin; go_loud (refine wl_append rfl (.tmp 33) (.tmp 34) 49 rfl w3.heap.size 4 1 elemR _ 1 _ rfl HO3.out w3.heap.size (some ⟨g, 0, none⟩) o.length o.length (o.map Value.bool) rfl (by simp) HS3.out (one_b o) (by have := HOL.out; omega) (by have := HOL.out; unfold maxLen; omega) (by simp) ?_); intro v' w4 h1 h2 h3
       have b4 : Below w3.heap.size w3 w4 := ((Below.refl _ _).alloc (Nat.le_refl _) _).grown h2 (by simp) (fun k hk => own_is hk)
       obtain ⟨A4, k4, hv4, s4, cap4⟩ := own_sl h1
       have HH := Lib.hid (half_any (p :: o) w4.heap.size A4 k4 k3 w4 (by have := HOL.out; simp; omega) (by rw [len_one]; exact cap4) K1.out K2.out (Nat.le_refl _) s4 (by rw [num, HON.out]; rw [HPP.out]; exact HSM.out))
       rw [num, HON.out] at HH
       have hm' := HM.out
       rw [← HPP.out] at hm'
       rw [hm', len_one] at HH
       have B4 := Lib.hid b4
       clear h1 h2 h3 b4 s4 cap4 hm'
       subst hv4)
    | (go_at_call 33; (with_reducible refine HH.out.mono ?_); rintro e w5 ⟨rfl, b5⟩
       have B5 := Lib.hid b5
       clear b5)
    | (go_at_call 26; (with_reducible refine (HP.out _).mono ?_); rintro e w' ⟨rfl, rfl⟩))
  go_ret
  refine ⟨rfl, ?_⟩
  exact (((B1.out.trans (B2.out.mono B1.out.size)).trans (B3.out.mono (Nat.le_trans B1.out.size B2.out.size))).trans (B4.out.mono (Nat.le_trans (Nat.le_trans B1.out.size B2.out.size) B3.out.size))).trans (B5.out.mono (Nat.le_trans (Nat.le_trans (Nat.le_trans B1.out.size B2.out.size) B3.out.size) B4.out.size))
theorem refTo_any (ns : Int) (h1 : -9223372036854775808 ≤ ns) (h2 : ns < 9223372036854775808) (w : World) : Calls Try.prog 20 #[.int .i64 ns] w fun e w' => e = .returned (.float .f64 (toW ns)) ∧ Below w.heap.size w w' := by
  rcases Int.lt_trichotomy ns 0 with h | h | h
  · have e : toW ns = 9223372036854775808 + secR ns.natAbs := by unfold toW; rw [if_pos h]
    rw [e]
    exact refTo_down ns.natAbs ns (by omega) (by omega) (by omega) w
  · subst h
    have e : toW 0 = 0 := by unfold toW; rw [if_neg (by omega)]; exact secR_zero
    rw [e]
    exact refTo_zero w
  · obtain ⟨n, hn⟩ : ∃ n : Nat, ns = n := ⟨ns.natAbs, by omega⟩
    subst hn
    have e : toW (n : Int) = secR n := by unfold toW; rw [if_neg (by omega), Int.natAbs_natCast]
    rw [e]
    exact refTo_up n (by omega) (by omega) w
end Go.Proofs.Ythhihcmkjkofhaa.FRefTo
