/- The allocator: a row of blocks is given back. -/
import Derived.Test.YtgkindoidmglnaaGreatDoorMg42
namespace Go.Proofs.YtgkindoidmglnaaGreatDoor.AGive
open Go.RowKit Go.Shelf WMem WPlain WAppend WCrc WSeal TPlain TBits TSet TTurn TFace TTurnF TSame TFind TFacts GPlain GGeo GGeo2 GFace Ext Map DPlain DMem EPlain EMem EFace EBack EAny SPlain QPlain QMem APlain AMem AGeo AOpen ATurn ACount ATake AGivA

section
variable {a w : World} {B : Nat} {S : Nat → Prop} {b db : Nat} {s : Sto} {A : Al} {lb gb c : Nat} {gs : List Grp} {fb fi : Int}
set_option maxHeartbeats 20000000 in
set_option maxRecDepth 20000 in
theorem give_own (h : AS a B S w b db s) (hs : Says s A) (hL : Led w lb gb c b A A.gs A.fb A.fi) (hS1 : S lb) (hS2 : S gb) (ha1 : a.heap.size ≤ lb) (ha2 : a.heap.size ≤ gb) (hT : Tab a) (hload : s.load + 3000 ≤ 1073741824) (first n : Int) (hff : Fits first) :
    Calls Tryz.prog 32 #[.pointer (some ⟨lb, 0, none⟩), .int .i64 first, .int .i64 n] w fun e w' => ∃ er s', e = .returned (.int .i64 er) ∧ Gave 1 A s first n er s' ∧ AS a B S w' b db s' ∧ Kp (fun q => S q ∧ q ≠ lb ∧ q ≠ gb) w w' := by
  have hM := hs.fine.may
  obtain ⟨i, hi0⟩ : ∃ i, gof A first = i := ⟨_, rfl⟩
  have hi : i < A.ng := by rw [← hi0]; exact gof_lt hM first
  obtain ⟨x0, x1, x2, x3, x4, x5, N, hp⟩ : ∃ x0 x1 x2 x3 x4 x5 n, PL A i x0 x1 x2 x3 x4 x5 n := ⟨_, _, _, _, _, _, _, ⟨rfl, rfl, rfl, rfl, rfl, rfl, rfl⟩⟩
  have G := geo hM hi
  have hN16 : N ≤ 2016 := by rw [← hp.en]; exact G.a7
  have hx1 : x1 ≤ 4096 := by have := G.a8; have := hM.b1; have := hp.e1; omega
  have hx01 : x0 + N = x1 := by rw [← hp.e0, ← hp.e1, ← hp.en]
  have hx05 : x0 ≤ x5 := by rw [← hp.e0, ← hp.e5]; omega
  have HGO := Lib.hid (groupOf_any hL hM first)
  rw [hi0] at HGO
  have hno : ∀ j x m, GoodB A first n j x m → j = i ∧ 1 ≤ n ∧ (x5 : Int) ≤ first ∧ n ≤ (x1 : Int) - first ∧ first = (x0 + x : Nat) ∧ n = (m : Int) := fun j x m hg => by
    have e := (good_gof hM hg).symm.trans hi0
    subst e
    have h1 := hg.hf
    have h2 := hg.hn
    have h3 := hg.h1
    have h4 := hg.ho
    have h5 := hg.hs
    have h6 := hp.e0
    have h7 := hp.e1
    have h8 := hp.e5
    exact ⟨rfl, by omega, by omega, by omega, by omega, h2⟩
  have HP := Lib.hid hp
  have HNO := Lib.hid hno
  have H := Lib.hid h
  have HS := Lib.hid hs
  have HL := Lib.hid hL
  have HT := Lib.hid hT
  clear h hs hL hT hp hno G hi0
  go_enter Tryz.func32, Tryz.ntmps32
  go_wp2_with fail
  refine HGO.out.mono ?_
  rintro e w1 ⟨rfl, hb1⟩
  obtain ⟨c0, c1, c2, c3, c4, -⟩ := (HL.out.below hb1).cs
  have HB1 := Lib.hid hb1
  clear hb1
  go_wp2_with fail
  refine (place_l HP.out hM hi _).mono ?_
  rintro e w2 ⟨rfl, hb2⟩
  have HB2 := Lib.hid ((below_up HB1.out hb2 HB1.out.size).alloc (by have := HB1.out.size; have := hb2.size; omega) (.cells #[.int .i64 x0, .int .i64 x1, .int .i64 x2, .int .i64 x3, .int .i64 x4, .int .i64 x5] 115))
  have r2 := rowV_new w2 [.int .i64 x0, .int .i64 x1, .int .i64 x2, .int .i64 x3, .int .i64 x4, .int .i64 x5] 115
  have HR2 := Lib.hid r2
  have HA2 := Lib.hid (H.out.also HB2.out)
  have HL2 := Lib.hid (HL.out.below HB2.out)
  have hq2 : w.heap.size ≤ w2.heap.size := by have := HB1.out.size; have := hb2.size; omega
  have HQ2 := Lib.hid hq2
  have hq3 : w2.heap.size < (w2.alloc (.cells #[.int .i64 x0, .int .i64 x1, .int .i64 x2, .int .i64 x3, .int .i64 x4, .int .i64 x5] 115)).heap.size := by simp
  have HQ3 := Lib.hid hq3
  have y0 := rowc r2 0 rfl
  have y1 := rowc r2 1 rfl
  have y2 := rowc r2 2 rfl
  have y5 := rowc r2 5 rfl
  clear hb2 r2 c0 c1 c2 c3 c4 hq2 hq3
  by_cases hn1 : n < 1
  · have d1 : decide (n < 1) = true := by simp; omega
    go_wp2
    go_ret
    exact ⟨22, s, rfl, .inl ⟨by decide, fun ⟨j, x, m, hg⟩ => (by have := (HNO.out j x m hg).2.1; omega), (Rd.refl HS.out.coh).more (by omega)⟩, HA2.out.less fun q hq => .inl hq, (H.out.kp HB2.out).less fun q hq => hq.1⟩
  · have d1 : decide (n < 1) = false := by simp; omega
    by_cases hn2 : first < (x5 : Int)
    · have d2 : decide (first < (x5 : Int)) = true := by simp; omega
      go_wp2
      go_ret
      exact ⟨22, s, rfl, .inl ⟨by decide, fun ⟨j, x, m, hg⟩ => (by have := (HNO.out j x m hg).2.2.1; omega), (Rd.refl HS.out.coh).more (by omega)⟩, HA2.out.less fun q hq => .inl hq, (H.out.kp HB2.out).less fun q hq => hq.1⟩
    · have d2 : decide (first < (x5 : Int)) = false := by simp; omega
      have HSUB : Hid (IntKind.i64.wrap ((x1 : Int) - first) = (x1 : Int) - first) := Lib.hid (IntWalk.i64_in _ (by have := hff.1; have := hff.2; omega))
      by_cases hn3 : (x1 : Int) - first < n
      · have d3 : decide ((x1 : Int) - first < n) = true := by simp; omega
        have hsub := HSUB.out
        go_wp2
        clear hsub
        go_ret
        exact ⟨22, s, rfl, .inl ⟨by decide, fun ⟨j, x, m, hg⟩ => (by have := (HNO.out j x m hg).2.2.2.1; omega), (Rd.refl HS.out.coh).more (by omega)⟩, HA2.out.less fun q hq => .inl hq, (H.out.kp HB2.out).less fun q hq => hq.1⟩
      · have d3 : decide ((x1 : Int) - first < n) = false := by simp; omega
        obtain ⟨x, hxe⟩ : ∃ x : Nat, first = (x0 + x : Nat) := ⟨(first - x0).toNat, by omega⟩
        obtain ⟨m, hme⟩ : ∃ m : Nat, n = (m : Int) := ⟨n.toNat, by omega⟩
        subst hxe hme
        have hxm : x + m ≤ N := by omega
        have hx5 : x5 ≤ x0 + x := by omega
        have hm1 : 1 ≤ m := by omega
        have HW1 : Hid (wrap64 ((x1 : Int) - (x0 : Int)) = (N : Int)) := Lib.hid (by rw [IntWalk.wrap64_in _ ⟨by omega, by omega⟩]; omega)
        have HW2 : Hid (wrap64 ((x0 : Int) + (x : Int) - (x0 : Int)) = (x : Int)) := Lib.hid (by rw [IntWalk.wrap64_in _ ⟨by omega, by omega⟩]; omega)
        have hbt : A.bat i + 1 < s.N := HS.out.bat_lt hi
        have hx2 : x2 < s.N := by rw [← HP.out.e2]; omega
        have hv2 : s.val x2 = A.bm i := by rw [← HP.out.e2]; exact HS.out.bms i hi
        have hm2 : isMap (A.bm i) N x2 = true := by rw [← HP.out.en, ← HP.out.e2]; exact HS.out.fine.bm i hi
        have HM2 := Lib.hid (And.intro hx2 (And.intro hv2 hm2))
        clear hv2 hm2 hbt y5
        have hs1 := HW1.out
        have hsub := HSUB.out
        go_wp2_with fail
        clear hs1 hsub
        rw [show (x1 : Int) - (x0 : Int) = (N : Int) by omega]
        refine (read_own HA2.out HL2.out (.inl hS1) HS.out.coh HT.out (by omega) x2 N (A.bm i) HM2.out.1 HM2.out.2.1 hN16 HM2.out.2.2).mono ?_
        rintro e w3 ⟨g, c', rest, rfl, hg, hc', hR, hA3, hk3, hr3⟩
        generalize s.read x2 = s2 at *
        have HB4 := Lib.hid ((Below.refl w3.heap.size w3).alloc (Nat.le_refl _) (.cells #[.int .i64 x2, .int .i64 N, .slice (some ⟨g, 0, none⟩) 256 c'] 122))
        have HA4 := Lib.hid (hA3.also HB4.out)
        have r4 := rowV_new w3 [.int .i64 x2, .int .i64 N, .slice (some ⟨g, 0, none⟩) 256 c'] 122
        have b0 := rowc r4 0 rfl
        have b1 := rowc r4 1 rfl
        have b2 := rowc r4 2 rfl
        have r3 : RowV w3 w2.heap.size 115 _ := (hk3 _ (.inr ⟨HQ2.out, HQ3.out⟩)).trans HR2.out
        have y0 := rowc (r3.alloc (.cells #[.int .i64 x2, .int .i64 N, .slice (some ⟨g, 0, none⟩) 256 c'] 122)) 0 rfl
        have HL4 := Lib.hid ((HL2.out.kp hk3 (.inl hS1) (.inl hS2)).below HB4.out)
        have HR4 : Hid (Row (w3.alloc (.cells #[.int .i64 x2, .int .i64 N, .slice (some ⟨g, 0, none⟩) 256 c'] 122)) g (A.bm i) rest) := Lib.hid (row_alloc hR _)
        have HK4 : Hid (Kp S w (w3.alloc (.cells #[.int .i64 x2, .int .i64 N, .slice (some ⟨g, 0, none⟩) 256 c'] 122))) := Lib.hid (((H.out.kp HB2.out).trans (hk3.less fun q hq => .inl hq)).trans ((hA3.kp HB4.out).less fun q hq => .inl (.inl hq)))
        have HRD := Lib.hid hr3
        have hN2 : s2.N = s.N := hr3.N
        have hld := hr3.load
        clear r3 r4 hR hA3 hk3 hr3 y1 y2 d1 d2 d3 hn1 hn2 hn3
        cases hal : allB (A.bm i) x m (!false) with
        | false =>
          have HAL := Lib.hid hal
          clear hal
          have hs2 := HW2.out
          go_wp2_with fail
          clear hs2
          rw [show (x0 : Int) + (x : Int) - (x0 : Int) = (x : Int) by omega]
          refine (turn_bad HA4.out HT.out x2 N x m false (A.bm i) (by rw [hN2]; exact HM2.out.1) hN16 HM2.out.2.2 hm1 hxm HAL.out g c' rest hc' HR4.out).mono ?_
          rintro e w5 ⟨rfl, hb5⟩
          have HB5 := Lib.hid hb5
          clear hb5
          go_wp2
          go_ret
          refine ⟨117, s2, rfl, .inl ⟨by decide, fun ⟨j, x', m', hg⟩ => ?_, HRD.out⟩, ((HA4.out.go HB5.out).less fun q hq => .inl (.inl (.inl hq))), (HK4.out.less fun q hq => hq.1).trans (((HA4.out.kp HB5.out).less fun q hq => .inl (.inl (.inl hq.1))))⟩
          obtain ⟨e1, _, _, _, e5, e6⟩ := HNO.out j x' m' hg
          subst e1
          obtain rfl : x = x' := by omega
          obtain rfl : m = m' := by omega
          have : allB (A.bm j) x m (!false) = true := allB_iff.2 fun k hk => by rw [hg.ht k hk]
          rw [HAL.out] at this
          cases this
        | true =>
          have hfree : ∀ j, j < m → fr (A.bm i) (x + j) = false := fun j hj => by have := allB_iff.1 hal j hj; simpa using this
          obtain ⟨l, hl⟩ : ∃ l, turnL (A.bm i) x m x2 = l := ⟨_, rfl⟩
          have hl2 : turnL (A.bm i) x m (A.bat i) = l := by rw [HP.out.e2]; exact hl
          have hgood : GoodB A (x0 + x : Nat) m i x m := ⟨hi, by rw [HP.out.e0], rfl, hm1, by have := HP.out.e5; have := HP.out.e0; omega, by rw [HP.out.en]; exact hxm, hfree⟩
          have hbl := (map_of HM2.out.2.2).1
          have hfine : (A.setB i l).Fine := setB_fine HS.out.fine (fun _ => by rw [← hl2, HP.out.en]; exact turn_map (by have := HS.out.fine.bm i hi; rw [HP.out.en] at this; exact this) hxm hN16) (fun k hk => by
            rw [← hl2, fr_turn hbl x m (A.bat i) (by omega), HS.out.fine.fx i hi k hk]
            have : ¬ (x ≤ k ∧ k < x + m) := fun hc => by have := hgood.ho; omega
            simp [this])
          have hzero : TBits.zeros l = TBits.zeros (A.bm i) + m := by rw [← hl]; exact turn_give hbl x2 (by omega) hfree
          have hfb := setB_fb (A := A) l hi
          have hgi : A.gs[i]'(by rw [gs_len]; exact hi) = A.grp i := gs_get _
          have hgs := setB_gs (A := A) (i := i) l
          have HGS := Lib.hid hgs
          have HGD := Lib.hid hgood
          have HCN := Lib.hid (fun (W : World) (S' : Nat → Prop) (s' : Sto) (h1 : AS a B S' W b db s') (h2 : Led W lb gb c b A A.gs A.fb A.fi) (h3 : S' lb) (h4 : S' gb) (h5 : s'.load + 10 ≤ 1073741824) =>
            count_own h1 h2 h3 h4 ha1 ha2 HT.out h5 (i := i) (by rw [gs_len]; exact hi) (m : Int) 0 0 (TBits.zeros l : Nat) (TBits.zeros (A.im i) : Nat) (A.dirs i) ((A.setB i l).fb : Nat) (A.fi : Nat)
              (by rw [hgi]; show (TBits.zeros (A.bm i) : Int) + _ = _; omega) (by rw [hgi]; exact Int.add_zero _) (by rw [hgi]; exact Int.add_zero _) (by omega) (Int.add_zero _) (by rw [show A.gs.set i ⟨(TBits.zeros l : Nat), (TBits.zeros (A.im i) : Nat), A.dirs i⟩ = (A.setB i l).gs from hgs.symm]; exact fine_grp hfine) (fine_sup hfine))
          have HEQ := Lib.hid (And.intro hl hl2)
          have hHN : x0 + x + m ≤ s.N := by
            have := (geo hM hi).a8
            have := HS.out.N
            have := HP.out.e0
            have := HP.out.en
            omega
          have HTN := Lib.hid (turn_own HA4.out HL4.out (.inl (.inl (.inl hS1))) HT.out (by omega) x2 N x m false (A.bm i) (by rw [hN2]; exact HM2.out.1) hN16 HM2.out.2.2 hm1 hxm hal g c' rest hc' HR4.out)
          clear hfree hl hl2 hgood hfine hzero hfb hgi hgs hal
          have hs2 := HW2.out
          go_wp2_with fail
          clear hs2
          rw [show (x0 : Int) + (x : Int) - (x0 : Int) = (x : Int) by omega]
          refine HTN.out.mono ?_
          rintro e w5 ⟨rfl, hA5, hk5⟩
          rw [HEQ.out.1] at hA5
          have HA5 := Lib.hid hA5
          have HK5 := Lib.hid hk5
          have HL5 := Lib.hid (HL4.out.kp hk5 (.inl (.inl (.inl hS1))) (.inl (.inl (.inl hS2))))
          have hw5 := Sto.load_write s2 x2 l
          have hwN : (s2.write x2 l).N = s2.N := rfl
          generalize hs3 : s2.write x2 l = s3 at *
          have HS3 := Lib.hid hs3
          generalize hSS : (fun q => ((S q ∨ (w.heap.size ≤ q ∧ q < (w2.alloc (.cells #[.int .i64 x0, .int .i64 x1, .int .i64 x2, .int .i64 x3, .int .i64 x4, .int .i64 x5] 115)).heap.size)) ∨ q = g) ∨ (w3.heap.size ≤ q ∧ q < (w3.alloc (.cells #[.int .i64 x2, .int .i64 N, .slice (some ⟨g, 0, none⟩) 256 c'] 122)).heap.size)) = S5 at *
          have HSS : Hid (∀ q, S q → S5 q) := Lib.hid fun q hq => by subst hSS; exact .inl (.inl (.inl hq))
          have HNUM : Hid (x0 + x + m ≤ s3.N ∧ s3.N ≤ 4096 ∧ s3.load + m + 20 ≤ 1073741824) := Lib.hid ⟨by rw [hwN, hN2]; exact hHN, by have := HA5.out.len; omega, by omega⟩
          clear hA5 hk5 hs3 hSS b0 b1 b2 y0 hN2 hld hw5 hwN hHN hx5 hxm hN16 hx1 hx01 hx05 hff hload
          have HM1 := Lib.hid hm1
          clear hm1
          go_wp2_with fail
          go_loopw [68] (fun i wr => ∃ k : Nat, k ≤ m ∧ i = .int .i64 (k : Int) ∧ AS a B S5 wr b db (holds s3 (x0 + x) k) ∧ Kp S5 w5 wr) (fun i _ => (m - (RowKit.intOf i).toNat))
          case atStart => exact ⟨0, Nat.zero_le _, rfl, HA5.out, Kp.refl _ _⟩
          case round =>
            obtain ⟨k, hk, rfl, hA, hK⟩ := hrel
            have HA := Lib.hid hA
            have HK := Lib.hid hK
            by_cases hlt : k < m
            · obtain ⟨c0, -⟩ := (HL5.out.kp hK (HSS.out _ hS1) (HSS.out _ hS2)).cs
              have hk4 : k + 1 ≤ 4096 := by have h1 := HNUM.out.1; have h2 := HNUM.out.2.1; omega
              obtain ⟨y, hy⟩ : ∃ y, x0 + x + k = y := ⟨_, rfl⟩
              obtain ⟨hsum, hsum2, hyN⟩ := sum3 HNUM.out.1 HNUM.out.2.1 hlt hy
              have HHL : Hid ((holds s3 (x0 + x) k).load ≤ 1073741824) := Lib.hid (by have h1 := holds_load s3 (x0 + x) k; have h2 := HNUM.out.2.2; omega)
              have HHN : Hid (y < (holds s3 (x0 + x) k).N) := Lib.hid (by rw [holds_N]; exact hyN)
              have HY := Lib.hid hy
              clear hA hK hy hyN
              go_wp2_with fail
              clear hsum hsum2
              refine (a_hold HA.out (y : Int) y rfl HHN.out HHL.out).mono ?_
              rintro e w6 ⟨rfl, hA6, hk6⟩
              have HA6 := Lib.hid hA6
              have HK6 := Lib.hid hk6
              clear hA6 hk6
              go_wp2
              go_roundw
              case rel => exact ⟨k + 1, hlt, by go_num, by rw [← HY.out] at HA6; exact HA6.out, HK.out.trans HK6.out⟩
              case measure => first | exact round_lt hlt | (simp [RowKit.intOf]; omega)
            · obtain rfl : k = m := Nat.le_antisymm hk (Nat.le_of_not_lt hlt)
              have HHL : Hid ((holds s3 (x0 + x) k).load + 10 ≤ 1073741824) := Lib.hid (by have h1 := holds_load s3 (x0 + x) k; have h2 := HNUM.out.2.2; omega)
              have HL6 := Lib.hid (HL5.out.kp hK (HSS.out _ hS1) (HSS.out _ hS2))
              clear hA hK
              go_wp2_with fail
              refine (HCN.out _ _ _ HA.out HL6.out (HSS.out _ hS1) (HSS.out _ hS2) HHL.out).mono ?_
              rintro e w7 ⟨rfl, hA7, hk7⟩
              have HA7 := Lib.hid hA7
              have HK7 := Lib.hid hk7
              clear hA7 hk7
              go_wp2
              go_ret
              refine ⟨0, _, rfl, .inr ⟨rfl, i, x, k, l, s2, HGD.out, HEQ.out.2, HRD.out, rfl⟩, (HA7.out.less HSS.out).is ?_, (((HK4.out.less fun q hq => hq.1).trans (HK5.out.less fun q hq => HSS.out q hq.1)).trans (HK.out.less fun q hq => HSS.out q hq.1)).trans (HK7.out.less fun q hq => ⟨HSS.out q hq.1, hq.2⟩)⟩
              rw [show A.gs.set i ⟨(TBits.zeros l : Nat), (TBits.zeros (A.im i) : Nat), A.dirs i⟩ = (A.setB i l).gs from HGS.out.symm, ← HS3.out, HP.out.e2, HP.out.e0]
              rfl
end
end Go.Proofs.YtgkindoidmglnaaGreatDoor.AGive
