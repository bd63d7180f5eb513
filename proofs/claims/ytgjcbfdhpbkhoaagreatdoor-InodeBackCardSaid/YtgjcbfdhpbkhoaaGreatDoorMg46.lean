/- The allocator: what stands on an empty group: its bitmaps and its table. -/
import Derived.Test.YtgjcbfdhpbkhoaaGreatDoorMg45
import Derived.Test.YtgjcbfdhpbkhoaaGreatDoorMg40
import Derived.Test.YtgjcbfdhpbkhoaaGreatDoorMg37
import Derived.Test.YtgjcbfdhpbkhoaaGreatDoorMg44
namespace Go.Proofs.YtgjcbfdhpbkhoaaGreatDoor.AMake1
open Go.RowKit Go.Shelf WMem WPlain WAppend WCrc WSeal TPlain TBits TSet TTurn TFace TTurnF TSame TFind TFacts GPlain GGeo GGeo2 GFace Ext Map DPlain DMem Mk DPend EPlain EMem EFace EWrites EAny DRead SPlain QPlain QMem APlain AMem AGeo AOpen ATurn ATake
theorem fr_new {n seed : Nat} (hn : n ≤ 2016) (i : Nat) : fr (newB n seed) i = decide (i < n) := by
  have hl : (flips (List.replicate 256 0) n (2016 - n)).length = 256 := by rw [flips_len, List.length_replicate]
  unfold newB
  rw [fr_seal hl]
  by_cases hi : i < 2016
  · rw [fr_flips (List.length_replicate ..) hi (2016 - n) (by omega), fr_blank hi]
    have e : decide (n ≤ i ∧ i < n + (2016 - n)) = !decide (i < n) := by rw [Bool.eq_iff_iff]; simp; omega
    rw [e]
    cases decide (i < n) <;> rfl
  · rw [fr_big (by omega)]
    exact (decide_eq_false (by omega)).symm
theorem new_map {n seed : Nat} (hn : n ≤ 2016) : isMap (newB n seed) n seed = true :=
  map_mk (newB_len n seed) (by unfold newB; exact WTurn.sealed_sealL _ _ (by rw [flips_len, List.length_replicate]; omega)) (allB_iff.2 fun j _ => by rw [fr_new hn, decide_eq_false (by omega)]; rfl)
def zblk : Bk := List.replicate 256 0
def tabW (x4 k : Nat) : List (Nat × Bk) := (List.range k).map fun i => (x4 + i, zblk)
def grpW (x2 x3 x4 k : Nat) (bm im : Bk) : List (Nat × Bk) := (x2, bm) :: (x3, im) :: tabW x4 k
theorem grpW_len (x2 x3 x4 k : Nat) (bm im : Bk) : (grpW x2 x3 x4 k bm im).length = k + 2 := by simp [grpW, tabW]
theorem grpW_next (x2 x3 x4 k : Nat) (bm im : Bk) : grpW x2 x3 x4 (k + 1) bm im = grpW x2 x3 x4 k bm im ++ [(x4 + k, zblk)] := by simp [grpW, tabW, List.range_succ]
theorem writ_two {w W : World} {x2 x3 g2 c2 g3 c3 : Nat} {r2 r3 : List Value} {bm im : Bk} (hb : Below w.heap.size w W) (h2 : Row W g2 bm r2) (h3 : Row W g3 im r3) (l2 : bm.length = 256) (l3 : im.length = 256) (q2 : 256 ≤ c2) (q3 : 256 ≤ c3) (p2 : w.heap.size ≤ g2) (p3 : w.heap.size ≤ g3) (k2 : g2 < W.heap.size) (k3 : g3 < W.heap.size) :
    WrIn w (W.alloc (.cells #[.int .i64 x2, .slice (some ⟨g2, 0, none⟩) 256 c2, .int .i64 x3, .slice (some ⟨g3, 0, none⟩) 256 c3] 100)) [(x2, bm), (x3, im)] (.slice (some ⟨W.heap.size, 0, none⟩) 2 2) [.int .i64 x2, .slice (some ⟨g2, 0, none⟩) 256 c2, .int .i64 x3, .slice (some ⟨g3, 0, none⟩) 256 c3] := by
  have hs := hb.size
  refine ⟨⟨rfl, .inr ⟨W.heap.size, 2, _, rfl, hs, row_new W _, Nat.le_refl _, by decide, rfl, rfl⟩⟩, ⟨rfl, fun i hi => ?_⟩, hb.alloc hs _⟩
  have m2 : IsBlk (W.alloc (.cells #[.int .i64 x2, .slice (some ⟨g2, 0, none⟩) 256 c2, .int .i64 x3, .slice (some ⟨g3, 0, none⟩) 256 c3] 100)) (Made w (W.alloc (.cells #[.int .i64 x2, .slice (some ⟨g2, 0, none⟩) 256 c2, .int .i64 x3, .slice (some ⟨g3, 0, none⟩) 256 c3] 100))) (.slice (some ⟨g2, 0, none⟩) 256 c2) bm :=
    ⟨g2, c2, r2, rfl, ⟨p2, by simp; omega⟩, l2, q2, row_alloc h2 _⟩
  have m3 : IsBlk (W.alloc (.cells #[.int .i64 x2, .slice (some ⟨g2, 0, none⟩) 256 c2, .int .i64 x3, .slice (some ⟨g3, 0, none⟩) 256 c3] 100)) (Made w (W.alloc (.cells #[.int .i64 x2, .slice (some ⟨g2, 0, none⟩) 256 c2, .int .i64 x3, .slice (some ⟨g3, 0, none⟩) 256 c3] 100))) (.slice (some ⟨g3, 0, none⟩) 256 c3) im :=
    ⟨g3, c3, r3, rfl, ⟨p3, by simp; omega⟩, l3, q3, row_alloc h3 _⟩
  match i, hi with
  | 0, _ => exact ⟨_, rfl, rfl, m2⟩
  | 1, _ => exact ⟨_, rfl, rfl, m3⟩
section
variable {A : Al} {i x0 x1 x2 x3 x4 x5 N : Nat}
set_option maxRecDepth 100000 in
set_option maxHeartbeats 4000000 in
theorem emptyGroup_any (hp : PL A i x0 x1 x2 x3 x4 x5 N) (hM : May A.b A.p A.n A.j) (hi : i < A.ng) {n o : Nat} (hn : A.n = (n : Int)) (ho : A.own i = o) (w : World) (hT : Tab w) :
    Calls Tryz.prog 86 #[.agg #[.int .i64 A.b, .int .i64 A.p, .int .i64 (n : Int), .int .i64 A.j], .agg #[.int .i64 x0, .int .i64 x1, .int .i64 x2, .int .i64 x3, .int .i64 x4, .int .i64 x5]] w fun e w' => ∃ v ys, e = .returned (.tuple #[v, .int .i64 0]) ∧
      WrIn w w' (grpW x2 x3 x4 (x5 - x4) (turnL (newB N x2) (0 : Nat) (o : Nat) x2) (newB n x3)) v ys := by
  obtain ⟨i0, hi0, hz0, hz1, hz2⟩ := info_parts infoW
  have G := geo hM hi
  have hN16 : N ≤ 2016 := by rw [← hp.en]; exact G.a7
  have hn16 : n ≤ 2016 := by have := hM.n1; omega
  have hx1 : x1 ≤ 4096 := by have := G.a8; have := hM.b1; have := hp.e1; omega
  have hx01 : x0 + N = x1 := by rw [← hp.e0, ← hp.e1, ← hp.en]
  have hx05 : x0 + o = x5 := by rw [← hp.e0, ← hp.e5, ← ho]
  have hoN : o < N := by rw [← ho, ← hp.en]; exact G.a6
  have ho1 : 1 ≤ o := by have := G.a5; have := G.a4; omega
  have hx45 : x4 ≤ x5 := by rw [← hp.e4, ← hp.e5]; have := G.a5; omega
  have hx2 : x2 < 4096 := by rw [← hp.e2]; have := G.a5; have := hp.e5; omega
  have hx3 : x3 < 4096 := by rw [← hp.e3]; have := G.a5; have := hp.e5; omega
  have HW : Hid (wrap64 ((x1 : Int) - (x0 : Int)) = (N : Int) ∧ IntKind.i64.wrap ((x1 : Int) - (x0 : Int)) = (N : Int) ∧ IntKind.u32.wrap (x2 : Int) = (x2 : Int) ∧ IntKind.u32.wrap (x3 : Int) = (x3 : Int) ∧ wrap64 ((x5 : Int) - (x0 : Int)) = (o : Int) ∧ IntKind.i64.wrap ((x5 : Int) - (x0 : Int)) = (o : Int)) := Lib.hid
    ⟨by rw [IntWalk.wrap64_in _ ⟨by omega, by omega⟩]; omega, by rw [IntWalk.i64_in _ ⟨by omega, by omega⟩]; omega, by rw [IntKind.wrap_u32']; omega, by rw [IntKind.wrap_u32']; omega, by rw [IntWalk.wrap64_in _ ⟨by omega, by omega⟩]; omega, by rw [IntWalk.i64_in _ ⟨by omega, by omega⟩]; omega⟩
  have hb1 := below_box (w := w) (.cells #[.int .i64 A.b, .int .i64 A.p, .int .i64 (n : Int), .int .i64 A.j] 63)
  have hb2 := hb1.alloc (by simp) (.cells #[.int .i64 x0, .int .i64 x1, .int .i64 x2, .int .i64 x3, .int .i64 x4, .int .i64 x5] 147)
  have r0 := (rowV_new w [.int .i64 A.b, .int .i64 A.p, .int .i64 (n : Int), .int .i64 A.j] 63).alloc (.cells #[.int .i64 x0, .int .i64 x1, .int .i64 x2, .int .i64 x3, .int .i64 x4, .int .i64 x5] 147)
  have r1 := rowV_new (w.alloc (.cells #[.int .i64 A.b, .int .i64 A.p, .int .i64 (n : Int), .int .i64 A.j] 63)) [.int .i64 x0, .int .i64 x1, .int .i64 x2, .int .i64 x3, .int .i64 x4, .int .i64 x5] 147
  simp only [World.size_alloc] at r1
  have HT := Lib.hid hT
  have HP := Lib.hid hp
  have y0 := rowc r1 0 rfl
  have y1 := rowc r1 1 rfl
  have y2 := rowc r1 2 rfl
  have HB := Lib.hid hb2
  have R0 := Lib.hid r0
  have R1 := Lib.hid r1
  obtain ⟨u1, u2, u3, u4, u5, u6⟩ := HW.out
  clear hb1 hb2 r0 r1 hT hp
  obtain ⟨bm, hbm⟩ : ∃ l, turnL (newB N x2) (0 : Nat) (o : Nat) x2 = l := ⟨_, rfl⟩
  obtain ⟨im, him⟩ : ∃ l, newB n x3 = l := ⟨_, rfl⟩
  rw [hbm, him]
  have HBM := Lib.hid hbm
  have HIM := Lib.hid him
  clear hbm him
  go_enter Tryz.func86, Tryz.ntmps86
  go_wp2_with fail
  go_region
  clear u1 u2
  go_wp2_with fail
  refine (New_yes N x2 _ hN16 (by omega) (Tab.below HT.out (below_drewN HB.out 1) (Tab.lt HT.out))).mono ?_
  rintro e w1 ⟨g1, rfl, hg1, hR1, hb1⟩
  have R1D := Lib.hid (R1.out.drewN 1)
  have HB1 := Lib.hid (below_up (below_drewN HB.out 1) hb1 (by simp; omega))
  have r1 := (R1.out.drewN 1).keep hb1 (R1.out.drewN 1).lt
  have r0 := (R0.out.drewN 1).keep hb1 (R0.out.drewN 1).lt
  have y0 := rowc r1 0 rfl
  have y5 := rowc r1 5 rfl
  have HR1 := Lib.hid hR1
  have R0 := Lib.hid r0
  have R1 := Lib.hid r1
  have HBW := Lib.hid hb1
  have HC : Hid (Calls Tryz.prog 117 #[.slice (some ⟨g1, 0, none⟩) (256 : Nat) 256, .int .i64 (N : Int), .int .i64 ((0 : Nat) : Int), .int .i64 (o : Int), .bool true, .int .u32 (x2 : Nat)] w1 fun e w' => ∃ g cap rest, e = .returned (.tuple #[.slice (some ⟨g, 0, none⟩) 256 cap, .int .i64 0]) ∧ w1.heap.size ≤ g ∧ 256 ≤ cap ∧ Row w' g (turnL (newB N x2) (0 : Nat) (o : Nat) x2) rest ∧ Below w1.heap.size w1 w') := Lib.hid (by
    have hT1 : Tab w1 := Tab.below HT.out HB1.out (Tab.lt HT.out)
    have HK := Check_any (newB N x2) 256 (newB_len _ _) w1.heap.size (some ⟨g1, 0, none⟩) 256 N x2 w1 (by omega) (Nat.le_refl _) (HR1.out.sl HR1.out.lt) hT1
    rw [chk_map (new_map hN16) hN16] at HK
    exact Turn_yes (newB N x2) (newB_len _ _) w1.heap.size _ 256 N 0 o true x2 w1 (by omega) (Nat.le_refl _) hN16 ho1 (by omega) (allB_iff.2 fun j hj => by rw [fr_new hN16, decide_eq_true (by omega)]) (HR1.out.sl HR1.out.lt) hT1 HK)
  clear hR1 hb1 r0 r1 y1 y2
  go_wp2_with fail
  clear u5 u6
  try rw [show (x5 : Int) - (x0 : Int) = (o : Int) by omega]
  refine HC.out.mono ?_
  rintro e w2 ⟨g2, c2, rest2, rfl, hg2, hc2, hR2, hb2⟩
  have HB2 := Lib.hid (below_up HB1.out hb2 HB1.out.size)
  have r1 := R1.out.keep hb2 R1.out.lt
  have r0 := R0.out.keep hb2 R0.out.lt
  have HBW2 := Lib.hid (below_up HBW.out hb2 HBW.out.size)
  have HR2 := Lib.hid hR2
  have R0 := Lib.hid r0
  have R1 := Lib.hid r1
  have z2 := rowc r0 2 rfl
  have y3 := rowc r1 3 rfl
  clear hR2 hb2 r0 r1 y0 y5
  go_wp2_with fail
  refine (New_yes n x3 _ hn16 (by omega) (Tab.below HT.out HB2.out (Tab.lt HT.out))).mono ?_
  clear u3 u4
  rintro e w3 ⟨g3, rfl, hg3, hR3, hb3⟩
  have HB3 := Lib.hid (below_up HB2.out hb3 HB2.out.size)
  have HBW3 := Lib.hid (below_up HBW2.out hb3 HBW2.out.size)
  have r1 := R1.out.keep hb3 R1.out.lt
  have hR2 : Row w3 g2 (turnL (newB N x2) (0 : Nat) (o : Nat) x2) rest2 := row_below HR2.out hb3 HR2.out.lt
  have hbm := HBM.out
  have him := HIM.out
  have lbm : bm.length = 256 := by rw [← hbm]; exact turn_len (newB_len _ _) _ _ _
  have lim : im.length = 256 := by rw [← him]; exact newB_len _ _
  rw [hbm] at hR2
  rw [him] at hR3
  clear hbm him
  generalize hW0 : (((w.alloc (.cells #[.int .i64 A.b, .int .i64 A.p, .int .i64 (n : Int), .int .i64 A.j] 63)).alloc (.cells #[.int .i64 x0, .int .i64 x1, .int .i64 x2, .int .i64 x3, .int .i64 x4, .int .i64 x5] 147)).drewN 1) = W0 at *
  have hsz0 : W0.heap.size = w.heap.size + 2 := by rw [← hW0]; simp
  have hs1 := HBW.out.size
  have hs2 := HBW2.out.size
  have hs3 := HBW3.out.size
  have hbW : Below w.heap.size w W0 := by rw [← hW0]; exact below_drewN HB.out 1
  have H0 := Lib.hid (writ_two (x2 := x2) (x3 := x3) HBW3.out hR2 hR3 lbm lim hc2 (Nat.le_refl _) (by omega) (by omega) hR2.lt hR3.lt)
  have HR1 : Hid (∀ W, Below W0.heap.size W0 W → RowV W (w.heap.size + 1) 147 [.int .i64 x0, .int .i64 x1, .int .i64 x2, .int .i64 x3, .int .i64 x4, .int .i64 x5]) := Lib.hid fun W hb => by
    have h0 : RowV W0 (w.heap.size + 1) 147 [.int .i64 x0, .int .i64 x1, .int .i64 x2, .int .i64 x3, .int .i64 x4, .int .i64 x5] := R1D.out
    exact h0.keep hb h0.lt
  have HBW0 := Lib.hid hbW
  have y2 := rowc r1 2 rfl
  have y3 := rowc r1 3 rfl
  have y4 := rowc (HR1.out _ H0.out.below) 4 rfl
  clear r1 hR2 hR3 hb3 hg1 hg2 hg3 z2
  go_wp2_with fail
  go_loopw [11, 12] (fun v i wr => ∃ (k : Nat) (ys : List Value), x4 + k ≤ x5 ∧ i = .int .i64 (x4 + k : Nat) ∧ WrIn W0 wr (grpW x2 x3 x4 k bm im) v ys) (fun _ i _ => x5 - (RowKit.intOf i).toNat)
  case atStart => exact ⟨0, _, hx45, rfl, H0.out⟩
  case round =>
    obtain ⟨k, ys, hk, rfl, hw⟩ := hrel
    have y5 := rowc (HR1.out _ hw.below) 5 rfl
    have HW1 := Lib.hid hw
    obtain ⟨m, hm⟩ : ∃ m, x4 + k = m := ⟨_, rfl⟩
    rw [hm] at hk ⊢
    by_cases hlt : m < x5
    · have d1 : decide ((m : Int) < (x5 : Int)) = true := by simp; omega
      have hnx : x4 + (k + 1) = m + 1 := by omega
      have hm4 : m ≤ 4096 := by omega
      have hmk := Mk.make256
      have hz : (wr.alloc (.cells (zrow 256) 5)).heap.size = wr.heap.size + 1 := by simp
      have HB4 := Lib.hid (below_box (w := wr) (.cells (zrow 256) 5))
      have HU : Hid (IsBlk (wr.alloc (.cells (zrow 256) 5)) (fun g => wr.heap.size ≤ g ∧ g < (wr.alloc (.cells (zrow 256) 5)).heap.size) (.slice (some ⟨wr.heap.size, 0, none⟩) 256 256) zblk) := Lib.hid ⟨wr.heap.size, 256, [], rfl, ⟨Nat.le_refl _, by rw [hz]; omega⟩, by decide, Nat.le_refl _, Mk.zrow_row wr 256⟩
      have hown := hw.own
      rw [grpW_len] at hown
      have ho2 := own_same hown (w' := wr.alloc (.cells (zrow 256) 5)) (fun q hq => HB4.out.block q (own_lt hown q hq))
      have HO2 := Lib.hid (ho2.alloc (.cells #[.int .i64 m, .slice (some ⟨wr.heap.size, 0, none⟩) 256 256] 100))
      have hnew : ((wr.alloc (.cells (zrow 256) 5)).alloc (.cells #[.int .i64 m, .slice (some ⟨wr.heap.size, 0, none⟩) 256 256] 100)).heap[wr.heap.size + 1]? = some (.cells #[.int .i64 m, .slice (some ⟨wr.heap.size, 0, none⟩) 256 256] 100 (0, 0)) := by
        have := row_new (wr.alloc (.cells (zrow 256) 5)) (.cells #[.int .i64 m, .slice (some ⟨wr.heap.size, 0, none⟩) 256 256] 100)
        rw [hz] at this
        exact this
      have HNW := Lib.hid hnew
      have HLN : Hid ((grpW x2 x3 x4 k bm im).length = k + 2) := Lib.hid (grpW_len ..)
      have HNX : Hid (grpW x2 x3 x4 (k + 1) bm im = grpW x2 x3 x4 k bm im ++ [(m, zblk)]) := Lib.hid (by rw [grpW_next, hm])
      have HM := Lib.hid hm
      have hk16 : k ≤ 4096 := by omega
      have s1 := HW1.out.below.size
      clear hw hown ho2 hnew hm
      go_wp2_with (at_builtin; go_must (refine wpList_append_own _ rfl _ _ 92 rfl W0.heap.size 100 i0 _ 2 32 underW hi0 hz0 hz1 hz2 rfl (by decide) _ (k + 2) ys rfl HO2.out ⟨wr.heap.size + 1, 0, none⟩ 1 1 [.int .i64 m, .slice (some ⟨wr.heap.size, 0, none⟩) 256 256] rfl rfl (World.news_of_block (cs := #[.int .i64 m, .slice (some ⟨wr.heap.size, 0, none⟩) 256 256]) (t := 100) (fr := (0, 0)) HNW.out) (by simp [Value.oneCell']) (by unfold maxLen; omega) (by omega) (by simp; omega) ?_); intro v' w4 h3 h4 _
                   have HW4 := Lib.hid (WrIn.snoc HW1.out HB4.out HU.out (by rw [HLN.out]; exact h3) h4)
                   clear h3 h4)
      go_roundw
      case rel => exact ⟨k + 1, _, by omega, by rw [hnx]; go_num, by rw [HNX.out]; exact HW4.out⟩
      case measure => simp [RowKit.intOf]; omega
    · have d1 : decide ((m : Int) < (x5 : Int)) = false := by simp; omega
      have HKK : Hid (x5 - x4 = k) := Lib.hid (by omega)
      clear hw
      go_wp2
      go_ret2
      rw [HKK.out]
      exact ⟨_, ys, rfl, own_base HW1.out.own (fun q hq => by have := own_ge HW1.out.own q hq; have := HBW0.out.size; omega), HW1.out.each.more (fun q hq => ⟨by have := HBW0.out.size; have := hq.1; omega, hq.2⟩), HBW0.out.trans (HW1.out.below.mono HBW0.out.size)⟩
end
end Go.Proofs.YtgjcbfdhpbkhoaaGreatDoor.AMake1
/- The allocator: an empty disk in plain mathematics. -/
namespace Go.Proofs.YtgjcbfdhpbkhoaaGreatDoor.AEmpty
open WPlain WAny WSeal WTurn EPlain GPlain GPlain3 SPlain QPlain TPlain TBits TSet TTurn TFace TTurnF TSame APlain AMake1
def bare (b p n j : Int) : Al := ⟨b, p, n, j, fun _ => [], fun _ => [], fun _ => 0, 0, 0, false⟩
def empty (b p n j : Int) : Al := { bare b p n j with bm := fun i => turnL (newB ((bare b p n j).size i) ((bare b p n j).bat i)) (0 : Nat) ((bare b p n j).own i : Nat) ((bare b p n j).bat i), im := fun i => newB n.toNat ((bare b p n j).bat i + 1) }
theorem zer_lt (n : Nat) : ∀ p, zer (fun k => decide (k < n)) p = min p n
  | 0 => by simp [zer]
  | p + 1 => by
    simp only [zer, zer_lt n p]
    by_cases h : p < n
    · rw [if_pos (decide_eq_true h)]; omega
    · rw [if_neg (by simp [h])]; omega
theorem zeros_new {n seed : Nat} (hn : n ≤ 2016) : TBits.zeros (newB n seed) = n := by
  have e : fr (newB n seed) = fun k => decide (k < n) := funext fun k => fr_new hn k
  unfold TBits.zeros
  rw [e, zer_lt]
  omega
section
variable {b p n j : Int}
theorem empty_bz (h : May b p n j) {i : Nat} (hi : i < (empty b p n j).ng) : TBits.zeros ((empty b p n j).bm i) = (empty b p n j).size i - (empty b p n j).own i := by
  have g := geo (A := empty b p n j) h hi
  have h6 := g.a6
  have h7 := g.a7
  have := turn_take (l := newB ((empty b p n j).size i) ((empty b p n j).bat i)) (a := 0) (c := (empty b p n j).own i) (newB_len _ _) ((empty b p n j).bat i) (by omega) (fun k hk => by rw [fr_new h7]; exact decide_eq_true (by omega))
  rw [zeros_new h7] at this
  have e : (empty b p n j).bm i = turnL (newB ((empty b p n j).size i) ((empty b p n j).bat i)) (0 : Nat) ((empty b p n j).own i : Nat) ((empty b p n j).bat i) := rfl
  rw [e]
  omega
theorem empty_iz (h : May b p n j) (i : Nat) : (TBits.zeros ((empty b p n j).im i) : Int) = n := by
  have h1 := h.n0
  have h2 := h.n1
  have e : (empty b p n j).im i = newB n.toNat ((empty b p n j).bat i + 1) := rfl
  rw [e, zeros_new (by omega)]
  omega
theorem empty_fine (h : May b p n j) : (empty b p n j).Fine := by
  have hN := h.n1
  refine ⟨h, fun i hi => ?_, fun i _ => ?_, fun i hi k hk => ?_, fun i => ⟨Int.le_refl 0, (by decide : (0 : Int) ≤ 65535)⟩, ⟨Int.le_refl 0, ?_⟩, ⟨Int.le_refl 0, (by decide : (0 : Int) ≤ 2147483647)⟩⟩
  · have g := geo (A := empty b p n j) h hi
    have h6 := g.a6
    exact turn_map (new_map g.a7) (by rw [Nat.zero_add]; exact Nat.le_of_lt h6) g.a7
  · exact new_map (by show n.toNat ≤ 2016; omega)
  · have g := geo (A := empty b p n j) h hi
    have h6 := g.a6
    have h7 := g.a7
    have e : (empty b p n j).bm i = turnL (newB ((empty b p n j).size i) ((empty b p n j).bat i)) (0 : Nat) ((empty b p n j).own i : Nat) ((empty b p n j).bat i) := rfl
    rw [e, fr_turn (newB_len _ _) 0 ((empty b p n j).own i) ((empty b p n j).bat i) (k := k) (by rw [Nat.zero_add]; exact Nat.le_trans (Nat.le_of_lt h6) h7), fr_new h7]
    have hk : k < (empty b p n j).own i := hk
    have h1 : k < (empty b p n j).size i := Nat.lt_trans hk h6
    have h2 : 0 ≤ k ∧ k < 0 + (empty b p n j).own i := ⟨Nat.zero_le _, by rw [Nat.zero_add]; exact hk⟩
    rw [decide_eq_true h1, decide_eq_true h2]
    rfl
  · show (0 : Int) ≤ gN b p * n
    exact Int.mul_nonneg (by have := h.g0; omega) (by have := h.n0; omega)
def gw (A : Al) (i : Nat) : List (Nat × Bk) := grpW (A.bat i) (A.bat i + 1) (A.bat i + 2) (A.at_ i + A.own i - (A.bat i + 2)) (A.bm i) (A.im i)
def allW (A : Al) (k : Nat) : List (Nat × Bk) := (List.range k).flatMap (gw A)
theorem allW_next (A : Al) (k : Nat) : allW A (k + 1) = allW A k ++ gw A k := by simp [allW, List.range_succ]
def gsK (A : Al) (k : Nat) : List Grp := (List.range A.ng).map fun i => if i < k then A.grp i else ⟨0, 0, 0⟩
def fbK (A : Al) (k : Nat) : Nat := sumTo (fun i => TBits.zeros (A.bm i)) k
def fiK (A : Al) (k : Nat) : Nat := sumTo (fun i => TBits.zeros (A.im i)) k
theorem gsK_len (A : Al) (k : Nat) : (gsK A k).length = A.ng := by simp [gsK]
theorem gsK_get (A : Al) (k : Nat) {i : Nat} (hi : i < (gsK A k).length) : (gsK A k)[i] = if i < k then A.grp i else ⟨0, 0, 0⟩ := by simp [gsK]
theorem gsK_next (A : Al) (k : Nat) : gsK A (k + 1) = (gsK A k).set k (A.grp k) := by
  refine List.ext_getElem (by simp [gsK]) fun i h1 h2 => ?_
  rw [gsK_get, List.getElem_set]
  split
  · rename_i h
    split
    · rename_i e; rw [e]
    · rw [gsK_get, if_pos (by omega)]
  · rename_i h
    split
    · omega
    · rw [gsK_get, if_neg (by omega)]
theorem gsK_end (A : Al) : gsK A A.ng = A.gs := by
  refine List.ext_getElem (by simp [gsK, Al.gs]) fun i h1 h2 => ?_
  rw [gsK_get, if_pos (by rw [gsK_len] at h1; exact h1), gs_get]
theorem gsK_zero (A : Al) : gsK A 0 = List.replicate A.ng ⟨0, 0, 0⟩ := by
  refine List.ext_getElem (by simp [gsK]) fun i h1 h2 => ?_
  rw [gsK_get, if_neg (by omega), List.getElem_replicate]
theorem fbK_end (A : Al) : fbK A A.ng = A.fb := rfl
theorem fiK_end (A : Al) : fiK A A.ng = A.fi := rfl
end
end Go.Proofs.YtgjcbfdhpbkhoaaGreatDoor.AEmpty
/- The allocator: rows of writes, one behind the other. -/
namespace Go.Proofs.YtgjcbfdhpbkhoaaGreatDoor.AMake2
open Go.RowKit WMem WPlain WAppend Ext Map DPlain DMem Mk DRead DPend DWrite EPlain EMem EWrites QPlain QMem AMem
theorem POf.many {w : World} {S : Nat → Prop} {ys zs : List Value} {P Q : List (Nat × Bk)} (hp : POf w S ys P) (hq : POf w S zs Q) : POf w S (ys ++ zs) (P ++ Q) := by
  refine ⟨by simp [hp.1, hq.1]; omega, fun i hi => ?_⟩
  by_cases e : i < P.length
  · obtain ⟨u, h1, h2, h3⟩ := hp.2 i e
    refine ⟨u, ?_, ?_, ?_⟩
    · rw [List.getElem?_append_left (by rw [hp.1]; omega), List.getElem_append_left e]; exact h1
    · rw [List.getElem?_append_left (by rw [hp.1]; omega)]; exact h2
    · rw [List.getElem_append_left e]; exact h3
  · have hi' : i - P.length < Q.length := by simp at hi; omega
    obtain ⟨u, h1, h2, h3⟩ := hq.2 (i - P.length) hi'
    refine ⟨u, ?_, ?_, ?_⟩
    · rw [List.getElem?_append_right (by rw [hp.1]; omega), hp.1, List.getElem_append_right (by omega), show i * 2 - P.length * 2 = (i - P.length) * 2 by omega]; exact h1
    · rw [List.getElem?_append_right (by rw [hp.1]; omega), hp.1, show i * 2 + 1 - P.length * 2 = (i - P.length) * 2 + 1 by omega]; exact h2
    · rw [List.getElem_append_right (by omega)]; exact h3
theorem WrIn.many {w wr W2 w3 : World} {P Q : List (Nat × Bk)} {v u v' : Value} {ys zs : List Value} (h : WrIn w wr P v ys) (hq : WrIn wr W2 Q u zs)
    (ho : w3.ownsRow w.heap.size 100 2 v' (P.length + Q.length) (ys ++ zs)) (hg : W2.grownBy w3 v.ownBlock) : WrIn w w3 (P ++ Q) v' (ys ++ zs) := by
  have s1 := h.below.size
  have s2 := hq.below.size
  have s3 := hg.size
  have hov : ∀ q, v.ownBlock = some q → w.heap.size ≤ q ∧ q < wr.heap.size := fun q hq => ⟨own_ge h.own q hq, own_lt h.own q hq⟩
  have ht : ∀ q o', wr.heap[q]? = some (.cells o' 5 (0, 0)) → v.ownBlock ≠ some q := fun q o' hq e => own_ne h.own hq (by decide) e
  have keep3 : ∀ q, q < W2.heap.size → v.ownBlock ≠ some q → w3.heap[q]? = W2.heap[q]? := fun q q1 q2 => hg.block q q1 (fun e => q2 e.symm)
  refine ⟨by rw [List.length_append]; exact ho, POf.many ((h.each.keep (fun q o' hq1 hq' => ?_)).more fun q hq => ⟨hq.1, by omega⟩) ((hq.each.keep (fun q o' hq1 hq' => ?_)).more fun q hq => ⟨by have := hq.1; omega, by have := hq.2; omega⟩), ?_⟩
  · exact (keep3 q (by have := row_lt hq'; omega) (ht q o' hq')).trans (hq.below.block q (row_lt hq'))
  · exact keep3 q hq1.2 (fun e => by have := hov q e; have := hq1.1; omega)
  · exact (h.below.trans (hq.below.mono s1)).trans (Below.grown (Below.refl _ _) hg (by omega) (fun q hq => (hov q hq).1))
theorem cells_zero : ∀ n : Nat, cells (List.replicate n ⟨0, 0, 0⟩) = List.replicate (n * 3) (.int .i64 0)
  | 0 => rfl
  | n + 1 => by
    have ih := cells_zero n
    rw [List.replicate_succ, show (n + 1) * 3 = n * 3 + 1 + 1 + 1 by omega, List.replicate_succ, List.replicate_succ, List.replicate_succ, ← ih]
    rfl
theorem made_three (n : Nat) : madeCells #[.int .i64 0, .int .i64 0, .int .i64 0] (n * 3) = (cells (List.replicate n ⟨0, 0, 0⟩)).toArray := by
  rw [cells_zero]
  apply Array.ext
  · simp [madeCells]
  · intro i h1 h2
    simp [madeCells]
    have : i % 3 = 0 ∨ i % 3 = 1 ∨ i % 3 = 2 := by omega
    rcases this with h | h | h <;> simp [h]
theorem make_groups (n : Nat) (hn : n ≤ 14) (w : World) : (Instr.makeSlice 114 (.int .i64 (n : Int)) (.int .i64 (n : Int))).run Tryz.prog w = .ok (.slice (some ⟨w.heap.size, 0, none⟩) n n) (w.alloc (.cells (cells (List.replicate n ⟨0, 0, 0⟩)).toArray 120)) := by
  obtain ⟨i, h1, h2, h3, h4⟩ := info_parts (P := Tryz.prog) (e := 120) (z := .agg #[.int .i64 0, .int .i64 0, .int .i64 0]) (size := 3) (bytes := 24) (by kernel_rfl)
  have h := run_make (P := Tryz.prog) w 114 120 i (.agg #[.int .i64 0, .int .i64 0, .int .i64 0]) (by kernel_rfl) h1 h2 .i64 .i64 n n (by omega) (by omega) (by rw [h4]; omega) (by omega)
  rw [h]
  simp only [Int.toNat_natCast, h3]
  rw [← made_three]
  rfl
end Go.Proofs.YtgjcbfdhpbkhoaaGreatDoor.AMake2
/- The allocator: counts in a box of their own. Written by gen_cnt.py. -/
namespace Go.Proofs.YtgjcbfdhpbkhoaaGreatDoor.ACnt
open Go.RowKit WMem WPlain WAppend WCrc WSeal TPlain TBits TSet TTurn TFace TTurnF GPlain GGeo GGeo2 GFace Ext Map DPlain DMem EPlain EMem EFace EAny SPlain SPack QPlain QMem QPack APlain AMem AGeo AOpen ATurn
structure Cnt (w : World) (lb gb c : Nat) (A : Al) (gs : List Grp) (fb fi : Int) : Prop where
  box : w.heap[lb]? = some (.cells #[.int .i64 A.b, .int .i64 A.p, .int .i64 A.n, .int .i64 A.j, .int .i64 fb, .int .i64 fi, .int .i64 A.oo, .int .i64 A.mo, .bool A.cl, .slice (some ⟨gb, 0, none⟩) gs.length c] 145 (0, 0))
  row : ∃ rest, w.heap[gb]? = some (.cells (cells gs ++ rest).toArray 120 (0, 0))
section
variable {w w' : World} {lb gb c : Nat} {A : Al} {gs : List Grp} {fb fi : Int}
theorem Cnt.keep (h : Cnt w lb gb c A gs fb fi) (h1 : w'.heap[lb]? = w.heap[lb]?) (h2 : w'.heap[gb]? = w.heap[gb]?) : Cnt w' lb gb c A gs fb fi := by
  obtain ⟨rest, hr⟩ := h.row
  exact ⟨h1.trans h.box, rest, h2.trans hr⟩
theorem Cnt.kp {S : Nat → Prop} (h : Cnt w lb gb c A gs fb fi) (hk : Kp S w w') (h1 : S lb) (h2 : S gb) : Cnt w' lb gb c A gs fb fi := h.keep (hk _ h1) (hk _ h2)
theorem Cnt.lt (h : Cnt w lb gb c A gs fb fi) : lb < w.heap.size ∧ gb < w.heap.size := by
  obtain ⟨rest, hr⟩ := h.row
  exact ⟨row_lt h.box, row_lt hr⟩
theorem Cnt.below (h : Cnt w lb gb c A gs fb fi) (hb : Below w.heap.size w w') : Cnt w' lb gb c A gs fb fi := h.keep (hb.block _ h.lt.1) (hb.block _ h.lt.2)
theorem Cnt.drewN (h : Cnt w lb gb c A gs fb fi) (n : Nat) : Cnt (w.drewN n) lb gb c A gs fb fi := h.keep rfl rfl
theorem Cnt.ne (h : Cnt w lb gb c A gs fb fi) : lb ≠ gb := fun e => by
  obtain ⟨rest, hr⟩ := h.row
  have := h.box
  rw [e, hr] at this
  injection this with this
  injection this with h1 h2
  cases h2
theorem Cnt.cs (h : Cnt w lb gb c A gs fb fi) : w.cell? ⟨lb, 0, none⟩ = some (.int .i64 A.b) ∧ w.cell? ⟨lb, 1, none⟩ = some (.int .i64 A.p) ∧ w.cell? ⟨lb, 2, none⟩ = some (.int .i64 A.n) ∧ w.cell? ⟨lb, 3, none⟩ = some (.int .i64 A.j) ∧
    w.cell? ⟨lb, 4, none⟩ = some (.int .i64 fb) ∧ w.cell? ⟨lb, 5, none⟩ = some (.int .i64 fi) ∧ w.cell? ⟨lb, 6, none⟩ = some (.int .i64 A.oo) ∧ w.cell? ⟨lb, 7, none⟩ = some (.int .i64 A.mo) ∧ w.cell? ⟨lb, 8, none⟩ = some (.bool A.cl) ∧ w.cell? ⟨lb, 9, none⟩ = some (.slice (some ⟨gb, 0, none⟩) gs.length c) := by
  have hb := h.box
  refine ⟨?_, ?_, ?_, ?_, ?_, ?_, ?_, ?_, ?_, ?_⟩ <;> (rw [row_cell hb]; rfl)
theorem Cnt.gr (h : Cnt w lb gb c A gs fb fi) {i : Nat} (hi : i < gs.length) : w.cell? ⟨gb, i * 3, none⟩ = some (.int .i64 gs[i].fb) ∧ w.cell? ⟨gb, i * 3 + 1, none⟩ = some (.int .i64 gs[i].fi) ∧ w.cell? ⟨gb, i * 3 + 2, none⟩ = some (.int .i64 gs[i].dirs) := by
  obtain ⟨rest, hr⟩ := h.row
  obtain ⟨h1, h2, h3⟩ := cells_get gs i hi
  have hl := cells_len gs
  refine ⟨?_, ?_, ?_⟩
  · rw [row_cell hr, List.getElem?_toArray, List.getElem?_append_left (by omega)]; exact h1
  · rw [row_cell hr, List.getElem?_toArray, List.getElem?_append_left (by omega)]; exact h2
  · rw [row_cell hr, List.getElem?_toArray, List.getElem?_append_left (by omega)]; exact h3
end
section
variable {w : World} {A : Al} {lb gb c : Nat} {gs : List Grp} {fb fi : Int}
def ccells (gb m c : Nat) (A : Al) (fb fi : Int) : List Value := [.int .i64 A.b, .int .i64 A.p, .int .i64 A.n, .int .i64 A.j, .int .i64 fb, .int .i64 fi, .int .i64 A.oo, .int .i64 A.mo, .bool A.cl, .slice (some ⟨gb, 0, none⟩) m c]
theorem set_at {l : List Value} {k : Nat} {v : Value} (j : Nat) (h : k ≠ j) : (l.set k v)[j]? = l[j]? := by rw [List.getElem?_set_ne h]
set_option maxHeartbeats 4000000 in
set_option maxRecDepth 20000 in
theorem add_cnt (hL : Cnt w lb gb c A gs fb fi) {i : Nat} (hi : i < gs.length) (_hg : gs.length ≤ 14) (d0 d1 d2 y0 y1 y2 y3 y4 : Int) (e0 : gs[i].fb + d0 = y0) (e1 : gs[i].fi + d1 = y1) (e2 : gs[i].dirs + d2 = y2) (e3 : fb + d0 = y3) (e4 : fi + d1 = y4)
    (h0 : Fits y0) (h1 : Fits y1) (h2 : Fits y2) (h3 : Fits y3) (h4 : Fits y4) :
    Calls Tryz.prog 87 #[.pointer (some ⟨lb, 0, none⟩), .int .i64 (i : Int), .agg #[.int .i64 d0, .int .i64 d1, .int .i64 d2]] w fun e w' =>
      e = .returned (.tuple #[]) ∧ Cnt w' lb gb c A (gs.set i ⟨y0, y1, y2⟩) y3 y4 ∧ Ext (fun q => q = lb ∨ q = gb) w w' := by
  obtain ⟨rest, hr⟩ := hL.row
  have hbx : RowV w lb 145 (ccells gb gs.length c A fb fi) := hL.box
  have hrw : RowV w gb 120 (cells gs ++ rest) := hr
  obtain ⟨q0, q1, q2⟩ := cells_get gs i hi
  have hcl := cells_len gs
  have k0 : (cells gs ++ rest)[i * 3]? = some (.int .i64 gs[i].fb) := by rw [List.getElem?_append_left (by omega)]; exact q0
  have k1 : (cells gs ++ rest)[i * 3 + 1]? = some (.int .i64 gs[i].fi) := by rw [List.getElem?_append_left (by omega)]; exact q1
  have k2 : (cells gs ++ rest)[i * 3 + 2]? = some (.int .i64 gs[i].dirs) := by rw [List.getElem?_append_left (by omega)]; exact q2
  have hne := hL.ne
  have hlt := hL.lt
  have hset : (((cells gs ++ rest).set (i * 3) (.int .i64 y0)).set (i * 3 + 1) (.int .i64 y1)).set (i * 3 + 2) (.int .i64 y2) = cells (gs.set i ⟨y0, y1, y2⟩) ++ rest := by
    rw [cells_set gs i ⟨y0, y1, y2⟩ hi, List.set_append_left _ _ (by omega), List.set_append_left _ _ (by simp; omega), List.set_append_left _ _ (by simp; omega)]
  have w0 : IntKind.i64.wrap (gs[i].fb + d0) = y0 := by rw [e0]; exact IntWalk.i64_in _ h0
  have w1 : IntKind.i64.wrap (gs[i].fi + d1) = y1 := by rw [e1]; exact IntWalk.i64_in _ h1
  have w2 : IntKind.i64.wrap (gs[i].dirs + d2) = y2 := by rw [e2]; exact IntWalk.i64_in _ h2
  have w3 : IntKind.i64.wrap (fb + d0) = y3 := by rw [e3]; exact IntWalk.i64_in _ h3
  have w4 : IntKind.i64.wrap (fi + d1) = y4 := by rw [e4]; exact IntWalk.i64_in _ h4
  generalize gs[i].fb = x0 at *
  generalize gs[i].fi = x1 at *
  generalize gs[i].dirs = x2 at *
  have HSET := Lib.hid hset
  obtain ⟨m, hm⟩ : ∃ m, gs.length = m := ⟨_, rfl⟩
  have HM := Lib.hid hm
  rw [hm] at hi hbx _hg
  generalize hcs : cells gs ++ rest = cs at *
  clear hset hcs hr hL q0 q1 q2 hcl hm e0 e1 e2 e3 e4 h0 h1 h2 h3 h4
  have hb0 := (Below.refl w.heap.size w).alloc (Nat.le_refl _) (.cells #[.int .i64 d0, .int .i64 d1, .int .i64 d2] 120)
  have r0 := rowV_new w [.int .i64 d0, .int .i64 d1, .int .i64 d2] 120
  have r1 := hbx.alloc (.cells #[.int .i64 d0, .int .i64 d1, .int .i64 d2] 120)
  have r2 := hrw.alloc (.cells #[.int .i64 d0, .int .i64 d1, .int .i64 d2] 120)
  have a10 := rowc r1 9 rfl
  have HE0 := Lib.hid (Ext.of_below hb0 (fun q => q = lb ∨ q = gb))
  have HS0 : Hid (lb < w.heap.size ∧ gb < w.heap.size ∧ lb ≠ gb) := Lib.hid ⟨hlt.1, hlt.2, hne⟩
  have n1 : w.heap.size ≠ gb := by omega
  have n2 : w.heap.size ≠ lb := by omega
  go_enter Tryz.func87, Tryz.ntmps87
  go_wp2_with fail
  have hq : w.heap.size = w.heap.size := rfl
  generalize hW0 : w.alloc (.cells #[.int .i64 d0, .int .i64 d1, .int .i64 d2] 120) = W0 at *
  generalize w.heap.size = q at *
  clear hW0 a10
  have HE := HE0.out
  have b0 := rowc r0 0 rfl
  have g0 := rowc r2 (i * 3) k0
  have gf0 := r2.free
  have R0 := Lib.hid r0
  have R1 := Lib.hid r1
  have R2 := Lib.hid r2
  have HE0 := Lib.hid HE
  clear r0 r1 r2 HE
  go_region
  have r0 := (rowV_far R0.out ⟨gb, i * 3, none⟩ (.int .i64 y0) (by simp; omega)).drewN 1
  have r1 := (rowV_far R1.out ⟨gb, i * 3, none⟩ (.int .i64 y0) (by simp; omega)).drewN 1
  have r2 := (R2.out.set (i * 3) (.int .i64 y0)).drewN 1
  have HE := (HE0.out.setCell (p := ⟨gb, i * 3, none⟩) (.inl (by simp)) (.int .i64 y0)).drewN 1
  clear b0 g0 gf0 R0 R1 R2
  generalize hW : (W0.setCell ⟨gb, i * 3, none⟩ (.int .i64 y0)).drew = W1 at *
  rw [show (W0.setCell ⟨gb, i * 3, none⟩ (.int .i64 y0)).drewN 1 = (W0.setCell ⟨gb, i * 3, none⟩ (.int .i64 y0)).drew from rfl, hW] at r0 r1 r2 HE
  clear hW
  have b1 := rowc r0 1 rfl
  have g1 := rowc r2 (i * 3 + 1) (set_at _ (by omega) |>.trans k1)
  have gf1 := r2.free
  have R0 := Lib.hid r0
  have R1 := Lib.hid r1
  have R2 := Lib.hid r2
  have HE1 := Lib.hid HE
  clear r0 r1 r2 HE
  go_wp2_with fail
  go_region
  have r0 := (rowV_far R0.out ⟨gb, i * 3 + 1, none⟩ (.int .i64 y1) (by simp; omega)).drewN 1
  have r1 := (rowV_far R1.out ⟨gb, i * 3 + 1, none⟩ (.int .i64 y1) (by simp; omega)).drewN 1
  have r2 := (R2.out.set (i * 3 + 1) (.int .i64 y1)).drewN 1
  have HE := (HE1.out.setCell (p := ⟨gb, i * 3 + 1, none⟩) (.inl (by simp)) (.int .i64 y1)).drewN 1
  clear b1 g1 gf1 R0 R1 R2
  generalize hW : (W1.setCell ⟨gb, i * 3 + 1, none⟩ (.int .i64 y1)).drew = W2 at *
  rw [show (W1.setCell ⟨gb, i * 3 + 1, none⟩ (.int .i64 y1)).drewN 1 = (W1.setCell ⟨gb, i * 3 + 1, none⟩ (.int .i64 y1)).drew from rfl, hW] at r0 r1 r2 HE
  clear hW
  have b2 := rowc r0 2 rfl
  have g2 := rowc r2 (i * 3 + 2) (set_at _ (by omega) |>.trans (set_at _ (by omega) |>.trans k2))
  have gf2 := r2.free
  have R0 := Lib.hid r0
  have R1 := Lib.hid r1
  have R2 := Lib.hid r2
  have HE2 := Lib.hid HE
  clear r0 r1 r2 HE
  go_wp2_with fail
  go_region
  have r0 := (rowV_far R0.out ⟨gb, i * 3 + 2, none⟩ (.int .i64 y2) (by simp; omega)).drewN 1
  have r1 := (rowV_far R1.out ⟨gb, i * 3 + 2, none⟩ (.int .i64 y2) (by simp; omega)).drewN 1
  have r2 := (R2.out.set (i * 3 + 2) (.int .i64 y2)).drewN 1
  have HE := (HE2.out.setCell (p := ⟨gb, i * 3 + 2, none⟩) (.inl (by simp)) (.int .i64 y2)).drewN 1
  clear b2 g2 gf2 R0 R1 R2
  generalize hW : (W2.setCell ⟨gb, i * 3 + 2, none⟩ (.int .i64 y2)).drew = W3 at *
  rw [show (W2.setCell ⟨gb, i * 3 + 2, none⟩ (.int .i64 y2)).drewN 1 = (W2.setCell ⟨gb, i * 3 + 2, none⟩ (.int .i64 y2)).drew from rfl, hW] at r0 r1 r2 HE
  clear hW
  have b3 := rowc r0 0 rfl
  have g3 := rowc r1 (4) rfl
  have gf3 := r1.free
  have R0 := Lib.hid r0
  have R1 := Lib.hid r1
  have R2 := Lib.hid r2
  have HE3 := Lib.hid HE
  clear r0 r1 r2 HE
  go_wp2_with fail
  go_region
  have r0 := (rowV_far R0.out ⟨lb, 4, none⟩ (.int .i64 y3) (by simp; omega)).drewN 1
  have r2 := (rowV_far R2.out ⟨lb, 4, none⟩ (.int .i64 y3) (by simp; omega)).drewN 1
  have r1 := (R1.out.set 4 (.int .i64 y3)).drewN 1
  have HE := (HE3.out.setCell (p := ⟨lb, 4, none⟩) (.inl (by simp)) (.int .i64 y3)).drewN 1
  clear b3 g3 gf3 R0 R1 R2
  generalize hW : (W3.setCell ⟨lb, 4, none⟩ (.int .i64 y3)).drew = W4 at *
  rw [show (W3.setCell ⟨lb, 4, none⟩ (.int .i64 y3)).drewN 1 = (W3.setCell ⟨lb, 4, none⟩ (.int .i64 y3)).drew from rfl, hW] at r0 r1 r2 HE
  clear hW
  have b4 := rowc r0 1 rfl
  have g4 := rowc r1 (5) rfl
  have gf4 := r1.free
  have R0 := Lib.hid r0
  have R1 := Lib.hid r1
  have R2 := Lib.hid r2
  have HE4 := Lib.hid HE
  clear r0 r1 r2 HE
  go_wp2_with fail
  go_region
  have r0 := (rowV_far R0.out ⟨lb, 5, none⟩ (.int .i64 y4) (by simp; omega)).drewN 1
  have r2 := (rowV_far R2.out ⟨lb, 5, none⟩ (.int .i64 y4) (by simp; omega)).drewN 1
  have r1 := (R1.out.set 5 (.int .i64 y4)).drewN 1
  have HE := (HE4.out.setCell (p := ⟨lb, 5, none⟩) (.inl (by simp)) (.int .i64 y4)).drewN 1
  clear b4 g4 gf4 R0 R1 R2
  generalize hW : (W4.setCell ⟨lb, 5, none⟩ (.int .i64 y4)).drew = W5 at *
  rw [show (W4.setCell ⟨lb, 5, none⟩ (.int .i64 y4)).drewN 1 = (W4.setCell ⟨lb, 5, none⟩ (.int .i64 y4)).drew from rfl, hW] at r0 r1 r2 HE
  clear hW
  go_wp2
  refine bodyPost_end (results_none rfl _ _ _) rfl ?_
  refine ⟨rfl, ⟨?_, rest, ?_⟩, HE⟩
  · rw [List.length_set, HM.out]
    exact r1
  · rw [HSET.out] at r2
    exact r2
set_option maxHeartbeats 2000000 in
set_option maxRecDepth 20000 in
theorem pack_cnt (hL : Cnt w lb gb c A gs fb fi) (hT : Tab w) (hg : grpMay gs = true) (hm : supMay A.b A.p A.n A.j fb fi A.oo A.mo = true) :
    Calls Tryz.prog 88 #[.pointer (some ⟨lb, 0, none⟩)] w fun e w' => ∃ gw g1 g0, e = .returned (.tuple #[.slice (some ⟨gw, 0, none⟩) 2 2, .int .i64 0]) ∧ w.heap.size ≤ gw ∧ w.heap.size ≤ g1 ∧ w.heap.size ≤ g0 ∧
      RowV w' gw 100 [.int .i64 1, .slice (some ⟨g1, 0, none⟩) 256 256, .int .i64 0, .slice (some ⟨g0, 0, none⟩) 256 256] ∧ Row w' g1 (grpBytes gs) [] ∧ Row w' g0 (supBytes A.b A.p A.n A.j fb fi A.oo A.mo A.cl) [] ∧ Below w.heap.size w w' := by
  have hG : Grps w w.heap.size (some ⟨gb, 0, none⟩) gs := fun k hk => by
    obtain ⟨h1, h2, h3⟩ := hL.gr hk
    have e : ∀ j, (⟨gb, 0, none⟩ : Addr).add j = ⟨gb, j, none⟩ := fun j => by unfold Addr.add; split <;> simp_all
    exact ⟨_, rfl, hL.lt.2, by rw [e]; exact h1, by rw [e]; exact h2, by rw [e]; exact h3⟩
  have HP := Lib.hid (PackGroups_any gs w.heap.size (some ⟨gb, 0, none⟩) c w (Nat.le_refl _) hG hT)
  obtain ⟨c0, c1, c2, c3, c4, c5, c6, c7, c8, c9⟩ := hL.cs
  have HL := Lib.hid hL
  have HM := Lib.hid (And.intro hg hm)
  have HT := Lib.hid hT
  clear hL hG hg hm hT
  go_enter Tryz.func88, Tryz.ntmps88
  go_wp2_with fail
  refine HP.out.mono ?_
  rintro e w1 ⟨hy, _, hb1⟩
  obtain ⟨g1, rfl, hg1, hR1⟩ := hy HM.out.1
  have HB1 := Lib.hid hb1
  have HR1 := Lib.hid hR1
  obtain ⟨c0, c1, c2, c3, c4, c5, c6, c7, c8, c9⟩ := (HL.out.below hb1).cs
  clear hy hR1 hb1
  go_wp2_with fail
  refine (PackSuper_yes A.b A.p A.n A.j fb fi A.oo A.mo A.cl w1 HM.out.2 (Tab.below HT.out HB1.out (Tab.lt HT.out))).mono ?_
  rintro e w2 ⟨g0, rfl, hg0, hR0, hb2⟩
  have HB2 := Lib.hid (below_up HB1.out hb2 HB1.out.size)
  have HR2 : Hid (Row w2 g1 (grpBytes gs) []) := Lib.hid (row_below HR1.out hb2 HR1.out.lt)
  have HR0 := Lib.hid hR0
  clear hb2 hR0
  go_wp2
  go_ret2
  have hs1 := HB1.out.size
  have hs2 := HB2.out.size
  exact ⟨w2.heap.size, g1, g0, rfl, hs2, hg1, by omega, rowV_new _ _ _, row_alloc HR2.out _, row_alloc HR0.out _, HB2.out.alloc hs2 _⟩
end
end Go.Proofs.YtgjcbfdhpbkhoaaGreatDoor.ACnt
/- The allocator: what a round of emptyDisk does: a group's writes, its counts. -/
namespace Go.Proofs.YtgjcbfdhpbkhoaaGreatDoor.AMake3
open Go.RowKit WMem WPlain WAppend WCrc WSeal TPlain TBits TSet TTurn TFace TTurnF GPlain GGeo GGeo2 GFace Ext Map DPlain DMem Mk DRead DPend DWrite EPlain EMem EFace EWrites EAny SPlain QPlain QMem APlain AMem AGeo AOpen ATurn ATake ACnt AMake1 AEmpty AMake2
theorem WrIn.ext {w wr w' : World} {P : List (Nat × Bk)} {v : Value} {ys : List Value} {lb gb : Nat} {c1 c2 : Array Value} (h : WrIn w wr P v ys) (he : Ext (fun q => q = lb ∨ q = gb) wr w') (hl : w.heap.size ≤ lb) (hg : w.heap.size ≤ gb)
    (h1 : wr.heap[lb]? = some (.cells c1 145 (0, 0))) (h2 : wr.heap[gb]? = some (.cells c2 120 (0, 0))) : WrIn w w' P v ys := by
  have s1 := he.size
  have s2 := h.below.size
  refine ⟨own_same h.own (fun q hq => he.block q (own_lt h.own q hq) ?_), (h.each.keep (fun q o' hq hq' => he.block q (row_lt hq') ?_)).more (fun q hq => ⟨hq.1, Nat.lt_of_lt_of_le hq.2 s1⟩), h.below.trans (he.below s2 ?_)⟩
  · rintro (rfl | rfl)
    · exact own_ne h.own h1 (by decide) hq
    · exact own_ne h.own h2 (by decide) hq
  · rintro (rfl | rfl)
    · rw [h1] at hq'
      injection hq' with hq'
      injection hq' with _ ht
      cases ht
    · rw [h2] at hq'
      injection hq' with hq'
      injection hq' with _ ht
      cases ht
  · rintro q (rfl | rfl)
    · exact hl
    · exact hg
theorem WrIn.under {w wr w' : World} {P : List (Nat × Bk)} {v : Value} {ys : List Value} (h : WrIn w wr P v ys) (hb : Below wr.heap.size wr w') : WrIn w w' P v ys := by
  have s1 := hb.size
  have s2 := h.below.size
  exact ⟨own_same h.own (fun q hq => hb.block q (own_lt h.own q hq)), (h.each.keep (fun q o' _ hq' => hb.block q (row_lt hq'))).more (fun q hq => ⟨hq.1, Nat.lt_of_lt_of_le hq.2 s1⟩), h.below.trans (hb.mono s2)⟩
theorem news_own {w : World} {base : Nat} {e : TypeId} {size n : Nat} {v : Value} {zs : List Value} (h : w.ownsRow base e size v n zs) (hn : 0 < n) :
    ∃ g c, v = .slice (some ⟨g, 0, none⟩) n c ∧ ∀ j u, zs[j]? = some u → w.cell? ((⟨g, 0, none⟩ : Addr).add j) = some u := by
  rcases h.2 with ⟨_, h0⟩ | ⟨g, cap, cur, rfl, _, hg, _, _, _, ht⟩
  · omega
  · refine ⟨g, cap, rfl, fun j u hj => World.news_of_block hg j u ?_⟩
    rw [← ht, List.getElem?_take] at hj
    split at hj
    · exact hj
    · cases hj
theorem POf.one {w : World} {S : Nat → Prop} {ys : List Value} {P : List (Nat × Bk)} (h : POf w S ys P) : ∀ u ∈ ys, u.oneCell' = true := by
  intro u hu
  obtain ⟨j, hj, rfl⟩ := List.getElem_of_mem hu
  have hl := h.1
  obtain ⟨x, h1, h2, g, c, r, h3, _⟩ := h.2 (j / 2) (by omega)
  rcases (show j = j / 2 * 2 ∨ j = j / 2 * 2 + 1 by omega) with e | e
  · rw [← e, List.getElem?_eq_getElem hj] at h1
    injection h1 with h1
    rw [h1]
    rfl
  · rw [← e, List.getElem?_eq_getElem hj] at h2
    injection h2 with h2
    rw [h2, h3]
    rfl
theorem Cnt.grown {w w' : World} {lb gb c : Nat} {A : Al} {gs : List Grp} {fb fi : Int} {base n : Nat} {v : Value} {ys : List Value} (h : Cnt w lb gb c A gs fb fi) (ho : w.ownsRow base 100 2 v n ys) (hg : w.grownBy w' v.ownBlock) : Cnt w' lb gb c A gs fb fi := by
  obtain ⟨rest, hr⟩ := h.row
  exact h.keep (hg.block _ h.lt.1 fun e => own_ne ho h.box (by decide) e.symm) (hg.block _ h.lt.2 fun e => own_ne ho hr (by decide) e.symm)
theorem gw_len (A : Al) (k : Nat) (h : A.at_ k + A.own k ≤ 4096) : 0 < (gw A k).length ∧ (gw A k).length ≤ 4098 := by
  unfold gw
  rw [grpW_len]
  omega
theorem allW_len (A : Al) : ∀ k, (∀ i, i < k → A.at_ i + A.own i ≤ 4096) → (allW A k).length ≤ k * 4098
  | 0, _ => by simp [allW]
  | k + 1, h => by
    rw [allW_next, List.length_append]
    have := allW_len A k fun i hi => h i (by omega)
    have := (gw_len A k (h k (by omega))).2
    omega
theorem at_own {A : Al} (hM : May A.b A.p A.n A.j) {i : Nat} (hi : i < A.ng) : A.at_ i + A.own i ≤ 4096 := by
  have g := geo hM hi
  have := g.a6
  have := g.a8
  have := hM.b1
  omega
section
variable {A : Al} {k x0 x1 x2 x3 x4 x5 N : Nat}
theorem gw_l (hE : A = empty A.b A.p A.n A.j) (hp : PL A k x0 x1 x2 x3 x4 x5 N) (hM : May A.b A.p A.n A.j) (hk : k < A.ng) (w : World) (hT : Tab w) :
    Calls Tryz.prog 86 #[.agg #[.int .i64 A.b, .int .i64 A.p, .int .i64 A.n, .int .i64 A.j], .agg #[.int .i64 x0, .int .i64 x1, .int .i64 x2, .int .i64 x3, .int .i64 x4, .int .i64 x5]] w fun e w' => ∃ v ys, e = .returned (.tuple #[v, .int .i64 0]) ∧ WrIn w w' (gw A k) v ys := by
  obtain ⟨n, hn⟩ := Int.eq_ofNat_of_zero_le (show 0 ≤ A.n by have := hM.n0; omega)
  have h := emptyGroup_any hp hM hk hn rfl w hT
  have e : grpW x2 x3 x4 (x5 - x4) (turnL (newB N x2) (0 : Nat) (A.own k : Nat) x2) (newB n x3) = gw A k := by
    have hb : A.bm k = turnL (newB (A.size k) (A.bat k)) (0 : Nat) (A.own k : Nat) (A.bat k) := congrArg (fun a => Al.bm a k) hE
    have hi : A.im k = newB A.n.toNat (A.bat k + 1) := congrArg (fun a => Al.im a k) hE
    have hnn : A.n.toNat = n := by omega
    obtain ⟨rfl, rfl, rfl, rfl, rfl, rfl, rfl⟩ := hp
    unfold gw
    rw [hb, hi, hnn]
  rw [e, ← hn] at h
  exact h
theorem grp_is (hE : A = empty A.b A.p A.n A.j) (hM : May A.b A.p A.n A.j) (hk : k < A.ng) : ((TBits.zeros (A.bm k) : Nat) : Int) = (A.at_ k + A.size k : Nat) - (A.at_ k + A.own k : Nat) ∧ ((TBits.zeros (A.im k) : Nat) : Int) = A.n ∧ A.dirs k = 0 := by
  have h1 : TBits.zeros (A.bm k) = A.size k - A.own k := by
    have h := empty_bz hM (i := k) (by rw [← hE]; exact hk)
    rw [← hE] at h
    exact h
  have h2 : (TBits.zeros (A.im k) : Int) = A.n := by
    have h := empty_iz hM k
    rw [← hE] at h
    exact h
  have h3 : A.dirs k = 0 := congrArg (fun a => Al.dirs a k) hE
  have g := (geo hM hk).a6
  exact ⟨by rw [h1]; omega, h2, h3⟩
theorem fine_of (hE : A = empty A.b A.p A.n A.j) (hM : May A.b A.p A.n A.j) : A.Fine := by
  have h := empty_fine hM
  rw [← hE] at h
  exact h
theorem sumTo_mono (f : Nat → Nat) {a c : Nat} (h : a ≤ c) : sumTo f a ≤ sumTo f c := by
  obtain ⟨d, rfl⟩ := Nat.exists_eq_add_of_le h
  induction d with
  | zero => exact Nat.le_refl _
  | succ d ih => exact Nat.le_trans (ih (by omega)) (Nat.le_add_right ..)
theorem k_le (hF : A.Fine) (hk : k ≤ A.ng) : (fbK A k : Int) ≤ 4096 ∧ (fiK A k : Int) ≤ 2147483647 := by
  have h1 := fb_le hF
  have h2 := fi_le hF
  have h3 : fbK A k ≤ A.fb := sumTo_mono _ hk
  have h4 : fiK A k ≤ A.fi := sumTo_mono _ hk
  have hm := may_iff.2 hF.may
  have h6 := hF.may.b1
  have hg0 := hF.may.g0
  have hj0 := hF.may.j0
  have hm1 : 0 ≤ gN A.b A.p * (2 + A.n / 2) := Int.mul_nonneg (by omega) (by have := hF.may.n0; omega)
  rw [fixedI_yes hm] at h1
  have hg1 := hF.may.g1
  have hn1 := hF.may.n1
  have hn0 := hF.may.n0
  have h10 : gN A.b A.p * A.n ≤ 14 * 2016 := Int.mul_le_mul (by omega) (by omega) (by omega) (by omega)
  omega
theorem add_l {w : World} {lb gb c : Nat} (hE : A = empty A.b A.p A.n A.j) (hM : May A.b A.p A.n A.j) (hk : k < A.ng) (hL : Cnt w lb gb c A (gsK A k) (fbK A k) (fiK A k)) (d : Int) (hd : d = (A.at_ k + A.size k : Nat) - (A.at_ k + A.own k : Nat)) :
    Calls Tryz.prog 87 #[.pointer (some ⟨lb, 0, none⟩), .int .i64 (k : Int), .agg #[.int .i64 d, .int .i64 A.n, .int .i64 0]] w fun e w' =>
      e = .returned (.tuple #[]) ∧ Cnt w' lb gb c A (gsK A (k + 1)) (fbK A (k + 1)) (fiK A (k + 1)) ∧ Ext (fun q => q = lb ∨ q = gb) w w' := by
  obtain ⟨g1, g2, g3⟩ := grp_is hE hM hk
  have hF := fine_of hE hM
  have h1 := ng_le hM
  obtain ⟨b1, b2⟩ := k_le hF (k := k + 1) hk
  have hk' : k < (gsK A k).length := by rw [gsK_len]; exact hk
  have hz : (gsK A k)[k] = ⟨0, 0, 0⟩ := by rw [gsK_get, if_neg (Nat.lt_irrefl _)]
  have e1 : (fbK A (k + 1) : Int) = fbK A k + TBits.zeros (A.bm k) := by simp only [fbK, sumTo]; omega
  have e2 : (fiK A (k + 1) : Int) = fiK A k + TBits.zeros (A.im k) := by simp only [fiK, sumTo]; omega
  have hn1 := hM.n1
  have hn0 := hM.n0
  have h := add_cnt hL hk' (by rw [gsK_len]; exact h1.2) d A.n 0 d A.n 0 (fbK A (k + 1)) (fiK A (k + 1)) (by rw [hz]; exact Int.zero_add d) (by rw [hz]; exact Int.zero_add A.n) (by rw [hz]; rfl) (by rw [e1]; omega) (by rw [e2]; omega)
    (by unfold Fits; omega) (by unfold Fits; omega) (by unfold Fits; omega) (by unfold Fits; omega) (by unfold Fits; omega)
  have e3 : (⟨d, A.n, 0⟩ : Grp) = A.grp k := by unfold Al.grp; rw [g2, g3, hd, g1]
  rw [e3, ← gsK_next] at h
  exact h
end
end Go.Proofs.YtgjcbfdhpbkhoaaGreatDoor.AMake3
/- The allocator: what is written of an empty disk (emptyDisk). -/
namespace Go.Proofs.YtgjcbfdhpbkhoaaGreatDoor.AMake4
open Go.RowKit WMem WPlain WAppend WCrc WSeal TPlain TBits TSet TTurn TFace TTurnF GPlain GGeo GGeo2 GFace Ext Map DPlain DMem Mk DRead DPend DWrite EPlain EMem EFace EWrites EAny SPlain QPlain QMem APlain AMem AGeo AOpen ATurn ATake ACnt AMake1 AEmpty AMake2 AMake3
theorem cnt_new {W : World} {lb gb N : Nat} {A : Al} (hE : A = empty A.b A.p A.n A.j) (hN : A.ng = N)
    (h0 : W.heap[lb]? = some (.cells #[.int .i64 A.b, .int .i64 A.p, .int .i64 A.n, .int .i64 A.j, .int .i64 0, .int .i64 0, .int .i64 0, .int .i64 0, .bool false, .slice (some ⟨gb, 0, none⟩) N N] 145 (0, 0)))
    (hg : W.heap[gb]? = some (.cells (cells (List.replicate N ⟨0, 0, 0⟩)).toArray 120 (0, 0))) : Cnt W lb gb N A (gsK A 0) 0 0 := by
  have ho : A.oo = 0 := congrArg Al.oo hE
  have hm : A.mo = 0 := congrArg Al.mo hE
  have hc : A.cl = false := congrArg Al.cl hE
  have hgs : gsK A 0 = List.replicate N ⟨0, 0, 0⟩ := by rw [gsK_zero, hN]
  refine ⟨?_, [], ?_⟩
  · rw [ho, hm, hc, hgs, List.length_replicate]
    exact h0
  · rw [hgs, List.append_nil]
    exact hg
theorem made_one {w1 : World} {N : Nat} {A : Al} (hE : A = empty A.b A.p A.n A.j) (hN : A.ng = N) : ∃ lb gb : Nat, Value.pointer (some ⟨w1.heap.size + 1, 0, none⟩) = .pointer (some ⟨lb, 0, none⟩) ∧ Hid (w1.heap.size ≤ lb ∧ w1.heap.size ≤ gb ∧
    Cnt ((w1.alloc (.cells (cells (List.replicate N ⟨0, 0, 0⟩)).toArray 120)).alloc (.cells #[.int .i64 A.b, .int .i64 A.p, .int .i64 A.n, .int .i64 A.j, .int .i64 0, .int .i64 0, .int .i64 0, .int .i64 0, .bool false, .slice (some ⟨w1.heap.size, 0, none⟩) N N] 145)).drew lb gb N A (gsK A 0) 0 0 ∧
    Below w1.heap.size w1 ((w1.alloc (.cells (cells (List.replicate N ⟨0, 0, 0⟩)).toArray 120)).alloc (.cells #[.int .i64 A.b, .int .i64 A.p, .int .i64 A.n, .int .i64 A.j, .int .i64 0, .int .i64 0, .int .i64 0, .int .i64 0, .bool false, .slice (some ⟨w1.heap.size, 0, none⟩) N N] 145)).drew) := by
  refine ⟨_, w1.heap.size, rfl, Lib.hid ⟨by omega, Nat.le_refl _, cnt_new hE hN ?_ ?_, below_drewN ((below_box _).alloc (by simp) _) 1⟩⟩
  · have h := row_new (w1.alloc (.cells (cells (List.replicate N ⟨0, 0, 0⟩)).toArray 120)) (.cells #[.int .i64 A.b, .int .i64 A.p, .int .i64 A.n, .int .i64 A.j, .int .i64 0, .int .i64 0, .int .i64 0, .int .i64 0, .bool false, .slice (some ⟨w1.heap.size, 0, none⟩) N N] 145)
    rw [World.size_alloc] at h
    exact h
  · exact row_alloc (row_new w1 _) _
theorem made_two {w1 : World} {N : Nat} {A : Al} (hE : A = empty A.b A.p A.n A.j) (hN : A.ng = N) : ∃ lb gb : Nat, Value.pointer (some ⟨w1.heap.size, 0, none⟩) = .pointer (some ⟨lb, 0, none⟩) ∧ Hid (w1.heap.size ≤ lb ∧ w1.heap.size ≤ gb ∧
    Cnt ((w1.alloc (.cells #[.int .i64 A.b, .int .i64 A.p, .int .i64 A.n, .int .i64 A.j, .int .i64 0, .int .i64 0, .int .i64 0, .int .i64 0, .bool false, .slice (some ⟨w1.heap.size + 1, 0, none⟩) N N] 145)).alloc (.cells (cells (List.replicate N ⟨0, 0, 0⟩)).toArray 120)).drew lb gb N A (gsK A 0) 0 0 ∧
    Below w1.heap.size w1 ((w1.alloc (.cells #[.int .i64 A.b, .int .i64 A.p, .int .i64 A.n, .int .i64 A.j, .int .i64 0, .int .i64 0, .int .i64 0, .int .i64 0, .bool false, .slice (some ⟨w1.heap.size + 1, 0, none⟩) N N] 145)).alloc (.cells (cells (List.replicate N ⟨0, 0, 0⟩)).toArray 120)).drew) := by
  refine ⟨_, w1.heap.size + 1, rfl, Lib.hid ⟨Nat.le_refl _, by omega, cnt_new hE hN ?_ ?_, below_drewN ((below_box _).alloc (by simp) _) 1⟩⟩
  · exact row_alloc (row_new w1 _) _
  · have h := row_new (w1.alloc (.cells #[.int .i64 A.b, .int .i64 A.p, .int .i64 A.n, .int .i64 A.j, .int .i64 0, .int .i64 0, .int .i64 0, .int .i64 0, .bool false, .slice (some ⟨w1.heap.size + 1, 0, none⟩) N N] 145)) (.cells (cells (List.replicate N ⟨0, 0, 0⟩)).toArray 120)
    rw [World.size_alloc] at h
    exact h
theorem two_in {wr W : World} {gw g1 g0 : Nat} {b1 b0 : Bk} (hb : Below wr.heap.size wr W) (h : RowV W gw 100 [.int .i64 1, .slice (some ⟨g1, 0, none⟩) 256 256, .int .i64 0, .slice (some ⟨g0, 0, none⟩) 256 256]) (h1 : Row W g1 b1 []) (h0 : Row W g0 b0 []) (l1 : b1.length = 256) (l0 : b0.length = 256)
    (p : wr.heap.size ≤ gw) (p1 : wr.heap.size ≤ g1) (p0 : wr.heap.size ≤ g0) : WrIn wr W [(1, b1), (0, b0)] (.slice (some ⟨gw, 0, none⟩) 2 2) [.int .i64 1, .slice (some ⟨g1, 0, none⟩) 256 256, .int .i64 0, .slice (some ⟨g0, 0, none⟩) 256 256] := by
  refine ⟨⟨rfl, .inr ⟨gw, 2, _, rfl, p, h, Nat.le_refl _, by decide, rfl, rfl⟩⟩, ⟨rfl, fun i hi => ?_⟩, hb⟩
  match i, hi with
  | 0, _ => exact ⟨_, rfl, rfl, g1, 256, [], rfl, ⟨p1, h1.lt⟩, l1, Nat.le_refl _, h1⟩
  | 1, _ => exact ⟨_, rfl, rfl, g0, 256, [], rfl, ⟨p0, h0.lt⟩, l0, Nat.le_refl _, h0⟩
set_option maxRecDepth 100000 in
set_option maxHeartbeats 4000000 in
theorem emptyDisk_any {A : Al} (hE : A = empty A.b A.p A.n A.j) (hM : May A.b A.p A.n A.j) (w : World) (hT : Tab w) :
    Calls Tryz.prog 55 #[.agg #[.int .i64 A.b, .int .i64 A.p, .int .i64 A.n, .int .i64 A.j]] w fun e w' => ∃ v ys, e = .returned (.tuple #[v, .int .i64 0]) ∧ WrIn w w' (allW A A.ng ++ [(1, A.grps), (0, A.sup)]) v ys := by
  obtain ⟨i0, hi0, hz0, hz1, hz2⟩ := info_parts infoW
  obtain ⟨N, hN⟩ : ∃ N, A.ng = N := ⟨_, rfl⟩
  have hng := ng_le hM
  have hgN : gN A.b A.p = (N : Int) := by rw [← ng_is hM, hN]
  have HGR : Hid (∀ W, Calls Tryz.prog 84 #[.agg #[.int .i64 A.b, .int .i64 A.p, .int .i64 A.n, .int .i64 A.j]] W fun e w' => e = .returned (.int .i64 (N : Int)) ∧ Below W.heap.size W w') := Lib.hid fun W => by
    have h := Groups_yes A.b A.p A.n A.j W (may_iff.2 hM)
    rw [hgN] at h
    exact h
  have hN14 : N ≤ 14 := by omega
  have hN1 : 1 ≤ N := by omega
  have HM := Lib.hid hM
  have HE := Lib.hid hE
  have HN := Lib.hid hN
  have HT := Lib.hid hT
  have HB0 := Lib.hid (below_box (w := w) (.cells #[.int .i64 A.b, .int .i64 A.p, .int .i64 A.n, .int .i64 A.j] 63))
  have r0 := rowV_new w [.int .i64 A.b, .int .i64 A.p, .int .i64 A.n, .int .i64 A.j] 63
  have HR0 := Lib.hid r0
  have y0 := rowc r0 0 rfl
  have y1 := rowc r0 1 rfl
  have y2 := rowc r0 2 rfl
  have y3 := rowc r0 3 rfl
  clear r0 hM hE hN hT hng hgN
  go_enter Tryz.func55, Tryz.ntmps55
  go_wp2_with fail
  refine (HGR.out _).mono ?_
  rintro e w1 ⟨rfl, hb1⟩
  have hl1 : w.heap.size < w1.heap.size := by have := hb1.size; simp at this; omega
  have HB1 : Hid (Below w.heap.size w w1) := Lib.hid (below_up HB0.out hb1 (by simp))
  have r1 := HR0.out.keep hb1 HR0.out.lt
  have HR1 := Lib.hid r1
  clear hb1 y0 y1 y2 y3
  have y0 := rowc r1 0 rfl
  have y1 := rowc r1 1 rfl
  have y2 := rowc r1 2 rfl
  have y3 := rowc r1 3 rfl
  clear r1
  have hmk := fun w => make_groups N hN14 w
  go_upto_region 3 with fail
  go_cut [6] (fun s6 wx => ∃ lb gb, s6 = .pointer (some ⟨lb, 0, none⟩) ∧ Hid (w1.heap.size ≤ lb ∧ w1.heap.size ≤ gb ∧ Cnt wx lb gb N A (gsK A 0) 0 0 ∧ Below w1.heap.size w1 wx))
  case first =>
    go_region
    all_goals
      go_wp2_with fail
      go_meet
      first | exact made_one HE.out HN.out | exact made_two HE.out HN.out
  case rest =>
    obtain ⟨lb, gb, rfl, HC⟩ := hcut
    have hlb : w.heap.size ≤ lb := by have := HC.out.1; omega
    have hgb : w.heap.size ≤ gb := by have := HC.out.2.1; omega
    have hlb2 : w.heap.size ≠ lb := by have := HC.out.1; omega
    have hgb2 : w.heap.size ≠ gb := by have := HC.out.2.1; omega
    have HLB := Lib.hid (And.intro hlb hgb)
    have HNE := Lib.hid (And.intro hlb2 hgb2)
    have HBC := Lib.hid (below_up HB1.out HC.out.2.2.2 HB1.out.size)
    have HRC : Hid (RowV wc w.heap.size 63 [.int .i64 A.b, .int .i64 A.p, .int .i64 A.n, .int .i64 A.j]) := Lib.hid (HR1.out.keep HC.out.2.2.2 HR1.out.lt)
    have HTW : Hid (∀ W, Below w.heap.size w W → Tab W) := Lib.hid fun W hb => Tab.below HT.out hb (Tab.lt HT.out)
    clear hlb hgb hlb2 hgb2 y0 y1 y2 y3 hmk HGR HB0 HR0 HR1
    go_wp2_with fail
    go_loopw [4, 21] (fun v i wr => ∃ (k : Nat) (ys : List Value), k ≤ N ∧ i = .int .i64 k ∧ Hid (WrIn w wr (allW A k) v ys ∧ Cnt wr lb gb N A (gsK A k) (fbK A k) (fiK A k) ∧ RowV wr w.heap.size 63 [.int .i64 A.b, .int .i64 A.p, .int .i64 A.n, .int .i64 A.j])) (fun _ i _ => N - (RowKit.intOf i).toNat)
    case atStart =>
      exact ⟨0, [], Nat.zero_le _, rfl, Lib.hid ⟨⟨World.ownsRow_nil _ _ _ _, ⟨rfl, fun i hi => (by simp [allW] at hi)⟩, HBC.out⟩, HC.out.2.2.1, HRC.out⟩⟩
    case round =>
      obtain ⟨k, ys, hk, rfl, HH⟩ := hrel
      by_cases hlt : k < N
      · have d1 : decide ((k : Int) < (N : Int)) = true := by simp; omega
        have HKA : Hid (k < A.ng) := Lib.hid (by rw [HN.out]; exact hlt)
        obtain ⟨x0, hx0⟩ : ∃ x, A.at_ k = x := ⟨_, rfl⟩
        obtain ⟨x1, hx1⟩ : ∃ x, A.at_ k + A.size k = x := ⟨_, rfl⟩
        obtain ⟨x2, hx2⟩ : ∃ x, A.bat k = x := ⟨_, rfl⟩
        obtain ⟨x3, hx3⟩ : ∃ x, A.bat k + 1 = x := ⟨_, rfl⟩
        obtain ⟨x4, hx4⟩ : ∃ x, A.bat k + 2 = x := ⟨_, rfl⟩
        obtain ⟨x5, hx5⟩ : ∃ x, A.at_ k + A.own k = x := ⟨_, rfl⟩
        obtain ⟨M, hM⟩ : ∃ x, A.size k = x := ⟨_, rfl⟩
        have HP : Hid (PL A k x0 x1 x2 x3 x4 x5 M) := Lib.hid ⟨hx0, hx1, hx2, hx3, hx4, hx5, hM⟩
        have b1 : x1 ≤ 4096 := by have := (geo HM.out HKA.out).a8; have := HM.out.b1; omega
        have b5 : x5 ≤ 4096 := by rw [← hx5]; exact at_own HM.out HKA.out
        obtain ⟨d, hd⟩ : ∃ d : Int, (x1 : Int) - (x5 : Int) = d := ⟨_, rfl⟩
        have HD : Hid (d = (A.at_ k + A.size k : Nat) - (A.at_ k + A.own k : Nat)) := Lib.hid (by rw [hx1, hx5, hd])
        have u1 : IntKind.i64.wrap ((x1 : Int) - (x5 : Int)) = d := by rw [IntWalk.i64_in _ ⟨by omega, by omega⟩]; exact hd
        have U1 := Lib.hid u1
        have r1 := HH.out.2.2
        have y0 := rowc r1 0 rfl
        have y1 := rowc r1 1 rfl
        have y2 := rowc r1 2 rfl
        have y3 := rowc r1 3 rfl
        have hl2 : w.heap.size < wr.heap.size := r1.lt
        clear hx0 hx1 hx2 hx3 hx4 hx5 hM r1 hd u1 b1 b5
        go_wp2_with fail
        refine (place_l HP.out HM.out HKA.out _).mono ?_
        rintro e W1 ⟨rfl, hb1⟩
        have hbp : Below wr.heap.size wr (W1.alloc (.cells #[.int .i64 x0, .int .i64 x1, .int .i64 x2, .int .i64 x3, .int .i64 x4, .int .i64 x5] 147)) := hb1.alloc hb1.size _
        have HBP := Lib.hid hbp
        have hs1 := hb1.size
        have r2 := rowV_new W1 [.int .i64 x0, .int .i64 x1, .int .i64 x2, .int .i64 x3, .int .i64 x4, .int .i64 x5] 147
        have r1 := HH.out.2.2.keep hbp HH.out.2.2.lt
        have HR2 := Lib.hid r2
        have hl3 : w.heap.size < W1.heap.size := by omega
        have HW1 := Lib.hid (WrIn.under HH.out.1 hbp)
        have HC1 := Lib.hid (HH.out.2.1.below hbp)
        have HG1 := Lib.hid r1
        clear y0 y1 y2 y3 hb1 hbp
        have y0 := rowc r1 0 rfl
        have y1 := rowc r1 1 rfl
        have y2 := rowc r1 2 rfl
        have y3 := rowc r1 3 rfl
        have z0 := rowc r2 0 rfl
        have z1 := rowc r2 1 rfl
        have z2 := rowc r2 2 rfl
        have z3 := rowc r2 3 rfl
        have z4 := rowc r2 4 rfl
        have z5 := rowc r2 5 rfl
        clear r1 r2
        go_wp2_with fail
        refine (gw_l HE.out HP.out HM.out HKA.out _ (HTW.out _ HW1.out.below)).mono ?_
        rintro e W2 ⟨u, zs, rfl, hw2⟩
        clear y0 y1 y2 y3 z0 z1 z2 z3 z4 z5
        generalize hV : W1.alloc (.cells #[.int .i64 x0, .int .i64 x1, .int .i64 x2, .int .i64 x3, .int .i64 x4, .int .i64 x5] 147) = V at *
        obtain ⟨m, hm⟩ : ∃ m, (gw A k).length = m := ⟨_, rfl⟩
        have hml := gw_len A k (at_own HM.out HKA.out)
        obtain ⟨K, hKl⟩ : ∃ K, (allW A k).length = K := ⟨_, rfl⟩
        have hKK : K ≤ k * 4098 := by rw [← hKl]; exact allW_len A k fun i hi => at_own HM.out (by have := HKA.out; omega)
        rw [hm] at hml
        have hou := hw2.own
        rw [hm] at hou
        have hzl : zs.length = m * 2 := by have := hou.1; omega
        obtain ⟨gu, cu, rfl, hnw⟩ := news_own hou hml.1
        have hov : V.ownsRow w.heap.size 100 2 u4 K ys := by rw [← hKl]; exact HW1.out.own
        have HOV := Lib.hid (own_same hov (w' := W2) (fun q hq => hw2.below.block q (own_lt hov q hq)))
        have HNW := Lib.hid hnw
        have HON := Lib.hid (POf.one hw2.each)
        have HZL := Lib.hid hzl
        have HW2 := Lib.hid hw2
        have HKL := Lib.hid hKl
        have HML := Lib.hid hm
        have HC2 := Lib.hid (HC1.out.below hw2.below)
        have HG2 := Lib.hid (HG1.out.keep hw2.below HG1.out.lt)
        have HR3 := Lib.hid (HR2.out.keep hw2.below HR2.out.lt)
        have hsV : w.heap.size ≤ V.heap.size := HW1.out.below.size
        have hsW : V.heap.size ≤ W2.heap.size := hw2.below.size
        have hbase : w.heap.size ≤ W2.heap.size := by omega
        have hkm : K + m ≤ 70000 := by omega
        clear hw2 hou hnw hov hzl hm hKl hV hml hKK
        go_wp2_with (at_builtin; go_must (refine wpList_append_own _ rfl _ _ 92 rfl w.heap.size 100 i0 _ 2 32 underW hi0 hz0 hz1 hz2 rfl (by decide) _ K ys rfl HOV.out ⟨gu, 0, none⟩ m cu zs rfl HZL.out HNW.out HON.out (by unfold maxLen; omega) (by omega) hbase ?_); intro v' w4 h3 h4 _
                     have HW4 := Lib.hid (WrIn.many HW1.out HW2.out (by rw [HKL.out, HML.out]; exact h3) h4)
                     have HC4 := Lib.hid (Cnt.grown HC2.out HOV.out h4)
                     have g4 := HG2.out.grown h4 (fun e => own_ne HOV.out HG2.out (by decide) e.symm)
                     have p4 := HR3.out.grown h4 (fun e => own_ne HOV.out HR3.out (by decide) e.symm)
                     have HG4 := Lib.hid g4
                     have y2 := rowc g4 2 rfl
                     have z1 := rowc p4 1 rfl
                     have z5 := rowc p4 5 rfl
                     have u1 := U1.out
                     clear h3 h4 g4 p4)
        refine (add_l HE.out HM.out HKA.out HC4.out d HD.out).mono ?_
        rintro e w5 ⟨rfl, hc5, he5⟩
        have HC5 := Lib.hid hc5
        have HE5 := Lib.hid he5
        clear hc5 he5 y2 z1 z5 u1
        go_wp2_with fail
        go_roundw
        case rel =>
          obtain ⟨rr, hrr⟩ := HC4.out.row
          have hNE := HNE.out
          exact ⟨k + 1, _, by omega, by go_num, Lib.hid ⟨by rw [allW_next]; exact WrIn.ext HW4.out HE5.out HLB.out.1 HLB.out.2 HC4.out.box hrr, HC5.out, (HE5.out.block w.heap.size HG4.out.lt (fun h => h.elim hNE.1 hNE.2)).trans HG4.out⟩⟩
        case measure => simp [RowKit.intOf]; omega
      · obtain rfl : k = N := by omega
        have d1 : decide ((k : Int) < (k : Int)) = false := by simp
        have hF := fine_of HE.out HM.out
        have hc := HH.out.2.1
        have hgs : gsK A k = A.gs := by rw [← HN.out]; exact gsK_end A
        have hfb : fbK A k = A.fb := by rw [← HN.out]; rfl
        have hfi : fiK A k = A.fi := by rw [← HN.out]; rfl
        rw [hgs, hfb, hfi] at hc
        have HCC := Lib.hid hc
        have HFF := Lib.hid hF
        clear hc hF hgs hfb hfi
        go_wp2_with fail
        refine (pack_cnt HCC.out (HTW.out _ HH.out.1.below) (fine_grp HFF.out) (fine_sup HFF.out)).mono ?_
        rintro e W2 ⟨gw, g1, g0, rfl, q0, q1, q2, hrow, h1, h0, hb2⟩
        obtain ⟨K, hKl⟩ : ∃ K, (allW A k).length = K := ⟨_, rfl⟩
        have hKK : K ≤ k * 4098 := by rw [← hKl]; exact allW_len A k fun i hi => at_own HM.out (by rw [HN.out]; exact hi)
        have hov : wr.ownsRow w.heap.size 100 2 u4 K ys := by rw [← hKl]; exact HH.out.1.own
        have HOV := Lib.hid (own_same hov (w' := W2) (fun q hq => hb2.block q (own_lt hov q hq)))
        have HW2 := Lib.hid (two_in hb2 hrow h1 h0 (grpBytes_len _ (grpMay_iff.1 (fine_grp HFF.out)).1.2) (supBytes_len ..) q0 q1 q2)
        have HNW := Lib.hid (World.news_of_block hrow)
        have HKL := Lib.hid hKl
        have hbase : w.heap.size ≤ W2.heap.size := by have := HH.out.1.below.size; have := hb2.size; omega
        have hkm : K + 2 ≤ 70000 := by omega
        clear hrow h1 h0 hb2 q0 q1 q2 hov hKl hKK
        go_wp2_with (at_builtin; go_must (refine wpList_append_own _ rfl _ _ 92 rfl w.heap.size 100 i0 _ 2 32 underW hi0 hz0 hz1 hz2 rfl (by decide) _ K ys rfl HOV.out ⟨gw, 0, none⟩ 2 2 [.int .i64 1, .slice (some ⟨g1, 0, none⟩) 256 256, .int .i64 0, .slice (some ⟨g0, 0, none⟩) 256 256] rfl rfl HNW.out (by simp [Value.oneCell']) (by unfold maxLen; omega) (by omega) hbase ?_); intro v' w4 h3 h4 _
                     have HW4 := Lib.hid (WrIn.many HH.out.1 HW2.out (by rw [HKL.out]; exact h3) h4)
                     clear h3 h4)
        go_ret2
        rw [HN.out]
        exact ⟨_, _, rfl, HW4.out⟩
end Go.Proofs.YtgjcbfdhpbkhoaaGreatDoor.AMake4
/- The allocator: Make lays an empty disk. -/
namespace Go.Proofs.YtgjcbfdhpbkhoaaGreatDoor.AMake5
open Go.RowKit WMem WPlain WAppend WCrc WSeal TPlain TBits TSet TTurn TFace TTurnF GPlain GGeo GGeo2 GFace Ext Map DPlain DMem Mk DBase DRead DPend DWrite DFlush EPlain EMem EFace EWrites EAny SPlain QPlain QMem APlain AMem AGeo AOpen ATurn ATake ACnt AMake1 AEmpty AMake2 AMake3 AMake4
def putW (s : St) (P : List (Nat × Bk)) : St := ⟨s.L, s.P ++ P, s.N + P.length⟩
theorem putW_next (s : St) (P : List (Nat × Bk)) (k : Nat) (hk : k < P.length) : putW s (P.take (k + 1)) = (putW s (P.take k)).write P[k].1 P[k].2 := by
  have e : P.take (k + 1) = P.take k ++ [P[k]] := List.take_succ_eq_append_getElem hk
  have hl : (P.take (k + 1)).length = (P.take k).length + 1 := by rw [List.length_take, List.length_take]; omega
  unfold putW St.write
  rw [hl, e]
  simp only [List.append_assoc, Nat.add_assoc]
theorem putW_none (s : St) : putW s [] = s := by
  cases s
  simp [putW]
def emptyW (A : Al) : List (Nat × Bk) := allW A A.ng ++ [(1, A.grps), (0, A.sup)]
theorem gw_in {A : Al} (hM : May A.b A.p A.n A.j) {k : Nat} (hk : k < A.ng) : ∀ x ∈ gw A k, (x.1 : Int) < A.b := by
  have g := geo hM hk
  have h5 := g.a5
  have h6 := g.a6
  have h8 := g.a8
  intro x hx
  simp only [gw, AMake1.grpW, tabW, List.mem_cons, List.mem_map, List.mem_range] at hx
  rcases hx with rfl | rfl | ⟨i, hi, rfl⟩
  · show ((A.bat k : Nat) : Int) < A.b
    omega
  · show ((A.bat k + 1 : Nat) : Int) < A.b
    omega
  · show ((A.bat k + 2 + i : Nat) : Int) < A.b
    omega
theorem emptyW_in {A : Al} (hM : May A.b A.p A.n A.j) : ∀ x ∈ emptyW A, (x.1 : Int) < A.b := by
  have hb := hM.b0
  intro x hx
  unfold emptyW at hx
  rcases List.mem_append.1 hx with hx | hx
  · obtain ⟨k, hk, hx⟩ := List.mem_flatMap.1 hx
    exact gw_in hM (List.mem_range.1 hk) x hx
  · simp only [List.mem_cons, List.not_mem_nil, or_false] at hx
    rcases hx with rfl | rfl
    · show ((1 : Nat) : Int) < A.b
      omega
    · show ((0 : Nat) : Int) < A.b
      omega
theorem emptyW_len {A : Al} (hM : May A.b A.p A.n A.j) : 0 < (emptyW A).length ∧ (emptyW A).length ≤ 70000 := by
  have h := allW_len A A.ng fun i hi => at_own hM hi
  have hn := ng_le hM
  unfold emptyW
  rw [List.length_append]
  simp only [List.length_cons, List.length_nil]
  omega
theorem five {w w' : World} {g db : Nat} {v0 v1 v2 v3 v5 : Value} (hb : Below w.heap.size w w') (l0 : g < w.heap.size) (l2 : db < w.heap.size)
    (h : w.cell? ⟨g, 0, none⟩ = some v0 ∧ w.cell? ⟨g, 1, none⟩ = some v1 ∧ w.cell? ⟨g, 2, none⟩ = some v2 ∧ w.cell? ⟨g, 3, none⟩ = some v3 ∧ w.cell? ⟨db, 0, none⟩ = some v5) :
    w'.cell? ⟨g, 0, none⟩ = some v0 ∧ w'.cell? ⟨g, 1, none⟩ = some v1 ∧ w'.cell? ⟨g, 2, none⟩ = some v2 ∧ w'.cell? ⟨g, 3, none⟩ = some v3 ∧ w'.cell? ⟨db, 0, none⟩ = some v5 :=
  ⟨(hb.cell (p := ⟨g, 0, none⟩) l0).trans h.1, (hb.cell (p := ⟨g, 1, none⟩) l0).trans h.2.1, (hb.cell (p := ⟨g, 2, none⟩) l0).trans h.2.2.1, (hb.cell (p := ⟨g, 3, none⟩) l0).trans h.2.2.2.1, (hb.cell (p := ⟨db, 0, none⟩) l2).trans h.2.2.2.2⟩
theorem each_at {w wD : World} {P : List (Nat × Bk)} {v : Value} {ys : List Value} (h : WrIn w wD P v ys) (hP : 0 < P.length) : ∃ g c, v = .slice (some ⟨g, 0, none⟩) P.length c ∧ w.heap.size ≤ g ∧ g < wD.heap.size ∧
    ∀ k (hk : k < P.length) (wr : World), (∀ q, w.heap.size ≤ q → q < wD.heap.size → wr.heap[q]? = wD.heap[q]?) → wr.cell? ⟨g, k * 2, none⟩ = some (.int .i64 (P[k].1 : Int)) ∧ ∃ gl cl rest, wr.cell? ⟨g, k * 2 + 1, none⟩ = some (.slice (some ⟨gl, 0, none⟩) 256 cl) ∧ gl < wr.heap.size ∧ P[k].2.length = 256 ∧ 256 ≤ cl ∧ Row wr gl P[k].2 rest := by
  obtain ⟨g, c, rfl, hn⟩ := news_own h.own hP
  have hg1 := own_ge h.own g rfl
  have hg2 := own_lt h.own g rfl
  refine ⟨g, c, rfl, hg1, hg2, fun k hk wr hw => ?_⟩
  have e : ∀ j, (⟨g, 0, none⟩ : Addr).add j = ⟨g, j, none⟩ := fun j => by unfold Addr.add; split <;> simp_all
  have hc : ∀ j, wr.cell? ⟨g, j, none⟩ = wD.cell? ⟨g, j, none⟩ := fun j => World.cell?_of_block (hw g hg1 hg2)
  obtain ⟨x, h1, h2, gl, cl, rest, rfl, hq, hl, hcl, hr⟩ := h.each.2 k hk
  have n1 := hn _ _ h1
  have n2 := hn _ _ h2
  rw [e] at n1 n2
  have hrow : Row wr gl P[k].2 rest := (hw gl hq.1 hq.2).trans hr
  exact ⟨(hc _).trans n1, gl, cl, rest, (hc _).trans n2, hrow.lt, hl, hcl, hrow⟩
set_option maxRecDepth 100000 in
set_option maxHeartbeats 4000000 in
theorem Make_own {A : Al} (hE : A = empty A.b A.p A.n A.j) (hM : May A.b A.p A.n A.j) (S : Nat → Prop) (db : Nat) (s : St) (w : World) (hT : Tab w) (hd : DD w S db s) (hL : (s.L.length : Int) = A.b) (hN : s.N ≤ 1000000000) :
    Calls Tryz.prog 31 #[.pointer (some ⟨db, 0, none⟩), .agg #[.int .i64 A.b, .int .i64 A.p, .int .i64 A.n, .int .i64 A.j]] w fun e w' => e = .returned (.int .i64 0) ∧ ∃ S', DD w' S' db (putW s (emptyW A)).flush ∧ Ext S w w' ∧ In S' S w := by
  have hlt := hd.lt
  have d0 := hd.c0
  rw [hL] at d0
  have HD := Lib.hid hd
  have HM := Lib.hid hM
  have HE := Lib.hid hE
  have HT := Lib.hid hT
  have HLL := Lib.hid hL
  have HNN := Lib.hid hN
  have HCK : Hid (∀ W, Calls Tryz.prog 53 #[.agg #[.int .i64 A.b, .int .i64 A.p, .int .i64 A.n, .int .i64 A.j]] W fun e w' => e = .returned (.int .i64 0) ∧ Below W.heap.size W w') := Lib.hid fun W => Check_yes A.b A.p A.n A.j W (may_iff.2 hM)
  have r0 := rowV_new w [.int .i64 A.b, .int .i64 A.p, .int .i64 A.n, .int .i64 A.j] 63
  have b0 := rowc r0 0 rfl
  have b1 := rowc r0 1 rfl
  have b2 := rowc r0 2 rfl
  have b3 := rowc r0 3 rfl
  have b5 : (w.alloc (.cells #[.int .i64 A.b, .int .i64 A.p, .int .i64 A.n, .int .i64 A.j] 63)).cell? ⟨db, 0, none⟩ = some (.int .i64 A.b) := (World.cell?_alloc_lt w _ ⟨db, 0, none⟩ hlt).trans d0
  have HB0 := Lib.hid (below_box (w := w) (.cells #[.int .i64 A.b, .int .i64 A.p, .int .i64 A.n, .int .i64 A.j] 63))
  have hs0 : (w.alloc (.cells #[.int .i64 A.b, .int .i64 A.p, .int .i64 A.n, .int .i64 A.j] 63)).heap.size = w.heap.size + 1 := by simp
  clear hE hM hT hd hL hN r0 d0
  go_enter Tryz.func31, Tryz.ntmps31
  go_wp2_with fail
  generalize w.alloc (.cells #[.int .i64 A.b, .int .i64 A.p, .int .i64 A.n, .int .i64 A.j] 63) = W at *
  have HS0 := Lib.hid hs0
  have HSIX := Lib.hid (show W.cell? ⟨w.heap.size, 0, none⟩ = _ ∧ W.cell? ⟨w.heap.size, 1, none⟩ = _ ∧ W.cell? ⟨w.heap.size, 2, none⟩ = _ ∧ W.cell? ⟨w.heap.size, 3, none⟩ = _ ∧ W.cell? ⟨db, 0, none⟩ = _ from ⟨b0, b1, b2, b3, b5⟩)
  clear hs0
  go_region_held3 (fun w' => w'.cell? ⟨w.heap.size, 0, none⟩ = some (.int .i64 A.b) ∧ w'.cell? ⟨w.heap.size, 1, none⟩ = some (.int .i64 A.p) ∧ w'.cell? ⟨w.heap.size, 2, none⟩ = some (.int .i64 A.n) ∧ w'.cell? ⟨w.heap.size, 3, none⟩ = some (.int .i64 A.j) ∧ w'.cell? ⟨db, 0, none⟩ = some (.int .i64 A.b))
    (first | exact HS2.out | (go_keep; done))
    ((first
      | (go_at_call 53; refine (HCK.out _).mono ?_; rintro e w2 ⟨rfl, hb2⟩
         have HS2 := Lib.hid (five hb2 (show w.heap.size < W.heap.size by have := HS0.out; omega) (show db < W.heap.size by have := HS0.out; omega) HSIX.out)
         have HB2 := Lib.hid (show Below W.heap.size W w2 from ⟨hb2.os, hb2.tape, hb2.output, hb2.size, hb2.block⟩))
      | (go_at_call 54; refine (DBase.Blocks_at db A.b w2 HS2.out.2.2.2.2).mono ?_; rintro e w' ⟨rfl, rfl⟩)))
  have HBW := Lib.hid (HB0.out.trans (HB2.out.mono (by have := HS0.out; omega)))
  obtain ⟨g0, g1, g2, g3, -⟩ := HS2.out
  clear hb2 b0 b1 b2 b3 b5
  go_wp2_with fail
  refine (emptyDisk_any HE.out HM.out _ (Tab.below HT.out HBW.out (Tab.lt HT.out))).mono ?_
  rintro e wD ⟨v, ys, rfl, hw⟩
  have hw : WrIn _ wD (emptyW A) v ys := hw
  have hml := emptyW_len HM.out
  obtain ⟨g, c, rfl, q1, q2, hat⟩ := each_at hw hml.1
  obtain ⟨m, hm⟩ : ∃ m, (emptyW A).length = m := ⟨_, rfl⟩
  rw [hm] at hml
  have HBD := Lib.hid (below_up HBW.out hw.below HBW.out.size)
  have HAT := Lib.hid hat
  have HMM := Lib.hid hm
  have hsz := HBW.out.size
  have hm7 := hml.2
  have hm0 := hml.1
  simp only [hm]
  clear hw hat hml hm g0 g1 g2 g3
  go_wp2_with fail
  go_loopw [30] (fun i wr => ∃ (k : Nat) (S' : Nat → Prop), k ≤ m ∧ i = .int .i64 (k : Int) ∧ Hid (DD wr S' db (putW s ((emptyW A).take k)) ∧ Ext S wD wr ∧ In S' S wD)) (fun i _ => m - (RowKit.intOf i).toNat)
  case atStart => exact ⟨0, S, Nat.zero_le _, rfl, Lib.hid ⟨by rw [List.take_zero, putW_none]; exact HD.out.below HBD.out, Ext.refl _ _, In.refl _ _⟩⟩
  case round =>
    obtain ⟨k, S', hk, rfl, HH⟩ := hrel
    by_cases hlt : k < m
    · have d1 : decide ((k : Int) < (m : Int)) = true := by simp; omega
      have hk' : k < (emptyW A).length := by rw [HMM.out]; exact hlt
      obtain ⟨z0, gl, cl, rest, z1, hgl, hl, hcl, hrow⟩ := HAT.out k hk' wr (fun q a b => HH.out.2.1.block q b (fun hs => by have := HD.out.there q hs; omega))
      have hnb := emptyW_in HM.out _ (List.getElem_mem hk')
      have hnx := putW_next s (emptyW A) k hk'
      obtain ⟨n, hn⟩ : ∃ n, (emptyW A)[k].1 = n := ⟨_, rfl⟩
      obtain ⟨l, hl2⟩ : ∃ l, (emptyW A)[k].2 = l := ⟨_, rfl⟩
      rw [hn] at z0 hnb hnx
      rw [hl2] at hl hrow hnx
      have HNX := Lib.hid hnx
      have hLs : (putW s ((emptyW A).take k)).L.length = s.L.length := rfl
      have hNs : (putW s ((emptyW A).take k)).N ≤ 1073741824 := by
        have : (putW s ((emptyW A).take k)).N = s.N + ((emptyW A).take k).length := rfl
        have := HNN.out
        have := List.length_take_le k (emptyW A)
        omega
      have HBX := Lib.hid (below_box (w := wr) (.cells #[.int .i64 n, .slice (some ⟨gl, 0, none⟩) 256 cl] 100))
      have rx := rowV_new wr [.int .i64 n, .slice (some ⟨gl, 0, none⟩) 256 cl] 100
      have y0 := rowc rx 0 rfl
      have y1 := rowc rx 1 rfl
      have hr2 : Row (wr.alloc (.cells #[.int .i64 n, .slice (some ⟨gl, 0, none⟩) 256 cl] 100)) gl l rest := row_alloc hrow _
      have HW := Lib.hid (Write_ok S' db n (putW s ((emptyW A).take k)) l _ (some ⟨gl, 0, none⟩) cl _ (HH.out.1.below HBX.out) (hr2.sl hr2.lt) (Nat.le_refl _) (by have := HLL.out; omega) hl hNs)
      clear hk' hl hcl hrow hnb hnx hn hl2 hLs hNs rx hr2 hgl
      go_wp2_with fail
      refine HW.out.mono ?_
      rintro e w5 ⟨rfl, S5, hd5, he5, hi5⟩
      have H5 := Lib.hid (And.intro hd5 (And.intro he5 hi5))
      clear hd5 he5 hi5 y0 y1 z0 z1
      go_wp2_with fail
      go_roundw
      case rel => exact ⟨k + 1, S5, by omega, by go_num, Lib.hid ⟨by rw [HNX.out]; exact H5.out.1, HH.out.2.1.trans ((Ext.of_below HBX.out S').trans H5.out.2.1 (In.refl _ _)) HH.out.2.2, HH.out.2.2.trans ((In.refl S' wr).trans H5.out.2.2 HBX.out.size) HH.out.2.1.size⟩⟩
      case measure => simp [RowKit.intOf]; omega
    · obtain rfl : k = m := by omega
      have d1 : decide ((k : Int) < (k : Int)) = false := by simp
      have hdd := HH.out.1
      rw [← HMM.out, List.take_length] at hdd
      have HDD := Lib.hid hdd
      have hNs : (putW s (emptyW A)).N ≤ 1073741824 := by
        have : (putW s (emptyW A)).N = s.N + (emptyW A).length := rfl
        have := HNN.out
        have := HMM.out
        omega
      have HF := Lib.hid (Flush_ok S' db (putW s (emptyW A)) wr HDD.out hNs)
      clear hdd hNs
      go_wp2_with fail
      refine HF.out.mono ?_
      rintro e w6 ⟨rfl, S6, hd6, he6, hi6⟩
      have H6 := Lib.hid (And.intro hd6 (And.intro he6 hi6))
      clear hd6 he6 hi6
      go_wp2
      go_ret
      exact ⟨rfl, S6, H6.out.1, (Ext.of_below HBD.out S).trans (HH.out.2.1.trans H6.out.2.1 HH.out.2.2) (In.refl _ _), fun q hq => (HH.out.2.2.trans H6.out.2.2 HH.out.2.1.size q hq).imp id (Nat.le_trans HBD.out.size)⟩
end Go.Proofs.YtgjcbfdhpbkhoaaGreatDoor.AMake5
