/- The allocator: what stands on an empty group: its bitmaps and its table. -/
import Derived.Test.YtgkindoidmglnaaGreatDoorMg41
import Derived.Test.YtgkindoidmglnaaGreatDoorMg36
import Derived.Test.YtgkindoidmglnaaGreatDoorMg33
import Derived.Test.YtgkindoidmglnaaGreatDoorMg40
import Derived.Test.YtgkindoidmglnaaGreatDoorMg43
import Derived.Test.YtgkindoidmglnaaGreatDoorMg2
import Derived.Test.YtgkindoidmglnaaGreatDoorMg45
import Derived.Test.YtgkindoidmglnaaGreatDoorMg46
import Derived.Test.YtgkindoidmglnaaGreatDoorMg47
namespace Go.Proofs.YtgkindoidmglnaaGreatDoor.AMake1
open Go.RowKit Go.Shelf WMem WPlain WAppend WCrc WSeal TPlain TBits TSet TTurn TFace TTurnF TSame TFind TFacts GPlain GGeo GGeo2 GFace Ext Map DPlain DMem Mk DPend EPlain EMem EFace EWrites EAny DRead SPlain QPlain QMem APlain AMem AGeo AOpen ATurn ATake

/-- a new bitmap -/
theorem fr_new {n seed : Nat} (hn : n ≤ 2016) (i : Nat) : fr (newB n seed) i = decide (i < n) := by
  have hl : (flips (List.replicate 256 0) n (2016 - n)).length = 256 := by rw [flips_len, List.length_replicate]
  unfold newB
  rw [fr_seal hl]
  by_cases hi : i < 2016
  · rw [fr_flips (List.length_replicate ..) hi (2016 - n) (by omega), fr_blank hi]
    have e : decide (n ≤ i ∧ i < n + (2016 - n)) = !decide (i < n) := by rw [Bool.eq_iff_iff]; simp; omega
    rw [e]
    cases decide (i < n) <;> rfl
  · rw [fr_big (by omega)]
    exact (decide_eq_false (by omega)).symm
theorem new_map {n seed : Nat} (hn : n ≤ 2016) : isMap (newB n seed) n seed = true :=
  map_mk (newB_len n seed) (by unfold newB; exact WTurn.sealed_sealL _ _ (by rw [flips_len, List.length_replicate]; omega)) (allB_iff.2 fun j _ => by rw [fr_new hn, decide_eq_false (by omega)]; rfl)
def zblk : Bk := List.replicate 256 0
/-- what is written of a group -/
def tabW (x4 k : Nat) : List (Nat × Bk) := (List.range k).map fun i => (x4 + i, zblk)
def grpW (x2 x3 x4 k : Nat) (bm im : Bk) : List (Nat × Bk) := (x2, bm) :: (x3, im) :: tabW x4 k
theorem grpW_len (x2 x3 x4 k : Nat) (bm im : Bk) : (grpW x2 x3 x4 k bm im).length = k + 2 := by simp [grpW, tabW]
theorem grpW_next (x2 x3 x4 k : Nat) (bm im : Bk) : grpW x2 x3 x4 (k + 1) bm im = grpW x2 x3 x4 k bm im ++ [(x4 + k, zblk)] := by simp [grpW, tabW, List.range_succ]
theorem writ_two {w W : World} {x2 x3 g2 c2 g3 c3 : Nat} {r2 r3 : List Value} {bm im : Bk} (hb : Below w.heap.size w W) (h2 : Row W g2 bm r2) (h3 : Row W g3 im r3) (l2 : bm.length = 256) (l3 : im.length = 256) (q2 : 256 ≤ c2) (q3 : 256 ≤ c3) (p2 : w.heap.size ≤ g2) (p3 : w.heap.size ≤ g3) (k2 : g2 < W.heap.size) (k3 : g3 < W.heap.size) :
    WrIn w (W.alloc (.cells #[.int .i64 x2, .slice (some ⟨g2, 0, none⟩) 256 c2, .int .i64 x3, .slice (some ⟨g3, 0, none⟩) 256 c3] 99)) [(x2, bm), (x3, im)] (.slice (some ⟨W.heap.size, 0, none⟩) 2 2) [.int .i64 x2, .slice (some ⟨g2, 0, none⟩) 256 c2, .int .i64 x3, .slice (some ⟨g3, 0, none⟩) 256 c3] := by
  have hs := hb.size
  refine ⟨⟨rfl, .inr ⟨W.heap.size, 2, _, rfl, hs, row_new W _, Nat.le_refl _, by decide, rfl, rfl⟩⟩, ⟨rfl, fun i hi => ?_⟩, hb.alloc hs _⟩
  have m2 : IsBlk (W.alloc (.cells #[.int .i64 x2, .slice (some ⟨g2, 0, none⟩) 256 c2, .int .i64 x3, .slice (some ⟨g3, 0, none⟩) 256 c3] 99)) (Made w (W.alloc (.cells #[.int .i64 x2, .slice (some ⟨g2, 0, none⟩) 256 c2, .int .i64 x3, .slice (some ⟨g3, 0, none⟩) 256 c3] 99))) (.slice (some ⟨g2, 0, none⟩) 256 c2) bm :=
    ⟨g2, c2, r2, rfl, ⟨p2, by simp; omega⟩, l2, q2, row_alloc h2 _⟩
  have m3 : IsBlk (W.alloc (.cells #[.int .i64 x2, .slice (some ⟨g2, 0, none⟩) 256 c2, .int .i64 x3, .slice (some ⟨g3, 0, none⟩) 256 c3] 99)) (Made w (W.alloc (.cells #[.int .i64 x2, .slice (some ⟨g2, 0, none⟩) 256 c2, .int .i64 x3, .slice (some ⟨g3, 0, none⟩) 256 c3] 99))) (.slice (some ⟨g3, 0, none⟩) 256 c3) im :=
    ⟨g3, c3, r3, rfl, ⟨p3, by simp; omega⟩, l3, q3, row_alloc h3 _⟩
  match i, hi with
  | 0, _ => exact ⟨_, rfl, rfl, m2⟩
  | 1, _ => exact ⟨_, rfl, rfl, m3⟩
section
variable {A : Al} {i x0 x1 x2 x3 x4 x5 N : Nat}
set_option maxRecDepth 100000 in
set_option maxHeartbeats 4000000 in
theorem emptyGroup_any (hp : PL A i x0 x1 x2 x3 x4 x5 N) (hM : May A.b A.p A.n A.j) (hi : i < A.ng) {n o : Nat} (hn : A.n = (n : Int)) (ho : A.own i = o) (w : World) (hT : Tab w) :
    Calls Tryz.prog 91 #[.agg #[.int .i64 A.b, .int .i64 A.p, .int .i64 (n : Int), .int .i64 A.j], .agg #[.int .i64 x0, .int .i64 x1, .int .i64 x2, .int .i64 x3, .int .i64 x4, .int .i64 x5]] w fun e w' => ∃ v ys, e = .returned (.tuple #[v, .int .i64 0]) ∧
      WrIn w w' (grpW x2 x3 x4 (x5 - x4) (turnL (newB N x2) (0 : Nat) (o : Nat) x2) (newB n x3)) v ys := by
  obtain ⟨i0, hi0, hz0, hz1, hz2⟩ := info_parts infoW
  have G := geo hM hi
  have hN16 : N ≤ 2016 := by rw [← hp.en]; exact G.a7
  have hn16 : n ≤ 2016 := by have := hM.n1; omega
  have hx1 : x1 ≤ 4096 := by have := G.a8; have := hM.b1; have := hp.e1; omega
  have hx01 : x0 + N = x1 := by rw [← hp.e0, ← hp.e1, ← hp.en]
  have hx05 : x0 + o = x5 := by rw [← hp.e0, ← hp.e5, ← ho]
  have hoN : o < N := by rw [← ho, ← hp.en]; exact G.a6
  have ho1 : 1 ≤ o := by have := G.a5; have := G.a4; omega
  have hx45 : x4 ≤ x5 := by rw [← hp.e4, ← hp.e5]; have := G.a5; omega
  have hx2 : x2 < 4096 := by rw [← hp.e2]; have := G.a5; have := hp.e5; omega
  have hx3 : x3 < 4096 := by rw [← hp.e3]; have := G.a5; have := hp.e5; omega
  have HW : Hid (wrap64 ((x1 : Int) - (x0 : Int)) = (N : Int) ∧ IntKind.i64.wrap ((x1 : Int) - (x0 : Int)) = (N : Int) ∧ IntKind.u32.wrap (x2 : Int) = (x2 : Int) ∧ IntKind.u32.wrap (x3 : Int) = (x3 : Int) ∧ wrap64 ((x5 : Int) - (x0 : Int)) = (o : Int) ∧ IntKind.i64.wrap ((x5 : Int) - (x0 : Int)) = (o : Int)) := Lib.hid
    ⟨by rw [IntWalk.wrap64_in _ ⟨by omega, by omega⟩]; omega, by rw [IntWalk.i64_in _ ⟨by omega, by omega⟩]; omega, by rw [IntKind.wrap_u32']; omega, by rw [IntKind.wrap_u32']; omega, by rw [IntWalk.wrap64_in _ ⟨by omega, by omega⟩]; omega, by rw [IntWalk.i64_in _ ⟨by omega, by omega⟩]; omega⟩
  have hb1 := below_box (w := w) (.cells #[.int .i64 A.b, .int .i64 A.p, .int .i64 (n : Int), .int .i64 A.j] 23)
  have hb2 := hb1.alloc (by simp) (.cells #[.int .i64 x0, .int .i64 x1, .int .i64 x2, .int .i64 x3, .int .i64 x4, .int .i64 x5] 115)
  have r0 := (rowV_new w [.int .i64 A.b, .int .i64 A.p, .int .i64 (n : Int), .int .i64 A.j] 23).alloc (.cells #[.int .i64 x0, .int .i64 x1, .int .i64 x2, .int .i64 x3, .int .i64 x4, .int .i64 x5] 115)
  have r1 := rowV_new (w.alloc (.cells #[.int .i64 A.b, .int .i64 A.p, .int .i64 (n : Int), .int .i64 A.j] 23)) [.int .i64 x0, .int .i64 x1, .int .i64 x2, .int .i64 x3, .int .i64 x4, .int .i64 x5] 115
  simp only [World.size_alloc] at r1
  have HT := Lib.hid hT
  have HP := Lib.hid hp
  have y0 := rowc r1 0 rfl
  have y1 := rowc r1 1 rfl
  have y2 := rowc r1 2 rfl
  have HB := Lib.hid hb2
  have R0 := Lib.hid r0
  have R1 := Lib.hid r1
  obtain ⟨u1, u2, u3, u4, u5, u6⟩ := HW.out
  clear hb1 hb2 r0 r1 hT hp
  obtain ⟨bm, hbm⟩ : ∃ l, turnL (newB N x2) (0 : Nat) (o : Nat) x2 = l := ⟨_, rfl⟩
  obtain ⟨im, him⟩ : ∃ l, newB n x3 = l := ⟨_, rfl⟩
  rw [hbm, him]
  have HBM := Lib.hid hbm
  have HIM := Lib.hid him
  clear hbm him
  go_enter Tryz.func91, Tryz.ntmps91
  go_wp2_with fail
  go_region
  clear u1 u2
  go_wp2_with fail
  refine (New_yes N x2 _ hN16 (by omega) (Tab.below HT.out (below_drewN HB.out 1) (Tab.lt HT.out))).mono ?_
  rintro e w1 ⟨g1, rfl, hg1, hR1, hb1⟩
  have R1D := Lib.hid (R1.out.drewN 1)
  have HB1 := Lib.hid (below_up (below_drewN HB.out 1) hb1 (by simp; omega))
  have r1 := (R1.out.drewN 1).keep hb1 (R1.out.drewN 1).lt
  have r0 := (R0.out.drewN 1).keep hb1 (R0.out.drewN 1).lt
  have y0 := rowc r1 0 rfl
  have y5 := rowc r1 5 rfl
  have HR1 := Lib.hid hR1
  have R0 := Lib.hid r0
  have R1 := Lib.hid r1
  have HBW := Lib.hid hb1
  have HC : Hid (Calls Tryz.prog 108 #[.slice (some ⟨g1, 0, none⟩) (256 : Nat) 256, .int .i64 (N : Int), .int .i64 ((0 : Nat) : Int), .int .i64 (o : Int), .bool true, .int .u32 (x2 : Nat)] w1 fun e w' => ∃ g cap rest, e = .returned (.tuple #[.slice (some ⟨g, 0, none⟩) 256 cap, .int .i64 0]) ∧ w1.heap.size ≤ g ∧ 256 ≤ cap ∧ Row w' g (turnL (newB N x2) (0 : Nat) (o : Nat) x2) rest ∧ Below w1.heap.size w1 w') := Lib.hid (by
    have hT1 : Tab w1 := Tab.below HT.out HB1.out (Tab.lt HT.out)
    have HK := Check_any (newB N x2) 256 (newB_len _ _) w1.heap.size (some ⟨g1, 0, none⟩) 256 N x2 w1 (by omega) (Nat.le_refl _) (HR1.out.sl HR1.out.lt) hT1
    rw [chk_map (new_map hN16) hN16] at HK
    exact Turn_yes (newB N x2) (newB_len _ _) w1.heap.size _ 256 N 0 o true x2 w1 (by omega) (Nat.le_refl _) hN16 ho1 (by omega) (allB_iff.2 fun j hj => by rw [fr_new hN16, decide_eq_true (by omega)]) (HR1.out.sl HR1.out.lt) hT1 HK)
  clear hR1 hb1 r0 r1 y1 y2
  go_wp2_with fail
  clear u5 u6
  try rw [show (x5 : Int) - (x0 : Int) = (o : Int) by omega]
  refine HC.out.mono ?_
  rintro e w2 ⟨g2, c2, rest2, rfl, hg2, hc2, hR2, hb2⟩
  have HB2 := Lib.hid (below_up HB1.out hb2 HB1.out.size)
  have r1 := R1.out.keep hb2 R1.out.lt
  have r0 := R0.out.keep hb2 R0.out.lt
  have HBW2 := Lib.hid (below_up HBW.out hb2 HBW.out.size)
  have HR2 := Lib.hid hR2
  have R0 := Lib.hid r0
  have R1 := Lib.hid r1
  have z2 := rowc r0 2 rfl
  have y3 := rowc r1 3 rfl
  clear hR2 hb2 r0 r1 y0 y5
  go_wp2_with fail
  refine (New_yes n x3 _ hn16 (by omega) (Tab.below HT.out HB2.out (Tab.lt HT.out))).mono ?_
  clear u3 u4
  rintro e w3 ⟨g3, rfl, hg3, hR3, hb3⟩
  have HB3 := Lib.hid (below_up HB2.out hb3 HB2.out.size)
  have HBW3 := Lib.hid (below_up HBW2.out hb3 HBW2.out.size)
  have r1 := R1.out.keep hb3 R1.out.lt
  have hR2 : Row w3 g2 (turnL (newB N x2) (0 : Nat) (o : Nat) x2) rest2 := row_below HR2.out hb3 HR2.out.lt
  have hbm := HBM.out
  have him := HIM.out
  have lbm : bm.length = 256 := by rw [← hbm]; exact turn_len (newB_len _ _) _ _ _
  have lim : im.length = 256 := by rw [← him]; exact newB_len _ _
  rw [hbm] at hR2
  rw [him] at hR3
  clear hbm him
  generalize hW0 : (((w.alloc (.cells #[.int .i64 A.b, .int .i64 A.p, .int .i64 (n : Int), .int .i64 A.j] 23)).alloc (.cells #[.int .i64 x0, .int .i64 x1, .int .i64 x2, .int .i64 x3, .int .i64 x4, .int .i64 x5] 115)).drewN 1) = W0 at *
  have hsz0 : W0.heap.size = w.heap.size + 2 := by rw [← hW0]; simp
  have hs1 := HBW.out.size
  have hs2 := HBW2.out.size
  have hs3 := HBW3.out.size
  have hbW : Below w.heap.size w W0 := by rw [← hW0]; exact below_drewN HB.out 1
  have H0 := Lib.hid (writ_two (x2 := x2) (x3 := x3) HBW3.out hR2 hR3 lbm lim hc2 (Nat.le_refl _) (by omega) (by omega) hR2.lt hR3.lt)
  have HR1 : Hid (∀ W, Below W0.heap.size W0 W → RowV W (w.heap.size + 1) 115 [.int .i64 x0, .int .i64 x1, .int .i64 x2, .int .i64 x3, .int .i64 x4, .int .i64 x5]) := Lib.hid fun W hb => by
    have h0 : RowV W0 (w.heap.size + 1) 115 [.int .i64 x0, .int .i64 x1, .int .i64 x2, .int .i64 x3, .int .i64 x4, .int .i64 x5] := R1D.out
    exact h0.keep hb h0.lt
  have HBW0 := Lib.hid hbW
  have y2 := rowc r1 2 rfl
  have y3 := rowc r1 3 rfl
  have y4 := rowc (HR1.out _ H0.out.below) 4 rfl
  clear r1 hR2 hR3 hb3 hg1 hg2 hg3 z2
  go_wp2_with fail
  go_loopw [11, 12] (fun v i wr => ∃ (k : Nat) (ys : List Value), x4 + k ≤ x5 ∧ i = .int .i64 (x4 + k : Nat) ∧ WrIn W0 wr (grpW x2 x3 x4 k bm im) v ys) (fun _ i _ => x5 - (RowKit.intOf i).toNat)
  case atStart => exact ⟨0, _, hx45, rfl, H0.out⟩
  case round =>
    obtain ⟨k, ys, hk, rfl, hw⟩ := hrel
    have y5 := rowc (HR1.out _ hw.below) 5 rfl
    have HW1 := Lib.hid hw
    obtain ⟨m, hm⟩ : ∃ m, x4 + k = m := ⟨_, rfl⟩
    rw [hm] at hk ⊢
    by_cases hlt : m < x5
    · have d1 : decide ((m : Int) < (x5 : Int)) = true := by simp; omega
      have hnx : x4 + (k + 1) = m + 1 := by omega
      have hm4 : m ≤ 4096 := by omega
      have hmk := Mk.make256
      have hz : (wr.alloc (.cells (zrow 256) 5)).heap.size = wr.heap.size + 1 := by simp
      have HB4 := Lib.hid (below_box (w := wr) (.cells (zrow 256) 5))
      have HU : Hid (IsBlk (wr.alloc (.cells (zrow 256) 5)) (fun g => wr.heap.size ≤ g ∧ g < (wr.alloc (.cells (zrow 256) 5)).heap.size) (.slice (some ⟨wr.heap.size, 0, none⟩) 256 256) zblk) := Lib.hid ⟨wr.heap.size, 256, [], rfl, ⟨Nat.le_refl _, by rw [hz]; omega⟩, by decide, Nat.le_refl _, Mk.zrow_row wr 256⟩
      have hown := hw.own
      rw [grpW_len] at hown
      have ho2 := own_same hown (w' := wr.alloc (.cells (zrow 256) 5)) (fun q hq => HB4.out.block q (own_lt hown q hq))
      have HO2 := Lib.hid (ho2.alloc (.cells #[.int .i64 m, .slice (some ⟨wr.heap.size, 0, none⟩) 256 256] 99))
      have hnew : ((wr.alloc (.cells (zrow 256) 5)).alloc (.cells #[.int .i64 m, .slice (some ⟨wr.heap.size, 0, none⟩) 256 256] 99)).heap[wr.heap.size + 1]? = some (.cells #[.int .i64 m, .slice (some ⟨wr.heap.size, 0, none⟩) 256 256] 99 (0, 0)) := by
        have := row_new (wr.alloc (.cells (zrow 256) 5)) (.cells #[.int .i64 m, .slice (some ⟨wr.heap.size, 0, none⟩) 256 256] 99)
        rw [hz] at this
        exact this
      have HNW := Lib.hid hnew
      have HLN : Hid ((grpW x2 x3 x4 k bm im).length = k + 2) := Lib.hid (grpW_len ..)
      have HNX : Hid (grpW x2 x3 x4 (k + 1) bm im = grpW x2 x3 x4 k bm im ++ [(m, zblk)]) := Lib.hid (by rw [grpW_next, hm])
      have HM := Lib.hid hm
      have hk16 : k ≤ 4096 := by omega
      have s1 := HW1.out.below.size
      clear hw hown ho2 hnew hm
      go_wp2_with (at_builtin; go_must (refine wpList_append_own _ rfl _ _ 92 rfl W0.heap.size 99 i0 _ 2 32 underW hi0 hz0 hz1 hz2 rfl (by decide) _ (k + 2) ys rfl HO2.out ⟨wr.heap.size + 1, 0, none⟩ 1 1 [.int .i64 m, .slice (some ⟨wr.heap.size, 0, none⟩) 256 256] rfl rfl (World.news_of_block (cs := #[.int .i64 m, .slice (some ⟨wr.heap.size, 0, none⟩) 256 256]) (t := 99) (fr := (0, 0)) HNW.out) (by simp [Value.oneCell']) (by unfold maxLen; omega) (by omega) (by simp; omega) ?_); intro v' w4 h3 h4 _
                   have HW4 := Lib.hid (WrIn.snoc HW1.out HB4.out HU.out (by rw [HLN.out]; exact h3) h4)
                   clear h3 h4)
      go_roundw
      case rel => exact ⟨k + 1, _, by omega, by rw [hnx]; go_num, by rw [HNX.out]; exact HW4.out⟩
      case measure => simp [RowKit.intOf]; omega
    · have d1 : decide ((m : Int) < (x5 : Int)) = false := by simp; omega
      have HKK : Hid (x5 - x4 = k) := Lib.hid (by omega)
      clear hw
      go_wp2
      go_ret2
      rw [HKK.out]
      exact ⟨_, ys, rfl, own_base HW1.out.own (fun q hq => by have := own_ge HW1.out.own q hq; have := HBW0.out.size; omega), HW1.out.each.more (fun q hq => ⟨by have := HBW0.out.size; have := hq.1; omega, hq.2⟩), HBW0.out.trans (HW1.out.below.mono HBW0.out.size)⟩
end
end Go.Proofs.YtgkindoidmglnaaGreatDoor.AMake1
/- The allocator: an empty disk in plain mathematics. -/
namespace Go.Proofs.YtgkindoidmglnaaGreatDoor.AEmpty
open WPlain WAny WSeal WTurn EPlain GPlain GPlain3 SPlain QPlain TPlain TBits TSet TTurn TFace TTurnF TSame APlain AMake1

def bare (b p n j : Int) : Al := ⟨b, p, n, j, fun _ => [], fun _ => [], fun _ => 0, 0, 0, false⟩
/-- the empty disk of a geometry -/
def empty (b p n j : Int) : Al := { bare b p n j with bm := fun i => turnL (newB ((bare b p n j).size i) ((bare b p n j).bat i)) (0 : Nat) ((bare b p n j).own i : Nat) ((bare b p n j).bat i), im := fun i => newB n.toNat ((bare b p n j).bat i + 1) }
theorem zer_lt (n : Nat) : ∀ p, zer (fun k => decide (k < n)) p = min p n
  | 0 => by simp [zer]
  | p + 1 => by
    simp only [zer, zer_lt n p]
    by_cases h : p < n
    · rw [if_pos (decide_eq_true h)]; omega
    · rw [if_neg (by simp [h])]; omega
theorem zeros_new {n seed : Nat} (hn : n ≤ 2016) : TBits.zeros (newB n seed) = n := by
  have e : fr (newB n seed) = fun k => decide (k < n) := funext fun k => fr_new hn k
  unfold TBits.zeros
  rw [e, zer_lt]
  omega
section
variable {b p n j : Int}
theorem empty_bz (h : May b p n j) {i : Nat} (hi : i < (empty b p n j).ng) : TBits.zeros ((empty b p n j).bm i) = (empty b p n j).size i - (empty b p n j).own i := by
  have g := geo (A := empty b p n j) h hi
  have h6 := g.a6
  have h7 := g.a7
  have := turn_take (l := newB ((empty b p n j).size i) ((empty b p n j).bat i)) (a := 0) (c := (empty b p n j).own i) (newB_len _ _) ((empty b p n j).bat i) (by omega) (fun k hk => by rw [fr_new h7]; exact decide_eq_true (by omega))
  rw [zeros_new h7] at this
  have e : (empty b p n j).bm i = turnL (newB ((empty b p n j).size i) ((empty b p n j).bat i)) (0 : Nat) ((empty b p n j).own i : Nat) ((empty b p n j).bat i) := rfl
  rw [e]
  omega
theorem empty_iz (h : May b p n j) (i : Nat) : (TBits.zeros ((empty b p n j).im i) : Int) = n := by
  have h1 := h.n0
  have h2 := h.n1
  have e : (empty b p n j).im i = newB n.toNat ((empty b p n j).bat i + 1) := rfl
  rw [e, zeros_new (by omega)]
  omega
theorem empty_fine (h : May b p n j) : (empty b p n j).Fine := by
  have hN := h.n1
  refine ⟨h, fun i hi => ?_, fun i _ => ?_, fun i hi k hk => ?_, fun i => ⟨Int.le_refl 0, (by decide : (0 : Int) ≤ 65535)⟩, ⟨Int.le_refl 0, ?_⟩, ⟨Int.le_refl 0, (by decide : (0 : Int) ≤ 2147483647)⟩⟩
  · have g := geo (A := empty b p n j) h hi
    have h6 := g.a6
    exact turn_map (new_map g.a7) (by rw [Nat.zero_add]; exact Nat.le_of_lt h6) g.a7
  · exact new_map (by show n.toNat ≤ 2016; omega)
  · have g := geo (A := empty b p n j) h hi
    have h6 := g.a6
    have h7 := g.a7
    have e : (empty b p n j).bm i = turnL (newB ((empty b p n j).size i) ((empty b p n j).bat i)) (0 : Nat) ((empty b p n j).own i : Nat) ((empty b p n j).bat i) := rfl
    rw [e, fr_turn (newB_len _ _) 0 ((empty b p n j).own i) ((empty b p n j).bat i) (k := k) (by rw [Nat.zero_add]; exact Nat.le_trans (Nat.le_of_lt h6) h7), fr_new h7]
    have hk : k < (empty b p n j).own i := hk
    have h1 : k < (empty b p n j).size i := Nat.lt_trans hk h6
    have h2 : 0 ≤ k ∧ k < 0 + (empty b p n j).own i := ⟨Nat.zero_le _, by rw [Nat.zero_add]; exact hk⟩
    rw [decide_eq_true h1, decide_eq_true h2]
    rfl
  · show (0 : Int) ≤ gN b p * n
    exact Int.mul_nonneg (by have := h.g0; omega) (by have := h.n0; omega)
/-- what is written of the first k groups -/
def gw (A : Al) (i : Nat) : List (Nat × Bk) := grpW (A.bat i) (A.bat i + 1) (A.bat i + 2) (A.at_ i + A.own i - (A.bat i + 2)) (A.bm i) (A.im i)
def allW (A : Al) (k : Nat) : List (Nat × Bk) := (List.range k).flatMap (gw A)
theorem allW_next (A : Al) (k : Nat) : allW A (k + 1) = allW A k ++ gw A k := by simp [allW, List.range_succ]
/-- counts of the first k groups -/
def gsK (A : Al) (k : Nat) : List Grp := (List.range A.ng).map fun i => if i < k then A.grp i else ⟨0, 0, 0⟩
def fbK (A : Al) (k : Nat) : Nat := sumTo (fun i => TBits.zeros (A.bm i)) k
def fiK (A : Al) (k : Nat) : Nat := sumTo (fun i => TBits.zeros (A.im i)) k
theorem gsK_len (A : Al) (k : Nat) : (gsK A k).length = A.ng := by simp [gsK]
theorem gsK_get (A : Al) (k : Nat) {i : Nat} (hi : i < (gsK A k).length) : (gsK A k)[i] = if i < k then A.grp i else ⟨0, 0, 0⟩ := by simp [gsK]
theorem gsK_next (A : Al) (k : Nat) : gsK A (k + 1) = (gsK A k).set k (A.grp k) := by
  refine List.ext_getElem (by simp [gsK]) fun i h1 h2 => ?_
  rw [gsK_get, List.getElem_set]
  split
  · rename_i h
    split
    · rename_i e; rw [e]
    · rw [gsK_get, if_pos (by omega)]
  · rename_i h
    split
    · omega
    · rw [gsK_get, if_neg (by omega)]
theorem gsK_end (A : Al) : gsK A A.ng = A.gs := by
  refine List.ext_getElem (by simp [gsK, Al.gs]) fun i h1 h2 => ?_
  rw [gsK_get, if_pos (by rw [gsK_len] at h1; exact h1), gs_get]
theorem gsK_zero (A : Al) : gsK A 0 = List.replicate A.ng ⟨0, 0, 0⟩ := by
  refine List.ext_getElem (by simp [gsK]) fun i h1 h2 => ?_
  rw [gsK_get, if_neg (by omega), List.getElem_replicate]
theorem fbK_end (A : Al) : fbK A A.ng = A.fb := rfl
theorem fiK_end (A : Al) : fiK A A.ng = A.fi := rfl
end
end Go.Proofs.YtgkindoidmglnaaGreatDoor.AEmpty
/- The allocator: rows of writes, one behind the other. -/
namespace Go.Proofs.YtgkindoidmglnaaGreatDoor.AMake2
open Go.RowKit WMem WPlain WAppend Ext Map DPlain DMem Mk DRead DPend DWrite EPlain EMem EWrites QPlain QMem AMem

theorem POf.many {w : World} {S : Nat → Prop} {ys zs : List Value} {P Q : List (Nat × Bk)} (hp : POf w S ys P) (hq : POf w S zs Q) : POf w S (ys ++ zs) (P ++ Q) := by
  refine ⟨by simp [hp.1, hq.1]; omega, fun i hi => ?_⟩
  by_cases e : i < P.length
  · obtain ⟨u, h1, h2, h3⟩ := hp.2 i e
    refine ⟨u, ?_, ?_, ?_⟩
    · rw [List.getElem?_append_left (by rw [hp.1]; omega), List.getElem_append_left e]; exact h1
    · rw [List.getElem?_append_left (by rw [hp.1]; omega)]; exact h2
    · rw [List.getElem_append_left e]; exact h3
  · have hi' : i - P.length < Q.length := by simp at hi; omega
    obtain ⟨u, h1, h2, h3⟩ := hq.2 (i - P.length) hi'
    refine ⟨u, ?_, ?_, ?_⟩
    · rw [List.getElem?_append_right (by rw [hp.1]; omega), hp.1, List.getElem_append_right (by omega), show i * 2 - P.length * 2 = (i - P.length) * 2 by omega]; exact h1
    · rw [List.getElem?_append_right (by rw [hp.1]; omega), hp.1, show i * 2 + 1 - P.length * 2 = (i - P.length) * 2 + 1 by omega]; exact h2
    · rw [List.getElem_append_right (by omega)]; exact h3
/-- a row that was made since is laid behind another one -/
theorem WrIn.many {w wr W2 w3 : World} {P Q : List (Nat × Bk)} {v u v' : Value} {ys zs : List Value} (h : WrIn w wr P v ys) (hq : WrIn wr W2 Q u zs)
    (ho : w3.ownsRow w.heap.size 99 2 v' (P.length + Q.length) (ys ++ zs)) (hg : W2.grownBy w3 v.ownBlock) : WrIn w w3 (P ++ Q) v' (ys ++ zs) := by
  have s1 := h.below.size
  have s2 := hq.below.size
  have s3 := hg.size
  have hov : ∀ q, v.ownBlock = some q → w.heap.size ≤ q ∧ q < wr.heap.size := fun q hq => ⟨own_ge h.own q hq, own_lt h.own q hq⟩
  have ht : ∀ q o', wr.heap[q]? = some (.cells o' 5 (0, 0)) → v.ownBlock ≠ some q := fun q o' hq e => own_ne h.own hq (by decide) e
  have keep3 : ∀ q, q < W2.heap.size → v.ownBlock ≠ some q → w3.heap[q]? = W2.heap[q]? := fun q q1 q2 => hg.block q q1 (fun e => q2 e.symm)
  refine ⟨by rw [List.length_append]; exact ho, POf.many ((h.each.keep (fun q o' hq1 hq' => ?_)).more fun q hq => ⟨hq.1, by omega⟩) ((hq.each.keep (fun q o' hq1 hq' => ?_)).more fun q hq => ⟨by have := hq.1; omega, by have := hq.2; omega⟩), ?_⟩
  · exact (keep3 q (by have := row_lt hq'; omega) (ht q o' hq')).trans (hq.below.block q (row_lt hq'))
  · exact keep3 q hq1.2 (fun e => by have := hov q e; have := hq1.1; omega)
  · exact (h.below.trans (hq.below.mono s1)).trans (Below.grown (Below.refl _ _) hg (by omega) (fun q hq => (hov q hq).1))
/-- the groups of counts that are not counted yet -/
theorem cells_zero : ∀ n : Nat, cells (List.replicate n ⟨0, 0, 0⟩) = List.replicate (n * 3) (.int .i64 0)
  | 0 => rfl
  | n + 1 => by
    have ih := cells_zero n
    rw [List.replicate_succ, show (n + 1) * 3 = n * 3 + 1 + 1 + 1 by omega, List.replicate_succ, List.replicate_succ, List.replicate_succ, ← ih]
    rfl
theorem made_three (n : Nat) : madeCells #[.int .i64 0, .int .i64 0, .int .i64 0] (n * 3) = (cells (List.replicate n ⟨0, 0, 0⟩)).toArray := by
  rw [cells_zero]
  apply Array.ext
  · simp [madeCells]
  · intro i h1 h2
    simp [madeCells]
    have : i % 3 = 0 ∨ i % 3 = 1 ∨ i % 3 = 2 := by omega
    rcases this with h | h | h <;> simp [h]
theorem make_groups (n : Nat) (hn : n ≤ 14) (w : World) : (Instr.makeSlice 80 (.int .i64 (n : Int)) (.int .i64 (n : Int))).run Tryz.prog w = .ok (.slice (some ⟨w.heap.size, 0, none⟩) n n) (w.alloc (.cells (cells (List.replicate n ⟨0, 0, 0⟩)).toArray 87)) := by
  obtain ⟨i, h1, h2, h3, h4⟩ := info_parts (P := Tryz.prog) (e := 87) (z := .agg #[.int .i64 0, .int .i64 0, .int .i64 0]) (size := 3) (bytes := 24) (by kernel_rfl)
  have h := run_make (P := Tryz.prog) w 80 87 i (.agg #[.int .i64 0, .int .i64 0, .int .i64 0]) (by kernel_rfl) h1 h2 .i64 .i64 n n (by omega) (by omega) (by rw [h4]; omega) (by omega)
  rw [h]
  simp only [Int.toNat_natCast, h3]
  rw [← made_three]
  rfl
end Go.Proofs.YtgkindoidmglnaaGreatDoor.AMake2
/- The allocator: counts in a box of their own. Written by gen_cnt.py. -/
namespace Go.Proofs.YtgkindoidmglnaaGreatDoor.ACnt
open Go.RowKit WMem WPlain WAppend WCrc WSeal TPlain TBits TSet TTurn TFace TTurnF GPlain GGeo GGeo2 GFace Ext Map DPlain DMem EPlain EMem EFace EAny SPlain SPack QPlain QMem QPack APlain AMem AGeo AOpen ATurn

structure Cnt (w : World) (lb gb c : Nat) (A : Al) (gs : List Grp) (fb fi : Int) : Prop where
  box : w.heap[lb]? = some (.cells #[.int .i64 A.b, .int .i64 A.p, .int .i64 A.n, .int .i64 A.j, .int .i64 fb, .int .i64 fi, .int .i64 A.oo, .int .i64 A.mo, .bool A.cl, .slice (some ⟨gb, 0, none⟩) gs.length c] 118 (0, 0))
  row : ∃ rest, w.heap[gb]? = some (.cells (cells gs ++ rest).toArray 87 (0, 0))
section
variable {w w' : World} {lb gb c : Nat} {A : Al} {gs : List Grp} {fb fi : Int}
theorem Cnt.keep (h : Cnt w lb gb c A gs fb fi) (h1 : w'.heap[lb]? = w.heap[lb]?) (h2 : w'.heap[gb]? = w.heap[gb]?) : Cnt w' lb gb c A gs fb fi := by
  obtain ⟨rest, hr⟩ := h.row
  exact ⟨h1.trans h.box, rest, h2.trans hr⟩
theorem Cnt.kp {S : Nat → Prop} (h : Cnt w lb gb c A gs fb fi) (hk : Kp S w w') (h1 : S lb) (h2 : S gb) : Cnt w' lb gb c A gs fb fi := h.keep (hk _ h1) (hk _ h2)
theorem Cnt.lt (h : Cnt w lb gb c A gs fb fi) : lb < w.heap.size ∧ gb < w.heap.size := by
  obtain ⟨rest, hr⟩ := h.row
  exact ⟨row_lt h.box, row_lt hr⟩
theorem Cnt.below (h : Cnt w lb gb c A gs fb fi) (hb : Below w.heap.size w w') : Cnt w' lb gb c A gs fb fi := h.keep (hb.block _ h.lt.1) (hb.block _ h.lt.2)
theorem Cnt.drewN (h : Cnt w lb gb c A gs fb fi) (n : Nat) : Cnt (w.drewN n) lb gb c A gs fb fi := h.keep rfl rfl
theorem Cnt.ne (h : Cnt w lb gb c A gs fb fi) : lb ≠ gb := fun e => by
  obtain ⟨rest, hr⟩ := h.row
  have := h.box
  rw [e, hr] at this
  injection this with this
  injection this with h1 h2
  cases h2
/-- its cells -/
theorem Cnt.cs (h : Cnt w lb gb c A gs fb fi) : w.cell? ⟨lb, 0, none⟩ = some (.int .i64 A.b) ∧ w.cell? ⟨lb, 1, none⟩ = some (.int .i64 A.p) ∧ w.cell? ⟨lb, 2, none⟩ = some (.int .i64 A.n) ∧ w.cell? ⟨lb, 3, none⟩ = some (.int .i64 A.j) ∧
    w.cell? ⟨lb, 4, none⟩ = some (.int .i64 fb) ∧ w.cell? ⟨lb, 5, none⟩ = some (.int .i64 fi) ∧ w.cell? ⟨lb, 6, none⟩ = some (.int .i64 A.oo) ∧ w.cell? ⟨lb, 7, none⟩ = some (.int .i64 A.mo) ∧ w.cell? ⟨lb, 8, none⟩ = some (.bool A.cl) ∧ w.cell? ⟨lb, 9, none⟩ = some (.slice (some ⟨gb, 0, none⟩) gs.length c) := by
  have hb := h.box
  refine ⟨?_, ?_, ?_, ?_, ?_, ?_, ?_, ?_, ?_, ?_⟩ <;> (rw [row_cell hb]; rfl)
theorem Cnt.gr (h : Cnt w lb gb c A gs fb fi) {i : Nat} (hi : i < gs.length) : w.cell? ⟨gb, i * 3, none⟩ = some (.int .i64 gs[i].fb) ∧ w.cell? ⟨gb, i * 3 + 1, none⟩ = some (.int .i64 gs[i].fi) ∧ w.cell? ⟨gb, i * 3 + 2, none⟩ = some (.int .i64 gs[i].dirs) := by
  obtain ⟨rest, hr⟩ := h.row
  obtain ⟨h1, h2, h3⟩ := cells_get gs i hi
  have hl := cells_len gs
  refine ⟨?_, ?_, ?_⟩
  · rw [row_cell hr, List.getElem?_toArray, List.getElem?_append_left (by omega)]; exact h1
  · rw [row_cell hr, List.getElem?_toArray, List.getElem?_append_left (by omega)]; exact h2
  · rw [row_cell hr, List.getElem?_toArray, List.getElem?_append_left (by omega)]; exact h3
end
section
variable {w : World} {A : Al} {lb gb c : Nat} {gs : List Grp} {fb fi : Int}
/-- the cells of a ledger's box -/
def ccells (gb m c : Nat) (A : Al) (fb fi : Int) : List Value := [.int .i64 A.b, .int .i64 A.p, .int .i64 A.n, .int .i64 A.j, .int .i64 fb, .int .i64 fi, .int .i64 A.oo, .int .i64 A.mo, .bool A.cl, .slice (some ⟨gb, 0, none⟩) m c]
theorem set_at {l : List Value} {k : Nat} {v : Value} (j : Nat) (h : k ≠ j) : (l.set k v)[j]? = l[j]? := by rw [List.getElem?_set_ne h]
set_option maxHeartbeats 4000000 in
set_option maxRecDepth 20000 in
theorem add_cnt (hL : Cnt w lb gb c A gs fb fi) {i : Nat} (hi : i < gs.length) (_hg : gs.length ≤ 14) (d0 d1 d2 y0 y1 y2 y3 y4 : Int) (e0 : gs[i].fb + d0 = y0) (e1 : gs[i].fi + d1 = y1) (e2 : gs[i].dirs + d2 = y2) (e3 : fb + d0 = y3) (e4 : fi + d1 = y4)
    (h0 : Fits y0) (h1 : Fits y1) (h2 : Fits y2) (h3 : Fits y3) (h4 : Fits y4) :
    Calls Tryz.prog 92 #[.pointer (some ⟨lb, 0, none⟩), .int .i64 (i : Int), .agg #[.int .i64 d0, .int .i64 d1, .int .i64 d2]] w fun e w' =>
      e = .returned (.tuple #[]) ∧ Cnt w' lb gb c A (gs.set i ⟨y0, y1, y2⟩) y3 y4 ∧ Ext (fun q => q = lb ∨ q = gb) w w' := by
  obtain ⟨rest, hr⟩ := hL.row
  have hbx : RowV w lb 118 (ccells gb gs.length c A fb fi) := hL.box
  have hrw : RowV w gb 87 (cells gs ++ rest) := hr
  obtain ⟨q0, q1, q2⟩ := cells_get gs i hi
  have hcl := cells_len gs
  have k0 : (cells gs ++ rest)[i * 3]? = some (.int .i64 gs[i].fb) := by rw [List.getElem?_append_left (by omega)]; exact q0
  have k1 : (cells gs ++ rest)[i * 3 + 1]? = some (.int .i64 gs[i].fi) := by rw [List.getElem?_append_left (by omega)]; exact q1
  have k2 : (cells gs ++ rest)[i * 3 + 2]? = some (.int .i64 gs[i].dirs) := by rw [List.getElem?_append_left (by omega)]; exact q2
  have hne := hL.ne
  have hlt := hL.lt
  have hset : (((cells gs ++ rest).set (i * 3) (.int .i64 y0)).set (i * 3 + 1) (.int .i64 y1)).set (i * 3 + 2) (.int .i64 y2) = cells (gs.set i ⟨y0, y1, y2⟩) ++ rest := by
    rw [cells_set gs i ⟨y0, y1, y2⟩ hi, List.set_append_left _ _ (by omega), List.set_append_left _ _ (by simp; omega), List.set_append_left _ _ (by simp; omega)]
  have w0 : IntKind.i64.wrap (gs[i].fb + d0) = y0 := by rw [e0]; exact IntWalk.i64_in _ h0
  have w1 : IntKind.i64.wrap (gs[i].fi + d1) = y1 := by rw [e1]; exact IntWalk.i64_in _ h1
  have w2 : IntKind.i64.wrap (gs[i].dirs + d2) = y2 := by rw [e2]; exact IntWalk.i64_in _ h2
  have w3 : IntKind.i64.wrap (fb + d0) = y3 := by rw [e3]; exact IntWalk.i64_in _ h3
  have w4 : IntKind.i64.wrap (fi + d1) = y4 := by rw [e4]; exact IntWalk.i64_in _ h4
  generalize gs[i].fb = x0 at *
  generalize gs[i].fi = x1 at *
  generalize gs[i].dirs = x2 at *
  have HSET := Lib.hid hset
  obtain ⟨m, hm⟩ : ∃ m, gs.length = m := ⟨_, rfl⟩
  have HM := Lib.hid hm
  rw [hm] at hi hbx _hg
  generalize hcs : cells gs ++ rest = cs at *
  clear hset hcs hr hL q0 q1 q2 hcl hm e0 e1 e2 e3 e4 h0 h1 h2 h3 h4
  have hb0 := (Below.refl w.heap.size w).alloc (Nat.le_refl _) (.cells #[.int .i64 d0, .int .i64 d1, .int .i64 d2] 87)
  have r0 := rowV_new w [.int .i64 d0, .int .i64 d1, .int .i64 d2] 87
  have r1 := hbx.alloc (.cells #[.int .i64 d0, .int .i64 d1, .int .i64 d2] 87)
  have r2 := hrw.alloc (.cells #[.int .i64 d0, .int .i64 d1, .int .i64 d2] 87)
  have a10 := rowc r1 9 rfl
  have HE0 := Lib.hid (Ext.of_below hb0 (fun q => q = lb ∨ q = gb))
  have HS0 : Hid (lb < w.heap.size ∧ gb < w.heap.size ∧ lb ≠ gb) := Lib.hid ⟨hlt.1, hlt.2, hne⟩
  have n1 : w.heap.size ≠ gb := by omega
  have n2 : w.heap.size ≠ lb := by omega
  go_enter Tryz.func92, Tryz.ntmps92
  go_wp2_with fail
  have hq : w.heap.size = w.heap.size := rfl
  generalize hW0 : w.alloc (.cells #[.int .i64 d0, .int .i64 d1, .int .i64 d2] 87) = W0 at *
  generalize w.heap.size = q at *
  clear hW0 a10
  have HE := HE0.out
  have b0 := rowc r0 0 rfl
  have g0 := rowc r2 (i * 3) k0
  have gf0 := r2.free
  have R0 := Lib.hid r0
  have R1 := Lib.hid r1
  have R2 := Lib.hid r2
  have HE0 := Lib.hid HE
  clear r0 r1 r2 HE
  go_region
  have r0 := (rowV_far R0.out ⟨gb, i * 3, none⟩ (.int .i64 y0) (by simp; omega)).drewN 1
  have r1 := (rowV_far R1.out ⟨gb, i * 3, none⟩ (.int .i64 y0) (by simp; omega)).drewN 1
  have r2 := (R2.out.set (i * 3) (.int .i64 y0)).drewN 1
  have HE := (HE0.out.setCell (p := ⟨gb, i * 3, none⟩) (.inl (by simp)) (.int .i64 y0)).drewN 1
  clear b0 g0 gf0 R0 R1 R2
  generalize hW : (W0.setCell ⟨gb, i * 3, none⟩ (.int .i64 y0)).drew = W1 at *
  rw [show (W0.setCell ⟨gb, i * 3, none⟩ (.int .i64 y0)).drewN 1 = (W0.setCell ⟨gb, i * 3, none⟩ (.int .i64 y0)).drew from rfl, hW] at r0 r1 r2 HE
  clear hW
  have b1 := rowc r0 1 rfl
  have g1 := rowc r2 (i * 3 + 1) (set_at _ (by omega) |>.trans k1)
  have gf1 := r2.free
  have R0 := Lib.hid r0
  have R1 := Lib.hid r1
  have R2 := Lib.hid r2
  have HE1 := Lib.hid HE
  clear r0 r1 r2 HE
  go_wp2_with fail
  go_region
  have r0 := (rowV_far R0.out ⟨gb, i * 3 + 1, none⟩ (.int .i64 y1) (by simp; omega)).drewN 1
  have r1 := (rowV_far R1.out ⟨gb, i * 3 + 1, none⟩ (.int .i64 y1) (by simp; omega)).drewN 1
  have r2 := (R2.out.set (i * 3 + 1) (.int .i64 y1)).drewN 1
  have HE := (HE1.out.setCell (p := ⟨gb, i * 3 + 1, none⟩) (.inl (by simp)) (.int .i64 y1)).drewN 1
  clear b1 g1 gf1 R0 R1 R2
  generalize hW : (W1.setCell ⟨gb, i * 3 + 1, none⟩ (.int .i64 y1)).drew = W2 at *
  rw [show (W1.setCell ⟨gb, i * 3 + 1, none⟩ (.int .i64 y1)).drewN 1 = (W1.setCell ⟨gb, i * 3 + 1, none⟩ (.int .i64 y1)).drew from rfl, hW] at r0 r1 r2 HE
  clear hW
  have b2 := rowc r0 2 rfl
  have g2 := rowc r2 (i * 3 + 2) (set_at _ (by omega) |>.trans (set_at _ (by omega) |>.trans k2))
  have gf2 := r2.free
  have R0 := Lib.hid r0
  have R1 := Lib.hid r1
  have R2 := Lib.hid r2
  have HE2 := Lib.hid HE
  clear r0 r1 r2 HE
  go_wp2_with fail
  go_region
  have r0 := (rowV_far R0.out ⟨gb, i * 3 + 2, none⟩ (.int .i64 y2) (by simp; omega)).drewN 1
  have r1 := (rowV_far R1.out ⟨gb, i * 3 + 2, none⟩ (.int .i64 y2) (by simp; omega)).drewN 1
  have r2 := (R2.out.set (i * 3 + 2) (.int .i64 y2)).drewN 1
  have HE := (HE2.out.setCell (p := ⟨gb, i * 3 + 2, none⟩) (.inl (by simp)) (.int .i64 y2)).drewN 1
  clear b2 g2 gf2 R0 R1 R2
  generalize hW : (W2.setCell ⟨gb, i * 3 + 2, none⟩ (.int .i64 y2)).drew = W3 at *
  rw [show (W2.setCell ⟨gb, i * 3 + 2, none⟩ (.int .i64 y2)).drewN 1 = (W2.setCell ⟨gb, i * 3 + 2, none⟩ (.int .i64 y2)).drew from rfl, hW] at r0 r1 r2 HE
  clear hW
  have b3 := rowc r0 0 rfl
  have g3 := rowc r1 (4) rfl
  have gf3 := r1.free
  have R0 := Lib.hid r0
  have R1 := Lib.hid r1
  have R2 := Lib.hid r2
  have HE3 := Lib.hid HE
  clear r0 r1 r2 HE
  go_wp2_with fail
  go_region
  have r0 := (rowV_far R0.out ⟨lb, 4, none⟩ (.int .i64 y3) (by simp; omega)).drewN 1
  have r2 := (rowV_far R2.out ⟨lb, 4, none⟩ (.int .i64 y3) (by simp; omega)).drewN 1
  have r1 := (R1.out.set 4 (.int .i64 y3)).drewN 1
  have HE := (HE3.out.setCell (p := ⟨lb, 4, none⟩) (.inl (by simp)) (.int .i64 y3)).drewN 1
  clear b3 g3 gf3 R0 R1 R2
  generalize hW : (W3.setCell ⟨lb, 4, none⟩ (.int .i64 y3)).drew = W4 at *
  rw [show (W3.setCell ⟨lb, 4, none⟩ (.int .i64 y3)).drewN 1 = (W3.setCell ⟨lb, 4, none⟩ (.int .i64 y3)).drew from rfl, hW] at r0 r1 r2 HE
  clear hW
  have b4 := rowc r0 1 rfl
  have g4 := rowc r1 (5) rfl
  have gf4 := r1.free
  have R0 := Lib.hid r0
  have R1 := Lib.hid r1
  have R2 := Lib.hid r2
  have HE4 := Lib.hid HE
  clear r0 r1 r2 HE
  go_wp2_with fail
  go_region
  have r0 := (rowV_far R0.out ⟨lb, 5, none⟩ (.int .i64 y4) (by simp; omega)).drewN 1
  have r2 := (rowV_far R2.out ⟨lb, 5, none⟩ (.int .i64 y4) (by simp; omega)).drewN 1
  have r1 := (R1.out.set 5 (.int .i64 y4)).drewN 1
  have HE := (HE4.out.setCell (p := ⟨lb, 5, none⟩) (.inl (by simp)) (.int .i64 y4)).drewN 1
  clear b4 g4 gf4 R0 R1 R2
  generalize hW : (W4.setCell ⟨lb, 5, none⟩ (.int .i64 y4)).drew = W5 at *
  rw [show (W4.setCell ⟨lb, 5, none⟩ (.int .i64 y4)).drewN 1 = (W4.setCell ⟨lb, 5, none⟩ (.int .i64 y4)).drew from rfl, hW] at r0 r1 r2 HE
  clear hW
  go_wp2
  refine bodyPost_end (results_none rfl _ _ _) rfl ?_
  refine ⟨rfl, ⟨?_, rest, ?_⟩, HE⟩
  · rw [List.length_set, HM.out]
    exact r1
  · rw [HSET.out] at r2
    exact r2
set_option maxHeartbeats 2000000 in
set_option maxRecDepth 20000 in
theorem pack_cnt (hL : Cnt w lb gb c A gs fb fi) (hT : Tab w) (hg : grpMay gs = true) (hm : supMay A.b A.p A.n A.j fb fi A.oo A.mo = true) :
    Calls Tryz.prog 93 #[.pointer (some ⟨lb, 0, none⟩)] w fun e w' => ∃ gw g1 g0, e = .returned (.tuple #[.slice (some ⟨gw, 0, none⟩) 2 2, .int .i64 0]) ∧ w.heap.size ≤ gw ∧ w.heap.size ≤ g1 ∧ w.heap.size ≤ g0 ∧
      RowV w' gw 99 [.int .i64 1, .slice (some ⟨g1, 0, none⟩) 256 256, .int .i64 0, .slice (some ⟨g0, 0, none⟩) 256 256] ∧ Row w' g1 (grpBytes gs) [] ∧ Row w' g0 (supBytes A.b A.p A.n A.j fb fi A.oo A.mo A.cl) [] ∧ Below w.heap.size w w' := by
  have hG : Grps w w.heap.size (some ⟨gb, 0, none⟩) gs := fun k hk => by
    obtain ⟨h1, h2, h3⟩ := hL.gr hk
    have e : ∀ j, (⟨gb, 0, none⟩ : Addr).add j = ⟨gb, j, none⟩ := fun j => by unfold Addr.add; split <;> simp_all
    exact ⟨_, rfl, hL.lt.2, by rw [e]; exact h1, by rw [e]; exact h2, by rw [e]; exact h3⟩
  have HP := Lib.hid (PackGroups_any gs w.heap.size (some ⟨gb, 0, none⟩) c w (Nat.le_refl _) hG hT)
  obtain ⟨c0, c1, c2, c3, c4, c5, c6, c7, c8, c9⟩ := hL.cs
  have HL := Lib.hid hL
  have HM := Lib.hid (And.intro hg hm)
  have HT := Lib.hid hT
  clear hL hG hg hm hT
  go_enter Tryz.func93, Tryz.ntmps93
  go_wp2_with fail
  refine HP.out.mono ?_
  rintro e w1 ⟨hy, _, hb1⟩
  obtain ⟨g1, rfl, hg1, hR1⟩ := hy HM.out.1
  have HB1 := Lib.hid hb1
  have HR1 := Lib.hid hR1
  obtain ⟨c0, c1, c2, c3, c4, c5, c6, c7, c8, c9⟩ := (HL.out.below hb1).cs
  clear hy hR1 hb1
  go_wp2_with fail
  refine (PackSuper_yes A.b A.p A.n A.j fb fi A.oo A.mo A.cl w1 HM.out.2 (Tab.below HT.out HB1.out (Tab.lt HT.out))).mono ?_
  rintro e w2 ⟨g0, rfl, hg0, hR0, hb2⟩
  have HB2 := Lib.hid (below_up HB1.out hb2 HB1.out.size)
  have HR2 : Hid (Row w2 g1 (grpBytes gs) []) := Lib.hid (row_below HR1.out hb2 HR1.out.lt)
  have HR0 := Lib.hid hR0
  clear hb2 hR0
  go_wp2
  go_ret2
  have hs1 := HB1.out.size
  have hs2 := HB2.out.size
  exact ⟨w2.heap.size, g1, g0, rfl, hs2, hg1, by omega, rowV_new _ _ _, row_alloc HR2.out _, row_alloc HR0.out _, HB2.out.alloc hs2 _⟩
end
end Go.Proofs.YtgkindoidmglnaaGreatDoor.ACnt
/- The allocator: what a round of emptyDisk does: a group's writes, its counts. -/
namespace Go.Proofs.YtgkindoidmglnaaGreatDoor.AMake3
open Go.RowKit WMem WPlain WAppend WCrc WSeal TPlain TBits TSet TTurn TFace TTurnF GPlain GGeo GGeo2 GFace Ext Map DPlain DMem Mk DRead DPend DWrite EPlain EMem EFace EWrites EAny SPlain QPlain QMem APlain AMem AGeo AOpen ATurn ATake ACnt AMake1 AEmpty AMake2

/-- counts are turned, and new memory comes -/
theorem WrIn.ext {w wr w' : World} {P : List (Nat × Bk)} {v : Value} {ys : List Value} {lb gb : Nat} {c1 c2 : Array Value} (h : WrIn w wr P v ys) (he : Ext (fun q => q = lb ∨ q = gb) wr w') (hl : w.heap.size ≤ lb) (hg : w.heap.size ≤ gb)
    (h1 : wr.heap[lb]? = some (.cells c1 118 (0, 0))) (h2 : wr.heap[gb]? = some (.cells c2 87 (0, 0))) : WrIn w w' P v ys := by
  have s1 := he.size
  have s2 := h.below.size
  refine ⟨own_same h.own (fun q hq => he.block q (own_lt h.own q hq) ?_), (h.each.keep (fun q o' hq hq' => he.block q (row_lt hq') ?_)).more (fun q hq => ⟨hq.1, Nat.lt_of_lt_of_le hq.2 s1⟩), h.below.trans (he.below s2 ?_)⟩
  · rintro (rfl | rfl)
    · exact own_ne h.own h1 (by decide) hq
    · exact own_ne h.own h2 (by decide) hq
  · rintro (rfl | rfl)
    · rw [h1] at hq'
      injection hq' with hq'
      injection hq' with _ ht
      cases ht
    · rw [h2] at hq'
      injection hq' with hq'
      injection hq' with _ ht
      cases ht
  · rintro q (rfl | rfl)
    · exact hl
    · exact hg
theorem WrIn.under {w wr w' : World} {P : List (Nat × Bk)} {v : Value} {ys : List Value} (h : WrIn w wr P v ys) (hb : Below wr.heap.size wr w') : WrIn w w' P v ys := by
  have s1 := hb.size
  have s2 := h.below.size
  exact ⟨own_same h.own (fun q hq => hb.block q (own_lt h.own q hq)), (h.each.keep (fun q o' _ hq' => hb.block q (row_lt hq'))).more (fun q hq => ⟨hq.1, Nat.lt_of_lt_of_le hq.2 s1⟩), h.below.trans (hb.mono s2)⟩
/-- the cells of a row of one's own -/
theorem news_own {w : World} {base : Nat} {e : TypeId} {size n : Nat} {v : Value} {zs : List Value} (h : w.ownsRow base e size v n zs) (hn : 0 < n) :
    ∃ g c, v = .slice (some ⟨g, 0, none⟩) n c ∧ ∀ j u, zs[j]? = some u → w.cell? ((⟨g, 0, none⟩ : Addr).add j) = some u := by
  rcases h.2 with ⟨_, h0⟩ | ⟨g, cap, cur, rfl, _, hg, _, _, _, ht⟩
  · omega
  · refine ⟨g, cap, rfl, fun j u hj => World.news_of_block hg j u ?_⟩
    rw [← ht, List.getElem?_take] at hj
    split at hj
    · exact hj
    · cases hj
theorem POf.one {w : World} {S : Nat → Prop} {ys : List Value} {P : List (Nat × Bk)} (h : POf w S ys P) : ∀ u ∈ ys, u.oneCell' = true := by
  intro u hu
  obtain ⟨j, hj, rfl⟩ := List.getElem_of_mem hu
  have hl := h.1
  obtain ⟨x, h1, h2, g, c, r, h3, _⟩ := h.2 (j / 2) (by omega)
  rcases (show j = j / 2 * 2 ∨ j = j / 2 * 2 + 1 by omega) with e | e
  · rw [← e, List.getElem?_eq_getElem hj] at h1
    injection h1 with h1
    rw [h1]
    rfl
  · rw [← e, List.getElem?_eq_getElem hj] at h2
    injection h2 with h2
    rw [h2, h3]
    rfl
theorem Cnt.grown {w w' : World} {lb gb c : Nat} {A : Al} {gs : List Grp} {fb fi : Int} {base n : Nat} {v : Value} {ys : List Value} (h : Cnt w lb gb c A gs fb fi) (ho : w.ownsRow base 99 2 v n ys) (hg : w.grownBy w' v.ownBlock) : Cnt w' lb gb c A gs fb fi := by
  obtain ⟨rest, hr⟩ := h.row
  exact h.keep (hg.block _ h.lt.1 fun e => own_ne ho h.box (by decide) e.symm) (hg.block _ h.lt.2 fun e => own_ne ho hr (by decide) e.symm)
theorem gw_len (A : Al) (k : Nat) (h : A.at_ k + A.own k ≤ 4096) : 0 < (gw A k).length ∧ (gw A k).length ≤ 4098 := by
  unfold gw
  rw [grpW_len]
  omega
theorem allW_len (A : Al) : ∀ k, (∀ i, i < k → A.at_ i + A.own i ≤ 4096) → (allW A k).length ≤ k * 4098
  | 0, _ => by simp [allW]
  | k + 1, h => by
    rw [allW_next, List.length_append]
    have := allW_len A k fun i hi => h i (by omega)
    have := (gw_len A k (h k (by omega))).2
    omega
theorem at_own {A : Al} (hM : May A.b A.p A.n A.j) {i : Nat} (hi : i < A.ng) : A.at_ i + A.own i ≤ 4096 := by
  have g := geo hM hi
  have := g.a6
  have := g.a8
  have := hM.b1
  omega
section
variable {A : Al} {k x0 x1 x2 x3 x4 x5 N : Nat}
theorem gw_l (hE : A = empty A.b A.p A.n A.j) (hp : PL A k x0 x1 x2 x3 x4 x5 N) (hM : May A.b A.p A.n A.j) (hk : k < A.ng) (w : World) (hT : Tab w) :
    Calls Tryz.prog 91 #[.agg #[.int .i64 A.b, .int .i64 A.p, .int .i64 A.n, .int .i64 A.j], .agg #[.int .i64 x0, .int .i64 x1, .int .i64 x2, .int .i64 x3, .int .i64 x4, .int .i64 x5]] w fun e w' => ∃ v ys, e = .returned (.tuple #[v, .int .i64 0]) ∧ WrIn w w' (gw A k) v ys := by
  obtain ⟨n, hn⟩ := Int.eq_ofNat_of_zero_le (show 0 ≤ A.n by have := hM.n0; omega)
  have h := emptyGroup_any hp hM hk hn rfl w hT
  have e : grpW x2 x3 x4 (x5 - x4) (turnL (newB N x2) (0 : Nat) (A.own k : Nat) x2) (newB n x3) = gw A k := by
    have hb : A.bm k = turnL (newB (A.size k) (A.bat k)) (0 : Nat) (A.own k : Nat) (A.bat k) := congrArg (fun a => Al.bm a k) hE
    have hi : A.im k = newB A.n.toNat (A.bat k + 1) := congrArg (fun a => Al.im a k) hE
    have hnn : A.n.toNat = n := by omega
    obtain ⟨rfl, rfl, rfl, rfl, rfl, rfl, rfl⟩ := hp
    unfold gw
    rw [hb, hi, hnn]
  rw [e, ← hn] at h
  exact h
theorem grp_is (hE : A = empty A.b A.p A.n A.j) (hM : May A.b A.p A.n A.j) (hk : k < A.ng) : ((TBits.zeros (A.bm k) : Nat) : Int) = (A.at_ k + A.size k : Nat) - (A.at_ k + A.own k : Nat) ∧ ((TBits.zeros (A.im k) : Nat) : Int) = A.n ∧ A.dirs k = 0 := by
  have h1 : TBits.zeros (A.bm k) = A.size k - A.own k := by
    have h := empty_bz hM (i := k) (by rw [← hE]; exact hk)
    rw [← hE] at h
    exact h
  have h2 : (TBits.zeros (A.im k) : Int) = A.n := by
    have h := empty_iz hM k
    rw [← hE] at h
    exact h
  have h3 : A.dirs k = 0 := congrArg (fun a => Al.dirs a k) hE
  have g := (geo hM hk).a6
  exact ⟨by rw [h1]; omega, h2, h3⟩
theorem fine_of (hE : A = empty A.b A.p A.n A.j) (hM : May A.b A.p A.n A.j) : A.Fine := by
  have h := empty_fine hM
  rw [← hE] at h
  exact h
theorem sumTo_mono (f : Nat → Nat) {a c : Nat} (h : a ≤ c) : sumTo f a ≤ sumTo f c := by
  obtain ⟨d, rfl⟩ := Nat.exists_eq_add_of_le h
  induction d with
  | zero => exact Nat.le_refl _
  | succ d ih => exact Nat.le_trans (ih (by omega)) (Nat.le_add_right ..)
theorem k_le (hF : A.Fine) (hk : k ≤ A.ng) : (fbK A k : Int) ≤ 4096 ∧ (fiK A k : Int) ≤ 2147483647 := by
  have h1 := fb_le hF
  have h2 := fi_le hF
  have h3 : fbK A k ≤ A.fb := sumTo_mono _ hk
  have h4 : fiK A k ≤ A.fi := sumTo_mono _ hk
  have hm := may_iff.2 hF.may
  have h6 := hF.may.b1
  have hg0 := hF.may.g0
  have hj0 := hF.may.j0
  have hm1 : 0 ≤ gN A.b A.p * (2 + A.n / 2) := Int.mul_nonneg (by omega) (by have := hF.may.n0; omega)
  rw [fixedI_yes hm] at h1
  have hg1 := hF.may.g1
  have hn1 := hF.may.n1
  have hn0 := hF.may.n0
  have h10 : gN A.b A.p * A.n ≤ 14 * 2016 := Int.mul_le_mul (by omega) (by omega) (by omega) (by omega)
  omega
theorem add_l {w : World} {lb gb c : Nat} (hE : A = empty A.b A.p A.n A.j) (hM : May A.b A.p A.n A.j) (hk : k < A.ng) (hL : Cnt w lb gb c A (gsK A k) (fbK A k) (fiK A k)) (d : Int) (hd : d = (A.at_ k + A.size k : Nat) - (A.at_ k + A.own k : Nat)) :
    Calls Tryz.prog 92 #[.pointer (some ⟨lb, 0, none⟩), .int .i64 (k : Int), .agg #[.int .i64 d, .int .i64 A.n, .int .i64 0]] w fun e w' =>
      e = .returned (.tuple #[]) ∧ Cnt w' lb gb c A (gsK A (k + 1)) (fbK A (k + 1)) (fiK A (k + 1)) ∧ Ext (fun q => q = lb ∨ q = gb) w w' := by
  obtain ⟨g1, g2, g3⟩ := grp_is hE hM hk
  have hF := fine_of hE hM
  have h1 := ng_le hM
  obtain ⟨b1, b2⟩ := k_le hF (k := k + 1) hk
  have hk' : k < (gsK A k).length := by rw [gsK_len]; exact hk
  have hz : (gsK A k)[k] = ⟨0, 0, 0⟩ := by rw [gsK_get, if_neg (Nat.lt_irrefl _)]
  have e1 : (fbK A (k + 1) : Int) = fbK A k + TBits.zeros (A.bm k) := by simp only [fbK, sumTo]; omega
  have e2 : (fiK A (k + 1) : Int) = fiK A k + TBits.zeros (A.im k) := by simp only [fiK, sumTo]; omega
  have hn1 := hM.n1
  have hn0 := hM.n0
  have h := add_cnt hL hk' (by rw [gsK_len]; exact h1.2) d A.n 0 d A.n 0 (fbK A (k + 1)) (fiK A (k + 1)) (by rw [hz]; exact Int.zero_add d) (by rw [hz]; exact Int.zero_add A.n) (by rw [hz]; rfl) (by rw [e1]; omega) (by rw [e2]; omega)
    (by unfold Fits; omega) (by unfold Fits; omega) (by unfold Fits; omega) (by unfold Fits; omega) (by unfold Fits; omega)
  have e3 : (⟨d, A.n, 0⟩ : Grp) = A.grp k := by unfold Al.grp; rw [g2, g3, hd, g1]
  rw [e3, ← gsK_next] at h
  exact h
end
end Go.Proofs.YtgkindoidmglnaaGreatDoor.AMake3
/- The allocator: what is written of an empty disk (emptyDisk). -/
namespace Go.Proofs.YtgkindoidmglnaaGreatDoor.AMake4
open Go.RowKit WMem WPlain WAppend WCrc WSeal TPlain TBits TSet TTurn TFace TTurnF GPlain GGeo GGeo2 GFace Ext Map DPlain DMem Mk DRead DPend DWrite EPlain EMem EFace EWrites EAny SPlain QPlain QMem APlain AMem AGeo AOpen ATurn ATake ACnt AMake1 AEmpty AMake2 AMake3

theorem cnt_new {W : World} {lb gb N : Nat} {A : Al} (hE : A = empty A.b A.p A.n A.j) (hN : A.ng = N)
    (h0 : W.heap[lb]? = some (.cells #[.int .i64 A.b, .int .i64 A.p, .int .i64 A.n, .int .i64 A.j, .int .i64 0, .int .i64 0, .int .i64 0, .int .i64 0, .bool false, .slice (some ⟨gb, 0, none⟩) N N] 118 (0, 0)))
    (hg : W.heap[gb]? = some (.cells (cells (List.replicate N ⟨0, 0, 0⟩)).toArray 87 (0, 0))) : Cnt W lb gb N A (gsK A 0) 0 0 := by
  have ho : A.oo = 0 := congrArg Al.oo hE
  have hm : A.mo = 0 := congrArg Al.mo hE
  have hc : A.cl = false := congrArg Al.cl hE
  have hgs : gsK A 0 = List.replicate N ⟨0, 0, 0⟩ := by rw [gsK_zero, hN]
  refine ⟨?_, [], ?_⟩
  · rw [ho, hm, hc, hgs, List.length_replicate]
    exact h0
  · rw [hgs, List.append_nil]
    exact hg
theorem made_one {w1 : World} {N : Nat} {A : Al} (hE : A = empty A.b A.p A.n A.j) (hN : A.ng = N) : ∃ lb gb : Nat, Value.pointer (some ⟨w1.heap.size + 1, 0, none⟩) = .pointer (some ⟨lb, 0, none⟩) ∧ Hid (w1.heap.size ≤ lb ∧ w1.heap.size ≤ gb ∧
    Cnt ((w1.alloc (.cells (cells (List.replicate N ⟨0, 0, 0⟩)).toArray 87)).alloc (.cells #[.int .i64 A.b, .int .i64 A.p, .int .i64 A.n, .int .i64 A.j, .int .i64 0, .int .i64 0, .int .i64 0, .int .i64 0, .bool false, .slice (some ⟨w1.heap.size, 0, none⟩) N N] 118)).drew lb gb N A (gsK A 0) 0 0 ∧
    Below w1.heap.size w1 ((w1.alloc (.cells (cells (List.replicate N ⟨0, 0, 0⟩)).toArray 87)).alloc (.cells #[.int .i64 A.b, .int .i64 A.p, .int .i64 A.n, .int .i64 A.j, .int .i64 0, .int .i64 0, .int .i64 0, .int .i64 0, .bool false, .slice (some ⟨w1.heap.size, 0, none⟩) N N] 118)).drew) := by
  refine ⟨_, w1.heap.size, rfl, Lib.hid ⟨by omega, Nat.le_refl _, cnt_new hE hN ?_ ?_, below_drewN ((below_box _).alloc (by simp) _) 1⟩⟩
  · have h := row_new (w1.alloc (.cells (cells (List.replicate N ⟨0, 0, 0⟩)).toArray 87)) (.cells #[.int .i64 A.b, .int .i64 A.p, .int .i64 A.n, .int .i64 A.j, .int .i64 0, .int .i64 0, .int .i64 0, .int .i64 0, .bool false, .slice (some ⟨w1.heap.size, 0, none⟩) N N] 118)
    rw [World.size_alloc] at h
    exact h
  · exact row_alloc (row_new w1 _) _
theorem made_two {w1 : World} {N : Nat} {A : Al} (hE : A = empty A.b A.p A.n A.j) (hN : A.ng = N) : ∃ lb gb : Nat, Value.pointer (some ⟨w1.heap.size, 0, none⟩) = .pointer (some ⟨lb, 0, none⟩) ∧ Hid (w1.heap.size ≤ lb ∧ w1.heap.size ≤ gb ∧
    Cnt ((w1.alloc (.cells #[.int .i64 A.b, .int .i64 A.p, .int .i64 A.n, .int .i64 A.j, .int .i64 0, .int .i64 0, .int .i64 0, .int .i64 0, .bool false, .slice (some ⟨w1.heap.size + 1, 0, none⟩) N N] 118)).alloc (.cells (cells (List.replicate N ⟨0, 0, 0⟩)).toArray 87)).drew lb gb N A (gsK A 0) 0 0 ∧
    Below w1.heap.size w1 ((w1.alloc (.cells #[.int .i64 A.b, .int .i64 A.p, .int .i64 A.n, .int .i64 A.j, .int .i64 0, .int .i64 0, .int .i64 0, .int .i64 0, .bool false, .slice (some ⟨w1.heap.size + 1, 0, none⟩) N N] 118)).alloc (.cells (cells (List.replicate N ⟨0, 0, 0⟩)).toArray 87)).drew) := by
  refine ⟨_, w1.heap.size + 1, rfl, Lib.hid ⟨Nat.le_refl _, by omega, cnt_new hE hN ?_ ?_, below_drewN ((below_box _).alloc (by simp) _) 1⟩⟩
  · exact row_alloc (row_new w1 _) _
  · have h := row_new (w1.alloc (.cells #[.int .i64 A.b, .int .i64 A.p, .int .i64 A.n, .int .i64 A.j, .int .i64 0, .int .i64 0, .int .i64 0, .int .i64 0, .bool false, .slice (some ⟨w1.heap.size + 1, 0, none⟩) N N] 118)) (.cells (cells (List.replicate N ⟨0, 0, 0⟩)).toArray 87)
    rw [World.size_alloc] at h
    exact h
theorem two_in {wr W : World} {gw g1 g0 : Nat} {b1 b0 : Bk} (hb : Below wr.heap.size wr W) (h : RowV W gw 99 [.int .i64 1, .slice (some ⟨g1, 0, none⟩) 256 256, .int .i64 0, .slice (some ⟨g0, 0, none⟩) 256 256]) (h1 : Row W g1 b1 []) (h0 : Row W g0 b0 []) (l1 : b1.length = 256) (l0 : b0.length = 256)
    (p : wr.heap.size ≤ gw) (p1 : wr.heap.size ≤ g1) (p0 : wr.heap.size ≤ g0) : WrIn wr W [(1, b1), (0, b0)] (.slice (some ⟨gw, 0, none⟩) 2 2) [.int .i64 1, .slice (some ⟨g1, 0, none⟩) 256 256, .int .i64 0, .slice (some ⟨g0, 0, none⟩) 256 256] := by
  refine ⟨⟨rfl, .inr ⟨gw, 2, _, rfl, p, h, Nat.le_refl _, by decide, rfl, rfl⟩⟩, ⟨rfl, fun i hi => ?_⟩, hb⟩
  match i, hi with
  | 0, _ => exact ⟨_, rfl, rfl, g1, 256, [], rfl, ⟨p1, h1.lt⟩, l1, Nat.le_refl _, h1⟩
  | 1, _ => exact ⟨_, rfl, rfl, g0, 256, [], rfl, ⟨p0, h0.lt⟩, l0, Nat.le_refl _, h0⟩

set_option maxRecDepth 100000 in
set_option maxHeartbeats 4000000 in
theorem emptyDisk_any {A : Al} (hE : A = empty A.b A.p A.n A.j) (hM : May A.b A.p A.n A.j) (w : World) (hT : Tab w) :
    Calls Tryz.prog 45 #[.agg #[.int .i64 A.b, .int .i64 A.p, .int .i64 A.n, .int .i64 A.j]] w fun e w' => ∃ v ys, e = .returned (.tuple #[v, .int .i64 0]) ∧ WrIn w w' (allW A A.ng ++ [(1, A.grps), (0, A.sup)]) v ys := by
  obtain ⟨i0, hi0, hz0, hz1, hz2⟩ := info_parts infoW
  obtain ⟨N, hN⟩ : ∃ N, A.ng = N := ⟨_, rfl⟩
  have hng := ng_le hM
  have hgN : gN A.b A.p = (N : Int) := by rw [← ng_is hM, hN]
  have HGR : Hid (∀ W, Calls Tryz.prog 19 #[.agg #[.int .i64 A.b, .int .i64 A.p, .int .i64 A.n, .int .i64 A.j]] W fun e w' => e = .returned (.int .i64 (N : Int)) ∧ Below W.heap.size W w') := Lib.hid fun W => by
    have h := Groups_yes A.b A.p A.n A.j W (may_iff.2 hM)
    rw [hgN] at h
    exact h
  have hN14 : N ≤ 14 := by omega
  have hN1 : 1 ≤ N := by omega
  have HM := Lib.hid hM
  have HE := Lib.hid hE
  have HN := Lib.hid hN
  have HT := Lib.hid hT
  have HB0 := Lib.hid (below_box (w := w) (.cells #[.int .i64 A.b, .int .i64 A.p, .int .i64 A.n, .int .i64 A.j] 23))
  have r0 := rowV_new w [.int .i64 A.b, .int .i64 A.p, .int .i64 A.n, .int .i64 A.j] 23
  have HR0 := Lib.hid r0
  have y0 := rowc r0 0 rfl
  have y1 := rowc r0 1 rfl
  have y2 := rowc r0 2 rfl
  have y3 := rowc r0 3 rfl
  clear r0 hM hE hN hT hng hgN
  go_enter Tryz.func45, Tryz.ntmps45
  go_wp2_with fail
  refine (HGR.out _).mono ?_
  rintro e w1 ⟨rfl, hb1⟩
  have hl1 : w.heap.size < w1.heap.size := by have := hb1.size; simp at this; omega
  have HB1 : Hid (Below w.heap.size w w1) := Lib.hid (below_up HB0.out hb1 (by simp))
  have r1 := HR0.out.keep hb1 HR0.out.lt
  have HR1 := Lib.hid r1
  clear hb1 y0 y1 y2 y3
  have y0 := rowc r1 0 rfl
  have y1 := rowc r1 1 rfl
  have y2 := rowc r1 2 rfl
  have y3 := rowc r1 3 rfl
  clear r1
  have hmk := fun w => make_groups N hN14 w
  go_upto_region 3 with fail
  go_cut [6] (fun s6 wx => ∃ lb gb, s6 = .pointer (some ⟨lb, 0, none⟩) ∧ Hid (w1.heap.size ≤ lb ∧ w1.heap.size ≤ gb ∧ Cnt wx lb gb N A (gsK A 0) 0 0 ∧ Below w1.heap.size w1 wx))
  case first =>
    go_region
    all_goals
      go_wp2_with fail
      go_meet
      first | exact made_one HE.out HN.out | exact made_two HE.out HN.out
  case rest =>
    obtain ⟨lb, gb, rfl, HC⟩ := hcut
    have hlb : w.heap.size ≤ lb := by have := HC.out.1; omega
    have hgb : w.heap.size ≤ gb := by have := HC.out.2.1; omega
    have hlb2 : w.heap.size ≠ lb := by have := HC.out.1; omega
    have hgb2 : w.heap.size ≠ gb := by have := HC.out.2.1; omega
    have HLB := Lib.hid (And.intro hlb hgb)
    have HNE := Lib.hid (And.intro hlb2 hgb2)
    have HBC := Lib.hid (below_up HB1.out HC.out.2.2.2 HB1.out.size)
    have HRC : Hid (RowV wc w.heap.size 23 [.int .i64 A.b, .int .i64 A.p, .int .i64 A.n, .int .i64 A.j]) := Lib.hid (HR1.out.keep HC.out.2.2.2 HR1.out.lt)
    have HTW : Hid (∀ W, Below w.heap.size w W → Tab W) := Lib.hid fun W hb => Tab.below HT.out hb (Tab.lt HT.out)
    clear hlb hgb hlb2 hgb2 y0 y1 y2 y3 hmk HGR HB0 HR0 HR1
    go_wp2_with fail
    go_loopw [4, 21] (fun v i wr => ∃ (k : Nat) (ys : List Value), k ≤ N ∧ i = .int .i64 k ∧ Hid (WrIn w wr (allW A k) v ys ∧ Cnt wr lb gb N A (gsK A k) (fbK A k) (fiK A k) ∧ RowV wr w.heap.size 23 [.int .i64 A.b, .int .i64 A.p, .int .i64 A.n, .int .i64 A.j])) (fun _ i _ => N - (RowKit.intOf i).toNat)
    case atStart =>
      exact ⟨0, [], Nat.zero_le _, rfl, Lib.hid ⟨⟨World.ownsRow_nil _ _ _ _, ⟨rfl, fun i hi => (by simp [allW] at hi)⟩, HBC.out⟩, HC.out.2.2.1, HRC.out⟩⟩
    case round =>
      obtain ⟨k, ys, hk, rfl, HH⟩ := hrel
      by_cases hlt : k < N
      · have d1 : decide ((k : Int) < (N : Int)) = true := by simp; omega
        have HKA : Hid (k < A.ng) := Lib.hid (by rw [HN.out]; exact hlt)
        obtain ⟨x0, hx0⟩ : ∃ x, A.at_ k = x := ⟨_, rfl⟩
        obtain ⟨x1, hx1⟩ : ∃ x, A.at_ k + A.size k = x := ⟨_, rfl⟩
        obtain ⟨x2, hx2⟩ : ∃ x, A.bat k = x := ⟨_, rfl⟩
        obtain ⟨x3, hx3⟩ : ∃ x, A.bat k + 1 = x := ⟨_, rfl⟩
        obtain ⟨x4, hx4⟩ : ∃ x, A.bat k + 2 = x := ⟨_, rfl⟩
        obtain ⟨x5, hx5⟩ : ∃ x, A.at_ k + A.own k = x := ⟨_, rfl⟩
        obtain ⟨M, hM⟩ : ∃ x, A.size k = x := ⟨_, rfl⟩
        have HP : Hid (PL A k x0 x1 x2 x3 x4 x5 M) := Lib.hid ⟨hx0, hx1, hx2, hx3, hx4, hx5, hM⟩
        have b1 : x1 ≤ 4096 := by have := (geo HM.out HKA.out).a8; have := HM.out.b1; omega
        have b5 : x5 ≤ 4096 := by rw [← hx5]; exact at_own HM.out HKA.out
        obtain ⟨d, hd⟩ : ∃ d : Int, (x1 : Int) - (x5 : Int) = d := ⟨_, rfl⟩
        have HD : Hid (d = (A.at_ k + A.size k : Nat) - (A.at_ k + A.own k : Nat)) := Lib.hid (by rw [hx1, hx5, hd])
        have u1 : IntKind.i64.wrap ((x1 : Int) - (x5 : Int)) = d := by rw [IntWalk.i64_in _ ⟨by omega, by omega⟩]; exact hd
        have U1 := Lib.hid u1
        have r1 := HH.out.2.2
        have y0 := rowc r1 0 rfl
        have y1 := rowc r1 1 rfl
        have y2 := rowc r1 2 rfl
        have y3 := rowc r1 3 rfl
        have hl2 : w.heap.size < wr.heap.size := r1.lt
        clear hx0 hx1 hx2 hx3 hx4 hx5 hM r1 hd u1 b1 b5
        go_wp2_with fail
        refine (place_l HP.out HM.out HKA.out _).mono ?_
        rintro e W1 ⟨rfl, hb1⟩
        have hbp : Below wr.heap.size wr (W1.alloc (.cells #[.int .i64 x0, .int .i64 x1, .int .i64 x2, .int .i64 x3, .int .i64 x4, .int .i64 x5] 115)) := hb1.alloc hb1.size _
        have HBP := Lib.hid hbp
        have hs1 := hb1.size
        have r2 := rowV_new W1 [.int .i64 x0, .int .i64 x1, .int .i64 x2, .int .i64 x3, .int .i64 x4, .int .i64 x5] 115
        have r1 := HH.out.2.2.keep hbp HH.out.2.2.lt
        have HR2 := Lib.hid r2
        have hl3 : w.heap.size < W1.heap.size := by omega
        have HW1 := Lib.hid (WrIn.under HH.out.1 hbp)
        have HC1 := Lib.hid (HH.out.2.1.below hbp)
        have HG1 := Lib.hid r1
        clear y0 y1 y2 y3 hb1 hbp
        have y0 := rowc r1 0 rfl
        have y1 := rowc r1 1 rfl
        have y2 := rowc r1 2 rfl
        have y3 := rowc r1 3 rfl
        have z0 := rowc r2 0 rfl
        have z1 := rowc r2 1 rfl
        have z2 := rowc r2 2 rfl
        have z3 := rowc r2 3 rfl
        have z4 := rowc r2 4 rfl
        have z5 := rowc r2 5 rfl
        clear r1 r2
        go_wp2_with fail
        refine (gw_l HE.out HP.out HM.out HKA.out _ (HTW.out _ HW1.out.below)).mono ?_
        rintro e W2 ⟨u, zs, rfl, hw2⟩
        clear y0 y1 y2 y3 z0 z1 z2 z3 z4 z5
        generalize hV : W1.alloc (.cells #[.int .i64 x0, .int .i64 x1, .int .i64 x2, .int .i64 x3, .int .i64 x4, .int .i64 x5] 115) = V at *
        obtain ⟨m, hm⟩ : ∃ m, (gw A k).length = m := ⟨_, rfl⟩
        have hml := gw_len A k (at_own HM.out HKA.out)
        obtain ⟨K, hKl⟩ : ∃ K, (allW A k).length = K := ⟨_, rfl⟩
        have hKK : K ≤ k * 4098 := by rw [← hKl]; exact allW_len A k fun i hi => at_own HM.out (by have := HKA.out; omega)
        rw [hm] at hml
        have hou := hw2.own
        rw [hm] at hou
        have hzl : zs.length = m * 2 := by have := hou.1; omega
        obtain ⟨gu, cu, rfl, hnw⟩ := news_own hou hml.1
        have hov : V.ownsRow w.heap.size 99 2 u4 K ys := by rw [← hKl]; exact HW1.out.own
        have HOV := Lib.hid (own_same hov (w' := W2) (fun q hq => hw2.below.block q (own_lt hov q hq)))
        have HNW := Lib.hid hnw
        have HON := Lib.hid (POf.one hw2.each)
        have HZL := Lib.hid hzl
        have HW2 := Lib.hid hw2
        have HKL := Lib.hid hKl
        have HML := Lib.hid hm
        have HC2 := Lib.hid (HC1.out.below hw2.below)
        have HG2 := Lib.hid (HG1.out.keep hw2.below HG1.out.lt)
        have HR3 := Lib.hid (HR2.out.keep hw2.below HR2.out.lt)
        have hsV : w.heap.size ≤ V.heap.size := HW1.out.below.size
        have hsW : V.heap.size ≤ W2.heap.size := hw2.below.size
        have hbase : w.heap.size ≤ W2.heap.size := by omega
        have hkm : K + m ≤ 70000 := by omega
        clear hw2 hou hnw hov hzl hm hKl hV hml hKK
        go_wp2_with (at_builtin; go_must (refine wpList_append_own _ rfl _ _ 92 rfl w.heap.size 99 i0 _ 2 32 underW hi0 hz0 hz1 hz2 rfl (by decide) _ K ys rfl HOV.out ⟨gu, 0, none⟩ m cu zs rfl HZL.out HNW.out HON.out (by unfold maxLen; omega) (by omega) hbase ?_); intro v' w4 h3 h4 _
                     have HW4 := Lib.hid (WrIn.many HW1.out HW2.out (by rw [HKL.out, HML.out]; exact h3) h4)
                     have HC4 := Lib.hid (Cnt.grown HC2.out HOV.out h4)
                     have g4 := HG2.out.grown h4 (fun e => own_ne HOV.out HG2.out (by decide) e.symm)
                     have p4 := HR3.out.grown h4 (fun e => own_ne HOV.out HR3.out (by decide) e.symm)
                     have HG4 := Lib.hid g4
                     have y2 := rowc g4 2 rfl
                     have z1 := rowc p4 1 rfl
                     have z5 := rowc p4 5 rfl
                     have u1 := U1.out
                     clear h3 h4 g4 p4)
        refine (add_l HE.out HM.out HKA.out HC4.out d HD.out).mono ?_
        rintro e w5 ⟨rfl, hc5, he5⟩
        have HC5 := Lib.hid hc5
        have HE5 := Lib.hid he5
        clear hc5 he5 y2 z1 z5 u1
        go_wp2_with fail
        go_roundw
        case rel =>
          obtain ⟨rr, hrr⟩ := HC4.out.row
          have hNE := HNE.out
          exact ⟨k + 1, _, by omega, by go_num, Lib.hid ⟨by rw [allW_next]; exact WrIn.ext HW4.out HE5.out HLB.out.1 HLB.out.2 HC4.out.box hrr, HC5.out, (HE5.out.block w.heap.size HG4.out.lt (fun h => h.elim hNE.1 hNE.2)).trans HG4.out⟩⟩
        case measure => simp [RowKit.intOf]; omega
      · obtain rfl : k = N := by omega
        have d1 : decide ((k : Int) < (k : Int)) = false := by simp
        have hF := fine_of HE.out HM.out
        have hc := HH.out.2.1
        have hgs : gsK A k = A.gs := by rw [← HN.out]; exact gsK_end A
        have hfb : fbK A k = A.fb := by rw [← HN.out]; rfl
        have hfi : fiK A k = A.fi := by rw [← HN.out]; rfl
        rw [hgs, hfb, hfi] at hc
        have HCC := Lib.hid hc
        have HFF := Lib.hid hF
        clear hc hF hgs hfb hfi
        go_wp2_with fail
        refine (pack_cnt HCC.out (HTW.out _ HH.out.1.below) (fine_grp HFF.out) (fine_sup HFF.out)).mono ?_
        rintro e W2 ⟨gw, g1, g0, rfl, q0, q1, q2, hrow, h1, h0, hb2⟩
        obtain ⟨K, hKl⟩ : ∃ K, (allW A k).length = K := ⟨_, rfl⟩
        have hKK : K ≤ k * 4098 := by rw [← hKl]; exact allW_len A k fun i hi => at_own HM.out (by rw [HN.out]; exact hi)
        have hov : wr.ownsRow w.heap.size 99 2 u4 K ys := by rw [← hKl]; exact HH.out.1.own
        have HOV := Lib.hid (own_same hov (w' := W2) (fun q hq => hb2.block q (own_lt hov q hq)))
        have HW2 := Lib.hid (two_in hb2 hrow h1 h0 (grpBytes_len _ (grpMay_iff.1 (fine_grp HFF.out)).1.2) (supBytes_len ..) q0 q1 q2)
        have HNW := Lib.hid (World.news_of_block hrow)
        have HKL := Lib.hid hKl
        have hbase : w.heap.size ≤ W2.heap.size := by have := HH.out.1.below.size; have := hb2.size; omega
        have hkm : K + 2 ≤ 70000 := by omega
        clear hrow h1 h0 hb2 q0 q1 q2 hov hKl hKK
        go_wp2_with (at_builtin; go_must (refine wpList_append_own _ rfl _ _ 92 rfl w.heap.size 99 i0 _ 2 32 underW hi0 hz0 hz1 hz2 rfl (by decide) _ K ys rfl HOV.out ⟨gw, 0, none⟩ 2 2 [.int .i64 1, .slice (some ⟨g1, 0, none⟩) 256 256, .int .i64 0, .slice (some ⟨g0, 0, none⟩) 256 256] rfl rfl HNW.out (by simp [Value.oneCell']) (by unfold maxLen; omega) (by omega) hbase ?_); intro v' w4 h3 h4 _
                     have HW4 := Lib.hid (WrIn.many HH.out.1 HW2.out (by rw [HKL.out]; exact h3) h4)
                     clear h3 h4)
        go_ret2
        rw [HN.out]
        exact ⟨_, _, rfl, HW4.out⟩
end Go.Proofs.YtgkindoidmglnaaGreatDoor.AMake4
/- The allocator: Make lays an empty disk. -/
namespace Go.Proofs.YtgkindoidmglnaaGreatDoor.AMake5
open Go.RowKit WMem WPlain WAppend WCrc WSeal TPlain TBits TSet TTurn TFace TTurnF GPlain GGeo GGeo2 GFace Ext Map DPlain DMem Mk DBase DRead DPend DWrite DFlush EPlain EMem EFace EWrites EAny SPlain QPlain QMem APlain AMem AGeo AOpen ATurn ATake ACnt AMake1 AEmpty AMake2 AMake3 AMake4

/-- a row of writes -/
def putW (s : St) (P : List (Nat × Bk)) : St := ⟨s.L, s.P ++ P, s.N + P.length⟩
theorem putW_next (s : St) (P : List (Nat × Bk)) (k : Nat) (hk : k < P.length) : putW s (P.take (k + 1)) = (putW s (P.take k)).write P[k].1 P[k].2 := by
  have e : P.take (k + 1) = P.take k ++ [P[k]] := List.take_succ_eq_append_getElem hk
  have hl : (P.take (k + 1)).length = (P.take k).length + 1 := by rw [List.length_take, List.length_take]; omega
  unfold putW St.write
  rw [hl, e]
  simp only [List.append_assoc, Nat.add_assoc]
theorem putW_none (s : St) : putW s [] = s := by
  cases s
  simp [putW]
/-- what an empty disk holds -/
def emptyW (A : Al) : List (Nat × Bk) := allW A A.ng ++ [(1, A.grps), (0, A.sup)]
theorem gw_in {A : Al} (hM : May A.b A.p A.n A.j) {k : Nat} (hk : k < A.ng) : ∀ x ∈ gw A k, (x.1 : Int) < A.b := by
  have g := geo hM hk
  have h5 := g.a5
  have h6 := g.a6
  have h8 := g.a8
  intro x hx
  simp only [gw, AMake1.grpW, tabW, List.mem_cons, List.mem_map, List.mem_range] at hx
  rcases hx with rfl | rfl | ⟨i, hi, rfl⟩
  · show ((A.bat k : Nat) : Int) < A.b
    omega
  · show ((A.bat k + 1 : Nat) : Int) < A.b
    omega
  · show ((A.bat k + 2 + i : Nat) : Int) < A.b
    omega
theorem emptyW_in {A : Al} (hM : May A.b A.p A.n A.j) : ∀ x ∈ emptyW A, (x.1 : Int) < A.b := by
  have hb := hM.b0
  intro x hx
  unfold emptyW at hx
  rcases List.mem_append.1 hx with hx | hx
  · obtain ⟨k, hk, hx⟩ := List.mem_flatMap.1 hx
    exact gw_in hM (List.mem_range.1 hk) x hx
  · simp only [List.mem_cons, List.not_mem_nil, or_false] at hx
    rcases hx with rfl | rfl
    · show ((1 : Nat) : Int) < A.b
      omega
    · show ((0 : Nat) : Int) < A.b
      omega
theorem emptyW_len {A : Al} (hM : May A.b A.p A.n A.j) : 0 < (emptyW A).length ∧ (emptyW A).length ≤ 70000 := by
  have h := allW_len A A.ng fun i hi => at_own hM hi
  have hn := ng_le hM
  unfold emptyW
  rw [List.length_append]
  simp only [List.length_cons, List.length_nil]
  omega
theorem five {w w' : World} {g db : Nat} {v0 v1 v2 v3 v5 : Value} (hb : Below w.heap.size w w') (l0 : g < w.heap.size) (l2 : db < w.heap.size)
    (h : w.cell? ⟨g, 0, none⟩ = some v0 ∧ w.cell? ⟨g, 1, none⟩ = some v1 ∧ w.cell? ⟨g, 2, none⟩ = some v2 ∧ w.cell? ⟨g, 3, none⟩ = some v3 ∧ w.cell? ⟨db, 0, none⟩ = some v5) :
    w'.cell? ⟨g, 0, none⟩ = some v0 ∧ w'.cell? ⟨g, 1, none⟩ = some v1 ∧ w'.cell? ⟨g, 2, none⟩ = some v2 ∧ w'.cell? ⟨g, 3, none⟩ = some v3 ∧ w'.cell? ⟨db, 0, none⟩ = some v5 :=
  ⟨(hb.cell (p := ⟨g, 0, none⟩) l0).trans h.1, (hb.cell (p := ⟨g, 1, none⟩) l0).trans h.2.1, (hb.cell (p := ⟨g, 2, none⟩) l0).trans h.2.2.1, (hb.cell (p := ⟨g, 3, none⟩) l0).trans h.2.2.2.1, (hb.cell (p := ⟨db, 0, none⟩) l2).trans h.2.2.2.2⟩
/-- a write of the row, in a later world -/
theorem each_at {w wD : World} {P : List (Nat × Bk)} {v : Value} {ys : List Value} (h : WrIn w wD P v ys) (hP : 0 < P.length) : ∃ g c, v = .slice (some ⟨g, 0, none⟩) P.length c ∧ w.heap.size ≤ g ∧ g < wD.heap.size ∧
    ∀ k (hk : k < P.length) (wr : World), (∀ q, w.heap.size ≤ q → q < wD.heap.size → wr.heap[q]? = wD.heap[q]?) → wr.cell? ⟨g, k * 2, none⟩ = some (.int .i64 (P[k].1 : Int)) ∧ ∃ gl cl rest, wr.cell? ⟨g, k * 2 + 1, none⟩ = some (.slice (some ⟨gl, 0, none⟩) 256 cl) ∧ gl < wr.heap.size ∧ P[k].2.length = 256 ∧ 256 ≤ cl ∧ Row wr gl P[k].2 rest := by
  obtain ⟨g, c, rfl, hn⟩ := news_own h.own hP
  have hg1 := own_ge h.own g rfl
  have hg2 := own_lt h.own g rfl
  refine ⟨g, c, rfl, hg1, hg2, fun k hk wr hw => ?_⟩
  have e : ∀ j, (⟨g, 0, none⟩ : Addr).add j = ⟨g, j, none⟩ := fun j => by unfold Addr.add; split <;> simp_all
  have hc : ∀ j, wr.cell? ⟨g, j, none⟩ = wD.cell? ⟨g, j, none⟩ := fun j => World.cell?_of_block (hw g hg1 hg2)
  obtain ⟨x, h1, h2, gl, cl, rest, rfl, hq, hl, hcl, hr⟩ := h.each.2 k hk
  have n1 := hn _ _ h1
  have n2 := hn _ _ h2
  rw [e] at n1 n2
  have hrow : Row wr gl P[k].2 rest := (hw gl hq.1 hq.2).trans hr
  exact ⟨(hc _).trans n1, gl, cl, rest, (hc _).trans n2, hrow.lt, hl, hcl, hrow⟩

set_option maxRecDepth 100000 in
set_option maxHeartbeats 4000000 in
theorem Make_own {A : Al} (hE : A = empty A.b A.p A.n A.j) (hM : May A.b A.p A.n A.j) (S : Nat → Prop) (db : Nat) (s : St) (w : World) (hT : Tab w) (hd : DD w S db s) (hL : (s.L.length : Int) = A.b) (hN : s.N ≤ 1000000000) :
    Calls Tryz.prog 23 #[.pointer (some ⟨db, 0, none⟩), .agg #[.int .i64 A.b, .int .i64 A.p, .int .i64 A.n, .int .i64 A.j]] w fun e w' => e = .returned (.int .i64 0) ∧ ∃ S', DD w' S' db (putW s (emptyW A)).flush ∧ Ext S w w' ∧ In S' S w := by
  have hlt := hd.lt
  have d0 := hd.c0
  rw [hL] at d0
  have HD := Lib.hid hd
  have HM := Lib.hid hM
  have HE := Lib.hid hE
  have HT := Lib.hid hT
  have HLL := Lib.hid hL
  have HNN := Lib.hid hN
  have HCK : Hid (∀ W, Calls Tryz.prog 9 #[.agg #[.int .i64 A.b, .int .i64 A.p, .int .i64 A.n, .int .i64 A.j]] W fun e w' => e = .returned (.int .i64 0) ∧ Below W.heap.size W w') := Lib.hid fun W => Check_yes A.b A.p A.n A.j W (may_iff.2 hM)
  have r0 := rowV_new w [.int .i64 A.b, .int .i64 A.p, .int .i64 A.n, .int .i64 A.j] 23
  have b0 := rowc r0 0 rfl
  have b1 := rowc r0 1 rfl
  have b2 := rowc r0 2 rfl
  have b3 := rowc r0 3 rfl
  have b5 : (w.alloc (.cells #[.int .i64 A.b, .int .i64 A.p, .int .i64 A.n, .int .i64 A.j] 23)).cell? ⟨db, 0, none⟩ = some (.int .i64 A.b) := (World.cell?_alloc_lt w _ ⟨db, 0, none⟩ hlt).trans d0
  have HB0 := Lib.hid (below_box (w := w) (.cells #[.int .i64 A.b, .int .i64 A.p, .int .i64 A.n, .int .i64 A.j] 23))
  have hs0 : (w.alloc (.cells #[.int .i64 A.b, .int .i64 A.p, .int .i64 A.n, .int .i64 A.j] 23)).heap.size = w.heap.size + 1 := by simp
  clear hE hM hT hd hL hN r0 d0
  go_enter Tryz.func23, Tryz.ntmps23
  go_wp2_with fail
  generalize w.alloc (.cells #[.int .i64 A.b, .int .i64 A.p, .int .i64 A.n, .int .i64 A.j] 23) = W at *
  have HS0 := Lib.hid hs0
  have HSIX := Lib.hid (show W.cell? ⟨w.heap.size, 0, none⟩ = _ ∧ W.cell? ⟨w.heap.size, 1, none⟩ = _ ∧ W.cell? ⟨w.heap.size, 2, none⟩ = _ ∧ W.cell? ⟨w.heap.size, 3, none⟩ = _ ∧ W.cell? ⟨db, 0, none⟩ = _ from ⟨b0, b1, b2, b3, b5⟩)
  clear hs0
  go_region_held3 (fun w' => w'.cell? ⟨w.heap.size, 0, none⟩ = some (.int .i64 A.b) ∧ w'.cell? ⟨w.heap.size, 1, none⟩ = some (.int .i64 A.p) ∧ w'.cell? ⟨w.heap.size, 2, none⟩ = some (.int .i64 A.n) ∧ w'.cell? ⟨w.heap.size, 3, none⟩ = some (.int .i64 A.j) ∧ w'.cell? ⟨db, 0, none⟩ = some (.int .i64 A.b))
    (first | exact HS2.out | (go_keep; done))
    ((first
      | (go_at_call 9; refine (HCK.out _).mono ?_; rintro e w2 ⟨rfl, hb2⟩
         have HS2 := Lib.hid (five hb2 (show w.heap.size < W.heap.size by have := HS0.out; omega) (show db < W.heap.size by have := HS0.out; omega) HSIX.out)
         have HB2 := Lib.hid (show Below W.heap.size W w2 from ⟨hb2.os, hb2.tape, hb2.output, hb2.size, hb2.block⟩))
      | (go_at_call 44; refine (DBase.Blocks_at db A.b w2 HS2.out.2.2.2.2).mono ?_; rintro e w' ⟨rfl, rfl⟩)))
  have HBW := Lib.hid (HB0.out.trans (HB2.out.mono (by have := HS0.out; omega)))
  obtain ⟨g0, g1, g2, g3, -⟩ := HS2.out
  clear hb2 b0 b1 b2 b3 b5
  go_wp2_with fail
  refine (emptyDisk_any HE.out HM.out _ (Tab.below HT.out HBW.out (Tab.lt HT.out))).mono ?_
  rintro e wD ⟨v, ys, rfl, hw⟩
  have hw : WrIn _ wD (emptyW A) v ys := hw
  have hml := emptyW_len HM.out
  obtain ⟨g, c, rfl, q1, q2, hat⟩ := each_at hw hml.1
  obtain ⟨m, hm⟩ : ∃ m, (emptyW A).length = m := ⟨_, rfl⟩
  rw [hm] at hml
  have HBD := Lib.hid (below_up HBW.out hw.below HBW.out.size)
  have HAT := Lib.hid hat
  have HMM := Lib.hid hm
  have hsz := HBW.out.size
  have hm7 := hml.2
  have hm0 := hml.1
  simp only [hm]
  clear hw hat hml hm g0 g1 g2 g3
  go_wp2_with fail
  go_loopw [30] (fun i wr => ∃ (k : Nat) (S' : Nat → Prop), k ≤ m ∧ i = .int .i64 (k : Int) ∧ Hid (DD wr S' db (putW s ((emptyW A).take k)) ∧ Ext S wD wr ∧ In S' S wD)) (fun i _ => m - (RowKit.intOf i).toNat)
  case atStart => exact ⟨0, S, Nat.zero_le _, rfl, Lib.hid ⟨by rw [List.take_zero, putW_none]; exact HD.out.below HBD.out, Ext.refl _ _, In.refl _ _⟩⟩
  case round =>
    obtain ⟨k, S', hk, rfl, HH⟩ := hrel
    by_cases hlt : k < m
    · have d1 : decide ((k : Int) < (m : Int)) = true := by simp; omega
      have hk' : k < (emptyW A).length := by rw [HMM.out]; exact hlt
      obtain ⟨z0, gl, cl, rest, z1, hgl, hl, hcl, hrow⟩ := HAT.out k hk' wr (fun q a b => HH.out.2.1.block q b (fun hs => by have := HD.out.there q hs; omega))
      have hnb := emptyW_in HM.out _ (List.getElem_mem hk')
      have hnx := putW_next s (emptyW A) k hk'
      obtain ⟨n, hn⟩ : ∃ n, (emptyW A)[k].1 = n := ⟨_, rfl⟩
      obtain ⟨l, hl2⟩ : ∃ l, (emptyW A)[k].2 = l := ⟨_, rfl⟩
      rw [hn] at z0 hnb hnx
      rw [hl2] at hl hrow hnx
      have HNX := Lib.hid hnx
      have hLs : (putW s ((emptyW A).take k)).L.length = s.L.length := rfl
      have hNs : (putW s ((emptyW A).take k)).N ≤ 1073741824 := by
        have : (putW s ((emptyW A).take k)).N = s.N + ((emptyW A).take k).length := rfl
        have := HNN.out
        have := List.length_take_le k (emptyW A)
        omega
      have HBX := Lib.hid (below_box (w := wr) (.cells #[.int .i64 n, .slice (some ⟨gl, 0, none⟩) 256 cl] 99))
      have rx := rowV_new wr [.int .i64 n, .slice (some ⟨gl, 0, none⟩) 256 cl] 99
      have y0 := rowc rx 0 rfl
      have y1 := rowc rx 1 rfl
      have hr2 : Row (wr.alloc (.cells #[.int .i64 n, .slice (some ⟨gl, 0, none⟩) 256 cl] 99)) gl l rest := row_alloc hrow _
      have HW := Lib.hid (Write_ok S' db n (putW s ((emptyW A).take k)) l _ (some ⟨gl, 0, none⟩) cl _ (HH.out.1.below HBX.out) (hr2.sl hr2.lt) (Nat.le_refl _) (by have := HLL.out; omega) hl hNs)
      clear hk' hl hcl hrow hnb hnx hn hl2 hLs hNs rx hr2 hgl
      go_wp2_with fail
      refine HW.out.mono ?_
      rintro e w5 ⟨rfl, S5, hd5, he5, hi5⟩
      have H5 := Lib.hid (And.intro hd5 (And.intro he5 hi5))
      clear hd5 he5 hi5 y0 y1 z0 z1
      go_wp2_with fail
      go_roundw
      case rel => exact ⟨k + 1, S5, by omega, by go_num, Lib.hid ⟨by rw [HNX.out]; exact H5.out.1, HH.out.2.1.trans ((Ext.of_below HBX.out S').trans H5.out.2.1 (In.refl _ _)) HH.out.2.2, HH.out.2.2.trans ((In.refl S' wr).trans H5.out.2.2 HBX.out.size) HH.out.2.1.size⟩⟩
      case measure => simp [RowKit.intOf]; omega
    · obtain rfl : k = m := by omega
      have d1 : decide ((k : Int) < (k : Int)) = false := by simp
      have hdd := HH.out.1
      rw [← HMM.out, List.take_length] at hdd
      have HDD := Lib.hid hdd
      have hNs : (putW s (emptyW A)).N ≤ 1073741824 := by
        have : (putW s (emptyW A)).N = s.N + (emptyW A).length := rfl
        have := HNN.out
        have := HMM.out
        omega
      have HF := Lib.hid (Flush_ok S' db (putW s (emptyW A)) wr HDD.out hNs)
      clear hdd hNs
      go_wp2_with fail
      refine HF.out.mono ?_
      rintro e w6 ⟨rfl, S6, hd6, he6, hi6⟩
      have H6 := Lib.hid (And.intro hd6 (And.intro he6 hi6))
      clear hd6 he6 hi6
      go_wp2
      go_ret
      exact ⟨rfl, S6, H6.out.1, (Ext.of_below HBD.out S).trans (HH.out.2.1.trans H6.out.2.1 HH.out.2.2) (In.refl _ _), fun q hq => (HH.out.2.2.trans H6.out.2.2 HH.out.2.1.size q hq).imp id (Nat.le_trans HBD.out.size)⟩
end Go.Proofs.YtgkindoidmglnaaGreatDoor.AMake5
/- The allocator: what an empty disk says, in plain mathematics. -/
namespace Go.Proofs.YtgkindoidmglnaaGreatDoor.ASays
open WMem WPlain WCrc WSeal TPlain TBits TSet TTurn TFace TTurnF GPlain DPlain EPlain SPlain QPlain APlain AMem AMake1 AEmpty AMake2 AMake3 AMake4 AMake5

theorem last_some {P : List (Nat × Bk)} {k : Nat} {l : Bk} (h : (k, l) ∈ P) : lastOf P k ≠ none := by
  induction P with
  | nil => cases h
  | cons y r ih =>
    simp only [lastOf]
    cases hr : lastOf r k with
    | some x => simp
    | none =>
      rcases List.mem_cons.1 h with e | e
      · subst e; simp
      · exact absurd hr (ih e)
theorem last_is {P : List (Nat × Bk)} {k : Nat} {l : Bk} (h : (k, l) ∈ P) (hu : ∀ x ∈ P, x.1 = k → x.2 = l) : lastOf P k = some l := by
  cases hl : lastOf P k with
  | none => exact absurd hl (last_some h)
  | some x => exact congrArg some (hu _ (lastOf_mem hl) rfl)
section
variable {A : Al}
theorem gw_of (hM : May A.b A.p A.n A.j) {k : Nat} (hk : k < A.ng) {x : Nat × Bk} (hx : x ∈ gw A k) :
    A.bat k ≤ x.1 ∧ x.1 < A.at_ k + A.own k ∧ (x.1 = A.bat k → x.2 = A.bm k) ∧ (x.1 = A.bat k + 1 → x.2 = A.im k) := by
  have h5 := (geo hM hk).a5
  simp only [gw, AMake1.grpW, tabW, List.mem_cons, List.mem_map, List.mem_range] at hx
  rcases hx with rfl | rfl | ⟨i, hi, rfl⟩
  · exact ⟨Nat.le_refl _, by show A.bat k < _; omega, fun _ => rfl, fun h => absurd (show A.bat k = A.bat k + 1 from h) (by omega)⟩
  · exact ⟨Nat.le_succ _, by show A.bat k + 1 < _; omega, fun h => absurd (show A.bat k + 1 = A.bat k from h) (by omega), fun _ => rfl⟩
  · exact ⟨by show _ ≤ A.bat k + 2 + i; omega, by show A.bat k + 2 + i < _; omega, fun h => absurd (show A.bat k + 2 + i = A.bat k from h) (by omega), fun h => absurd (show A.bat k + 2 + i = A.bat k + 1 from h) (by omega)⟩
theorem mem_empty {x : Nat × Bk} (hx : x ∈ emptyW A) : (∃ k, k < A.ng ∧ x ∈ gw A k) ∨ x = (1, A.grps) ∨ x = (0, A.sup) := by
  unfold emptyW at hx
  rcases List.mem_append.1 hx with hx | hx
  · obtain ⟨k, hk, hx⟩ := List.mem_flatMap.1 hx
    exact .inl ⟨k, List.mem_range.1 hk, hx⟩
  · simp only [List.mem_cons, List.not_mem_nil, or_false] at hx
    exact .inr hx
theorem last_sup (hM : May A.b A.p A.n A.j) : lastOf (emptyW A) 0 = some A.sup := by
  refine last_is (by simp [emptyW]) fun x hx h0 => ?_
  rcases mem_empty hx with ⟨k, hk, hg⟩ | rfl | rfl
  · have := (gw_of hM hk hg).1
    have := (geo hM hk).a9
    omega
  · cases h0
  · rfl
theorem last_grps (hM : May A.b A.p A.n A.j) : lastOf (emptyW A) 1 = some A.grps := by
  refine last_is (by simp [emptyW]) fun x hx h0 => ?_
  rcases mem_empty hx with ⟨k, hk, hg⟩ | rfl | rfl
  · have := (gw_of hM hk hg).1
    have := (geo hM hk).a9
    omega
  · rfl
  · cases h0
/-- a block of a group's is written with that group -/
theorem own_grp (hM : May A.b A.p A.n A.j) {k i : Nat} (hk : k < A.ng) (hi : i < A.ng) {x : Nat × Bk} (hx : x ∈ gw A k) (h : x.1 = A.bat i ∨ x.1 = A.bat i + 1) : k = i := by
  obtain ⟨h1, h2, -, -⟩ := gw_of hM hk hx
  have gk := geo hM hk
  have gi := geo hM hi
  have k4 := gk.a4
  have k6 := gk.a6
  have i4 := gi.a4
  have i5 := gi.a5
  have i6 := gi.a6
  rcases Nat.lt_trichotomy k i with e | e | e
  · have := apart hM e hi
    omega
  · exact e
  · have := apart hM e hk
    omega
theorem last_bm (hM : May A.b A.p A.n A.j) {i : Nat} (hi : i < A.ng) : lastOf (emptyW A) (A.bat i) = some (A.bm i) := by
  have h9 := (geo hM hi).a9
  refine last_is (List.mem_append.2 (.inl (List.mem_flatMap.2 ⟨i, List.mem_range.2 hi, by simp [gw, AMake1.grpW]⟩))) fun x hx h0 => ?_
  rcases mem_empty hx with ⟨k, hk, hg⟩ | rfl | rfl
  · obtain rfl := own_grp hM hk hi hg (.inl h0)
    exact (gw_of hM hk hg).2.2.1 h0
  · have h0 : 1 = A.bat i := h0
    omega
  · have h0 : 0 = A.bat i := h0
    omega
theorem last_im (hM : May A.b A.p A.n A.j) {i : Nat} (hi : i < A.ng) : lastOf (emptyW A) (A.bat i + 1) = some (A.im i) := by
  have h9 := (geo hM hi).a9
  refine last_is (List.mem_append.2 (.inl (List.mem_flatMap.2 ⟨i, List.mem_range.2 hi, by simp [gw, AMake1.grpW]⟩))) fun x hx h0 => ?_
  rcases mem_empty hx with ⟨k, hk, hg⟩ | rfl | rfl
  · obtain rfl := own_grp hM hk hi hg (.inr h0)
    exact (gw_of hM hk hg).2.2.2 h0
  · have h0 : 1 = A.bat i + 1 := h0
    omega
  · have h0 : 0 = A.bat i + 1 := h0
    omega
/-- the disk that was made -/
def madeD (A : Al) : St := (putW (St.new A.b.toNat) (emptyW A)).flush
theorem madeD_len : (madeD A).L.length = A.b.toNat := by
  unfold madeD St.flush putW St.new
  rw [doneTo_len, List.length_replicate]
theorem madeD_read {k : Nat} (hk : (k : Int) < A.b) {l : Bk} (h : lastOf (emptyW A) k = some l) : (madeD A).readAt k = l := by
  have e : (madeD A).readAt k = (doneTo (fun _ => true) (List.replicate A.b.toNat DPlain.zeros) (emptyW A) (emptyW A).length).getD k [] := by
    unfold madeD St.flush putW St.new St.readAt
    simp [lastOf]
  rw [e, doneTo_all _ _ k (by rw [List.length_replicate]; omega) _ (Nat.le_refl _), List.take_length, h]
  rfl
theorem fresh_val (d : St) (ns room k : Nat) : (fresh d ns room).val k = d.readAt k := rfl
theorem says_made (hE : A = empty A.b A.p A.n A.j) (hM : May A.b A.p A.n A.j) (ns room : Nat) : Says (fresh (madeD A) ns room) A := by
  have hb := hM.b0
  refine ⟨fine_of hE hM, ?_, ?_, ?_, fun i hi => ?_, fun i hi => ?_, Coh.fresh _ _ _⟩
  · show ((madeD A).L.length : Int) = A.b
    rw [madeD_len]
    omega
  · rw [fresh_val]
    exact madeD_read (by omega) (last_sup hM)
  · rw [fresh_val]
    exact madeD_read (by omega) (last_grps hM)
  · rw [fresh_val]
    have g := geo hM hi
    exact madeD_read (by have := g.a5; have := g.a6; have := g.a8; omega) (last_bm hM hi)
  · rw [fresh_val]
    have g := geo hM hi
    exact madeD_read (by have := g.a5; have := g.a6; have := g.a8; omega) (last_im hM hi)
end
end Go.Proofs.YtgkindoidmglnaaGreatDoor.ASays
/- The allocator's laws: small, opened. -/
namespace Go.Proofs.YtgkindoidmglnaaGreatDoor.AOpened
open Go.RowKit WMem WPlain WAppend WCrc WSeal TPlain TBits TSet TTurn TFace TTurnF GPlain GGeo GGeo2 GFace Ext Map DPlain DMem Mk DBase DRead DPend DWrite DFlush EPlain EMem EFace EWrites EAny SPlain QPlain QMem APlain AMem AGeo AOpen ATurn ATake ACnt AMake1 AEmpty AMake2 AMake3 AMake4 AMake5 ASays

theorem small_any (w : World) : Calls Tryz.prog 21 #[] w fun e w' => e = .returned (.agg #[.int .i64 300, .int .i64 200, .int .i64 16, .int .i64 96]) ∧ Below w.heap.size w w' := by
  have r0 := rowV_new w [.int .i64 300, .int .i64 200, .int .i64 16, .int .i64 96] 23
  have c0 := rowc r0 0 rfl
  have c1 := rowc r0 1 rfl
  have c2 := rowc r0 2 rfl
  have c3 := rowc r0 3 rfl
  have HB := Lib.hid (below_box (w := w) (.cells #[.int .i64 300, .int .i64 200, .int .i64 16, .int .i64 96] 23))
  clear r0
  go_enter Tryz.func21, Tryz.ntmps21
  go_wp2
  refine bodyPost_ret_by (v := .agg #[.int .i64 300, .int .i64 200, .int .i64 16, .int .i64 96]) (by simp [results, Tryz.results21, go_sem, c0, c1, c2, c3]; try rfl) rfl ?_
  exact ⟨rfl, HB.out⟩

set_option maxRecDepth 100000 in
set_option maxHeartbeats 4000000 in
theorem Make_no (b p n j : Int) (h : mayB b p n j = false) (db : Nat) (w : World) :
    Calls Tryz.prog 23 #[.pointer (some ⟨db, 0, none⟩), .agg #[.int .i64 b, .int .i64 p, .int .i64 n, .int .i64 j]] w fun e w' => e = .returned (.int .i64 22) ∧ Below w.heap.size w w' := by
  have HCK : Hid (∀ W, Calls Tryz.prog 9 #[.agg #[.int .i64 b, .int .i64 p, .int .i64 n, .int .i64 j]] W fun e w' => e = .returned (.int .i64 22) ∧ Below W.heap.size W w') := Lib.hid fun W => Check_no b p n j W h
  have r0 := rowV_new w [.int .i64 b, .int .i64 p, .int .i64 n, .int .i64 j] 23
  have b0 := rowc r0 0 rfl
  have b1 := rowc r0 1 rfl
  have b2 := rowc r0 2 rfl
  have b3 := rowc r0 3 rfl
  have HB0 := Lib.hid (below_box (w := w) (.cells #[.int .i64 b, .int .i64 p, .int .i64 n, .int .i64 j] 23))
  have hs0 : (w.alloc (.cells #[.int .i64 b, .int .i64 p, .int .i64 n, .int .i64 j] 23)).heap.size = w.heap.size + 1 := by simp
  clear h
  go_enter Tryz.func23, Tryz.ntmps23
  go_wp2_with fail
  generalize w.alloc (.cells #[.int .i64 b, .int .i64 p, .int .i64 n, .int .i64 j] 23) = W at *
  have HS0 := Lib.hid hs0
  have HRW := Lib.hid r0
  clear hs0 b0 b1 b2 b3 r0
  refine wp_region_held_drew (S := (fun w' => RowV w' w.heap.size 23 [.int .i64 b, .int .i64 p, .int .i64 n, .int .i64 j])) (by kernel_rfl) (HRW.out.drewN 1) (fun hHeld => ?_)
  -- WALKM begin
  refine wpAnyH_take (i := 0) (v := ?_) rfl (by kernel_rfl) (by kernel_rfl) (by kernel_rfl) (fun _ _ _ h => h) (Or.inl ⟨by rfl, ?_⟩) hHeld ?_
  rotate_left
  · intro wq hSw
    have p0 := rowc hSw 0 rfl
    have p1 := rowc hSw 1 rfl
    have p2 := rowc hSw 2 rfl
    have p3 := rowc hSw 3 rfl
    go_simp
    try with_reducible rfl
  try simp only [Act.put, List.getElem_toArray, List.getElem_cons_zero, List.setIfInBounds_toArray, List.set_cons_zero, List.set_cons_succ]
  refine wpAnyH_ready (rs := [1]) (by kernel_rfl) (by simp) ?_
  refine AllReadyH.cons (o := _) rfl (fun K hK => ?_) (AllReadyH.nil)
  go_simp
  go_at_call 9
  refine (HCK.out _).mono ?_
  rintro e w2 ⟨rfl, hb2⟩
  have HB2 := Lib.hid (show Below W.heap.size W w2 from ⟨hb2.os, hb2.tape, hb2.output, hb2.size, hb2.block⟩)
  have HR2 := Lib.hid (HRW.out.keep HB2.out HRW.out.lt)
  clear hb2
  go_wp2_with fail
  refine hK.out _ _ HR2.out (fun hHeld => ?_)
  clear hK K
  try simp only [Act.put, List.getElem_toArray, List.getElem_cons_zero, List.getElem_cons_succ, List.setIfInBounds_toArray, List.set_cons_zero, List.set_cons_succ]
  refine wpAnyH_take (i := 2) (v := ?_) rfl (by kernel_rfl) (by kernel_rfl) (by kernel_rfl) (fun _ _ _ h => h) (Or.inl ⟨by rfl, ?_⟩) hHeld ?_
  rotate_left
  · intro wq hSw
    go_simp
    try with_reducible rfl
  try simp only [Act.put, List.getElem_toArray, List.getElem_cons_zero, List.getElem_cons_succ, List.setIfInBounds_toArray, List.set_cons_zero, List.set_cons_succ]
  refine wpAnyH_take (i := 3) (v := ?_) rfl (by kernel_rfl) (by kernel_rfl) (by kernel_rfl) (fun _ _ _ h => h) (Or.inl ⟨by rfl, ?_⟩) hHeld ?_
  rotate_left
  · intro wq hSw
    go_simp
    try with_reducible rfl
  try simp only [Act.put, List.getElem_toArray, List.getElem_cons_zero, List.getElem_cons_succ, List.setIfInBounds_toArray, List.set_cons_zero, List.set_cons_succ]
  refine wpAnyH_take (i := 4) (v := undef) rfl (by kernel_rfl) (by kernel_rfl) (by kernel_rfl) (fun _ _ _ h => h) (Or.inr ⟨by rfl, rfl⟩) hHeld ?_
  try simp only [Act.put, List.getElem_toArray, List.getElem_cons_zero, List.getElem_cons_succ, List.setIfInBounds_toArray, List.set_cons_zero, List.set_cons_succ]
  refine wpAnyH_take (i := 5) (v := undef) rfl (by kernel_rfl) (by kernel_rfl) (by kernel_rfl) (fun _ _ _ h => h) (Or.inr ⟨by rfl, rfl⟩) hHeld ?_
  try simp only [Act.put, List.getElem_toArray, List.getElem_cons_zero, List.getElem_cons_succ, List.setIfInBounds_toArray, List.set_cons_zero, List.set_cons_succ]
  refine wpAnyH_take (i := 6) (v := undef) rfl (by kernel_rfl) (by kernel_rfl) (by kernel_rfl) (fun _ _ _ h => h) (Or.inr ⟨by rfl, rfl⟩) hHeld ?_
  try simp only [Act.put, List.getElem_toArray, List.getElem_cons_zero, List.getElem_cons_succ, List.setIfInBounds_toArray, List.set_cons_zero, List.set_cons_succ]
  refine wpAnyH_take (i := 7) (v := undef) rfl (by kernel_rfl) (by kernel_rfl) (by kernel_rfl) (fun _ _ _ h => h) (Or.inr ⟨by rfl, rfl⟩) hHeld ?_
  try simp only [Act.put, List.getElem_toArray, List.getElem_cons_zero, List.getElem_cons_succ, List.setIfInBounds_toArray, List.set_cons_zero, List.set_cons_succ]
  refine wpAnyH_take (i := 8) (v := undef) rfl (by kernel_rfl) (by kernel_rfl) (by kernel_rfl) (fun _ _ _ h => h) (Or.inr ⟨by rfl, rfl⟩) hHeld ?_
  try simp only [Act.put, List.getElem_toArray, List.getElem_cons_zero, List.getElem_cons_succ, List.setIfInBounds_toArray, List.set_cons_zero, List.set_cons_succ]
  refine wpAnyH_take (i := 9) (v := ?_) rfl (by kernel_rfl) (by kernel_rfl) (by kernel_rfl) (fun _ _ _ h => h) (Or.inl ⟨by rfl, ?_⟩) hHeld ?_
  rotate_left
  · intro wq hSw
    go_simp
    try with_reducible rfl
  try simp only [Act.put, List.getElem_toArray, List.getElem_cons_zero, List.getElem_cons_succ, List.setIfInBounds_toArray, List.set_cons_zero, List.set_cons_succ]
  refine wpAnyH_done (by kernel_rfl) ?_ _
  go_wp2
  go_ret
  exact ⟨rfl, HB0.out.trans (HB2.out.mono (by have := HS0.out; omega))⟩
  -- WALKM end

set_option maxRecDepth 100000 in
set_option maxHeartbeats 4000000 in
theorem opened_yes {A : Al} (hE : A = empty A.b A.p A.n A.j) (hM : May A.b A.p A.n A.j) (w : World) (hT : Tab w) :
    Calls Tryz.prog 8 #[.agg #[.int .i64 A.b, .int .i64 A.p, .int .i64 A.n, .int .i64 A.j]] w fun e w' => ∃ db b, e = .returned (.tuple #[.pointer (some ⟨db, 0, none⟩), .pointer (some ⟨b, 0, none⟩), .bool true]) ∧
      AS w w'.heap.size (fun _ => False) w' b db (fresh (madeD A) 4 32) := by
  have hb0 := hM.b0
  have hb1 := hM.b1
  have hbn : ((A.b.toNat : Nat) : Int) = A.b := Int.toNat_of_nonneg (by omega)
  have HNEW : Hid (∀ W, Calls Tryz.prog 22 #[.int .i64 A.b] W fun e w' => ∃ g, e = .returned (.tuple #[.pointer (some ⟨g, 0, none⟩), .int .i64 0]) ∧ DD w' (Made W w') g (St.new A.b.toNat) ∧ Below W.heap.size W w') := Lib.hid fun W => by
    have h := DRead.New_yes A.b.toNat W (by omega) (by omega)
    rw [hbn] at h
    exact h
  have r0 := rowV_new w [.int .i64 A.b, .int .i64 A.p, .int .i64 A.n, .int .i64 A.j] 23
  have HB0 := Lib.hid (below_box (w := w) (.cells #[.int .i64 A.b, .int .i64 A.p, .int .i64 A.n, .int .i64 A.j] 23))
  have HR0 := Lib.hid r0
  have y0 := rowc r0 0 rfl
  have HM := Lib.hid hM
  have HE := Lib.hid hE
  have HT := Lib.hid hT
  have HBN := Lib.hid hbn
  clear hM hE hT r0 hbn hb0 hb1
  go_enter Tryz.func8, Tryz.ntmps8
  go_wp2_with fail
  refine (HNEW.out _).mono ?_
  rintro e w1 ⟨db, rfl, hd, hb⟩
  have HB1 : Hid (Below w.heap.size w w1) := Lib.hid (below_up HB0.out hb (by simp))
  have r1 := HR0.out.keep hb HR0.out.lt
  have HD1 := Lib.hid hd
  have HG : Hid (∀ q, Made (w.alloc (.cells #[.int .i64 A.b, .int .i64 A.p, .int .i64 A.n, .int .i64 A.j] 23)) w1 q → w.heap.size ≤ q) := Lib.hid fun q hq => by have := hq.1; simp at this; omega
  clear hd hb y0
  have y0 := rowc r1 0 rfl
  have y1 := rowc r1 1 rfl
  have y2 := rowc r1 2 rfl
  have y3 := rowc r1 3 rfl
  clear r1
  go_wp2_with fail
  refine (Make_own HE.out HM.out _ db _ w1 (Tab.below HT.out HB1.out (Tab.lt HT.out)) HD1.out (by show (((St.new A.b.toNat).L.length : Nat) : Int) = A.b; rw [show (St.new A.b.toNat).L.length = A.b.toNat from List.length_replicate, HBN.out]) (by show (0 : Nat) ≤ _; omega)).mono ?_
  rintro e w2 ⟨rfl, S2, hd2, he2, hi2⟩
  have HD2 : Hid (DD w2 S2 db (madeD A)) := Lib.hid hd2
  have HS2 : Hid (∀ q, S2 q → w.heap.size ≤ q) := Lib.hid fun q hq => by
    rcases hi2 q hq with h | h
    · exact HG.out q h
    · have := HB1.out.size; omega
  have HB2 : Hid (Below w.heap.size w w2) := Lib.hid (HB1.out.trans (he2.below HB1.out.size (fun q hq => HG.out q hq)))
  clear hd2 he2 hi2 y0 y1 y2 y3
  have hl : (madeD A).L.length = A.b.toNat := madeD_len
  have c0 := HD2.out.c0
  have HST := Lib.hid (ENew.New_yes db 4 32 (madeD A) w2 c0 (by decide) (by decide) (by decide) (by decide) (by rw [hl]; have := HM.out.b0; omega) (by rw [hl]; have := HM.out.b1; omega))
  clear hl c0
  go_wp2_with fail
  refine HST.out.mono ?_
  rintro e w3 ⟨b, ρ, rfl, hs, hm, hb3⟩
  have HL := Lib.hid (live_new HD2.out HS2.out HB2.out hs hm hb3)
  clear hs hm hb3
  go_wp2
  go_ret3
  refine ⟨db, b, rfl, ⟨ρ, S2, HL.out.own, fun q hq => ⟨HL.out.new q hq, id⟩, fun q hq => ?_, fun q hq => HL.out.own.dd.there q hq⟩, HL.out.below, fun q hq => hq.elim⟩
  exact HL.out.own.ss.there q (fun e => by rw [e] at hq; exact hq)
set_option maxRecDepth 100000 in
set_option maxHeartbeats 4000000 in
theorem opened_no (b p n j : Int) (h : mayB b p n j = false) (w : World) :
    Calls Tryz.prog 8 #[.agg #[.int .i64 b, .int .i64 p, .int .i64 n, .int .i64 j]] w fun e w' => e = .returned (.tuple #[.pointer none, .pointer none, .bool false]) ∧ Below w.heap.size w w' := by
  have r0 := rowV_new w [.int .i64 b, .int .i64 p, .int .i64 n, .int .i64 j] 23
  have HB0 := Lib.hid (below_box (w := w) (.cells #[.int .i64 b, .int .i64 p, .int .i64 n, .int .i64 j] 23))
  have HR0 := Lib.hid r0
  have y0 := rowc r0 0 rfl
  have H := Lib.hid h
  clear h r0
  by_cases hb : b < 128 ∨ 4096 < b
  · have HNEW := Lib.hid (fun W => DRead.New_no b W hb)
    clear hb
    go_enter Tryz.func8, Tryz.ntmps8
    go_wp2_with fail
    refine (HNEW.out _).mono ?_
    rintro e w1 ⟨rfl, rfl⟩
    go_wp2
    go_ret3
    exact ⟨rfl, HB0.out⟩
  · have hbn : ((b.toNat : Nat) : Int) = b := Int.toNat_of_nonneg (by omega)
    have HNEW : Hid (∀ W, Calls Tryz.prog 22 #[.int .i64 b] W fun e w' => ∃ g, e = .returned (.tuple #[.pointer (some ⟨g, 0, none⟩), .int .i64 0]) ∧ DD w' (Made W w') g (St.new b.toNat) ∧ Below W.heap.size W w') := Lib.hid fun W => by
      have h := DRead.New_yes b.toNat W (by omega) (by omega)
      rw [hbn] at h
      exact h
    clear hb hbn
    go_enter Tryz.func8, Tryz.ntmps8
    go_wp2_with fail
    refine (HNEW.out _).mono ?_
    rintro e w1 ⟨db, rfl, hd, hb⟩
    have HB1 : Hid (Below w.heap.size w w1) := Lib.hid (below_up HB0.out hb (by simp))
    have r1 := HR0.out.keep hb HR0.out.lt
    clear hd hb y0
    have y0 := rowc r1 0 rfl
    have y1 := rowc r1 1 rfl
    have y2 := rowc r1 2 rfl
    have y3 := rowc r1 3 rfl
    clear r1
    go_wp2_with fail
    refine (Make_no b p n j H.out db w1).mono ?_
    rintro e w2 ⟨rfl, hb2⟩
    have HB2 := Lib.hid (below_up HB1.out hb2 HB1.out.size)
    clear hb2 y0 y1 y2 y3
    go_wp2
    go_ret3
    exact ⟨rfl, HB2.out⟩
end Go.Proofs.YtgkindoidmglnaaGreatDoor.AOpened
/- The allocator: Blocks, from its store on. -/
namespace Go.Proofs.YtgkindoidmglnaaGreatDoor.ABlocks
open Go.RowKit Go.Shelf WMem WPlain WAppend WCrc WSeal TPlain TBits TSet TTurn TFace TTurnF TSame TFind TFacts GPlain GGeo GGeo2 GFace Ext Map DPlain DMem EPlain EMem EFace EBack EAny SPlain QPlain QMem QChunk APlain AMem AGeo AOpen ATurn ACount AHad ARound ATake

theorem back_all (s : Sto) : s.back s.acts.length = s := by
  unfold Sto.back
  rw [List.drop_length, List.take_length]
  rfl
/-- the error that is answered -/
def errOf (A : Al) (s : Sto) (goal want : Int) : Int := if (upFrom (fun k => ok1 A s.now.hld goal want (gth A goal k)) 0 A.ng).isSome then 0 else 28
section
variable {a w : World} {B : Nat} {S : Nat → Prop} {b db : Nat} {s : Sto} {A : Al} {lb gb c : Nat}
/-- the four boxes over which the closure stands -/
structure Cl (w : World) (q : Nat) (goal want first n : Int) : Prop where
  b0 : RowV w q 3 [.int .i64 goal]
  b1 : RowV w (q + 1) 3 [.int .i64 want]
  b2 : RowV w (q + 2) 3 [.int .i64 first]
  b3 : RowV w (q + 3) 3 [.int .i64 n]
theorem Cl.keep {w w' : World} {q : Nat} {goal want first n : Int} (h : Cl w q goal want first n) (hk : ∀ k, k < 4 → w'.heap[q + k]? = w.heap[q + k]?) : Cl w' q goal want first n :=
  ⟨(hk 0 (by omega)).trans h.b0, (hk 1 (by omega)).trans h.b1, (hk 2 (by omega)).trans h.b2, (hk 3 (by omega)).trans h.b3⟩
theorem took_v {d : Nat} {goal want : Int} {v : Value} {s' : Sto} (h : Took d A s goal want v s') : ∃ x n e : Int, v = .tuple #[.int .i64 x, .int .i64 n, .int .i64 e] := by
  rcases h with ⟨_, h, _⟩ | ⟨_, _, _, _, _, _, _, _, _, _, h, _⟩
  · exact ⟨_, _, _, h⟩
  · exact ⟨_, _, _, h⟩
set_option maxRecDepth 100000 in
set_option maxHeartbeats 2000000 in
theorem blocks1_own (h : AS a B S w b db s) (hs : Says s A) (hL : Led w lb gb c b A A.gs A.fb A.fi) (hS1 : S lb) (hS2 : S gb) (ha1 : a.heap.size ≤ lb) (ha2 : a.heap.size ≤ gb) (hBw : B ≤ w.heap.size) (hT : Tab a) (hload : s.load + 40 ≤ 1073741824) (goal want : Int) (hw1 : 1 ≤ want)
    (q : Nat) (hq : Cl w q goal want 0 0) (hqS : ∀ k, k < 4 → S (q + k)) (hqa : a.heap.size ≤ q) (hqn : ∀ k, k < 4 → q + k ≠ lb ∧ q + k ≠ gb) :
    Calls Tryz.prog 29 #[.pointer (some ⟨lb, 0, none⟩), .pointer (some ⟨q, 0, none⟩), .pointer (some ⟨q + 1, 0, none⟩), .pointer (some ⟨q + 2, 0, none⟩), .pointer (some ⟨q + 3, 0, none⟩)] w fun e w' => ∃ x n er s', e = .returned (.int .i64 er) ∧
      Took 14 A s goal want (.tuple #[.int .i64 x, .int .i64 n, .int .i64 er]) s' ∧ Cl w' q goal want x n ∧ AS a B S w' b db s' ∧ Kp (fun k => S k ∧ k ≠ lb ∧ k ≠ gb ∧ k ≠ q + 2 ∧ k ≠ q + 3) w w' := by
  have HC := Lib.hid (take_any h hs hL hS1 hS2 ha1 ha2 hBw hT hload goal want hw1)
  have x0 := rowc hq.b0 0 rfl
  have x1 := rowc hq.b1 0 rfl
  have HQ := Lib.hid hq
  clear h hs hL hT hq
  go_enter Tryz.func29, Tryz.ntmps29
  go_wp2_with fail
  refine HC.out.mono ?_
  rintro e w1 ⟨v, s', rfl, htk, hA, hk⟩
  obtain ⟨x, n, er, rfl⟩ := took_v htk
  have hq1 : Cl w1 q goal want 0 0 := HQ.out.keep fun k hk4 => hk _ ⟨hqS k hk4, hqn k hk4⟩
  have y2 := rowc hq1.b2 0 rfl
  have y3 := rowc hq1.b3 0 rfl
  have g2 := hq1.b2.free
  have g3 := hq1.b3.free
  have HQ1 := Lib.hid hq1
  have HTK := Lib.hid htk
  have HA := Lib.hid hA
  have HK := Lib.hid hk
  clear hq1 htk hA hk
  go_wp2
  go_ret
  refine ⟨x, n, er, s', rfl, HTK.out, ⟨?_, ?_, ?_, ?_⟩, (HA.out.cell ⟨q + 2, 0, none⟩ (.int .i64 x) (hqS 2 (by omega)) (by show a.heap.size ≤ q + 2; omega)).cell ⟨q + 3, 0, none⟩ (.int .i64 n) (hqS 3 (by omega)) (by show a.heap.size ≤ q + 3; omega), ?_⟩
  · exact rowV_far (rowV_far HQ1.out.b0 ⟨q + 2, 0, none⟩ (.int .i64 x) (by simp)) ⟨q + 3, 0, none⟩ (.int .i64 n) (by simp)
  · exact rowV_far (rowV_far HQ1.out.b1 ⟨q + 2, 0, none⟩ (.int .i64 x) (by simp)) ⟨q + 3, 0, none⟩ (.int .i64 n) (by simp)
  · exact rowV_far (HQ1.out.b2.set 0 (.int .i64 x)) ⟨q + 3, 0, none⟩ (.int .i64 n) (by simp)
  · exact (rowV_far HQ1.out.b3 ⟨q + 2, 0, none⟩ (.int .i64 x) (by simp)).set 0 (.int .i64 n)
  · exact ((HK.out.less fun k hk => ⟨hk.1, hk.2.1, hk.2.2.1⟩).trans fun k hk => Below.heap_setCell _ ⟨q + 2, 0, none⟩ _ k hk.2.2.2.1).trans fun k hk => Below.heap_setCell _ ⟨q + 3, 0, none⟩ _ k hk.2.2.2.2
set_option maxRecDepth 100000 in
set_option maxHeartbeats 2000000 in
theorem whole_blocks (h : AS a B S w b db s) (hs : Says s A) (hBw : B ≤ w.heap.size) (hT : Tab a) (hload : s.load + 60 ≤ 1073741824) (goal want : Int) (hw1 : 1 ≤ want) (q : Nat) (hq : Cl w q goal want 0 0) (hqS : ∀ k, k < 4 → S (q + k)) (hqa : a.heap.size ≤ q) :
    Calls Tryz.prog 28 #[.pointer (some ⟨b, 0, none⟩), .func (.func 29) #[] #[.pointer (some ⟨q, 0, none⟩), .pointer (some ⟨q + 1, 0, none⟩), .pointer (some ⟨q + 2, 0, none⟩), .pointer (some ⟨q + 3, 0, none⟩)]] w fun e w' => ∃ x n er s', e = .returned (.int .i64 er) ∧
      Took 16 A s goal want (.tuple #[.int .i64 x, .int .i64 n, .int .i64 er]) s' ∧ Cl w' q goal want x n ∧ AS a B S w' b db s' ∧ Kp (fun k => S k ∧ k ≠ q + 2 ∧ k ≠ q + 3) w w' := by
  have HO := Lib.hid (open_own h hs hT (by omega))
  have hqw : ∀ k, k < 4 → q + k < w.heap.size := fun k hk => h.there _ (hqS k hk)
  have H := Lib.hid h
  have HS := Lib.hid hs
  have HT := Lib.hid hT
  have HQ := Lib.hid hq
  clear h hs hT hq
  go_enter Tryz.func28, Tryz.ntmps28
  go_wp2_with fail
  refine HO.out.mono ?_
  rintro e w1 ⟨lb, gb, c, s1, rfl, hl1, hl2, hL, hA, hk, hr⟩
  have HL := Lib.hid hL
  have HA := Lib.hid hA
  have HK := Lib.hid hk
  have HR := Lib.hid hr
  have hlt := hL.lt
  have hld := hr.load
  clear hL hA hk hr
  go_wp2_with fail
  refine (a_mark HA.out (by omega)).mono ?_
  rintro e w2 ⟨rfl, rfl⟩
  go_wp2_with fail
  refine (blocks1_own HA.out (HS.out.rd HR.out) HL.out (.inr (.inl rfl)) (.inr (.inr rfl)) (Nat.le_trans H.out.below.size hl1) (Nat.le_trans H.out.below.size hl2) (by omega) HT.out (by omega) goal want hw1 q (HQ.out.keep fun k hk => HK.out _ (hqS k hk)) (fun k hk => .inl (hqS k hk)) hqa (fun k hk => by have := hqw k hk; omega)).mono ?_
  rintro e w3 ⟨x, n, er, s3, rfl, htk, hcl, hA3, hk3⟩
  have HK3 : Hid (Kp (fun k => S k ∧ k ≠ q + 2 ∧ k ≠ q + 3) w w3) := Lib.hid ((HK.out.less fun k hk => hk.1).trans (hk3.less fun k hk => ⟨.inl hk.1, by have := H.out.there _ hk.1; omega, by have := H.out.there _ hk.1; omega, hk.2⟩))
  have HTK := Lib.hid (htk.pre HR.out)
  have HCL := Lib.hid hcl
  have HA3 := Lib.hid (hA3.less (S' := S) fun k hk => .inl hk)
  rcases htk with ⟨u1, u2, u3⟩ | ⟨k0, i0, x0, n0, l0, u1, u2, u3, u4, u5, u6, u7⟩
  · obtain ⟨rfl, rfl, rfl⟩ : x = 0 ∧ n = 0 ∧ er = 28 := by simpa using u2
    have hact : s1.acts.length = s3.acts.length := by rw [u3.acts]
    have hl3 := u3.load
    have HACT := Lib.hid hact
    clear hcl hA3 hk3 u1 u2 u3
    go_wp2_with fail
    try rw [HACT.out]
    refine (a_back HA3.out s3.acts.length (Nat.le_refl _) (by omega)).mono ?_
    rintro e w4 ⟨rfl, hA4, hk4⟩
    rw [back_all] at hA4
    have HA4 := Lib.hid hA4
    have HK4 := Lib.hid hk4
    clear hA4 hk4
    go_wp2
    go_ret
    exact ⟨0, 0, 28, s3, rfl, HTK.out, HCL.out.keep fun k hk => HK4.out _ (hqS k hk), HA4.out, HK3.out.trans (HK4.out.less fun k hk => hk.1)⟩
  · obtain ⟨_, _, rfl⟩ : _ ∧ _ ∧ er = 0 := by simpa using u6
    clear hcl hA3 hk3 u1 u2 u3 u4 u5 u6 u7
    go_wp2
    go_ret
    exact ⟨x, n, 0, s3, rfl, HTK.out, HCL.out, HA3.out, HK3.out⟩
set_option maxRecDepth 100000 in
set_option maxHeartbeats 2000000 in
theorem blocks_own (h : AS a B S w b db s) (hs : Says s A) (hBw : B ≤ w.heap.size) (hT : Tab a) (hload : s.load + 60 ≤ 1073741824) (goal want : Int) (hw1 : 1 ≤ want) :
    Calls Tryz.prog 11 #[.pointer (some ⟨b, 0, none⟩), .int .i64 goal, .int .i64 want] w fun e w' => ∃ v s', e = .returned v ∧ Took 16 A s goal want v s' ∧ AS a B S w' b db s' ∧ Kp S w w' := by
  have hB4 : Below w.heap.size w ((((w.alloc (.cells #[.int .i64 goal] 3)).alloc (.cells #[.int .i64 want] 3)).alloc (.cells #[.int .i64 0] 3)).alloc (.cells #[.int .i64 0] 3)) := by
    refine ((((Below.refl _ _).alloc (Nat.le_refl _) _).alloc ?_ _).alloc ?_ _).alloc ?_ _ <;> simp <;> omega
  have hcl : Cl ((((w.alloc (.cells #[.int .i64 goal] 3)).alloc (.cells #[.int .i64 want] 3)).alloc (.cells #[.int .i64 0] 3)).alloc (.cells #[.int .i64 0] 3)) w.heap.size goal want 0 0 := by
    have h0 := rowV_new w [.int .i64 goal] 3
    have h1 := rowV_new (w.alloc (.cells #[.int .i64 goal] 3)) [.int .i64 want] 3
    have h2 := rowV_new ((w.alloc (.cells #[.int .i64 goal] 3)).alloc (.cells #[.int .i64 want] 3)) [.int .i64 0] 3
    have h3 := rowV_new (((w.alloc (.cells #[.int .i64 goal] 3)).alloc (.cells #[.int .i64 want] 3)).alloc (.cells #[.int .i64 0] 3)) [.int .i64 0] 3
    simp only [World.size_alloc, Nat.add_assoc, Nat.reduceAdd] at h1 h2 h3
    exact ⟨((h0.alloc _).alloc _).alloc _, (h1.alloc _).alloc _, h2.alloc _, h3⟩
  have H0 := Lib.hid (h.also hB4)
  have HK0 := Lib.hid (h.kp hB4)
  have H := Lib.hid h
  have hsz : ((((w.alloc (.cells #[.int .i64 goal] 3)).alloc (.cells #[.int .i64 want] 3)).alloc (.cells #[.int .i64 0] 3)).alloc (.cells #[.int .i64 0] 3)).heap.size = w.heap.size + 4 := by simp
  have HC := Lib.hid (whole_blocks (h.also hB4) hs (Nat.le_trans hBw hB4.size) hT hload goal want hw1 w.heap.size hcl (fun k hk => .inr ⟨by omega, by omega⟩) h.below.size)
  clear h hs hT hcl hB4
  go_enter Tryz.func11, Tryz.ntmps11
  go_wp2_with fail
  simp only [Nat.add_assoc, Nat.reduceAdd]
  refine HC.out.mono ?_
  rintro e w1 ⟨x, n, er, s', rfl, htk, hcl, hA, hk⟩
  have y2 := rowc hcl.b2 0 rfl
  have y3 := rowc hcl.b3 0 rfl
  have HA := Lib.hid hA
  have HK := Lib.hid hk
  have HTK := Lib.hid htk
  clear hcl hA hk htk
  go_wp2_with fail
  go_quiet (fail)
  go_wp2
  go_ret3
  exact ⟨_, s', rfl, HTK.out, (HA.out.drewN nq).less fun q hq => .inl hq, (HK0.out.trans (HK.out.less fun k hk => ⟨.inl hk, by have := H.out.there _ hk; omega, by have := H.out.there _ hk; omega⟩)).trans (Kp.drewN _ _ nq)⟩
end
end Go.Proofs.YtgkindoidmglnaaGreatDoor.ABlocks
/- The allocator: Free, from its store on. -/
namespace Go.Proofs.YtgkindoidmglnaaGreatDoor.AFree
open Go.RowKit Go.Shelf WMem WPlain WAppend WCrc WSeal TPlain TBits TSet TTurn TFace TTurnF TSame TFind TFacts GPlain GGeo GGeo2 GFace Ext Map DPlain DMem EPlain EMem EFace EBack EAny SPlain QPlain QMem QChunk APlain AMem AGeo AOpen ATurn ACount ATake ABlocks AGivA AGive

section
variable {a w : World} {B : Nat} {S : Nat → Prop} {b db : Nat} {s : Sto} {A : Al} {lb gb c : Nat}
/-- the two boxes over which the closure stands -/
structure Cl2 (w : World) (q : Nat) (x y : Int) : Prop where
  b0 : RowV w q 3 [.int .i64 x]
  b1 : RowV w (q + 1) 3 [.int .i64 y]
theorem Cl2.keep {w w' : World} {q : Nat} {x y : Int} (h : Cl2 w q x y) (hk : ∀ k, k < 2 → w'.heap[q + k]? = w.heap[q + k]?) : Cl2 w' q x y :=
  ⟨(hk 0 (by omega)).trans h.b0, (hk 1 (by omega)).trans h.b1⟩
set_option maxRecDepth 100000 in
set_option maxHeartbeats 2000000 in
theorem free1_own (h : AS a B S w b db s) (hs : Says s A) (hL : Led w lb gb c b A A.gs A.fb A.fi) (hS1 : S lb) (hS2 : S gb) (ha1 : a.heap.size ≤ lb) (ha2 : a.heap.size ≤ gb) (hT : Tab a) (hload : s.load + 3000 ≤ 1073741824) (first n : Int) (hff : Fits first)
    (q : Nat) (hq : Cl2 w q first n) :
    Calls Tryz.prog 31 #[.pointer (some ⟨lb, 0, none⟩), .pointer (some ⟨q, 0, none⟩), .pointer (some ⟨q + 1, 0, none⟩)] w fun e w' => ∃ er s', e = .returned (.int .i64 er) ∧
      Gave 1 A s first n er s' ∧ AS a B S w' b db s' ∧ Kp (fun k => S k ∧ k ≠ lb ∧ k ≠ gb) w w' := by
  have HC := Lib.hid (give_own h hs hL hS1 hS2 ha1 ha2 hT hload first n hff)
  have x0 := rowc hq.b0 0 rfl
  have x1 := rowc hq.b1 0 rfl
  clear h hs hL hT hq
  go_enter Tryz.func31, Tryz.ntmps31
  go_wp2_with fail
  refine HC.out.mono ?_
  rintro e w1 ⟨er, s', rfl, hg, hA, hk⟩
  go_wp2
  go_ret
  exact ⟨er, s', rfl, hg, hA, hk⟩
set_option maxRecDepth 100000 in
set_option maxHeartbeats 2000000 in
theorem whole_free (h : AS a B S w b db s) (hs : Says s A) (hT : Tab a) (hload : s.load + 3100 ≤ 1073741824) (first n : Int) (hff : Fits first) (q : Nat) (hq : Cl2 w q first n) (hqS : ∀ k, k < 2 → S (q + k)) :
    Calls Tryz.prog 28 #[.pointer (some ⟨b, 0, none⟩), .func (.func 31) #[] #[.pointer (some ⟨q, 0, none⟩), .pointer (some ⟨q + 1, 0, none⟩)]] w fun e w' => ∃ er s', e = .returned (.int .i64 er) ∧
      Gave 3 A s first n er s' ∧ AS a B S w' b db s' ∧ Kp S w w' := by
  have HO := Lib.hid (open_own h hs hT (by omega))
  have H := Lib.hid h
  have HS := Lib.hid hs
  have HT := Lib.hid hT
  have HQ := Lib.hid hq
  clear h hs hT hq
  go_enter Tryz.func28, Tryz.ntmps28
  go_wp2_with fail
  refine HO.out.mono ?_
  rintro e w1 ⟨lb, gb, c, s1, rfl, hl1, hl2, hL, hA, hk, hr⟩
  have HL := Lib.hid hL
  have HA := Lib.hid hA
  have HK := Lib.hid hk
  have HR := Lib.hid hr
  have hlt := hL.lt
  have hld := hr.load
  clear hL hA hk hr
  go_wp2_with fail
  refine (a_mark HA.out (by omega)).mono ?_
  rintro e w2 ⟨rfl, rfl⟩
  go_wp2_with fail
  refine (free1_own HA.out (HS.out.rd HR.out) HL.out (.inr (.inl rfl)) (.inr (.inr rfl)) (Nat.le_trans H.out.below.size hl1) (Nat.le_trans H.out.below.size hl2) HT.out (by omega) first n hff q (HQ.out.keep fun k hk => HK.out _ (hqS k hk))).mono ?_
  rintro e w3 ⟨er, s3, rfl, htk, hA3, hk3⟩
  have HK3 : Hid (Kp S w w3) := Lib.hid (HK.out.trans (hk3.less fun k hk => ⟨.inl hk, by have := H.out.there _ hk; omega, by have := H.out.there _ hk; omega⟩))
  have HTK := Lib.hid (htk.pre HR.out)
  have HA3 := Lib.hid (hA3.less (S' := S) fun k hk => .inl hk)
  rcases htk with ⟨u1, u2, u3⟩ | ⟨u1, _⟩
  · have hact : s1.acts.length = s3.acts.length := by rw [u3.acts]
    have hl3 := u3.load
    have HACT := Lib.hid hact
    have d1 : decide (er = 0) = false := by simp; exact u1
    clear hA3 hk3 u2 u3
    go_wp2_with fail
    try rw [HACT.out]
    refine (a_back HA3.out s3.acts.length (Nat.le_refl _) (by omega)).mono ?_
    rintro e w4 ⟨rfl, hA4, hk4⟩
    rw [back_all] at hA4
    have HA4 := Lib.hid hA4
    have HK4 := Lib.hid hk4
    clear hA4 hk4
    go_wp2
    go_ret
    exact ⟨er, s3, rfl, HTK.out, HA4.out, HK3.out.trans HK4.out⟩
  · subst u1
    clear hA3 hk3
    go_wp2
    go_ret
    exact ⟨0, s3, rfl, HTK.out, HA3.out, HK3.out⟩
set_option maxRecDepth 100000 in
set_option maxHeartbeats 2000000 in
theorem free_own (h : AS a B S w b db s) (hs : Says s A) (hT : Tab a) (hload : s.load + 3100 ≤ 1073741824) (first n : Int) (hff : Fits first) :
    Calls Tryz.prog 13 #[.pointer (some ⟨b, 0, none⟩), .int .i64 first, .int .i64 n] w fun e w' => ∃ er s', e = .returned (.int .i64 er) ∧ Gave 3 A s first n er s' ∧ AS a B S w' b db s' ∧ Kp S w w' := by
  have hB2 : Below w.heap.size w ((w.alloc (.cells #[.int .i64 first] 3)).alloc (.cells #[.int .i64 n] 3)) := by
    refine ((Below.refl _ _).alloc (Nat.le_refl _) _).alloc ?_ _; simp
  have hcl : Cl2 ((w.alloc (.cells #[.int .i64 first] 3)).alloc (.cells #[.int .i64 n] 3)) w.heap.size first n := by
    have h0 := rowV_new w [.int .i64 first] 3
    have h1 := rowV_new (w.alloc (.cells #[.int .i64 first] 3)) [.int .i64 n] 3
    simp only [World.size_alloc] at h1
    exact ⟨h0.alloc _, h1⟩
  have HK0 := Lib.hid (h.kp hB2)
  have H := Lib.hid h
  have hsz : ((w.alloc (.cells #[.int .i64 first] 3)).alloc (.cells #[.int .i64 n] 3)).heap.size = w.heap.size + 2 := by simp
  have HC := Lib.hid (whole_free (h.also hB2) hs hT hload first n hff w.heap.size hcl (fun k hk => .inr ⟨by omega, by omega⟩))
  clear h hs hT hcl hB2
  go_enter Tryz.func13, Tryz.ntmps13
  go_wp2_with fail
  refine HC.out.mono ?_
  rintro e w1 ⟨er, s', rfl, htk, hA, hk⟩
  have HA := Lib.hid hA
  have HK := Lib.hid hk
  have HTK := Lib.hid htk
  clear hA hk htk
  go_wp2
  go_ret
  exact ⟨_, s', rfl, HTK.out, HA.out.less fun q hq => .inl hq, HK0.out.trans (HK.out.less fun k hk => .inl hk)⟩
end
end Go.Proofs.YtgkindoidmglnaaGreatDoor.AFree
/- The allocator: what the first block says (Super, Left); Blocks with less than one. -/
namespace Go.Proofs.YtgkindoidmglnaaGreatDoor.ALeft
open Go.RowKit Go.Shelf WMem WPlain WAppend WCrc WSeal TPlain TBits TSet TTurn TFace TTurnF TSame TFind TFacts GPlain GGeo GGeo2 GFace Ext Map DPlain DMem EPlain EMem EFace EBack EAny SPlain QPlain QMem QChunk APlain AMem AGeo AOpen ATurn ACount ATake ABlocks

section
variable {a w : World} {B : Nat} {S : Nat → Prop} {b db : Nat} {s : Sto} {A : Al} {lb gb c : Nat}
/-- what the first block says, as a value -/
def supV (A : Al) : Value := .agg #[.int .i64 A.b, .int .i64 A.p, .int .i64 A.n, .int .i64 A.j, .int .i64 A.fb, .int .i64 A.fi, .int .i64 A.oo, .int .i64 A.mo, .bool A.cl]
def supC (A : Al) : List Value := [.int .i64 A.b, .int .i64 A.p, .int .i64 A.n, .int .i64 A.j, .int .i64 A.fb, .int .i64 A.fi, .int .i64 A.oo, .int .i64 A.mo, .bool A.cl]
set_option maxRecDepth 100000 in
set_option maxHeartbeats 4000000 in
theorem super_face (h : AS a B S w b db s) (hs : Says s A) (hT : Tab a) (hload : s.load + 20 ≤ 1073741824) :
    Calls Tryz.prog 41 #[.pointer (some ⟨b, 0, none⟩)] w fun e w' => ∃ s', e = .returned (.tuple #[supV A, .int .i64 0]) ∧ Rd s s' 2 ∧ AS a B S w' b db s' ∧ Kp S w w' := by
  have hb0 := below_box (w := w) (.cells #[.int .i64 0, .int .i64 0, .int .i64 0, .int .i64 0, .int .i64 0, .int .i64 0, .int .i64 0, .int .i64 0, .bool false] 89)
  have r0 := rowV_new w [.int .i64 0, .int .i64 0, .int .i64 0, .int .i64 0, .int .i64 0, .int .i64 0, .int .i64 0, .int .i64 0, .bool false] 89
  have HO := Lib.hid (open_own (h.also hb0) hs hT (by omega))
  have hsz : (w.alloc (.cells #[.int .i64 0, .int .i64 0, .int .i64 0, .int .i64 0, .int .i64 0, .int .i64 0, .int .i64 0, .int .i64 0, .bool false] 89)).heap.size = w.heap.size + 1 := by simp
  have H := Lib.hid h
  have HB0 := Lib.hid hb0
  have R0 := Lib.hid r0
  clear h hs hT hb0 r0
  go_enter Tryz.func41, Tryz.ntmps41
  go_wp2_with fail
  refine HO.out.mono ?_
  rintro e w1 ⟨lb, gb, c, s1, rfl, hl1, hl2, hL, hA, hk, hr⟩
  have r1 : RowV w1 w.heap.size 89 _ := (hk _ (.inr ⟨Nat.le_refl _, by rw [hsz]; omega⟩)).trans R0.out
  obtain ⟨-, c1, c2, c3, c4, c5, c6, c7, c8, c9, -⟩ := hL.cs
  have gf := r1.free
  have y0 := rowc r1 0 rfl
  have y1 := rowc r1 1 rfl
  have y2 := rowc r1 2 rfl
  have y3 := rowc r1 3 rfl
  have y4 := rowc r1 4 rfl
  have y5 := rowc r1 5 rfl
  have y6 := rowc r1 6 rfl
  have y7 := rowc r1 7 rfl
  have y8 := rowc r1 8 rfl
  have HA := Lib.hid hA
  have HK := Lib.hid hk
  have HR := Lib.hid hr
  have R1 := Lib.hid r1
  clear hL hA hk hr
  go_wp2
  have F := Lib.hid (((((((((R1.out.set 0 (.int .i64 A.b)).set 1 (.int .i64 A.p)).set 2 (.int .i64 A.n)).set 3 (.int .i64 A.j)).set 4 (.int .i64 A.fb)).set 5 (.int .i64 A.fi)).set 6 (.int .i64 A.oo)).set 7 (.int .i64 A.mo)).set 8 (.bool A.cl))
  have f0 := rowc F.out 0 rfl
  have f1 := rowc F.out 1 rfl
  have f2 := rowc F.out 2 rfl
  have f3 := rowc F.out 3 rfl
  have f4 := rowc F.out 4 rfl
  have f5 := rowc F.out 5 rfl
  have f6 := rowc F.out 6 rfl
  have f7 := rowc F.out 7 rfl
  have f8 := rowc F.out 8 rfl
  refine bodyPost_ret_by (v := .tuple #[supV A, .int .i64 0]) (by simp [results, Tryz.results41, go_sem, supV, f0, f1, f2, f3, f4, f5, f6, f7, f8]; try rfl) rfl ?_
  have ha : a.heap.size ≤ w.heap.size := H.out.below.size
  have hin : (fun q => ((S q ∨ (w.heap.size ≤ q ∧ q < (w.alloc (.cells #[.int .i64 0, .int .i64 0, .int .i64 0, .int .i64 0, .int .i64 0, .int .i64 0, .int .i64 0, .int .i64 0, .bool false] 89)).heap.size)) ∨ q = lb ∨ q = gb)) w.heap.size := .inl (.inr ⟨Nat.le_refl _, by rw [hsz]; omega⟩)
  have hnS : ¬ S w.heap.size := fun hq => Nat.lt_irrefl _ (H.out.there _ hq)
  have HKW : Kp S w w1 := (H.out.kp HB0.out).trans (HK.out.less fun q hq => .inl hq)
  exact ⟨s1, rfl, HR.out, ((((((((((HA.out.cell ⟨w.heap.size, 0, none⟩ (.int .i64 A.b) hin ha).cell ⟨w.heap.size, 1, none⟩ (.int .i64 A.p) hin ha).cell ⟨w.heap.size, 2, none⟩ (.int .i64 A.n) hin ha).cell ⟨w.heap.size, 3, none⟩ (.int .i64 A.j) hin ha).cell ⟨w.heap.size, 4, none⟩ (.int .i64 A.fb) hin ha).cell ⟨w.heap.size, 5, none⟩ (.int .i64 A.fi) hin ha).cell ⟨w.heap.size, 6, none⟩ (.int .i64 A.oo) hin ha).cell ⟨w.heap.size, 7, none⟩ (.int .i64 A.mo) hin ha).cell ⟨w.heap.size, 8, none⟩ (.bool A.cl) hin ha)).less fun q hq => .inl (.inl hq), (((((((((HKW.trans (Kp.cell _ ⟨w.heap.size, 0, none⟩ _ hnS)).trans (Kp.cell _ ⟨w.heap.size, 1, none⟩ _ hnS)).trans (Kp.cell _ ⟨w.heap.size, 2, none⟩ _ hnS)).trans (Kp.cell _ ⟨w.heap.size, 3, none⟩ _ hnS)).trans (Kp.cell _ ⟨w.heap.size, 4, none⟩ _ hnS)).trans (Kp.cell _ ⟨w.heap.size, 5, none⟩ _ hnS)).trans (Kp.cell _ ⟨w.heap.size, 6, none⟩ _ hnS)).trans (Kp.cell _ ⟨w.heap.size, 7, none⟩ _ hnS)).trans (Kp.cell _ ⟨w.heap.size, 8, none⟩ _ hnS))⟩
set_option maxRecDepth 100000 in
set_option maxHeartbeats 2000000 in
theorem left_face (h : AS a B S w b db s) (hs : Says s A) (hT : Tab a) (hload : s.load + 20 ≤ 1073741824) :
    Calls Tryz.prog 18 #[.pointer (some ⟨b, 0, none⟩)] w fun e w' => ∃ s', e = .returned (.tuple #[.int .i64 (A.fb : Nat), .int .i64 (A.fi : Nat), .int .i64 0]) ∧ Rd s s' 2 ∧ AS a B S w' b db s' ∧ Kp S w w' := by
  have HO := Lib.hid (super_face h hs hT hload)
  unfold supV at HO
  have H := Lib.hid h
  clear h hs hT
  go_enter Tryz.func18, Tryz.ntmps18
  go_wp2_with fail
  refine HO.out.mono ?_
  rintro e w1 ⟨s1, rfl, hr, hA, hk⟩
  have HB1 := Lib.hid (below_box (w := w1) (.cells #[.int .i64 A.b, .int .i64 A.p, .int .i64 A.n, .int .i64 A.j, .int .i64 A.fb, .int .i64 A.fi, .int .i64 A.oo, .int .i64 A.mo, .bool A.cl] 89))
  have r1 := rowV_new w1 [.int .i64 A.b, .int .i64 A.p, .int .i64 A.n, .int .i64 A.j, .int .i64 A.fb, .int .i64 A.fi, .int .i64 A.oo, .int .i64 A.mo, .bool A.cl] 89
  have x4 := rowc r1 4 rfl
  have x5 := rowc r1 5 rfl
  have HA := Lib.hid hA
  have HK := Lib.hid hk
  have HR := Lib.hid hr
  clear r1 hA hk hr
  go_wp2_with fail
  go_region
  go_wp2
  go_ret3
  exact ⟨s1, rfl, HR.out, ((HA.out.also HB1.out).drewN 1).less fun q hq => .inl hq, (HK.out.trans (HA.out.kp HB1.out)).trans (Kp.drewN _ _ 1)⟩
set_option maxRecDepth 100000 in
set_option maxHeartbeats 2000000 in
theorem blocks1_small (h : AS a B S w b db s) (lb : Nat) (goal want : Int) (hw1 : want < 1)
    (q : Nat) (hq : Cl w q goal want 0 0) (hqS : ∀ k, k < 4 → S (q + k)) (hqa : a.heap.size ≤ q) :
    Calls Tryz.prog 29 #[.pointer (some ⟨lb, 0, none⟩), .pointer (some ⟨q, 0, none⟩), .pointer (some ⟨q + 1, 0, none⟩), .pointer (some ⟨q + 2, 0, none⟩), .pointer (some ⟨q + 3, 0, none⟩)] w fun e w' => e = .returned (.int .i64 22) ∧
      Cl w' q goal want 0 0 ∧ AS a B S w' b db s ∧ Kp (fun k => S k ∧ k ≠ q + 2 ∧ k ≠ q + 3) w w' := by
  have HC := Lib.hid (take_small lb goal want hw1 w)
  have x0 := rowc hq.b0 0 rfl
  have x1 := rowc hq.b1 0 rfl
  have HQ := Lib.hid hq
  have H := Lib.hid h
  clear h hq
  go_enter Tryz.func29, Tryz.ntmps29
  go_wp2_with fail
  refine HC.out.mono ?_
  rintro e w1 ⟨rfl, hb⟩
  have hq1 : Cl w1 q goal want 0 0 := HQ.out.keep fun k hk4 => hb.block _ (H.out.there _ (hqS k hk4))
  have y2 := rowc hq1.b2 0 rfl
  have y3 := rowc hq1.b3 0 rfl
  have g2 := hq1.b2.free
  have g3 := hq1.b3.free
  have HQ1 := Lib.hid hq1
  have HA : Hid (AS a B S w1 b db s) := Lib.hid ((H.out.also hb).less fun q hq => .inl hq)
  have HK := Lib.hid (H.out.kp hb)
  clear hq1 hb
  go_wp2
  go_ret
  refine ⟨rfl, ⟨?_, ?_, ?_, ?_⟩, (HA.out.cell ⟨q + 2, 0, none⟩ (.int .i64 0) (hqS 2 (by omega)) (by show a.heap.size ≤ q + 2; omega)).cell ⟨q + 3, 0, none⟩ (.int .i64 0) (hqS 3 (by omega)) (by show a.heap.size ≤ q + 3; omega), ?_⟩
  · exact rowV_far (rowV_far HQ1.out.b0 ⟨q + 2, 0, none⟩ (.int .i64 0) (by simp)) ⟨q + 3, 0, none⟩ (.int .i64 0) (by simp)
  · exact rowV_far (rowV_far HQ1.out.b1 ⟨q + 2, 0, none⟩ (.int .i64 0) (by simp)) ⟨q + 3, 0, none⟩ (.int .i64 0) (by simp)
  · exact rowV_far (HQ1.out.b2.set 0 (.int .i64 0)) ⟨q + 3, 0, none⟩ (.int .i64 0) (by simp)
  · exact (rowV_far HQ1.out.b3 ⟨q + 2, 0, none⟩ (.int .i64 0) (by simp)).set 0 (.int .i64 0)
  · exact ((HK.out.less fun k hk => hk.1).trans fun k hk => Below.heap_setCell _ ⟨q + 2, 0, none⟩ _ k hk.2.1).trans fun k hk => Below.heap_setCell _ ⟨q + 3, 0, none⟩ _ k hk.2.2
set_option maxRecDepth 100000 in
set_option maxHeartbeats 2000000 in
theorem whole_small (h : AS a B S w b db s) (hs : Says s A) (hT : Tab a) (hload : s.load + 60 ≤ 1073741824) (goal want : Int) (hw1 : want < 1) (q : Nat) (hq : Cl w q goal want 0 0) (hqS : ∀ k, k < 4 → S (q + k)) (hqa : a.heap.size ≤ q) :
    Calls Tryz.prog 28 #[.pointer (some ⟨b, 0, none⟩), .func (.func 29) #[] #[.pointer (some ⟨q, 0, none⟩), .pointer (some ⟨q + 1, 0, none⟩), .pointer (some ⟨q + 2, 0, none⟩), .pointer (some ⟨q + 3, 0, none⟩)]] w fun e w' => ∃ s', e = .returned (.int .i64 22) ∧
      Rd s s' 2 ∧ Cl w' q goal want 0 0 ∧ AS a B S w' b db s' ∧ Kp (fun k => S k ∧ k ≠ q + 2 ∧ k ≠ q + 3) w w' := by
  have HO := Lib.hid (open_own h hs hT (by omega))
  have H := Lib.hid h
  have HQ := Lib.hid hq
  clear h hs hT hq
  go_enter Tryz.func28, Tryz.ntmps28
  go_wp2_with fail
  refine HO.out.mono ?_
  rintro e w1 ⟨lb, gb, c, s1, rfl, hl1, hl2, hL, hA, hk, hr⟩
  have HA := Lib.hid hA
  have HK := Lib.hid hk
  have HR := Lib.hid hr
  have hld := hr.load
  clear hL hA hk hr
  go_wp2_with fail
  refine (a_mark HA.out (by omega)).mono ?_
  rintro e w2 ⟨rfl, rfl⟩
  go_wp2_with fail
  refine (blocks1_small HA.out lb goal want hw1 q (HQ.out.keep fun k hk => HK.out _ (hqS k hk)) (fun k hk => .inl (hqS k hk)) hqa).mono ?_
  rintro e w3 ⟨rfl, hcl, hA3, hk3⟩
  have HK3 : Hid (Kp (fun k => S k ∧ k ≠ q + 2 ∧ k ≠ q + 3) w w3) := Lib.hid ((HK.out.less fun k hk => hk.1).trans (hk3.less fun k hk => ⟨.inl hk.1, hk.2⟩))
  have HCL := Lib.hid hcl
  have HA3 := Lib.hid (hA3.less (S' := S) fun k hk => .inl hk)
  clear hcl hA3 hk3
  go_wp2_with fail
  refine (a_back HA3.out s1.acts.length (Nat.le_refl _) (by omega)).mono ?_
  rintro e w4 ⟨rfl, hA4, hk4⟩
  rw [back_all] at hA4
  have HA4 := Lib.hid hA4
  have HK4 := Lib.hid hk4
  clear hA4 hk4
  go_wp2
  go_ret
  exact ⟨s1, rfl, HR.out, HCL.out.keep fun k hk => HK4.out _ (hqS k hk), HA4.out, HK3.out.trans (HK4.out.less fun k hk => hk.1)⟩
set_option maxRecDepth 100000 in
set_option maxHeartbeats 2000000 in
theorem blocks_small (h : AS a B S w b db s) (hs : Says s A) (hT : Tab a) (hload : s.load + 60 ≤ 1073741824) (goal want : Int) (hw1 : want < 1) :
    Calls Tryz.prog 11 #[.pointer (some ⟨b, 0, none⟩), .int .i64 goal, .int .i64 want] w fun e w' => ∃ s', e = .returned (.tuple #[.int .i64 0, .int .i64 0, .int .i64 22]) ∧ Rd s s' 2 ∧ AS a B S w' b db s' ∧ Kp S w w' := by
  have hB4 : Below w.heap.size w ((((w.alloc (.cells #[.int .i64 goal] 3)).alloc (.cells #[.int .i64 want] 3)).alloc (.cells #[.int .i64 0] 3)).alloc (.cells #[.int .i64 0] 3)) := by
    refine ((((Below.refl _ _).alloc (Nat.le_refl _) _).alloc ?_ _).alloc ?_ _).alloc ?_ _ <;> simp <;> omega
  have hcl : Cl ((((w.alloc (.cells #[.int .i64 goal] 3)).alloc (.cells #[.int .i64 want] 3)).alloc (.cells #[.int .i64 0] 3)).alloc (.cells #[.int .i64 0] 3)) w.heap.size goal want 0 0 := by
    have h0 := rowV_new w [.int .i64 goal] 3
    have h1 := rowV_new (w.alloc (.cells #[.int .i64 goal] 3)) [.int .i64 want] 3
    have h2 := rowV_new ((w.alloc (.cells #[.int .i64 goal] 3)).alloc (.cells #[.int .i64 want] 3)) [.int .i64 0] 3
    have h3 := rowV_new (((w.alloc (.cells #[.int .i64 goal] 3)).alloc (.cells #[.int .i64 want] 3)).alloc (.cells #[.int .i64 0] 3)) [.int .i64 0] 3
    simp only [World.size_alloc, Nat.add_assoc, Nat.reduceAdd] at h1 h2 h3
    exact ⟨((h0.alloc _).alloc _).alloc _, (h1.alloc _).alloc _, h2.alloc _, h3⟩
  have HK0 := Lib.hid (h.kp hB4)
  have H := Lib.hid h
  have hsz : ((((w.alloc (.cells #[.int .i64 goal] 3)).alloc (.cells #[.int .i64 want] 3)).alloc (.cells #[.int .i64 0] 3)).alloc (.cells #[.int .i64 0] 3)).heap.size = w.heap.size + 4 := by simp
  have HC := Lib.hid (whole_small (h.also hB4) hs hT hload goal want hw1 w.heap.size hcl (fun k hk => .inr ⟨by omega, by omega⟩) h.below.size)
  clear h hs hT hcl hB4
  go_enter Tryz.func11, Tryz.ntmps11
  go_wp2_with fail
  simp only [Nat.add_assoc, Nat.reduceAdd]
  refine HC.out.mono ?_
  rintro e w1 ⟨s', rfl, hr, hcl, hA, hk⟩
  have y2 := rowc hcl.b2 0 rfl
  have y3 := rowc hcl.b3 0 rfl
  have HA := Lib.hid hA
  have HK := Lib.hid hk
  have HR := Lib.hid hr
  clear hcl hA hk hr
  go_wp2_with fail
  go_quiet (fail)
  go_wp2
  go_ret3
  exact ⟨s', rfl, HR.out, (HA.out.drewN nq).less fun q hq => .inl hq, (HK0.out.trans (HK.out.less fun k hk => ⟨.inl hk, by have := H.out.there _ hk; omega, by have := H.out.there _ hk; omega⟩)).trans (Kp.drewN _ _ nq)⟩
end
end Go.Proofs.YtgkindoidmglnaaGreatDoor.ALeft
/- The allocator: what was taken and is given back, in plain mathematics. -/
namespace Go.Proofs.YtgkindoidmglnaaGreatDoor.ABackM
open Go.RowKit WMem WPlain WCrc WSeal TPlain TBits TSet TTurn TFace TTurnF TFind TFacts GPlain DPlain EPlain SPlain QPlain APlain AMem AGeo ARound ATake AGivA AMake1 AEmpty AMake3 ASays

section
variable {A : Al} {s s' s1 : Sto} {goal want : Int} {k i x n : Nat} {l : Bk}
/-- on an empty disk every group has something -/
theorem ok_empty (hE : A = empty A.b A.p A.n A.j) (hM : May A.b A.p A.n A.j) (hi : i < A.ng) (hw : 1 ≤ want) {hld : Nat → Bool} (hh : ∀ q, hld q = false) : ok1 A hld goal want i = true := by
  cases ho : ok1 A hld goal want i with
  | true => rfl
  | false =>
    have hF := fine_of hE hM
    have g := geo hM hi
    have h6 := g.a6
    have h7 := g.a7
    rcases ok1_none hF hi hw ho (A.own i) h6 with h | h | h
    · have e : A.bm i = turnL (newB (A.size i) (A.bat i)) (0 : Nat) (A.own i : Nat) (A.bat i) := congrArg (fun a => Al.bm a i) hE
      rw [e, fr_turn (newB_len _ _) 0 (A.own i) (A.bat i) (k := A.own i) (by omega), fr_new h7, decide_eq_true h6, decide_eq_false (by omega)] at h
      cases h
    · omega
    · rw [hh] at h; cases h
theorem setB_back (A : Al) (i : Nat) (l : Bk) : (A.setB i l).setB i (A.bm i) = A := by
  cases A
  simp only [Al.setB, Al.mk.injEq, true_and, and_true]
  funext q
  by_cases e : q = i
  · rw [if_pos e, e]
  · rw [if_neg e, if_neg e]
theorem took_facts (hs : Says s A) (u1 : upFrom (fun k => ok1 A s.now.hld goal want (gth A goal k)) 0 A.ng = some k) (hi : i < A.ng) (u2 : gth A goal k = i) (u3 : at1 A s.now.hld goal want i = x) (u4 : ct1 A s.now.hld goal want i = n) (u5 : turnL (A.bm i) x n (A.bat i) = l)
    (r : Rd s s1 16) (e : s' = ((s1.write (A.bat i) l).write 1 (A.setB i l).grps).write 0 (A.setB i l).sup) :
    1 ≤ n ∧ x + n ≤ A.size i ∧ Says s' (A.setB i l) ∧ s'.load ≤ s.load + 19 ∧ s'.now.hld = s.now.hld ∧ (A.setB i l).fb + n = A.fb ∧ GoodB (A.setB i l) (A.at_ i + x : Nat) n i x n := by
  have hF := hs.fine
  have hM := hF.may
  have g := geo hM hi
  have h7 := g.a7
  obtain ⟨_, _, ho, _⟩ := upFrom_some u1
  simp only [u2] at ho
  obtain ⟨-, -, f1, f2, f3, f4⟩ := ok1_facts hF hi ho
  rw [u3, u4] at f3 f4
  rw [u4] at f1
  have hlen := (map_of (hF.bm i hi)).1
  have hfr : ∀ q, fr l q = (fr (A.bm i) q != decide (x ≤ q ∧ q < x + n)) := fun q => by rw [← u5, fr_turn hlen x n (A.bat i) (by omega)]
  have hox : A.own i ≤ x := (f4 0 (by omega)).2.1
  have hfine : (A.setB i l).Fine := by
    refine setB_fine hF (fun _ => ?_) (fun q hq => ?_)
    · rw [← u5]
      exact turn_map (hF.bm i hi) f3 h7
    · rw [hfr, hF.fx i hi q hq, decide_eq_false (by omega)]
      rfl
  have hz : TBits.zeros l + n = TBits.zeros (A.bm i) := by
    rw [← u5]
    exact turn_take hlen (A.bat i) (by omega) (fun q hq => (f4 q hq).1)
  have hsum := setB_fb l hi
  refine ⟨f1, f3, ?_, ?_, ?_, by omega, ⟨hi, rfl, rfl, f1, hox, f3, fun q hq => ?_⟩⟩
  · rw [e]
    exact (hs.rd r).putB hi hfine
  · rw [e]
    have h1 := Sto.load_write ((s1.write (A.bat i) l).write 1 (A.setB i l).grps) 0 (A.setB i l).sup
    have h2 := Sto.load_write (s1.write (A.bat i) l) 1 (A.setB i l).grps
    have h3 := Sto.load_write s1 (A.bat i) l
    have h4 := r.load
    omega
  · rw [e]
    show s1.now.hld = s.now.hld
    rw [r.now]
  · show fr ((A.setB i l).bm i) (x + q) = false
    have e2 : (A.setB i l).bm i = l := by simp [Al.setB]
    rw [e2, hfr, (f4 q hq).1, decide_eq_true (by omega)]
    rfl
theorem gave_facts (hs : Says s (A.setB i l)) (hA : A.Fine) (hi : i < A.ng) (u5 : turnL (A.bm i) x n (A.bat i) = l) (hxn : x + n ≤ A.size i) (hg : GoodB (A.setB i l) (A.at_ i + x : Nat) n i x n) {er : Int} (h : Gave 3 (A.setB i l) s (A.at_ i + x : Nat) n er s') :
    er = 0 ∧ Says s' A ∧ (∀ q, s'.now.hld q = (s.now.hld q || decide (A.at_ i + x ≤ q ∧ q < A.at_ i + x + n))) ∧ s'.load ≤ s.load + n + 6 := by
  have hM := hA.may
  have h7 := (geo hM hi).a7
  rcases h with ⟨_, h2, _⟩ | ⟨rfl, i', x', m', l', s1, h2, h3, h4, h5⟩
  · exact absurd ⟨i, x, n, hg⟩ h2
  · have e1 : i = i' := (good_gof (A := A.setB i l) hM hg).symm.trans (good_gof (A := A.setB i l) hM h2)
    subst e1
    have hf2 : ((A.at_ i + x : Nat) : Int) = (A.at_ i + x' : Nat) := h2.hf
    have e2 : x = x' := by omega
    subst e2
    have hn2 : (n : Int) = (m' : Int) := h2.hn
    have e3 : n = m' := by omega
    subst e3
    have e4 : (A.setB i l).bm i = l := by simp [Al.setB]
    have e5 : l' = A.bm i := by
      rw [← h3, e4, ← u5]
      exact turn_turn (hA.bm i hi) (by omega)
    subst e5
    have hback := setB_back A i l
    refine ⟨rfl, ?_, fun q => ?_, ?_⟩
    · have h := says_to (s' := s') (hs.rd h4) hi (l := A.bm i) (by rw [hback]; exact hA) (by rw [h5]; show (holds (s1.write _ _) _ _).N = s1.N; rw [holds_N]; rfl) (by rw [h5]; exact ((holds_coh (((hs.rd h4).coh).write _ _) _ _).write _ _).write _ _) (fun m => by
        rw [h5, write_val, write_val, holds_val, write_val])
      rw [hback] at h
      exact h
    · rw [h5]
      show (holds (s1.write _ _) _ _).now.hld q = _
      rw [holds_hld]
      show (s1.now.hld q || _) = _
      rw [h4.now]
      rfl
    · rw [h5]
      have q1 := Sto.load_write ((holds (s1.write ((A.setB i l).bat i) (A.bm i)) ((A.setB i l).at_ i + x) n).write 1 ((A.setB i l).setB i (A.bm i)).grps) 0 ((A.setB i l).setB i (A.bm i)).sup
      have q2 := Sto.load_write (holds (s1.write ((A.setB i l).bat i) (A.bm i)) ((A.setB i l).at_ i + x) n) 1 ((A.setB i l).setB i (A.bm i)).grps
      have q3 := holds_load (s1.write ((A.setB i l).bat i) (A.bm i)) ((A.setB i l).at_ i + x) n
      have q4 := Sto.load_write s1 ((A.setB i l).bat i) (A.bm i)
      have q5 := h4.load
      omega
end
end Go.Proofs.YtgkindoidmglnaaGreatDoor.ABackM
/- The allocator: the document's example in plain mathematics. -/
namespace Go.Proofs.YtgkindoidmglnaaGreatDoor.AAwM
open Go.RowKit WMem WPlain WCrc WSeal TPlain TBits TSet TTurn TFace TTurnF TFind TFacts TNext TOrd GPlain DPlain EPlain SPlain QPlain APlain AMem AGeo AHad ARound ATake AGivA AMake1 AEmpty AMake3 ASays ABackM

section
variable {A : Al} {hld : Nat → Bool} {goal want : Int} {i : Nat} {F : Nat → Bool}
theorem had_fr (h : A.Fine) (hi : i < A.ng) (q : Nat) : fr (hadB A hld i) q = (fr (A.bm i) q && !(decide (q < A.size i) && (decide (q < A.own i) || hld (A.at_ i + q)))) := by
  have hb := (map_of (h.bm i hi)).1
  by_cases hq : q < 2016
  · unfold hadB
    rw [fr_had hb _ hq _ (geo h.may hi).a7]
    rfl
  · rw [fr_big (by omega), fr_big (by omega)]
    rfl
theorem ok_goal (hF : fr (hadB A hld i) = F) {g n : Nat} (hg : wi A i goal = (g : Int)) (hg2 : g < 2016) (hw : 1 ≤ want) (h1 : F g = true) (hn : run F g want.toNat = n) :
    ok1 A hld goal want i = true ∧ at1 A hld goal want i = g ∧ ct1 A hld goal want i = n := by
  have hG : goalB (hadB A hld i) (wi A i goal) = true := by
    unfold goalB
    rw [hg, Int.toNat_natCast, hF, h1, Bool.and_true]
    simp [placeB]; omega
  have hw' : ¬ want < 1 := by omega
  refine ⟨?_, ?_, ?_⟩
  · simp [ok1, fOk, hw', hG]
  · unfold at1 fI
    rw [if_neg hw', if_pos hG, hg, Int.toNat_natCast]
  · unfold ct1 fN
    rw [if_neg hw', if_pos hG, hF, hg, Int.toNat_natCast, Int.toNat_natCast]
    exact hn
theorem ok_want (hF : fr (hadB A hld i) = F) (hE : ∀ j, 256 ≤ j → F j = false) (hw : 1 ≤ want) (hg : goalB (hadB A hld i) (wi A i goal) = false) {r x n : Nat} (hp : chs (hasB fun k => cnt F k 256) (ordOf want) = (r : Int)) (hx : fst F r 256 = x) (hn : min want ((2 ^ r : Nat) : Int) = (n : Int)) :
    ok1 A hld goal want i = true ∧ at1 A hld goal want i = x ∧ ct1 A hld goal want i = n := by
  have hw' : ¬ want < 1 := by omega
  have hP : pick (hadB A hld i) want = (r : Int) := by
    unfold pick
    rw [show ordN (hadB A hld i) = fun k => cnt F k 256 from funext fun k => by unfold ordN; rw [hF, (cnt_end hE (by decide)).1]]
    exact hp
  have hP0 : ¬ ((r : Int) < 0) := by omega
  have hf : firN (hadB A hld i) r = x := by unfold firN; rw [hF, (cnt_end hE (by decide)).2]; exact hx
  refine ⟨?_, ?_, ?_⟩
  · simp [ok1, fOk, hw', hg, hP, hP0]
  · simp only [at1, fI, hw', hg, hP, hP0, if_false, Bool.false_eq_true, Int.toNat_natCast]
    exact hf
  · simp only [ct1, fN, hw', hg, hP, hP0, if_false, Bool.false_eq_true, Int.toNat_natCast]
    rw [hn]
    rfl
theorem ok_zero (hF : ∀ q, fr (hadB A hld i) q = false) : ok1 A hld goal want i = false := by
  cases h : ok1 A hld goal want i with
  | false => rfl
  | true =>
    obtain ⟨x, n, _, _, h1, _, _, h4⟩ := found h
    have := h4 0 (by omega)
    rw [hF] at this
    cases this
/-- a step of the example: what Blocks answers -/
theorem took_at {s s' : Sto} {v : Value} (hs : Says s A) (h : Took 16 A s goal want v s') {k i x n : Nat} (hk : k < A.ng) (hpre : ∀ j, j < k → ok1 A s.now.hld goal want (gth A goal j) = false) (hi : gth A goal k = i) (ho : ok1 A s.now.hld goal want i = true ∧ at1 A s.now.hld goal want i = x ∧ ct1 A s.now.hld goal want i = n) :
    v = .tuple #[.int .i64 (A.at_ i + x : Nat), .int .i64 (n : Int), .int .i64 0] ∧ Says s' (A.setB i (turnL (A.bm i) x n (A.bat i))) ∧ s'.load ≤ s.load + 19 ∧ s'.now.hld = s.now.hld ∧ GoodB (A.setB i (turnL (A.bm i) x n (A.bat i))) (A.at_ i + x : Nat) n i x n ∧ i < A.ng ∧ x + n ≤ A.size i := by
  have hu : upFrom (fun k => ok1 A s.now.hld goal want (gth A goal k)) 0 A.ng = some k := up_some hk hpre (by rw [hi]; exact ho.1)
  have hin : i < A.ng := by rw [← hi]; exact nth_lt _ (ng_le hs.fine.may).1
  rcases h with ⟨h1, _⟩ | ⟨k', i', x', n', l', h1, h2, h3, h4, h5, h6, s1, h7, h8⟩
  · rw [hu] at h1; cases h1
  · rw [hu] at h1
    injection h1 with h1
    subst h1
    have ei : i' = i := h2.symm.trans hi
    subst ei
    have ex : x' = x := h3.symm.trans ho.2.1
    subst ex
    have en : n' = n := h4.symm.trans ho.2.2
    subst en
    obtain ⟨t1, t2, t3, t4, t5, t6, t7⟩ := took_facts hs hu hin h2 h3 h4 h5 h7 h8
    rw [← h5] at t3 t7
    exact ⟨h6, t3, t4, t5, t7, hin, t2⟩
end
/-- the document's example -/
def A0 : Al := empty 300 200 16 96
theorem A0_is : A0 = empty A0.b A0.p A0.n A0.j := rfl
theorem A0_geo : A0.b = 300 ∧ A0.p = 200 ∧ A0.n = 16 ∧ A0.j = 96 := by decide +kernel
theorem A0_may : May A0.b A0.p A0.n A0.j := may_iff.1 (by decide +kernel)
theorem A0_ng : A0.ng = 2 := by decide +kernel
theorem A0_at : A0.at_ 0 = 0 ∧ A0.at_ 1 = 200 ∧ A0.size 0 = 200 ∧ A0.size 1 = 100 ∧ A0.own 0 = 108 ∧ A0.own 1 = 10 ∧ A0.bat 0 = 98 ∧ A0.bat 1 = 200 := by decide +kernel
theorem A0_fr (i : Nat) (hi : i < A0.ng) (q : Nat) : fr (A0.bm i) q = decide (A0.own i ≤ q ∧ q < A0.size i) := by
  have g := geo A0_may hi
  have h6 := g.a6
  have h7 := g.a7
  have e : A0.bm i = turnL (newB (A0.size i) (A0.bat i)) (0 : Nat) (A0.own i : Nat) (A0.bat i) := rfl
  rw [e, fr_turn (newB_len _ _) 0 (A0.own i) (A0.bat i) (k := q) (by omega), fr_new h7]
  rw [Bool.eq_iff_iff]
  by_cases h1 : q < A0.size i <;> by_cases h2 : A0.own i ≤ q <;> simp [h1, h2] <;> omega
theorem sum2 (f : Nat → Nat) (x y : Nat) (h0 : (f 0 : Int) = x) (h1 : (f 1 : Int) = y) : sumTo f 2 = x + y := by
  simp only [sumTo]
  omega
theorem A0_left : A0.fb = 182 ∧ A0.fi = 32 := by
  obtain ⟨a0, a1, s0, s1, o0, o1, -, -⟩ := A0_at
  obtain ⟨p1, p2, -⟩ := grp_is A0_is A0_may (k := 0) (by rw [A0_ng]; decide)
  obtain ⟨q1, q2, -⟩ := grp_is A0_is A0_may (k := 1) (by rw [A0_ng]; decide)
  rw [a0, s0, o0] at p1
  rw [a1, s1, o1] at q1
  rw [A0_geo.2.2.1] at p2 q2
  constructor
  · unfold Al.fb
    rw [A0_ng]
    exact sum2 _ 92 90 (p1.trans (by decide)) (q1.trans (by decide))
  · unfold Al.fi
    rw [A0_ng]
    exact sum2 _ 16 16 p2 q2
end Go.Proofs.YtgkindoidmglnaaGreatDoor.AAwM
/- The allocator: the document's example in plain mathematics: four times Blocks, once Free. -/
namespace Go.Proofs.YtgkindoidmglnaaGreatDoor.AAwB
open Go.RowKit WMem WPlain WCrc WSeal TPlain TBits TSet TTurn TFace TTurnF TFind TFacts TNext TOrd GPlain DPlain EPlain SPlain QPlain APlain AMem AGeo AHad ARound ATake AGivA AMake1 AEmpty AMake3 ASays ABackM AAwM

structure Ex (A : Al) (F0 F1 : Nat → Bool) : Prop where
  geo : A.b = 300 ∧ A.p = 200 ∧ A.n = 16 ∧ A.j = 96
  fine : A.Fine
  f0 : ∀ q, fr (A.bm 0) q = F0 q
  f1 : ∀ q, fr (A.bm 1) q = F1 q
section
variable {A : Al} {F0 F1 : Nat → Bool} {hld : Nat → Bool}
theorem Ex.at_ (h : Ex A F0 F1) : A.ng = 2 ∧ A.at_ 0 = 0 ∧ A.at_ 1 = 200 ∧ A.size 0 = 200 ∧ A.size 1 = 100 ∧ A.own 0 = 108 ∧ A.own 1 = 10 ∧ A.bat 0 = 98 ∧ A.bat 1 = 200 := by
  obtain ⟨h1, h2, h3, h4⟩ := h.geo
  unfold Al.ng Al.at_ Al.size Al.own Al.bat
  rw [h1, h2, h3, h4]
  decide +kernel
theorem ex_start : Ex A0 (fun q => decide (108 ≤ q ∧ q < 200)) (fun q => decide (10 ≤ q ∧ q < 100)) := by
  obtain ⟨a0, a1, s0, s1, o0, o1, -, -⟩ := A0_at
  refine ⟨A0_geo, fine_of A0_is A0_may, fun q => ?_, fun q => ?_⟩
  · rw [A0_fr 0 (by rw [A0_ng]; decide), s0, o0]
  · rw [A0_fr 1 (by rw [A0_ng]; decide), s1, o1]
theorem Ex.turn0 (h : Ex A F0 F1) {x n s : Nat} (hx : x + n ≤ 2016) (hf : (A.setB 0 (turnL (A.bm 0) x n s)).Fine) : Ex (A.setB 0 (turnL (A.bm 0) x n s)) (fun q => F0 q != decide (x ≤ q ∧ q < x + n)) F1 := by
  have hl := (map_of (h.fine.bm 0 (by rw [h.at_.1]; decide))).1
  refine ⟨h.geo, hf, fun q => ?_, fun q => h.f1 q⟩
  show fr (turnL (A.bm 0) x n s) q = _
  rw [fr_turn hl x n s hx, h.f0]
theorem Ex.turn1 (h : Ex A F0 F1) {x n s : Nat} (hx : x + n ≤ 2016) (hf : (A.setB 1 (turnL (A.bm 1) x n s)).Fine) : Ex (A.setB 1 (turnL (A.bm 1) x n s)) F0 (fun q => F1 q != decide (x ≤ q ∧ q < x + n)) := by
  have hl := (map_of (h.fine.bm 1 (by rw [h.at_.1]; decide))).1
  refine ⟨h.geo, hf, fun q => h.f0 q, fun q => ?_⟩
  show fr (turnL (A.bm 1) x n s) q = _
  rw [fr_turn hl x n s hx, h.f1]
theorem Ex.is (h : Ex A F0 F1) {G0 G1 : Nat → Bool} (h0 : ∀ q, F0 q = G0 q) (h1 : ∀ q, F1 q = G1 q) : Ex A G0 G1 := ⟨h.geo, h.fine, fun q => (h.f0 q).trans (h0 q), fun q => (h.f1 q).trans (h1 q)⟩
/-- where the groups' bitmaps may be had -/
theorem Ex.had0 (h : Ex A F0 F1) {F : Nat → Bool} (hF : ∀ q, F q = (F0 q && !(decide (q < 200) && (decide (q < 108) || hld q)))) : fr (hadB A hld 0) = F := funext fun q => by
  obtain ⟨n0, a0, a1, s0, s1, o0, o1, -, -⟩ := h.at_
  rw [had_fr h.fine (by rw [n0]; decide), h.f0, s0, o0, a0, Nat.zero_add, hF]
theorem Ex.had1 (h : Ex A F0 F1) {F : Nat → Bool} (hF : ∀ q, F q = (F1 q && !(decide (q < 100) && (decide (q < 10) || hld (200 + q))))) : fr (hadB A hld 1) = F := funext fun q => by
  obtain ⟨n0, a0, a1, s0, s1, o0, o1, -, -⟩ := h.at_
  rw [had_fr h.fine (by rw [n0]; decide), h.f1, s1, o1, a1, hF]
theorem Ex.gth (h : Ex A F0 F1) (goal : Int) (h0 : 0 ≤ goal) (h1 : goal < 200) : ATake.gth A goal 0 = 0 ∧ ATake.gth A goal 1 = 1 := by
  have e : gof A goal = 0 := by
    unfold gof
    rw [h.geo.1, h.geo.2.1, if_pos (by omega)]
    omega
  unfold ATake.gth ARound.nth
  rw [e, h.at_.1]
  decide
theorem Ex.wi0 (h : Ex A F0 F1) (goal : Nat) (h1 : goal < 200) : wi A 0 goal = goal := by
  obtain ⟨n0, a0, a1, s0, s1, o0, o1, -, -⟩ := h.at_
  unfold wi
  rw [a0, s0, if_pos (by omega)]
  omega
theorem Ex.wi1 (h : Ex A F0 F1) (goal : Int) (h1 : goal < 200) : wi A 1 goal = -1 := by
  obtain ⟨n0, a0, a1, s0, s1, o0, o1, -, -⟩ := h.at_
  unfold wi
  rw [a1, if_neg (by omega)]
theorem goal_no {l : Bk} : goalB l (-1) = false := by unfold goalB; rfl
def f1 (q : Nat) : Bool := decide (108 ≤ q ∧ q < 200)
def f2 (q : Nat) : Bool := decide (112 ≤ q ∧ q < 200)
def f4 (q : Nat) : Bool := decide (10 ≤ q ∧ q < 100)
def f5 (q : Nat) : Bool := decide (12 ≤ q ∧ q < 100)
theorem ans1 (h : Ex A f1 F1) (hh : ∀ q, hld q = false) : ok1 A hld 0 4 0 = true ∧ at1 A hld 0 4 0 = 108 ∧ ct1 A hld 0 4 0 = 4 := by
  have hF : fr (hadB A hld 0) = f1 := h.had0 fun q => by
    rw [hh, Bool.or_false]
    unfold f1
    rw [Bool.eq_iff_iff]; simp; omega
  exact ok_want (r := 2) hF (fun j hj => decide_eq_false (by omega)) (by decide) (by
    have hw : wi A 0 0 = 0 := h.wi0 0 (by decide)
    rw [hw]
    unfold goalB
    rw [hF]
    rfl) (by decide +kernel) (by decide +kernel) (by decide)
theorem ans2 (h : Ex A f2 F1) (hh : ∀ q, hld q = false) : ok1 A hld 112 100 0 = true ∧ at1 A hld 112 100 0 = 112 ∧ ct1 A hld 112 100 0 = 88 := by
  have hF : fr (hadB A hld 0) = f2 := h.had0 fun q => by
    rw [hh, Bool.or_false]
    unfold f2
    rw [Bool.eq_iff_iff]; simp; omega
  exact ok_goal (g := 112) hF (h.wi0 112 (by decide)) (by decide) (by decide) rfl (by decide +kernel)
theorem none3 (h : Ex A (fun _ => false) F1) (goal want : Int) : ok1 A hld goal want 0 = false :=
  ok_zero fun q => by rw [h.had0 (hld := hld) (F := fun _ => false) (fun q => by simp)]
theorem ans3 (h : Ex A F0 f4) (hh : ∀ q, hld q = false) : ok1 A hld 150 2 1 = true ∧ at1 A hld 150 2 1 = 10 ∧ ct1 A hld 150 2 1 = 2 := by
  have hF : fr (hadB A hld 1) = f4 := h.had1 fun q => by
    rw [hh, Bool.or_false]
    unfold f4
    rw [Bool.eq_iff_iff]; simp; omega
  exact ok_want (r := 1) hF (fun j hj => decide_eq_false (by omega)) (by decide) (by rw [h.wi1 150 (by decide)]; exact goal_no) (by decide +kernel) (by decide +kernel) (by decide)
theorem none5 (h : Ex A f2 F1) (hh : ∀ q, hld q = decide (112 ≤ q ∧ q < 200)) (goal want : Int) : ok1 A hld goal want 0 = false :=
  ok_zero fun q => by
    rw [h.had0 (hld := hld) (F := fun _ => false) (fun q => by
      rw [hh]
      unfold f2
      rw [Bool.eq_iff_iff]; simp; omega)]
theorem ans5 (h : Ex A F0 f5) (hh : ∀ q, hld q = decide (112 ≤ q ∧ q < 200)) : ok1 A hld 112 1 1 = true ∧ at1 A hld 112 1 1 = 12 ∧ ct1 A hld 112 1 1 = 1 := by
  have hF : fr (hadB A hld 1) = f5 := h.had1 fun q => by
    rw [hh]
    unfold f5
    rw [Bool.eq_iff_iff]; simp; omega
  exact ok_want (r := 2) hF (fun j hj => decide_eq_false (by omega)) (by decide) (by rw [h.wi1 112 (by decide)]; exact goal_no) (by decide +kernel) (by decide +kernel) (by decide)
end
end Go.Proofs.YtgkindoidmglnaaGreatDoor.AAwB
/- The allocator: Inode and FreeInode (of no directory), from their store on. -/
namespace Go.Proofs.YtgkindoidmglnaaGreatDoor.AInode
open Go.RowKit Go.Shelf WMem WPlain WAppend WCrc WSeal TPlain TBits TSet TTurn TFace TTurnF TSame TFind TFacts GPlain GGeo GGeo2 GFace Ext Map DPlain DMem EPlain EMem EFace EBack EAny SPlain QPlain QMem QChunk APlain AMem AGeo AOpen ATurn ACount ARound ABlocks AIno AIno2 ATkI AGvI

/-- the group that is asked first -/
def fI (A : Al) (near : Int) (dir : Bool) : Nat := if dir = true then rmA A else sof A near
theorem fI_lt {A : Al} (h : May A.b A.p A.n A.j) (near : Int) (dir : Bool) : fI A near dir < A.ng := by
  unfold fI
  split
  · exact rmA_lt h
  · exact sof_lt h near
section
variable {a w : World} {B : Nat} {S : Nat → Prop} {b db : Nat} {s : Sto} {A : Al} {lb gb c : Nat}
theorem takeI_all (h : AS a B S w b db s) (hs : Says s A) (hL : Led w lb gb c b A A.gs A.fb A.fi) (hS1 : S lb) (hS2 : S gb) (ha1 : a.heap.size ≤ lb) (ha2 : a.heap.size ≤ gb) (hBw : B ≤ w.heap.size) (hT : Tab a) (hload : s.load + 40 ≤ 1073741824) (near : Int) (dir : Bool) (hdir : ∀ i, A.dirs i + dirN dir ≤ 65535) :
    Calls Tryz.prog 34 #[.pointer (some ⟨lb, 0, none⟩), .int .i64 near, .bool dir] w fun e w' => ∃ v s', e = .returned v ∧ TookI 14 A s (fI A near dir) dir v s' ∧ AS a B S w' b db s' ∧ Kp (fun q => S q ∧ q ≠ lb ∧ q ≠ gb) w w' := by
  cases dir with
  | true => exact ATkI1.takeI_any h hs hL hS1 hS2 ha1 ha2 hBw hT hload near hdir
  | false => exact ATkI0.takeI_any h hs hL hS1 hS2 ha1 ha2 hBw hT hload near hdir
/-- the three boxes over which the closure stands -/
structure Cl3 (w : World) (q : Nat) (near : Int) (dir : Bool) (ino : Int) : Prop where
  b0 : RowV w q 3 [.int .i64 near]
  b1 : RowV w (q + 1) 4 [.bool dir]
  b2 : RowV w (q + 2) 3 [.int .i64 ino]
theorem Cl3.keep {w w' : World} {q : Nat} {near ino : Int} {dir : Bool} (h : Cl3 w q near dir ino) (hk : ∀ k, k < 3 → w'.heap[q + k]? = w.heap[q + k]?) : Cl3 w' q near dir ino :=
  ⟨(hk 0 (by omega)).trans h.b0, (hk 1 (by omega)).trans h.b1, (hk 2 (by omega)).trans h.b2⟩
theorem tookI_v {d f : Nat} {dir : Bool} {v : Value} {s' : Sto} (h : TookI d A s f dir v s') : ∃ x e : Int, v = .tuple #[.int .i64 x, .int .i64 e] := by
  rcases h with ⟨_, h, _⟩ | ⟨_, _, _, _, _, _, _, _, h, _⟩
  · exact ⟨_, _, h⟩
  · exact ⟨_, _, h⟩
set_option maxRecDepth 100000 in
set_option maxHeartbeats 2000000 in
theorem inode1_own (h : AS a B S w b db s) (hs : Says s A) (hL : Led w lb gb c b A A.gs A.fb A.fi) (hS1 : S lb) (hS2 : S gb) (ha1 : a.heap.size ≤ lb) (ha2 : a.heap.size ≤ gb) (hBw : B ≤ w.heap.size) (hT : Tab a) (hload : s.load + 40 ≤ 1073741824) (near : Int) (dir : Bool) (hdir : ∀ i, A.dirs i + dirN dir ≤ 65535)
    (q : Nat) (hq : Cl3 w q near dir 0) (hqS : ∀ k, k < 3 → S (q + k)) (hqa : a.heap.size ≤ q) (hqn : ∀ k, k < 3 → q + k ≠ lb ∧ q + k ≠ gb) :
    Calls Tryz.prog 33 #[.pointer (some ⟨lb, 0, none⟩), .pointer (some ⟨q, 0, none⟩), .pointer (some ⟨q + 1, 0, none⟩), .pointer (some ⟨q + 2, 0, none⟩)] w fun e w' => ∃ x er s', e = .returned (.int .i64 er) ∧
      TookI 14 A s (fI A near dir) dir (.tuple #[.int .i64 x, .int .i64 er]) s' ∧ Cl3 w' q near dir x ∧ AS a B S w' b db s' ∧ Kp (fun k => S k ∧ k ≠ lb ∧ k ≠ gb ∧ k ≠ q + 2) w w' := by
  have HC := Lib.hid (takeI_all h hs hL hS1 hS2 ha1 ha2 hBw hT hload near dir hdir)
  have x0 := rowc hq.b0 0 rfl
  have x1 := rowc hq.b1 0 rfl
  have HQ := Lib.hid hq
  clear h hs hL hT hq
  go_enter Tryz.func33, Tryz.ntmps33
  go_wp2_with fail
  refine HC.out.mono ?_
  rintro e w1 ⟨v, s', rfl, htk, hA, hk⟩
  obtain ⟨x, er, rfl⟩ := tookI_v htk
  have hq1 : Cl3 w1 q near dir 0 := HQ.out.keep fun k hk4 => hk _ ⟨hqS k hk4, hqn k hk4⟩
  have y2 := rowc hq1.b2 0 rfl
  have g2 := hq1.b2.free
  have HQ1 := Lib.hid hq1
  have HTK := Lib.hid htk
  have HA := Lib.hid hA
  have HK := Lib.hid hk
  clear hq1 htk hA hk
  go_wp2
  go_ret
  refine ⟨x, er, s', rfl, HTK.out, ⟨?_, ?_, ?_⟩, HA.out.cell ⟨q + 2, 0, none⟩ (.int .i64 x) (hqS 2 (by omega)) (by show a.heap.size ≤ q + 2; omega), ?_⟩
  · exact rowV_far HQ1.out.b0 ⟨q + 2, 0, none⟩ (.int .i64 x) (by simp)
  · exact rowV_far HQ1.out.b1 ⟨q + 2, 0, none⟩ (.int .i64 x) (by simp)
  · exact HQ1.out.b2.set 0 (.int .i64 x)
  · exact (HK.out.less fun k hk => ⟨hk.1, hk.2.1, hk.2.2.1⟩).trans fun k hk => Below.heap_setCell _ ⟨q + 2, 0, none⟩ _ k hk.2.2.2
set_option maxRecDepth 100000 in
set_option maxHeartbeats 2000000 in
theorem whole_inode (h : AS a B S w b db s) (hs : Says s A) (hBw : B ≤ w.heap.size) (hT : Tab a) (hload : s.load + 60 ≤ 1073741824) (near : Int) (dir : Bool) (hdir : ∀ i, A.dirs i + dirN dir ≤ 65535) (q : Nat) (hq : Cl3 w q near dir 0) (hqS : ∀ k, k < 3 → S (q + k)) (hqa : a.heap.size ≤ q) :
    Calls Tryz.prog 28 #[.pointer (some ⟨b, 0, none⟩), .func (.func 33) #[] #[.pointer (some ⟨q, 0, none⟩), .pointer (some ⟨q + 1, 0, none⟩), .pointer (some ⟨q + 2, 0, none⟩)]] w fun e w' => ∃ x er s', e = .returned (.int .i64 er) ∧
      TookI 16 A s (fI A near dir) dir (.tuple #[.int .i64 x, .int .i64 er]) s' ∧ Cl3 w' q near dir x ∧ AS a B S w' b db s' ∧ Kp (fun k => S k ∧ k ≠ q + 2) w w' := by
  have HO := Lib.hid (open_own h hs hT (by omega))
  have hqw : ∀ k, k < 3 → q + k < w.heap.size := fun k hk => h.there _ (hqS k hk)
  have H := Lib.hid h
  have HS := Lib.hid hs
  have HT := Lib.hid hT
  have HQ := Lib.hid hq
  clear h hs hT hq
  go_enter Tryz.func28, Tryz.ntmps28
  go_wp2_with fail
  refine HO.out.mono ?_
  rintro e w1 ⟨lb, gb, c, s1, rfl, hl1, hl2, hL, hA, hk, hr⟩
  have HL := Lib.hid hL
  have HA := Lib.hid hA
  have HK := Lib.hid hk
  have HR := Lib.hid hr
  have hlt := hL.lt
  have hld := hr.load
  clear hL hA hk hr
  go_wp2_with fail
  refine (a_mark HA.out (by omega)).mono ?_
  rintro e w2 ⟨rfl, rfl⟩
  go_wp2_with fail
  refine (inode1_own HA.out (HS.out.rd HR.out) HL.out (.inr (.inl rfl)) (.inr (.inr rfl)) (Nat.le_trans H.out.below.size hl1) (Nat.le_trans H.out.below.size hl2) (by omega) HT.out (by omega) near dir hdir q (HQ.out.keep fun k hk => HK.out _ (hqS k hk)) (fun k hk => .inl (hqS k hk)) hqa (fun k hk => by have := hqw k hk; omega)).mono ?_
  rintro e w3 ⟨x, er, s3, rfl, htk, hcl, hA3, hk3⟩
  have HK3 : Hid (Kp (fun k => S k ∧ k ≠ q + 2) w w3) := Lib.hid ((HK.out.less fun k hk => hk.1).trans (hk3.less fun k hk => ⟨.inl hk.1, by have := H.out.there _ hk.1; omega, by have := H.out.there _ hk.1; omega, hk.2⟩))
  have HTK := Lib.hid (htk.pre HR.out)
  have HCL := Lib.hid hcl
  have HA3 := Lib.hid (hA3.less (S' := S) fun k hk => .inl hk)
  rcases htk with ⟨u1, u2, u3⟩ | ⟨k0, i0, x0, l0, u1, u2, u3, u4, u5, u6⟩
  · obtain ⟨rfl, rfl⟩ : x = 0 ∧ er = 28 := by simpa using u2
    have hact : s1.acts.length = s3.acts.length := by rw [u3.acts]
    have hl3 := u3.load
    have HACT := Lib.hid hact
    clear hcl hA3 hk3 u1 u2 u3
    go_wp2_with fail
    try rw [HACT.out]
    refine (a_back HA3.out s3.acts.length (Nat.le_refl _) (by omega)).mono ?_
    rintro e w4 ⟨rfl, hA4, hk4⟩
    rw [back_all] at hA4
    have HA4 := Lib.hid hA4
    have HK4 := Lib.hid hk4
    clear hA4 hk4
    go_wp2
    go_ret
    exact ⟨0, 28, s3, rfl, HTK.out, HCL.out.keep fun k hk => HK4.out _ (hqS k hk), HA4.out, HK3.out.trans (HK4.out.less fun k hk => hk.1)⟩
  · obtain ⟨_, rfl⟩ : _ ∧ er = 0 := by simpa using u5
    clear hcl hA3 hk3 u1 u2 u3 u4 u5 u6
    go_wp2
    go_ret
    exact ⟨x, 0, s3, rfl, HTK.out, HCL.out, HA3.out, HK3.out⟩
set_option maxRecDepth 100000 in
set_option maxHeartbeats 2000000 in
theorem inode_own (h : AS a B S w b db s) (hs : Says s A) (hBw : B ≤ w.heap.size) (hT : Tab a) (hload : s.load + 60 ≤ 1073741824) (near : Int) (dir : Bool) (hdir : ∀ i, A.dirs i + dirN dir ≤ 65535) :
    Calls Tryz.prog 14 #[.pointer (some ⟨b, 0, none⟩), .int .i64 near, .bool dir] w fun e w' => ∃ v s', e = .returned v ∧ TookI 16 A s (fI A near dir) dir v s' ∧ AS a B S w' b db s' ∧ Kp S w w' := by
  have hB3 : Below w.heap.size w (((w.alloc (.cells #[.int .i64 near] 3)).alloc (.cells #[.bool dir] 4)).alloc (.cells #[.int .i64 0] 3)) := by
    refine (((Below.refl _ _).alloc (Nat.le_refl _) _).alloc ?_ _).alloc ?_ _ <;> simp <;> omega
  have hcl : Cl3 (((w.alloc (.cells #[.int .i64 near] 3)).alloc (.cells #[.bool dir] 4)).alloc (.cells #[.int .i64 0] 3)) w.heap.size near dir 0 := by
    have h0 := rowV_new w [.int .i64 near] 3
    have h1 := rowV_new (w.alloc (.cells #[.int .i64 near] 3)) [.bool dir] 4
    have h2 := rowV_new ((w.alloc (.cells #[.int .i64 near] 3)).alloc (.cells #[.bool dir] 4)) [.int .i64 0] 3
    simp only [World.size_alloc, Nat.add_assoc, Nat.reduceAdd] at h1 h2
    exact ⟨(h0.alloc _).alloc _, h1.alloc _, h2⟩
  have HK0 := Lib.hid (h.kp hB3)
  have H := Lib.hid h
  have hsz : (((w.alloc (.cells #[.int .i64 near] 3)).alloc (.cells #[.bool dir] 4)).alloc (.cells #[.int .i64 0] 3)).heap.size = w.heap.size + 3 := by simp
  have HC := Lib.hid (whole_inode (h.also hB3) hs (Nat.le_trans hBw hB3.size) hT hload near dir hdir w.heap.size hcl (fun k hk => .inr ⟨by omega, by omega⟩) h.below.size)
  clear h hs hT hcl hB3
  go_enter Tryz.func14, Tryz.ntmps14
  go_wp2_with fail
  simp only [Nat.add_assoc, Nat.reduceAdd]
  refine HC.out.mono ?_
  rintro e w1 ⟨x, er, s', rfl, htk, hcl, hA, hk⟩
  have y2 := rowc hcl.b2 0 rfl
  have HA := Lib.hid hA
  have HK := Lib.hid hk
  have HTK := Lib.hid htk
  clear hcl hA hk htk
  go_wp2
  go_ret2
  exact ⟨_, s', rfl, HTK.out, HA.out.less fun q hq => .inl hq, HK0.out.trans (HK.out.less fun k hk => ⟨.inl hk, by have := H.out.there _ hk; omega⟩)⟩
/-- the two boxes over which the closure stands -/
structure Cl2 (w : World) (q : Nat) (x : Int) (d : Bool) : Prop where
  b0 : RowV w q 3 [.int .i64 x]
  b1 : RowV w (q + 1) 4 [.bool d]
theorem Cl2.keep {w w' : World} {q : Nat} {x : Int} {d : Bool} (h : Cl2 w q x d) (hk : ∀ k, k < 2 → w'.heap[q + k]? = w.heap[q + k]?) : Cl2 w' q x d :=
  ⟨(hk 0 (by omega)).trans h.b0, (hk 1 (by omega)).trans h.b1⟩
set_option maxRecDepth 100000 in
set_option maxHeartbeats 2000000 in
theorem freeI1_own (h : AS a B S w b db s) (hs : Says s A) (hL : Led w lb gb c b A A.gs A.fb A.fi) (hS1 : S lb) (hS2 : S gb) (ha1 : a.heap.size ≤ lb) (ha2 : a.heap.size ≤ gb) (hT : Tab a) (hload : s.load + 100 ≤ 1073741824) (ino : Int) (q : Nat) (hq : Cl2 w q ino false) :
    Calls Tryz.prog 35 #[.pointer (some ⟨lb, 0, none⟩), .pointer (some ⟨q, 0, none⟩), .pointer (some ⟨q + 1, 0, none⟩)] w fun e w' => ∃ er s', e = .returned (.int .i64 er) ∧
      GaveI 1 A s ino er s' ∧ AS a B S w' b db s' ∧ Kp (fun k => S k ∧ k ≠ lb ∧ k ≠ gb) w w' := by
  have HC := Lib.hid (giveI_own h hs hL hS1 hS2 ha1 ha2 hT hload ino)
  have x0 := rowc hq.b0 0 rfl
  have x1 := rowc hq.b1 0 rfl
  clear h hs hL hT hq
  go_enter Tryz.func35, Tryz.ntmps35
  go_wp2_with fail
  refine HC.out.mono ?_
  rintro e w1 ⟨er, s', rfl, hg, hA, hk⟩
  go_wp2
  go_ret
  exact ⟨er, s', rfl, hg, hA, hk⟩
set_option maxRecDepth 100000 in
set_option maxHeartbeats 2000000 in
theorem whole_freeI (h : AS a B S w b db s) (hs : Says s A) (hT : Tab a) (hload : s.load + 200 ≤ 1073741824) (ino : Int) (q : Nat) (hq : Cl2 w q ino false) (hqS : ∀ k, k < 2 → S (q + k)) :
    Calls Tryz.prog 28 #[.pointer (some ⟨b, 0, none⟩), .func (.func 35) #[] #[.pointer (some ⟨q, 0, none⟩), .pointer (some ⟨q + 1, 0, none⟩)]] w fun e w' => ∃ er s', e = .returned (.int .i64 er) ∧
      GaveI 3 A s ino er s' ∧ AS a B S w' b db s' ∧ Kp S w w' := by
  have HO := Lib.hid (open_own h hs hT (by omega))
  have H := Lib.hid h
  have HS := Lib.hid hs
  have HT := Lib.hid hT
  have HQ := Lib.hid hq
  clear h hs hT hq
  go_enter Tryz.func28, Tryz.ntmps28
  go_wp2_with fail
  refine HO.out.mono ?_
  rintro e w1 ⟨lb, gb, c, s1, rfl, hl1, hl2, hL, hA, hk, hr⟩
  have HL := Lib.hid hL
  have HA := Lib.hid hA
  have HK := Lib.hid hk
  have HR := Lib.hid hr
  have hlt := hL.lt
  have hld := hr.load
  clear hL hA hk hr
  go_wp2_with fail
  refine (a_mark HA.out (by omega)).mono ?_
  rintro e w2 ⟨rfl, rfl⟩
  go_wp2_with fail
  refine (freeI1_own HA.out (HS.out.rd HR.out) HL.out (.inr (.inl rfl)) (.inr (.inr rfl)) (Nat.le_trans H.out.below.size hl1) (Nat.le_trans H.out.below.size hl2) HT.out (by omega) ino q (HQ.out.keep fun k hk => HK.out _ (hqS k hk))).mono ?_
  rintro e w3 ⟨er, s3, rfl, htk, hA3, hk3⟩
  have HK3 : Hid (Kp S w w3) := Lib.hid (HK.out.trans (hk3.less fun k hk => ⟨.inl hk, by have := H.out.there _ hk; omega, by have := H.out.there _ hk; omega⟩))
  have HTK := Lib.hid (htk.pre HR.out)
  have HA3 := Lib.hid (hA3.less (S' := S) fun k hk => .inl hk)
  rcases htk with ⟨u1, u2, u3⟩ | ⟨u1, _⟩
  · have hact : s1.acts.length = s3.acts.length := by rw [u3.acts]
    have hl3 := u3.load
    have HACT := Lib.hid hact
    have d1 : decide (er = 0) = false := by simp; exact u1
    clear hA3 hk3 u2 u3
    go_wp2_with fail
    try rw [HACT.out]
    refine (a_back HA3.out s3.acts.length (Nat.le_refl _) (by omega)).mono ?_
    rintro e w4 ⟨rfl, hA4, hk4⟩
    rw [back_all] at hA4
    have HA4 := Lib.hid hA4
    have HK4 := Lib.hid hk4
    clear hA4 hk4
    go_wp2
    go_ret
    exact ⟨er, s3, rfl, HTK.out, HA4.out, HK3.out.trans HK4.out⟩
  · subst u1
    clear hA3 hk3
    go_wp2
    go_ret
    exact ⟨0, s3, rfl, HTK.out, HA3.out, HK3.out⟩
set_option maxRecDepth 100000 in
set_option maxHeartbeats 2000000 in
theorem freeI_own (h : AS a B S w b db s) (hs : Says s A) (hT : Tab a) (hload : s.load + 200 ≤ 1073741824) (ino : Int) :
    Calls Tryz.prog 15 #[.pointer (some ⟨b, 0, none⟩), .int .i64 ino, .bool false] w fun e w' => ∃ er s', e = .returned (.int .i64 er) ∧ GaveI 3 A s ino er s' ∧ AS a B S w' b db s' ∧ Kp S w w' := by
  have hB2 : Below w.heap.size w ((w.alloc (.cells #[.int .i64 ino] 3)).alloc (.cells #[.bool false] 4)) := by
    refine ((Below.refl _ _).alloc (Nat.le_refl _) _).alloc ?_ _; simp
  have hcl : Cl2 ((w.alloc (.cells #[.int .i64 ino] 3)).alloc (.cells #[.bool false] 4)) w.heap.size ino false := by
    have h0 := rowV_new w [.int .i64 ino] 3
    have h1 := rowV_new (w.alloc (.cells #[.int .i64 ino] 3)) [.bool false] 4
    simp only [World.size_alloc] at h1
    exact ⟨h0.alloc _, h1⟩
  have HK0 := Lib.hid (h.kp hB2)
  have H := Lib.hid h
  have hsz : ((w.alloc (.cells #[.int .i64 ino] 3)).alloc (.cells #[.bool false] 4)).heap.size = w.heap.size + 2 := by simp
  have HC := Lib.hid (whole_freeI (h.also hB2) hs hT hload ino w.heap.size hcl (fun k hk => .inr ⟨by omega, by omega⟩))
  clear h hs hT hcl hB2
  go_enter Tryz.func15, Tryz.ntmps15
  go_wp2_with fail
  refine HC.out.mono ?_
  rintro e w1 ⟨er, s', rfl, htk, hA, hk⟩
  have HA := Lib.hid hA
  have HK := Lib.hid hk
  have HTK := Lib.hid htk
  clear hA hk htk
  go_wp2
  go_ret
  exact ⟨_, s', rfl, HTK.out, HA.out.less fun q hq => .inl hq, HK0.out.trans (HK.out.less fun k hk => .inl hk)⟩
end
end Go.Proofs.YtgkindoidmglnaaGreatDoor.AInode
/- The allocator: the document's example in plain mathematics: three times Inode. -/
namespace Go.Proofs.YtgkindoidmglnaaGreatDoor.AAwI
open Go.RowKit WMem WPlain WCrc WSeal TPlain TBits TSet TTurn TFace TTurnF TFacts TNext GPlain DPlain EPlain SPlain QPlain APlain AMem AGeo AHad AIno AIno2 ATkI AInode AMake1 AEmpty AMake3 ASays AAwM AAwB

theorem tookI_at {A : Al} {s s' : Sto} {f : Nat} {dir : Bool} {v : Value} (hs : Says s A) (h : TookI 16 A s f dir v s') {i x : Nat} (hf : ARound.nth f A.ng 0 = i) (hi : i < A.ng) (hx : x < A.n.toNat) (h1 : fr (A.im i) x = true) (h0 : ∀ k, k < x → fr (A.im i) k = false) (hd : 0 ≤ A.dirs i + dirN dir ∧ A.dirs i + dirN dir ≤ 65535) :
    v = .tuple #[.int .i64 (i * A.n.toNat + x + 1 : Nat), .int .i64 0] ∧ Says s' (A.setI i (turnL (A.im i) x 1 (A.bat i + 1)) (dirN dir)) ∧ s'.load ≤ s.load + 19 ∧ s'.now.hld = s.now.hld := by
  have hat : upFrom (fr (A.im i)) 0 A.n.toNat = some x := up_found hx h1 h0
  have hok : okI A i = true := by unfold okI someI; rw [hat]; rfl
  have hax : atI A i = x := by unfold atI firstI; rw [hat]; rfl
  have hng := (ng_le hs.fine.may).1
  have hu : upFrom (fun k => okI A (ARound.nth f A.ng k)) 0 A.ng = some 0 := ATake.up_some hng (fun y hy => by omega) (by rw [hf]; exact hok)
  have hn := hs.fine.may.n1
  rcases h with ⟨h1, _⟩ | ⟨k', i', x', l', e1, e2, e3, e4, e5, s1, e6, e7⟩
  · rw [hu] at h1; cases h1
  · rw [hu] at e1
    injection e1 with e1
    subst e1
    have ei : i' = i := e2.symm.trans hf
    subst ei
    have ex : x' = x := e3.symm.trans hax
    subst ex
    have hfine : (A.setI i' l' (dirN dir)).Fine := by
      refine setI_fine hs.fine (fun _ => ?_) hd
      rw [← e4]
      exact turn_map (c := 1) (hs.fine.im i' hi) (by omega) (by omega)
    refine ⟨e5, ?_, ?_, ?_⟩
    · rw [e4, e7]
      exact (hs.rd e6).putI hi hfine
    · rw [e7]
      have q1 := Sto.load_write ((s1.write (A.bat i' + 1) l').write 1 (A.setI i' l' (dirN dir)).grps) 0 (A.setI i' l' (dirN dir)).sup
      have q2 := Sto.load_write (s1.write (A.bat i' + 1) l') 1 (A.setI i' l' (dirN dir)).grps
      have q3 := Sto.load_write s1 (A.bat i' + 1) l'
      have q4 := e6.load
      omega
    · rw [e7]
      show s1.now.hld = s.now.hld
      rw [e6.now]
structure Im (A : Al) (I0 I1 : Nat → Bool) (z0 z1 : Nat) : Prop where
  geo : A.b = 300 ∧ A.p = 200 ∧ A.n = 16 ∧ A.j = 96
  i0 : ∀ q, fr (A.im 0) q = I0 q
  i1 : ∀ q, fr (A.im 1) q = I1 q
  z0 : TBits.zeros (A.im 0) = z0
  z1 : TBits.zeros (A.im 1) = z1
  dirs : ∀ i, A.dirs i = 0
def j0 (q : Nat) : Bool := decide (q < 16)
def j1 (q : Nat) : Bool := decide (1 ≤ q ∧ q < 16)
theorem im_is {A : Al} (hE : A = empty A.b A.p A.n A.j) (i : Nat) : A.im i = newB A.n.toNat (A.bat i + 1) ∧ A.dirs i = 0 := ⟨congrArg (fun a => Al.im a i) hE, congrArg (fun a => Al.dirs a i) hE⟩
theorem im_start : Im A0 j0 j0 16 16 := by
  have e2 : A0.n.toNat = 16 := by decide +kernel
  have h (i : Nat) : A0.im i = newB 16 (A0.bat i + 1) := by
    rw [(im_is A0_is i).1, e2]
  have hf (i q : Nat) : fr (A0.im i) q = j0 q := by
    rw [h i]
    exact fr_new (by decide) q
  have hz (i : Nat) : TBits.zeros (A0.im i) = 16 := by
    rw [h i]
    exact zeros_new (by decide)
  exact ⟨A0_geo, hf 0, hf 1, hz 0, hz 1, fun i => (im_is A0_is i).2⟩
section
variable {A : Al} {I0 I1 : Nat → Bool} {z0 z1 : Nat}
theorem Im.setB (h : Im A I0 I1 z0 z1) (i : Nat) (l : Bk) : Im (A.setB i l) I0 I1 z0 z1 := ⟨h.geo, h.i0, h.i1, h.z0, h.z1, h.dirs⟩
theorem Im.turn0 (h : Im A j0 I1 z0 z1) (s : Nat) (hl : (A.im 0).length = 256) : Im (A.setI 0 (turnL (A.im 0) (0 : Nat) 1 s) (dirN false)) j1 I1 (z0 - 1) z1 := by
  refine ⟨h.geo, fun q => ?_, fun q => h.i1 q, ?_, h.z1, fun i => ?_⟩
  · show fr (turnL (A.im 0) (0 : Nat) ((1 : Nat) : Int) s) q = _
    rw [fr_turn hl 0 1 s (by decide), h.i0]
    unfold j0 j1
    rw [Bool.eq_iff_iff]
    by_cases e : q < 16 <;> by_cases e2 : 1 ≤ q <;> simp [e, e2] <;> omega
  · show TBits.zeros (turnL (A.im 0) (0 : Nat) ((1 : Nat) : Int) s) = _
    have := turn_take hl (a := 0) (c := 1) s (by decide) (fun q hq => by rw [h.i0]; exact decide_eq_true (by omega))
    rw [h.z0] at this
    omega
  · show (if i = 0 then A.dirs i + dirN false else A.dirs i) = 0
    rw [h.dirs]
    split <;> rfl
theorem Im.turn1 (h : Im A I0 j0 z0 z1) (s : Nat) (hl : (A.im 1).length = 256) : Im (A.setI 1 (turnL (A.im 1) (0 : Nat) 1 s) (dirN false)) I0 j1 z0 (z1 - 1) := by
  refine ⟨h.geo, fun q => h.i0 q, fun q => ?_, h.z0, ?_, fun i => ?_⟩
  · show fr (turnL (A.im 1) (0 : Nat) ((1 : Nat) : Int) s) q = _
    rw [fr_turn hl 0 1 s (by decide), h.i1]
    unfold j0 j1
    rw [Bool.eq_iff_iff]
    by_cases e : q < 16 <;> by_cases e2 : 1 ≤ q <;> simp [e, e2] <;> omega
  · show TBits.zeros (turnL (A.im 1) (0 : Nat) ((1 : Nat) : Int) s) = _
    have := turn_take hl (a := 0) (c := 1) s (by decide) (fun q hq => by rw [h.i1]; exact decide_eq_true (by omega))
    rw [h.z1] at this
    omega
  · show (if i = 1 then A.dirs i + dirN false else A.dirs i) = 0
    rw [h.dirs]
    split <;> rfl
theorem Im.ng (h : Im A I0 I1 z0 z1) : A.ng = 2 ∧ A.n.toNat = 16 := by
  obtain ⟨h1, h2, h3, h4⟩ := h.geo
  unfold Al.ng
  rw [h1, h2, h3]
  decide +kernel
theorem Im.may (h : Im A I0 I1 z0 z1) : May A.b A.p A.n A.j := by
  obtain ⟨h1, h2, h3, h4⟩ := h.geo
  rw [h1, h2, h3, h4]
  exact may_iff.1 (by decide +kernel)
theorem sof0 (h : Im A I0 I1 z0 z1) : ARound.nth (AInode.fI A 0 false) A.ng 0 = 0 := by
  have e : AInode.fI A 0 false = 0 := by
    unfold AInode.fI sof
    rw [if_neg (by decide), if_neg (fun hh => by have := (isI_iff h.may 0).1 hh; omega)]
  rw [e, h.ng.1]
  rfl
theorem sof20 (h : Im A I0 I1 z0 z1) : ARound.nth (AInode.fI A 20 false) A.ng 0 = 1 := by
  have e : AInode.fI A 20 false = 1 := by
    unfold AInode.fI sof
    rw [if_neg (by decide), h.geo.2.2.1]
    rw [if_pos ((isI_iff h.may 20).2 ⟨by decide, by rw [h.ng.1, h.geo.2.2.1]; decide⟩)]
    rfl
  rw [e, h.ng.1]
  rfl
theorem rm2 (F : Nat → Nat) (x : Nat) (h0 : F 0 = x) (h1 : F 1 = x) : rmst F 2 = 0 := by simp [rmst, h0, h1]
theorem room (h : Im A I0 I1 15 15) : ARound.nth (AInode.fI A 0 true) A.ng 0 = 0 := by
  have e : AInode.fI A 0 true = 0 := by
    unfold AInode.fI rmA
    rw [if_pos rfl, h.ng.1]
    exact rm2 _ 15 h.z0 h.z1
  rw [e, h.ng.1]
  rfl
end
end Go.Proofs.YtgkindoidmglnaaGreatDoor.AAwI
/- The law AllocBack, but for its examples. -/
namespace Go.Proofs.YtgkindoidmglnaaGreatDoor.ALBack
open Go.RowKit WMem WPlain WAppend WCrc WSeal TPlain TBits TSet TTurn TFace TTurnF TFind TFacts GPlain GGeo GGeo2 GFace Ext Map DPlain DMem Mk DBase DRead EPlain EMem EFace EBack EAny SPlain QPlain QMem APlain AMem AGeo AOpen ATurn ARound ATake ABlocks AGivA AFree ALeft AMake1 AEmpty AMake3 AMake5 ASays AOpened ABackM

section
variable {a w : World} {B : Nat} {S : Nat → Prop} {b db : Nat} {s : Sto} {A : Al}
/-- the bound of the store's rows may be the memory's end -/
theorem AS.fit (h : AS a B S w b db s) : AS a w.heap.size S w b db s := by
  obtain ⟨ρ, D, hO, hA, -⟩ := h.ex
  exact ⟨⟨ρ, D, hO, hA, fun q hq => hO.ss.there q (fun e => by rw [e] at hq; exact hq), fun q hq => hO.dd.there q hq⟩, h.below, h.there⟩
theorem a_release (h : AS a B S w b db s) :
    Calls Tryz.prog 16 #[.pointer (some ⟨b, 0, none⟩)] w fun e w' => e = .returned (.tuple #[]) ∧ AS a B S w' b db s.release ∧ Kp S w w' := by
  obtain ⟨ρ, D, hO, hA, hB⟩ := h.ex
  refine (ECommit.Release_own hO).mono ?_
  rintro e w' ⟨rfl, hgo⟩
  exact ⟨rfl, h.of_go hA hB hgo⟩
theorem made_load (hM : May A.b A.p A.n A.j) : (fresh (madeD A) 4 32).load ≤ 70001 := by
  have h := (emptyW_len hM).2
  have e : (fresh (madeD A) 4 32).load = 0 + (emptyW A).length + 1 := by
    show 0 + 0 + 0 + (0 + (emptyW A).length + 1) = _
    omega
  omega
/-- what Blocks answers, when something is there -/
theorem took_v2 {d : Nat} {goal want v : _} {s s' : Sto} (h : Took d A s goal want v s') {k : Nat} (hu : upFrom (fun k => ok1 A s.now.hld goal want (gth A goal k)) 0 A.ng = some k) : ∃ i x n l, gth A goal k = i ∧ at1 A s.now.hld goal want i = x ∧ ct1 A s.now.hld goal want i = n ∧ turnL (A.bm i) x n (A.bat i) = l ∧
    v = .tuple #[.int .i64 (A.at_ i + x : Nat), .int .i64 (n : Int), .int .i64 0] ∧ ∃ s1, Rd s s1 d ∧ s' = ((s1.write (A.bat i) l).write 1 (A.setB i l).grps).write 0 (A.setB i l).sup := by
  rcases h with ⟨h1, _⟩ | ⟨k', i, x, n, l, h1, h2⟩
  · rw [hu] at h1; cases h1
  · rw [hu] at h1
    injection h1 with h1
    subst h1
    exact ⟨i, x, n, l, h2⟩
end
set_option maxRecDepth 100000 in
set_option maxHeartbeats 4000000 in
theorem back_may (haw : ∀ w : World, Tab w → Calls Tryz.prog 7 #[] w fun e w' => e = .returned (.bool true) ∧ Below w.heap.size w w')
    {A : Al} (hE : A = empty A.b A.p A.n A.j) (hM : May A.b A.p A.n A.j) (goal want : Int) (w : World) (hT : Tab w) :
    Calls Tryz.prog 4 #[.agg #[.int .i64 A.b, .int .i64 A.p, .int .i64 A.n, .int .i64 A.j], .int .i64 goal, .int .i64 want] w fun e w' => e = .returned (.bool true) ∧ Below w.heap.size w w' := by
  have r0 := rowV_new w [.int .i64 A.b, .int .i64 A.p, .int .i64 A.n, .int .i64 A.j] 23
  have HB0 := Lib.hid (below_box (w := w) (.cells #[.int .i64 A.b, .int .i64 A.p, .int .i64 A.n, .int .i64 A.j] 23))
  have HR0 := Lib.hid r0
  have HAW := Lib.hid haw
  have HM := Lib.hid hM
  have HE := Lib.hid hE
  have HT := Lib.hid hT
  have HS := Lib.hid (says_made hE hM 4 32)
  have HLD := Lib.hid (made_load hM)
  clear hM hE hT r0 haw
  go_enter Tryz.func4, Tryz.ntmps4
  go_wp2_with fail
  refine (HAW.out _ (Tab.below HT.out HB0.out (Tab.lt HT.out))).mono ?_
  rintro e w1 ⟨rfl, hb⟩
  have HB1 : Hid (Below w.heap.size w w1) := Lib.hid (below_up HB0.out hb (by simp))
  have HT1 : Hid (Tab w1) := Lib.hid (Tab.below HT.out HB1.out (Tab.lt HT.out))
  have r1 := HR0.out.keep hb HR0.out.lt
  have y0 := rowc r1 0 rfl
  have y1 := rowc r1 1 rfl
  have y2 := rowc r1 2 rfl
  have y3 := rowc r1 3 rfl
  clear r1 hb
  go_wp2_with fail
  refine (opened_yes HE.out HM.out w1 HT1.out).mono ?_
  rintro e w2 ⟨db, b, rfl, hA⟩
  have HA := Lib.hid hA
  clear hA y0 y1 y2 y3
  generalize hs0 : fresh (madeD A) 4 32 = s0 at *
  have hh0 : ∀ q, s0.now.hld q = false := fun q => by rw [← hs0]; rfl
  have HH0 := Lib.hid hh0
  clear hs0 hh0
  go_wp2_with fail
  obtain ⟨F, hF⟩ : ∃ F, A.fb = F := ⟨_, rfl⟩
  have hlf := left_face HA.out HS.out HT1.out (by have := HLD.out; omega)
  rw [hF] at hlf
  have HFB := Lib.hid hF
  clear hF
  refine hlf.mono ?_
  clear hlf
  rintro e w3 ⟨s1, rfl, hr1, hA1, -⟩
  have HR1 := Lib.hid hr1
  have HA1 := Lib.hid (AS.fit hA1)
  have HS1 := Lib.hid (HS.out.rd hr1)
  have HL1 : Hid (s1.load ≤ 70003) := Lib.hid (by have := hr1.load; have := HLD.out; omega)
  have HH1 : Hid (∀ q, s1.now.hld q = false) := Lib.hid fun q => by rw [hr1.now]; exact HH0.out q
  clear hr1 hA1
  by_cases hw : want < 1
  · have d1 : decide (want < 1) = true := by simp; omega
    go_wp2_with fail
    refine (blocks_small HA1.out HS1.out HT1.out (by have := HL1.out; omega) goal want hw).mono ?_
    rintro e w4 ⟨s2, rfl, -, hA4, -⟩
    have HB4 := Lib.hid (below_up HB1.out hA4.below HB1.out.size)
    clear hA4
    go_wp2
    go_ret
    exact ⟨rfl, HB4.out⟩
  · have hw1 : 1 ≤ want := by omega
    have hg0 : gth A goal 0 < A.ng := nth_lt _ (ng_le HM.out).1
    have hu : upFrom (fun k => ok1 A s1.now.hld goal want (gth A goal k)) 0 A.ng = some 0 := up_some (ng_le HM.out).1 (fun y hy => by omega) (ok_empty HE.out HM.out hg0 hw1 HH1.out)
    have HU := Lib.hid hu
    have HG0 := Lib.hid hg0
    clear hu hg0 hw
    have HBL := Lib.hid (blocks_own HA1.out HS1.out (Nat.le_refl _) HT1.out (by have := HL1.out; omega) goal want hw1)
    go_wp2_with fail
    refine HBL.out.mono ?_
    rintro e w4 ⟨v, s2, rfl, htk, hA2, -⟩
    obtain ⟨i, x, n, l, u2, u3, u4, u5, rfl, s1', hr, hs2⟩ := took_v2 htk HU.out
    have hi : i < A.ng := by rw [← u2]; exact HG0.out
    obtain ⟨t1, t2, t3, t4, t5, t6, t7⟩ := took_facts HS1.out HU.out hi u2 u3 u4 u5 hr hs2
    have gg := geo HM.out hi
    have b1 : A.at_ i + x + n ≤ 4096 := by have := gg.a8; have := HM.out.b1; omega
    have HA2 := Lib.hid (AS.fit hA2)
    have HT3 := Lib.hid t3
    have HT6 := Lib.hid t6
    have HT7 := Lib.hid t7
    have HI := Lib.hid hi
    have HU2 := Lib.hid (And.intro u2 (And.intro u3 (And.intro u4 u5)))
    have HXN := Lib.hid t2
    have HL2 : Hid (s2.load ≤ 70022) := Lib.hid (by have := HL1.out; omega)
    have HH2 : Hid (∀ q, s2.now.hld q = false) := Lib.hid fun q => by rw [t5]; exact HH1.out q
    clear htk hA2 hr hs2 t2 t3 t4 t5 t6 t7 u2 u3 u4 u5 hi gg HBL
    obtain ⟨f, hf⟩ : ∃ f, A.at_ i + x = f := ⟨_, rfl⟩
    rw [hf] at b1 ⊢
    have HF := Lib.hid hf
    obtain ⟨G, hG⟩ : ∃ G, (A.setB i l).fb = G := ⟨_, rfl⟩
    have HG := Lib.hid hG
    obtain ⟨m, hm⟩ : ∃ m, f + n = m := ⟨_, rfl⟩
    obtain ⟨g, hg⟩ : ∃ g, m - 1 = g := ⟨_, rfl⟩
    have U1 : Hid (IntKind.i64.wrap ((f : Int) + (n : Int)) = (m : Int)) := Lib.hid (by rw [IntWalk.i64_in _ ⟨by omega, by omega⟩]; omega)
    have U2 : Hid (IntKind.i64.wrap ((m : Int) - 1) = (g : Int)) := Lib.hid (by rw [IntWalk.i64_in _ ⟨by omega, by omega⟩]; omega)
    have hFl : (F : Int) ≤ 4096 := by have h := (k_le (fine_of HE.out HM.out) (k := A.ng) (Nat.le_refl _)).1; rw [fbK_end, HFB.out] at h; exact h
    have hFG : G + n = F := by have h := HT6.out; rw [hG, HFB.out] at h; exact h
    have U3 : Hid (IntKind.i64.wrap ((F : Int) - (n : Int)) = (G : Int)) := Lib.hid (by rw [IntWalk.i64_in _ ⟨by omega, by omega⟩]; omega)
    have HMG := Lib.hid (And.intro hm hg)
    clear hf hG hm hg hFl hFG
    have hl2 := left_face HA2.out HT3.out HT1.out (by have := HL2.out; omega)
    rw [HG.out] at hl2
    have HLF2 := Lib.hid hl2
    clear hl2
    go_wp2_with fail
    refine HLF2.out.mono ?_
    rintro e w5 ⟨s3, rfl, hr3, hA3, -⟩
    have HA3 := Lib.hid (AS.fit hA3)
    have HS3 := Lib.hid (HT3.out.rd hr3)
    have HL3 : Hid (s3.load ≤ 70024) := Lib.hid (by have := hr3.load; have := HL2.out; omega)
    have HH3 : Hid (∀ q, s3.now.hld q = false) := Lib.hid fun q => by rw [hr3.now]; exact HH2.out q
    clear hr3 hA3
    have HFR := Lib.hid (free_own HA3.out HS3.out HT1.out (by have := HL3.out; omega) (f : Int) (n : Int) (by unfold Fits; omega))
    go_wp2_with fail
    refine HFR.out.mono ?_
    rintro e w6 ⟨er, s4, rfl, hga, hA4, -⟩
    rw [← HF.out] at hga
    obtain ⟨rfl, hS4, hh4, hl4⟩ := gave_facts HS3.out (fine_of HE.out HM.out) HI.out HU2.out.2.2.2 HXN.out HT7.out hga
    rw [HF.out] at hh4
    have HA4 := Lib.hid (AS.fit hA4)
    have HS4 := Lib.hid hS4
    have HL4 : Hid (s4.load ≤ 80000) := Lib.hid (by have := HL3.out; omega)
    have HH4 : Hid (s4.now.hld f = true ∧ s4.now.hld g = true) := Lib.hid ⟨by rw [hh4, decide_eq_true ⟨Nat.le_refl _, by omega⟩, Bool.or_true], by
      have h1 := HMG.out.1
      have h2 := HMG.out.2
      rw [hh4, decide_eq_true ⟨by omega, by omega⟩, Bool.or_true]⟩
    clear hga hA4 hS4 hh4 hl4 HFR HLF2
    have hl4 := left_face HA4.out HS4.out HT1.out (by have := HL4.out; omega)
    rw [HFB.out] at hl4
    have HLF4 := Lib.hid hl4
    clear hl4
    go_wp2_with fail
    refine HLF4.out.mono ?_
    rintro e w7 ⟨s5, rfl, hr5, hA5, -⟩
    have HA5 := Lib.hid (AS.fit hA5)
    have HS5 := Lib.hid (HS4.out.rd hr5)
    have HL5 : Hid (s5.load ≤ 80002) := Lib.hid (by have := hr5.load; have := HL4.out; omega)
    have HH5 : Hid (s5.now.hld f = true ∧ s5.now.hld g = true) := Lib.hid (by rw [hr5.now]; exact HH4.out)
    clear hr5 hA5
    have HHE := Lib.hid (AMem.a_held HA5.out (f : Int) f rfl (by omega) true HH5.out.1)
    go_wp2_with fail
    refine HHE.out.mono ?_
    rintro e w8 ⟨rfl, hb8⟩
    have HA8 := Lib.hid (AS.fit (HA5.out.go hb8))
    have HHE2 := Lib.hid (AMem.a_held HA8.out (g : Int) g rfl (by have := HMG.out; omega) true HH5.out.2)
    have u1 := U1.out
    have u2 := U2.out
    clear hb8
    go_wp2_with fail
    refine HHE2.out.mono ?_
    rintro e w9 ⟨rfl, hb9⟩
    have HA9 := Lib.hid (AS.fit (HA8.out.go hb9))
    clear hb9 u1 u2
    go_wp2_with fail
    refine (a_release HA9.out).mono ?_
    rintro e w10 ⟨rfl, hA10, -⟩
    have HA10 := Lib.hid (AS.fit hA10)
    have HS10 := Lib.hid (Says.release HS5.out)
    have HL10 : Hid (s5.release.load ≤ 80002) := Lib.hid (Nat.le_trans (Sto.load_release _) HL5.out)
    have hh10 : s5.release.now.hld = s1.now.hld := funext fun q => by rw [HH1.out q]; rfl
    have HH10 := Lib.hid hh10
    clear hA10 hh10
    have HBL := Lib.hid (blocks_own HA10.out HS10.out (Nat.le_refl _) HT1.out (by have := HL10.out; omega) goal want hw1)
    go_wp2_with fail
    refine HBL.out.mono ?_
    rintro e w11 ⟨v, s6, rfl, htk, hA11, -⟩
    have HB11 := Lib.hid (below_up HB1.out hA11.below HB1.out.size)
    clear hA11
    obtain ⟨i', x', n', l', u2, u3, u4, u5, rfl, -⟩ := took_v2 htk (by rw [HH10.out]; exact HU.out)
    have ei : i' = i := u2.symm.trans HU2.out.1
    subst ei
    rw [HH10.out] at u3 u4
    have ex : x' = x := u3.symm.trans HU2.out.2.1
    subst ex
    have en : n' = n := u4.symm.trans HU2.out.2.2.1
    subst en
    clear htk u2 u3 u4 u5
    rw [HF.out]
    have u3 := U3.out
    go_wp2
    go_ret
    exact ⟨rfl, HB11.out⟩
end Go.Proofs.YtgkindoidmglnaaGreatDoor.ALBack
/- The allocator: the document's example, a call at a time. -/
namespace Go.Proofs.YtgkindoidmglnaaGreatDoor.AAwQ
open Go.RowKit WMem WPlain WAppend WCrc WSeal TPlain TBits TSet TTurn TFace TTurnF TFacts TNext GPlain GGeo GGeo2 GFace Ext Map DPlain DMem Mk DBase EPlain EMem EFace EAny SPlain QPlain QMem APlain AMem AGeo AOpen AHad AIno AIno2 ATake ABlocks AGivA AFree ALeft ATkI AInode AMake1 AEmpty AMake3 AMake5 ASays AOpened ABackM ALBack AAwM AAwB AAwI

def Q (a w : World) (b db L : Nat) (F0 F1 I0 I1 : Nat → Bool) (z0 z1 : Nat) (H : Nat → Bool) : Prop :=
  ∃ s A, AS a w.heap.size (fun _ => False) w b db s ∧ Says s A ∧ s.load ≤ L ∧ Ex A F0 F1 ∧ Im A I0 I1 z0 z1 ∧ ∀ q, s.now.hld q = H q
section
variable {a w : World} {b db L : Nat} {F0 F1 I0 I1 H : Nat → Bool} {z0 z1 : Nat}
/-- Blocks of the example in group 0 -/
theorem q_blocks0 (h : Q a w b db L F0 F1 I0 I1 z0 z1 H) (hT : Tab a) (hL : L ≤ 1000000) (goal want : Int) (hw : 1 ≤ want) (g0 : 0 ≤ goal) (g1 : goal < 200) {x n : Nat} {G0 : Nat → Bool}
    (ho : ∀ (A : Al) (hld : Nat → Bool), Ex A F0 F1 → (∀ q, hld q = H q) → ok1 A hld goal want 0 = true ∧ at1 A hld goal want 0 = x ∧ ct1 A hld goal want 0 = n)
    (hG : ∀ q, (F0 q != decide (x ≤ q ∧ q < x + n)) = G0 q) :
    Calls Tryz.prog 11 #[.pointer (some ⟨b, 0, none⟩), .int .i64 goal, .int .i64 want] w fun e w' => e = .returned (.tuple #[.int .i64 (x : Nat), .int .i64 (n : Nat), .int .i64 0]) ∧ Q a w' b db (L + 19) G0 F1 I0 I1 z0 z1 H := by
  obtain ⟨s, A, hA, hS, hl, hE, hI, hH⟩ := h
  obtain ⟨n0, a0, a1, s0, s1, o0, o1, -, -⟩ := hE.at_
  refine (blocks_own hA hS (Nat.le_refl _) hT (by omega) goal want hw).mono ?_
  rintro e w' ⟨v, s', rfl, htk, hA', -⟩
  obtain ⟨hv, t1, t2, t3, t4, t5, t6⟩ := took_at hS htk (k := 0) (by rw [n0]; decide) (fun j hj => by omega) (hE.gth goal g0 g1).1 (ho A _ hE hH)
  rw [s0] at t6
  rw [a0, Nat.zero_add] at hv
  exact ⟨by rw [hv], s', _, AS.fit hA', t1, by omega, (hE.turn0 (by omega) t1.fine).is hG (fun _ => rfl), hI.setB _ _, fun q => by rw [t3]; exact hH q⟩
/-- Blocks of the example in group 1 -/
theorem q_blocks1 (h : Q a w b db L F0 F1 I0 I1 z0 z1 H) (hT : Tab a) (hL : L ≤ 1000000) (goal want : Int) (hw : 1 ≤ want) (g0 : 0 ≤ goal) (g1 : goal < 200) {x n y : Nat} {G1 : Nat → Bool} (hy : 200 + x = y)
    (hno : ∀ (A : Al) (hld : Nat → Bool), Ex A F0 F1 → (∀ q, hld q = H q) → ok1 A hld goal want 0 = false)
    (ho : ∀ (A : Al) (hld : Nat → Bool), Ex A F0 F1 → (∀ q, hld q = H q) → ok1 A hld goal want 1 = true ∧ at1 A hld goal want 1 = x ∧ ct1 A hld goal want 1 = n)
    (hG : ∀ q, (F1 q != decide (x ≤ q ∧ q < x + n)) = G1 q) :
    Calls Tryz.prog 11 #[.pointer (some ⟨b, 0, none⟩), .int .i64 goal, .int .i64 want] w fun e w' => e = .returned (.tuple #[.int .i64 (y : Nat), .int .i64 (n : Nat), .int .i64 0]) ∧ Q a w' b db (L + 19) F0 G1 I0 I1 z0 z1 H := by
  obtain ⟨s, A, hA, hS, hl, hE, hI, hH⟩ := h
  obtain ⟨n0, a0, a1, s0, s1, o0, o1, -, -⟩ := hE.at_
  refine (blocks_own hA hS (Nat.le_refl _) hT (by omega) goal want hw).mono ?_
  rintro e w' ⟨v, s', rfl, htk, hA', -⟩
  obtain ⟨hv, t1, t2, t3, t4, t5, t6⟩ := took_at hS htk (k := 1) (by rw [n0]; decide) (fun j hj => by
    obtain rfl : j = 0 := by omega
    rw [(hE.gth goal g0 g1).1]
    exact hno A _ hE hH) (hE.gth goal g0 g1).2 (ho A _ hE hH)
  rw [s1] at t6
  rw [a1, hy] at hv
  exact ⟨by rw [hv], s', _, AS.fit hA', t1, by omega, (hE.turn1 (by omega) t1.fine).is (fun _ => rfl) hG, hI.setB _ _, fun q => by rw [t3]; exact hH q⟩
/-- Free of the example -/
theorem q_free (h : Q a w b db L (fun _ => false) F1 I0 I1 z0 z1 (fun _ => false)) (hT : Tab a) (hL : L ≤ 1000000) :
    Calls Tryz.prog 13 #[.pointer (some ⟨b, 0, none⟩), .int .i64 112, .int .i64 88] w fun e w' => e = .returned (.int .i64 0) ∧ Q a w' b db (L + 100) f2 F1 I0 I1 z0 z1 (fun q => decide (112 ≤ q ∧ q < 200)) := by
  obtain ⟨s, A, hA, hS, hl, hE, hI, hH⟩ := h
  obtain ⟨n0, a0, a1, s0, s1, o0, o1, -, -⟩ := hE.at_
  have hM := hS.fine.may
  have hin : 0 < A.ng := by rw [n0]; decide
  have hgood : GoodB A 112 88 0 112 88 := ⟨hin, by rw [a0]; rfl, rfl, by decide, by rw [o0]; decide, by rw [s0]; decide, fun j _ => hE.f0 _⟩
  refine (free_own hA hS hT (by omega) 112 88 (by unfold Fits; omega)).mono ?_
  rintro e w' ⟨er, s', rfl, hg, hA', -⟩
  rcases hg with ⟨_, h2, _⟩ | ⟨rfl, i, x, m, l, t1, h2, h3, h4, h5⟩
  · exact absurd ⟨0, 112, 88, hgood⟩ h2
  · have ei : i = 0 := (good_gof hM h2).symm.trans (good_gof hM hgood)
    subst ei
    have e1 := h2.hf
    have e2 := h2.hn
    rw [a0] at e1
    have ex : x = 112 := by omega
    have em : m = 88 := by omega
    have hlen := (map_of (hS.fine.bm 0 hin)).1
    have hfr : ∀ q, fr l q = (fr (A.bm 0) q != decide (112 ≤ q ∧ q < 112 + 88)) := fun q => by
      rw [← h3, fr_turn hlen x m (A.bat 0) (by omega), ex, em]
    have hfine : (A.setB 0 l).Fine := by
      refine setB_fine hS.fine (fun _ => ?_) (fun q hq => ?_)
      · rw [← h3]
        exact turn_map (hS.fine.bm 0 hin) (by rw [s0, ex, em]; decide) (by rw [s0]; decide)
      · rw [o0] at hq
        rw [hfr, hE.f0, decide_eq_false (by omega)]
        rfl
    have hsays : Says s' (A.setB 0 l) := says_to (hS.rd h4) hin hfine (by rw [h5]; show (holds (t1.write _ _) _ _).N = t1.N; rw [holds_N]; rfl) (by rw [h5]; exact ((holds_coh (((hS.rd h4).coh).write _ _) _ _).write _ _).write _ _) (fun m => by
      rw [h5, write_val, write_val, holds_val, write_val])
    have hex : Ex (A.setB 0 l) f2 F1 := ⟨hE.geo, hfine, fun q => by
      show fr l q = f2 q
      rw [hfr, hE.f0]
      unfold f2
      rw [Bool.eq_iff_iff]; simp, hE.f1⟩
    refine ⟨rfl, s', _, AS.fit hA', hsays, ?_, hex, hI.setB _ _, fun q => ?_⟩
    · rw [h5]
      have q1 := Sto.load_write ((holds (t1.write (A.bat 0) l) (A.at_ 0 + x) m).write 1 (A.setB 0 l).grps) 0 (A.setB 0 l).sup
      have q2 := Sto.load_write (holds (t1.write (A.bat 0) l) (A.at_ 0 + x) m) 1 (A.setB 0 l).grps
      have q3 := holds_load (t1.write (A.bat 0) l) (A.at_ 0 + x) m
      have q4 := Sto.load_write t1 (A.bat 0) l
      have q5 := h4.load
      omega
    · rw [h5]
      show (holds (t1.write _ _) _ _).now.hld q = _
      rw [holds_hld]
      show (t1.now.hld q || _) = _
      rw [h4.now, hH, a0, ex, em, Nat.zero_add]
      rfl
/-- Inode of the example, of a file -/
theorem q_ino0 (h : Q a w b db L F0 F1 j0 I1 z0 z1 H) (hT : Tab a) (hL : L ≤ 1000000) :
    Calls Tryz.prog 14 #[.pointer (some ⟨b, 0, none⟩), .int .i64 0, .bool false] w fun e w' => e = .returned (.tuple #[.int .i64 1, .int .i64 0]) ∧ ∃ s A, AS a w'.heap.size (fun _ => False) w' b db s ∧ Says s A ∧ s.load ≤ L + 19 ∧ Im A j1 I1 (z0 - 1) z1 := by
  obtain ⟨s, A, hA, hS, hl, hE, hI, hH⟩ := h
  have hng := hI.ng
  have hin : 0 < A.ng := by rw [hng.1]; decide
  refine (inode_own hA hS (Nat.le_refl _) hT (by omega) 0 false (fun i => by rw [hI.dirs]; decide)).mono ?_
  rintro e w' ⟨v, s', rfl, htk, hA', -⟩
  obtain ⟨hv, t1, t2, -⟩ := tookI_at hS htk (x := 0) (sof0 hI) hin (by rw [hng.2]; decide) (by rw [hI.i0]; rfl) (fun k hk => by omega) (by rw [hI.dirs]; decide)
  exact ⟨by rw [hv]; simp, s', _, AS.fit hA', t1, by omega, hI.turn0 _ (map_of (hS.fine.im 0 hin)).1⟩
theorem q_ino1 {s : Sto} {A : Al} (hA : AS a w.heap.size (fun _ => False) w b db s) (hS : Says s A) (hl : s.load ≤ L) (hI : Im A I0 j0 z0 z1) (hT : Tab a) (hL : L ≤ 1000000) :
    Calls Tryz.prog 14 #[.pointer (some ⟨b, 0, none⟩), .int .i64 20, .bool false] w fun e w' => e = .returned (.tuple #[.int .i64 17, .int .i64 0]) ∧ ∃ s A, AS a w'.heap.size (fun _ => False) w' b db s ∧ Says s A ∧ s.load ≤ L + 19 ∧ Im A I0 j1 z0 (z1 - 1) := by
  have hng := hI.ng
  have hin : 1 < A.ng := by rw [hng.1]; decide
  refine (inode_own hA hS (Nat.le_refl _) hT (by omega) 20 false (fun i => by rw [hI.dirs]; decide)).mono ?_
  rintro e w' ⟨v, s', rfl, htk, hA', -⟩
  obtain ⟨hv, t1, t2, -⟩ := tookI_at hS htk (x := 0) (sof20 hI) hin (by rw [hng.2]; decide) (by rw [hI.i1]; rfl) (fun k hk => by omega) (by rw [hI.dirs]; decide)
  exact ⟨by rw [hv, hng.2]; rfl, s', _, AS.fit hA', t1, by omega, hI.turn1 _ (map_of (hS.fine.im 1 hin)).1⟩
theorem q_ino2 {s : Sto} {A : Al} (hA : AS a w.heap.size (fun _ => False) w b db s) (hS : Says s A) (hl : s.load ≤ L) (hI : Im A j1 I1 15 15) (hT : Tab a) (hL : L ≤ 1000000) :
    Calls Tryz.prog 14 #[.pointer (some ⟨b, 0, none⟩), .int .i64 0, .bool true] w fun e w' => e = .returned (.tuple #[.int .i64 2, .int .i64 0]) ∧ Below a.heap.size a w' := by
  have hng := hI.ng
  have hin : 0 < A.ng := by rw [hng.1]; decide
  refine (inode_own hA hS (Nat.le_refl _) hT (by omega) 0 true (fun i => by rw [hI.dirs]; decide)).mono ?_
  rintro e w' ⟨v, s', rfl, htk, hA', -⟩
  obtain ⟨hv, -, -, -⟩ := tookI_at hS htk (x := 1) (room hI) hin (by rw [hng.2]; decide) (by rw [hI.i0]; rfl) (fun k hk => by
    obtain rfl : k = 0 := by omega
    rw [hI.i0]; rfl) (by rw [hI.dirs]; decide)
  exact ⟨by rw [hv]; simp, hA'.below⟩
end
end Go.Proofs.YtgkindoidmglnaaGreatDoor.AAwQ
/- The document's examples of the allocator hold: awake answers true; the law AllocBack. -/
namespace Go.Proofs.YtgkindoidmglnaaGreatDoor.AAwake
open Go.RowKit WMem WPlain WAppend WCrc WSeal TPlain TBits TSet TTurn TFace TTurnF TFacts TNext GPlain GGeo GGeo2 GFace Ext Map DPlain DMem Mk DBase EPlain EMem EFace EAny SPlain QPlain QMem APlain AMem AGeo AOpen AHad AIno AIno2 ATake ABlocks AGivA AFree ALeft ATkI AInode AMake1 AEmpty AMake3 AMake5 ASays AOpened ABackM ALBack AAwM AAwB AAwI AAwQ

theorem opened_small (w : World) (hT : Tab w) : Calls Tryz.prog 8 #[.agg #[.int .i64 300, .int .i64 200, .int .i64 16, .int .i64 96]] w fun e w' => ∃ db b, e = .returned (.tuple #[.pointer (some ⟨db, 0, none⟩), .pointer (some ⟨b, 0, none⟩), .bool true]) ∧
    ∃ s A, AS w w'.heap.size (fun _ => False) w' b db s ∧ Says s A ∧ s.load ≤ 70001 ∧ Ex A f1 f4 ∧ Im A j0 j0 16 16 ∧ (∀ q, s.now.hld q = false) ∧ A.fb = 182 ∧ A.fi = 32 := by
  have h := opened_yes A0_is A0_may w hT
  rw [A0_geo.1, A0_geo.2.1, A0_geo.2.2.1, A0_geo.2.2.2] at h
  refine h.mono ?_
  rintro e w' ⟨db, b, rfl, hA⟩
  exact ⟨db, b, rfl, _, A0, hA, says_made A0_is A0_may 4 32, made_load A0_may, ex_start, im_start, fun _ => rfl, A0_left.1, A0_left.2⟩
theorem q_left {a w : World} {b db : Nat} (h : ∃ s A, AS a w.heap.size (fun _ => False) w b db s ∧ Says s A ∧ s.load ≤ 70001 ∧ Ex A f1 f4 ∧ Im A j0 j0 16 16 ∧ (∀ q, s.now.hld q = false) ∧ A.fb = 182 ∧ A.fi = 32) (hT : Tab a) :
    Calls Tryz.prog 18 #[.pointer (some ⟨b, 0, none⟩)] w fun e w' => e = .returned (.tuple #[.int .i64 182, .int .i64 32, .int .i64 0]) ∧ Q a w' b db 70003 f1 f4 j0 j0 16 16 (fun _ => false) := by
  obtain ⟨s, A, hA, hS, hl, hE, hI, hH, hfb, hfi⟩ := h
  refine (left_face hA hS hT (by omega)).mono ?_
  rintro e w' ⟨s', rfl, hr, hA', -⟩
  have := hr.load
  exact ⟨by rw [hfb, hfi]; rfl, s', A, AS.fit hA', hS.rd hr, by omega, hE, hI, fun q => by rw [hr.now]; exact hH q⟩
set_option maxRecDepth 100000 in
set_option maxHeartbeats 4000000 in
theorem awake_any (w : World) (hT : Tab w) : Calls Tryz.prog 7 #[] w fun e w' => e = .returned (.bool true) ∧ Below w.heap.size w w' := by
  have HT := Lib.hid hT
  clear hT
  go_enter Tryz.func7, Tryz.ntmps7
  go_wp2_with fail
  refine (small_any _).mono ?_
  rintro e w1 ⟨rfl, hb1⟩
  have HB1 := Lib.hid hb1
  have HT1 := Lib.hid (Tab.below HT.out hb1 (Tab.lt HT.out))
  clear hb1
  go_wp2_with fail
  refine (opened_small w1 HT1.out).mono ?_
  rintro e w2 ⟨db, b, rfl, hq⟩
  have H2 := Lib.hid (q_left hq HT1.out)
  clear hq
  go_wp2_with fail
  refine H2.out.mono ?_
  rintro e w3 ⟨rfl, hq⟩
  have H3 := Lib.hid (q_blocks0 hq HT1.out (by decide) 0 4 (by decide) (by decide) (by decide) (x := 108) (n := 4) (G0 := f2) (fun A hld hE hh => ans1 hE hh) (fun q => by unfold AAwB.f1 f2; rw [Bool.eq_iff_iff]; by_cases e1 : 108 ≤ q <;> by_cases e2 : q < 112 <;> simp [e1, e2] <;> omega))
  clear hq H2
  go_wp2_with fail
  refine H3.out.mono ?_
  rintro e w4 ⟨rfl, hq⟩
  have H4 := Lib.hid (q_blocks0 hq HT1.out (by decide) 112 100 (by decide) (by decide) (by decide) (x := 112) (n := 88) (G0 := fun _ => false) (fun A hld hE hh => ans2 hE hh) (fun q => by unfold f2; rw [Bool.eq_iff_iff]; simp))
  clear hq H3
  go_wp2_with fail
  refine H4.out.mono ?_
  rintro e w5 ⟨rfl, hq⟩
  have H5 := Lib.hid (q_blocks1 hq HT1.out (by decide) 150 2 (by decide) (by decide) (by decide) (x := 10) (n := 2) (y := 210) (G1 := f5) rfl (fun A hld hE hh => none3 hE 150 2) (fun A hld hE hh => ans3 hE hh) (fun q => by unfold AAwB.f4 f5; rw [Bool.eq_iff_iff]; by_cases e1 : 10 ≤ q <;> by_cases e2 : q < 12 <;> simp [e1, e2] <;> omega))
  clear hq H4
  go_wp2_with fail
  refine H5.out.mono ?_
  rintro e w6 ⟨rfl, hq⟩
  have H6 := Lib.hid (q_free hq HT1.out (by decide))
  clear hq H5
  go_wp2_with fail
  refine H6.out.mono ?_
  rintro e w7 ⟨rfl, hq⟩
  have H7 := Lib.hid (q_blocks1 hq HT1.out (by decide) 112 1 (by decide) (by decide) (by decide) (x := 12) (n := 1) (y := 212) (G1 := fun q => f5 q != decide (12 ≤ q ∧ q < 12 + 1)) rfl (fun A hld hE hh => none5 hE hh 112 1) (fun A hld hE hh => ans5 hE hh) (fun q => rfl))
  clear hq H6
  go_wp2_with fail
  refine H7.out.mono ?_
  rintro e w8 ⟨rfl, hq⟩
  have H8 := Lib.hid (q_ino0 hq HT1.out (by decide))
  clear hq H7
  go_wp2_with fail
  refine H8.out.mono ?_
  rintro e w9 ⟨rfl, s9, A9, hA, hS, hl, hI⟩
  have H9 := Lib.hid (q_ino1 hA hS hl hI HT1.out (by decide))
  clear hA hS hl hI H8
  go_wp2_with fail
  refine H9.out.mono ?_
  rintro e w10 ⟨rfl, s10, A10, hA, hS, hl, hI⟩
  have H10 := Lib.hid (q_ino2 hA hS hl hI HT1.out (by decide))
  clear hA hS hl hI H9
  go_wp2_with fail
  refine H10.out.mono ?_
  rintro e w11 ⟨rfl, hb⟩
  have HB := Lib.hid (below_up HB1.out hb HB1.out.size)
  clear hb H10
  go_wp2
  go_ret
  exact ⟨rfl, HB.out⟩
set_option maxRecDepth 100000 in
set_option maxHeartbeats 1000000 in
theorem back_no {b p n j : Int} (h : mayB b p n j = false) (goal want : Int) (w : World) (hT : Tab w) :
    Calls Tryz.prog 4 #[.agg #[.int .i64 b, .int .i64 p, .int .i64 n, .int .i64 j], .int .i64 goal, .int .i64 want] w fun e w' => e = .returned (.bool true) ∧ Below w.heap.size w w' := by
  have r0 := rowV_new w [.int .i64 b, .int .i64 p, .int .i64 n, .int .i64 j] 23
  have HB0 := Lib.hid (below_box (w := w) (.cells #[.int .i64 b, .int .i64 p, .int .i64 n, .int .i64 j] 23))
  have HR0 := Lib.hid r0
  have HT := Lib.hid hT
  have HN := Lib.hid h
  clear hT r0 h
  go_enter Tryz.func4, Tryz.ntmps4
  go_wp2_with fail
  refine (awake_any _ (Tab.below HT.out HB0.out (Tab.lt HT.out))).mono ?_
  rintro e w1 ⟨rfl, hb⟩
  have HB1 := Lib.hid (below_up HB0.out hb (by simp))
  have r1 := HR0.out.keep hb HR0.out.lt
  have HR1 := Lib.hid r1
  have y0 := rowc r1 0 rfl
  have y1 := rowc r1 1 rfl
  have y2 := rowc r1 2 rfl
  have y3 := rowc r1 3 rfl
  clear r1 hb
  go_wp2_with fail
  refine (opened_no b p n j HN.out w1).mono ?_
  rintro e w2 ⟨rfl, hb⟩
  have HB2 := Lib.hid (below_up HB1.out hb HB1.out.size)
  have r2 := HR1.out.keep hb HR1.out.lt
  clear y0 y1 y2 y3 hb
  have y0 := rowc r2 0 rfl
  have y1 := rowc r2 1 rfl
  have y2 := rowc r2 2 rfl
  have y3 := rowc r2 3 rfl
  clear r2
  go_wp2_with fail
  refine (Check_no b p n j w2 HN.out).mono ?_
  rintro e w3 ⟨rfl, hb⟩
  have HB3 := Lib.hid (below_up HB2.out hb HB2.out.size)
  clear hb
  go_wp2
  go_ret
  exact ⟨rfl, HB3.out⟩
theorem back_true (b p n j goal want : Int) (w : World) (hT : Tab w) :
    Calls Tryz.prog 4 #[.agg #[.int .i64 b, .int .i64 p, .int .i64 n, .int .i64 j], .int .i64 goal, .int .i64 want] w fun e w' => e = .returned (.bool true) ∧ Below w.heap.size w w' := by
  cases hm : mayB b p n j with
  | false => exact back_no hm goal want w hT
  | true => exact back_may awake_any (A := empty b p n j) rfl (may_iff.1 hm) goal want w hT
end Go.Proofs.YtgkindoidmglnaaGreatDoor.AAwake
