/- The allocator: an inode is taken. Written by gen_tki.py. -/
import Derived.Test.YtgkindoidmglnaaGreatDoorMg44
namespace Go.Proofs.YtgkindoidmglnaaGreatDoor.ATkI0
open Go.RowKit Go.Shelf WMem WPlain WAppend WCrc WSeal TPlain TBits TSet TTurn TFace TTurnF TSame TFind TFacts GPlain GGeo GGeo2 GFace Ext Map DPlain DMem EPlain EMem EFace EBack EAny SPlain QPlain QMem QChunk APlain AMem AGeo AOpen ATurn ACount AHad ARound AIno AIno2 ATkI

attribute [local go_sem] Oper.semAt_some

/-- the call's own slots while a round is under way -/
def TA (z1 lb z : Nat) (A : Al) (near : Int) (x : Nat) (a' : Act) (_W : World) : Prop :=
  a' = { tmps := #[.pointer (some ⟨lb, 0, none⟩), .int .i64 near, .bool false, .pointer (some ⟨z, 0, none⟩), undef, .pointer (some ⟨z + 1, 0, none⟩), .pointer (some ⟨z + 2, 0, none⟩), .pointer (some ⟨z + 3, 0, none⟩), .int .i64 (sof A near : Nat),
    .int .i64 (nth (sof A near) A.ng x : Nat), undef, undef, undef, undef, undef, undef, .pointer (some ⟨lb, 0, none⟩), .int .i64 near, .int .i64 (sof A near : Nat), .bool false, undef, undef, .pointer (some ⟨lb, 0, none⟩), .int .i64 (sof A near : Nat),
    .func (.func 102) #[] #[.pointer (some ⟨z1, 0, none⟩), .pointer (some ⟨z1 + 1, 0, none⟩)], .int .i64 (nth (sof A near) A.ng x : Nat), undef, undef, undef, undef, undef, undef, undef, undef, undef, undef, undef, undef, undef, undef, undef, undef, undef, undef, undef, undef, undef, undef, undef, undef, undef, undef, undef, undef, undef, undef, undef, undef, undef, undef, undef, undef, undef, undef, undef], defers := [] }
section
variable {a w : World} {B : Nat} {S : Nat → Prop} {b db : Nat} {s : Sto} {A : Al} {lb gb c : Nat}
set_option maxRecDepth 100000 in
set_option maxHeartbeats 4000000 in
theorem takeI_in (h : AS a B S w b db s) (hs : Says s A) (hL : Led w lb gb c b A A.gs A.fb A.fi) (hS1 : S lb) (hS2 : S gb) (ha1 : a.heap.size ≤ lb) (ha2 : a.heap.size ≤ gb) (hBw : B ≤ w.heap.size) (hT : Tab a) (hload : s.load + 40 ≤ 1073741824) (near : Int) (hdir : ∀ i, A.dirs i + dirN false ≤ 65535) :
    CallsIn Fence.wide 6 Tryz.prog 34 #[.pointer (some ⟨lb, 0, none⟩), .int .i64 near, .bool false] w fun e w' => ∃ v s', e = .returned v ∧ TookI 14 A s (sof A near) false v s' ∧ AS a B S w' b db s' ∧ Kp (fun q => S q ∧ q ≠ lb ∧ q ≠ gb) w w' := by
  have hM := hs.fine.may
  have hng := ng_le hM
  obtain ⟨n, hn⟩ : ∃ n : Nat, A.n = (n : Int) := ⟨A.n.toNat, by have := hM.n0; omega⟩
  have hnn : A.n.toNat = n := by omega
  have hn16 : n ≤ 2016 := by have := hM.n1; omega
  obtain ⟨q1, q2, q3⟩ := boxesI_is w lb false
  have H0 := Lib.hid (h.also q2)
  have HB0 := Lib.hid q2
  have HX0 := Lib.hid q3
  have HL0 := Lib.hid (hL.below q2)
  have HQ1 := Lib.hid q1
  have y0 := rowc q3.b0 0 rfl
  have H := Lib.hid h
  have HS := Lib.hid hs
  have HT := Lib.hid hT
  clear h hs hL hT q1 q2 q3
  refine callsIn_of_wp_marks Tryz.func34 rfl trivial ?_ rfl
  simp only [Tryz.ntmps34, List.size_toArray, List.length_cons, List.length_nil, Nat.reduceAdd, Nat.reduceSub, Array.replicate_succ, Array.replicate_zero, List.push_toArray, List.append_toArray, List.nil_append, List.cons_append]
  gi_wp2_with fail
  simp only [Nat.add_assoc, Nat.reduceAdd]
  try rw [show (((w.alloc (.cells #[.pointer (some ⟨lb, 0, none⟩)] 61)).alloc (.cells #[.bool false] 4)).alloc (.cells #[.int .i64 0] 3)).alloc (.cells #[.int .i64 0] 30) = boxesI w lb false from rfl]
  generalize hW0 : boxesI w lb false = W0 at *
  clear hW0
  have HC := Lib.hid (standsIn_any HL0.out hM near)
  refine ⟨trivial, (callsIn_wide.2 HC.out).mono ?_⟩
  rintro e w1 ⟨rfl, hb1⟩
  have hX1 : BxI w w1 lb false := HX0.out.keep fun q h1 h2 => hb1.block q (by have := HQ1.out; omega)
  have y0 := rowc hX1.b0 0 rfl
  have y1 := rowc hX1.b1 0 rfl
  have HX1 := Lib.hid hX1
  have HB1 := Lib.hid hb1
  clear hX1 hb1
  gi_wp2_with fail
  refine ⟨trivial, (round_in 5 lb (sof A near : Nat) _).mono ?_⟩
  rintro e w2 ⟨rfl, rfl⟩
  have hz1 : w.heap.size + 4 ≤ w1.heap.size := by have := HB1.out.size; have := HQ1.out; omega
  have HB2 : Hid (Below w.heap.size w ((w1.alloc (.cells #[.pointer (some ⟨lb, 0, none⟩)] 61)).alloc (.cells #[.int .i64 (sof A near : Nat)] 3))) := Lib.hid (((below_up HB0.out HB1.out (by have := HQ1.out; omega)).alloc (by omega) _).alloc (by simp; omega) _)
  have HBB : Hid (Below W0.heap.size W0 ((w1.alloc (.cells #[.pointer (some ⟨lb, 0, none⟩)] 61)).alloc (.cells #[.int .i64 (sof A near : Nat)] 3))) := Lib.hid ((HB1.out.alloc HB1.out.size _).alloc (by have := HB1.out.size; simp at *; omega) _)
  have R1 := Lib.hid ((rowV_new w1 [.pointer (some ⟨lb, 0, none⟩)] 61).alloc (.cells #[.int .i64 (sof A near : Nat)] 3))
  have r2 := rowV_new (w1.alloc (.cells #[.pointer (some ⟨lb, 0, none⟩)] 61)) [.int .i64 (sof A near : Nat)] 3
  simp only [World.size_alloc] at r2
  have R2 := Lib.hid r2
  clear r2 y0 y1
  have HZ1 : Hid (((w1.alloc (.cells #[.pointer (some ⟨lb, 0, none⟩)] 61)).alloc (.cells #[.int .i64 (sof A near : Nat)] 3)).heap.size = w1.heap.size + 2) := Lib.hid (by simp)
  obtain ⟨z1, hz⟩ : ∃ z1, w1.heap.size = z1 := ⟨_, rfl⟩
  rw [hz] at hz1 HZ1 R1 R2 ⊢
  generalize hW1 : (w1.alloc (.cells #[.pointer (some ⟨lb, 0, none⟩)] 61)).alloc (.cells #[.int .i64 (sof A near : Nat)] 3) = W1 at *
  have HLW := Lib.hid (HL0.out.below HBB.out)
  have HXW : Hid (BxI w W1 lb false) := Lib.hid (HX0.out.keep (fun q h1 h2 => HBB.out.block q (by have := HQ1.out; omega)))
  have HAW := Lib.hid (H.out.also HB2.out)
  have HKW := Lib.hid (H.out.kp HB2.out)
  clear hW1 hz HB1 HC
  have HST := Lib.hid (round_stops 5 (by omega) z1 (z1 + 1) (sof A near) A.ng hng.1 hng.2 (sof_lt hM near) W1 lb gb c HLW.out.lt.1 R1.out R2.out (by have := HLW.out.cs.2.2.2.2.2.2.2.2.2.2; rw [gs_len] at this; exact this))
  generalize hSx : (fun q => S q ∨ (w.heap.size ≤ q ∧ q < W1.heap.size)) = Sx at *
  have HSX : Hid ((∀ q, S q → Sx q) ∧ (∀ q, w.heap.size ≤ q → q < W1.heap.size → Sx q) ∧ ∀ q, Sx q → q < W1.heap.size) := Lib.hid (by subst hSx; exact ⟨fun q hq => .inl hq, fun q h1 h2 => .inr ⟨h1, h2⟩, HAW.out.there⟩)
  clear hSx
  have HI0 : Hid (TII a B b db s A (sof A near) Sx W1 [] W1 ∧ W1.heap.size ≤ W1.heap.size) := Lib.hid ⟨⟨s, Rd.refl HS.out.coh, HAW.out, Kp.refl _ _, fun _ y hy => (by cases hy)⟩, Nat.le_refl _⟩
  have hBW : B ≤ W1.heap.size := by have := HZ1.out; omega
  have haW : a.heap.size ≤ W1.heap.size := HAW.out.below.size
  gi_wp2_with fail
  obtain ⟨z, hz⟩ : ∃ z, w.heap.size = z := ⟨_, rfl⟩
  rw [hz]
  have HZ := Lib.hid hz
  refine wpIn_rangeFunc_ownH rfl (by omega) (gf := 102) (lb := #[.pointer (some ⟨z1, 0, none⟩), .pointer (some ⟨z1 + 1, 0, none⟩)]) rfl trivial (enters_of Tryz.func102 (by kernel_rfl) rfl)
    HST.out CKeep.trans (fun W l o o' _ h hc _ => CKeep.turn W l o o' h hc) (Below.refl _ _) (fun _ => rfl) (fun pre W => TII a B b db s A (sof A near) Sx W1 pre W ∧ W1.heap.size ≤ W.heap.size) (fun cc pre W => TXI a B b db s A (sof A near) false Sx lb gb z W1 cc pre W ∧ W1.heap.size ≤ W.heap.size) ?hI ?hIx HI0.out (TA z1 lb z A near) ?hAx ?assign ?body ?done ?stop
  case hI => exact TII.own hBW haW HSX.out.2.2
  case hIx => exact fun cc => TXI.own hBW haW HSX.out.2.2 (by have := HZ1.out; omega) cc
  case hAx => intro x a'; exact fun _ _ _ _ hs _ _ => hs
  case assign =>
    intro lo pre x W K hi hK
    simp only [rnd]
    gi_wp2
    exact hK _ _ (KeepsFrom.refl _ _) (CKeep.refl _ _) hi rfl
  case body =>
    rintro lo pre x a' W hlo - ⟨⟨s1, h1, h2, h3, h4⟩, hzW⟩ rfl hlt
    have hpl : pre.length ≤ 13 := by omega
    obtain ⟨i, hi0⟩ : ∃ i, nth (sof A near) A.ng x = i := ⟨_, rfl⟩
    have hi : i < A.ng := by rw [← hi0]; exact nth_lt x hng.1
    rw [hi0]
    obtain ⟨x3, hx3⟩ : ∃ x3, A.bat i + 1 = x3 := ⟨_, rfl⟩
    have hx3N : x3 < s1.N := by rw [h1.N, ← hx3]; exact HS.out.bat_lt hi
    have hm3 : isMap (A.im i) n x3 = true := by rw [← hnn, ← hx3]; exact HS.out.fine.im i hi
    have HS1 := Lib.hid (HS.out.rd h1)
    have HLd := Lib.hid (HLW.out.kp h3 (HSX.out.1 _ hS1) (HSX.out.1 _ hS2))
    have HBX : Hid (BxI w W lb false) := Lib.hid (HXW.out.keep (fun q q1 q2 => h3 q (HSX.out.2.1 q q1 (by have := HZ1.out; omega))))
    have HA := Lib.hid (h2.walks W1.heap.size hBW)
    have hld1 := h1.load
    have H3 := Lib.hid h3
    have H1 := Lib.hid h1
    have H4 := Lib.hid h4
    have HM3 := Lib.hid (And.intro hx3N hm3)
    have y0 := rowc HBX.out.b0 0 rfl
    rw [hz] at y0
    clear h1 h2 h3 h4 hx3N hm3
    gi_wp2_with fail
    refine ⟨trivial, ((callsIn_wide.2 (inodesOf_own HA.out HS1.out HLd.out (.inl (HSX.out.1 _ hS1)) (.inl (HSX.out.1 _ hS2)) HT.out (by omega) hi hx3 hn)).inRound lo).mono ?_⟩
    rintro e W2 ⟨g, c', rest, rfl, hg, hc', hR, hA2, hk2, hr2⟩
    have HRD := Lib.hid (H1.out.trans hr2)
    have HN2 : Hid ((s1.read x3).N = s1.N) := Lib.hid hr2.N
    generalize s1.read x3 = s2 at *
    have HBL : Hid ((A.im i).length = 256) := Lib.hid (map_of HM3.out.2).1
    have HS2 : Hid (W.heap.size ≤ W2.heap.size) := Lib.hid (by have := hR.lt; have := hk2; omega)
    have HB3 := Lib.hid (below_box (w := W2) (.cells #[.int .i64 x3, .int .i64 n, .slice (some ⟨g, 0, none⟩) 256 c'] 122))
    have HA3 := Lib.hid (hA2.also HB3.out)
    have hX2 : BxI w W2 lb false := HBX.out.keep (fun q q1 q2 => hk2 q (.inl (HSX.out.2.1 q q1 (by have := HZ1.out; omega))))
    have hX3 : BxI w (W2.alloc (.cells #[.int .i64 x3, .int .i64 n, .slice (some ⟨g, 0, none⟩) 256 c'] 122)) lb false := hX2.keep (fun q q1 q2 => HB3.out.block q (by have := HZ1.out; have := HS2.out; omega))
    have y0 := rowc hX3.b0 0 rfl
    rw [hz] at y0
    have r3 := rowV_new W2 [.int .i64 x3, .int .i64 n, .slice (some ⟨g, 0, none⟩) 256 c'] 122
    have HLd3 := Lib.hid ((HLd.out.kp hk2 (.inl (HSX.out.1 _ hS1)) (.inl (HSX.out.1 _ hS2))).below HB3.out)
    have HR3 : Hid (Row (W2.alloc (.cells #[.int .i64 x3, .int .i64 n, .slice (some ⟨g, 0, none⟩) 256 c'] 122)) g (A.im i) rest) := Lib.hid (row_alloc hR _)
    have HK3 : Hid (Kp (fun q => Sx q ∨ (W1.heap.size ≤ q ∧ ∃ o : Obj, W.heap[q]? = some o ∧ o.isCells = false)) W (W2.alloc (.cells #[.int .i64 x3, .int .i64 n, .slice (some ⟨g, 0, none⟩) 256 c'] 122))) := Lib.hid (hk2.trans ((hA2.kp HB3.out).less fun q hq => .inl hq))
    obtain ⟨q0, hq0⟩ : ∃ q0, W2.heap.size = q0 := ⟨_, rfl⟩
    have HX3b := Lib.hid hX3
    have hq0b : q0 < (W2.alloc (.cells #[.int .i64 x3, .int .i64 n, .slice (some ⟨g, 0, none⟩) 256 c'] 122)).heap.size := by rw [← hq0]; simp
    rw [hq0] at r3
    have z0 := rowc r3 0 rfl
    have z1' := rowc r3 1 rfl
    have z2 := rowc r3 2 rfl
    have HR3b := Lib.hid r3
    have HQ0 := Lib.hid hq0
    clear hX2 hX3 hk2 hA2 hR hr2 r3
    gi_wp2_with fail
    try rw [hq0]
    generalize hW3 : W2.alloc (.cells #[.int .i64 x3, .int .i64 n, .slice (some ⟨g, 0, none⟩) 256 c'] 122) = W3 at *
    have HQ0b := Lib.hid hq0b
    clear hW3 hq0 hq0b
    refine ⟨trivial, ((callsIn_wide.2 (firstFree_any (x3 : Int) HBL.out hn16 HR3.out)).inRound lo).mono ?_⟩
    have e1 : someI (A.im i) n = okI A i := by unfold okI; rw [hnn]
    have e2 : firstI (A.im i) n = atI A i := by unfold atI; rw [hnn]
    rw [e1, e2]
    rintro e W4 ⟨rfl, hb4⟩
    have HKP : Hid (Kp (fun q => Sx q ∨ (W1.heap.size ≤ q ∧ ∃ o : Obj, W.heap[q]? = some o ∧ o.isCells = false)) W W4) := Lib.hid (HK3.out.trans ((HA3.out.kp hb4).less fun q hq => .inl (.inl hq)))
    have hsz : W.heap.size ≤ W4.heap.size := by have := HS2.out; have := HB3.out.size; have := hb4.size; omega
    have HA4 := Lib.hid (HA3.out.also hb4)
    have HLd4 := Lib.hid (HLd3.out.below hb4)
    have HR4 : Hid (Row W4 g (A.im i) rest) := Lib.hid (row_below HR3.out hb4 HR3.out.lt)
    have HR4b : Hid (RowV W4 q0 122 [.int .i64 x3, .int .i64 n, .slice (some ⟨g, 0, none⟩) 256 c']) := Lib.hid (HR3b.out.keep hb4 HR3b.out.lt)
    have HX4 : Hid (BxI w W4 lb false) := Lib.hid (HX3b.out.keep (fun q q1 q2 => hb4.block q (by have := HZ1.out; have := HS2.out; have := HB3.out.size; omega)))
    clear e1 e2 hb4 y0 z0 z1' z2
    have hkp := HKP.out
    cases hq : okI A i with
    | false =>
      gi_wp2_with fail
      refine ⟨⟨hsz, fun k o hB hk ho => (hkp k (.inr ⟨hB, o, hk, ho⟩)).trans hk⟩, fun k o hk ho _ => (hkp k (.inl (HSX.out.2.1 k ?_ ?_))).trans ho, ⟨s2, ?_, HA4.out.less fun q hq => .inl (.inl (.inl (.inl hq))), H3.out.trans (hkp.less fun _ h => .inl h), fun hp2 y hy => ?_⟩, Nat.le_trans hzW hsz⟩
      · rcases hk with rfl | rfl <;> omega
      · have := HZ1.out; rcases hk with rfl | rfl <;> omega
      · rw [List.length_append, List.length_singleton]
        exact HRD.out
      · rw [List.length_append, List.length_singleton] at hp2 hy
        rw [List.range_succ] at hp2
        obtain ⟨h5, h6⟩ := List.append_inj' hp2 rfl
        by_cases hy2 : y < pre.length
        · exact H4.out h5 y hy2
        · obtain rfl : y = pre.length := by omega
          obtain rfl : x = pre.length := by simpa using h6
          rw [hi0]
          exact hq
    | true =>
      obtain ⟨f1, f2, -⟩ := okI_facts hq
      rw [hnn] at f1
      obtain ⟨xx, hxx⟩ : ∃ xx, atI A i = xx := ⟨_, rfl⟩
      rw [hxx] at f1 f2 ⊢
      have hall : allB (A.im i) xx 1 (!true) = true := allB_iff.2 fun j hj => by
        obtain rfl : j = 0 := by omega
        rw [Nat.add_zero, f2]
      obtain ⟨l, hl⟩ : ∃ l, turnL (A.im i) xx 1 x3 = l := ⟨_, rfl⟩
      have hl2 : turnL (A.im i) xx 1 (A.bat i + 1) = l := by rw [hx3]; exact hl
      have hd0 := HS.out.fine.dirs i
      have hd1 := hdir i
      rw [show dirN false = 0 from rfl] at hd1
      have hmap : isMap l n x3 = true := by rw [← hl]; exact turn_map HM3.out.2 f1 hn16
      have hfine : (A.setI i l (dirN false)).Fine := setI_fine HS.out.fine (fun _ => by rw [hnn, hx3]; exact hmap) (by rw [show dirN false = 0 from rfl]; omega)
      have hzero : TBits.zeros l + 1 = TBits.zeros (A.im i) := by rw [← hl]; exact turn_take (c := 1) HBL.out x3 (by omega) (fun j hj => by
        obtain rfl : j = 0 := by omega
        exact f2)
      have hfi := setI_fi (A := A) l (dirN false) hi
      have hgi : A.gs[i]'(by rw [gs_len]; exact hi) = A.grp i := gs_get _
      have hgs := setI_gs (A := A) (i := i) l (dirN false)
      rw [show dirN false = 0 from rfl] at hgs hfi hfine
      have HGS := Lib.hid hgs
      have HCN := Lib.hid (fun (W : World) (S' : Nat → Prop) (s' : Sto) (h1 : AS a B S' W b db s') (h2 : Led W lb gb c b A A.gs A.fb A.fi) (h3 : S' lb) (h4 : S' gb) (h5 : s'.load + 10 ≤ 1073741824) =>
        count_own h1 h2 h3 h4 ha1 ha2 HT.out h5 (i := i) (by rw [gs_len]; exact hi) 0 (-1) 0 (TBits.zeros (A.bm i) : Nat) (TBits.zeros l : Nat) (A.dirs i + 0) (A.fb : Nat) ((A.setI i l 0).fi : Nat)
          (by rw [hgi]; exact Int.add_zero _) (by rw [hgi]; show (TBits.zeros (A.im i) : Int) + _ = _; omega) (by rw [hgi]; rfl) (Int.add_zero _) (by omega) (by rw [show A.gs.set i ⟨(TBits.zeros (A.bm i) : Nat), (TBits.zeros l : Nat), A.dirs i + 0⟩ = (A.setI i l 0).gs from hgs.symm]; exact fine_grp hfine) (fine_sup hfine))
      have HTN := Lib.hid (turn_own HA4.out HLd4.out (.inl (.inl (.inl (.inl (HSX.out.1 _ hS1))))) HT.out (by have := HRD.out.load; omega) x3 n xx 1 true (A.im i) (by rw [HN2.out]; exact HM3.out.1) hn16 HM3.out.2 (by omega) f1 hall g c' rest hc' HR4.out)
      rw [show ((1 : Nat) : Int) = 1 from rfl, hl] at HTN
      obtain ⟨m1, hm1⟩ : ∃ m, i * n = m := ⟨_, rfl⟩
      obtain ⟨m2, hm2⟩ : ∃ m, m1 + xx = m := ⟨_, rfl⟩
      obtain ⟨m3, hm3⟩ : ∃ m, m2 + 1 = m := ⟨_, rfl⟩
      have hnum := num_ino (i := i) (n := n) (xx := xx) (by omega) hn16 (by omega)
      rw [hm1, hm2, hm3] at hnum
      have HNUM := Lib.hid hnum
      have HMM : Hid (i * n + xx + 1 = m3) := Lib.hid (by rw [hm1, hm2, hm3])
      have HEQ := Lib.hid (And.intro hxx hl2)
      have HX3 := Lib.hid hx3
      have HOK := Lib.hid hq
      have y0 := rowc HX4.out.b0 0 rfl
      rw [hz] at y0
      have p0 := rowc HR4b.out 0 rfl
      have p1 := rowc HR4b.out 1 rfl
      have p2 := rowc HR4b.out 2 rfl
      clear f1 f2 hall hl hl2 hd0 hd1 hmap hfine hzero hfi hgi hgs hnum hm1 hm2 hm3 hxx hq hkp hx3
      gi_wp2_with fail
      refine ⟨trivial, ((callsIn_wide.2 HTN.out).inRound lo).mono ?_⟩
      rintro e W5 ⟨rfl, hA5, hk5⟩
      have HA5 := Lib.hid hA5
      have HLd5 := Lib.hid (HLd4.out.kp hk5 (.inl (.inl (.inl (.inl (HSX.out.1 _ hS1))))) (.inl (.inl (.inl (.inl (HSX.out.1 _ hS2))))))
      have HK5 := Lib.hid (HKP.out.trans (hk5.less fun q hq => .inl (.inl (.inl hq))))
      have HX5 : Hid (BxI w W5 lb false) := Lib.hid (HX4.out.keep (fun q q1 q2 => hk5 q (.inl (.inl (.inl (.inl (HSX.out.2.1 q q1 (by have := HZ1.out; omega))))))))
      have HR5b : Hid (RowV W5 q0 122 [.int .i64 x3, .int .i64 n, .slice (some ⟨g, 0, none⟩) 256 c']) := Lib.hid ((hk5 _ (.inl (.inr ⟨Nat.le_of_eq HQ0.out, HQ0b.out⟩))).trans HR4b.out)
      have HRG5d : Hid (RgI W5.drew z lb false) := Lib.hid (by
        have b0 := HX5.out.b0
        have b1 := HX5.out.b1
        rw [hz] at b0 b1
        exact ⟨b0, b1⟩)
      clear hA5 hk5 y0 p0 p1 p2
      gi_wp2_with fail
      refine ARegion.region_in_held (S := fun w' => RgI w' z lb false) (by kernel_rfl) (by kernel_rfl) (by rintro ⟨_, _, h⟩; exact h.elim) HRG5d.out (fun hHeld => ?_)
      refine wpAnyH_take (i := 0) (v := ?_) rfl (by kernel_rfl) (by kernel_rfl) (by kernel_rfl) (fun _ _ _ h => h) (Or.inl ⟨by rfl, ?_⟩) hHeld ?_
      rotate_left
      · intro wq hSw
        have s0 := rowc hSw.r0 0 rfl
        have s1 := rowc hSw.r1 0 rfl
        go_simp
        try with_reducible rfl
      try simp only [Act.put, List.getElem_toArray, List.getElem_cons_zero, List.setIfInBounds_toArray, List.set_cons_zero, List.set_cons_succ]
      refine wpAnyH_take (i := 1) (v := ?_) rfl (by kernel_rfl) (by kernel_rfl) (by kernel_rfl) (fun _ _ _ h => h) (Or.inl ⟨by rfl, ?_⟩) hHeld ?_
      rotate_left
      · intro wq hSw
        go_simp
        try with_reducible rfl
      try simp only [Act.put, List.getElem_toArray, List.getElem_cons_zero, List.getElem_cons_succ, List.setIfInBounds_toArray, List.set_cons_zero, List.set_cons_succ]
      refine wpAnyH_take (i := 2) (v := ?_) rfl (by kernel_rfl) (by kernel_rfl) (by kernel_rfl) (fun _ _ _ h => h) (Or.inl ⟨by rfl, ?_⟩) hHeld ?_
      rotate_left
      · intro wq hSw
        have s0 := rowc hSw.r0 0 rfl
        have s1 := rowc hSw.r1 0 rfl
        go_simp
        try with_reducible rfl
      try simp only [Act.put, List.getElem_toArray, List.getElem_cons_zero, List.getElem_cons_succ, List.setIfInBounds_toArray, List.set_cons_zero, List.set_cons_succ]
      refine wpAnyH_ready (rs := [3]) (by kernel_rfl) (by simp) ?_
      refine AllReadyH.cons (o := _) rfl (fun K hK => ?_) (AllReadyH.nil)
      go_simp
      go_at_call 73
      refine (dirs_any false _).mono ?_
      rw [show dirN false = 0 from rfl]
      rintro e W6 ⟨rfl, rfl⟩
      go_wp2_with fail
      refine hK.out _ _ HRG5d.out (fun hHeld => ?_)
      clear hK K
      try simp only [Act.put, List.getElem_toArray, List.getElem_cons_zero, List.getElem_cons_succ, List.setIfInBounds_toArray, List.set_cons_zero, List.set_cons_succ]
      refine wpAnyH_take (i := 4) (v := .agg #[.int .i64 0, .int .i64 (-1), .int .i64 0]) rfl (by kernel_rfl) (by kernel_rfl) (by kernel_rfl) (fun _ _ _ h => h) (Or.inl ⟨by rfl, ?_⟩) hHeld ?_
      · intro wq hSw
        first | kernel_rfl | rfl | (go_simp; rfl)
      try simp only [Act.put, List.getElem_toArray, List.getElem_cons_zero, List.getElem_cons_succ, List.setIfInBounds_toArray, List.set_cons_zero, List.set_cons_succ]
      refine wpAnyH_ready (rs := [5]) (by kernel_rfl) (by simp) ?_
      refine AllReadyH.cons (o := _) rfl (fun K hK => ?_) (AllReadyH.nil)
      go_simp
      go_at_call 67
      refine (HCN.out _ _ _ (HA5.out.drewN 1) (HLd5.out.drewN 1) (.inl (.inl (.inl (.inl (HSX.out.1 _ hS1))))) (.inl (.inl (.inl (.inl (HSX.out.1 _ hS2))))) (by have := HRD.out.load; have := Sto.load_write s2 x3 l; omega)).mono ?_
      rintro e W7 ⟨rfl, hA7, hk7⟩
      have hlbz : lb < z ∧ gb < z := by have := H.out.there _ hS1; have := H.out.there _ hS2; have := HZ.out; omega
      have hWz : z + 4 ≤ W1.heap.size := by have := HZ1.out; have := HZ.out; omega
      have hzin : ∀ k, k < 4 → Sx (z + k) := fun k hk => HSX.out.2.1 _ (by have := HZ.out; omega) (by omega)
      have HRG7 : Hid (RgI W7 z lb false) := Lib.hid ⟨(hk7 _ ⟨.inl (.inl (.inl (.inl (hzin 0 (by omega))))), by omega, by omega⟩).trans HRG5d.out.r0, (hk7 _ ⟨.inl (.inl (.inl (.inl (hzin 1 (by omega))))), by omega, by omega⟩).trans HRG5d.out.r1⟩
      have HA7 := Lib.hid hA7
      have HK7 : Hid (Kp (fun q => (Sx q ∨ (W1.heap.size ≤ q ∧ ∃ o : Obj, W.heap[q]? = some o ∧ o.isCells = false)) ∧ q ≠ lb ∧ q ≠ gb) W W7) := Lib.hid (((HK5.out.trans (Kp.drewN _ _ 1)).less fun q hq => hq.1).trans (hk7.less fun q hq => ⟨.inl (.inl (.inl hq.1)), hq.2⟩))
      have r3 : RowV W7 q0 122 [.int .i64 x3, .int .i64 n, .slice (some ⟨g, 0, none⟩) 256 c'] := (hk7 _ ⟨.inl (.inr ⟨Nat.le_of_eq HQ0.out, HQ0b.out⟩), by have := HQ0.out; have := HS2.out; omega, by have := HQ0.out; have := HS2.out; omega⟩).trans HR5b.out
      have HR7 := Lib.hid r3
      clear hA7 hk7 r3 hlbz hWz hzin
      go_wp2_with fail
      refine hK.out _ _ HRG7.out (fun hHeld => ?_)
      clear hK K
      try simp only [Act.put, List.getElem_toArray, List.getElem_cons_zero, List.getElem_cons_succ, List.setIfInBounds_toArray, List.set_cons_zero, List.set_cons_succ]
      refine wpAnyH_take (i := 6) (v := ?_) rfl (by kernel_rfl) (by kernel_rfl) (by kernel_rfl) (fun _ _ _ h => h) (Or.inl ⟨by rfl, ?_⟩) hHeld ?_
      rotate_left
      · intro wq hSw
        go_simp
        try with_reducible rfl
      try simp only [Act.put, List.getElem_toArray, List.getElem_cons_zero, List.getElem_cons_succ, List.setIfInBounds_toArray, List.set_cons_zero, List.set_cons_succ]
      refine wpAnyH_done (by kernel_rfl) ?_ _
      have p1 := rowc HR7.out 1 rfl
      have hbx7 : BxI w W7 lb false := HBX.out.keep fun q h1 h2 => HK7.out q ⟨.inl (HSX.out.2.1 q h1 (by have := HZ1.out; have := HZ.out; omega)), by have := H.out.there _ hS1; omega, by have := H.out.there _ hS2; omega⟩
      have r6 := hbx7.b2
      have r7 := hbx7.b3
      rw [HZ.out] at r6 r7
      have e6 := rowc r6 0 rfl
      have e7 := rowc r7 0 rfl
      have g6 := r6.free
      have g7 := r7.free
      have R6 := Lib.hid r6
      have R7 := Lib.hid r7
      obtain ⟨w1m, w2m, w3m⟩ := HNUM.out
      have HM3 := Lib.hid w3m
      clear hbx7 r6 r7
      gi_wp2_with fail
      have ha3 : a.heap.size ≤ z := by have := H.out.below.size; have := HZ.out; omega
      have hSz : ∀ k, k < 4 → Sx (z + k) := fun k hk => HSX.out.2.1 _ (by have := HZ.out; omega) (by have := HZ1.out; have := HZ.out; omega)
      have hlbz : lb < z ∧ gb < z := by have := H.out.there _ hS1; have := H.out.there _ hS2; have := HZ.out; omega
      have hWz : z + 4 ≤ W1.heap.size := by have := HZ1.out; have := HZ.out; omega
      have hAf := (HA7.out.cell ⟨z + 2, 0, none⟩ (.int .i64 (m3 : Int)) (.inl (.inl (.inl (.inl (hSz 2 (by omega)))))) (by show a.heap.size ≤ z + 2; omega)).cell ⟨z + 3, 0, none⟩ (.int .i64 0) (.inl (.inl (.inl (.inl (hSz 3 (by omega)))))) (by show a.heap.size ≤ z + 3; omega)
      have f6 := rowV_far (R6.out.set 0 (.int .i64 (m3 : Int))) ⟨z + 3, 0, none⟩ (.int .i64 0) (by simp)
      have f7 := (rowV_far R7.out ⟨z + 2, 0, none⟩ (.int .i64 (m3 : Int)) (by simp)).set 0 (.int .i64 0)
      have hfar : ∀ q, q ≠ z + 2 → q ≠ z + 3 → ((W7.setCell ⟨z + 2, 0, none⟩ (.int .i64 (m3 : Int))).setCell ⟨z + 3, 0, none⟩ (.int .i64 0)).heap[q]? = W7.heap[q]? := fun q q3 q4 =>
        (Below.heap_setCell _ ⟨z + 3, 0, none⟩ _ q q4).trans (Below.heap_setCell _ ⟨z + 2, 0, none⟩ _ q q3)
      have hszf : W.heap.size ≤ ((W7.setCell ⟨z + 2, 0, none⟩ (.int .i64 (m3 : Int))).setCell ⟨z + 3, 0, none⟩ (.int .i64 0)).heap.size := by
        have h1 := hAf.there q0 (.inl (.inr ⟨Nat.le_of_eq HQ0.out, HQ0b.out⟩))
        have h2 := HS2.out
        have h3 := HQ0.out
        omega
      refine ⟨⟨hszf, fun k o hB hk ho => ?_⟩, ⟨rfl, pre, x, i, xx, l, s2, rfl, fun hp y hy => H4.out hp y hy, hi0, HOK.out, HEQ.out.1, HEQ.out.2, HRD.out.more (by omega), (hAf.less fun q hq => .inl (.inl (.inl (.inl hq)))).is ?_, ?_, ?_, f7⟩, Nat.le_trans hzW hszf⟩
      · exact (hfar k (by omega) (by omega)).trans ((HK7.out k ⟨.inr ⟨hB, o, hk, ho⟩, by omega, by omega⟩).trans hk)
      · rw [HX3.out, show A.gs.set i ⟨(TBits.zeros (A.bm i) : Nat), (TBits.zeros l : Nat), A.dirs i + 0⟩ = (A.setI i l (dirN false)).gs from HGS.out.symm]
        rfl
      · exact (H3.out.less fun q hq => hq.1).trans ((HK7.out.less fun q hq => ⟨.inl hq.1, hq.2.1, hq.2.2.1⟩).trans fun q hq => hfar q hq.2.2.2.1 hq.2.2.2.2)
      · rw [hnn, HMM.out]
        exact f6
  case done =>
    rintro D ys W hD rfl ⟨⟨s1, h1, h2, h3, h4⟩, hzW⟩ hK
    have hHX : BxI w W lb false := HXW.out.keep (fun q q1 q2 => h3 q (HSX.out.2.1 q q1 (by have := HZ1.out; omega)))
    have r6 := hHX.b2
    have r7 := hHX.b3
    rw [hz] at r6 r7
    have e6 := rowc r6 0 rfl
    have e7 := rowc r7 0 rfl
    have g6 := r6.free
    have g7 := r7.free
    have hzW1 : z + 4 ≤ W1.heap.size := by have := HZ1.out; omega
    have F6 := Lib.hid (rowV_far (r6.set 0 (.int .i64 0)) ⟨z + 3, 0, none⟩ (.int .i64 28) (by simp))
    have F7 := Lib.hid ((rowV_far r7 ⟨z + 2, 0, none⟩ (.int .i64 0) (by simp)).set 0 (.int .i64 28))
    have hfar : ∀ q, q ≠ z + 2 → q ≠ z + 3 → ((W.setCell ⟨z + 2, 0, none⟩ (.int .i64 0)).setCell ⟨z + 3, 0, none⟩ (.int .i64 28)).heap[q]? = W.heap[q]? := fun q q3 q4 =>
      (Below.heap_setCell _ ⟨z + 3, 0, none⟩ _ q q4).trans (Below.heap_setCell _ ⟨z + 2, 0, none⟩ _ q q3)
    have ha3 : a.heap.size ≤ z := by have := H.out.below.size; omega
    have hSz : ∀ k, k < 4 → Sx (z + k) := fun k hk => HSX.out.2.1 _ (by omega) (by omega)
    have hAf := (h2.cell ⟨z + 2, 0, none⟩ (.int .i64 0) (hSz 2 (by omega)) (by show a.heap.size ≤ z + 2; omega)).cell ⟨z + 3, 0, none⟩ (.int .i64 28) (hSz 3 (by omega)) (by show a.heap.size ≤ z + 3; omega)
    have HAF := Lib.hid hAf
    have HFAR := Lib.hid hfar
    have HKD : Hid (((W.setCell ⟨z + 2, 0, none⟩ (.int .i64 0)).setCell ⟨z + 3, 0, none⟩ (.int .i64 28)).heap[D]? = some (.deferred (some []))) := Lib.hid ((hfar D (by omega) (by omega)).trans hK)
    have H1 := Lib.hid h1
    have H3 := Lib.hid h3
    have H4 := Lib.hid h4
    clear h1 h2 h3 h4 hHX r6 r7 hfar hAf hSz hK
    gi_wp2_with fail
    refine ⟨by simp, .inl ⟨_, _, rfl, run_takeDeferred HKD.out, ?_⟩⟩
    have hDz : W1.heap.size ≤ D := hD
    have d6 := rowc ((World.putObj_heap_other (w := (W.setCell ⟨z + 2, 0, none⟩ (.int .i64 0)).setCell ⟨z + 3, 0, none⟩ (.int .i64 28)) (r := D) (o := .deferred none) (show z + 2 ≠ D by omega)).trans F6.out) 0 rfl
    have d7 := rowc ((World.putObj_heap_other (w := (W.setCell ⟨z + 2, 0, none⟩ (.int .i64 0)).setCell ⟨z + 3, 0, none⟩ (.int .i64 28)) (r := D) (o := .deferred none) (show z + 3 ≠ D by omega)).trans F7.out) 0 rfl
    refine ⟨.tuple #[.int .i64 0, .int .i64 28], ?_, _, s1, rfl, .inl ⟨up_none fun y hy => ?_, rfl, H1.out.more (by rw [List.length_range]; omega)⟩, ?_, ?_⟩
    · simp [results, Tryz.f34, go_sem, d6, d7]
    · have := H4.out (by rw [List.length_range])
      rw [List.length_range] at this
      exact this y hy
    · exact ((HAF.out.grown (grownBy_putObj' _ D (.deferred none)) (fun r e => by cases e; exact ⟨by omega, by omega, _, HKD.out, rfl⟩)).less HSX.out.1)
    · refine ((HKW.out.trans (H3.out.less HSX.out.1)).less fun q hq => hq.1).trans fun q hq => ?_
      have hlt := H.out.there q hq.1
      exact (World.putObj_heap_other (by omega)).trans (HFAR.out q (by omega) (by omega))
  case stop =>
    rintro D cc pre W hD ⟨k, hk, hpre⟩ ⟨⟨rfl, ini, x, i, xx, l, s1, h1, h2, h3, h4, h5, h7, h8, h9, h10, h11, h12⟩, hzW⟩ hK
    have hxk : x + 1 = k ∧ ini = List.range x := by
      obtain ⟨k', rfl⟩ : ∃ k', k = k' + 1 := by
        cases k with
        | zero => rw [hpre] at h1; simp at h1
        | succ k' => exact ⟨k', rfl⟩
      rw [hpre, List.range_succ] at h1
      obtain ⟨e1, e2⟩ := List.append_inj' h1 rfl
      obtain rfl : k' = x := by simpa using e2
      exact ⟨rfl, e1.symm⟩
    have hup := up_some (P := fun k => okI A (nth (sof A near) A.ng k)) (n := A.ng) (x := x) (by omega) (fun y hy => h2 (by rw [hxk.2, List.length_range]) y (by rw [hxk.2, List.length_range]; exact hy)) (by show okI A (nth (sof A near) A.ng x) = true; rw [h3]; exact h4)
    have hDz : W1.heap.size ≤ D := hD
    have HUP := Lib.hid hup
    have HK := Lib.hid hK
    have HA := Lib.hid h9
    have HK10 := Lib.hid h10
    have HT2 := Lib.hid (And.intro h3 (And.intro h5 (And.intro h7 h8)))
    have R6 := Lib.hid h11
    have R7 := Lib.hid h12
    clear hup hK h1 h2 h3 h4 h5 h7 h8 h9 h10 h11 h12 hpre hxk
    gi_wp2_with fail
    refine ⟨by simp, .inl ⟨_, _, rfl, run_takeDeferred HK.out, ?_⟩⟩
    have hzW1 : z + 4 ≤ W1.heap.size := by have := HZ1.out; omega
    have d6 := rowc ((World.putObj_heap_other (w := W) (r := D) (o := .deferred none) (show z + 2 ≠ D by omega)).trans R6.out) 0 rfl
    have d7 := rowc ((World.putObj_heap_other (w := W) (r := D) (o := .deferred none) (show z + 3 ≠ D by omega)).trans R7.out) 0 rfl
    refine ⟨.tuple #[.int .i64 (i * A.n.toNat + xx + 1 : Nat), .int .i64 0], ?_, _, _, rfl, .inr ⟨x, i, xx, l, HUP.out, HT2.out.1, HT2.out.2.1, HT2.out.2.2.1, rfl, s1, HT2.out.2.2.2, rfl⟩, ?_, ?_⟩
    · simp [results, Tryz.f34, go_sem, d6, d7]
    · exact (HA.out.grown (grownBy_putObj' _ D (.deferred none)) (fun r e => by cases e; exact ⟨by omega, by omega, _, HK.out, rfl⟩)).less HSX.out.1
    · refine ((HKW.out.less fun q hq => hq.1).trans (HK10.out.less fun q hq => ?_)).trans fun q hq => ?_
      · have hlt := H.out.there q hq.1
        exact ⟨HSX.out.1 q hq.1, hq.2.1, hq.2.2, by omega, by omega⟩
      · have hlt := H.out.there q hq.1
        exact World.putObj_heap_other (by omega)
theorem takeI_any (h : AS a B S w b db s) (hs : Says s A) (hL : Led w lb gb c b A A.gs A.fb A.fi) (hS1 : S lb) (hS2 : S gb) (ha1 : a.heap.size ≤ lb) (ha2 : a.heap.size ≤ gb) (hBw : B ≤ w.heap.size) (hT : Tab a) (hload : s.load + 40 ≤ 1073741824) (near : Int) (hdir : ∀ i, A.dirs i + dirN false ≤ 65535) :
    Calls Tryz.prog 34 #[.pointer (some ⟨lb, 0, none⟩), .int .i64 near, .bool false] w fun e w' => ∃ v s', e = .returned v ∧ TookI 14 A s (sof A near) false v s' ∧ AS a B S w' b db s' ∧ Kp (fun q => S q ∧ q ≠ lb ∧ q ≠ gb) w w' :=
  callsIn_wide.1 (takeI_in h hs hL hS1 hS2 ha1 ha2 hBw hT hload near hdir)
end
end Go.Proofs.YtgkindoidmglnaaGreatDoor.ATkI0
