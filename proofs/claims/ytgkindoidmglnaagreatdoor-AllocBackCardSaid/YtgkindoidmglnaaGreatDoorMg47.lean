/- The allocator: an inode is given back (no directory). -/
import Derived.Test.YtgkindoidmglnaaGreatDoorMg42
import Derived.Test.YtgkindoidmglnaaGreatDoorMg44
namespace Go.Proofs.YtgkindoidmglnaaGreatDoor.AGvI
open Go.RowKit Go.Shelf WMem WPlain WAppend WCrc WSeal TPlain TBits TSet TTurn TFace TTurnF TSame TFind TFacts GPlain GGeo GGeo2 GFace Ext Map DPlain DMem EPlain EMem EFace EBack EAny SPlain QPlain QMem APlain AMem AGeo AOpen ATurn ACount ATake AGivA AIno AIno2

/-- this inode is taken -/
structure GoodI (A : Al) (ino : Int) (i x : Nat) : Prop where
  hi : i < A.ng
  hf : ino = (i * A.n.toNat + x + 1 : Nat)
  hx : x < A.n.toNat
  ht : fr (A.im i) x = false
def GaveI (d : Nat) (A : Al) (s : Sto) (ino er : Int) (s' : Sto) : Prop :=
  (er ≠ 0 ∧ (¬ ∃ i x, GoodI A ino i x) ∧ Rd s s' d) ∨
  (er = 0 ∧ ∃ i x l s1, GoodI A ino i x ∧ turnL (A.im i) x 1 (A.bat i + 1) = l ∧ Rd s s1 d ∧ s' = ((s1.write (A.bat i + 1) l).write 1 (A.setI i l 0).grps).write 0 (A.setI i l 0).sup)
theorem GaveI.pre {d e : Nat} {A : Al} {s s0 s' : Sto} {ino er : Int} (h : GaveI d A s0 ino er s') (hr : Rd s s0 e) : GaveI (e + d) A s ino er s' := by
  rcases h with ⟨h1, h2, h3⟩ | ⟨h1, i, x, l, s1, h2, h3, h4, h5⟩
  · exact .inl ⟨h1, h2, hr.trans h3⟩
  · exact .inr ⟨h1, i, x, l, s1, h2, h3, hr.trans h4, h5⟩
/-- where an inode stands -/
theorem ino_at {A : Al} (hM : May A.b A.p A.n A.j) {ino : Int} {n : Nat} (hn : A.n = (n : Int)) (h : isI A ino = true) : ∃ x, x < n ∧ ino = (sof A ino * n + x + 1 : Nat) ∧ (ino - 1).tmod (n : Int) = (x : Int) ∧ 1 ≤ ino ∧ ino ≤ 28224 := by
  have hi := (isI_iff hM ino).1 h
  have hn0 := hM.n0
  have hn1 := hM.n1
  have hg := ng_le hM
  have hle : ino ≤ 14 * A.n := Int.le_trans hi.2 (Int.mul_le_mul_of_nonneg_right (by omega) (by omega))
  rw [hn] at hn0 hn1 hle
  obtain ⟨j, hj⟩ : ∃ j : Nat, ino - 1 = (j : Int) := ⟨(ino - 1).toNat, by omega⟩
  have hs : sof A ino = j / n := by
    unfold sof
    rw [h, if_pos rfl, hj, hn, ← Int.natCast_ediv, Int.toNat_natCast]
  have hdm := Nat.div_add_mod j n
  rw [Nat.mul_comm] at hdm
  refine ⟨j % n, Nat.mod_lt _ (by omega), ?_, ?_, hi.1, by omega⟩
  · rw [hs, hdm]; omega
  · rw [hj, Int.tmod_eq_emod_of_nonneg (by omega), ← Int.natCast_emod]
theorem goodI_is {A : Al} (hM : May A.b A.p A.n A.j) {ino : Int} {i x : Nat} (h : GoodI A ino i x) : isI A ino = true ∧ sof A ino = i := by
  have hn0 := hM.n0
  obtain ⟨n, hn⟩ : ∃ n : Nat, A.n.toNat = n := ⟨_, rfl⟩
  have hn2 : A.n = (n : Int) := by omega
  have hf := h.hf
  have hx := h.hx
  rw [hn] at hf hx
  have h1 : i * n + x + 1 ≤ A.ng * n := by
    have : (i + 1) * n ≤ A.ng * n := Nat.mul_le_mul_right n h.hi
    rw [Nat.add_mul, Nat.one_mul] at this
    omega
  have hI : isI A ino = true := by
    rw [isI_iff hM, hn2, ← Int.natCast_mul]
    omega
  refine ⟨hI, ?_⟩
  unfold sof
  rw [hI, if_pos rfl, hf, hn2, show ((i * n + x + 1 : Nat) : Int) - 1 = ((i * n + x : Nat) : Int) by omega, ← Int.natCast_ediv, Int.toNat_natCast]
  rw [Nat.mul_comm, Nat.mul_add_div (by omega), Nat.div_eq_of_lt hx, Nat.add_zero]
section
variable {a w : World} {B : Nat} {S : Nat → Prop} {b db : Nat} {s : Sto} {A : Al} {lb gb c : Nat}
set_option maxHeartbeats 4000000 in
set_option maxRecDepth 100000 in
theorem giveI_own (h : AS a B S w b db s) (hs : Says s A) (hL : Led w lb gb c b A A.gs A.fb A.fi) (hS1 : S lb) (hS2 : S gb) (ha1 : a.heap.size ≤ lb) (ha2 : a.heap.size ≤ gb) (hT : Tab a) (hload : s.load + 100 ≤ 1073741824) (ino : Int) :
    Calls Tryz.prog 36 #[.pointer (some ⟨lb, 0, none⟩), .int .i64 ino, .bool false] w fun e w' => ∃ er s', e = .returned (.int .i64 er) ∧ GaveI 1 A s ino er s' ∧ AS a B S w' b db s' ∧ Kp (fun q => S q ∧ q ≠ lb ∧ q ≠ gb) w w' := by
  have hM := hs.fine.may
  obtain ⟨n, hn⟩ : ∃ n : Nat, A.n = (n : Int) := ⟨A.n.toNat, by have := hM.n0; omega⟩
  have hnn : A.n.toNat = n := by omega
  have hn16 : n ≤ 2016 := by have := hM.n1; omega
  have HC := Lib.hid (isInode_any hL ino)
  have H := Lib.hid h
  have HS := Lib.hid hs
  have HL := Lib.hid hL
  have HT := Lib.hid hT
  clear h hs hL hT
  cases hI : isI A ino with
  | false =>
    rw [hI] at HC
    have HNG : Hid (¬ ∃ i x, GoodI A ino i x) := Lib.hid fun ⟨i, x, hg⟩ => by rw [(goodI_is hM hg).1] at hI; cases hI
    clear hI
    go_enter Tryz.func36, Tryz.ntmps36
    go_wp2_with fail
    refine HC.out.mono ?_
    rintro e w1 ⟨rfl, hb1⟩
    have HB1 := Lib.hid hb1
    clear hb1
    go_wp2
    go_ret
    exact ⟨22, s, rfl, .inl ⟨by decide, HNG.out, (Rd.refl HS.out.coh).more (by omega)⟩, (H.out.also HB1.out).less fun q hq => .inl hq, (H.out.kp HB1.out).less fun q hq => hq.1⟩
  | true =>
    rw [hI] at HC
    obtain ⟨x, hx, hino, hmod, hi1, hi2⟩ := ino_at hM hn hI
    have HST := Lib.hid (fun (w1 : World) (hb : Below w.heap.size w w1) => standsIn_any (HL.out.below hb) hM ino)
    have hi : sof A ino < A.ng := sof_lt hM ino
    have HNO : Hid (∀ j y, GoodI A ino j y → j = sof A ino ∧ y = x) := Lib.hid fun j y hg => by
      have e := (goodI_is hM hg).2
      refine ⟨e.symm, ?_⟩
      have h1 := hg.hf
      rw [← e, hnn] at h1
      omega
    generalize hie : sof A ino = i at *
    clear hie hI
    obtain ⟨x3, hx3⟩ : ∃ x3, A.bat i + 1 = x3 := ⟨_, rfl⟩
    have hx3N : x3 < s.N := by rw [← hx3]; exact HS.out.bat_lt hi
    have hm3 : isMap (A.im i) n x3 = true := by rw [← hnn, ← hx3]; exact HS.out.fine.im i hi
    have HM3 := Lib.hid (And.intro hx3N hm3)
    have HINO := Lib.hid hino
    obtain ⟨j, hj⟩ : ∃ j : Nat, ino - 1 = (j : Int) := ⟨(ino - 1).toNat, by omega⟩
    have HW : Hid ((IntKind.i64.wrap (ino - 1) = (j : Int) ∧ wrap64 (ino - 1) = (j : Int)) ∧ (j : Int).tmod (n : Int) = (x : Int) ∧ (¬ n = 0 ∧ ((n : Int) == 0) = false) ∧ (IntKind.i64.wrap (j : Int) = (j : Int) ∧ wrap64 (j : Int) = (j : Int)) ∧ IntKind.i64.wrap (x : Int) = (x : Int) ∧ wrap64 (x : Int) = (x : Int)) := Lib.hid
      ⟨⟨by rw [← hj]; exact IntWalk.i64_in _ (by omega), by rw [← hj]; exact IntWalk.wrap64_in _ (by omega)⟩, by rw [← hj]; exact hmod, ⟨by omega, by rw [beq_eq_false_iff_ne]; omega⟩, ⟨IntWalk.i64_in _ (by omega), IntWalk.wrap64_in _ (by omega)⟩, IntWalk.i64_in _ (by omega), IntWalk.wrap64_in _ (by omega)⟩
    have HJ := Lib.hid hj
    clear hj hmod
    clear hx3N hm3 hino hi1 hi2
    go_enter Tryz.func36, Tryz.ntmps36
    go_wp2_with fail
    refine HC.out.mono ?_
    rintro e w1 ⟨rfl, hb1⟩
    have HB1 := Lib.hid hb1
    clear hb1
    go_wp2_with fail
    refine (HST.out w1 HB1.out).mono ?_
    rintro e w2 ⟨rfl, hb2⟩
    have HB2 := Lib.hid (below_up HB1.out hb2 HB1.out.size)
    have HA2 := Lib.hid (H.out.also HB2.out)
    have HL2 := Lib.hid (HL.out.below HB2.out)
    have HS2 : Hid (w.heap.size ≤ w2.heap.size) := Lib.hid HB2.out.size
    clear hb2
    go_wp2_with fail
    refine (inodesOf_own HA2.out HS.out HL2.out (.inl hS1) (.inl hS2) HT.out (by omega) hi hx3 hn).mono ?_
    rintro e w3 ⟨g, c', rest, rfl, hg, hc', hR, hA3, hk3, hr3⟩
    have HRD := Lib.hid hr3
    have hN2 : (s.read x3).N = s.N := hr3.N
    have hld := hr3.load
    generalize s.read x3 = s2 at *
    have HB4 := Lib.hid (below_box (w := w3) (.cells #[.int .i64 x3, .int .i64 n, .slice (some ⟨g, 0, none⟩) 256 c'] 122))
    have HA4 := Lib.hid (hA3.also HB4.out)
    have r4 := rowV_new w3 [.int .i64 x3, .int .i64 n, .slice (some ⟨g, 0, none⟩) 256 c'] 122
    have HL4 := Lib.hid ((HL2.out.kp hk3 (.inl hS1) (.inl hS2)).below HB4.out)
    have HR4 : Hid (Row (w3.alloc (.cells #[.int .i64 x3, .int .i64 n, .slice (some ⟨g, 0, none⟩) 256 c'] 122)) g (A.im i) rest) := Lib.hid (row_alloc hR _)
    have HK4 : Hid (Kp S w (w3.alloc (.cells #[.int .i64 x3, .int .i64 n, .slice (some ⟨g, 0, none⟩) 256 c'] 122))) := Lib.hid (((H.out.kp HB2.out).trans (hk3.less fun q hq => .inl hq)).trans ((hA3.kp HB4.out).less fun q hq => .inl (.inl hq)))
    have HBL : Hid ((A.im i).length = 256) := Lib.hid (map_of HM3.out.2).1
    have HR5 := Lib.hid (r4.drewN 1)
    clear hk3 hA3 hR hr3 r4
    go_wp2_with fail
    generalize hW4 : w3.alloc (.cells #[.int .i64 x3, .int .i64 n, .slice (some ⟨g, 0, none⟩) 256 c'] 122) = w4 at *
    generalize w3.heap.size = q0 at *
    clear hW4
    obtain ⟨l, hl⟩ : ∃ l, turnL (A.im i) x 1 x3 = l := ⟨_, rfl⟩
    have HTU : Hid (Calls Tryz.prog 66 #[.pointer (some ⟨lb, 0, none⟩), .agg #[.int .i64 (x3 : Int), .int .i64 (n : Int), .slice (some ⟨g, 0, none⟩) 256 c'], .int .i64 (x : Int), .int .i64 1, .bool false] (w4.drewN 1) fun e w' => ∃ er s3, e = .returned (.int .i64 er) ∧
        ((er = 0 ∧ fr (A.im i) x = false ∧ s3 = s2.write x3 l) ∨ (er = 117 ∧ fr (A.im i) x = true ∧ s3 = s2)) ∧ AS a B (fun q => (((S q ∨ (w.heap.size ≤ q ∧ q < w2.heap.size)) ∨ q = g) ∨ (q0 ≤ q ∧ q < w4.heap.size))) w' b db s3 ∧ Kp (fun q => (((S q ∨ (w.heap.size ≤ q ∧ q < w2.heap.size)) ∨ q = g) ∨ (q0 ≤ q ∧ q < w4.heap.size))) (w4.drewN 1) w') := Lib.hid (by
      have hR4d : Row (w4.drewN 1) g (A.im i) rest := HR4.out
      cases hal : fr (A.im i) x with
      | true =>
        have hall : allB (A.im i) x 1 (!false) = false := by
          cases e : allB (A.im i) x 1 (!false) with
          | false => rfl
          | true =>
            have := allB_iff.1 e 0 (by omega)
            rw [Nat.add_zero, hal] at this
            cases this
        refine (turn_bad (HA4.out.drewN 1) HT.out x3 n x 1 false (A.im i) (by rw [hN2]; exact HM3.out.1) hn16 HM3.out.2 (Nat.le_refl 1) hx hall g c' rest hc' hR4d).mono ?_
        rintro e w5 ⟨rfl, hb5⟩
        exact ⟨117, s2, rfl, .inr ⟨rfl, rfl, rfl⟩, ((HA4.out.drewN 1).also hb5).less (fun q hq => .inl hq), (HA4.out.drewN 1).kp hb5⟩
      | false =>
        have hall : allB (A.im i) x 1 (!false) = true := allB_iff.2 fun k hk => by
          obtain rfl : k = 0 := by omega
          rw [Nat.add_zero, hal]
        refine (turn_own (HA4.out.drewN 1) (HL4.out.drewN 1) (.inl (.inl (.inl hS1))) HT.out (by omega) x3 n x 1 false (A.im i) (by rw [hN2]; exact HM3.out.1) hn16 HM3.out.2 (Nat.le_refl 1) hx hall g c' rest hc' hR4d).mono ?_
        rintro e w5 ⟨rfl, hA5, hk5⟩
        exact ⟨0, _, rfl, .inl ⟨rfl, rfl, by rw [← hl]; rfl⟩, hA5, hk5⟩)
    have hq0 : q0 < w4.heap.size := HR5.out.lt
    obtain ⟨⟨hsub, hsub2⟩, hmod, ⟨hnz2, hnz⟩, ⟨hwj, hwj2⟩, hwx, hwx2⟩ := HW.out
    have hj := HJ.out
    refine wp_region_held_drew (S := (fun w' => RowV w' q0 122 [.int .i64 x3, .int .i64 n, .slice (some ⟨g, 0, none⟩) 256 c'])) (by kernel_rfl) HR5.out (fun hHeld => ?_)
    -- WALKG begin
    refine wpAnyH_take (i := 0) (v := ?_) rfl (by kernel_rfl) (by kernel_rfl) (by kernel_rfl) (fun _ _ _ h => h) (Or.inl ⟨by rfl, ?_⟩) hHeld ?_
    rotate_left
    · intro wq hSw
      go_simp
      try with_reducible rfl
    try simp only [Act.put, List.getElem_toArray, List.getElem_cons_zero, List.setIfInBounds_toArray, List.set_cons_zero, List.set_cons_succ]
    refine wpAnyH_take (i := 1) (v := ?_) rfl (by kernel_rfl) (by kernel_rfl) (by kernel_rfl) (fun _ _ _ h => h) (Or.inl ⟨by rfl, ?_⟩) hHeld ?_
    rotate_left
    · intro wq hSw
      have p0 := rowc hSw 0 rfl
      have p1 := rowc hSw 1 rfl
      have p2 := rowc hSw 2 rfl
      go_simp
      try with_reducible rfl
    try simp only [Act.put, List.getElem_toArray, List.getElem_cons_zero, List.getElem_cons_succ, List.setIfInBounds_toArray, List.set_cons_zero, List.set_cons_succ]
    refine wpAnyH_take (i := 2) (v := ?_) rfl (by kernel_rfl) (by kernel_rfl) (by kernel_rfl) (fun _ _ _ h => h) (Or.inl ⟨by rfl, ?_⟩) hHeld ?_
    rotate_left
    · intro wq hSw
      go_simp
      try with_reducible rfl
    try simp only [Act.put, List.getElem_toArray, List.getElem_cons_zero, List.getElem_cons_succ, List.setIfInBounds_toArray, List.set_cons_zero, List.set_cons_succ]
    refine wpAnyH_take (i := 3) (v := ?_) rfl (by kernel_rfl) (by kernel_rfl) (by kernel_rfl) (fun _ _ _ h => h) (Or.inl ⟨by rfl, ?_⟩) hHeld ?_
    rotate_left
    · intro wq hSw
      go_simp
      try with_reducible rfl
    try simp only [Act.put, List.getElem_toArray, List.getElem_cons_zero, List.getElem_cons_succ, List.setIfInBounds_toArray, List.set_cons_zero, List.set_cons_succ]
    refine wpAnyH_take (i := 4) (v := ?_) rfl (by kernel_rfl) (by kernel_rfl) (by kernel_rfl) (fun _ _ _ h => h) (Or.inl ⟨by rfl, ?_⟩) hHeld ?_
    rotate_left
    · intro wq hSw
      go_simp
      try with_reducible rfl
    try simp only [Act.put, List.getElem_toArray, List.getElem_cons_zero, List.getElem_cons_succ, List.setIfInBounds_toArray, List.set_cons_zero, List.set_cons_succ]
    refine wpAnyH_take (i := 5) (v := ?_) rfl (by kernel_rfl) (by kernel_rfl) (by kernel_rfl) (fun _ _ _ h => h) (Or.inl ⟨by rfl, ?_⟩) hHeld ?_
    rotate_left
    · intro wq hSw
      have p0 := rowc hSw 0 rfl
      have p1 := rowc hSw 1 rfl
      have p2 := rowc hSw 2 rfl
      go_simp
      try with_reducible rfl
    try simp only [Act.put, List.getElem_toArray, List.getElem_cons_zero, List.getElem_cons_succ, List.setIfInBounds_toArray, List.set_cons_zero, List.set_cons_succ]
    refine wpAnyH_take (i := 6) (v := ?_) rfl (by kernel_rfl) (by kernel_rfl) (by kernel_rfl) (fun _ _ _ h => h) (Or.inl ⟨by rfl, ?_⟩) hHeld ?_
    rotate_left
    · intro wq hSw
      go_simp
      try with_reducible rfl
    try simp only [Act.put, List.getElem_toArray, List.getElem_cons_zero, List.getElem_cons_succ, List.setIfInBounds_toArray, List.set_cons_zero, List.set_cons_succ]
    refine wpAnyH_ready (rs := [7]) (by kernel_rfl) (by simp) ?_
    refine AllReadyH.cons (o := _) rfl (fun K hK => ?_) (AllReadyH.nil)
    go_simp
    go_at_call 66
    refine HTU.out.mono ?_
    rintro e w5 ⟨er, s3, rfl, hcase, hA5, hk5⟩
    have HR6 : Hid (RowV w5 q0 122 [.int .i64 x3, .int .i64 n, .slice (some ⟨g, 0, none⟩) 256 c']) := Lib.hid ((hk5 _ (.inr ⟨Nat.le_refl _, hq0⟩)).trans HR5.out)
    have HA5 := Lib.hid hA5
    have HK5 := Lib.hid hk5
    have HCS := Lib.hid hcase
    clear hA5 hk5 hcase
    go_wp2_with fail
    refine hK.out _ _ HR6.out (fun hHeld => ?_)
    clear hK K
    try simp only [Act.put, List.getElem_toArray, List.getElem_cons_zero, List.getElem_cons_succ, List.setIfInBounds_toArray, List.set_cons_zero, List.set_cons_succ]
    refine wpAnyH_take (i := 8) (v := ?_) rfl (by kernel_rfl) (by kernel_rfl) (by kernel_rfl) (fun _ _ _ h => h) (Or.inl ⟨by rfl, ?_⟩) hHeld ?_
    rotate_left
    · intro wq hSw
      go_simp
      try with_reducible rfl
    try simp only [Act.put, List.getElem_toArray, List.getElem_cons_zero, List.getElem_cons_succ, List.setIfInBounds_toArray, List.set_cons_zero, List.set_cons_succ]
    refine wpAnyH_done (by kernel_rfl) ?_ _
    clear hsub hsub2 hmod hnz2 hnz hwj hwj2 hwx hwx2 hj
    have HKP : Hid (Kp S w w5) := Lib.hid ((HK4.out.trans (Kp.drewN _ _ 1)).trans (HK5.out.less fun q hq => .inl (.inl (.inl hq))))
    rcases HCS.out with ⟨rfl, hfr, hs3⟩ | ⟨rfl, hfr, rfl⟩
    · have hmap : isMap l n x3 = true := by rw [← hl]; exact turn_map HM3.out.2 hx hn16
      have hl2 : turnL (A.im i) x 1 (A.bat i + 1) = l := by rw [hx3]; exact hl
      have hd0 := HS.out.fine.dirs i
      have hfine : (A.setI i l 0).Fine := setI_fine HS.out.fine (fun _ => by rw [hnn, hx3]; exact hmap) (by rw [Int.add_zero]; exact hd0)
      have hzero : TBits.zeros l = TBits.zeros (A.im i) + 1 := by rw [← hl]; exact turn_give (c := 1) HBL.out x3 (by omega) (fun k hk => by
        obtain rfl : k = 0 := by omega
        exact hfr)
      have hfi := setI_fi (A := A) l 0 hi
      have hgi : A.gs[i]'(by rw [gs_len]; exact hi) = A.grp i := gs_get _
      have hgs := setI_gs (A := A) (i := i) l 0
      have HCN := Lib.hid (fun (W : World) (S' : Nat → Prop) (s' : Sto) (h1 : AS a B S' W b db s') (h2 : Led W lb gb c b A A.gs A.fb A.fi) (h3 : S' lb) (h4 : S' gb) (h5 : s'.load + 10 ≤ 1073741824) =>
        count_own h1 h2 h3 h4 ha1 ha2 HT.out h5 (i := i) (by rw [gs_len]; exact hi) 0 1 0 (TBits.zeros (A.bm i) : Nat) (TBits.zeros l : Nat) (A.dirs i + 0) (A.fb : Nat) ((A.setI i l 0).fi : Nat)
          (by rw [hgi]; exact Int.add_zero _) (by rw [hgi]; show (TBits.zeros (A.im i) : Int) + _ = _; omega) (by rw [hgi]; rfl) (Int.add_zero _) (by omega) (by rw [show A.gs.set i ⟨(TBits.zeros (A.bm i) : Nat), (TBits.zeros l : Nat), A.dirs i + 0⟩ = (A.setI i l 0).gs from hgs.symm]; exact fine_grp hfine) (fine_sup hfine))
      have hw := Sto.load_write s2 x3 l
      have HC5 := Lib.hid (HCN.out w5 _ _ HA5.out ((HL4.out.drewN 1).kp HK5.out (.inl (.inl (.inl hS1))) (.inl (.inl (.inl hS2)))) (.inl (.inl (.inl hS1))) (.inl (.inl (.inl hS2))) (by rw [hs3]; omega))
      have HGOOD : Hid (GoodI A ino i x) := Lib.hid ⟨hi, by rw [hnn]; exact HINO.out, by rw [hnn]; exact hx, hfr⟩
      have HGS := Lib.hid hgs
      have HE := Lib.hid (And.intro hs3 hl2)
      have HX3 := Lib.hid hx3
      have HDI := Lib.hid (fun W => dirs_any false W)
      clear hmap hl2 hd0 hfine hzero hfi hgi hgs hw hs3 hfr HCN
      go_wp2_with fail
      refine (HDI.out _).mono ?_
      rw [show dirN false = 0 from rfl]
      rintro e w6 ⟨rfl, rfl⟩
      go_wp2_with fail
      refine HC5.out.mono ?_
      rintro e w7 ⟨rfl, hA7, hk7⟩
      have HA7 := Lib.hid hA7
      have HK7 := Lib.hid hk7
      clear hA7 hk7
      go_wp2
      go_ret
      refine ⟨0, _, rfl, .inr ⟨rfl, i, x, l, s2, HGOOD.out, HE.out.2, HRD.out, rfl⟩, (HA7.out.less fun q hq => .inl (.inl (.inl hq))).is ?_, (HKP.out.less fun q hq => hq.1).trans (HK7.out.less fun q hq => ⟨.inl (.inl (.inl hq.1)), hq.2⟩)⟩
      rw [HE.out.1, ← HX3.out, show A.gs.set i ⟨(TBits.zeros (A.bm i) : Nat), (TBits.zeros l : Nat), A.dirs i + 0⟩ = (A.setI i l 0).gs from HGS.out.symm]
      rfl
    · have HFR := Lib.hid hfr
      clear hfr
      go_wp2
      go_ret
      refine ⟨117, rfl, s3, .inl ⟨by decide, fun ⟨k, y, hg⟩ => ?_, HRD.out⟩, HA5.out.less fun q hq => .inl (.inl (.inl hq)), HKP.out.less fun q hq => hq.1⟩
      obtain ⟨rfl, rfl⟩ := HNO.out k y hg
      rw [hg.ht] at HFR
      cases HFR.out
    -- WALKG end
end
end Go.Proofs.YtgkindoidmglnaaGreatDoor.AGvI
