/- What comes next of a commit. -/
import Derived.Test.YtmlgchmladkfpaaGreatDoorMg39
import Derived.Test.YtmlgchmladkfpaaGreatDoorMg32
namespace Go.Proofs.YtmlgchmladkfpaaGreatDoor.NBegin
open Go.RowKit WMem WPlain WAppend WCrc WSeal Ext Map DPlain DMem EPlain EMem EFace EWrites ECommit JPlain JMem JNeed JLayM JLay NPlain NMem NFace NCred NMake NCheck NRun NHead NPart NRevoke NIns NLay2 NLay3

/-- what is asked of a transaction that is laid -/
structure MayLay (j : Jr) (s : Sto) : Prop where
  ok : layOk j.seq (wrsOf (wrs s.now.chg s.N)) ((revoked j s).map fun n : Nat => (n : Int)) = true
  len : (lay j.seq (wrsOf (wrs s.now.chg s.N)) ((revoked j s).map fun n : Nat => (n : Int))).length ≤ 100000
theorem c0_own {w : World} {K : Nat → Prop} {ρ : Ro} {D : Nat → Prop} {jb ml mc b db : Nat} {j : Jr} {s : Sto} (h : JO w ρ D K jb ml mc b db j s) : w.cell? ⟨jb, 0, none⟩ = some (.pointer (some ⟨b, 0, none⟩)) := by
  obtain ⟨A, c, hx, _⟩ := h.jx
  exact hx.cells.1
theorem revoked_len (j : Jr) (s : Sto) : (revoked j s).length ≤ s.N := by
  rw [revoked_eq]
  exact Nat.le_trans (List.length_filter_le _ _) (NKeys.lives_len _ _)
set_option maxRecDepth 100000 in
set_option maxHeartbeats 4000000 in
theorem Begin_own {w : World} {K : Nat → Prop} {ρ : Ro} {D : Nat → Prop} {jb ml mc b db : Nat} {j : Jr} {s : Sto} (h : JO w ρ D K jb ml mc b db j s) (hT : Tab w) (hga : ¬ All ρ D 0)
    (hlay : MayLay j s) (hc : j.commits ≤ 1073741823) (hr : j.ring ≤ 4096) (ht : j.tail ≤ 4096) (hu : j.used ≤ 100000) (hsq : j.seq ≤ 2147483647) :
    Calls Tryz.prog 57 #[.pointer (some ⟨jb, 0, none⟩)] w fun e w' => e = .returned (.int .i64 (begin_ j s).1) ∧ ∃ K', JGo w w' ρ D K ρ D K' jb ml mc b db (begin_ j s).2.1 (begin_ j s).2.2 := by
  have hN := h.own.len.2
  have hcl := nums_len s.now.chg s.N
  have hvl := revoked_len j s
  have HLAY := Lib.hid hlay
  have HO := Lib.hid h
  have HT := Lib.hid hT
  have hlj : jb < w.heap.size := by obtain ⟨A, c, hx, _⟩ := h.jx; exact hx.lt
  have hc0 : w.cell? ⟨jb, 0, none⟩ = some (.pointer (some ⟨b, 0, none⟩)) := by
    obtain ⟨A, c, hx, _⟩ := h.jx
    exact hx.cells.1
  have HC := Lib.hid (Changed_own h.own)
  clear h hT hlay
  go_enter Tryz.func57, Tryz.ntmps57
  go_wp2_with fail
  refine HC.out.mono ?_
  rintro e W1 ⟨vC, rfl, hrow, hb1⟩
  have HRV := Lib.hid (Revoked_own (HO.out.below hb1) w.heap.size vC hrow)
  obtain ⟨A1, c1, rfl, _, _⟩ := own_cell1 (S := fun _ => True) ⟨own_base hrow (fun _ _ => Nat.zero_le _), fun _ _ => trivial⟩
  have HB1 := Lib.hid hb1
  clear hrow hb1 hc0
  obtain ⟨nC, hnC⟩ : ∃ nC, (numsOf s.now.chg s.N).length = nC := ⟨_, rfl⟩
  have HNC := Lib.hid hnC
  rw [hnC] at hcl HRV ⊢
  clear hnC
  go_wp2_with fail
  refine HRV.out.mono ?_
  rintro e W2 ⟨vR, rfl, hrow2, hb2⟩
  have HR2 := Lib.hid hrow2
  have HB2 : Hid (Below w.heap.size w W2) := Lib.hid (HB1.out.trans (hb2.mono HB1.out.size))
  have hge2 : ∀ q, vR.ownBlock = some q → ¬ All ρ D q := fun q hq hA => by
    have h1 := own_ge hrow2 q hq
    have h2 := HO.out.own.there q hA
    have h3 := HB1.out.size
    omega
  have HGE := Lib.hid hge2
  obtain ⟨A2, c2, rfl, _, _⟩ := own_cell1 (S := fun _ => True) ⟨own_base hrow2 (fun _ _ => Nat.zero_le _), fun _ _ => trivial⟩
  obtain ⟨nR, hnR⟩ : ∃ nR, (revoked j s).length = nR := ⟨_, rfl⟩
  have HNR := Lib.hid hnR
  rw [hnR] at hvl HR2 HGE ⊢
  clear hrow2 hb2 hge2 hnR
  go_wp2_with fail
  refine (Need_any nC nR (by omega) (by omega) W2).mono ?_
  rintro e W3 ⟨rfl, hb3⟩
  have HB3 : Hid (Below w.heap.size w W3) := Lib.hid (HB2.out.trans (hb3.mono HB2.out.size))
  have HG3 := Lib.hid ((JGo.refl HO.out).below HB3.out)
  have HR3 := Lib.hid (own_same HR2.out (fun q hq => hb3.block q (own_lt HR2.out q hq)))
  have HT3 := Lib.hid (Tab.below HT.out HB3.out (Tab.lt HT.out))
  clear hb3
  have hcells : W3.cell? ⟨jb, 2, none⟩ = some (.int .i64 (j.ring : Int)) ∧ W3.cell? ⟨jb, 5, none⟩ = some (.int .i64 (j.used : Int)) := by
    obtain ⟨A, c, hx, _⟩ := HG3.out.own.jx
    exact ⟨hx.cells.2.2.1, hx.cells.2.2.2.2.2.1⟩
  obtain ⟨k2, k5⟩ := hcells
  have hnd : needN nC nR ≤ 20000 := by
    have h1 := rowsN_le nC 48
    have h2 := rowsN_le nR 60
    unfold needN
    omega
  have hnd1 : 1 ≤ needN nC nR := by unfold needN; omega
  have HBG : Hid (begin_ j s = if nC = 0 ∧ nR = 0 then (0, endPart j s) else if j.ring < needN nC nR then (202, j.fin, s) else if j.ring - j.used < needN nC nR then (0, { j with left := checkpoint s [] }, s) else (0, layAll j s (revoked j s))) := Lib.hid (by
    unfold begin_
    simp only [HNC.out, HNR.out])
  generalize needN nC nR = nd at *
  by_cases h0 : nC = 0 ∧ nR = 0
  · obtain ⟨rfl, rfl⟩ := h0
    have HBE : Hid (begin_ j s = (0, endPart j s)) := Lib.hid (by rw [HBG.out, if_pos ⟨rfl, rfl⟩])
    have HP := Lib.hid (Part_own HG3.out.own hc hu)
    go_wp2_with fail
    refine HP.out.mono ?_
    rintro e W4 ⟨rfl, K', hg⟩
    have HG4 := Lib.hid (HG3.out.trans hg)
    clear hg
    go_wp2
    go_ret
    exact ⟨by rw [HBE.out]; rfl, K', by rw [HBE.out]; exact HG4.out⟩
  · have hsp : (nC = 0 ∧ ((nR : Int) == 0) = false) ∨ ((nC : Int) == 0) = false := by
      by_cases e : nC = 0
      · exact .inl ⟨e, by simp; omega⟩
      · exact .inr (by simp; omega)
    by_cases h1 : j.ring < nd
    · have HBE : Hid (begin_ j s = (202, j.fin, s)) := Lib.hid (by rw [HBG.out, if_neg h0, if_pos h1])
      have HE := Lib.hid (End_own HG3.out.own)
      have hlt : (j.ring : Int) < (nd : Int) := by omega
      clear h0
      rcases hsp with ⟨rfl, hz⟩ | hz
      all_goals
        go_wp2_with fail
        refine HE.out.mono ?_
        rintro e W4 ⟨rfl, hg⟩
        have HG4 := Lib.hid (HG3.out.trans hg)
        clear hg
        go_wp2
        go_ret
        exact ⟨by rw [HBE.out]; rfl, _, by rw [HBE.out]; exact HG4.out⟩
    · have hlt : ¬ (j.ring : Int) < (nd : Int) := by omega
      have hws : IntKind.i64.wrap ((j.ring : Int) - (j.used : Int)) = (j.ring : Int) - (j.used : Int) := by rw [IntWalk.i64_in _ (by omega)]
      by_cases h2 : j.ring - j.used < nd
      · have HBE : Hid (begin_ j s = (0, { j with left := checkpoint s [] }, s)) := Lib.hid (by rw [HBG.out, if_neg h0, if_neg h1, if_pos h2])
        have hlt2 : (j.ring : Int) - (j.used : Int) < (nd : Int) := by omega
        have HE := Lib.hid (fun nq => checkpoint_any (HG3.out.drewN nq).own.own (c0_own (HG3.out.drewN nq).own) (fun q hq => (HG3.out.drewN nq).own.jthere q (.inr (.inr (.inr hq)))) [] none 0 [] (fun i v hv => (by cases hv)) rfl (fun i hi => (by cases hi)) (by decide))
        clear h0
        rcases hsp with ⟨rfl, hz⟩ | hz
        all_goals
          go_wp2_with fail
          go_quiet (fail)
          go_wp2_with fail
          refine (HE.out nq).mono ?_
          rintro e W4 ⟨v, rfl, htr⟩
          obtain ⟨A4, c4, rfl, _, _⟩ := things_of htr
          have HG4 := Lib.hid ((HG3.out.drewN nq).trans (relay (HG3.out.drewN nq).own htr))
          have f12 : W4.cell? ⟨jb, 12, none⟩ ≠ none ∧ W4.frozen? ⟨jb, 12, none⟩ = false := by
            obtain ⟨A, c, hx, _⟩ := (HG3.out.drewN nq).own.jx
            have hb := htr.below.block jb hx.lt
            exact ⟨by rw [World.cell?_of_block hb, hx.cells.2.2.2.2.2.2.2.2.2.2.2.2]; simp, (World.frozen?_of_block hb).trans (hx.free 12)⟩
          obtain ⟨k12, g12⟩ := f12
          obtain ⟨u12, k12⟩ := Option.ne_none_iff_exists'.1 k12
          clear htr
          go_wp2
          go_ret
          exact ⟨by rw [HBE.out]; rfl, _, by rw [HBE.out]; exact HG4.out⟩
      · have HBE : Hid (begin_ j s = (0, layAll j s (revoked j s))) := Lib.hid (by rw [HBG.out, if_neg h0, if_neg h1, if_neg h2])
        have hlt2 : ¬ (j.ring : Int) - (j.used : Int) < (nd : Int) := by omega
        have HE := Lib.hid (fun nq => Lay_own (HG3.out.drewN nq).own (show Tab (W3.drewN nq) from HT3.out) _ (.slice A2 nR c2) (revoked j s) (by rw [HNR.out]; exact own_same (w' := W3.drewN nq) HR3.out (fun _ _ => rfl)) HGE.out hga HLAY.out.ok ht hu hsq HLAY.out.len)
        clear h0
        rcases hsp with ⟨rfl, hz⟩ | hz
        all_goals
          go_wp2_with fail
          go_quiet (fail)
          go_wp2_with fail
          refine (HE.out _).mono ?_
          rintro e W4 ⟨rfl, K', hg⟩
          have HG4 := Lib.hid ((HG3.out.drewN _).trans hg)
          clear hg
          go_wp2
          go_ret
          exact ⟨by rw [HBE.out]; rfl, _, by rw [HBE.out]; exact HG4.out⟩
end Go.Proofs.YtmlgchmladkfpaaGreatDoor.NBegin
/- One Step of a commit. -/
namespace Go.Proofs.YtmlgchmladkfpaaGreatDoor.NStep
open Go.RowKit WMem WPlain WAppend WCrc WSeal Ext Map DPlain DMem EPlain EMem EFace EWrites ECommit JPlain JMem JNeed JLayM JLay NPlain NMem NFace NCred NMake NCheck NRun NHead NPart NRevoke NIns NNext NLay2 NLay3 NBegin

/-- what the first thing that is left wants -/
def NextOk (j : Jr) (s : Sto) : Prop := j.left = [] ∨ ∃ t r, j.left = t :: r ∧ r.length ≤ 100000 ∧ 6 ≤ j.ring ∧ j.ring ≤ 512 ∧ ThingOk { j with left := r } s t ∧ s.load ≤ 1073741824
section
variable {w : World} {K : Nat → Prop} {ρ : Ro} {D : Nat → Prop} {jb ml mc b db : Nat} {j : Jr} {s : Sto}
theorem Next_nil (h : JO w ρ D K jb ml mc b db j s) (hl : j.left = []) : Calls Tryz.prog 58 #[.pointer (some ⟨jb, 0, none⟩)] w fun e w' => e = .returned (.int .i64 0) ∧ w = w' := by
  obtain ⟨A, c, hx, _⟩ := h.jx
  have c12 := hx.cells.2.2.2.2.2.2.2.2.2.2.2.2
  rw [hl] at c12
  clear hx h hl
  simp only [List.length_nil] at c12
  go_enter Tryz.func58, Tryz.ntmps58
  go_wp2
  go_ret
  exact ⟨rfl, rfl⟩
theorem Next_any (h : JO w ρ D K jb ml mc b db j s) (hT : Tab w) (hglb : 0 ≠ jb) (hok : NextOk j s) :
    Calls Tryz.prog 58 #[.pointer (some ⟨jb, 0, none⟩)] w fun e w' => e = .returned (.int .i64 0) ∧ ∃ ρ' D' K', JGo w w' ρ D K ρ' D' K' jb ml mc b db (next j s).1 (next j s).2 := by
  rcases hok with hl | ⟨t, r, hl, h1, h2, h3, h4, h5⟩
  · refine (Next_nil h hl).mono ?_
    rintro e w' ⟨rfl, rfl⟩
    have e : next j s = (j, s) := by unfold next; rw [hl]
    exact ⟨rfl, ρ, D, K, by rw [e]; exact JGo.refl h⟩
  · exact Next_own h hT hglb t r hl h1 h2 h3 h4 h5
theorem Step_busy (h : JO w ρ D K jb ml mc b db j s) (hh : j.handles ≤ 1073741824) (hm : may j = false) : Calls Tryz.prog 21 #[.pointer (some ⟨jb, 0, none⟩)] w fun e w' => e = .returned (.int .i64 201) ∧ w = w' := by
  have HM := Lib.hid (May_own h hh)
  rw [hm] at HM
  clear h hm
  go_enter Tryz.func21, Tryz.ntmps21
  go_wp2_with fail
  refine HM.out.mono ?_
  rintro e w1 ⟨rfl, rfl⟩
  go_wp2
  go_ret
  exact ⟨rfl, rfl⟩
theorem tab_go {w' : World} {K' : Nat → Prop} {ρ' : Ro} {D' : Nat → Prop} {j' : Jr} {s' : Sto} (hT : Tab w) (hg : ¬ JAll ρ D K jb ml mc 0) (h : JGo w w' ρ D K ρ' D' K' jb ml mc b db j' s') : Tab w' := fun r hr =>
  (World.cell?_of_block (h.ext.block _ (Tab.lt hT) hg)).trans (hT r hr)
set_option maxHeartbeats 1000000 in
theorem Step_go (h : JO w ρ D K jb ml mc b db j s) (hT : Tab w) (hg : ¬ JAll ρ D K jb ml mc 0) (hh : j.handles ≤ 1073741824) (hm : may j = true) (t : Thing) (r : List Thing) (hl : j.left = t :: r) (hok : NextOk j s) :
    Calls Tryz.prog 21 #[.pointer (some ⟨jb, 0, none⟩)] w fun e w' => e = .returned (.int .i64 0) ∧ ∃ ρ' D' K', JGo w w' ρ D K ρ' D' K' jb ml mc b db (next j s).1 (next j s).2 := by
  have HM := Lib.hid (May_own h hh)
  rw [hm] at HM
  have HN := Lib.hid (Next_any h hT (fun e => hg (.inr (.inl e))) hok)
  obtain ⟨A, c, hx, _⟩ := h.jx
  have c12 := hx.cells.2.2.2.2.2.2.2.2.2.2.2.2
  obtain ⟨n, hn⟩ : ∃ n, j.left.length = n := ⟨_, rfl⟩
  have hn1 : 1 ≤ n := by rw [← hn, hl]; simp
  rw [hn] at c12
  have hz : ((n : Int) == 0) = false := by simp; omega
  clear hx h hm hT hg hl hok hn
  go_enter Tryz.func21, Tryz.ntmps21
  go_wp2_with fail
  refine HM.out.mono ?_
  rintro e w1 ⟨rfl, rfl⟩
  go_wp2_with fail
  refine HN.out.mono ?_
  rintro e w2 ⟨rfl, hq⟩
  have HQ := Lib.hid hq
  clear hq
  go_wp2
  go_ret
  exact ⟨rfl, HQ.out⟩
theorem begin_code (j : Jr) (s : Sto) : (begin_ j s).1 = 0 ∨ (begin_ j s).1 = 202 := by
  unfold begin_
  simp only
  repeat' split
  all_goals first | exact .inl rfl | exact .inr rfl
set_option maxHeartbeats 1000000 in
theorem Step_begin (h : JO w ρ D K jb ml mc b db j s) (hT : Tab w) (hg : ¬ JAll ρ D K jb ml mc 0) (hh : j.handles ≤ 1073741824) (hm : may j = true) (hl : j.left = [])
    (hlay : MayLay j s) (hc : j.commits ≤ 1073741823) (hr : j.ring ≤ 4096) (ht : j.tail ≤ 4096) (hu : j.used ≤ 100000) (hsq : j.seq ≤ 2147483647) (hok : (begin_ j s).1 = 0 → NextOk (begin_ j s).2.1 (begin_ j s).2.2) :
    Calls Tryz.prog 21 #[.pointer (some ⟨jb, 0, none⟩)] w fun e w' => e = .returned (.int .i64 (NPlain.step j s).1) ∧ ∃ ρ' D' K', JGo w w' ρ D K ρ' D' K' jb ml mc b db (NPlain.step j s).2.1 (NPlain.step j s).2.2 := by
  have HM := Lib.hid (May_own h hh)
  rw [hm] at HM
  have HBG := Lib.hid (Begin_own h hT (fun e => hg (.inl e)) hlay hc hr ht hu hsq)
  have HST : Hid (NPlain.step j s = if (begin_ j s).1 = 0 then (0, NPlain.next (begin_ j s).2.1 (begin_ j s).2.2) else begin_ j s) := Lib.hid (by unfold NPlain.step; rw [if_pos hm, hl])
  have hcode := begin_code j s
  have HTG := Lib.hid (fun (w' : World) K' (hx : JGo w w' ρ D K ρ D K' jb ml mc b db (begin_ j s).2.1 (begin_ j s).2.2) => tab_go hT hg hx)
  have hgj : 0 ≠ jb := fun e => hg (.inr (.inl e))
  obtain ⟨A, c, hx, _⟩ := h.jx
  have c12 := hx.cells.2.2.2.2.2.2.2.2.2.2.2.2
  rw [hl] at c12
  simp only [List.length_nil] at c12
  generalize begin_ j s = B at *
  generalize NPlain.step j s = S at *
  have HGJ := Lib.hid hgj
  have HOK := Lib.hid hok
  clear hx h hm hT hg hl hlay hok hgj
  rcases hcode with hcode | hcode
  · have HC := Lib.hid hcode
    rw [hcode] at HBG HST
    have HOK2 := Lib.hid (HOK.out hcode)
    have HSE : Hid (S = (0, NPlain.next B.2.1 B.2.2)) := Lib.hid (by rw [HST.out]; simp)
    clear hcode HST
    go_enter Tryz.func21, Tryz.ntmps21
    go_wp2_with fail
    refine HM.out.mono ?_
    rintro e w1 ⟨rfl, rfl⟩
    go_wp2_with fail
    refine HBG.out.mono ?_
    rintro e w2 ⟨rfl, K', hgo⟩
    have HG2 := Lib.hid hgo
    have HN := Lib.hid (Next_any hgo.own (HTG.out w2 K' hgo) HGJ.out HOK2.out)
    clear hgo
    go_wp2_with fail
    refine HN.out.mono ?_
    rintro e w3 ⟨rfl, ρ', D', K'', hgo⟩
    have HG3 := Lib.hid (HG2.out.trans hgo)
    clear hgo
    go_wp2
    go_ret
    exact ⟨by rw [HSE.out]; rfl, ρ', D', K'', by rw [HSE.out]; exact HG3.out⟩
  · rw [hcode] at HBG HST
    have HSE : Hid (S = B) := Lib.hid (by rw [HST.out, if_neg (by decide)])
    have HC := Lib.hid hcode
    clear hcode HST
    go_enter Tryz.func21, Tryz.ntmps21
    go_wp2_with fail
    refine HM.out.mono ?_
    rintro e w1 ⟨rfl, rfl⟩
    go_wp2_with fail
    refine HBG.out.mono ?_
    rintro e w2 ⟨rfl, K', hgo⟩
    have HG2 := Lib.hid hgo
    clear hgo
    go_wp2
    go_ret
    exact ⟨by rw [HSE.out, HC.out]; rfl, ρ, D, K', by rw [HSE.out]; exact HG2.out⟩
end
end Go.Proofs.YtmlgchmladkfpaaGreatDoor.NStep
/- A commit runs to its end: the steps of the disk that it does, one by one, and what is left behind it. Plain mathematics. -/
namespace Go.Proofs.YtmlgchmladkfpaaGreatDoor.NRuns
open DPlain EPlain JPlain JNeed JNeed2 JLayM NPlain NFlush NNext NBegin NStep NLay3

/-- a step of the disk -/
inductive DOp where
  | put (k : Nat) (l : Bk)
  | sync
  | nop
def doOp (d : St) : DOp → St
  | .put k l => d.write k l
  | .sync => d.flush
  | .nop => d
/-- a step, and how many commits have ended behind it -/
abbrev Stp := DOp × Nat
def doOps (d : St) (l : List Stp) : St := l.foldl (fun d o => doOp d o.1) d
def tg (c : Nat) (l : List DOp) : List Stp := l.map fun o => (o, c)
theorem tg_append (c : Nat) (l m : List DOp) : tg c (l ++ m) = tg c l ++ tg c m := by simp [tg]
theorem tg_len (c : Nat) (l : List DOp) : (tg c l).length = l.length := by simp [tg]
/-- what a Step asks for -/
structure StepOk (j : Jr) (s : Sto) : Prop where
  may : NPlain.may j = true
  hand : j.handles ≤ 1073741824
  next : (j.left ≠ [] ∧ NextOk j s) ∨ (j.left = [] ∧ MayLay j s ∧ j.commits ≤ 1073741823 ∧ j.ring ≤ 4096 ∧ j.tail ≤ 4096 ∧ j.used ≤ 100000 ∧ j.seq ≤ 2147483647 ∧ (begin_ j s).1 = 0 ∧ NextOk (begin_ j s).2.1 (begin_ j s).2.2)
/-- Steps, each with its step of the disk -/
inductive Runs : Jr → Sto → List Stp → Jr → Sto → Prop
  | nil (j : Jr) (s : Sto) : Runs j s [] j s
  | cons {j : Jr} {s : Sto} {j1 : Jr} {s1 : Sto} {j2 : Jr} {s2 : Sto} {o : Stp} {l : List Stp} : StepOk j s → NPlain.step j s = (0, j1, s1) → s1.d = doOp s.d o.1 → j1.commits = o.2 → Runs j1 s1 l j2 s2 → Runs j s (o :: l) j2 s2
theorem Runs.append {j : Jr} {s : Sto} {j1 : Jr} {s1 : Sto} {j2 : Jr} {s2 : Sto} {l m : List Stp} (h : Runs j s l j1 s1) (h' : Runs j1 s1 m j2 s2) : Runs j s (l ++ m) j2 s2 := by
  induction h with
  | nil => exact h'
  | cons a b c c2 _ ih => exact .cons a b c c2 (ih h')
theorem Runs.disk {j : Jr} {s : Sto} {j1 : Jr} {s1 : Sto} {l : List Stp} (h : Runs j s l j1 s1) : s1.d = doOps s.d l := by
  induction h with
  | nil => rfl
  | cons a b c c2 _ ih => rw [ih, c]; rfl
/-- what holds all through a commit -/
structure Fit (j : Jr) (s : Sto) : Prop where
  may : NPlain.may j = true
  hand : j.handles ≤ 1073741824
  r1 : 6 ≤ j.ring
  r2 : j.ring ≤ 511
  tail : j.tail < j.ring
  used : j.used ≤ j.ring
  s1 : 1 ≤ j.seq
  s2 : j.seq ≤ 2147483646
  N : j.ring + 3 ≤ s.N
  com : j.commits ≤ 1073741823
section
variable {j : Jr} {s : Sto}
theorem Fit.same {s' : Sto} (h : Fit j s) (hN : s'.N = s.N) : Fit j s' := ⟨h.may, h.hand, h.r1, h.r2, h.tail, h.used, h.s1, h.s2, by rw [hN]; exact h.N, h.com⟩
theorem Fit.left (h : Fit j s) (l : List Thing) : Fit { j with left := l } s := ⟨h.may, h.hand, h.r1, h.r2, h.tail, h.used, h.s1, h.s2, h.N, h.com⟩
theorem Fit.wanted (h : Fit j s) : j.wanted = true := by
  have := h.may
  unfold NPlain.may at this
  rw [Bool.and_eq_true] at this
  exact this.1
theorem runs_next (hf : Fit j s) {t : Thing} {r : List Thing} (hl : j.left = t :: r) (hlen : r.length ≤ 100000) (hok : ThingOk { j with left := r } s t) (hload : s.load ≤ 1073741824) {j1 : Jr} {s1 : Sto} (he : run { j with left := r } s t = (j1, s1)) {o : DOp} (hd : s1.d = doOp s.d o) : Runs j s [(o, j1.commits)] j1 s1 := by
  refine .cons ⟨hf.may, hf.hand, .inl ⟨by rw [hl]; simp, .inr ⟨t, r, hl, hlen, hf.r1, by have := hf.r2; omega, hok, hload⟩⟩⟩ ?_ hd rfl (.nil _ _)
  unfold NPlain.step
  rw [if_pos hf.may, hl]
  show ((0 : Int), next j s) = _
  unfold next
  rw [hl]
  exact congrArg (Prod.mk 0) he
theorem home_d (n : Nat) (l : Bk) : (s.home n l).d = s.d.write n l := by unfold Sto.home; split <;> rfl
theorem home_wai (n : Nat) (l : Bk) (m : Nat) : (s.home n l).wai m = if m = n then none else s.wai m := by unfold Sto.home; split <;> rfl
theorem home_now (n : Nat) (l : Bk) : (s.home n l).now = s.now := by unfold Sto.home; split <;> rfl
theorem home_N (n : Nat) (l : Bk) : (s.home n l).N = s.N := EAny.home_N s l n
/-- blocks that wait are brought home -/
def homes (s : Sto) (ns : List Nat) : Sto := ns.foldl (fun s n => s.home n ((s.wai n).getD [])) s
theorem homes_cons (s : Sto) (n : Nat) (r : List Nat) : homes s (n :: r) = homes (s.home n ((s.wai n).getD [])) r := rfl
theorem homes_N (ns : List Nat) : ∀ s : Sto, (homes s ns).N = s.N := by
  induction ns with
  | nil => exact fun s => rfl
  | cons n r ih => exact fun s => by rw [homes_cons, ih, home_N]
theorem homes_now (ns : List Nat) : ∀ s : Sto, (homes s ns).now = s.now := by
  induction ns with
  | nil => exact fun s => rfl
  | cons n r ih => exact fun s => by rw [homes_cons, ih, home_now]
theorem homes_wai (ns : List Nat) : ∀ (s : Sto) (m : Nat), (homes s ns).wai m = if m ∈ ns then none else s.wai m := by
  induction ns with
  | nil => exact fun s m => by simp [homes]
  | cons n r ih =>
    intro s m
    rw [homes_cons, ih, home_wai]
    by_cases h : m = n
    · simp [h]
    · simp [h]
theorem homes_load (ns : List Nat) : ∀ s : Sto, (homes s ns).load ≤ s.load + ns.length := by
  induction ns with
  | nil => exact fun s => Nat.le_refl _
  | cons n r ih =>
    intro s
    have h1 := ih (s.home n ((s.wai n).getD []))
    have h2 := Sto.load_home s n ((s.wai n).getD [])
    rw [homes_cons, List.length_cons]
    omega
theorem homes_wf (ns : List Nat) : ∀ s : Sto, s.Wf → (∀ n ∈ ns, n < s.N) → (homes s ns).Wf := by
  induction ns with
  | nil => exact fun s h _ => h
  | cons n r ih =>
    intro s h hn
    rw [homes_cons]
    exact ih _ (h.home (hn n (by simp))) (fun m hm => by rw [home_N]; exact hn m (by simp [hm]))
theorem runs_homes (tl : List Thing) : ∀ (ns : List Nat) (j : Jr) (s : Sto), Fit j s → j.left = ns.map Thing.home ++ tl → ns.Nodup → (∀ n ∈ ns, (s.wai n).isSome = true) → s.load + ns.length ≤ 1073741824 → ns.length + tl.length ≤ 100000 →
    Runs j s (tg j.commits (ns.map fun n => .put n ((s.wai n).getD []))) { j with left := tl } (homes s ns)
  | [], j, s, hf, hl, _, _, _, _ => by
    have : { j with left := tl } = j := by cases j; simp at hl; subst hl; rfl
    rw [this]
    exact .nil _ _
  | n :: r, j, s, hf, hl, hnd, hw, hload, hlen => by
    simp only [List.length_cons] at hload hlen
    obtain ⟨l, hwl⟩ := Option.isSome_iff_exists.1 (hw n (by simp))
    have h1 : Runs j s (tg j.commits [.put n ((s.wai n).getD [])]) { j with left := r.map Thing.home ++ tl } (s.home n ((s.wai n).getD [])) :=
      runs_next (o := .put n ((s.wai n).getD [])) hf (t := .home n) (r := r.map Thing.home ++ tl) (by rw [hl]; rfl) (by simp; omega) ⟨l, hwl⟩ (by omega) rfl (home_d _ _)
    obtain ⟨hn1, hn2⟩ := List.nodup_cons.1 hnd
    have h2 := runs_homes tl r { j with left := r.map Thing.home ++ tl } (s.home n ((s.wai n).getD [])) ((hf.left _).same (home_N _ _)) rfl hn2 (fun m hm => by
      rw [home_wai, if_neg (show ¬ m = n from fun e => hn1 (e ▸ hm))]
      exact hw m (by simp [hm])) (by have := Sto.load_home s n ((s.wai n).getD []); omega) (by omega)
    have h3 := h1.append h2
    have e : (r.map fun m => DOp.put m (((s.home n ((s.wai n).getD [])).wai m).getD [])) = r.map fun m => DOp.put m ((s.wai m).getD []) :=
      List.map_congr_left fun m hm => by rw [home_wai, if_neg (show ¬ m = n from fun e => hn1 (e ▸ hm))]
    rw [e] at h3
    exact h3
/-- blocks laid into the ring -/
def ringOps (ring : Nat) (a : Nat) : List Bk → List DOp
  | [] => []
  | b :: r => .put (3 + a % ring) b :: ringOps ring (a + 1) r
def dputs (ring : Nat) (a : Nat) (s : Sto) : List Bk → Sto
  | [] => s
  | b :: r => dputs ring (a + 1) (dwrite s (3 + a % ring) b) r
theorem dputs_now (ring : Nat) : ∀ (l : List Bk) (a : Nat) (s : Sto), (dputs ring a s l).now = s.now ∧ (dputs ring a s l).wai = s.wai ∧ (dputs ring a s l).N = s.N ∧ (dputs ring a s l).load = s.load + l.length
  | [], _, _ => ⟨rfl, rfl, rfl, rfl⟩
  | b :: r, a, s => by
    obtain ⟨h1, h2, h3, h4⟩ := dputs_now ring r (a + 1) (dwrite s (3 + a % ring) b)
    refine ⟨h1, h2, h3, h4.trans ?_⟩
    simp [Sto.load, dwrite, St.write]
    omega
theorem wf_disk {d : St} (h : s.Wf) (hl : d.L.length = s.d.L.length) : Sto.Wf { s with d := d } := by
  have e : Sto.N { s with d := d } = s.N := hl
  exact ⟨fun n l hc => by rw [e]; exact h.chg n l hc, fun n l hc => by rw [e]; exact h.wai n l hc, fun n hc => by rw [e]; exact h.hld n hc, fun a ha => by rw [e]; exact h.fine a ha, h.ok, h.sh1, h.sh2, h.room1, h.room2, fun i hi => by
    obtain ⟨a1, a2, a3⟩ := h.each i hi
    exact ⟨a1, a2, fun n hn => by rw [e]; exact a3 n hn⟩, by rw [e]; exact h.pos, by rw [e]; exact h.most⟩
theorem dwrite_wf (h : s.Wf) (k : Nat) (l : Bk) : (dwrite s k l).Wf := wf_disk h rfl
theorem dflush_wf (h : s.Wf) : (dflush s).Wf := wf_disk h (flush_len _)
theorem dputs_wf (ring : Nat) : ∀ (l : List Bk) (a : Nat) (s : Sto), s.Wf → (dputs ring a s l).Wf
  | [], _, _, h => h
  | _ :: r, a, _, h => dputs_wf ring r (a + 1) _ (dwrite_wf h _ _)
theorem puts_len : ∀ (l : List Bk) (a : Nat), (puts a l).length = l.length
  | [], _ => rfl
  | b :: r, a => by show (puts (a + 1) r).length + 1 = r.length + 1; rw [puts_len r]
theorem runs_puts (tl : List Thing) : ∀ (bl : List Bk) (a : Nat) (j : Jr) (s : Sto), Fit j s → j.left = puts a bl ++ tl → a + bl.length ≤ 200000 → s.load + bl.length ≤ 1073741824 → bl.length + tl.length ≤ 100000 →
    Runs j s (tg j.commits (ringOps j.ring a bl)) { j with left := tl } (dputs j.ring a s bl)
  | [], a, j, s, hf, hl, _, _, _ => by
    have : { j with left := tl } = j := by cases j; simp [puts] at hl; subst hl; rfl
    rw [this]
    exact .nil _ _
  | b :: r, a, j, s, hf, hl, ha, hload, hlen => by
    simp only [List.length_cons] at ha hload hlen
    have h1 : Runs j s (tg j.commits [.put (3 + a % j.ring) b]) { j with left := puts (a + 1) r ++ tl } (dwrite s (3 + a % j.ring) b) :=
      runs_next (o := .put (3 + a % j.ring) b) hf (t := .put a b) (r := puts (a + 1) r ++ tl) (by rw [hl]; rfl) (by rw [List.length_append, puts_len]; omega) ⟨by omega, hf.N⟩ (by omega) rfl rfl
    have h2 := runs_puts tl r (a + 1) { j with left := puts (a + 1) r ++ tl } (dwrite s (3 + a % j.ring) b) ((hf.left _).same rfl) rfl (by omega) (by simp [Sto.load, dwrite, St.write] at *; omega) (by omega)
    exact h1.append h2
theorem runs_sync (hf : Fit j s) {r : List Thing} (hl : j.left = .flush [] :: r) (hlen : r.length ≤ 100000) (hload : s.load ≤ 1073741824) : Runs j s (tg j.commits [.sync]) { j with left := r } (dflush s) :=
  runs_next (o := .sync) hf hl hlen ⟨trivial, by simp⟩ hload rfl rfl
theorem runs_come (hf : Fit j s) {cs : List Come} {r : List Thing} (hl : j.left = .flush cs :: r) (hlen : r.length ≤ 100000) (hc : cs.length ≤ 1000) (hok : ComesOk { j with left := r } (dflush s) cs) (hd : (comes { j with left := r } (dflush s) cs).2.d = (dflush s).d) (hload : s.load ≤ 1073741824) :
    Runs j s [(.sync, (comes { j with left := r } (dflush s) cs).1.commits)] (comes { j with left := r } (dflush s) cs).1 (comes { j with left := r } (dflush s) cs).2 :=
  runs_next (o := .sync) hf hl hlen ⟨hok, hc⟩ hload rfl hd
theorem runs_head (hf : Fit j s) {r : List Thing} (hl : j.left = .head :: r) (hlen : r.length ≤ 100000) (hload : s.load ≤ 1073741824) : Runs j s (tg j.commits [.put 2 (recBytes j.headRec)]) { j with left := r } (dwrite s 2 (recBytes j.headRec)) :=
  runs_next (o := .put 2 (recBytes j.headRec)) hf hl hlen ⟨by have := hf.tail; have := hf.r2; show j.tail ≤ 4096; omega, by have := hf.used; have := hf.r2; show j.used ≤ 100000; omega, hf.s1, by have := hf.s2; show j.seq ≤ 2147483647; omega, hf.N⟩ hload rfl rfl
/-- the steps of a checkpoint -/
def ckOps (j : Jr) (s : Sto) : List DOp := ((numsOf s.wai s.N).map fun n => .put n ((s.wai n).getD [])) ++ [.sync, .put 2 (recBytes j.headRec), .sync]
def ckS (j : Jr) (s : Sto) : Sto := dflush (dwrite (dflush (homes s (numsOf s.wai s.N))) 2 (recBytes j.headRec))
def ckJ (j : Jr) : Jr := Jr.emptied { j with left := [] }
theorem nums_nodup (f : Nat → Option Bk) (N : Nat) : (numsOf f N).Nodup := List.Nodup.sublist List.filter_sublist List.nodup_range
theorem mem_nums {f : Nat → Option Bk} {N n : Nat} : n ∈ numsOf f N ↔ n < N ∧ (f n).isSome = true := by simp [numsOf]
theorem nums_le (f : Nat → Option Bk) (N : Nat) : (numsOf f N).length ≤ N := by
  have := List.length_filter_le (fun n => (f n).isSome) (List.range N)
  simpa [numsOf] using this
theorem ckS_now (j : Jr) (s : Sto) : (ckS j s).now = s.now := homes_now _ _
theorem ckS_N (j : Jr) (s : Sto) : (ckS j s).N = s.N := by
  show (dflush _).N = _
  have e : ∀ x : Sto, (dflush x).N = x.N := fun x => flush_len _
  rw [e]
  show (dflush _).N = _
  rw [e]
  exact homes_N _ _
theorem ckS_wai (j : Jr) {s : Sto} (h : s.Wf) (n : Nat) : (ckS j s).wai n = none := by
  show (homes s _).wai n = none
  rw [homes_wai]
  split
  · rfl
  · rename_i hn
    cases hw : s.wai n with
    | none => rfl
    | some l => exact absurd (mem_nums.2 ⟨(h.wai n l hw).1, by rw [hw]; rfl⟩) hn
theorem ckS_wf (j : Jr) {s : Sto} (h : s.Wf) : (ckS j s).Wf := dflush_wf (dwrite_wf (dflush_wf (homes_wf _ s h (fun _ hn => (mem_nums.1 hn).1))) _ _)
theorem ckS_load (j : Jr) (s : Sto) : (ckS j s).load ≤ s.load + (numsOf s.wai s.N).length + 3 := by
  have h1 := homes_load (numsOf s.wai s.N) s
  have e : (ckS j s).load = (homes s (numsOf s.wai s.N)).load + 3 := by
    simp [ckS, Sto.load, dflush, dwrite, St.flush, St.write]
    omega
  omega
theorem ck_len (j : Jr) (s : Sto) : (ckOps j s).length = (numsOf s.wai s.N).length + 3 := by simp [ckOps]
/-- a checkpoint, and what comes with its last flush -/
theorem runs_ck (b : List Come) (hb : b = [] ∨ b = [.fin]) (hf : Fit j s) (hl : j.left = checkpoint s b) (hN : s.N ≤ 4096) (hload : s.load + 5000 ≤ 1073741824) : Runs j s (tg j.commits (ckOps j s)) (comes (ckJ j) (ckS j s) b).1 (ckS j s) := by
  have hle := nums_le s.wai s.N
  have hlo := homes_load (numsOf s.wai s.N) s
  have h1 := runs_homes [.flush [], .head, .flush (.empty :: b)] (numsOf s.wai s.N) j s hf (by rw [hl]; rfl) (nums_nodup _ _) (fun n hn => (mem_nums.1 hn).2) (by omega) (by simp; omega)
  have h2 := runs_sync (j := { j with left := [.flush [], .head, .flush (.empty :: b)] }) (s := homes s (numsOf s.wai s.N)) ((hf.left _).same (homes_N _ _)) rfl (by simp) (by omega)
  have h3 := runs_head (j := { j with left := [.head, .flush (.empty :: b)] }) (s := dflush (homes s (numsOf s.wai s.N))) ((hf.left _).same ((flush_len _).trans (homes_N _ _))) rfl (by simp) (by simp [Sto.load, dflush, St.flush] at *; omega)
  have h4 := runs_come (j := { j with left := [.flush (.empty :: b)] }) (s := dwrite (dflush (homes s (numsOf s.wai s.N))) 2 (recBytes j.headRec)) ((hf.left _).same ((flush_len _).trans (homes_N _ _))) rfl (by simp) (by rcases hb with rfl | rfl <;> simp)
    (by
      have h5 : ComeOk { j with left := [] } (dflush (dwrite (dflush (homes s (numsOf s.wai s.N))) 2 (recBytes j.headRec))) .empty := ⟨by have := hf.tail; have := hf.r2; show j.tail ≤ 4096; omega, by have := hf.used; have := hf.r2; show j.used ≤ 100000; omega⟩
      rcases hb with rfl | rfl
      · exact ⟨h5, trivial⟩
      · exact ⟨h5, trivial, trivial⟩)
    (by rcases hb with rfl | rfl <;> rfl) (by simp [Sto.load, dflush, dwrite, St.flush, St.write] at *; omega)
  have h5 := ((h1.append h2).append h3).append h4
  have e4 : (comes { j with left := [] } (dflush (dwrite (dflush (homes s (numsOf s.wai s.N))) 2 (recBytes j.headRec))) (.empty :: b)).1.commits = j.commits := by rcases hb with rfl | rfl <;> rfl
  have e3 : tg j.commits (ckOps j s) = ((tg j.commits ((numsOf s.wai s.N).map fun n => DOp.put n ((s.wai n).getD [])) ++ tg j.commits [.sync]) ++ tg j.commits [.put 2 (recBytes j.headRec)]) ++ [(.sync, (comes { j with left := [] } (dflush (dwrite (dflush (homes s (numsOf s.wai s.N))) 2 (recBytes j.headRec))) (.empty :: b)).1.commits)] := by
    rw [e4]
    simp [ckOps, tg]
  have e : (comes { j with left := [] } (dflush (dwrite (dflush (homes s (numsOf s.wai s.N))) 2 (recBytes j.headRec))) (.empty :: b)).2 = ckS j s := by rcases hb with rfl | rfl <;> rfl
  have h6 : Runs j s (tg j.commits (ckOps j s)) (comes { j with left := [] } (dflush (dwrite (dflush (homes s (numsOf s.wai s.N))) 2 (recBytes j.headRec))) (.empty :: b)).1 (comes { j with left := [] } (dflush (dwrite (dflush (homes s (numsOf s.wai s.N))) 2 (recBytes j.headRec))) (.empty :: b)).2 := by
    rw [e3]
    exact h5
  rw [e] at h6
  exact h6
def layMid (ring a : Nat) (sc : Sto) (bl : List Bk) : Sto := dflush (dputs ring a sc bl.dropLast)
def layEnd (ring a : Nat) (sc : Sto) (bl : List Bk) : Sto := dputs ring (a + (bl.length - 1)) (layMid ring a sc bl) (bl.drop (bl.length - 1))
def laidG (j : Jr) (s : Sto) (bl : List Bk) : Sto := Sto.release (dflush (layEnd j.ring (j.tail + j.used) s.commit bl))
def laidJg (j : Jr) (n : Nat) (bs : List Nat) : Jr := { Jr.laid { j with left := [] } n bs with commits := j.commits + 1 }
/-- a transaction laid -/
theorem runs_lay (hf : Fit j s) (bl : List Bk) (bs : List Nat) (h1 : 1 ≤ bl.length) (hl : j.left = layLeft (j.tail + j.used) bl bs) (hu : j.used + bl.length ≤ j.ring) (hb : bs.length ≤ 4096 ∧ ∀ x ∈ bs, x < s.N) (hload : s.load + 5000 ≤ 1073741824) :
    Runs j s (tg j.commits (ringOps j.ring (j.tail + j.used) bl.dropLast ++ [.sync] ++ ringOps j.ring (j.tail + j.used + (bl.length - 1)) (bl.drop (bl.length - 1))) ++ [(.sync, j.commits + 1)])
      (endPart (Jr.laid { j with left := [] } bl.length bs) (dflush (layEnd j.ring (j.tail + j.used) s bl))).1
      (endPart (Jr.laid { j with left := [] } bl.length bs) (dflush (layEnd j.ring (j.tail + j.used) s bl))).2 := by
  have hr := hf.r2
  have ht := hf.tail
  have hl1 : bl.dropLast.length = bl.length - 1 := List.length_dropLast
  have hl2 : (bl.drop (bl.length - 1)).length = 1 := by rw [List.length_drop]; omega
  obtain ⟨a1, a2, a3, a4⟩ := dputs_now j.ring bl.dropLast (j.tail + j.used) s
  have k1 := runs_puts (.flush [] :: (puts (j.tail + j.used + (bl.length - 1)) (bl.drop (bl.length - 1)) ++ [.flush [.laid bl.length bs, .part]])) bl.dropLast (j.tail + j.used) j s hf
    (by rw [hl]; simp [layLeft]) (by omega) (by omega) (by simp [puts_len]; omega)
  have k2 := runs_sync (j := { j with left := .flush [] :: (puts (j.tail + j.used + (bl.length - 1)) (bl.drop (bl.length - 1)) ++ [.flush [.laid bl.length bs, .part]]) }) (s := dputs j.ring (j.tail + j.used) s bl.dropLast) ((hf.left _).same a3) rfl (by simp [puts_len]; omega) (by omega)
  have n2 : (dflush (dputs j.ring (j.tail + j.used) s bl.dropLast)).N = s.N := (flush_len _).trans a3
  have l2 : (dflush (dputs j.ring (j.tail + j.used) s bl.dropLast)).load = s.load + (bl.length - 1) + 1 := by
    rw [← hl1, ← a4]
    simp [Sto.load, dflush, St.flush]
    omega
  obtain ⟨b1, b2, b3, b4⟩ := dputs_now j.ring (bl.drop (bl.length - 1)) (j.tail + j.used + (bl.length - 1)) (dflush (dputs j.ring (j.tail + j.used) s bl.dropLast))
  have k3 := runs_puts [.flush [.laid bl.length bs, .part]] (bl.drop (bl.length - 1)) (j.tail + j.used + (bl.length - 1)) { j with left := (puts (j.tail + j.used + (bl.length - 1)) (bl.drop (bl.length - 1)) ++ [.flush [.laid bl.length bs, .part]]) } (dflush (dputs j.ring (j.tail + j.used) s bl.dropLast)) ((hf.left _).same n2) rfl (by omega) (by omega) (by simp; omega)
  have k4 := runs_come (j := { j with left := [.flush [.laid bl.length bs, .part]] }) (s := dputs j.ring (j.tail + j.used + (bl.length - 1)) (dflush (dputs j.ring (j.tail + j.used) s bl.dropLast)) (bl.drop (bl.length - 1))) ((hf.left _).same (b3.trans n2)) rfl (by simp) (by simp)
    (by
      refine ⟨⟨by have := hf.s2; show j.seq ≤ 2147483647; omega, by show j.used ≤ 100000; omega, by omega, hb.1, fun x hx => ?_⟩, ⟨hf.com, by show j.used + bl.length ≤ 100000; omega⟩, trivial⟩
      have := hb.2 x hx
      have e : (dflush (dputs j.ring (j.tail + j.used + (bl.length - 1)) (dflush (dputs j.ring (j.tail + j.used) s bl.dropLast)) (bl.drop (bl.length - 1)))).N = s.N := (flush_len _).trans (b3.trans n2)
      omega)
    (by
      show (comes _ _ [.part]).2.d = _
      show (endPart _ _).2.d = _
      unfold endPart
      simp only
      split <;> rfl) (by omega)
  have e4 : (comes { j with left := [] } (dflush (dputs j.ring (j.tail + j.used + (bl.length - 1)) (dflush (dputs j.ring (j.tail + j.used) s bl.dropLast)) (bl.drop (bl.length - 1)))) [.laid bl.length bs, .part]).1.commits = j.commits + 1 := by
    show (endPart _ _).1.commits = _
    unfold endPart
    simp only
    split <;> rfl
  have k5 := ((k1.append k2).append k3).append k4
  rw [show (comes { ({ j with left := [.flush [.laid bl.length bs, .part]] } : Jr) with left := [] } (dflush (dputs j.ring (j.tail + j.used + (bl.length - 1)) (dflush (dputs j.ring (j.tail + j.used) s bl.dropLast)) (bl.drop (bl.length - 1)))) [.laid bl.length bs, .part]).1.commits = j.commits + 1 from e4] at k5
  rw [tg_append, tg_append]
  exact k5
/-- what begin has found is done at once -/
theorem runs_begin (hf : Fit j s) (hl : j.left = []) (hm : MayLay j s) {j1 : Jr} {s1 : Sto} (hb : begin_ j s = (0, j1, s1)) (hd : s1.d = s.d) (hl1 : j1.left ≠ []) (hm1 : NPlain.may j1 = true) {o : Stp} {l : List Stp} {j2 : Jr} {s2 : Sto} (h : Runs j1 s1 (o :: l) j2 s2) : Runs j s (o :: l) j2 s2 := by
  cases h with
  | cons a b c c2 d =>
    have hn : NextOk j1 s1 := by
      rcases a.next with h1 | h1
      · exact h1.2
      · exact absurd h1.1 hl1
    refine .cons ⟨hf.may, hf.hand, .inr ⟨hl, hm, hf.com, by have := hf.r2; omega, by have := hf.r2; have := hf.tail; omega, by have := hf.r2; have := hf.used; omega, by have := hf.s2; omega, by rw [hb], by rw [hb]; exact hn⟩⟩ ?_ (by rw [c, hd]) c2 d
    rw [← b]
    unfold NPlain.step
    rw [if_pos hf.may, if_pos hm1, hl, hb]
    cases hj : j1.left with
    | nil => exact absurd hj hl1
    | cons t r => rfl
theorem begin_d (j : Jr) (s : Sto) (e : Int × Jr × Sto) (h : begin_ j s = e) : e.2.2.d = s.d := by
  subst h
  unfold begin_ endPart layAll
  simp only
  repeat' split
  all_goals rfl
theorem wrs_len (f : Nat → Option Bk) (N : Nat) : (wrs f N).length = (numsOf f N).length := by simp [wrs]
theorem wrsOf_len (l : List (Nat × Bk)) : (wrsOf l).length = l.length := by simp [wrsOf]
/-- the blocks of the transaction that comes -/
def blksOf (j : Jr) (s : Sto) : List Bk := lay j.seq (wrsOf (wrs s.now.chg s.N)) []
theorem blks_len (j : Jr) (s : Sto) : (blksOf j s).length = needN (numsOf s.now.chg s.N).length 0 := by
  unfold blksOf
  rw [lay_len, wrsOf_len, wrs_len]
  rfl
theorem need_pos (a b : Nat) : 1 ≤ needN a b := by unfold needN; omega
theorem need_zero (a : Nat) : needN a 0 = a + rowsN a 48 + 1 := by unfold needN; simp [rowsN]
theorem lay_ok (hf : Fit j s) (hw : s.Wf) : layOk j.seq (wrsOf (wrs s.now.chg s.N)) [] = true := by
  have hN := hw.most
  have hle := nums_le s.now.chg s.N
  have hmem : ∀ x ∈ wrsOf (wrs s.now.chg s.N), ∃ (n : Nat) (l : Bk), x = ⟨(n : Int), l⟩ ∧ n < s.N ∧ l.length = 256 := fun x hx => by
    obtain ⟨y, hy, rfl⟩ := List.mem_map.1 hx
    obtain ⟨n, hn, rfl⟩ := List.mem_map.1 hy
    obtain ⟨l, hl⟩ := Option.isSome_iff_exists.1 (mem_nums.1 hn).2
    obtain ⟨q1, q2⟩ := hw.chg n l hl
    exact ⟨n, l, by simp [hl], q1, q2⟩
  have hs1 := hf.s1
  have hs2 := hf.s2
  have hsq : seqOk j.seq = true := seqOk_iff.2 ⟨by omega, by omega⟩
  unfold layOk
  simp only [Bool.and_eq_true, decide_eq_true_eq]
  refine ⟨⟨⟨⟨⟨by rw [wrsOf_len, wrs_len]; omega, by simp⟩, List.all_eq_true.2 fun x hx => ?_⟩, List.all_eq_true.2 fun i hi => ?_⟩, by rfl⟩, hsq⟩
  · obtain ⟨n, l, rfl, _, h⟩ := hmem x hx
    simp [h]
  · have hi2 := (rowsN_mul (wrsOf (wrs s.now.chg s.N)).length 48 (by decide)).2 i (List.mem_range.1 hi)
    have hpl := part_len (wrsOf (wrs s.now.chg s.N)) 48 i
    refine recMay_iff.2 ⟨hsq, ?_, fun x hx => ?_, rfl⟩
    · simp [hasOk, descR, hpl]
      omega
    · obtain ⟨y, hy, rfl⟩ := List.mem_map.1 hx
      obtain ⟨n, l, rfl, h, _⟩ := hmem y (List.mem_of_mem_drop (List.mem_of_mem_take hy))
      exact blkOk_iff.2 ⟨by show (0 : Int) ≤ (n : Int); omega, by show (n : Int) ≤ 4095; omega⟩
/-- a journal of which a commit is wanted, that has not begun with it -/
structure Rest (j : Jr) (s : Sto) : Prop where
  fit : Fit j s
  left : j.left = []
  wf : s.Wf
  rev : revoked j s = []
  load : s.load + 20000 ≤ 1073741824
  com : j.commits + 1 ≤ 1073741823
  sq : j.seq + 1 ≤ 2147483646
theorem Rest.may_lay (h : Rest j s) : MayLay j s := by
  have hN := h.wf.most
  have hle := nums_le s.now.chg s.N
  refine ⟨by rw [h.rev]; exact lay_ok h.fit h.wf, ?_⟩
  rw [h.rev]
  show (blksOf j s).length ≤ 100000
  rw [blks_len, need_zero]
  have := rowsN_le (numsOf s.now.chg s.N).length 48
  omega
def layOps1 (j : Jr) (s : Sto) : List DOp := ringOps j.ring (j.tail + j.used) (blksOf j s).dropLast ++ [.sync] ++ ringOps j.ring (j.tail + j.used + ((blksOf j s).length - 1)) ((blksOf j s).drop ((blksOf j s).length - 1))
def layOps (j : Jr) (s : Sto) : List Stp := tg j.commits (layOps1 j s) ++ [(.sync, j.commits + 1)]
def laidS (j : Jr) (s : Sto) : Sto := laidG j s (blksOf j s)
theorem dflush_facts (x : Sto) : (dflush x).now = x.now ∧ (dflush x).wai = x.wai ∧ (dflush x).N = x.N ∧ (dflush x).load = x.load + 1 :=
  ⟨rfl, rfl, flush_len _, by simp [Sto.load, dflush, St.flush]; omega⟩
theorem layMid_facts (ring a : Nat) (s : Sto) (bl : List Bk) : (layMid ring a s bl).now = s.now ∧ (layMid ring a s bl).wai = s.wai ∧ (layMid ring a s bl).N = s.N ∧ (layMid ring a s bl).load = s.load + (bl.length - 1) + 1 := by
  obtain ⟨h1, h2, h3, h4⟩ := dputs_now ring bl.dropLast a s
  obtain ⟨g1, g2, g3, g4⟩ := dflush_facts (dputs ring a s bl.dropLast)
  have e : bl.dropLast.length = bl.length - 1 := List.length_dropLast
  unfold layMid
  exact ⟨g1.trans h1, g2.trans h2, g3.trans h3, by rw [g4, h4, e]⟩
theorem layEnd_facts (ring a : Nat) (s : Sto) (bl : List Bk) : (layEnd ring a s bl).now = s.now ∧ (layEnd ring a s bl).wai = s.wai ∧ (layEnd ring a s bl).N = s.N ∧ (layEnd ring a s bl).load = s.load + (bl.length - 1) + 1 + (bl.length - (bl.length - 1)) := by
  obtain ⟨g1, g2, g3, g4⟩ := layMid_facts ring a s bl
  obtain ⟨h1, h2, h3, h4⟩ := dputs_now ring (bl.drop (bl.length - 1)) (a + (bl.length - 1)) (layMid ring a s bl)
  unfold layEnd
  exact ⟨h1.trans g1, h2.trans g2, h3.trans g3, by rw [h4, g4, List.length_drop]⟩
theorem laidG_facts (j : Jr) (s : Sto) (bl : List Bk) : (laidG j s bl).N = s.N ∧ (laidG j s bl).wai = s.commit.wai ∧ (laidG j s bl).now = ⟨fun _ => none, fun _ => false⟩ ∧ (laidG j s bl).load ≤ s.load + bl.length + 2 ∧ (s.Wf → (laidG j s bl).Wf) := by
  obtain ⟨h1, h2, h3, h4⟩ := layEnd_facts j.ring (j.tail + j.used) s.commit bl
  obtain ⟨g1, g2, g3, g4⟩ := dflush_facts (layEnd j.ring (j.tail + j.used) s.commit bl)
  have h0 := Sto.load_commit s
  have e2 : (laidG j s bl).load = (dflush (layEnd j.ring (j.tail + j.used) s.commit bl)).load := rfl
  refine ⟨g3.trans h3, g2.trans h2, ?_, by omega, fun h => ?_⟩
  · show Now.bare (layEnd j.ring (j.tail + j.used) s.commit bl).now = _
    rw [h1]
    rfl
  · have w1 : (layMid j.ring (j.tail + j.used) s.commit bl).Wf := dflush_wf (dputs_wf _ _ _ _ h.commit)
    have w2 : (layEnd j.ring (j.tail + j.used) s.commit bl).Wf := dputs_wf _ _ _ _ w1
    exact (dflush_wf w2).release
def laidJ (j : Jr) (s : Sto) : Jr := laidJg j (blksOf j s).length ((wrs s.now.chg s.N).map (·.1))
theorem lay_end (j : Jr) (s : Sto) (bl : List Bk) (bs : List Nat) (h : 0 < j.used + bl.length) : endPart (Jr.laid { j with left := [] } bl.length bs) (dflush (layEnd j.ring (j.tail + j.used) s.commit bl)) = (if j.clean = true then { laidJg j bl.length bs with left := checkpoint (laidG j s bl) [.fin] } else (laidJg j bl.length bs).fin, laidG j s bl) := by
  unfold endPart
  have hu : decide (0 < (Jr.laid { j with left := [] } bl.length bs).used) = true := decide_eq_true h
  simp only [hu, Bool.true_or, Bool.and_true]
  have hcl : (Jr.laid { j with left := [] } bl.length bs).clean = j.clean := rfl
  rw [hcl]
  by_cases hc : j.clean = true
  · rw [if_pos hc, if_pos hc]
    rfl
  · rw [if_neg hc, if_neg hc]
    rfl
theorem ringOps_len (ring : Nat) : ∀ (l : List Bk) (a : Nat), (ringOps ring a l).length = l.length
  | [], _ => rfl
  | b :: r, a => by show (ringOps ring (a + 1) r).length + 1 = r.length + 1; rw [ringOps_len ring r]
theorem layOps_len (j : Jr) (s : Sto) : (layOps j s).length = (blksOf j s).length + 2 := by
  have h1 := blks_len j s
  have h2 := need_pos (numsOf s.now.chg s.N).length 0
  simp only [layOps, layOps1, tg_len, List.length_append, ringOps_len, List.length_dropLast, List.length_drop, List.length_singleton]
  omega
theorem laidS_N (j : Jr) (s : Sto) : (laidS j s).N = s.N := (laidG_facts j s (blksOf j s)).1
theorem laidS_wai (j : Jr) (s : Sto) (n : Nat) : (laidS j s).wai n = match s.now.chg n with | some l => some l | none => s.wai n := by
  have h : (laidS j s).wai = s.commit.wai := (laidG_facts j s (blksOf j s)).2.1
  rw [h]
  rfl
theorem laidS_now (j : Jr) (s : Sto) : (laidS j s).now = ⟨fun _ => none, fun _ => false⟩ := (laidG_facts j s (blksOf j s)).2.2.1
theorem laidS_wf (j : Jr) {s : Sto} (h : s.Wf) : (laidS j s).Wf := (laidG_facts j s (blksOf j s)).2.2.2.2 h
theorem laidS_load (j : Jr) (s : Sto) : (laidS j s).load ≤ s.load + (blksOf j s).length + 2 := (laidG_facts j s (blksOf j s)).2.2.2.1
theorem nums_map (f : Nat → Option Bk) (N : Nat) : (wrs f N).map (·.1) = numsOf f N := by
  unfold wrs
  rw [List.map_map]
  exact List.map_id'' (fun _ => rfl) _
/-- there is room: a transaction is laid -/
theorem lay_go (h : Rest j s) (hc : 1 ≤ (numsOf s.now.chg s.N).length) (hn : needN (numsOf s.now.chg s.N).length 0 ≤ j.ring - j.used) :
    Runs j s (layOps j s) (if j.clean = true then { laidJ j s with left := checkpoint (laidS j s) [.fin] } else (laidJ j s).fin) (laidS j s) := by
  have hp := need_pos (numsOf s.now.chg s.N).length 0
  have hbl := blks_len j s
  have hle := nums_le s.now.chg s.N
  have hmo := h.wf.most
  have hfu := h.fit.used
  have hlo := h.load
  have hbg : begin_ j s = (0, layAll j s []) := by
    unfold begin_
    simp only [h.rev, List.length_nil]
    rw [if_neg (by omega), if_neg (by omega), if_neg (by omega)]
  have hleft : layAll j s [] = ({ j with left := layLeft (j.tail + j.used) (blksOf j s) ((wrs s.now.chg s.N).map (·.1)) }, s.commit) := by
    unfold layAll blksOf
    simp only [List.map_nil]
  have hbs : ((wrs s.now.chg s.N).map (·.1)).length ≤ 4096 ∧ ∀ x ∈ (wrs s.now.chg s.N).map (·.1), x < s.commit.N := ⟨by rw [nums_map]; omega, fun x hx => by rw [nums_map] at hx; exact (mem_nums.1 hx).1⟩
  rw [hleft] at hbg
  clear hleft
  unfold layOps layOps1 laidJ laidS
  generalize blksOf j s = bl at *
  generalize (wrs s.now.chg s.N).map (·.1) = bs at *
  have hr := runs_lay (j := { j with left := layLeft (j.tail + j.used) bl bs }) (s := s.commit) ((h.fit.left _).same rfl) bl bs (by omega) rfl (by show j.used + bl.length ≤ j.ring; omega) hbs (by have h1 := Sto.load_commit s; omega)
  have e := lay_end j s bl bs (by omega)
  have e1 := congrArg Prod.fst e
  have e2 := congrArg Prod.snd e
  simp only at e1 e2
  rw [← e1, ← e2]
  have hne : layLeft (j.tail + j.used) bl bs ≠ [] := by
    unfold layLeft
    simp
  have hr2 : Runs { j with left := layLeft (j.tail + j.used) bl bs } s.commit (tg j.commits (ringOps j.ring (j.tail + j.used) bl.dropLast ++ [.sync] ++ ringOps j.ring (j.tail + j.used + (bl.length - 1)) (bl.drop (bl.length - 1))) ++ [(.sync, j.commits + 1)])
      (endPart (Jr.laid { j with left := [] } bl.length bs) (dflush (layEnd j.ring (j.tail + j.used) s.commit bl))).1
      (endPart (Jr.laid { j with left := [] } bl.length bs) (dflush (layEnd j.ring (j.tail + j.used) s.commit bl))).2 := hr
  obtain ⟨o, l, ho⟩ := List.exists_cons_of_ne_nil (show tg j.commits (ringOps j.ring (j.tail + j.used) bl.dropLast ++ [.sync] ++ ringOps j.ring (j.tail + j.used + (bl.length - 1)) (bl.drop (bl.length - 1))) ++ [((DOp.sync, j.commits + 1) : Stp)] ≠ [] by simp)
  rw [ho] at hr2 ⊢
  exact runs_begin h.fit h.left h.may_lay hbg rfl hne h.fit.may hr2
/-- there is no room: a checkpoint comes first -/
theorem ck_go (h : Rest j s) (hc : 1 ≤ (numsOf s.now.chg s.N).length) (hn : needN (numsOf s.now.chg s.N).length 0 ≤ j.ring) (hn2 : j.ring - j.used < needN (numsOf s.now.chg s.N).length 0) : Runs j s (tg j.commits (ckOps j s)) (ckJ j) (ckS j s) := by
  have hbg : begin_ j s = (0, { j with left := checkpoint s [] }, s) := by
    unfold begin_
    simp only [h.rev, List.length_nil]
    rw [if_neg (by omega), if_neg (by omega), if_pos hn2]
  have hr := runs_ck (j := { j with left := checkpoint s [] }) (s := s) [] (.inl rfl) (h.fit.left _) rfl h.wf.most (by have := h.load; omega)
  have hne : checkpoint s [] ≠ [] := by simp [checkpoint]
  cases ho : tg j.commits (ckOps j s) with
  | nil =>
    have := ck_len j s
    rw [← tg_len j.commits, ho] at this
    simp at this
  | cons o l =>
    have hr2 : Runs { j with left := checkpoint s [] } s (o :: l) (ckJ j) (ckS j s) := by rw [← ho]; exact hr
    exact runs_begin h.fit h.left h.may_lay hbg rfl hne h.fit.may hr2
/-- what is wanted clean is brought home behind it -/
theorem clean_go {j1 : Jr} {s1 : Sto} (hf : Fit j1 s1) (hN : s1.N ≤ 4096) (hload : s1.load + 5000 ≤ 1073741824) : Runs { j1 with left := checkpoint s1 [.fin] } s1 (tg j1.commits (ckOps j1 s1)) (ckJ j1).fin (ckS j1 s1) :=
  runs_ck (j := { j1 with left := checkpoint s1 [.fin] }) [.fin] (.inr rfl) (hf.left _) rfl hN hload
/-- nothing is changed -/
theorem none_go (h : Rest j s) (hc : (numsOf s.now.chg s.N).length = 0) :
    if j.clean && (decide (0 < j.used) || decide (0 < (numsOf s.wai s.N).length)) then Runs j s (tg (j.commits + 1) (ckOps j s.release)) (ckJ { j with commits := j.commits + 1 }).fin (ckS j s.release) else Runs j s [(.nop, j.commits + 1)] (Jr.fin { j with commits := j.commits + 1 }) s.release := by
  have hbg : begin_ j s = (0, endPart j s) := by
    unfold begin_
    simp only [h.rev, List.length_nil]
    rw [if_pos ⟨hc, trivial⟩]
  have hwn : (numsOf s.release.wai s.release.N).length = (numsOf s.wai s.N).length := rfl
  split
  · rename_i hcl
    have hep : endPart j s = ({ j with commits := j.commits + 1, left := checkpoint s.release [.fin] }, s.release) := by
      unfold endPart
      simp only [hwn]
      rw [if_pos hcl]
    have hf1 : Fit { j with commits := j.commits + 1 } s.release := ⟨h.fit.may, h.fit.hand, h.fit.r1, h.fit.r2, h.fit.tail, h.fit.used, h.fit.s1, h.fit.s2, h.fit.N, h.com⟩
    have hr := clean_go hf1 h.wf.most (by have h1 : s.release.load ≤ s.load := Sto.load_release s; have := h.load; omega)
    have hne : checkpoint s.release [.fin] ≠ [] := by simp [checkpoint]
    rw [hep] at hbg
    cases ho : tg (j.commits + 1) (ckOps j s.release) with
    | nil =>
      have := ck_len j s.release
      rw [← tg_len (j.commits + 1), ho] at this
      simp at this
    | cons o l =>
      have hr2 : Runs { j with commits := j.commits + 1, left := checkpoint s.release [.fin] } s.release (o :: l) (ckJ { j with commits := j.commits + 1 }).fin (ckS j s.release) := by rw [← ho]; exact hr
      exact runs_begin h.fit h.left h.may_lay hbg rfl hne h.fit.may hr2
  · rename_i hcl
    have hep : endPart j s = (Jr.fin { j with commits := j.commits + 1 }, s.release) := by
      unfold endPart
      simp only [hwn]
      rw [if_neg hcl]
    refine Runs.cons (j1 := Jr.fin { j with commits := j.commits + 1 }) (s1 := s.release) ⟨h.fit.may, h.fit.hand, .inr ⟨h.left, h.may_lay, h.fit.com, by have := h.fit.r2; omega, by have := h.fit.r2; have := h.fit.tail; omega, by have := h.fit.r2; have := h.fit.used; omega, by have := h.fit.s2; omega, by rw [hbg], .inl (by rw [hbg, hep]; exact h.left)⟩⟩ ?_ rfl rfl (.nil _ _)
    have hn : next (Jr.fin { j with commits := j.commits + 1 }) s.release = (Jr.fin { j with commits := j.commits + 1 }, s.release) := by
      have hl : (Jr.fin { j with commits := j.commits + 1 }).left = [] := h.left
      unfold next
      rw [hl]
    have hs : NPlain.step j s = if (begin_ j s).1 = 0 then (0, next (begin_ j s).2.1 (begin_ j s).2.2) else begin_ j s := by
      unfold NPlain.step
      rw [if_pos h.fit.may, h.left]
    rw [hs, hbg, hep]
    exact congrArg (Prod.mk (0 : Int)) hn
/-- is there room for the transaction that comes? -/
def roomy (j : Jr) (s : Sto) : Bool := decide (needN (numsOf s.now.chg s.N).length 0 ≤ j.ring - j.used)
def preJ (j : Jr) (s : Sto) : Jr := if roomy j s = true then j else ckJ j
def preS (j : Jr) (s : Sto) : Sto := if roomy j s = true then s else ckS j s
def preOps (j : Jr) (s : Sto) : List Stp := if roomy j s = true then [] else tg j.commits (ckOps j s)
def bareClean (j : Jr) (s : Sto) : Bool := j.clean && (decide (0 < j.used) || decide (0 < (numsOf s.wai s.N).length))
/-- all steps of a commit, and what it leaves -/
def postOps (j : Jr) (s : Sto) : List Stp := if j.clean = true then tg (j.commits + 1) (ckOps (laidJ (preJ j s) (preS j s)) (laidS (preJ j s) (preS j s))) else []
def comOps (j : Jr) (s : Sto) : List Stp :=
  if (numsOf s.now.chg s.N).length = 0 then (if bareClean j s = true then tg (j.commits + 1) (ckOps j s.release) else [(.nop, j.commits + 1)])
  else preOps j s ++ layOps (preJ j s) (preS j s) ++ postOps j s
def comJ (j : Jr) (s : Sto) : Jr :=
  if (numsOf s.now.chg s.N).length = 0 then (if bareClean j s = true then (ckJ { j with commits := j.commits + 1 }).fin else Jr.fin { j with commits := j.commits + 1 })
  else if j.clean = true then (ckJ (laidJ (preJ j s) (preS j s))).fin else (laidJ (preJ j s) (preS j s)).fin
def comS (j : Jr) (s : Sto) : Sto :=
  if (numsOf s.now.chg s.N).length = 0 then (if bareClean j s = true then ckS j s.release else s.release)
  else if j.clean = true then ckS (laidJ (preJ j s) (preS j s)) (laidS (preJ j s) (preS j s)) else laidS (preJ j s) (preS j s)
theorem behind_lt (hf : Fit j s) : j.behind < j.ring := Nat.mod_lt _ (by have := hf.r1; omega)
theorem ck_rest (h : Rest j s) (hl : s.load + 30000 ≤ 1073741824) : Rest (ckJ j) (ckS j s) := by
  have hf := h.fit
  have h1 := ckS_load j s
  have hle := nums_le s.wai s.N
  have hmo := h.wf.most
  exact ⟨⟨hf.may, hf.hand, hf.r1, hf.r2, show j.behind < j.ring from behind_lt hf, Nat.zero_le _, hf.s1, hf.s2, by rw [ckS_N]; exact hf.N, hf.com⟩, rfl, ckS_wf j h.wf, by simp [revoked, ckJ, Jr.emptied], by omega, h.com, h.sq⟩
theorem laid_fit (h : Rest j s) (hn : needN (numsOf s.now.chg s.N).length 0 ≤ j.ring - j.used) : Fit (laidJ j s) (laidS j s) := by
  have hf := h.fit
  have hbl := blks_len j s
  have hu := hf.used
  have hsq := h.sq
  exact ⟨hf.may, hf.hand, hf.r1, hf.r2, hf.tail, by show j.used + (blksOf j s).length ≤ j.ring; omega, by show 1 ≤ j.seq + 1; omega, hsq, by rw [laidS_N]; exact hf.N, h.com⟩
theorem pre_go (h : Rest j s) (hl : s.load + 30000 ≤ 1073741824) (hc : 1 ≤ (numsOf s.now.chg s.N).length) (hn : needN (numsOf s.now.chg s.N).length 0 ≤ j.ring) :
    Runs j s (preOps j s) (preJ j s) (preS j s) ∧ Rest (preJ j s) (preS j s) ∧ (preS j s).now = s.now ∧ (preS j s).N = s.N ∧ needN (numsOf s.now.chg s.N).length 0 ≤ (preJ j s).ring - (preJ j s).used ∧ (preJ j s).clean = j.clean := by
  unfold preOps preJ preS
  by_cases hr : roomy j s = true
  · simp only [hr, if_true]
    exact ⟨.nil _ _, h, trivial, trivial, of_decide_eq_true hr, trivial⟩
  · simp only [hr, Bool.false_eq_true, if_false]
    have h2 : ¬ needN (numsOf s.now.chg s.N).length 0 ≤ j.ring - j.used := fun e => hr (decide_eq_true e)
    exact ⟨ck_go h hc hn (by omega), ck_rest h hl, ckS_now _ _, ckS_N _ _, hn, rfl⟩
/-- a commit, from its beginning to its end -/
theorem commit_go (h : Rest j s) (hl : s.load + 30000 ≤ 1073741824) (hn : needN (numsOf s.now.chg s.N).length 0 ≤ j.ring) : Runs j s (comOps j s) (comJ j s) (comS j s) := by
  unfold comOps comJ comS
  by_cases hc : (numsOf s.now.chg s.N).length = 0
  · have h0 := none_go h hc
    simp only [hc, if_true]
    unfold bareClean
    split at h0
    · rename_i hcl
      simp only [hcl, if_true]
      exact h0
    · rename_i hcl
      simp only [hcl, Bool.false_eq_true, if_false]
      exact h0
  · simp only [hc, if_false]
    obtain ⟨h1, h2, h3, h4, h5, h6⟩ := pre_go h hl (by omega) hn
    have e : numsOf (preS j s).now.chg (preS j s).N = numsOf s.now.chg s.N := by rw [h3, h4]
    have h7 := lay_go h2 (by rw [e]; omega) (by rw [e]; exact h5)
    rw [h6] at h7
    unfold postOps
    have ec : (laidJ (preJ j s) (preS j s)).commits = j.commits + 1 := by
      show (preJ j s).commits + 1 = _
      unfold preJ
      split <;> rfl
    by_cases hcl : j.clean = true
    · simp only [hcl, if_true] at h7 ⊢
      rw [← ec]
      have h8 := laidS_load (preJ j s) (preS j s)
      have h9 := blks_len (preJ j s) (preS j s)
      have h10 := h2.fit.r2
      rw [e] at h9
      have h11 := clean_go (laid_fit h2 (by rw [e]; exact h5)) (laidS_wf (preJ j s) h2.wf).most (by have := h2.load; omega)
      exact (h1.append h7).append h11
    · simp only [hcl, Bool.false_eq_true, if_false] at h7 ⊢
      rw [List.append_nil]
      exact h1.append h7
/-- steps of the disk that count -/
def isOp : DOp → Bool
  | .nop => false
  | _ => true
def cnt (l : List Stp) : Nat := (l.filter fun o => isOp o.1).length
theorem cnt_append (l m : List Stp) : cnt (l ++ m) = cnt l + cnt m := by simp [cnt]
theorem cnt_le (l : List Stp) : cnt l ≤ l.length := List.length_filter_le _ _
theorem doOps_N : ∀ (l : List Stp) (d : St), (doOps d l).N = d.N + cnt l
  | [], _ => rfl
  | (o, c) :: r, d => by
    show (doOps (doOp d o) r).N = _
    rw [doOps_N r]
    cases o <;> simp [cnt, doOp, St.write, St.flush, isOp] <;> omega
theorem doOps_len : ∀ (l : List Stp) (d : St), (doOps d l).L.length = d.L.length
  | [], _ => rfl
  | (o, c) :: r, d => by
    show (doOps (doOp d o) r).L.length = _
    rw [doOps_len r]
    cases o with
    | put k l => rfl
    | sync => exact flush_len d
    | nop => rfl
def noNop (l : List Stp) : Prop := ∀ o ∈ l, o.1 ≠ .nop
theorem cnt_all {l : List Stp} (h : noNop l) : cnt l = l.length := by
  unfold cnt
  rw [List.filter_eq_self.2]
  rintro ⟨o, c⟩ ho
  cases o with
  | put k l => rfl
  | sync => rfl
  | nop => exact absurd rfl (h _ ho)
theorem ringOps_mem (ring : Nat) : ∀ (l : List Bk) (a : Nat) (o : DOp), o ∈ ringOps ring a l → ∃ p b, o = .put (3 + p % ring) b
  | [], _, _, h => by cases h
  | b :: r, a, o, h => by
    rcases List.mem_cons.1 h with rfl | h
    · exact ⟨a, b, rfl⟩
    · exact ringOps_mem ring r (a + 1) o h
/-- which steps there are -/
def OpFine (ring : Nat) (src : Nat → Bk → Prop) : DOp → Prop
  | .put n l => n < ring + 3 ∨ src n l
  | .sync => True
  | .nop => False
theorem ck_fine (j : Jr) (s : Sto) (hr : 1 ≤ j.ring) (c : Nat) : ∀ o ∈ tg c (ckOps j s), OpFine j.ring (fun n l => s.wai n = some l) o.1 := by
  intro o ho
  obtain ⟨o, ho2, rfl⟩ := List.mem_map.1 ho
  rcases List.mem_append.1 ho2 with h | h
  · obtain ⟨n, hn, rfl⟩ := List.mem_map.1 h
    obtain ⟨l, hl⟩ := Option.isSome_iff_exists.1 (mem_nums.1 hn).2
    refine .inr ?_
    show s.wai n = some ((s.wai n).getD [])
    rw [hl]
    rfl
  · simp only [List.mem_cons, List.not_mem_nil, or_false] at h
    rcases h with rfl | rfl | rfl
    · trivial
    · exact .inl (by omega)
    · trivial
theorem layOps_fine (j : Jr) (s : Sto) (hr : 1 ≤ j.ring) (src : Nat → Bk → Prop) : ∀ o ∈ layOps j s, OpFine j.ring src o.1 := by
  intro o ho
  have key : ∀ o a l, o ∈ ringOps j.ring a l → OpFine j.ring src o := fun o a l h => by
    obtain ⟨p, b, rfl⟩ := ringOps_mem _ _ _ _ h
    have := Nat.mod_lt p (show 0 < j.ring by omega)
    exact .inl (by omega)
  unfold layOps at ho
  rcases List.mem_append.1 ho with ho | ho
  · obtain ⟨o, ho2, rfl⟩ := List.mem_map.1 ho
    unfold layOps1 at ho2
    simp only [List.mem_append, List.mem_singleton] at ho2
    rcases ho2 with (h | rfl) | h
    · exact key _ _ _ h
    · trivial
    · exact key _ _ _ h
  · rw [List.mem_singleton.1 ho]
    trivial
theorem fine_mono {ring : Nat} {src src' : Nat → Bk → Prop} (h : ∀ n l, src n l → src' n l) {o : DOp} (ho : OpFine ring src o) : OpFine ring src' o := by
  cases o with
  | put n l => exact ho.imp id (h n l)
  | sync => trivial
  | nop => exact ho.elim
theorem fine_noNop {ring : Nat} {src : Nat → Bk → Prop} {l : List Stp} (h : ∀ o ∈ l, OpFine ring src o.1) : noNop l := fun o ho e => by
  have := h _ ho
  rw [e] at this
  exact this
theorem pre_wai (j : Jr) {s : Sto} (h : s.Wf) (n : Nat) (l : Bk) (e : (preS j s).wai n = some l) : s.wai n = some l := by
  unfold preS at e
  split at e
  · exact e
  · rw [ckS_wai j h] at e
    cases e
/-- all of a commit that changes something -/
theorem com_fine (h : Rest j s) (hl : s.load + 30000 ≤ 1073741824) (hn : needN (numsOf s.now.chg s.N).length 0 ≤ j.ring) : comOps j s = [(.nop, j.commits + 1)] ∨ ∀ o ∈ comOps j s, OpFine j.ring (fun n l => s.wai n = some l ∨ s.now.chg n = some l) o.1 := by
  have hr1 := h.fit.r1
  unfold comOps
  by_cases hc : (numsOf s.now.chg s.N).length = 0
  · simp only [hc, if_true]
    split
    · exact .inr fun o ho => fine_mono (fun n l e => .inl e) (ck_fine j s.release (by omega) _ o ho)
    · exact .inl rfl
  · simp only [hc, if_false]
    obtain ⟨h1, h2, h3, h4, h5, h6⟩ := pre_go h hl (by omega) hn
    have e : numsOf (preS j s).now.chg (preS j s).N = numsOf s.now.chg s.N := by rw [h3, h4]
    have er : (preJ j s).ring = j.ring := by unfold preJ; split <;> rfl
    refine .inr fun o ho => ?_
    rcases List.mem_append.1 ho with ho | ho
    · rcases List.mem_append.1 ho with ho | ho
      · unfold preOps at ho
        split at ho
        · cases ho
        · exact fine_mono (fun n l e => .inl e) (ck_fine j s (by omega) _ o ho)
      · rw [← er]
        exact layOps_fine _ _ (by omega) _ o ho
    · unfold postOps at ho
      split at ho
      · rw [← er]
        refine fine_mono (fun n l e => ?_) (ck_fine (laidJ (preJ j s) (preS j s)) _ (show 1 ≤ (preJ j s).ring by omega) _ o ho)
        rw [laidS_wai, h3] at e
        cases hcn : s.now.chg n with
        | some b => rw [hcn] at e; exact .inr e
        | none => rw [hcn] at e; exact .inl (pre_wai j h.wf n l e)
      · cases ho
theorem com_count (h : Rest j s) (hl : s.load + 30000 ≤ 1073741824) (hn : needN (numsOf s.now.chg s.N).length 0 ≤ j.ring) : (comOps j s).length - 1 ≤ cnt (comOps j s) ∧ cnt (comOps j s) ≤ (comOps j s).length := by
  refine ⟨?_, cnt_le _⟩
  rcases com_fine h hl hn with e | e
  · rw [e]; simp [cnt, isOp]
  · rw [cnt_all (fine_noNop e)]; omega
end
end Go.Proofs.YtmlgchmladkfpaaGreatDoor.NRuns
/- Between two commits: what holds there, and that a commit leads from there to there. Plain mathematics. -/
namespace Go.Proofs.YtmlgchmladkfpaaGreatDoor.NOpen
open DPlain EPlain JPlain JNeed JNeed2 JLayM NPlain NFlush NNext NBegin NStep NLay3 NRuns

/-- no commit is wanted; B of them may still come -/
structure Open (B : Nat) (j : Jr) (s : Sto) : Prop where
  left : j.left = []
  wanted : j.wanted = false
  clean : j.clean = false
  r1 : 12 ≤ j.ring
  r2 : j.ring ≤ 511
  tail : j.tail < j.ring
  used : j.used ≤ j.ring
  s1 : 1 ≤ j.seq
  s2 : j.seq + B ≤ 2147483646
  N : j.ring + 3 ≤ s.N
  com : j.commits + B ≤ 1073741823
  wf : s.Wf
  wai : (numsOf s.wai s.N).length ≤ j.used
  hold : ∀ n, s.now.hld n = true → (s.now.chg n).isSome = true
  cred : ∀ h, j.cred h = none
section
variable {B : Nat} {j : Jr} {s : Sto}
theorem filter_or {α : Type} (p q r : α → Bool) (h : ∀ x, r x = true → p x = true ∨ q x = true) : ∀ l : List α, (l.filter r).length ≤ (l.filter p).length + (l.filter q).length
  | [] => Nat.le_refl _
  | x :: l => by
    have ih := filter_or p q r h l
    simp only [List.filter_cons]
    cases hr : r x with
    | false =>
      simp only [Bool.false_eq_true, if_false]
      split <;> split <;> simp <;> omega
    | true =>
      simp only [if_true]
      rcases h x hr with h1 | h1
      · simp only [h1, if_true]
        split <;> simp <;> omega
      · simp only [h1, if_true]
        split <;> simp <;> omega
theorem laid_wai (j : Jr) (s : Sto) : (numsOf (laidS j s).wai (laidS j s).N).length ≤ (numsOf s.now.chg s.N).length + (numsOf s.wai s.N).length := by
  rw [laidS_N]
  unfold numsOf
  refine filter_or _ _ _ (fun n h => ?_) _
  rw [laidS_wai] at h
  cases hc : s.now.chg n with
  | some l => exact .inl rfl
  | none => rw [hc] at h; exact .inr h
theorem wai_none {s : Sto} (h : ∀ n, s.wai n = none) (N : Nat) : numsOf s.wai N = [] := by
  unfold numsOf
  rw [List.filter_eq_nil_iff]
  intro n _
  rw [h]
  simp
theorem chg_none {s : Sto} (h : s.now = ⟨fun _ => none, fun _ => false⟩) (N : Nat) : numsOf s.now.chg N = [] := by
  unfold numsOf
  rw [List.filter_eq_nil_iff, h]
  intro n _
  simp
theorem need_cap {c r : Nat} (h : c ≤ r * 3 / 4 - 4) (hr : 12 ≤ r) : needN c 0 ≤ r := by
  rw [need_zero]
  unfold rowsN
  split <;> omega
theorem open_rest (h : Open (B + 1) j s) (q : Bool) (hh : j.handles ≤ 1073741824) (hl : s.load + 30000 ≤ 1073741824) : NRuns.Rest (j.ask q) s := by
  have hs2 := h.s2
  have hcm := h.com
  have hr1 := h.r1
  refine ⟨⟨?_, hh, by show 6 ≤ j.ring; omega, h.r2, h.tail, h.used, h.s1, by show j.seq ≤ 2147483646; omega, h.N, by show j.commits ≤ 1073741823; omega⟩, h.left, h.wf, ?_, by omega, by show j.commits + 1 ≤ 1073741823; omega, by show j.seq + 1 ≤ 2147483646; omega⟩
  · unfold NPlain.may
    rw [Bool.and_eq_true]
    exact ⟨rfl, decide_eq_true fun k _ => h.cred k⟩
  · unfold revoked
    rw [List.filter_eq_nil_iff]
    intro n _ he
    simp only [Bool.and_eq_true, Bool.not_eq_true'] at he
    have := h.hold n he.1.2
    rw [this] at he
    cases he.2
/-- what a commit leaves -/
structure Ended (B : Nat) (j : Jr) (s : Sto) (j1 : Jr) (s1 : Sto) (ops : List Stp) : Prop where
  opn : Open B j1 s1
  now : s1.now = ⟨fun _ => none, fun _ => false⟩
  com : j1.commits = j.commits + 1
  ring : j1.ring = j.ring
  hand : j1.handles = j.handles
  N : s1.N = s.N
  load : s1.load ≤ s.load + ops.length + 8
  len : ops.length ≤ 3 * j.ring + 8
theorem ckJ_cred (j : Jr) : (ckJ j).cred = j.cred := rfl
theorem load_release' (s : Sto) : s.release.load = s.load := rfl
theorem commit_open (h : Open (B + 1) j s) (q : Bool) (hh : j.handles ≤ 1073741824) (hl : s.load + 30000 ≤ 1073741824) (hc : (numsOf s.now.chg s.N).length ≤ j.cap) :
    Runs (j.ask q) s (comOps (j.ask q) s) (comJ (j.ask q) s) (comS (j.ask q) s) ∧ Ended B j s (comJ (j.ask q) s) (comS (j.ask q) s) (comOps (j.ask q) s) := by
  have hr := open_rest h q hh hl
  have hneed : needN (numsOf s.now.chg s.N).length 0 ≤ j.ring := need_cap hc h.r1
  refine ⟨commit_go hr hl hneed, ?_⟩
  have hs2 := h.s2
  have hcm := h.com
  have hus := h.used
  have hwa := h.wai
  have hbl : ∀ x : Jr, x.ring = j.ring → x.behind < x.ring := fun x hx => Nat.mod_lt _ (by have := h.r1; omega)
  unfold comOps comJ comS
  by_cases h0 : (numsOf s.now.chg s.N).length = 0
  · simp only [h0, if_true]
    have hrn : s.release.now = ⟨fun _ => none, fun _ => false⟩ := by
      have : s.now.chg = fun _ => none := by
        funext n
        cases hn : s.now.chg n with
        | none => rfl
        | some l =>
          have hm : n ∈ numsOf s.now.chg s.N := mem_nums.2 ⟨(h.wf.chg n l hn).1, by rw [hn]; rfl⟩
          rw [List.eq_nil_of_length_eq_zero h0] at hm
          cases hm
      show Now.bare s.now = _
      unfold Now.bare
      rw [this]
    by_cases hb : bareClean (j.ask q) s = true
    · simp only [hb, if_true]
      have hlo := ckS_load (j.ask q) s.release
      have hln := ck_len (j.ask q) s.release
      have hwl : (numsOf s.release.wai s.release.N).length = (numsOf s.wai s.N).length := rfl
      have hlr := load_release' s
      have hw0 := wai_none (ckS_wai (j.ask q) h.wf.release)
      refine ⟨⟨rfl, rfl, rfl, h.r1, h.r2, hbl _ rfl, Nat.zero_le _, h.s1, by show j.seq + B ≤ _; omega, by rw [ckS_N]; exact h.N, by show j.commits + 1 + B ≤ _; omega, ckS_wf _ h.wf.release, by rw [hw0]; simp, fun n hn => ?_, h.cred⟩, (ckS_now _ _).trans hrn, rfl, rfl, rfl, ckS_N _ _, by rw [tg_len]; omega, by rw [tg_len]; omega⟩
      rw [ckS_now, hrn] at hn
      cases hn
    · simp only [hb, Bool.false_eq_true, if_false]
      refine ⟨⟨h.left, rfl, rfl, h.r1, h.r2, h.tail, h.used, h.s1, by show j.seq + B ≤ _; omega, h.N, by show j.commits + 1 + B ≤ _; omega, h.wf.release, h.wai, fun n hn => (by cases hn), h.cred⟩, hrn, rfl, rfl, rfl, rfl, by have := load_release' s; simp; omega, by show 1 ≤ 3 * j.ring + 8; omega⟩
  · simp only [h0, if_false]
    obtain ⟨h1, h2, h3, h4, h5, h6⟩ := pre_go hr hl (by omega) hneed
    have e : numsOf (preS (j.ask q) s).now.chg (preS (j.ask q) s).N = numsOf s.now.chg s.N := by rw [h3, h4]
    have er : (preJ (j.ask q) s).ring = j.ring := by unfold preJ; split <;> rfl
    have es : (preJ (j.ask q) s).seq = j.seq := by unfold preJ; split <;> rfl
    have ec : (preJ (j.ask q) s).commits = j.commits := by unfold preJ; split <;> rfl
    have ecr : (preJ (j.ask q) s).cred = j.cred := by unfold preJ; split <;> rfl
    have eh : (preJ (j.ask q) s).handles = j.handles := by unfold preJ; split <;> rfl
    have epw : (numsOf (preS (j.ask q) s).wai (preS (j.ask q) s).N).length ≤ (preJ (j.ask q) s).used := by
      unfold preS preJ
      split
      · exact h.wai
      · rw [wai_none (ckS_wai (j.ask q) h.wf)]; simp
    have epl : (preOps (j.ask q) s).length ≤ j.ring + 3 ∧ (preS (j.ask q) s).load ≤ s.load + (preOps (j.ask q) s).length := by
      unfold preOps preS
      split
      · exact ⟨Nat.zero_le _, Nat.le_refl _⟩
      · have := ck_len (j.ask q) s
        have := ckS_load (j.ask q) s
        rw [tg_len]
        omega
    have hf2 := laid_fit h2 (by rw [e]; exact h5)
    have hb1 := blks_len (preJ (j.ask q) s) (preS (j.ask q) s)
    have hl1 := layOps_len (preJ (j.ask q) s) (preS (j.ask q) s)
    have hd1 := laidS_load (preJ (j.ask q) s) (preS (j.ask q) s)
    have hw1 := laid_wai (preJ (j.ask q) s) (preS (j.ask q) s)
    have hn1 := laidS_N (preJ (j.ask q) s) (preS (j.ask q) s)
    have hnz := need_zero (numsOf s.now.chg s.N).length
    have hpu := h2.fit.used
    have hfu := hf2.used
    have hul : (laidJ (preJ (j.ask q) s) (preS (j.ask q) s)).used = (preJ (j.ask q) s).used + (blksOf (preJ (j.ask q) s) (preS (j.ask q) s)).length := rfl
    have hrl : (laidJ (preJ (j.ask q) s) (preS (j.ask q) s)).ring = j.ring := er
    rw [e] at hb1 hw1
    unfold postOps
    by_cases hcl : (j.ask q).clean = true
    · simp only [hcl, if_true]
      have hL : (preOps (j.ask q) s ++ layOps (preJ (j.ask q) s) (preS (j.ask q) s) ++ tg ((j.ask q).commits + 1) (ckOps (laidJ (preJ (j.ask q) s) (preS (j.ask q) s)) (laidS (preJ (j.ask q) s) (preS (j.ask q) s)))).length = (preOps (j.ask q) s).length + (layOps (preJ (j.ask q) s) (preS (j.ask q) s)).length + (ckOps (laidJ (preJ (j.ask q) s) (preS (j.ask q) s)) (laidS (preJ (j.ask q) s) (preS (j.ask q) s))).length := by rw [List.length_append, List.length_append, tg_len]
      have hlo := ckS_load (laidJ (preJ (j.ask q) s) (preS (j.ask q) s)) (laidS (preJ (j.ask q) s) (preS (j.ask q) s))
      have hln := ck_len (laidJ (preJ (j.ask q) s) (preS (j.ask q) s)) (laidS (preJ (j.ask q) s) (preS (j.ask q) s))
      have hwf := laidS_wf (preJ (j.ask q) s) h2.wf
      have hnow : (ckS (laidJ (preJ (j.ask q) s) (preS (j.ask q) s)) (laidS (preJ (j.ask q) s) (preS (j.ask q) s))).now = ⟨fun _ => none, fun _ => false⟩ := (ckS_now _ _).trans (laidS_now _ _)
      have hNN : (ckS (laidJ (preJ (j.ask q) s) (preS (j.ask q) s)) (laidS (preJ (j.ask q) s) (preS (j.ask q) s))).N = s.N := (ckS_N _ _).trans (hn1.trans h4)
      refine ⟨⟨rfl, rfl, rfl, by show 12 ≤ (preJ (j.ask q) s).ring; rw [er]; exact h.r1, by show (preJ (j.ask q) s).ring ≤ 511; rw [er]; exact h.r2, hbl (laidJ (preJ (j.ask q) s) (preS (j.ask q) s)) hrl, Nat.zero_le _, by show 1 ≤ (preJ (j.ask q) s).seq + 1; omega, by show (preJ (j.ask q) s).seq + 1 + B ≤ _; omega, by rw [hNN]; show (preJ (j.ask q) s).ring + 3 ≤ _; rw [er]; exact h.N, by show (preJ (j.ask q) s).commits + 1 + B ≤ _; omega, ckS_wf _ hwf, by rw [wai_none (ckS_wai _ hwf)]; simp, fun n hn => ?_, fun k => by show (preJ (j.ask q) s).cred k = none; rw [ecr]; exact h.cred k⟩, hnow, by show (preJ (j.ask q) s).commits + 1 = _; omega, er, eh, hNN, by rw [hL]; omega, by rw [hL]; omega⟩
      rw [hnow] at hn
      cases hn
    · simp only [hcl, Bool.false_eq_true, if_false, List.append_nil]
      have hL : (preOps (j.ask q) s ++ layOps (preJ (j.ask q) s) (preS (j.ask q) s)).length = (preOps (j.ask q) s).length + (layOps (preJ (j.ask q) s) (preS (j.ask q) s)).length := by rw [List.length_append]
      have hwf := laidS_wf (preJ (j.ask q) s) h2.wf
      have hnow : (laidS (preJ (j.ask q) s) (preS (j.ask q) s)).now = ⟨fun _ => none, fun _ => false⟩ := laidS_now _ _
      have hNN : (laidS (preJ (j.ask q) s) (preS (j.ask q) s)).N = s.N := hn1.trans h4
      refine ⟨⟨rfl, rfl, rfl, by show 12 ≤ (preJ (j.ask q) s).ring; rw [er]; exact h.r1, by show (preJ (j.ask q) s).ring ≤ 511; rw [er]; exact h.r2, by show (preJ (j.ask q) s).tail < (preJ (j.ask q) s).ring; exact h2.fit.tail, hfu, by show 1 ≤ (preJ (j.ask q) s).seq + 1; omega, by show (preJ (j.ask q) s).seq + 1 + B ≤ _; omega, by rw [hNN]; show (preJ (j.ask q) s).ring + 3 ≤ _; rw [er]; exact h.N, by show (preJ (j.ask q) s).commits + 1 + B ≤ _; omega, hwf, by show _ ≤ (laidJ (preJ (j.ask q) s) (preS (j.ask q) s)).used; omega, fun n hn => ?_, fun k => by show (preJ (j.ask q) s).cred k = none; rw [ecr]; exact h.cred k⟩, hnow, by show (preJ (j.ask q) s).commits + 1 = _; omega, er, eh, hNN, by rw [hL]; omega, by rw [hL]; omega⟩
      rw [hnow] at hn
      cases hn
theorem com_plain {j : Jr} {s : Sto} (hc : (numsOf s.now.chg s.N).length ≠ 0) (hr : roomy j s = true) (hcl : j.clean = false) : comOps j s = layOps j s ∧ comJ j s = (laidJ j s).fin ∧ comS j s = laidS j s := by
  unfold comOps comJ comS preOps preJ preS postOps
  simp only [hc, hr, hcl, if_true, if_false, Bool.false_eq_true, List.nil_append, List.append_nil]
  exact ⟨trivial, trivial, trivial⟩
theorem com_bare {j : Jr} {s : Sto} (hc : (numsOf s.now.chg s.N).length = 0) (hb : bareClean j s = true) : comOps j s = tg (j.commits + 1) (ckOps j s.release) ∧ comJ j s = (ckJ { j with commits := j.commits + 1 }).fin ∧ comS j s = ckS j s.release := by
  unfold comOps comJ comS
  simp only [hc, hb, if_true]
  exact ⟨trivial, trivial, trivial⟩
end
end Go.Proofs.YtmlgchmladkfpaaGreatDoor.NOpen
/- The document's example of a journal, in plain mathematics. -/
namespace Go.Proofs.YtmlgchmladkfpaaGreatDoor.NAwM
open DPlain EPlain JPlain JNeed JNeed2 JLayM NPlain NFlush NNext NBegin NStep NLay3 NRuns NOpen

def j0 : Jr := Jr.new 95 7 0
def j1 : Jr := (((j0.start 64).start 3).stop 1).stop 2
def s0 : Sto := fresh (St.new 300) 4 16
def s1 : Sto := s0.write 150 (full 9)
theorem new_len (n : Nat) : (St.new n).L.length = n := List.length_replicate
theorem s0_N : s0.N = 300 := new_len 300
theorem s0_wf : s0.Wf := fresh_wf (by decide) (by decide) (by decide) (by decide) (by rw [new_len]; decide) (by rw [new_len]; decide)
theorem s1_wf : s1.Wf := s0_wf.write (by rw [s0_N]; decide) (full_len _)
theorem s1_N : s1.N = 300 := s0_N
theorem s1_chg (n : Nat) : s1.now.chg n = if n = 150 then some (full 9) else none := rfl
theorem s1_nums : numsOf s1.now.chg s1.N = [150] := by
  rw [s1_N]
  unfold numsOf
  have : (fun n => (s1.now.chg n).isSome) = fun n => decide (n = 150) := by
    funext n
    rw [s1_chg]
    by_cases h : n = 150 <;> simp [h]
  rw [this]
  decide +kernel
theorem none_nums (N : Nat) : numsOf (fun _ => none) N = [] := by
  unfold numsOf
  rw [List.filter_eq_nil_iff]
  intro n _
  simp
set_option maxRecDepth 100000 in
theorem opn1 : NOpen.Open 10 j1 s1 := by
  refine ⟨rfl, rfl, rfl, by decide, by decide, by decide, by decide, by decide, by decide, by rw [s1_N]; decide, by decide, s1_wf, ?_, fun n hn => (by cases hn), fun h => ?_⟩
  · show (numsOf (fun _ => none) _).length ≤ 0
    rw [none_nums]
    exact Nat.le_refl _
  · show (if h = 2 then none else if h = 1 then none else if h = 2 then some 3 else if h = 1 then some 64 else none) = none
    split
    · rfl
    · split
      · rfl
      · rfl
set_option maxRecDepth 100000 in
theorem c1 : (numsOf s1.now.chg s1.N).length = 1 := by rw [s1_nums]; rfl
set_option maxRecDepth 100000 in
theorem roomy1 : roomy (j1.ask false) s1 = true := by
  unfold roomy
  rw [c1]
  decide
theorem s1_load : s1.load ≤ 1 := Nat.le_refl _
set_option maxRecDepth 100000 in
theorem run1 : Runs (j1.ask false) s1 (comOps (j1.ask false) s1) (comJ (j1.ask false) s1) (comS (j1.ask false) s1) ∧ Ended 9 j1 s1 (comJ (j1.ask false) s1) (comS (j1.ask false) s1) (comOps (j1.ask false) s1) :=
  commit_open opn1 false (by show (2 : Nat) ≤ 1073741824; omega) (by have := s1_load; omega) (by rw [c1]; decide)
def j2 : Jr := comJ (j1.ask false) s1
def s2 : Sto := comS (j1.ask false) s1
set_option maxRecDepth 100000 in
theorem is1 : comOps (j1.ask false) s1 = layOps (j1.ask false) s1 ∧ j2 = (laidJ (j1.ask false) s1).fin ∧ s2 = laidS (j1.ask false) s1 := com_plain (by rw [c1]; decide) roomy1 rfl
set_option maxRecDepth 100000 in
theorem blk1 : (blksOf (j1.ask false) s1).length = 3 := by rw [blks_len, c1]; rfl
set_option maxRecDepth 100000 in
theorem len1 : (comOps (j1.ask false) s1).length = 5 := by rw [is1.1, layOps_len, blk1]
set_option maxRecDepth 100000 in
theorem j2_is : j2.seq = 8 ∧ j2.tail = 0 ∧ j2.used = 3 ∧ j2.commits = 1 ∧ j2.wanted = false ∧ j2.handles = 2 ∧ j2.ring = 95 := by
  rw [is1.2.1]
  refine ⟨rfl, rfl, ?_, rfl, rfl, rfl, rfl⟩
  show 0 + (blksOf (j1.ask false) s1).length = 3
  rw [blk1]
set_option maxRecDepth 100000 in
theorem s2_d : s2.d.N = 5 := by
  have h := run1.1.disk
  show (comS (j1.ask false) s1).d.N = 5
  have hl : s1.load + 30000 ≤ 1073741824 := by have := s1_load; omega
  rw [h, doOps_N]
  have hf := com_fine (open_rest opn1 false (by show (2 : Nat) ≤ 1073741824; omega) hl) hl (by rw [c1]; decide)
  rcases hf with e | e
  · have := len1
    rw [e] at this
    cases this
  · rw [cnt_all (fine_noNop e), len1]
    rfl
set_option maxRecDepth 100000 in
theorem s2_wai (n : Nat) : s2.wai n = if n = 150 then some (full 9) else none := by
  rw [is1.2.2, laidS_wai, s1_chg]
  by_cases h : n = 150
  · simp [h]
  · simp only [if_neg h]
    rfl
set_option maxRecDepth 100000 in
theorem s2_N : s2.N = 300 := by rw [is1.2.2, laidS_N, s1_N]
set_option maxRecDepth 100000 in
theorem s2_nums : numsOf s2.wai s2.N = [150] := by
  rw [s2_N]
  unfold numsOf
  have : (fun n => (s2.wai n).isSome) = fun n => decide (n = 150) := by
    funext n
    rw [s2_wai]
    by_cases h : n = 150 <;> simp [h]
  rw [this]
  decide +kernel
set_option maxRecDepth 100000 in
theorem s2_now : s2.now = ⟨fun _ => none, fun _ => false⟩ := run1.2.now
set_option maxRecDepth 100000 in
theorem c2 : (numsOf s2.now.chg s2.N).length = 0 := by rw [chg_none s2_now]; rfl
set_option maxRecDepth 100000 in
theorem s2_load : s2.load ≤ 14 := by
  have h := run1.2.load
  have := s1_load
  have := len1
  show (comS (j1.ask false) s1).load ≤ 14
  omega
set_option maxRecDepth 100000 in
theorem opn2 : NOpen.Open 9 j2 s2 := run1.2.opn
set_option maxRecDepth 100000 in
theorem run2 : Runs (j2.ask true) s2 (comOps (j2.ask true) s2) (comJ (j2.ask true) s2) (comS (j2.ask true) s2) ∧ Ended 8 j2 s2 (comJ (j2.ask true) s2) (comS (j2.ask true) s2) (comOps (j2.ask true) s2) :=
  commit_open opn2 true (by rw [j2_is.2.2.2.2.2.1]; omega) (by have := s2_load; omega) (by rw [c2]; exact Nat.zero_le _)
def j3 : Jr := comJ (j2.ask true) s2
def s3 : Sto := comS (j2.ask true) s2
set_option maxRecDepth 100000 in
theorem clean2 : bareClean (j2.ask true) s2 = true := by
  unfold bareClean
  have h1 : (j2.ask true).clean = true := by show (j2.clean || true) = true; simp
  have h2 : (j2.ask true).used = 3 := j2_is.2.2.1
  rw [h1, h2]
  rfl
set_option maxRecDepth 100000 in
theorem is2 : comOps (j2.ask true) s2 = tg ((j2.ask true).commits + 1) (ckOps (j2.ask true) s2.release) ∧ j3 = (ckJ { j2.ask true with commits := (j2.ask true).commits + 1 }).fin ∧ s3 = ckS (j2.ask true) s2.release := com_bare c2 clean2
set_option maxRecDepth 100000 in
theorem len2 : (comOps (j2.ask true) s2).length = 4 := by
  rw [is2.1, tg_len, ck_len]
  show (numsOf s2.wai s2.N).length + 3 = 4
  rw [s2_nums]
  rfl
set_option maxRecDepth 100000 in
theorem j3_is : j3.seq = 8 ∧ j3.tail = 3 ∧ j3.used = 0 ∧ j3.wanted = false ∧ j3.handles = 2 := by
  have h := j2_is
  rw [is2.2.1]
  refine ⟨h.1, ?_, rfl, rfl, h.2.2.2.2.2.1⟩
  show (j2.tail + j2.used) % j2.ring = 3
  rw [h.2.1, h.2.2.1, h.2.2.2.2.2.2]
set_option maxRecDepth 100000 in
theorem s3_d : s3.d.N = 9 := by
  have h := run2.1.disk
  show (comS (j2.ask true) s2).d.N = 9
  have hl : s2.load + 30000 ≤ 1073741824 := by have := s2_load; omega
  rw [h, doOps_N, s2_d]
  have hf := com_fine (open_rest opn2 true (by rw [j2_is.2.2.2.2.2.1]; omega) hl) hl (by rw [c2]; show needN 0 0 ≤ j2.ring; rw [j2_is.2.2.2.2.2.2]; decide)
  rcases hf with e | e
  · have := len2
    rw [e] at this
    cases this
  · rw [cnt_all (fine_noNop e), len2]
end Go.Proofs.YtmlgchmladkfpaaGreatDoor.NAwM
/- What stands in blocks outside the journal, through Steps of a commit: bytes of one kind, and what is cached is what the disk says. Plain mathematics. -/
namespace Go.Proofs.YtmlgchmladkfpaaGreatDoor.NHomeM
open DPlain EPlain JPlain JNeed JNeed2 JLayM NPlain NFlush NNext NBegin NStep NLay3 NRuns NOpen

theorem readAt_write (d : St) (k : Nat) (l : Bk) (n : Nat) : (d.write k l).readAt n = if k = n then l else d.readAt n := by
  unfold St.readAt St.write
  simp only [lastOf_snoc]
  split <;> rfl
theorem readAt_flush (d : St) (n : Nat) (hn : n < d.L.length) : d.flush.readAt n = d.readAt n := by
  show (lastOf [] n).getD ((doneTo (fun _ => true) d.L d.P d.P.length).getD n []) = _
  rw [doneTo_all d.L d.P n hn d.P.length (Nat.le_refl _), List.take_length]
  rfl
/-- bytes of one kind, at most y -/
def Flat (y : Nat) (l : Bk) : Prop := ∃ x : Nat, x ≤ y ∧ l = full (octet (x : Int))
theorem Flat.up {y y' : Nat} {l : Bk} (h : Flat y l) (hy : y ≤ y') : Flat y' l := by
  obtain ⟨x, h1, h2⟩ := h
  exact ⟨x, by omega, h2⟩
structure HI (y : Nat) (j : Jr) (s : Sto) : Prop where
  ring : j.ring = 95
  N : s.N = 300
  disk : ∀ n, 98 ≤ n → n < 300 → Flat y (s.d.readAt n)
  wai : ∀ n l, s.wai n = some l → Flat y l
  chg : ∀ n l, s.now.chg n = some l → Flat y l
  coh : ∀ n, 98 ≤ n → n < 300 → n ∈ s.sh n → s.mem n = s.d.readAt n
section
variable {y : Nat} {j j' : Jr} {s s' : Sto}
theorem HI.up {y' : Nat} (h : HI y j s) (hy : y ≤ y') : HI y' j s := ⟨h.ring, h.N, fun n a b => (h.disk n a b).up hy, fun n l e => (h.wai n l e).up hy, fun n l e => (h.chg n l e).up hy, h.coh⟩
theorem HI.jr (h : HI y j s) (hr : j'.ring = j.ring) : HI y j' s := ⟨hr.trans h.ring, h.N, h.disk, h.wai, h.chg, h.coh⟩
theorem sh_use (s : Sto) (n m : Nat) (h : m ∈ (s.use n).sh m) : m = n ∨ m ∈ s.sh m := by
  unfold Sto.sh Sto.use at h
  simp only [List.length_set] at h
  by_cases e : n % s.cch.length = m % s.cch.length
  · rw [e] at h
    rw [List.getD_eq_getElem?_getD] at h
    by_cases hl : m % s.cch.length < s.cch.length
    · rw [List.getElem?_set_self hl] at h
      simp only [Option.getD_some] at h
      rcases mem_putC h with h1 | h1
      · exact .inl h1
      · have e2 : s.sh n = s.sh m := by unfold Sto.sh; rw [e]
        rw [← e2]
        exact .inr h1
    · rw [List.getElem?_eq_none (by rw [List.length_set]; omega)] at h
      cases h
  · rw [List.getD_eq_getElem?_getD, List.getElem?_set_ne e] at h
    exact .inr (by unfold Sto.sh; rw [List.getD_eq_getElem?_getD]; exact h)
theorem sh_lose (s : Sto) (n m : Nat) (h : m ∈ (s.lose n).sh m) : m ∈ s.sh m := by
  unfold Sto.sh Sto.lose at h
  simp only [List.length_set] at h
  by_cases e : n % s.cch.length = m % s.cch.length
  · rw [e] at h
    rw [List.getD_eq_getElem?_getD] at h
    by_cases hl : m % s.cch.length < s.cch.length
    · rw [List.getElem?_set_self hl] at h
      simp only [Option.getD_some] at h
      have e2 : s.sh n = s.sh m := by unfold Sto.sh; rw [e]
      rw [← e2]
      exact (mem_dropC.1 h).1
    · rw [List.getElem?_eq_none (by rw [List.length_set]; omega)] at h
      cases h
  · rw [List.getD_eq_getElem?_getD, List.getElem?_set_ne e] at h
    unfold Sto.sh
    rw [List.getD_eq_getElem?_getD]
    exact h
/-- the store has turned in nothing that is asked here -/
structure Like (s s' : Sto) : Prop where
  d : s'.d = s.d
  wai : s'.wai = s.wai
  chg : s'.now.chg = s.now.chg
  cch : s'.cch = s.cch
  mem : s'.mem = s.mem
theorem Like.refl (s : Sto) : Like s s := ⟨rfl, rfl, rfl, rfl, rfl⟩
theorem Like.trans {s'' : Sto} (h : Like s s') (h' : Like s' s'') : Like s s'' := ⟨h'.d.trans h.d, h'.wai.trans h.wai, h'.chg.trans h.chg, h'.cch.trans h.cch, h'.mem.trans h.mem⟩
theorem Like.release (s : Sto) : Like s s.release := ⟨rfl, rfl, rfl, rfl, rfl⟩
theorem end_like (j : Jr) (s : Sto) : Like s (endPart j s).2 ∧ (endPart j s).1.ring = j.ring := by
  unfold endPart
  simp only
  split <;> exact ⟨Like.release s, rfl⟩
theorem come_like (j : Jr) (s : Sto) (c : Come) : Like s (come j s c).2 := by
  cases c with
  | empty => exact Like.refl s
  | fin => exact Like.refl s
  | part => exact (end_like j s).1
  | laid k bs => exact Like.refl s
theorem comes_like : ∀ (l : List Come) (j : Jr) (s : Sto), Like s (comes j s l).2
  | [], _, s => Like.refl s
  | c :: r, j, s => (come_like j s c).trans (comes_like r _ _)
theorem HI.like (h : HI y j s) (hl : Like s s') (hr : j'.ring = j.ring) : HI y j' s' := by
  have hN : s'.N = s.N := by unfold Sto.N; rw [hl.d]
  refine ⟨hr.trans h.ring, hN.trans h.N, fun n a b => by rw [hl.d]; exact h.disk n a b, fun n l e => h.wai n l (by rw [← hl.wai]; exact e), fun n l e => h.chg n l (by rw [← hl.chg]; exact e), fun n a b hm => ?_⟩
  rw [hl.d, hl.mem]
  refine h.coh n a b ?_
  unfold Sto.sh at *
  rw [hl.cch] at hm
  exact hm
theorem HI.flush (h : HI y j s) : HI y j (dflush s) := by
  have hL : s.d.L.length = 300 := h.N
  exact ⟨h.ring, (flush_len _).trans h.N, fun n a b => by show Flat y (s.d.flush.readAt n); rw [readAt_flush s.d n (by omega)]; exact h.disk n a b, h.wai, h.chg, fun n a b hm => by show s.mem n = s.d.flush.readAt n; rw [readAt_flush s.d n (by omega)]; exact h.coh n a b hm⟩
theorem HI.low (h : HI y j s) {k : Nat} (hk : k < 98) (l : Bk) : HI y j (dwrite s k l) :=
  ⟨h.ring, h.N, fun n a b => by show Flat y ((s.d.write k l).readAt n); rw [readAt_write, if_neg (by omega)]; exact h.disk n a b, h.wai, h.chg, fun n a b hm => by show s.mem n = (s.d.write k l).readAt n; rw [readAt_write, if_neg (by omega)]; exact h.coh n a b hm⟩
theorem HI.home (h : HI y j s) {n : Nat} {l : Bk} (hl : s.wai n = some l) : HI y j (s.home n l) := by
  have hf := h.wai n l hl
  refine ⟨h.ring, (EAny.home_N s l n).trans h.N, fun m a b => ?_, fun m b e => ?_, fun m b e => ?_, fun m a b hm => ?_⟩
  · rw [home_d, readAt_write]
    split
    · exact hf
    · exact h.disk m a b
  · rw [home_wai] at e
    split at e
    · cases e
    · exact h.wai m b e
  · rw [home_now] at e
    exact h.chg m b e
  · rw [home_d, readAt_write]
    have hmem : (s.home n l).mem m = if m = n then l else s.mem m := by unfold Sto.home; split <;> rfl
    rw [hmem]
    by_cases e : m = n
    · subst e
      rw [if_pos rfl, if_pos rfl]
    · rw [if_neg e, if_neg (fun e2 => e e2.symm)]
      refine h.coh m a b ?_
      unfold Sto.home at hm
      split at hm
      · exact hm
      · rcases sh_use _ n m hm with h1 | h1
        · exact absurd h1 e
        · exact h1
theorem HI.next (h : HI y j s) (hok : NextOk j s) : HI y (next j s).1 (next j s).2 := by
  rcases hok with hl | ⟨t, r, hl, h1, h2, h3, h4, h5⟩
  · unfold NPlain.next
    rw [hl]
    exact h
  · have e : NPlain.next j s = run { j with left := r } s t := by unfold NPlain.next; rw [hl]
    rw [e]
    have hr : ∀ p, 3 + p % j.ring < 98 := fun p => by
      have := Nat.mod_lt p (show 0 < j.ring by rw [h.ring]; decide)
      have := h.ring
      omega
    cases t with
    | home n =>
      obtain ⟨l, hl2⟩ := h4
      have e2 : run { j with left := r } s (.home n) = ({ j with left := r }, s.home n l) := by
        unfold run
        simp only [hl2, Option.getD_some]
      rw [e2]
      exact (h.home hl2).jr rfl
    | put p l => exact (h.low (hr p) l).jr rfl
    | head => exact (h.low (show 2 < 98 by decide) _).jr rfl
    | flush cs => exact HI.like h.flush (comes_like cs _ _) (comes_ring cs _ _)
theorem HI.begin (h : HI y j s) : HI y (begin_ j s).2.1 (begin_ j s).2.2 := by
  unfold begin_
  simp only
  split
  · exact h.like (end_like j s).1 (end_like j s).2
  split
  · exact (h.jr (j' := j.fin) rfl : HI y j.fin s)
  split
  · exact (h.jr (j' := { j with left := checkpoint s [] }) rfl : HI y { j with left := checkpoint s [] } s)
  show HI y (layAll j s (revoked j s)).1 s.commit
  generalize hq : (layAll j s (revoked j s)).1 = jq
  have hrq : jq.ring = j.ring := by rw [← hq]; rfl
  refine ⟨hrq.trans h.ring, h.N, h.disk, fun n l e => ?_, fun n l e => (by cases e), h.coh⟩
  · have e2 : (match s.now.chg n with | some l => some l | none => s.wai n) = some l := e
    cases hc : s.now.chg n with
    | some b =>
      rw [hc] at e2
      injection e2 with e2
      subst e2
      exact h.chg n b hc
    | none =>
      rw [hc] at e2
      exact h.wai n l e2
theorem HI.step (h : HI y j s) (hok : StepOk j s) {s1 : Sto} {j1 : Jr} (he : NPlain.step j s = (0, j1, s1)) : HI y j1 s1 := by
  unfold NPlain.step at he
  rw [if_pos hok.may] at he
  rcases hok.next with ⟨hl, hn⟩ | ⟨hl, g1, g2, g3, g4, g5, g6, g7, g8⟩
  · obtain ⟨t, r, hl2⟩ := List.exists_cons_of_ne_nil hl
    rw [hl2] at he
    have h2 := h.next hn
    have e := (Prod.mk.inj he).2
    rw [e] at h2
    exact h2
  · rw [hl] at he
    simp only [g7, if_true] at he
    have h2 := h.begin.next g8
    have e := (Prod.mk.inj he).2
    rw [e] at h2
    exact h2
theorem HI.runs {l : List Stp} {jz : Jr} {sz : Sto} (h : HI y j s) (hr : Runs j s l jz sz) : HI y jz sz := by
  induction hr with
  | nil => exact h
  | cons a b c c2 _ ih => exact ih (h.step a b)
theorem HI.write (h : HI y j s) (k : Nat) {l : Bk} (hl : Flat y l) : HI y j (s.write k l) := by
  refine ⟨h.ring, h.N, h.disk, h.wai, fun n b e => ?_, fun n a b hm => h.coh n a b (sh_lose s k n hm)⟩
  have e2 : (if n = k then some l else s.now.chg n) = some b := e
  split at e2
  · injection e2 with e2
    subst e2
    exact hl
  · exact h.chg n b e2
theorem HI.read (h : HI y j s) (k : Nat) : HI y j (s.read k) := by
  have hd : (s.read k).d = s.d := by unfold Sto.read; split; rfl; split <;> rfl
  have hw : (s.read k).wai = s.wai := by unfold Sto.read; split; rfl; split <;> rfl
  have hn : (s.read k).now = s.now := by unfold Sto.read; split; rfl; split <;> rfl
  refine ⟨h.ring, by unfold Sto.N; rw [hd]; exact h.N, fun n a b => by rw [hd]; exact h.disk n a b, fun n l e => h.wai n l (by rw [← hw]; exact e), fun n l e => h.chg n l (by rw [← hn]; exact e), fun n a b hm => ?_⟩
  rw [hd]
  unfold Sto.read at hm ⊢
  split at hm
  · rename_i hi
    rw [if_pos hi]
    exact h.coh n a b hm
  · rename_i hi
    rw [if_neg hi]
    split at hm
    · rename_i hk
      rw [if_pos hk]
      rcases sh_use s k n hm with e | e
      · subst e
        exact h.coh n a b hk
      · exact h.coh n a b e
    · rename_i hk
      rw [if_neg hk]
      show (if n = k then s.d.readAt k else s.mem n) = _
      rcases sh_use s k n hm with e | e
      · subst e
        rw [if_pos rfl]
      · by_cases e2 : n = k
        · subst e2
          rw [if_pos rfl]
        · rw [if_neg e2]
          exact h.coh n a b e
theorem doOps_append (d : St) (l m : List Stp) : doOps d (l ++ m) = doOps (doOps d l) m := by simp [doOps]
theorem ck_P (c : Nat) (j : Jr) (s : Sto) (d : St) : (doOps d (tg c (ckOps j s))).P = [] := by
  unfold ckOps
  rw [tg_append, doOps_append]
  rfl
theorem lay_P (j : Jr) (s : Sto) (d : St) : (doOps d (layOps j s)).P = [] := by
  unfold layOps
  rw [doOps_append]
  rfl
theorem com_P (j : Jr) (s : Sto) (d : St) (hd : d.P = []) : (doOps d (comOps j s)).P = [] := by
  unfold comOps
  split
  · split
    · exact ck_P _ _ _ _
    · exact hd
  · rw [doOps_append, doOps_append]
    unfold postOps
    split
    · exact ck_P _ _ _ _
    · have e : ∀ x : St, doOps x [] = x := fun _ => rfl
      rw [e]
      exact lay_P (preJ j s) (preS j s) (doOps d (preOps j s))
theorem com_clean (h : NRuns.Rest j s) (hl : s.load + 30000 ≤ 1073741824) (hn : needN (numsOf s.now.chg s.N).length 0 ≤ j.ring) (hcl : j.clean = true) (n : Nat) : (comS j s).wai n = none := by
  by_cases hc : (numsOf s.now.chg s.N).length = 0
  · by_cases hb : bareClean j s = true
    · have e := (com_bare hc hb).2.2
      rw [e]
      exact ckS_wai j h.wf.release n
    · have e : comS j s = s.release := by
        unfold comS
        rw [if_pos hc, if_neg hb]
      rw [e]
      unfold bareClean at hb
      rw [hcl] at hb
      simp only [Bool.true_and, Bool.or_eq_true, decide_eq_true_eq, not_or, Nat.not_lt, Nat.le_zero_eq] at hb
      show s.wai n = none
      cases hw : s.wai n with
      | none => rfl
      | some l =>
        have hm : n ∈ numsOf s.wai s.N := mem_nums.2 ⟨(h.wf.wai n l hw).1, by rw [hw]; rfl⟩
        rw [List.eq_nil_of_length_eq_zero hb.2] at hm
        cases hm
  · obtain ⟨h1, h2, h3, h4, h5, h6⟩ := pre_go h hl (by omega) hn
    have hwf := laidS_wf (preJ j s) h2.wf
    unfold comS
    rw [if_neg hc, if_pos hcl]
    generalize laidS (preJ j s) (preS j s) = sq at *
    generalize laidJ (preJ j s) (preS j s) = jq
    exact ckS_wai jq hwf n
theorem nums_write (s : Sto) (k : Nat) (l : Bk) : (numsOf (s.write k l).now.chg (s.write k l).N).length ≤ (numsOf s.now.chg s.N).length + 1 := by
  have e : (s.write k l).N = s.N := rfl
  rw [e]
  unfold numsOf
  have h := filter_or (fun n => (s.now.chg n).isSome) (fun n => decide (n = k)) (fun n => ((s.write k l).now.chg n).isSome) (fun n hn => by
    have e2 : (s.write k l).now.chg n = if n = k then some l else s.now.chg n := rfl
    rw [e2] at hn
    by_cases h1 : n = k
    · exact .inr (decide_eq_true h1)
    · rw [if_neg h1] at hn
      exact .inl hn) (List.range s.N)
  have h2 : ((List.range s.N).filter fun n => decide (n = k)).length ≤ 1 := by
    have hnd : ((List.range s.N).filter fun n => decide (n = k)).Nodup := List.Nodup.sublist List.filter_sublist List.nodup_range
    have hall : ∀ x ∈ (List.range s.N).filter fun n => decide (n = k), x = k := fun x hx => of_decide_eq_true (List.mem_filter.1 hx).2
    generalize (List.range s.N).filter (fun n => decide (n = k)) = m at *
    match m, hnd, hall with
    | [], _, _ => exact Nat.zero_le _
    | [_], _, _ => exact Nat.le_refl _
    | a :: b :: r, hnd, hall =>
      have h1 := hall a (by simp)
      have h2 := hall b (by simp)
      have := (List.nodup_cons.1 hnd).1
      rw [h1, h2] at this
      simp at this
  omega
end
end Go.Proofs.YtmlgchmladkfpaaGreatDoor.NHomeM
