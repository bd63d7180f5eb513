/- What is left to do, done: behindUsed, empty, end, writeHead, and the closures of home and write. -/
import Derived.Test.YtmlgchmladkfpaaGreatDoorMg33
import Derived.Test.YtmlgchmladkfpaaGreatDoorMg14
import Derived.Test.YtmlgchmladkfpaaGreatDoorMg35
import Derived.StillTailTactics
import Derived.Deep.RegionHeld3
namespace Go.Proofs.YtmlgchmladkfpaaGreatDoor.NRun
open Go.RowKit WMem WPlain WAppend Ext Map DPlain DMem EPlain EMem EFace JPlain NPlain NMem NFace NCred NMake NCheck

section
variable {w w' : World} {ρ : Ro} {D D' : Nat → Prop} {b db : Nat} {s : Sto} {d' : St}
theorem SS_disk (h : SS w ρ b db s) (hl : d'.L.length = s.d.L.length) : SS w ρ b db { s with d := d' } := by
  obtain ⟨m1, m2, m3, g, Uv, us, hx, hw⟩ := h
  have e : ({ s with d := d' } : Sto).N = s.N := hl
  refine ⟨m1, m2, m3, g, Uv, us, ⟨hx.block, hx.rb, by rw [e]; exact hx.chg, by rw [e]; exact hx.wai, by rw [e]; exact hx.hld, by rw [e]; exact hx.cac, hx.undo, hx.acts, hx.there⟩, ?_⟩
  exact ⟨fun n l hc => by rw [e]; exact hw.chg n l hc, fun n l hc => by rw [e]; exact hw.wai n l hc, fun n hc => by rw [e]; exact hw.hld n hc, fun a ha => by rw [e]; exact hw.fine a ha, hw.ok, hw.sh1, hw.sh2, hw.room1, hw.room2, fun i hi => by rw [e]; exact hw.each i hi, by rw [e]; exact hw.pos, by rw [e]; exact hw.most⟩
theorem disk_goes (h : EFace.Own w ρ D b db s) (hd : DD w' D' db d') (he : Ext D w w') (hi : In D' D w) (hl : d'.L.length = s.d.L.length) : Goes w w' ρ D ρ D' b db { s with d := d' } := by
  refine ⟨⟨SS_disk (h.ss.ext he (fun q h1 h2 => h.far q h2 h1)) hl, hd, fun q h1 h2 => ?_⟩, he.more (fun q _ hq => .inr hq), fun q hq => ?_⟩
  · rcases hi q h2 with h3 | h3
    · exact h.far q h1 h3
    · have := h.ss.there q h1; omega
  · rcases hq with hq | hq
    · exact .inl (.inl hq)
    · rcases hi q hq with h3 | h3
      · exact .inl (.inr h3)
      · exact .inr h3
end
theorem behind_at (jb t u r : Nat) (w : World) (c2 : w.cell? ⟨jb, 2, none⟩ = some (.int .i64 (r : Int))) (c4 : w.cell? ⟨jb, 4, none⟩ = some (.int .i64 (t : Int))) (c5 : w.cell? ⟨jb, 5, none⟩ = some (.int .i64 (u : Int))) (hr : 1 ≤ r) (hr2 : r ≤ 4096) (ht : t ≤ 4096) (hu : u ≤ 100000) :
    Calls Tryz.prog 143 #[.pointer (some ⟨jb, 0, none⟩)] w fun e w' => e = .returned (.int .i64 ((t + u) % r : Nat)) ∧ ∃ n, w' = w.drewN n := by
  have s1 : IntKind.i64.wrap ((t : Int) + (u : Int)) = (t : Int) + (u : Int) := by rw [IntWalk.i64_in _ (by omega)]
  have s2 : ((t : Int) + (u : Int)).tmod (r : Int) = (((t + u) % r : Nat) : Int) := by rw [Int.tmod_eq_emod_of_nonneg (by omega)]; simp
  have hr0 : ((r : Int) == 0) = false := by simp; omega
  have hlt : (t + u) % r < 4096 := by have := Nat.mod_lt (t + u) (show 0 < r by omega); omega
  generalize (t + u) % r = q at *
  have hwq : IntKind.i64.wrap (q : Int) = (q : Int) := by rw [IntWalk.i64_in _ (by omega)]
  go_enter Tryz.func143, Tryz.ntmps143
  go_wp2_with fail
  go_quiet (fail)
  go_wp2
  go_ret
  exact ⟨rfl, nq, rfl⟩
section
variable {w : World} {K : Nat → Prop} {ρ : Ro} {D : Nat → Prop} {jb ml mc b db : Nat} {j : Jr} {s : Sto} (h : JO w ρ D K jb ml mc b db j s)
include h
theorem behind_own (hr : 6 ≤ j.ring) (hr2 : j.ring ≤ 4096) (ht : j.tail ≤ 4096) (hu : j.used ≤ 100000) : Calls Tryz.prog 143 #[.pointer (some ⟨jb, 0, none⟩)] w fun e w' => e = .returned (.int .i64 (j.behind : Nat)) ∧ ∃ n, w' = w.drewN n := by
  obtain ⟨A, c, hx, _⟩ := h.jx
  obtain ⟨c0, c1, c2, c3, c4, c5, _⟩ := hx.cells
  exact behind_at jb _ _ _ w c2 c4 c5 (by omega) hr2 ht hu
theorem End_own : Calls Tryz.prog 86 #[.pointer (some ⟨jb, 0, none⟩)] w fun e w' => e = .returned (.tuple #[]) ∧ JGo w w' ρ D K ρ D K jb ml mc b db j.fin s := by
  obtain ⟨A, c, hx, ht, hc⟩ := h.jx
  obtain ⟨c0, c1, c2, c3, c4, c5, c6, c7, c8, c9, c10, c11, c12⟩ := hx.cells
  have f10 := hx.free 10
  have f11 := hx.free 11
  have t1 := hx.turn (i := 10) (u := .bool false) (j' := { j with wanted := false }) (v' := .slice A j.left.length c) rfl rfl rfl rfl
  have t2 := t1.turn (i := 11) (u := .bool false) (j' := j.fin) (v' := .slice A j.left.length c) rfl rfl rfl rfl
  have he := ext_cell (ext_cell (Ext.refl (fun x => x = jb) w) 10 (.bool false)) 11 (.bool false)
  have HG := Lib.hid (JO.turned (j' := j.fin) h he (fun x hq => .inl hq) t2 (Things.own3 ht hx.there hx.nk he (fun x hq => .inl hq)) hc)
  clear hx ht hc h t1 t2 he c0 c1 c2 c3 c4 c5 c6 c7 c8 c9 c12
  go_enter Tryz.func86, Tryz.ntmps86
  go_wp2
  go_end0
  exact ⟨rfl, HG.out⟩
theorem Empty_own (hr : 6 ≤ j.ring) (hr2 : j.ring ≤ 4096) (htl : j.tail ≤ 4096) (hu : j.used ≤ 100000) : Calls Tryz.prog 114 #[.pointer (some ⟨jb, 0, none⟩)] w fun e w' => e = .returned (.tuple #[]) ∧ JGo w w' ρ D K ρ D K jb ml mc b db j.emptied s := by
  have HB := Lib.hid (behind_own h hr hr2 htl hu)
  have HO := Lib.hid h
  go_enter Tryz.func114, Tryz.ntmps114
  go_wp2_with fail
  refine HB.out.mono ?_
  rintro e w1 ⟨rfl, n, rfl⟩
  have HO1 := Lib.hid (HO.out.drewN n)
  obtain ⟨A, c, hx, ht, hc⟩ := HO1.out.jx
  obtain ⟨c0, c1, c2, c3, c4, c5, c6, c7, c8, c9, c10, c11, c12⟩ := hx.cells
  have f4 := hx.free 4
  have f5 := hx.free 5
  obtain ⟨n1, n2⟩ := hx.ne1
  have HRF := Lib.hid (JGo.refl HO1.out)
  have HGD := Lib.hid ((JGo.refl HO.out).drewN n)
  generalize hbh : j.behind = bh at *
  have hxb := hx.block
  generalize w.drewN n = W at *
  obtain ⟨g, q1, q2, q3⟩ := id hx.live
  have hm2 : MapIs ((W.setCell ⟨jb, 4, none⟩ (.int .i64 (bh : Nat))).setCell ⟨jb, 5, none⟩ (.int .i64 0)) ml s.N g := (q1.keep (w' := W.setCell ⟨jb, 4, none⟩ (.int .i64 (bh : Nat))) (Below.heap_setCell W _ _ ml (Ne.symm n1))).keep (Below.heap_setCell _ _ _ ml (Ne.symm n1))
  obtain ⟨w3, hrun, hm3, ht3⟩ := hm2.wipe underH 0
  have t1 := hx.turn (i := 4) (u := .int .i64 (bh : Nat)) (j' := { j with tail := bh }) (v' := .slice A j.left.length c) rfl rfl rfl rfl
  have t2 := t1.turn (i := 5) (u := .int .i64 0) (j' := { j with tail := bh, used := 0 }) (v' := .slice A j.left.length c) rfl rfl rfl rfl
  have he0 := ext_cell (ext_cell (Ext.refl (fun x => x = jb) W) 4 (.int .i64 (bh : Nat))) 5 (.int .i64 0)
  have he : Ext (fun x => x = jb ∨ x = ml) W w3 := (he0.more (fun _ _ h => .inl h)).trans (ext_map ht3 (.inr rfl)) (fun _ h => .inl h)
  have hk : ∀ q, q ≠ ml → w3.heap[q]? = ((W.setCell ⟨jb, 4, none⟩ (.int .i64 (bh : Nat))).setCell ⟨jb, 5, none⟩ (.int .i64 0)).heap[q]? := fun q hq => turned_far ht3 hq
  have hj' : j.emptied = { j with tail := bh, used := 0, live := fun _ => false } := by unfold Jr.emptied; rw [hbh]
  have hx3 : JX w3 K jb ml mc b db s.N j.emptied (.slice A j.left.length c) := by
    rw [hj']
    exact ⟨(hk jb n1).trans t2.block, ⟨_, hm3.mono (Nat.zero_le _), fun k v hv => (by cases hv), fun _ _ => rfl⟩, t2.cred.keep (hk mc (Ne.symm hx.ne)), hx.nk, hx.ne, hx.there.up he.size⟩
  have hel : j.emptied.left = j.left := rfl
  have HG := Lib.hid (HGD.out.trans (JO.turned (j' := j.emptied) HO1.out he (fun x hq => by rcases hq with e | e; exact .inl e; exact .inr (.inl e)) hx3 (Things.own3 ht hx.there hx.nk he (fun x hq => by rcases hq with e | e; exact .inl e; exact .inr (.inl e))) hc))
  have k6 : ((W.setCell ⟨jb, 4, none⟩ (.int .i64 (bh : Nat))).setCell ⟨jb, 5, none⟩ (.int .i64 0)).cell? ⟨jb, 6, none⟩ = some (.map (some ml)) := t2.cells.2.2.2.2.2.2.1
  clear hx ht hc h t1 t2 he he0 hk hj' hx3 q1 q2 q3 hm2 hm3 ht3 hxb HGD HRF HO1 HO HB
  go_wp2
  go_end0
  exact ⟨rfl, HG.out⟩
end
end Go.Proofs.YtmlgchmladkfpaaGreatDoor.NRun
/- The closures that are left: home$1, write$1, writeHead. -/
namespace Go.Proofs.YtmlgchmladkfpaaGreatDoor.NClose
open Go.RowKit WMem WPlain WAppend Ext Map DPlain DMem EPlain EMem EFace JPlain NPlain NMem NFace NCred NMake NCheck NRun

theorem home_N (s : Sto) (n : Nat) (l : Bk) : (s.home n l).N = s.N := EAny.home_N s l n
section
variable {w : World} {K : Nat → Prop} {ρ : Ro} {D : Nat → Prop} {jb ml mc b db : Nat} {j : Jr} {s : Sto} (h : JO w ρ D K jb ml mc b db j s)
include h
theorem c0_own : w.cell? ⟨jb, 0, none⟩ = some (.pointer (some ⟨b, 0, none⟩)) := by
  obtain ⟨A, c, hx, _⟩ := h.jx
  exact hx.cells.1
theorem c1_own : w.cell? ⟨jb, 1, none⟩ = some (.pointer (some ⟨db, 0, none⟩)) := by
  obtain ⟨A, c, hx, _⟩ := h.jx
  exact hx.cells.2.1
set_option maxRecDepth 100000 in
theorem Home1_own (Bj Bn n : Nat) (l : Bk) (h1 : KBox w K Bj (.pointer (some ⟨jb, 0, none⟩))) (h2 : KBox w K Bn (.int .i64 (n : Int))) (hl : s.wai n = some l) (hload : s.load ≤ 1073741824) :
    Calls Tryz.prog 140 #[.pointer (some ⟨Bj, 0, none⟩), .pointer (some ⟨Bn, 0, none⟩)] w fun e w' => e = .returned (.int .i64 0) ∧ ∃ ρ' D', JGo w w' ρ D K ρ' D' K jb ml mc b db j (s.home n l) := by
  have c0 := c0_own h
  have b1 := h1.2
  have b2 := h2.2
  have HH := Lib.hid (EHome.Home_ok (h.drewN 1).own hl hload)
  have HO := Lib.hid h
  clear h h1 h2
  go_enter Tryz.func140, Tryz.ntmps140
  go_wp2_with fail
  go_still_tail 5, (by kernel_rfl)
  go_wp2_with fail
  refine HH.out.mono ?_
  rintro e w2 ⟨rfl, ρ', D', hg⟩
  have HG := Lib.hid (((JGo.refl HO.out).drewN 1).trans ((HO.out.drewN 1).goes hg (home_N s n l)))
  clear hg
  go_wp2
  go_ret
  exact ⟨rfl, ρ', D', HG.out⟩
set_option maxRecDepth 100000 in
theorem Write1_own (Bj Bp Bb p : Nat) (u : Value) (l : Bk) (h1 : KBox w K Bj (.pointer (some ⟨jb, 0, none⟩))) (h2 : KBox w K Bp (.int .i64 (p : Int))) (h3 : KBox w K Bb u) (hu : IsBlk w K u l) (hr : 6 ≤ j.ring) (hr2 : j.ring ≤ 4096) (hp : p ≤ 200000) (hN : j.ring + 3 ≤ s.N) (hload : s.load ≤ 1073741824) :
    Calls Tryz.prog 151 #[.pointer (some ⟨Bj, 0, none⟩), .pointer (some ⟨Bp, 0, none⟩), .pointer (some ⟨Bb, 0, none⟩)] w fun e w' => e = .returned (.int .i64 0) ∧ ∃ D', JGo w w' ρ D K ρ D' K jb ml mc b db j (dwrite s (3 + p % j.ring) l) := by
  have c1 := c1_own h
  obtain ⟨A, c, hx, _⟩ := h.jx
  have c2 := hx.cells.2.2.1
  have b1 := h1.2
  have b2 := h2.2
  have b3 := h3.2
  obtain ⟨gu, cu, ru, rfl, hgu, hl, hcu, hrow⟩ := id hu
  have hlt : p % j.ring < j.ring := Nat.mod_lt _ (by omega)
  have hdN : s.d.N ≤ 1073741824 := by unfold Sto.load at hload; omega
  have HW := Lib.hid (DWrite.Write_ok D db (3 + p % j.ring) s.d l w.heap.size (some ⟨gu, 0, none⟩) cu (w.drewN 1) (h.drewN 1).own.dd (Row.sl hrow (row_lt hrow)) (Nat.le_refl _) (show 3 + p % j.ring < s.N by omega) hl hdN)
  have e2 : (p : Int).tmod (j.ring : Int) = ((p % j.ring : Nat) : Int) := by rw [Int.tmod_eq_emod_of_nonneg (by omega)]; rfl
  have hr0 : ((j.ring : Int) == 0) = false := by simp; omega
  have hrz : ¬ ((j.ring : Int) = 0) := by omega
  have hrz2 : ¬ (j.ring = 0) := by omega
  have HR : Hid (3 + p % j.ring = 3 + p % j.ring) := Lib.hid rfl
  have e6 : (p : Int) % (j.ring : Int) = ((p % j.ring : Nat) : Int) := by simp
  have hp0 : (0 : Int) ≤ (p : Int) := by omega
  generalize hq : p % j.ring = q at *
  have e3 : IntKind.i64.wrap (q : Int) = (q : Int) := by rw [IntWalk.i64_in _ (by omega)]
  have e4 : IntKind.i64.wrap (3 + (q : Int)) = ((3 + q : Nat) : Int) := by rw [IntWalk.i64_in _ (by omega)]; simp
  have e5 : ((3 + q : Nat) : Int) = 3 + (q : Int) := by simp
  rw [e5] at HW e4
  have HO := Lib.hid h
  clear h h1 h2 h3 hx hu hrow HR e5
  go_enter Tryz.func151, Tryz.ntmps151
  go_wp2_with fail
  go_still_tail 12, (by kernel_rfl)
  go_wp2_with fail
  refine HW.out.mono ?_
  rintro e w2 ⟨rfl, D', hd, he, hi⟩
  have HG := Lib.hid (((JGo.refl HO.out).drewN 1).trans ((HO.out.drewN 1).goes (disk_goes (HO.out.drewN 1).own hd he hi rfl) rfl))
  clear hd he hi
  go_wp2
  go_ret
  exact ⟨rfl, D', HG.out⟩
end
end Go.Proofs.YtmlgchmladkfpaaGreatDoor.NClose
/- writeHead. -/
namespace Go.Proofs.YtmlgchmladkfpaaGreatDoor.NHead
open Go.RowKit WMem WPlain WAppend WCrc Ext Map DPlain DMem EPlain EMem EFace JPlain JMem JPackFace NPlain NMem NFace NCred NMake NCheck NRun NClose

theorem headMay (j : Jr) (h1 : 1 ≤ j.seq) (h2 : j.seq ≤ 2147483647) (h3 : j.behind ≤ 511) : recMay j.headRec = true := by
  refine recMay_iff.2 ⟨?_, rfl, fun x hx => (by cases hx), ?_⟩
  · show decide (1 ≤ (j.seq : Int) ∧ (j.seq : Int) ≤ 2147483647) = true
    rw [decide_eq_true_eq]
    omega
  · show decide ((0 : Nat) = 0 ∧ 0 ≤ (j.behind : Int) ∧ (j.behind : Int) ≤ 511) = true
    rw [decide_eq_true_eq]
    omega
section
variable {w : World} {K : Nat → Prop} {ρ : Ro} {D : Nat → Prop} {jb ml mc b db : Nat} {j : Jr} {s : Sto} (h : JO w ρ D K jb ml mc b db j s)
include h
set_option maxRecDepth 100000 in
theorem Head_own (hT : Tab w) (hr : 6 ≤ j.ring) (hr2 : j.ring ≤ 512) (ht : j.tail ≤ 4096) (hu : j.used ≤ 100000) (hs1 : 1 ≤ j.seq) (hs2 : j.seq ≤ 2147483647) (hN : j.ring + 3 ≤ s.N) (hload : s.load ≤ 1073741824) :
    Calls Tryz.prog 113 #[.pointer (some ⟨jb, 0, none⟩)] w fun e w' => e = .returned (.int .i64 0) ∧ ∃ D', JGo w w' ρ D K ρ D' K jb ml mc b db j (dwrite s 2 (recBytes j.headRec)) := by
  have hbl : j.behind ≤ 511 := by have := Nat.mod_lt (j.tail + j.used) (show 0 < j.ring by omega); unfold Jr.behind; omega
  have HM := Lib.hid (headMay j hs1 hs2 hbl)
  have HLEN : Hid ((recBytes j.headRec).length = 256) := Lib.hid (recBytes_len (recMay_iff.1 HM.out).2.1)
  have hdN : s.d.N ≤ 1073741824 := by unfold Sto.load at hload; omega
  have HPK := Lib.hid (fun W (hTW : Tab W) => Pack_any j.headRec (show (0 : Nat) < 4294967296 by decide) 0 none 0 W (Nat.zero_le _) (Ents.nil _ _ _) (by simp [Jr.headRec]) hTW)
  have hrv : recV j.headRec none 0 = .agg #[.int .i64 4, .int .i64 (j.seq : Int), .slice none 0 0, .int .u32 0, .int .i64 (j.behind : Int)] := rfl
  rw [hrv] at HPK
  have HBH := Lib.hid (fun n => behind_own (h.drewN n) hr (by omega) ht hu)
  have HO := Lib.hid h
  have HT := Lib.hid hT
  have lj : jb < w.heap.size := by obtain ⟨A, c, hx, _⟩ := h.jx; exact hx.lt
  obtain ⟨A, c, hx, _⟩ := h.jx
  obtain ⟨c0, c1, c2, c3, c4, c5, _⟩ := hx.cells
  generalize hbh : j.behind = bh at *
  clear hx h hT hrv hbh c0 c2 c4 c5
  go_enter Tryz.func113, Tryz.ntmps113
  go_wp2_with fail
  go_region_held3 (fun w' => w'.cell? ⟨jb, 3, none⟩ = some (.int .i64 (j.seq : Int))) (first | exact HC3.out | (go_keep; done))
    ((first
      | (go_at_call 143; refine (HBH.out _).mono ?_; rintro e w2 ⟨rfl, n2, rfl⟩)
      | (go_at_call 99; refine (HPK.out (w.drewN (1 + n2)) (show Tab (w.drewN (1 + n2)) from HT.out)).mono ?_; rintro e w3 ⟨hyes, _, hb3⟩
         obtain ⟨g, rfl, hg, hrow⟩ := hyes HM.out
         have HC3 := Lib.hid ((hb3.cell (p := ⟨jb, 3, none⟩) lj).trans (show (w.drewN (1 + n2)).cell? ⟨jb, 3, none⟩ = _ from c3)))))
  have HO3 := Lib.hid ((HO.out.drewN (1 + n2)).below hb3)
  have HG3 := Lib.hid ((JGo.refl HO.out).drewN (1 + n2) |>.below hb3)
  have g1 := c1_own HO3.out
  have HW := Lib.hid (DWrite.Write_ok D db 2 s.d (recBytes j.headRec) w3.heap.size (some ⟨g, 0, none⟩) 256 w3 HO3.out.own.dd (Row.sl hrow (row_lt hrow)) (Nat.le_refl _) (show 2 < s.N by omega) HLEN.out hdN)
  clear hyes hb3 hg hrow
  go_wp2_with fail
  refine HW.out.mono ?_
  rintro e w4 ⟨rfl, D', hd, he, hi⟩
  have HG := Lib.hid (HG3.out.trans (HO3.out.goes (disk_goes HO3.out.own hd he hi rfl) rfl))
  clear hd he hi
  go_wp2
  go_ret
  exact ⟨rfl, D', HG.out⟩
end
end Go.Proofs.YtmlgchmladkfpaaGreatDoor.NHead
/- What comes with the last flush of a transaction. -/
namespace Go.Proofs.YtmlgchmladkfpaaGreatDoor.NLaid
open Go.RowKit WMem WPlain WAppend WCrc Ext Map DPlain DMem EPlain EMem EFace JPlain JMem NPlain NMem NFace NCred NMake NCheck NRun NClose

theorem live_put {w : World} {b N n : Nat} {h : Nat → Bool} (hx : MapL w b N h) (hn : n < N) (hN : N ≤ 4096) : ∃ w', (Instr.mapUpdate 98 (.map (some b)) (.int .i64 (n : Int)) (.agg #[])).run Tryz.prog w = .ok () w' ∧ MapL w' b N (fun j => h j || decide (j = n)) ∧ w.mapTurned w' b := by
  obtain ⟨gg, h2, h3, h4⟩ := hx
  obtain ⟨w', hrun, hm, ht⟩ := h2.put underH (fits_n (show n ≤ 4096 by omega)) (by unfold maxLen; omega) (.agg #[])
  refine ⟨w', hrun, ⟨upd gg n (.agg #[]), hm.cap (m := N) (fun k u hu => ?_), fun k u hu => ?_, fun j hj => ?_⟩, ht⟩
  · unfold upd at hu
    split at hu
    · omega
    · obtain ⟨_, j, e1, e2, _⟩ := h3 k u hu
      omega
  · unfold upd at hu
    split at hu
    · rename_i e
      injection hu with hu
      exact ⟨hu.symm, n, e, hn, by simp⟩
    · obtain ⟨e0, j, e1, e2, e3⟩ := h3 k u hu
      exact ⟨e0, j, e1, e2, by simp [e3]⟩
  · unfold upd at hj
    split at hj
    · cases hj
    · rename_i e
      have := h4 j hj
      have hne : j ≠ n := fun e' => e (by rw [e'])
      simp [this, hne]
/-- the journal while blocks are made live -/
def lit (j : Jr) (bs : List Nat) (k : Nat) : Jr := { j with live := fun n => j.live n || decide (n ∈ bs.take k) }
theorem lit_zero (j : Jr) (bs : List Nat) : lit j bs 0 = j := by
  unfold lit
  simp
theorem lit_all (j : Jr) (bs : List Nat) : lit j bs bs.length = { j with live := fun n => j.live n || decide (n ∈ bs) } := by
  unfold lit
  rw [List.take_length]
theorem lit_succ (j : Jr) (bs : List Nat) (k : Nat) (h : k < bs.length) : (fun n => (lit j bs k).live n || decide (n = bs[k])) = (lit j bs (k + 1)).live := by
  funext n
  have hm : n ∈ bs.take (k + 1) ↔ n ∈ bs.take k ∨ n = bs[k] := by
    rw [List.take_succ_eq_append_getElem h]
    simp only [List.mem_append, List.mem_singleton]
  show ((j.live n || decide (n ∈ bs.take k)) || decide (n = bs[k])) = (j.live n || decide (n ∈ bs.take (k + 1)))
  rw [Bool.or_assoc]
  congr 1
  rw [Bool.eq_iff_iff]
  simp only [Bool.or_eq_true, decide_eq_true_eq]
  exact hm.symm
section
variable {w : World} {K : Nat → Prop} {ρ : Ro} {D : Nat → Prop} {jb ml mc b db : Nat} {j : Jr} {s : Sto}
/-- a block is live -/
theorem live_turn {w2 : World} {j' : Jr} (h : JO w ρ D K jb ml mc b db j s) (hm : MapL w2 ml s.N j'.live) (ht : w.mapTurned w2 ml) (hj : j' = { j with live := j'.live }) : JGo w w2 ρ D K ρ D K jb ml mc b db j' s ∧ ∀ q, K q → w2.heap[q]? = w.heap[q]? := by
  obtain ⟨A, c, hx, hth, hc⟩ := h.jx
  obtain ⟨n1, n2⟩ := hx.ne1
  have he : Ext (fun x => x = ml) w w2 := ext_map ht rfl
  have hk : ∀ q, q ≠ ml → w2.heap[q]? = w.heap[q]? := fun q hq => turned_far ht hq
  have hx2 : JX w2 K jb ml mc b db s.N j' (.slice A j.left.length c) := by
    rw [hj]
    exact ⟨(hk jb n1).trans hx.block, hm, hx.cred.keep (hk mc (Ne.symm hx.ne)), hx.nk, hx.ne, hx.there.up he.size⟩
  have e1 : j'.left = j.left := by rw [hj]
  refine ⟨JO.turned (j' := j') h he (fun x hq => .inr (.inl hq)) (by rw [e1]; exact hx2) (by rw [e1]; exact Things.own3 hth hx.there hx.nk he (fun x hq => .inr (.inl hq))) (by rw [e1]; exact hc), fun q hq => hk q (fun e => hx.nk.2.1 (e ▸ hq))⟩
set_option maxRecDepth 100000 in
set_option maxHeartbeats 1000000 in
theorem Laid_own (h : JO w ρ D K jb ml mc b db j s) (Bj Bb Bw k n : Nat) (Ab : Option Addr) (cb : Nat) (Aw : Option Addr) (cw : Nat) (bs : List Nat) (hn : bs.length = n) (h1 : KBox w K Bj (.pointer (some ⟨jb, 0, none⟩))) (h2 : KBox w K Bb (.slice Ab k cb)) (h3 : KBox w K Bw (.slice Aw n cw))
    (hat : ∀ (i : Nat) (h : i < bs.length), ∃ a Au mu cu, Aw = some a ∧ K a.block ∧ w.cell? (a.add (i * 2)) = some (.int .i64 (bs[i] : Int)) ∧ w.cell? (a.add (i * 2 + 1)) = some (.slice Au mu cu))
    (hbs : ∀ x ∈ bs, x < s.N) (hsq : j.seq ≤ 2147483647) (hu : j.used ≤ 100000) (hk : k ≤ 100000) (hnn : n ≤ 4096) :
    Calls Tryz.prog 117 #[.pointer (some ⟨Bj, 0, none⟩), .pointer (some ⟨Bb, 0, none⟩), .pointer (some ⟨Bw, 0, none⟩)] w fun e w' => e = .returned (.tuple #[]) ∧ JGo w w' ρ D K ρ D K jb ml mc b db (j.laid k bs) s := by
  have hNN := h.own.len.2
  have HO := Lib.hid h
  have HAT := Lib.hid hat
  have HBS := Lib.hid hbs
  have HN := Lib.hid hn
  obtain ⟨A, c, hx, hth, hc⟩ := h.jx
  obtain ⟨c0, c1, c2, c3, c4, c5, c6, _⟩ := hx.cells
  have f3 := hx.free 3
  have f5 := hx.free 5
  have b1 := h1.2
  have b2 := h2.2
  have b3 := h3.2
  have nBj : Bj ≠ jb := fun e => hx.nk.1 (e ▸ h1.1)
  have nBb : Bb ≠ jb := fun e => hx.nk.1 (e ▸ h2.1)
  have nBw : Bw ≠ jb := fun e => hx.nk.1 (e ▸ h3.1)
  have t1 := hx.turn (i := 3) (u := .int .i64 ((j.seq + 1 : Nat) : Int)) (j' := { j with seq := j.seq + 1 }) (v' := .slice A j.left.length c) rfl rfl rfl rfl
  have t2 := t1.turn (i := 5) (u := .int .i64 ((j.used + k : Nat) : Int)) (j' := { j with seq := j.seq + 1, used := j.used + k }) (v' := .slice A j.left.length c) rfl rfl rfl rfl
  have he := ext_cell (ext_cell (Ext.refl (fun x => x = jb) w) 3 (.int .i64 ((j.seq + 1 : Nat) : Int))) 5 (.int .i64 ((j.used + k : Nat) : Int))
  have HG := Lib.hid (JO.turned (j' := { j with seq := j.seq + 1, used := j.used + k }) h he (fun x hq => .inl hq) t2 (Things.own3 hth hx.there hx.nk he (fun x hq => .inl hq)) hc)
  have HK0 := Lib.hid (show ∀ q, K q → ((w.setCell ⟨jb, 3, none⟩ (.int .i64 ((j.seq + 1 : Nat) : Int))).setCell ⟨jb, 5, none⟩ (.int .i64 ((j.used + k : Nat) : Int))).heap[q]? = w.heap[q]? from fun q hq => he.block q (hx.there q hq) (fun e => hx.nk.1 (e ▸ hq)))
  have m1 : (w.setCell ⟨jb, 3, none⟩ (.int .i64 ((j.seq : Int) + 1))).cell? ⟨Bj, 0, none⟩ = some (.pointer (some ⟨jb, 0, none⟩)) := (World.cell?_of_block (Below.heap_setCell w _ _ Bj nBj)).trans b1
  have m2 : (w.setCell ⟨jb, 3, none⟩ (.int .i64 ((j.seq : Int) + 1))).cell? ⟨Bb, 0, none⟩ = some (.slice Ab k cb) := (World.cell?_of_block (Below.heap_setCell w _ _ Bb nBb)).trans b2
  have m5 : (w.setCell ⟨jb, 3, none⟩ (.int .i64 ((j.seq : Int) + 1))).cell? ⟨jb, 5, none⟩ = some (.int .i64 (j.used : Int)) := t1.cells.2.2.2.2.2.1
  have mf5 : (w.setCell ⟨jb, 3, none⟩ (.int .i64 ((j.seq : Int) + 1))).frozen? ⟨jb, 5, none⟩ = false := t1.free 5
  have es : ((j.seq + 1 : Nat) : Int) = (j.seq : Int) + 1 := by simp
  have eu : ((j.used + k : Nat) : Int) = (j.used : Int) + (k : Int) := by simp
  rw [es, eu] at HG HK0
  have HB3 := Lib.hid h3
  have HB1 := Lib.hid h1
  have HX := Lib.hid hx
  clear hat hbs hn h hx hth hc c0 c1 c2 c4 c6 t1 t2 he h1 h2 h3 b2 b3 es eu nBj nBb nBw
  go_enter Tryz.func117, Tryz.ntmps117
  go_wp2_with fail
  generalize w.setCell ⟨jb, 3, none⟩ (.int .i64 ((j.seq : Int) + 1)) = W1 at *
  go_still_tail 9, (by kernel_rfl)
  change wpList _ _ _ _ _ W1.drew
  have n3 : ((W1.setCell ⟨jb, 5, none⟩ (.int .i64 ((j.used : Int) + (k : Int)))).drew).cell? ⟨Bw, 0, none⟩ = some (.slice Aw n cw) := (World.cell?_of_block (w' := (W1.setCell ⟨jb, 5, none⟩ (.int .i64 ((j.used : Int) + (k : Int)))).drew) (HK0.out Bw HB3.out.1)).trans HB3.out.2
  have HGD := Lib.hid (HG.out.drewN 1)
  have HKD := Lib.hid (show ∀ q, K q → ((W1.setCell ⟨jb, 5, none⟩ (.int .i64 ((j.used : Int) + (k : Int)))).drew).heap[q]? = w.heap[q]? from HK0.out)
  clear HG HK0
  go_wp2_with fail
  have HGE := Lib.hid (show JGo w ((W1.setCell ⟨jb, 5, none⟩ (.int .i64 ((j.used : Int) + (k : Int)))).drew) ρ D K ρ D K jb ml mc b db { j with seq := j.seq + 1, used := j.used + k } s from HGD.out)
  clear HGD
  generalize (W1.setCell ⟨jb, 5, none⟩ (.int .i64 ((j.used : Int) + (k : Int)))).drew = W2 at *
  obtain ⟨j1, hj1⟩ : ∃ j1, ({ j with seq := j.seq + 1, used := j.used + k } : Jr) = j1 := ⟨_, rfl⟩
  have HJ1 := Lib.hid (show j.laid k bs = lit j1 bs bs.length by rw [lit_all, ← hj1]; rfl)
  rw [hj1] at HGE
  clear hj1 c3 f3 f5 c5 b1 m1 m2 m5 mf5
  go_loopw [23] (fun i wr => ∃ m : Nat, m ≤ n ∧ i = .int .i64 m ∧ JGo w wr ρ D K ρ D K jb ml mc b db (lit j1 bs m) s ∧ ∀ q, K q → wr.heap[q]? = w.heap[q]?) (fun i _ => n - (intOf i).toNat)
  case atStart => exact ⟨0, Nat.zero_le _, rfl, by rw [lit_zero]; exact HGE.out, HKD.out⟩
  case round =>
    obtain ⟨m, hm, rfl, hg, hkk⟩ := hrel
    have HGO := Lib.hid hg
    have HKK := Lib.hid hkk
    clear hg hkk
    by_cases hlt : m < n
    · have hlt' : m < bs.length := by rw [HN.out]; exact hlt
      obtain ⟨a, Au, mu, cu, rfl, hka, q0, q1⟩ := HAT.out m hlt'
      have hbl := HBS.out bs[m] (List.getElem_mem hlt')
      have HLS := Lib.hid (lit_succ j1 bs m hlt')
      generalize bs[m] = x at *
      have q0 := (World.cell?_of_block (w' := wr) (a := a.add (m * 2)) (HKK.out _ (by rw [addr_add_block]; exact hka))).trans q0
      have q1 := (World.cell?_of_block (w' := wr) (a := a.add (m * 2 + 1)) (HKK.out _ (by rw [addr_add_block]; exact hka))).trans q1
      rw [← JMem.addr_field a (m * 2) 1 (by decide)] at q1
      have hm0 : (0 : Int) ≤ (m : Int) := by omega
      have hm1 : (m : Int) < (n : Int) := by omega
      have d3 : decide ((m : Int) < (n : Int)) = true := by simp; omega
      go_wp2_with fail
      have hb3 : Below wr.heap.size wr (wr.alloc (.cells #[.int .i64 (x : Int), .slice Au mu cu] 115)) := JMem.below_box _
      have HG3 := Lib.hid (HGO.out.below hb3)
      have HK3 := Lib.hid (fun q (hq : K q) => (hb3.block q (show q < wr.heap.size from HGO.out.own.jthere q (.inr (.inr (.inr hq))))).trans (HKK.out q hq))
      have r0 : (wr.alloc (.cells #[.int .i64 (x : Int), .slice Au mu cu] 115)).cell? ⟨wr.heap.size, 0, none⟩ = some (.int .i64 (x : Int)) := (row_cell (row_new wr _) 0).trans rfl
      clear q0 q1 hb3
      generalize wr.alloc (.cells #[.int .i64 (x : Int), .slice Au mu cu] 115) = W3 at *
      have r1 : W3.cell? ⟨Bj, 0, none⟩ = some (.pointer (some ⟨jb, 0, none⟩)) := (World.cell?_of_block (w' := W3) (HK3.out Bj HB1.out.1)).trans HB1.out.2
      have HO3 := Lib.hid (show JO W3.drew ρ D K jb ml mc b db (lit j1 bs m) s from HG3.out.own.drewN 1)
      obtain ⟨A3, c3, hx3, _, _⟩ := HG3.out.own.jx
      have r6 : W3.cell? ⟨jb, 6, none⟩ = some (.map (some ml)) := hx3.cells.2.2.2.2.2.2.1
      obtain ⟨A4, c4, hx4, _, _⟩ := HO3.out.jx
      obtain ⟨w4, hrun, hm4, ht4⟩ := live_put hx4.live hbl hNN
      have e4 : (fun n => (lit j1 bs m).live n || decide (n = x)) = (lit j1 bs (m + 1)).live := HLS.out
      rw [e4] at hm4
      obtain ⟨hg4, hk4⟩ := live_turn (j' := lit j1 bs (m + 1)) HO3.out hm4 ht4 rfl
      have HG4 := Lib.hid ((HG3.out.drewN 1).trans hg4)
      have HK4 := Lib.hid (fun q (hq : K q) => (hk4 q hq).trans (show (W3.drewN 1).heap[q]? = w.heap[q]? from HK3.out q hq))
      clear hx3 hx4 hm4 ht4 hg4 hk4 e4
      go_still_tail 7, (by kernel_rfl)
      go_wp2_with fail
      go_roundw
      case rel => exact ⟨m + 1, by omega, by go_num, HG4.out, HK4.out⟩
      case measure => simp [intOf]; omega
    · obtain rfl : m = n := by omega
      have d3 : decide ((m : Int) < (m : Int)) = false := by simp
      go_wp2_with fail
      go_end0
      refine ⟨rfl, ?_⟩
      rw [HJ1.out, HN.out]
      exact HGO.out
end
end Go.Proofs.YtmlgchmladkfpaaGreatDoor.NLaid
/- The end of the commit itself. -/
namespace Go.Proofs.YtmlgchmladkfpaaGreatDoor.NPart
open Go.RowKit WMem WPlain WAppend WCrc Ext Map DPlain DMem EPlain EMem EFace JPlain JMem NPlain NMem NFace NCred NMake NCheck NRun NClose NLaid

/-- K, and all that is new -/
def Plus (K : Nat → Prop) (w W : World) : Nat → Prop := fun q => K q ∨ (w.heap.size ≤ q ∧ q < W.heap.size)
theorem things_of {w W : World} {K : Nat → Prop} {jb n : Nat} {v : Value} {l : List Thing} (h : TR w K jb W v n l) : ∃ A c, v = .slice A n c ∧ n ≤ c ∧ Things W (Plus K w W) jb A l := by
  obtain ⟨⟨vs, h1, h2, h3⟩, h4, h5⟩ := h
  have hlt := own_lt h1
  have hge := own_ge h1
  obtain ⟨A, c, rfl, hc, hat⟩ := own_cell1 (S := fun _ => True) ⟨own_base h1 (fun _ _ => Nat.zero_le _), fun _ _ => trivial⟩
  refine ⟨A, c, rfl, hc, vs, fun i u hu => ?_, h2.keep (fun _ _ => rfl) (fun q hq => ?_)⟩
  · obtain ⟨g, rfl, _, hcl⟩ := hat i u hu
    have hadd : (⟨g, 0, none⟩ : Addr).add i = ⟨g, i, none⟩ := by unfold Addr.add; split <;> simp_all
    exact ⟨_, rfl, .inr ⟨hge g rfl, hlt g rfl⟩, by rw [hadd]; exact hcl⟩
  · rcases hq with hq | hq
    · exact .inl hq
    · exact .inr ⟨hq.1, hq.2.1⟩
/-- what is left is laid anew -/
theorem relay {w W : World} {K : Nat → Prop} {ρ : Ro} {D : Nat → Prop} {jb ml mc b db : Nat} {j : Jr} {s : Sto} {v : Value} {l : List Thing} {n : Nat} (h : JO w ρ D K jb ml mc b db j s) (hT : TR w K jb W v n l) :
    JGo w (W.setCell ⟨jb, 12, none⟩ v) ρ D K ρ D (Plus K w W) jb ml mc b db { j with left := l } s := by
  obtain ⟨A, c, rfl, hc, hth⟩ := things_of hT
  have hb := hT.below
  have hl := hT.len
  subst hl
  obtain ⟨A0, c0, hx, _, _⟩ := h.jx
  obtain ⟨n1, n2⟩ := hx.ne1
  have lj := hx.lt
  have lml := hx.live.lt
  have lmc := hx.cred.lt
  have hx1 : JX W K jb ml mc b db s.N j (.slice A0 j.left.length c0) := hx.keep (fun q hq => hb.block q (hx.own_there q hq)) hb.size
  have t1 := hx1.turn (i := 12) (u := .slice A l.length c) (j' := { j with left := l }) (v' := .slice A l.length c) rfl rfl rfl rfl
  have hE : Ext (fun x => x = jb) w (W.setCell ⟨jb, 12, none⟩ (.slice A l.length c)) := ext_cell (Ext.of_below hb _) 12 _
  have hP : ∀ q, Plus K w W q → (W.setCell ⟨jb, 12, none⟩ (.slice A l.length c)).heap[q]? = W.heap[q]? := fun q hq => Below.heap_setCell W _ _ q (fun e => by
    have e : q = jb := e
    subst e
    rcases hq with hq | hq
    · exact hx.nk.1 hq
    · omega)
  have hnk : ¬ Plus K w W jb ∧ ¬ Plus K w W ml ∧ ¬ Plus K w W mc := by
    refine ⟨fun hq => ?_, fun hq => ?_, fun hq => ?_⟩
    · rcases hq with hq | hq
      · exact hx.nk.1 hq
      · omega
    · rcases hq with hq | hq
      · exact hx.nk.2.1 hq
      · omega
    · rcases hq with hq | hq
      · exact hx.nk.2.2 hq
      · omega
  refine ⟨⟨h.own.keep (fun q hq => hE.block q (h.own.there q hq) (fun e => h.far q (.inl e) hq)) hE.size, ⟨A, c, ⟨t1.block, t1.live, t1.cred, hnk, hx.ne, fun q hq => ?_⟩, hth.keep hP (fun _ h => h), hc⟩, fun q h1 h2 => ?_⟩, hE.more (fun q _ hq => .inr (.inl hq)), fun q hq => ?_, fun q hq => (hP q (.inl hq)).trans (hb.block q (hx.there q hq)), fun q hq => .inl hq⟩
  · rcases hq with hq | hq
    · exact Nat.lt_of_lt_of_le (hx.there q hq) hE.size
    · have : W.heap.size ≤ (W.setCell ⟨jb, 12, none⟩ (.slice A l.length c)).heap.size := by simp [World.setCell]
      omega
  · have := h.own.there q h2
    rcases h1 with e | e | e | e
    · exact h.far q (.inl e) h2
    · exact h.far q (.inr (.inl e)) h2
    · exact h.far q (.inr (.inr (.inl e))) h2
    · rcases e with e | e
      · exact h.far q (.inr (.inr (.inr e))) h2
      · omega
  · rcases hq with hq | hq
    · exact .inl (.inl hq)
    · rcases hq with e | e | e | e
      · exact .inl (.inr (.inl e))
      · exact .inl (.inr (.inr (.inl e)))
      · exact .inl (.inr (.inr (.inr (.inl e))))
      · rcases e with e | e
        · exact .inl (.inr (.inr (.inr (.inr e))))
        · exact .inr e.1
/-- all that is new is the journal's -/
theorem plus_go {w W : World} {K : Nat → Prop} {ρ : Ro} {D : Nat → Prop} {jb ml mc b db : Nat} {j : Jr} {s : Sto} (h : JO w ρ D K jb ml mc b db j s) (hb : Below w.heap.size w W) : JGo w W ρ D K ρ D (Plus K w W) jb ml mc b db j s := by
  have h2 := h.below hb
  obtain ⟨A0, c0, hx, _, _⟩ := h.jx
  obtain ⟨A, c, hx2, hth, hc⟩ := h2.jx
  have lj := hx.lt
  have lml := hx.live.lt
  have lmc := hx.cred.lt
  refine ⟨⟨h2.own, ⟨A, c, ⟨hx2.block, hx2.live, hx2.cred, ⟨fun hq => ?_, fun hq => ?_, fun hq => ?_⟩, hx2.ne, fun q hq => ?_⟩, hth.keep (fun _ _ => rfl) (fun _ h => .inl h), hc⟩, fun q h1 h2 => ?_⟩, Ext.of_below hb _, fun q hq => ?_, fun q hq => hb.block q (hx.there q hq), fun q hq => .inl hq⟩
  · rcases hq with hq | hq
    · exact hx.nk.1 hq
    · omega
  · rcases hq with hq | hq
    · exact hx.nk.2.1 hq
    · omega
  · rcases hq with hq | hq
    · exact hx.nk.2.2 hq
    · omega
  · rcases hq with hq | hq
    · exact hx2.there q hq
    · exact hq.2
  · have := h.own.there q h2
    rcases h1 with e | e | e | e
    · exact h.far q (.inl e) h2
    · exact h.far q (.inr (.inl e)) h2
    · exact h.far q (.inr (.inr (.inl e))) h2
    · rcases e with e | e
      · exact h.far q (.inr (.inr (.inr e))) h2
      · omega
  · rcases hq with hq | hq
    · exact .inl (.inl hq)
    · rcases hq with e | e | e | e
      · exact .inl (.inr (.inl e))
      · exact .inl (.inr (.inr (.inl e)))
      · exact .inl (.inr (.inr (.inr (.inl e))))
      · rcases e with e | e
        · exact .inl (.inr (.inr (.inr (.inr e))))
        · exact .inr e.1
set_option maxRecDepth 100000 in
set_option maxHeartbeats 1000000 in
theorem ckpt_fin {w : World} {K : Nat → Prop} {ρ : Ro} {D : Nat → Prop} {jb ml mc b db : Nat} {j : Jr} {s : Sto} (h : JO w ρ D K jb ml mc b db j s) :
    Calls Tryz.prog 87 #[.pointer (some ⟨jb, 0, none⟩), .slice (some ⟨w.heap.size, 0, none⟩) 1 1] (w.alloc (.cells #[.func (.func 86) #[.pointer (some ⟨jb, 0, none⟩)] #[]] 1)) fun e w' =>
      ∃ A c, e = .returned (.slice A (checkpoint s [.fin]).length c) ∧ Below w.heap.size w w' ∧ ∃ K', JGo w (w'.setCell ⟨jb, 12, none⟩ (.slice A (checkpoint s [.fin]).length c)) ρ D K ρ D K' jb ml mc b db { j with left := checkpoint s [.fin] } s := by
  have hb : Below w.heap.size w (w.alloc (.cells #[.func (.func 86) #[.pointer (some ⟨jb, 0, none⟩)] #[]] 1)) := JMem.below_box _
  have hp := plus_go h hb
  have hr := row_new w (.cells #[.func (.func 86) #[.pointer (some ⟨jb, 0, none⟩)] #[]] 1)
  have hkr : KRow (w.alloc (.cells #[.func (.func 86) #[.pointer (some ⟨jb, 0, none⟩)] #[]] 1)) (Plus K w (w.alloc (.cells #[.func (.func 86) #[.pointer (some ⟨jb, 0, none⟩)] #[]] 1))) (some ⟨w.heap.size, 0, none⟩) [.func (.func 86) #[.pointer (some ⟨jb, 0, none⟩)] #[]] := fun i v hv => by
    cases i with
    | zero =>
      injection hv with hv
      subst hv
      exact ⟨_, rfl, .inr ⟨Nat.le_refl _, by simp⟩, (row_cell hr 0).trans rfl⟩
    | succ i => cases hv
  obtain ⟨A0, c0, hx0, _, _⟩ := hp.own.jx
  refine (checkpoint_any hp.own.own (c0_own hp.own) hx0.there [.fin] (some ⟨w.heap.size, 0, none⟩) 1 _ hkr rfl (fun i hi => ?_) (by decide)).mono ?_
  · obtain rfl : i = 0 := by simpa using hi
    exact ⟨_, rfl, rfl⟩
  · rintro e w' ⟨v, rfl, hT⟩
    have hT2 := hT
    obtain ⟨A, c, rfl, _, _⟩ := things_of hT
    exact ⟨A, c, rfl, hb.trans (hT.below.mono hb.size), _, hp.trans (relay hp.own hT)⟩
set_option maxRecDepth 100000 in
set_option maxHeartbeats 1000000 in
theorem Part_own {w : World} {K : Nat → Prop} {ρ : Ro} {D : Nat → Prop} {jb ml mc b db : Nat} {j : Jr} {s : Sto} (h : JO w ρ D K jb ml mc b db j s) (hc : j.commits ≤ 1073741823) (hu : j.used ≤ 100000) :
    Calls Tryz.prog 85 #[.pointer (some ⟨jb, 0, none⟩)] w fun e w' => e = .returned (.tuple #[]) ∧ ∃ K', JGo w w' ρ D K ρ D K' jb ml mc b db (endPart j s).1 (endPart j s).2 := by
  have HO := Lib.hid h
  obtain ⟨A, c, hx, ht, hcc⟩ := h.jx
  obtain ⟨c0, c1, c2, c3, c4, c5, c6, c7, c8, c9, c10, c11, c12⟩ := hx.cells
  have f9 := hx.free 9
  have t1 := hx.turn (i := 9) (u := .int .i64 ((j.commits + 1 : Nat) : Int)) (j' := { j with commits := j.commits + 1 }) (v' := .slice A j.left.length c) rfl rfl rfl rfl
  have he := ext_cell (Ext.refl (fun x => x = jb) w) 9 (.int .i64 ((j.commits + 1 : Nat) : Int))
  have HG := Lib.hid (JO.turned (j' := { j with commits := j.commits + 1 }) h he (fun x hq => .inl hq) t1 (Things.own3 ht hx.there hx.nk he (fun x hq => .inl hq)) hcc)
  have es : ((j.commits + 1 : Nat) : Int) = (j.commits : Int) + 1 := by simp
  rw [es] at HG
  clear hx ht hcc h t1 he c1 c2 c3 c4 c5 c6 c7 c8 c10 c11 c12 es
  go_enter Tryz.func85, Tryz.ntmps85
  go_wp2_with fail
  generalize w.setCell ⟨jb, 9, none⟩ (.int .i64 ((j.commits : Int) + 1)) = W1 at *
  have HRL := Lib.hid (ECommit.Release_own HG.out.own.own)
  refine HRL.out.mono ?_
  rintro e w2 ⟨rfl, hg⟩
  have HG2 := Lib.hid (HG.out.trans (HG.out.own.goes hg rfl))
  clear hg HRL
  have HE : Hid (endPart j s = if j.clean && (decide (0 < j.used) || decide (0 < (numsOf s.release.wai s.release.N).length)) then ({ ({ j with commits := j.commits + 1 } : Jr) with left := checkpoint s.release [.fin] }, s.release) else (({ j with commits := j.commits + 1 } : Jr).fin, s.release)) := Lib.hid rfl
  obtain ⟨A2, c2, hx2, _, _⟩ := HG2.out.own.jx
  obtain ⟨d0, d1, d2, d3, d4, d5, d6, d7, d8, d9, d10, d11, d12⟩ := hx2.cells
  have HEND := Lib.hid (fun W (hb : Below w2.heap.size w2 W) => End_own (HG2.out.own.below hb))
  have HCK := Lib.hid (fun W (hb : Below w2.heap.size w2 W) => ckpt_fin (HG2.out.own.below hb))
  have d5' : w2.cell? ⟨jb, 5, none⟩ = some (.int .i64 (j.used : Int)) := d5
  have d11' : w2.cell? ⟨jb, 11, none⟩ = some (.bool j.clean) := d11
  have hf12 := hx2.free 12
  have hlj := hx2.lt
  have d12' := d12
  generalize hcl : j.clean = cl at *
  generalize hus : j.used = us at *
  have HWT := Lib.hid (ECommit.Waiting_own HG2.out.own.own)
  have HWL : Hid ((wrs s.release.wai s.release.N).length = (numsOf s.release.wai s.release.N).length) := Lib.hid (by simp [wrs])
  clear hx2 d1 d2 d3 d4 d5 d6 d7 d8 d9 d10 d11 d12 HO HG c0 f9
  cases cl with
  | false =>
    have HE2 := Lib.hid (HE.out.trans (if_neg (by simp)))
    clear HE
    go_wp2_with fail
    refine (HEND.out w2 (Below.refl _ _)).mono ?_
    rintro e w3 ⟨rfl, hg⟩
    have HG3 := Lib.hid (HG2.out.trans hg)
    clear hg
    go_wp2
    go_end0
    refine ⟨rfl, K, ?_⟩
    rw [HE2.out]
    exact HG3.out
  | true =>
    by_cases hu0 : 0 < us
    · have HE2 := Lib.hid (HE.out.trans (if_pos (by simp [hu0])))
      clear HE
      have du : ((0 : Int) < (us : Int)) := by omega
      go_wp2_with fail
      refine (HCK.out w2 (Below.refl _ _)).mono ?_
      rintro e w3 ⟨A, c, rfl, hb, K', hg⟩
      have HG3 := Lib.hid (HG2.out.trans hg)
      have e1 := (hb.frozen (p := ⟨jb, 12, none⟩) hlj).trans hf12
      have e2 := (hb.cell (p := ⟨jb, 12, none⟩) hlj).trans d12'
      clear hb hg
      go_wp2
      refine bodyPost_ret (results_none rfl _ _ _) rfl ?_
      refine ⟨rfl, K', ?_⟩
      rw [HE2.out]
      exact HG3.out
    · have du : ¬ ((0 : Int) < (us : Int)) := by omega
      have du2 : decide ((0 : Int) < (us : Int)) = false := by simp; omega
      go_wp2_with fail
      refine HWT.out.mono ?_
      rintro e w3 ⟨v, ys, rfl, hgot, hb3⟩
      obtain ⟨Av, cv, rfl⟩ := hgot.form
      have HG3 := Lib.hid (HG2.out.below hb3)
      rw [HWL.out]
      have hs3 := hb3.size
      have f12 := (hb3.frozen (p := ⟨jb, 12, none⟩) hlj).trans hf12
      have g12 := (hb3.cell (p := ⟨jb, 12, none⟩) hlj).trans d12'
      have HEN3 := Lib.hid (HEND.out w3 hb3)
      have HCK3 := Lib.hid (HCK.out w3 hb3)
      have hlj3 : jb < w3.heap.size := by omega
      clear hgot hb3
      by_cases hw0 : 0 < (numsOf s.release.wai s.release.N).length
      · have HE2 := Lib.hid (HE.out.trans (if_pos (by simp [hw0])))
        have dw2 : ((0 : Int) < ((numsOf s.release.wai s.release.N).length : Int)) := by omega
        have dw : decide ((0 : Int) < ((numsOf s.release.wai s.release.N).length : Int)) = true := decide_eq_true dw2
        clear HE
        go_wp2_with fail
        refine HCK3.out.mono ?_
        rintro e w4 ⟨A, c, rfl, hb, K', hg⟩
        have HG4 := Lib.hid (HG3.out.trans hg)
        have e1 := (hb.frozen (p := ⟨jb, 12, none⟩) hlj3).trans f12
        have e2 := (hb.cell (p := ⟨jb, 12, none⟩) hlj3).trans g12
        clear hb hg
        go_wp2
        trace_state
        refine bodyPost_ret (results_none rfl _ _ _) rfl ?_
        refine ⟨rfl, K', ?_⟩
        rw [HE2.out]
        exact HG4.out
      · have HE2 := Lib.hid (HE.out.trans (if_neg (by simp only [hu0, hw0, decide_false, Bool.or_self, Bool.and_false]; simp)))
        have dw2 : ¬ ((0 : Int) < ((numsOf s.release.wai s.release.N).length : Int)) := by omega
        have dw : decide ((0 : Int) < ((numsOf s.release.wai s.release.N).length : Int)) = false := decide_eq_false dw2
        clear HE
        go_wp2_with fail
        refine HEN3.out.mono ?_
        rintro e w4 ⟨rfl, hg⟩
        have HG4 := Lib.hid (HG3.out.trans hg)
        clear hg
        go_wp2
        go_end0
        refine ⟨rfl, K, ?_⟩
        rw [HE2.out]
        exact HG4.out
end Go.Proofs.YtmlgchmladkfpaaGreatDoor.NPart
/- A flush, and what comes with it. -/
namespace Go.Proofs.YtmlgchmladkfpaaGreatDoor.NFlush
open Go.RowKit WMem WPlain WAppend WCrc Ext Map DPlain DMem EPlain EMem EFace JPlain JMem NPlain NMem NFace NCred NMake NCheck NRun NClose NLaid NPart

/-- what must hold for a thing that comes with a flush -/
def ComeOk (j : Jr) (s : Sto) : Come → Prop
  | .empty => j.tail ≤ 4096 ∧ j.used ≤ 100000
  | .fin => True
  | .part => j.commits ≤ 1073741823 ∧ j.used ≤ 100000
  | .laid k bs => j.seq ≤ 2147483647 ∧ j.used ≤ 100000 ∧ k ≤ 100000 ∧ bs.length ≤ 4096 ∧ ∀ x ∈ bs, x < s.N
def ComesOk (j : Jr) (s : Sto) : List Come → Prop
  | [] => True
  | c :: r => ComeOk j s c ∧ ComesOk (come j s c).1 (come j s c).2 r
theorem comes_snoc (c : Come) : ∀ (l : List Come) (j : Jr) (s : Sto), comes j s (l ++ [c]) = come (comes j s l).1 (comes j s l).2 c
  | [], _, _ => rfl
  | _ :: r, _, _ => by
    show comes _ _ (r ++ [c]) = _
    rw [comes_snoc c r]
    rfl
theorem comesOk_at (c : Come) (r : List Come) : ∀ (l : List Come) (j : Jr) (s : Sto), ComesOk j s (l ++ c :: r) → ComeOk (comes j s l).1 (comes j s l).2 c
  | [], _, _, h => h.1
  | _ :: l, _, _, h => comesOk_at c r l _ _ h.2
theorem come_ring (j : Jr) (s : Sto) (c : Come) : (come j s c).1.ring = j.ring := by
  cases c with
  | empty => rfl
  | fin => rfl
  | part =>
    unfold come endPart
    simp only
    split <;> rfl
  | laid k bs => rfl
theorem comes_ring : ∀ (l : List Come) (j : Jr) (s : Sto), (comes j s l).1.ring = j.ring
  | [], _, _ => rfl
  | x :: l, j, s => (comes_ring l _ _).trans (come_ring j s x)
theorem flush_len (d : St) : d.flush.L.length = d.L.length := doneTo_len _ _ _ _
set_option maxRecDepth 100000 in
set_option maxHeartbeats 2000000 in
theorem Flush1_own {w : World} {K : Nat → Prop} {ρ : Ro} {D : Nat → Prop} {jb ml mc b db : Nat} {j : Jr} {s : Sto} (h : JO w ρ D K jb ml mc b db j s) (Bj Bc n : Nat) (A : Option Addr) (c : Nat) (cs : List Come) (vs : List Value) (hn : cs.length = n)
    (h1 : KBox w K Bj (.pointer (some ⟨jb, 0, none⟩))) (h2 : KBox w K Bc (.slice A n c)) (hkr : KRow w K A vs) (hl : vs.length = cs.length) (hcm : ∀ (i : Nat) (h : i < cs.length), ∃ v, vs[i]? = some v ∧ ComeIs w K jb v cs[i])
    (hr : 6 ≤ j.ring) (hr2 : j.ring ≤ 4096) (hok : ComesOk j (dflush s) cs) (hload : s.load ≤ 1073741824) (hnn : n ≤ 1000) :
    Calls Tryz.prog 142 #[.pointer (some ⟨Bj, 0, none⟩), .pointer (some ⟨Bc, 0, none⟩)] w fun e w' => e = .returned (.int .i64 0) ∧ ∃ D' K', JGo w w' ρ D K ρ D' K' jb ml mc b db (comes j (dflush s) cs).1 (comes j (dflush s) cs).2 := by
  have c1 := c1_own h
  have b1 := h1.2
  have HB2 := Lib.hid h2
  have HO := Lib.hid h
  have HKR := Lib.hid hkr
  have HCM := Lib.hid hcm
  have HN := Lib.hid hn
  have HOK := Lib.hid hok
  have HL := Lib.hid hl
  have hdN : s.d.N ≤ 1073741824 := by unfold Sto.load at hload; omega
  have HF := Lib.hid (DFlush.Flush_ok D db s.d w h.own.dd hdN)
  clear h h1 h2 hkr hcm hn hok hl
  go_enter Tryz.func142, Tryz.ntmps142
  go_wp2_with fail
  refine HF.out.mono ?_
  rintro e w1 ⟨rfl, D1, hd, he, hi⟩
  have HG1 := Lib.hid (HO.out.goes (s' := dflush s) (disk_goes HO.out.own hd he hi (flush_len s.d)) (flush_len s.d))
  have b2 : w1.cell? ⟨Bc, 0, none⟩ = some (.slice A n c) := (World.cell?_of_block (w' := w1) (HG1.out.same Bc HB2.out.1)).trans HB2.out.2
  clear hd he hi
  go_wp2_with fail
  go_loopw [12] (fun i wr => ∃ (k : Nat) (D' K' : Nat → Prop), k ≤ n ∧ i = .int .i64 k ∧ JGo w wr ρ D K ρ D' K' jb ml mc b db (comes j (dflush s) (cs.take k)).1 (comes j (dflush s) (cs.take k)).2) (fun i _ => n - (intOf i).toNat)
  case atStart => exact ⟨0, D1, K, Nat.zero_le _, rfl, HG1.out⟩
  case round =>
    obtain ⟨k, D2, K2, hk, rfl, hg⟩ := hrel
    have HG := Lib.hid hg
    clear hg
    by_cases hlt : k < n
    · have hlt' : k < cs.length := by rw [HN.out]; exact hlt
      obtain ⟨v, hv, hci⟩ := HCM.out k hlt'
      obtain ⟨a, rfl, hka, hca⟩ := HKR.out k v hv
      have q0 : wr.cell? (a.add k) = some v := (World.cell?_of_block (w' := wr) (HG.out.same _ (by rw [addr_add_block]; exact hka))).trans hca
      have hci2 := hci.keep (w' := wr) (K' := K2) HG.out.same HG.out.more
      have hok := comesOk_at cs[k] (cs.drop (k + 1)) (cs.take k) j (dflush s) (by rw [← List.drop_eq_getElem_cons hlt', List.take_append_drop]; exact HOK.out)
      have HSN : Hid (comes j (dflush s) (cs.take (k + 1)) = come (comes j (dflush s) (cs.take k)).1 (comes j (dflush s) (cs.take k)).2 cs[k]) := Lib.hid (by rw [List.take_succ_eq_append_getElem hlt', comes_snoc])
      have hrg := comes_ring (cs.take k) j (dflush s)
      generalize (comes j (dflush s) (cs.take k)).1 = jk at *
      generalize (comes j (dflush s) (cs.take k)).2 = sk at *
      generalize hcc : cs[k] = cc at *
      have hk0 : (0 : Int) ≤ (k : Int) := by omega
      have hk1 : (k : Int) < (n : Int) := by omega
      have d3 : decide ((k : Int) < (n : Int)) = true := by simp; omega
      clear hci hcc hv hca
      rw [← hrg] at hr hr2
      have HRG := Lib.hid hrg
      clear hrg
      cases cc with
      | empty =>
        obtain rfl := hci2
        have HC := Lib.hid (Empty_own HG.out.own hr hr2 hok.1 hok.2)
        clear hok
        go_wp2_with fail
        refine HC.out.mono ?_
        rintro e w3 ⟨rfl, hg⟩
        have HG3 := Lib.hid (HG.out.trans hg)
        clear hg
        go_wp2
        go_roundw
        case rel => exact ⟨k + 1, _, _, by omega, by go_num, by rw [HSN.out]; exact HG3.out⟩
        case measure => simp [intOf]; omega
      | fin =>
        obtain rfl := hci2
        have HC := Lib.hid (End_own HG.out.own)
        clear hok
        go_wp2_with fail
        refine HC.out.mono ?_
        rintro e w3 ⟨rfl, hg⟩
        have HG3 := Lib.hid (HG.out.trans hg)
        clear hg
        go_wp2
        go_roundw
        case rel => exact ⟨k + 1, _, _, by omega, by go_num, by rw [HSN.out]; exact HG3.out⟩
        case measure => simp [intOf]; omega
      | part =>
        obtain rfl := hci2
        have HC := Lib.hid (Part_own HG.out.own hok.1 hok.2)
        clear hok
        go_wp2_with fail
        refine HC.out.mono ?_
        rintro e w3 ⟨rfl, K3, hg⟩
        have HG3 := Lib.hid (HG.out.trans hg)
        clear hg
        go_wp2
        go_roundw
        case rel => exact ⟨k + 1, _, _, by omega, by go_num, by rw [HSN.out]; exact HG3.out⟩
        case measure => simp [intOf]; omega
      | laid kk bs =>
        obtain ⟨Bj', Bb, Bw, Ab, cb, Aw, cw, rfl, g1, g2, g3, g4⟩ := hci2
        have HC := Lib.hid (Laid_own HG.out.own Bj' Bb Bw kk bs.length Ab cb Aw cw bs rfl g1 g2 g3 g4 hok.2.2.2.2 hok.1 hok.2.1 hok.2.2.1 hok.2.2.2.1)
        clear hok g1 g2 g3 g4
        go_wp2_with fail
        refine HC.out.mono ?_
        rintro e w3 ⟨rfl, hg⟩
        have HG3 := Lib.hid (HG.out.trans hg)
        clear hg
        go_wp2
        go_roundw
        case rel => exact ⟨k + 1, _, _, by omega, by go_num, by rw [HSN.out]; exact HG3.out⟩
        case measure => simp [intOf]; omega
    · obtain rfl : k = n := by omega
      have d3 : decide ((k : Int) < (k : Int)) = false := by simp
      have hfull : cs.take k = cs := List.take_of_length_le (by rw [HN.out]; exact Nat.le_refl _)
      rw [hfull] at HG
      clear hfull
      go_wp2
      go_ret
      exact ⟨rfl, _, _, HG.out⟩
end Go.Proofs.YtmlgchmladkfpaaGreatDoor.NFlush
/- The first thing that is left, done. -/
namespace Go.Proofs.YtmlgchmladkfpaaGreatDoor.NNext
open Go.RowKit WMem WPlain WAppend WCrc Ext Map DPlain DMem EPlain EMem EFace JPlain JMem NPlain NMem NFace NCred NMake NCheck NRun NClose NHead NLaid NPart NFlush

def ThingOk (j : Jr) (s : Sto) : Thing → Prop
  | .home n => ∃ l, s.wai n = some l
  | .put p _ => p ≤ 200000 ∧ j.ring + 3 ≤ s.N
  | .flush cs => ComesOk j (dflush s) cs ∧ cs.length ≤ 1000
  | .head => j.tail ≤ 4096 ∧ j.used ≤ 100000 ∧ 1 ≤ j.seq ∧ j.seq ≤ 2147483647 ∧ j.ring + 3 ≤ s.N
theorem slice_one (a : Addr) (n c : Nat) (h1 : 1 ≤ n) (h2 : n ≤ c) (h3 : n ≤ 1000000) (W : World) : (Instr.slice 59 (.slice (some a) n c) (some (.int .i64 1)) none none).run Tryz.prog W = .ok (.slice (if c = 1 then some a else some (a.add 1)) (n - 1) (c - 1)) W := by
  have hc : ¬ (c < n) := by omega
  have hn : ¬ ((n : Int) < 1) := by omega
  go_simp
/-- what is left behind the first -/
theorem things_tail {w : World} {K : Nat → Prop} {jb : Nat} {A : Option Addr} {t : Thing} {r : List Thing} {n c : Nat} (h : Things w K jb A (t :: r)) (hn : r.length + 1 = n) (hc : n ≤ c) : ∃ a v, A = some a ∧ K a.block ∧ w.cell? (a.add 0) = some v ∧ ThingIs w K jb v t ∧ Things w K jb (if c = 1 then some a else some (a.add 1)) r := by
  obtain ⟨vs, h1, h2, h3⟩ := h
  obtain ⟨v, hv, ht⟩ := h3 0 (by simp)
  obtain ⟨a, rfl, ha, hcl⟩ := h1 0 v hv
  refine ⟨a, v, rfl, ha, hcl, ht, vs.drop 1, fun i u hu => ?_, by simp [h2], fun i hi => ?_⟩
  · rw [List.getElem?_drop] at hu
    obtain ⟨a', e, ha', hcl'⟩ := h1 (1 + i) u hu
    injection e with e
    subst e
    by_cases hc1 : c = 1
    · have hlt := (List.getElem?_eq_some_iff.1 hu).1
      have hl : vs.length = r.length + 1 := by rw [h2]; simp
      omega
    · rw [if_neg hc1]
      exact ⟨_, rfl, by rw [addr_add_block]; exact ha, by rw [addr_add_add]; exact hcl'⟩
  · obtain ⟨u, hu, htu⟩ := h3 (i + 1) (by simpa using hi)
    exact ⟨u, by rw [List.getElem?_drop, Nat.add_comm]; exact hu, by simpa using htu⟩
set_option maxRecDepth 100000 in
set_option maxHeartbeats 2000000 in
theorem Next_own {w : World} {K : Nat → Prop} {ρ : Ro} {D : Nat → Prop} {jb ml mc b db : Nat} {j : Jr} {s : Sto} (h : JO w ρ D K jb ml mc b db j s) (hT : Tab w) (hglb : 0 ≠ jb) (t : Thing) (r : List Thing) (hl : j.left = t :: r) (hlen : r.length ≤ 100000)
    (hr : 6 ≤ j.ring) (hr2 : j.ring ≤ 512) (hok : ThingOk { j with left := r } s t) (hload : s.load ≤ 1073741824) :
    Calls Tryz.prog 58 #[.pointer (some ⟨jb, 0, none⟩)] w fun e w' => e = .returned (.int .i64 0) ∧ ∃ ρ' D' K', JGo w w' ρ D K ρ' D' K' jb ml mc b db (next j s).1 (next j s).2 := by
  obtain ⟨A, c, hx, hth, hcc⟩ := h.jx
  have hcl := hx.cells.2.2.2.2.2.2.2.2.2.2.2.2
  have hf := hx.free 12
  rw [hl] at hth hcc hcl hx
  obtain ⟨n, hn⟩ : ∃ n, r.length + 1 = n := ⟨_, rfl⟩
  have hlc : (t :: r).length = n := by rw [List.length_cons, hn]
  rw [hlc] at hcc hcl hx
  obtain ⟨a, v, rfl, hka, hca, hti, htl⟩ := things_tail hth hn hcc
  have hsl := slice_one a n c (by omega) hcc (by omega)
  have hn1 : n - 1 = r.length := by omega
  rw [hn1] at hsl
  obtain ⟨A', hA'⟩ : ∃ A', (if c = 1 then some a else some (a.add 1)) = A' := ⟨_, rfl⟩
  rw [hA'] at hsl htl
  have t1 := hx.turn (i := 12) (u := .slice A' r.length (c - 1)) (j' := { j with left := r }) (v' := .slice A' r.length (c - 1)) rfl rfl rfl rfl
  have he := ext_cell (Ext.refl (fun x => x = jb) w) 12 (.slice A' r.length (c - 1))
  have HG1 := Lib.hid (JO.turned (j' := { j with left := r }) h he (fun x hq => .inl hq) t1 (Things.own3 htl hx.there hx.nk he (fun x hq => .inl hq)) (by show r.length ≤ c - 1; omega))
  have HNX : Hid (next j s = run { j with left := r } s t) := Lib.hid (by unfold next; rw [hl])
  have HT1 := Lib.hid (show Tab (w.setCell ⟨jb, 12, none⟩ (.slice A' r.length (c - 1))) from fun i hi => (World.cell?_of_block (Below.heap_setCell w _ _ _ hglb)).trans (hT i hi))
  have hz : ((n : Int) == 0) = false := by simp; omega
  have hn0 : (0 : Int) < (n : Int) := by omega
  have ha0 : a.add 0 = a := by unfold Addr.add; rw [if_pos rfl]
  have q0 : (w.setCell ⟨jb, 12, none⟩ (.slice A' r.length (c - 1))).cell? (a.add 0) = some v := (World.cell?_of_block (w' := w.setCell ⟨jb, 12, none⟩ (.slice A' r.length (c - 1))) (HG1.out.same _ (by rw [addr_add_block]; exact hka))).trans hca
  rw [ha0] at q0
  have hti2 := hti.keep (w' := w.setCell ⟨jb, 12, none⟩ (.slice A' r.length (c - 1))) (K' := K) HG1.out.same (fun _ h => h)
  have HR := Lib.hid (And.intro hr hr2)
  clear hx hth hti htl t1 he h hl hA' hlc hka hca hT ha0
  cases t with
  | head =>
    obtain rfl := hti2
    have HC := Lib.hid (Head_own HG1.out.own HT1.out hr hr2 hok.1 hok.2.1 hok.2.2.1 hok.2.2.2.1 hok.2.2.2.2 hload)
    clear hok
    go_enter Tryz.func58, Tryz.ntmps58
    go_wp2_with fail
    refine HC.out.mono ?_
    rintro e w3 ⟨rfl, D', hg⟩
    have HG3 := Lib.hid (HG1.out.trans hg)
    clear hg
    go_wp2
    go_ret
    exact ⟨rfl, _, _, _, by rw [HNX.out]; exact HG3.out⟩
  | home m =>
    obtain ⟨Bj, Bn, rfl, g1, g2⟩ := hti2
    obtain ⟨l, hl⟩ := hok
    have HC := Lib.hid (Home1_own HG1.out.own Bj Bn m l g1 g2 hl hload)
    have HRN : Hid (run { j with left := r } s (.home m) = ({ j with left := r }, s.home m l)) := Lib.hid (by unfold run; simp only [hl, Option.getD_some])
    clear hl g1 g2
    go_enter Tryz.func58, Tryz.ntmps58
    go_wp2_with fail
    refine HC.out.mono ?_
    rintro e w3 ⟨rfl, ρ', D', hg⟩
    have HG3 := Lib.hid (HG1.out.trans hg)
    clear hg
    go_wp2
    go_ret
    exact ⟨rfl, _, _, _, by rw [HNX.out, HRN.out]; exact HG3.out⟩
  | put p l =>
    obtain ⟨Bj, Bp, Bb, u, rfl, g1, g2, g3, g4⟩ := hti2
    have HC := Lib.hid (Write1_own HG1.out.own Bj Bp Bb p u l g1 g2 g3 g4 hr (show j.ring ≤ 4096 by omega) hok.1 hok.2 hload)
    clear hok g1 g2 g3 g4
    go_enter Tryz.func58, Tryz.ntmps58
    go_wp2_with fail
    refine HC.out.mono ?_
    rintro e w3 ⟨rfl, D', hg⟩
    have HG3 := Lib.hid (HG1.out.trans hg)
    clear hg
    go_wp2
    go_ret
    exact ⟨rfl, _, _, _, by rw [HNX.out]; exact HG3.out⟩
  | flush cs =>
    obtain ⟨Bj, Bc, Ac, cc, vs, rfl, g1, g2, g3, g4, g5⟩ := hti2
    have HC := Lib.hid (Flush1_own HG1.out.own Bj Bc cs.length Ac cc cs vs rfl g1 g2 g3 g4 g5 hr (show j.ring ≤ 4096 by omega) hok.1 hload hok.2)
    clear hok g1 g2 g3 g4 g5
    go_enter Tryz.func58, Tryz.ntmps58
    go_wp2_with fail
    refine HC.out.mono ?_
    rintro e w3 ⟨rfl, D', K', hg⟩
    have HG3 := Lib.hid (HG1.out.trans hg)
    clear hg
    go_wp2
    go_ret
    exact ⟨rfl, _, _, _, by rw [HNX.out]; exact HG3.out⟩
end Go.Proofs.YtmlgchmladkfpaaGreatDoor.NNext
