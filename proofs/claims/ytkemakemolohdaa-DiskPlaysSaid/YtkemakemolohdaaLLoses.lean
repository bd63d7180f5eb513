/- DiskLoses walked: a crash that keeps nothing leaves the disk as it was behind its last flush. -/
import Derived.Test.YtkemakemolohdaaLMade
import Derived.Deep.RegionHeld3
namespace Go.Proofs.Ytkemakemolohdaa.LLoses
open Go.RowKit WMem WPlain WAppend Ext Map DPlain DMem Mk DBase DRead DPend DWrite DFlush DPending DCopy RNew RRead RWrite RFlush DLaw LStep LStepP LAlike LAwake LMade

theorem Own.up {a a' w : World} {S : Nat → Prop} {b : Nat} {s : St} (h : Own a' w S b s) (hb : Below a.heap.size a a') : Own a w S b s :=
  ⟨h.dd, fun q hq => Nat.le_trans hb.size (h.new q hq), hb.trans (h.below.mono hb.size)⟩
theorem crash_nothing (s : St) : (s.crash []).L = s.L := by
  show doneTo (keepF []) s.L s.P s.P.length = s.L
  rw [doneTo_stay (keepF []) s.L s.P (j := 0) (fun i _ => rfl) _ (Nat.zero_le _)]
  rfl
theorem read_none {s : St} (h : s.P = []) (i : Nat) : s.readAt i = s.L.getD i [] := by
  unfold St.readAt
  rw [h]
  rfl
theorem made_facts (n : Nat) (ops : List OpV) (k : Nat) (hk : k ≤ 500) : (runs (St.new n) ops k).N ≤ 500 ∧ (runs (St.new n) ops k).L.length = n := by
  have h1 := runs_count (St.new n) ops k
  have h2 := runs_len (St.new n) ops k
  have h0 : (St.new n).N = 0 := rfl
  rw [h0] at h1
  exact ⟨by omega, by rw [h2]; simp [St.new]⟩
theorem cut_le (n k : Nat) : cut n k ≤ k := by unfold cut; split <;> omega

set_option maxHeartbeats 4000000 in
set_option maxRecDepth 100000 in
theorem loses (blocks : Int) (ops later : List OpV) (A A' : Option Addr) (c c' : Nat) (w : World) (hA : OpsIn w w.heap.size A ops) (hA' : OpsIn w w.heap.size A' later) (hl : ops.length ≤ 140737488355328) :
    Calls Try.prog 7 #[.int .i64 blocks, .slice A ops.length c, .slice A' later.length c'] w fun e w' => e = .returned (.bool true) ∧ Below w.heap.size w w' := by
  have HA := Lib.hid hA
  have HA' := Lib.hid hA'
  clear hA hA'
  go_enter Try.func7, Try.ntmps7
  go_wp2_with fail
  refine (awake_any w).mono ?_
  rintro e w1 ⟨rfl, hb1⟩
  have hs1 := hb1.size
  have HB1 := Lib.hid hb1
  clear hb1
  go_wp2_with fail
  refine (made_any blocks ops w.heap.size A c w1 (HA.out.below HB1.out (Nat.le_refl _)) hs1 hl).mono ?_
  rintro e w2 ⟨d, S2, rfl, ho⟩
  have hN := made_facts (128 + low127 blocks) ops (cut ops.length 500) (cut_le _ _)
  have O2 : Hid (Own w w2 S2 d _) := Own.up ho HB1.out
  clear ho
  generalize runs (St.new (128 + low127 blocks)) ops (cut ops.length 500) = s at *
  go_wp2_with fail
  refine (Flush_ok S2 d s w2 O2.out.dd (by omega)).mono ?_
  rintro e w3 ⟨rfl, S3, hd, he, hi⟩
  have O3 : Hid (Own w w3 S3 d s.flush) := O2.out.turn hd he hi
  have hN3 : s.flush.N ≤ 501 := by show s.N + 1 ≤ 501; omega
  have hP3 : s.flush.P = [] := rfl
  have HP3 := Lib.hid hP3
  clear hd he hi O2 hP3
  generalize s.flush = t at *
  go_wp2_with fail
  refine (Copy_ok S3 d t w3 O3.out.dd (by omega)).mono ?_
  rintro e w4 ⟨k, Sk, rfl, hdk, hnk, hb4⟩
  have O4 := Lib.hid (O3.out.go hb4)
  have OK4 : Hid (Own w w4 Sk k t) := ⟨hdk, fun q hq => Nat.le_trans O3.out.below.size (hnk q hq), O3.out.below.trans (hb4.mono O3.out.below.size)⟩
  have FAR : Hid (Far S3 Sk) := fun q h1 h2 => by have := O3.out.dd.there q h1; have := hnk q h2; omega
  clear hdk hnk hb4
  go_wp2
  go_loopw [10] (fun i wr => ∃ (j : Nat) (S : Nat → Prop) (u : St), j ≤ later.length ∧ j ≤ 200 ∧ i = .int .i64 j ∧ Own w wr S d u ∧ Own w wr Sk k t ∧ Far S Sk ∧ u.L = t.L ∧ u.N ≤ 501 + j) (fun i _ => later.length - (intOf i).toNat)
  case atStart => exact ⟨0, S3, t, Nat.zero_le _, Nat.zero_le _, rfl, O4.out, OK4.out, FAR.out, rfl, by omega⟩
  case round =>
    obtain ⟨j, S, u, hj, hj2, rfl, ho, hok, hfar, hL, hNu⟩ := hrel
    have O5 := Lib.hid ho
    have OK5 := Lib.hid hok
    have FAR5 := Lib.hid hfar
    have HL := Lib.hid hL
    have hsr := ho.below.size
    clear ho hok hfar hL
    by_cases hlt : j < later.length ∧ j < 200
    · obtain ⟨hlt1, hlt2⟩ := hlt
      obtain ⟨a, K, ck, rfl, hab, _, p1, p2, _, _⟩ := HA'.out j hlt1
      have hkc : ∀ n, wr.cell? (a.add n) = w.cell? (a.add n) := fun n => O5.out.below.cell (by rw [addr_add_block]; exact hab)
      have r1 : wr.cell? ⟨(a.add (j * 4)).block, (a.add (j * 4)).off + 1, none⟩ = _ := (congrArg wr.cell? (addr_field a (j * 4) 1 (by decide))).trans ((hkc _).trans p1)
      have r2 : wr.cell? ⟨(a.add (j * 4)).block, (a.add (j * 4)).off + 2, none⟩ = _ := (congrArg wr.cell? (addr_field a (j * 4) 2 (by decide))).trans ((hkc _).trans p2)
      have r1' : wr.cell? (a.add (j * 4 + 1)) = _ := (hkc _).trans p1
      have r2' : wr.cell? (a.add (j * 4 + 2)) = _ := (hkc _).trans p2
      have hk0 : (0 : Int) ≤ (j : Int) := Int.natCast_nonneg _
      have hk1 : (j : Int) < (later.length : Int) := by omega
      have hk2 : (j : Int) < 200 := by omega
      clear hkc p1 p2
      generalize later[j].block = blk at *
      generalize later[j].fill = fill at *
      have hbl : (a.add (j * 4)).block < w.heap.size := by rw [addr_add_block]; exact hab
      have O5d : Hid (Own w wr.drew S d u) := O5.out.go ((Below.refl _ _).drew)
      clear r1' r2'
      go_wp2_with fail
      go_region_held3 (fun w' => w'.cell? ⟨(a.add (j * 4)).block, (a.add (j * 4)).off + 1, none⟩ = some (.int .i64 blk) ∧ w'.cell? ⟨(a.add (j * 4)).block, (a.add (j * 4)).off + 2, none⟩ = some (.int .i64 fill)) (go_keep)
        ((first
          | (go_at_call 16; refine (filled_at fill _).mono ?_; rintro e w5 ⟨g, rfl, hg, hR, hb5⟩
             have O6 := Lib.hid (O5d.out.go hb5)
             have s1 : w5.cell? ⟨(a.add (j * 4)).block, (a.add (j * 4)).off + 1, none⟩ = some (.int .i64 blk) := (hb5.cell (p := ⟨(a.add (j * 4)).block, (a.add (j * 4)).off + 1, none⟩) (Nat.lt_of_lt_of_le hbl hsr)).trans r1
             have s2 : w5.cell? ⟨(a.add (j * 4)).block, (a.add (j * 4)).off + 2, none⟩ = some (.int .i64 fill) := (hb5.cell (p := ⟨(a.add (j * 4)).block, (a.add (j * 4)).off + 2, none⟩) (Nat.lt_of_lt_of_le hbl hsr)).trans r2
             have HSL := Lib.hid (hR.sl hR.lt)
             have HB5 := Lib.hid hb5
             clear hR hb5)
          | (go_at_call 15; refine (WriteU S d blk u (full (octet fill)) w5.heap.size (some ⟨g, 0, none⟩) 256 256 w5 O6.out.dd HSL.out (Nat.le_refl _) (full_len _) (Nat.le_refl _) (by omega)).mono ?_; rintro e w6 ⟨rfl, S6, hd6, he6, hi6⟩
             have O7 := Lib.hid (O6.out.turn hd6 he6 hi6)
             have hbb : Below w.heap.size w5 w6 := he6.below O6.out.below.size O6.out.new
             have t1 : w6.cell? ⟨(a.add (j * 4)).block, (a.add (j * 4)).off + 1, none⟩ = some (.int .i64 blk) := (hbb.cell (p := ⟨(a.add (j * 4)).block, (a.add (j * 4)).off + 1, none⟩) hbl).trans s1
             have t2 : w6.cell? ⟨(a.add (j * 4)).block, (a.add (j * 4)).off + 2, none⟩ = some (.int .i64 fill) := (hbb.cell (p := ⟨(a.add (j * 4)).block, (a.add (j * 4)).off + 2, none⟩) hbl).trans s2
             have HE6 := Lib.hid he6
             have HI6 := Lib.hid hi6
             clear hd6 he6 hi6 hbb)))
      all_goals
        go_wp2_with fail
        go_roundw
        case rel =>
          have hok6 : Own w w6 Sk k t := by
            have h1 : Own w w5 Sk k t := (OK5.out.go ((Below.refl _ _).drew)).go HB5.out
            exact ⟨h1.dd.ext HE6.out FAR5.out, h1.new, O7.out.below⟩
          have hfar6 : Far S6 Sk := FAR5.out.step HI6.out (fun q hq => ((OK5.out.go ((Below.refl _ _).drew)).go HB5.out).dd.there q hq)
          exact ⟨j + 1, S6, wst u blk (full (octet fill)), by omega, by omega, by go_num, O7.out, hok6, hfar6, by rw [← HL.out]; unfold wst; split <;> rfl, by have := wst_count u blk (full (octet fill)); omega⟩
        case measure => simp [intOf]; omega
    · have HREAD : Hid (∀ i, i < t.L.length → t.readAt i = (u.crash []).readAt i) := fun i _ => by
        rw [read_none HP3.out, read_none (s := u.crash []) rfl, crash_nothing, HL.out]
      have HLL : Hid (t.L.length = (u.crash []).L.length) := by show _ = _; rw [crash_nothing, HL.out]
      have hends : ((later.length : Int) ≤ (j : Int)) ∨ ((j : Int) < (later.length : Int) ∧ (200 : Int) ≤ (j : Int)) := by omega
      clear hlt
      rcases hends with hd1 | ⟨hd1, hd2⟩
      all_goals
        go_wp2_with fail
        refine (Crash_ok S d u [] 0 none 0 wr O5.out.dd (Sl.nil _ _ _) (Nat.zero_le _) (by omega)).mono ?_
        rintro e w6 ⟨rfl, S6, hd6, he6, hi6⟩
        have O6 := Lib.hid (O5.out.turn hd6 he6 hi6)
        have OK6 : Hid (DD w6 Sk k t) := OK5.out.dd.ext he6 FAR5.out
        have hN6 : (u.crash []).N ≤ 1073741824 := by show u.N ≤ _; omega
        have hP6 : Hid ((u.crash []).P = []) := rfl
        clear hd6 he6 hi6
        generalize u.crash [] = v at *
        go_wp2_with fail
        refine (alike_yes Sk S6 k d t v w6 OK6.out O6.out.dd HLL.out HREAD.out).mono ?_
        rintro e w7 ⟨rfl, hb7⟩
        have O7 := Lib.hid (O6.out.go hb7)
        clear hb7
        go_wp2_with fail
        refine (w_pending S6 d v w7 O7.out.dd hP6.out hN6).mono ?_
        rintro e w8 ⟨g8, rfl, hb8⟩
        have O8 := Lib.hid (O7.out.go hb8)
        clear hb8
        go_wp2
        go_ret
        exact ⟨rfl, O8.out.below⟩
end Go.Proofs.Ytkemakemolohdaa.LLoses
