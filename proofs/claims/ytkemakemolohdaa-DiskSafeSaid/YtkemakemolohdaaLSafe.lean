/- DiskSafe walked: behind a flush no crash loses what was written; a crash that keeps all is a flush; one that keeps some turns only blocks with pending writes. -/
import Derived.Test.YtkemakemolohdaaLReads
import Derived.Deep.RegionHeld3
import Derived.Deep.DeepCutAuto
namespace Go.Proofs.Ytkemakemolohdaa.LSafe
open Go.RowKit WMem WPlain WAppend Ext Map DPlain DMem Mk DBase DRead DPend DWrite DFlush DPending DCopy RNew RRead RWrite RFlush DLaw LStep LStepP LAlike LAwake LMade LLoses LCopies LReads

def brow (n : Nat) : Array Value := ((List.replicate n false).map boolv).toArray
theorem brow_row (w : World) (n : Nat) : RowV (w.alloc (.cells (brow n) 4)) w.heap.size 4 ((List.replicate n false).map boolv) := row_new _ _
theorem made_bools (n : Nat) (hn : n ≤ 4096) (w : World) : (Instr.makeSlice 38 (.int .i64 (n : Int)) (.int .i64 (n : Int))).run Try.prog w = .ok (.slice (some ⟨w.heap.size, 0, none⟩) n n) (w.alloc (.cells (brow n) 4)) := by
  unfold brow
  obtain ⟨i, h1, h2, h3, h4⟩ := info_parts (P := Try.prog) (e := 4) (z := .bool false) (size := 1) (bytes := 1) (by kernel_rfl)
  have h := run_make (P := Try.prog) w 38 4 i (.bool false) (by kernel_rfl) h1 h2 .i64 .i64 n n (by omega) (by omega) (by rw [h4]; omega) (by omega)
  rw [h]
  simp only [Int.toNat_natCast, h3, Nat.mul_one]
  rw [List.map_replicate, show boolv false = Value.bool false from rfl, ← made_one]
  rfl
theorem elemB : Elem Try.prog 38 4 1 := ⟨by kernel_rfl, by
  obtain ⟨i, h1, h2, h3, h4⟩ := info_parts (P := Try.prog) (e := 4) (z := .bool false) (size := 1) (bytes := 1) (by kernel_rfl)
  exact ⟨i, _, h1, h2, h3, h4, rfl⟩⟩
theorem own_sl {w : World} {base : Nat} {e : TypeId} {n : Nat} {v : Value} {xs : List Value} (h : w.ownsRow base e 1 v n xs) : ∃ A c, v = .slice A n c ∧ Sl w w.heap.size A xs := by
  rcases h with ⟨hl, h1 | ⟨g, cap, cur, rfl, hb, hg, hnc, hcm, hcs, ht⟩⟩
  · obtain ⟨rfl, rfl⟩ := h1
    have : xs = [] := List.eq_nil_of_length_eq_zero (by simpa using hl)
    subst this
    exact ⟨none, 0, rfl, Sl.nil _ _ _⟩
  · exact ⟨_, cap, rfl, Sl.of_row hg (row_lt hg) ht⟩
theorem crash_flat {s : St} (h : s.P = []) (keep : List Bool) : (s.crash keep).L = s.L := by
  show doneTo _ s.L s.P s.P.length = s.L
  rw [h]
  rfl
theorem flush_read (s : St) {i : Nat} (hi : i < s.L.length) : s.flush.readAt i = s.readAt i := by
  rw [read_none (s := s.flush) rfl]
  show (doneTo (fun _ => true) s.L s.P s.P.length).getD i [] = _
  rw [doneTo_all s.L s.P i hi _ (Nat.le_refl _), List.take_length]
  rfl
theorem crash_all (s : St) : (s.crash (List.replicate s.P.length true)).L = s.flush.L := by
  show doneTo (keepF (List.replicate s.P.length true)) s.L s.P s.P.length = doneTo (fun _ => true) s.L s.P s.P.length
  exact doneTo_congr _ _ _ (fun i hi => by simp [keepF, List.getD_eq_getElem?_getD, hi])
theorem crash_other (s : St) (keep : List Bool) {i : Nat} (h : ∀ x ∈ s.P, x.1 ≠ i) : (s.crash keep).readAt i = s.readAt i := by
  rw [read_none (s := s.crash keep) rfl]
  show (doneTo (keepF keep) s.L s.P s.P.length).getD i [] = _
  rw [doneTo_other (keepF keep) s.L s.P h]
  unfold St.readAt
  rw [lastOf_none h]
  rfl
/-- the blocks with pending writes are marked -/
def Marked (P : List (Nat × List UInt8)) (bs : List Bool) (k : Nat) : Prop := ∀ (i : Nat) (h : i < P.length), i < k → bs[P[i].1]? = some true
theorem marked_set {P : List (Nat × List UInt8)} {bs : List Bool} {k : Nat} (h : Marked P bs k) (hk : k < P.length) (hb : P[k].1 < bs.length) : Marked P (bs.set P[k].1 true) (k + 1) := by
  intro i hi hik
  by_cases e : P[i].1 = P[k].1
  · rw [e, List.getElem?_set_self hb]
  · rw [List.getElem?_set_ne (fun e' => e e'.symm)]
    refine h i hi ?_
    by_cases e2 : i = k
    · subst e2; exact absurd rfl e
    · omega
theorem not_marked {P : List (Nat × List UInt8)} {bs : List Bool} (h : Marked P bs P.length) {i : Nat} (hb : bs[i]? = some false) : ∀ x ∈ P, x.1 ≠ i := by
  intro x hx e
  obtain ⟨j, hj, rfl⟩ := List.getElem_of_mem hx
  have h1 := h j hj hj
  rw [e, hb] at h1
  cases h1

set_option maxHeartbeats 8000000 in
set_option maxRecDepth 100000 in
theorem safe (blocks : Int) (ops : List OpV) (keep : List Bool) (A A' : Option Addr) (c c' : Nat) (w : World) (hA : OpsIn w w.heap.size A ops) (hA' : Sl w w.heap.size A' (keep.map boolv)) (hl : ops.length ≤ 140737488355328) :
    Calls Try.prog 5 #[.int .i64 blocks, .slice A ops.length c, .slice A' keep.length c'] w fun e w' => e = .returned (.bool true) ∧ Below w.heap.size w w' := by
  have HA := Lib.hid hA
  have HK := Lib.hid hA'
  clear hA hA'
  go_enter Try.func5, Try.ntmps5
  go_wp2_with fail
  refine (awake_any w).mono ?_
  rintro e w1 ⟨rfl, hb1⟩
  have hs1 := hb1.size
  have HB1 := Lib.hid hb1
  clear hb1
  go_wp2_with fail
  refine (made_any blocks ops w.heap.size A c w1 (HA.out.below HB1.out (Nat.le_refl _)) hs1 hl).mono ?_
  rintro e w2 ⟨d, S2, rfl, ho⟩
  have hN := (made_facts (128 + low127 blocks) ops (cut ops.length 500) (cut_le _ _)).1
  have O2 : Hid (Own w w2 S2 d _) := Own.up ho HB1.out
  clear ho
  generalize runs (St.new (128 + low127 blocks)) ops (cut ops.length 500) = s at *
  have hcnt := O2.out.dd.count
  have hlen := O2.out.dd.len
  have WF := Lib.hid O2.out.dd.wf
  go_wp2_with fail
  refine (copied O2.out (by omega)).mono ?_
  rintro e w3 ⟨x, Sx, rfl, hx, hb3, hn3⟩
  have X3 := Lib.hid hx
  have O3 := Lib.hid (O2.out.go hb3)
  have FX := Lib.hid (far_new O2.out.dd hn3)
  clear hx hb3 hn3
  go_wp2_with fail
  refine (Flush_ok Sx x s w3 X3.out.dd (by omega)).mono ?_
  rintro e w4 ⟨rfl, Sx4, hd4, he4, hi4⟩
  have X4 := Lib.hid (X3.out.turn hd4 he4 hi4)
  have O4 := Lib.hid (own_other O3.out X3.out he4 FX.out.symm)
  have FX4 : Hid (Far Sx4 S2) := FX.out.symm.step hi4 O3.out.dd.there
  have hNf : s.flush.N ≤ 501 := by show s.N + 1 ≤ 501; omega
  clear hd4 he4 hi4
  go_wp2_with fail
  refine (copied X4.out (by omega)).mono ?_
  rintro e w5 ⟨y, Sy, rfl, hy, hb5, hn5⟩
  have Y5 := Lib.hid hy
  have X5 := Lib.hid (X4.out.go hb5)
  have O5 := Lib.hid (O4.out.go hb5)
  have FYX := Lib.hid (far_new X4.out.dd hn5)
  have FYO := Lib.hid (far_new O4.out.dd hn5)
  clear hy hb5 hn5
  go_wp2_with fail
  refine (Crash_ok Sy y s.flush keep w.heap.size A' c' w5 Y5.out.dd (HK.out.below Y5.out.below) Y5.out.below.size (by omega)).mono ?_
  rintro e w6 ⟨rfl, Sy6, hd6, he6, hi6⟩
  have Y6 := Lib.hid (Y5.out.turn hd6 he6 hi6)
  have X6 := Lib.hid (own_other X5.out Y5.out he6 FYX.out.symm)
  have O6 := Lib.hid (own_other O5.out Y5.out he6 FYO.out.symm)
  clear hd6 he6 hi6
  go_wp2_with fail
  refine (copied O6.out (by omega)).mono ?_
  rintro e w7 ⟨z, Sz, rfl, hz, hb7, hn7⟩
  have Z7 := Lib.hid hz
  have Y7 := Lib.hid (Y6.out.go hb7)
  have X7 := Lib.hid (X6.out.go hb7)
  have O7 := Lib.hid (O6.out.go hb7)
  have FZY := Lib.hid (far_new Y6.out.dd hn7)
  have FZX := Lib.hid (far_new X6.out.dd hn7)
  have FZO := Lib.hid (far_new O6.out.dd hn7)
  clear hz hb7 hn7
  go_wp2_with fail
  refine (Pending_ok S2 d s w7 O7.out.dd (by omega)).mono ?_
  rintro e w8 ⟨gp, xs, rfl, hgp, hR8, hP8, hb8⟩
  have Z8 := Lib.hid (Z7.out.go hb8)
  have Y8 := Lib.hid (Y7.out.go hb8)
  have X8 := Lib.hid (X7.out.go hb8)
  have O8 := Lib.hid (O7.out.go hb8)
  have PN : Hid (xs.length = s.P.length * 2 ∧ ∀ (i : Nat) (h : i < s.P.length), xs[i * 2]? = some (.int .i64 (s.P[i].1 : Int))) := ⟨hP8.1, fun i hi => by obtain ⟨v, h1, _⟩ := hP8.2 i hi; exact h1⟩
  have R8 := Lib.hid hR8
  have HGZ : Hid (¬ Sz gp) := fun h => by have := Z7.out.dd.there gp h; omega
  have hgpl := hR8.lt
  clear hgp hR8 hP8 hb8
  go_wp2
  go_loopw [12, 14] (fun v i wr => ∃ k : Nat, k ≤ s.P.length ∧ i = .int .i64 k ∧ wr.ownsRow w8.heap.size 4 1 v k ((List.replicate k true).map boolv) ∧ Below w8.heap.size w8 wr) (fun _ i _ => s.P.length - (intOf i).toNat)
  case atStart => exact ⟨0, Nat.zero_le _, rfl, by simpa using World.ownsRow_nil w8 w8.heap.size 4 1, Below.refl _ _⟩
  case round =>
    obtain ⟨k, hk, rfl, ho, hb⟩ := hrel
    have HO := Lib.hid ho
    have HB := Lib.hid hb
    have sB := hb.size
    clear ho hb
    by_cases hlt : k < s.P.length
    · have HX : Hid (Sl (wr.alloc (.cells #[.bool true] 4)) (wr.heap.size + 1) (some ⟨wr.heap.size, 0, none⟩) [.bool true]) := Sl.of_row (n := 1) (row_new _ _) (by omega) rfl
      have HO2 := Lib.hid (HO.out.alloc (.cells #[.bool true] 4))
      go_wp2_with (at_builtin; go_loud (refine wl_append rfl (.tmp 52) (.tmp 53) 38 rfl w8.heap.size 4 1 elemB _ k _ rfl HO2.out (wr.heap.size + 1) (some ⟨wr.heap.size, 0, none⟩) 1 1 [.bool true] rfl rfl HX.out (by simp [Value.oneCell']) (by omega) (by unfold maxLen; omega) (by simp; omega) ?_); intro v' w9 h1 h2 h3
                   have b1 : Below w8.heap.size w8 w9 := (HB.out.alloc sB _).grown h2 (by simp; omega) (fun q hq => (HO.out.lt q hq).1)
                   have H1 := Lib.hid h1
                   have HB9 := Lib.hid b1
                   clear h1 h2 h3 b1)
      go_roundw
      case rel =>
        refine ⟨k + 1, by omega, by go_num, ?_, HB9.out⟩
        have h1 := H1.out
        rw [List.replicate_succ', List.map_append]
        exact h1
      case measure => simp [intOf]; omega
    · obtain rfl : k = s.P.length := by omega
      obtain ⟨A9, c9, rfl, hs9⟩ := own_sl HO.out
      have Z9 := Lib.hid (Z8.out.go HB.out)
      have Y9 := Lib.hid (Y8.out.go HB.out)
      have X9 := Lib.hid (X8.out.go HB.out)
      have O9 := Lib.hid (O8.out.go HB.out)
      have R9 := Lib.hid (R8.out.keep HB.out hgpl)
      have HS9 := Lib.hid hs9
      clear hs9
      have hcr : Calls Try.prog 19 #[.pointer (some ⟨z, 0, none⟩), .slice A9 s.P.length c9] wr fun e w' => e = .returned (.tuple #[]) ∧ ∃ S', DD w' S' z (s.crash (List.replicate s.P.length true)) ∧ Ext Sz wr w' ∧ In S' Sz wr := by
        have h1 := Crash_ok Sz z s (List.replicate s.P.length true) wr.heap.size A9 c9 wr Z9.out.dd HS9.out (Nat.le_refl _) (by omega)
        rw [List.length_replicate] at h1
        exact h1
      have HCR := Lib.hid hcr
      clear hcr
      go_wp2_with fail
      refine HCR.out.mono ?_
      rintro e w10 ⟨rfl, Sz10, hd10, he10, hi10⟩
      have Z10 := Lib.hid (Z9.out.turn hd10 he10 hi10)
      have Y10 := Lib.hid (own_other Y9.out Z9.out he10 FZY.out.symm)
      have X10 := Lib.hid (own_other X9.out Z9.out he10 FZX.out.symm)
      have O10 := Lib.hid (own_other O9.out Z9.out he10 FZO.out.symm)
      have R10 : Hid (RowV w10 gp 56 xs) := (he10.block gp R9.out.lt HGZ.out).trans R9.out
      clear hd10 he10 hi10
      have E1 : Hid (s.flush.L.length = (s.flush.crash keep).L.length ∧ ∀ i, i < s.flush.L.length → s.flush.readAt i = (s.flush.crash keep).readAt i) := ⟨by rw [crash_flat (s := s.flush) rfl], fun i _ => by
        rw [read_none (s := s.flush) rfl, read_none (s := s.flush.crash keep) rfl, crash_flat (s := s.flush) rfl]⟩
      have E2 : Hid (s.flush.L.length = (s.crash (List.replicate s.P.length true)).L.length ∧ ∀ i, i < s.flush.L.length → s.flush.readAt i = (s.crash (List.replicate s.P.length true)).readAt i) := ⟨by rw [crash_all], fun i _ => by
        rw [read_none (s := s.flush) rfl, read_none (s := s.crash _) rfl, crash_all]⟩
      have E3 : Hid (s.flush.L.length = s.L.length ∧ ∀ i, i < s.flush.L.length → s.flush.readAt i = s.readAt i) := by
        have e : s.flush.L.length = s.L.length := doneTo_len ..
        exact ⟨e, fun i hi => flush_read s (by omega)⟩
      go_wp2_with fail
      refine (alike_yes Sx4 Sy6 x y _ _ w10 X10.out.dd Y10.out.dd E1.out.1 E1.out.2).mono ?_
      rintro e w11 ⟨rfl, hb11⟩
      have X11 := Lib.hid (X10.out.go hb11)
      have Z11 := Lib.hid (Z10.out.go hb11)
      have O11 := Lib.hid (O10.out.go hb11)
      have R11 := Lib.hid (R10.out.keep hb11 R10.out.lt)
      clear hb11
      go_wp2_with fail
      refine (alike_yes Sx4 Sz10 x z _ _ w11 X11.out.dd Z11.out.dd E2.out.1 E2.out.2).mono ?_
      rintro e w12 ⟨rfl, hb12⟩
      have X12 := Lib.hid (X11.out.go hb12)
      have O12 := Lib.hid (O11.out.go hb12)
      have R12 := Lib.hid (R11.out.keep hb12 R11.out.lt)
      clear hb12
      go_wp2_with fail
      refine (alike_yes Sx4 S2 x d _ _ w12 X12.out.dd O12.out.dd E3.out.1 E3.out.2).mono ?_
      rintro e w13 ⟨rfl, hb13⟩
      have O13 := Lib.hid (O12.out.go hb13)
      have R13 := Lib.hid (R12.out.keep hb13 R12.out.lt)
      clear hb13
      go_wp2_with fail
      refine (copied O13.out (by omega)).mono ?_
      rintro e w14 ⟨q, Sq, rfl, hq, hb14, hn14⟩
      have Q14 := Lib.hid hq
      have O14 := Lib.hid (O13.out.go hb14)
      have FQ := Lib.hid (far_new O13.out.dd hn14)
      have HGQ : Hid (¬ Sq gp) := fun h => by have := hn14 gp h; have := R13.out.lt; omega
      have R14 := Lib.hid (R13.out.keep hb14 R13.out.lt)
      clear hq hb14 hn14
      go_wp2_with fail
      refine (Crash_ok Sq q s keep w.heap.size A' c' w14 Q14.out.dd (HK.out.below Q14.out.below) Q14.out.below.size (by omega)).mono ?_
      rintro e w15 ⟨rfl, Sq15, hd15, he15, hi15⟩
      have Q15 := Lib.hid (Q14.out.turn hd15 he15 hi15)
      have O15 := Lib.hid (own_other O14.out Q14.out he15 FQ.out.symm)
      have R15 : Hid (RowV w15 gp 56 xs) := (he15.block gp R14.out.lt HGQ.out).trans R14.out
      clear hd15 he15 hi15 E1 E2 E3 X12 X11 X10 X9 X8 X7 X6 X5 X4 X3 Y10 Y9 Y8 Y7 Y6 Y5 Z11 Z10 Z9 Z8 Z7 O14 O13 O12 O11 O10 O9 O8 O7 O6 O5 O4 O3 O2 FX FX4 FYX FYO FZY FZX FZO FQ HGZ HGQ HCR HS9 R14 R13 R12 R11 R10 R9 R8 HO HB Q14
      have hmk := made_bools s.L.length hlen.2 w15
      go_wp2_with fail
      refine (Blocks_at d _ w15 O15.out.dd.c0).mono ?_
      rintro e w' ⟨rfl, rfl⟩
      go_wp2
      clear hmk
      have hu16 : Hid (Below w15.heap.size w15 (w15.alloc (.cells (brow s.L.length) 4))) := (Below.refl _ _).alloc (Nat.le_refl _) _
      have R16 := Lib.hid (brow_row w15 s.L.length)
      have hgp15 := R15.out.lt
      go_loopw [17] (fun i wt => ∃ (j : Nat) (bs : List Bool), j ≤ s.P.length ∧ i = .int .i64 j ∧ bs.length = s.L.length ∧ RowV wt w15.heap.size 4 (bs.map boolv) ∧ Marked s.P bs j ∧ Below w15.heap.size w15 wt) (fun i _ => s.P.length - (intOf i).toNat)
      case atStart => exact ⟨0, _, Nat.zero_le _, rfl, List.length_replicate, R16.out, (fun i _ h => by cases h), hu16.out⟩
      case round =>
        obtain ⟨j, bs, hj, rfl, hbl, hR, hM, hb⟩ := hrel
        have HR := Lib.hid hR
        have HM := Lib.hid hM
        have HB := Lib.hid hb
        have hsr := hb.size
        clear hR hM hb
        by_cases hlt : j < s.P.length
        · have hn := (WF.out.pend _ (List.getElem_mem hlt)).1
          have hRp := R15.out.keep HB.out hgp15
          have hxl : j * 2 < xs.length := by rw [PN.out.1]; omega
          have r0 : wr.cell? ⟨gp, j * 2, none⟩ = some (.int .i64 (s.P[j].1 : Int)) := by
            rw [hRp.cell hxl]
            have h1 := PN.out.2 j hlt
            rw [List.getElem?_eq_getElem hxl] at h1
            exact h1
          have HMS : Hid (Marked s.P (bs.set s.P[j].1 true) (j + 1)) := marked_set HM.out hlt (by omega)
          clear hRp hxl
          generalize s.P[j].1 = n at *
          have t0 : wr.cell? ⟨w15.heap.size, n, none⟩ = some (.bool bs[n]) := by
            rw [HR.out.cell (by rw [List.length_map]; omega), List.getElem_map]
            rfl
          have t1 := HR.out.free n
          have hj0 : (0 : Int) ≤ (j : Int) := Int.natCast_nonneg _
          have hj1 : (j : Int) < (s.P.length : Int) := by omega
          have hn0 : (0 : Int) ≤ (n : Int) := Int.natCast_nonneg _
          have hn1 : (n : Int) < (s.L.length : Int) := by omega
          go_wp2
          go_roundw
          case rel =>
            refine ⟨j + 1, bs.set n true, by omega, by go_num, by rw [List.length_set]; exact hbl, ?_, HMS.out, HB.out.setCell (Nat.le_refl _) _⟩
            rw [List.map_set]
            exact HR.out.set n (.bool true)
          case measure => simp [intOf]; omega
        · obtain rfl : j = s.P.length := by omega
          have O17 := Lib.hid (O15.out.go HB.out)
          have Q17 := Lib.hid (Q15.out.go HB.out)
          have hgb := HR.out.lt
          go_wp2
          clear O15 Q15 HB R15 R16 hu16 PN
          go_loopw [18] (fun i wt => ∃ k : Nat, k ≤ s.L.length ∧ i = .int .i64 k ∧ Below wr.heap.size wr wt) (fun i _ => s.L.length - (intOf i).toNat)
          case atStart => exact ⟨0, Nat.zero_le _, rfl, Below.refl _ _⟩
          case round =>
            obtain ⟨k, hk, rfl, hb⟩ := hrel
            have O18 := Lib.hid (O17.out.go hb)
            have Q18 := Lib.hid (Q17.out.go hb)
            have HR18 := Lib.hid (HR.out.keep hb hgb)
            have HB18 := Lib.hid hb
            have hsr2 := hb.size
            clear hb
            have hm : (s.crash keep).L.length = s.L.length := doneTo_len ..
            by_cases hlt2 : k < s.L.length
            · go_wp2_with fail
              refine (Blocks_at d s.L.length wr O18.out.dd.c0).mono ?_
              rintro e w' ⟨rfl, rfl⟩
              go_wp2_with fail
              refine (Read_yes S2 d k s wr O18.out.dd hlt2).mono ?_
              rintro e w21 ⟨g1, rfl, hg1, hR1, hb1⟩
              have Q21 := Lib.hid (Q18.out.go hb1)
              have O21 := Lib.hid (O18.out.go hb1)
              have HB21 := Lib.hid (HB18.out.trans (hb1.mono hsr2))
              have HR1 := Lib.hid hR1
              have hgl := hR1.lt
              clear hg1 hR1 hb1
              go_wp2_with fail
              refine (Read_yes Sq15 q k (s.crash keep) w21 Q21.out.dd (by omega)).mono ?_
              rintro e w22 ⟨g2, rfl, hg2, hR2, hb2⟩
              have HB22 := Lib.hid (HB21.out.trans (hb2.mono HB21.out.size))
              have HR2 := Lib.hid hR2
              have HR12 := Lib.hid (HR1.out.keep hb2 hgl)
              have HT := Lib.hid (HR.out.keep HB22.out hgb)
              clear hg2 hR2 hb2
              have hk0 : (0 : Int) ≤ (k : Int) := Int.natCast_nonneg _
              have hk1 : (k : Int) < (s.L.length : Int) := by omega
              have hkb : k < bs.length := by omega
              have hc : w22.cell? ⟨w15.heap.size, k, none⟩ = some (.bool bs[k]) := by
                rw [HT.out.cell (by rw [List.length_map]; omega), List.getElem_map]
                rfl
              have HBK := Lib.hid (List.getElem?_eq_getElem hkb)
              generalize hbk : bs[k] = bk at *
              cases bk with
              | true =>
                go_wp2
                go_roundw
                case rel => exact ⟨k + 1, by omega, by go_num, HB22.out⟩
                case measure => simp [intOf]; omega
              | false =>
                have HSAME := Lib.hid (crash_other s keep (not_marked HM.out HBK.out))
                go_wp2_with fail
                refine (Same_blk (s.readAt k) (fun _ => True) (fun _ => True) _ _ w22 ⟨g1, 256, [], rfl, trivial, WF.out.read hlt2, Nat.le_refl _, HR12.out⟩ ⟨g2, 256, [], rfl, trivial, WF.out.read hlt2, Nat.le_refl _, by rw [← HSAME.out]; exact HR2.out⟩).mono ?_
                rintro e w23 ⟨rfl, n, rfl⟩
                go_wp2
                go_roundw
                case rel => exact ⟨k + 1, by omega, by go_num, below_drewN HB22.out n⟩
                case measure => simp [intOf]; omega
            · obtain rfl : k = s.L.length := by omega
              go_wp2_with fail
              refine (Blocks_at d s.L.length wr O18.out.dd.c0).mono ?_
              rintro e w' ⟨rfl, rfl⟩
              go_wp2_with fail
              refine (w_pending Sq15 q (s.crash keep) wr Q18.out.dd rfl (by show s.N ≤ _; omega)).mono ?_
              rintro e w21 ⟨g1, rfl, hb1⟩
              have O21 := Lib.hid (O18.out.go hb1)
              clear hb1
              go_wp2
              go_ret
              exact ⟨rfl, O21.out.below⟩
end Go.Proofs.Ytkemakemolohdaa.LSafe
