/- The program's disk: settle, Flush and Crash. (Written by wip/tools/gen_settle.py.) -/
import Derived.Test.YtkemakemolohdaaDWrite
namespace Go.Proofs.Ytkemakemolohdaa.DSettle
open Go.RowKit WMem WPlain WAppend Ext Map DPlain DMem Mk DBase DRead DPend DWrite

theorem done_set {w : World} {S : Nat → Prop} {f : Int → Option Value} {L : List (List UInt8)} {n : Nat} {v : Value} {l : List UInt8} (h : DoneOf w S f L) (hn : n < L.length) (hv : IsBlk w S v l) : DoneOf w S (upd f n v) (L.set n l) := by
  refine ⟨fun k u hu => ?_, fun k hk hf => ?_⟩
  · unfold upd at hu
    by_cases e : k = (n : Int)
    · rw [if_pos e] at hu
      injection hu with hu
      subst hu
      exact ⟨n, by simpa using hn, e, by simpa using hv⟩
    · rw [if_neg e] at hu
      obtain ⟨j, hj, h1, h2⟩ := h.1 k u hu
      exact ⟨j, by simpa using hj, h1, by rw [List.getElem_set_ne (by omega)]; exact h2⟩
  · unfold upd at hf
    by_cases e : (k : Int) = (n : Int)
    · rw [if_pos e] at hf; cases hf
    · rw [if_neg e] at hf
      rw [List.getElem_set_ne (by omega)]
      exact h.2 k (by simpa using hk) hf
theorem four_at {w : World} {b : Nat} {a0 a1 a2 a3 a4 : Value} {T : TypeId} (h : w.heap[b]? = some (Obj.cells #[a0, a1, a2, a3, a4] T (0, 0))) (x : Value) (o : Obj) :
    ((w.setCell ⟨b, 3, none⟩ x).alloc o).cell? ⟨b, 4, none⟩ = some a4 ∧ ((w.setCell ⟨b, 3, none⟩ x).alloc o).frozen? ⟨b, 4, none⟩ = false := by
  have h1 := row_alloc (row_set h 3 x) o
  exact ⟨by rw [row_cell h1]; simp, row_free h1 4⟩
/-- what is left alone while the map of what stands for good is written -/
theorem all_stay {w w' : World} {S : Nat → Prop} {b m1 m2 n1 n2 : Nat} {s : St} {f h : Int → Option Value} {Pv : Value} {ys : List Value} (hd : DDx w S b s m1 m2 n1 n2 f h Pv ys) (he : Ext (fun j => j = m1) w w') :
    w'.heap[b]? = w.heap[b]? ∧ (∀ (k : Nat) (o : Array Value) (t : TypeId) (z : Nat × Nat), w.heap[k]? = some (Obj.cells o t z) → w'.heap[k]? = w.heap[k]?) := by
  have h1 : ∀ (k : Nat) (o : Array Value) (t : TypeId) (z : Nat × Nat), w.heap[k]? = some (Obj.cells o t z) → w'.heap[k]? = w.heap[k]? := fun k o t z hk => he.block k (row_lt hk) (fun e => hd.done.ne hk e)
  exact ⟨h1 b _ _ _ hd.block, h1⟩
theorem settle_end {w w' : World} {S : Nat → Prop} {b m1 m2 n1 n2 n : Nat} {s : St} {f h f' : Int → Option Value} {Pv : Value} {ys : List Value} {L' : List (List UInt8)} (hd : DDx w S b s m1 m2 n1 n2 f h Pv ys) (he : Ext (fun j => j = m1) w w')
    (hm : MapIs w' m1 n f') (hdo : DoneOf w' S f' L') (hL : L'.length = s.L.length) (hwf : ∀ l ∈ L', l.length = 256) :
    DDx (((w'.setCell ⟨b, 3, none⟩ (.slice none 0 0)).alloc (.map #[] 0)).setCell ⟨b, 4, none⟩ (.map (some w'.heap.size))) (Plus S w (w'.alloc (.map #[] 0))) b ⟨L', [], s.N⟩ m1 w'.heap.size n 0 f' (fun _ => none) (.slice none 0 0) [] ∧
    Ext S w (((w'.setCell ⟨b, 3, none⟩ (.slice none 0 0)).alloc (.map #[] 0)).setCell ⟨b, 4, none⟩ (.map (some w'.heap.size))) := by
  obtain ⟨hb, hrow⟩ := all_stay hd he
  have hb' := hb.trans hd.block
  have lb := row_lt hb'
  have q1 := row_set hb' 3 (.slice none 0 0)
  have q2 := row_alloc q1 (.map #[] 0)
  have q3 := row_set q2 4 (.map (some w'.heap.size))
  have hs := he.size
  have keep : ∀ k, k ≠ b → k < w'.heap.size → (((w'.setCell ⟨b, 3, none⟩ (.slice none 0 0)).alloc (.map #[] 0)).setCell ⟨b, 4, none⟩ (.map (some w'.heap.size))).heap[k]? = w'.heap[k]? := fun k hk hl => by
    rw [Below.heap_setCell _ _ _ _ (by simpa using hk), Below.heap_alloc _ _ _ (by simpa [World.setCell] using hl), Below.heap_setCell _ _ _ _ (by simpa using hk)]
  have kr : ∀ k o, S k → w'.heap[k]? = some (.cells o 5 (0, 0)) → (((w'.setCell ⟨b, 3, none⟩ (.slice none 0 0)).alloc (.map #[] 0)).setCell ⟨b, 4, none⟩ (.map (some w'.heap.size))).heap[k]? = w'.heap[k]? := fun k o _ ho => keep k (fun e => by
    subst e
    rw [hb'] at ho
    injection ho with ho
    injection ho with _ ho
    exact absurd ho (by decide)) (row_lt ho)
  have hsz : (w'.setCell ⟨b, 3, none⟩ (.slice none 0 0)).heap.size = w'.heap.size := by simp [World.setCell]
  have l1 : m1 < w'.heap.size := hm.lt
  refine ⟨⟨.inl hd.here, ?_, .inl hd.in1, .inr ⟨hs, by simp⟩, by omega, hm.keep (keep m1 (Ne.symm (hm.ne hb')) l1), ?_, ⟨World.ownsRow_nil _ _ _ _, fun g hg => (by cases hg)⟩, ⟨rfl, fun i hi => (by cases hi)⟩, (hdo.keep kr).more (fun k hk => .inl hk), ⟨fun k v hv => (by cases hv), fun _ _ => rfl⟩, ⟨hwf, fun x hx => (by cases hx)⟩, by rw [hL]; exact hd.pos, by rw [hL]; exact hd.most, ?_⟩, ?_⟩
  · rw [q3]; simp [hL]
  · have h1 := MapIs.made (w'.setCell ⟨b, 3, none⟩ (.slice none 0 0))
    rw [hsz] at h1
    exact h1.keep (Below.heap_setCell _ _ _ _ (by simp; omega))
  · intro k hk
    rcases hk with hk | hk
    · have := hd.there k hk; simp [World.setCell] at *; omega
    · have := hk.2; simp [World.setCell] at *; omega
  · exact ((((he.more (S' := S) (fun k _ hk => hk ▸ hd.in1)).setCell (.inl hd.here) _).alloc _).setCell (.inl hd.here) _)

set_option maxHeartbeats 1600000 in
set_option maxRecDepth 100000 in
theorem settle_all (S : Nat → Prop) (b : Nat) (s : St) (m1 m2 n1 n2 : Nat) (f h : Int → Option Value) (Pv : Value) (ys : List Value) (keeps : Nat → Bool) (w : World) (hd : DDx w S b s m1 m2 n1 n2 f h Pv ys)
    (hP : s.P.length ≤ 1073741824) (hn1 : n1 ≤ 1073741824)
    (hk : ∀ (wr : World) (i : Nat), Ext (fun j => j = m1) w wr → Calls Try.prog 35 #[.int .i64 i] wr fun e w' => e = .returned (.bool (keeps i)) ∧ wr = w') :
    Calls Try.prog 34 #[.pointer (some ⟨b, 0, none⟩), .func (.func 35) #[] #[]] w fun e w' =>
      e = .returned (.tuple #[]) ∧ ∃ S' m f', DDx w' S' b (s.settled keeps) m1 m (n1 + s.P.length) 0 f' (fun _ => none) (.slice none 0 0) [] ∧ Ext S w w' ∧ In S' S w := by
  obtain ⟨A, cap, hPv, hcap, hat⟩ := P_at hd.rowP hd.eachP
  subst hPv
  have c3 := hd.c3
  have HD := Lib.hid hd
  have HAT := Lib.hid hat
  have HK := Lib.hid hk
  have hmm := @run_makeMap Try.prog
  clear hd hat hk
  go_enter Try.func34, Try.ntmps34
  go_wp2
  go_loopw [11] (fun i wr => ∃ (k : Nat) (f' : Int → Option Value), k ≤ s.P.length ∧ i = .int .i64 k ∧ MapIs wr m1 (n1 + k) f' ∧ DoneOf wr S f' (doneTo keeps s.L s.P k) ∧ Ext (fun j => j = m1) w wr) (fun i _ => s.P.length - (intOf i).toNat)
  case atStart => exact ⟨0, f, Nat.zero_le _, rfl, HD.out.done, HD.out.doneOf, Ext.refl _ _⟩
  case round =>
    obtain ⟨k, f', hkk, rfl, hm, hdo, hext⟩ := hrel
    have HM := Lib.hid hm
    have HDO := Lib.hid hdo
    have HE := Lib.hid hext
    clear hm hdo hext
    by_cases hlt : k < s.P.length
    · obtain ⟨g, u, rfl, hg, p0, p1, hu⟩ := HAT.out k hlt
      have hpn := HD.out.wf.pend _ (List.getElem_mem hlt)
      have HPN := Lib.hid hpn.1
      obtain ⟨g0, c0, rest, rfl, hg0, hl, hc, hr⟩ := id hu
      have cell_at : ∀ q : Addr, q.block ≠ m1 → q.block < w.heap.size → wr.cell? q = w.cell? q := fun q h1 h2 => World.cell?_of_block (HE.out.block q.block h2 h1)
      have gm : g ≠ m1 := fun e => by
        subst e
        obtain ⟨D, ⟨es, cl, hb, _⟩, _⟩ := HD.out.done
        rw [World.cell?, hb] at p0
        cases p0
      have r0 := (cell_at ⟨g, k * 2, none⟩ gm (HD.out.there _ hg)).trans p0
      have r1 := (cell_at ⟨g, k * 2 + 1, none⟩ gm (HD.out.there _ hg)).trans p1
      have hk0 : (0 : Int) ≤ (k : Int) := Int.natCast_nonneg _
      have hk1 : (k : Int) < (s.P.length : Int) := by omega
      have HU := Lib.hid hu
      have hfit : s.P[k].1 ≤ 4096 := by have := HD.out.most; omega
      have HY := Lib.hid (doneTo_yes keeps s.L s.P hlt)
      clear hu cell_at p0 p1 hr hl hpn
      generalize s.P[k].1 = n at *
      generalize s.P[k].2 = lk at *
      go_wp2_with fail
      refine (HK.out (wr.alloc (.cells #[.int .i64 n, .slice (some ⟨g0, 0, none⟩) 256 c0] 56)) k (HE.out.alloc _)).mono ?_
      rintro e w' ⟨rfl, rfl⟩
      rcases Bool.eq_false_or_eq_true (keeps k) with hkp | hkp
      · rw [hkp]
        have HKP := Lib.hid hkp
        clear hkp
        obtain ⟨hb1, hrow1⟩ := all_stay HD.out (HE.out.alloc (.cells #[.int .i64 n, .slice (some ⟨g0, 0, none⟩) 256 c0] 56))
        have hrow0 := row_new wr (.cells #[.int .i64 n, .slice (some ⟨g0, 0, none⟩) 256 c0] 56)
        have hm1 := HM.out.alloc (.cells #[.int .i64 n, .slice (some ⟨g0, 0, none⟩) 256 c0] 56)
        have HE1 := Lib.hid (HE.out.alloc (.cells #[.int .i64 n, .slice (some ⟨g0, 0, none⟩) 256 c0] 56))
        generalize wr.alloc (.cells #[.int .i64 n, .slice (some ⟨g0, 0, none⟩) 256 c0] 56) = W1 at *
        have c2 : W1.cell? ⟨b, 2, none⟩ = some (.map (some m1)) := by rw [row_cell (hb1.trans HD.out.block)]; rfl
        have x0 : W1.cell? ⟨wr.heap.size, 0, none⟩ = some (.int .i64 n) := by rw [row_cell hrow0]; rfl
        have x1 : W1.cell? ⟨wr.heap.size, 1, none⟩ = some (.slice (some ⟨g0, 0, none⟩) 256 c0) := by rw [row_cell hrow0]; rfl
        obtain ⟨W2, hrun, hm2, hturn⟩ := (MapIs.keep (w' := W1.drew) hm1 rfl).store (fits_nat hfit) (by unfold maxLen; omega) (.slice (some ⟨g0, 0, none⟩) 256 c0)
        have hext2 : Ext (fun j => j = m1) w W2 := HE1.out.drew.trans (Ext.of_grown hturn.grown (fun k hk _ => (Option.some.inj hk).symm)) (fun k hk => .inl hk)
        have HM2 := Lib.hid hm2
        have HE2 := Lib.hid hext2
        clear hm2 hturn hext2 hm1 hb1 hrow1 hrow0
        go_wp2
        go_still_tail 8, (by kernel_rfl)
        go_wp2
        go_roundw
        case rel =>
          have kr : ∀ k o, S k → wr.heap[k]? = some (.cells o 5 (0, 0)) → W2.heap[k]? = wr.heap[k]? := fun j o hj ho => by
            have h1 := HD.out.there j hj
            have h0 : j ≠ m1 := fun e => HM.out.ne ho e
            rw [HE2.out.block j h1 h0, HE.out.block j h1 h0]
          have h2 : IsBlk W2 S _ lk := HU.out.keep (fun j o hj ho => (all_stay HD.out HE2.out).2 j _ _ _ ho)
          refine ⟨k + 1, _, by omega, by go_num, HM2.out, ?_, HE2.out⟩
          rw [HY.out HKP.out]
          exact done_set (HDO.out.keep kr) (by rw [doneTo_len]; exact HPN.out) h2
        case measure => simp [intOf]; omega
      · rw [hkp]
        have HKP := Lib.hid hkp
        clear hkp
        go_wp2
        go_roundw
        case rel =>
          refine ⟨k + 1, f', by omega, by go_num, (HM.out.alloc _).mono (by omega), ?_, HE.out.alloc _⟩
          rw [doneTo_no _ _ _ HKP.out]
          exact HDO.out.keep (fun j o hj ho => Below.heap_alloc wr _ j (row_lt ho))
        case measure => simp [intOf]; omega
    · obtain rfl : k = s.P.length := by omega
      have hb' := (all_stay HD.out HE.out).1.trans HD.out.block
      have d3 : wr.cell? ⟨b, 3, none⟩ = some _ := (row_cell hb' 3).trans rfl
      have e3 := row_free hb' 3
      have d4 : wr.cell? ⟨b, 4, none⟩ = some _ := (row_cell hb' 4).trans rfl
      have e4 := row_free hb' 4
      obtain ⟨d5, e5⟩ := four_at hb' (.slice none 0 0) (.map #[] 0)
      have HEND := Lib.hid (settle_end HD.out HE.out HM.out HDO.out (doneTo_len ..) (doneTo_each keeps HD.out.wf.each (fun x hx => (HD.out.wf.pend x hx).2) _))
      clear hb'
      go_wp2
      go_end0
      exact ⟨rfl, _, _, _, HEND.out.1, HEND.out.2, fun k hk => plus_in k hk⟩

set_option maxHeartbeats 1600000 in
set_option maxRecDepth 100000 in
theorem settle_some (S : Nat → Prop) (b : Nat) (s : St) (m1 m2 n1 n2 : Nat) (f h : Int → Option Value) (Pv : Value) (ys : List Value) (keeps : Nat → Bool) (cb : Nat) (w : World) (hd : DDx w S b s m1 m2 n1 n2 f h Pv ys)
    (hP : s.P.length ≤ 1073741824) (hn1 : n1 ≤ 1073741824)
    (hk : ∀ (wr : World) (i : Nat), Ext (fun j => j = m1) w wr → Calls Try.prog 39 #[.int .i64 i, .pointer (some ⟨cb, 0, none⟩)] wr fun e w' => e = .returned (.bool (keeps i)) ∧ wr = w') :
    Calls Try.prog 34 #[.pointer (some ⟨b, 0, none⟩), .func (.func 39) #[] #[.pointer (some ⟨cb, 0, none⟩)]] w fun e w' =>
      e = .returned (.tuple #[]) ∧ ∃ S' m f', DDx w' S' b (s.settled keeps) m1 m (n1 + s.P.length) 0 f' (fun _ => none) (.slice none 0 0) [] ∧ Ext S w w' ∧ In S' S w := by
  obtain ⟨A, cap, hPv, hcap, hat⟩ := P_at hd.rowP hd.eachP
  subst hPv
  have c3 := hd.c3
  have HD := Lib.hid hd
  have HAT := Lib.hid hat
  have HK := Lib.hid hk
  have hmm := @run_makeMap Try.prog
  clear hd hat hk
  go_enter Try.func34, Try.ntmps34
  go_wp2
  go_loopw [11] (fun i wr => ∃ (k : Nat) (f' : Int → Option Value), k ≤ s.P.length ∧ i = .int .i64 k ∧ MapIs wr m1 (n1 + k) f' ∧ DoneOf wr S f' (doneTo keeps s.L s.P k) ∧ Ext (fun j => j = m1) w wr) (fun i _ => s.P.length - (intOf i).toNat)
  case atStart => exact ⟨0, f, Nat.zero_le _, rfl, HD.out.done, HD.out.doneOf, Ext.refl _ _⟩
  case round =>
    obtain ⟨k, f', hkk, rfl, hm, hdo, hext⟩ := hrel
    have HM := Lib.hid hm
    have HDO := Lib.hid hdo
    have HE := Lib.hid hext
    clear hm hdo hext
    by_cases hlt : k < s.P.length
    · obtain ⟨g, u, rfl, hg, p0, p1, hu⟩ := HAT.out k hlt
      have hpn := HD.out.wf.pend _ (List.getElem_mem hlt)
      have HPN := Lib.hid hpn.1
      obtain ⟨g0, c0, rest, rfl, hg0, hl, hc, hr⟩ := id hu
      have cell_at : ∀ q : Addr, q.block ≠ m1 → q.block < w.heap.size → wr.cell? q = w.cell? q := fun q h1 h2 => World.cell?_of_block (HE.out.block q.block h2 h1)
      have gm : g ≠ m1 := fun e => by
        subst e
        obtain ⟨D, ⟨es, cl, hb, _⟩, _⟩ := HD.out.done
        rw [World.cell?, hb] at p0
        cases p0
      have r0 := (cell_at ⟨g, k * 2, none⟩ gm (HD.out.there _ hg)).trans p0
      have r1 := (cell_at ⟨g, k * 2 + 1, none⟩ gm (HD.out.there _ hg)).trans p1
      have hk0 : (0 : Int) ≤ (k : Int) := Int.natCast_nonneg _
      have hk1 : (k : Int) < (s.P.length : Int) := by omega
      have HU := Lib.hid hu
      have hfit : s.P[k].1 ≤ 4096 := by have := HD.out.most; omega
      have HY := Lib.hid (doneTo_yes keeps s.L s.P hlt)
      clear hu cell_at p0 p1 hr hl hpn
      generalize s.P[k].1 = n at *
      generalize s.P[k].2 = lk at *
      go_wp2_with fail
      refine (HK.out (wr.alloc (.cells #[.int .i64 n, .slice (some ⟨g0, 0, none⟩) 256 c0] 56)) k (HE.out.alloc _)).mono ?_
      rintro e w' ⟨rfl, rfl⟩
      rcases Bool.eq_false_or_eq_true (keeps k) with hkp | hkp
      · rw [hkp]
        have HKP := Lib.hid hkp
        clear hkp
        obtain ⟨hb1, hrow1⟩ := all_stay HD.out (HE.out.alloc (.cells #[.int .i64 n, .slice (some ⟨g0, 0, none⟩) 256 c0] 56))
        have hrow0 := row_new wr (.cells #[.int .i64 n, .slice (some ⟨g0, 0, none⟩) 256 c0] 56)
        have hm1 := HM.out.alloc (.cells #[.int .i64 n, .slice (some ⟨g0, 0, none⟩) 256 c0] 56)
        have HE1 := Lib.hid (HE.out.alloc (.cells #[.int .i64 n, .slice (some ⟨g0, 0, none⟩) 256 c0] 56))
        generalize wr.alloc (.cells #[.int .i64 n, .slice (some ⟨g0, 0, none⟩) 256 c0] 56) = W1 at *
        have c2 : W1.cell? ⟨b, 2, none⟩ = some (.map (some m1)) := by rw [row_cell (hb1.trans HD.out.block)]; rfl
        have x0 : W1.cell? ⟨wr.heap.size, 0, none⟩ = some (.int .i64 n) := by rw [row_cell hrow0]; rfl
        have x1 : W1.cell? ⟨wr.heap.size, 1, none⟩ = some (.slice (some ⟨g0, 0, none⟩) 256 c0) := by rw [row_cell hrow0]; rfl
        obtain ⟨W2, hrun, hm2, hturn⟩ := (MapIs.keep (w' := W1.drew) hm1 rfl).store (fits_nat hfit) (by unfold maxLen; omega) (.slice (some ⟨g0, 0, none⟩) 256 c0)
        have hext2 : Ext (fun j => j = m1) w W2 := HE1.out.drew.trans (Ext.of_grown hturn.grown (fun k hk _ => (Option.some.inj hk).symm)) (fun k hk => .inl hk)
        have HM2 := Lib.hid hm2
        have HE2 := Lib.hid hext2
        clear hm2 hturn hext2 hm1 hb1 hrow1 hrow0
        go_wp2
        go_still_tail 8, (by kernel_rfl)
        go_wp2
        go_roundw
        case rel =>
          have kr : ∀ k o, S k → wr.heap[k]? = some (.cells o 5 (0, 0)) → W2.heap[k]? = wr.heap[k]? := fun j o hj ho => by
            have h1 := HD.out.there j hj
            have h0 : j ≠ m1 := fun e => HM.out.ne ho e
            rw [HE2.out.block j h1 h0, HE.out.block j h1 h0]
          have h2 : IsBlk W2 S _ lk := HU.out.keep (fun j o hj ho => (all_stay HD.out HE2.out).2 j _ _ _ ho)
          refine ⟨k + 1, _, by omega, by go_num, HM2.out, ?_, HE2.out⟩
          rw [HY.out HKP.out]
          exact done_set (HDO.out.keep kr) (by rw [doneTo_len]; exact HPN.out) h2
        case measure => simp [intOf]; omega
      · rw [hkp]
        have HKP := Lib.hid hkp
        clear hkp
        go_wp2
        go_roundw
        case rel =>
          refine ⟨k + 1, f', by omega, by go_num, (HM.out.alloc _).mono (by omega), ?_, HE.out.alloc _⟩
          rw [doneTo_no _ _ _ HKP.out]
          exact HDO.out.keep (fun j o hj ho => Below.heap_alloc wr _ j (row_lt ho))
        case measure => simp [intOf]; omega
    · obtain rfl : k = s.P.length := by omega
      have hb' := (all_stay HD.out HE.out).1.trans HD.out.block
      have d3 : wr.cell? ⟨b, 3, none⟩ = some _ := (row_cell hb' 3).trans rfl
      have e3 := row_free hb' 3
      have d4 : wr.cell? ⟨b, 4, none⟩ = some _ := (row_cell hb' 4).trans rfl
      have e4 := row_free hb' 4
      obtain ⟨d5, e5⟩ := four_at hb' (.slice none 0 0) (.map #[] 0)
      have HEND := Lib.hid (settle_end HD.out HE.out HM.out HDO.out (doneTo_len ..) (doneTo_each keeps HD.out.wf.each (fun x hx => (HD.out.wf.pend x hx).2) _))
      clear hb'
      go_wp2
      go_end0
      exact ⟨rfl, _, _, _, HEND.out.1, HEND.out.2, fun k hk => plus_in k hk⟩
end Go.Proofs.Ytkemakemolohdaa.DSettle
