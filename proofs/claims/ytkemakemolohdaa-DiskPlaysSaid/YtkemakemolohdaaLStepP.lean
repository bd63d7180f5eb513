/- One operation of a script: what is pending looked at, and the answer turned; and any operation at all. -/
import Derived.Test.YtkemakemolohdaaLStepR
namespace Go.Proofs.Ytkemakemolohdaa.LStepP
open Go.RowKit WMem WPlain WAppend Ext Map DPlain DMem Mk DBase DRead DPend DWrite DFlush DPending DCopy RNew RRead RWrite RFlush DLaw LStep LStepW LStepR

theorem blk_turn {w : World} {F : Nat → Prop} {v : Value} {l : List UInt8} {q : Nat} {rest : List Value} {l0 : List UInt8} (h : IsBlk w F v l) (_hq : Row w q l0 rest) (x : UInt8) : ∃ l', IsBlk (w.setCell ⟨q, 0, none⟩ (.int .u8 (x.toNat : Int))) F v l' := by
  obtain ⟨g, c', r', rfl, hg, hll, hc, hr⟩ := h
  by_cases e : g = q
  · subst e
    exact ⟨l.set 0 x, g, c', r', rfl, hg, by simpa using hll, hc, hr.set (by omega) x⟩
  · exact ⟨l, g, c', r', rfl, hg, hll, hc, (Below.heap_setCell w ⟨q, 0, none⟩ _ g e).trans hr⟩

set_option maxHeartbeats 4000000 in
set_option maxRecDepth 100000 in
theorem step_pend (B : Nat) (S R : Nat → Prop) (d r : Nat) (s : St) (what blk fill : Int) (K : Option Addr) (m c : Nat) (w : World) (h : Two w B S R d r s) (hq : low7 what = 7) (hB : B ≤ w.heap.size) (hN : s.N ≤ 1073741823) :
    Calls Try.prog 18 #[.pointer (some ⟨d, 0, none⟩), .pointer (some ⟨r, 0, none⟩), .agg #[.int .i64 what, .int .i64 blk, .int .i64 fill, .slice K m c]] w fun e w' =>
      e = .returned (.bool true) ∧ Two w' B S R d r s ∧ Below B w w' := by
  have hcnt := h.dev.count
  have hand := and7 what
  have HX0 : Hid (Below w.heap.size w (w.alloc (.cells #[.int .i64 what, .int .i64 blk, .int .i64 fill, .slice K m c] 40))) := (Below.refl _ _).alloc (Nat.le_refl _) _
  have hs0 : w.heap.size < (w.alloc (.cells #[.int .i64 what, .int .i64 blk, .int .i64 fill, .slice K m c] 40)).heap.size := by simp
  have H := Lib.hid (h.below HX0.out)
  have HT : Hid ((∀ q, S q → q < w.heap.size) ∧ ∀ q, R q → q < w.heap.size) := ⟨fun q hq => h.dev.there q hq, fun q hq => h.doc.there q hq⟩
  clear h
  generalize low7 what = q at *
  subst hq
  go_enter Try.func18, Try.ntmps18
  go_wp2_with fail
  generalize w.alloc (.cells #[.int .i64 what, .int .i64 blk, .int .i64 fill, .slice K m c] 40) = w0 at *
  refine (Pending_ok S d s w0 H.out.dev (by omega)).mono ?_
  rintro e w1 ⟨gl, xs, rfl, hgl, hR, hP, hb1⟩
  have hs1 := hb1.size
  have H1 := Lib.hid (H.out.below hb1)
  have HB1 : Hid (Below w.heap.size w w1) := HX0.out.trans (hb1.mono (by omega))
  have HR := Lib.hid hR
  have HP := Lib.hid hP
  have lgl := hR.lt
  clear hR hP hb1
  obtain ⟨Lv, Pv, xs', ys', hx⟩ := H1.out.doc
  obtain ⟨A', cap', rfl, _, hpat⟩ := P_at hx.rowP hx.eachP
  have j1 : w1.cell? ⟨r, 1, none⟩ = some (.slice A' s.P.length cap') := hx.cP
  have HPat := Lib.hid hpat
  clear hx hpat
  have HPat1 : Hid (∀ (i : Nat) (hi : i < s.P.length), ∃ g u, (some (⟨gl, 0, none⟩ : Addr)) = some ⟨g, 0, none⟩ ∧ (fun _ => True : Nat → Prop) g ∧ w1.cell? ⟨g, i * 2, none⟩ = some (.int .i64 (s.P[i].1 : Int)) ∧ w1.cell? ⟨g, i * 2 + 1, none⟩ = some u ∧ IsBlk w1 (fun _ => True) u s.P[i].2) := fun i hi => by
    obtain ⟨v, p0, p1, hv⟩ := HP.out.2 i hi
    exact ⟨gl, v, rfl, trivial, (row_cell HR.out _).trans (by simpa using p0), (row_cell HR.out _).trans (by simpa using p1), hv.more (fun _ _ => trivial)⟩
  go_wp2_with fail
  refine (SameWrites_yes (fun _ => True) R s.P (some ⟨gl, 0, none⟩) A' s.P.length cap' w1 (by omega) HPat1.out HPat.out).mono ?_
  rintro e w2 ⟨rfl, n, hw2⟩
  have hs2 : w2.heap.size = w1.heap.size := by rw [hw2]; rfl
  have H2 : Hid (Two w2 B S R d r s) := by rw [hw2]; exact H1.out.below (below_drewN (Below.refl _ _) n)
  have HB2 : Hid (Below w.heap.size w w2) := by rw [hw2]; exact below_drewN HB1.out n
  have HR2 : Hid (RowV w2 gl 56 xs) := by rw [hw2]; exact HR.out.drewN n
  have HF2 : Hid (∀ (j : Nat), j < s.P.length → ∃ v l', xs[j * 2 + 1]? = some v ∧ IsBlk w2 (fun q => w.heap.size ≤ q ∧ q < w2.heap.size) v l') := fun j hj => by
    obtain ⟨v, _, p1, hv⟩ := HP.out.2 j hj
    refine ⟨v, _, p1, (hv.keep (w' := w2) (fun k o _ _ => by rw [hw2]; rfl)).more (fun q hq => ⟨by have := hq.1; omega, by have := hq.2; omega⟩)⟩
  have HLX := Lib.hid HP.out.1
  clear hw2 hs2
  go_wp2_with fail
  go_loopw [19] (fun i wr => ∃ k : Nat, k ≤ s.P.length ∧ i = .int .i64 k ∧ RowV wr gl 56 xs ∧
      (∀ (j : Nat), j < s.P.length → ∃ v l', xs[j * 2 + 1]? = some v ∧ IsBlk wr (fun q => w.heap.size ≤ q ∧ q < w2.heap.size) v l') ∧ Ext (fun q => w.heap.size ≤ q) w2 wr) (fun i _ => s.P.length - (intOf i).toNat)
  case atStart => exact ⟨0, Nat.zero_le _, rfl, HR2.out, HF2.out, Ext.refl _ _⟩
  case round =>
    obtain ⟨k, hk, rfl, hRr, hF, hex⟩ := hrel
    have HRr := Lib.hid hRr
    have HF := Lib.hid hF
    have HEX := Lib.hid hex
    clear hRr hF hex
    by_cases hlt : k < s.P.length
    · obtain ⟨v, l', p1, hv⟩ := HF.out k hlt
      obtain ⟨q, c', rest, rfl, hq, hl', hc', hrow⟩ := id hv
      have r1 : wr.cell? ⟨gl, k * 2 + 1, none⟩ = some (.slice (some ⟨q, 0, none⟩) 256 c') := (row_cell HRr.out _).trans (by simpa using p1)
      have hcc := hrow.cell (i := 0) (by omega)
      have hfz := hrow.free 0
      have hx1 := xor1 (l'[0]'(by omega))
      have hox := byte_lt (l'[0]'(by omega))
      have HROW := Lib.hid hrow
      have hk0 : (0 : Int) ≤ (k : Int) := Int.natCast_nonneg _
      have hk1 : (k : Int) < (s.P.length : Int) := by omega
      have hgq : gl ≠ q := fun e => by
        have h0 : wr.heap[gl]? = _ := HRr.out
        have h5 : wr.heap[q]? = _ := hrow
        rw [← e, h0] at h5
        injection h5 with h5
        injection h5 with _ h5
        exact absurd h5 (by decide)
      have HGQ := Lib.hid hgq
      generalize l'[0]'(by omega) = old at hcc hx1 hox
      generalize old ^^^ 1 = new at *
      clear hv p1 hrow hgq hl' hc'
      go_wp2_with fail
      go_still_tail 14, (by kernel_rfl)
      go_wp2
      go_roundw
      case rel =>
        refine ⟨k + 1, by omega, by go_num, (Below.heap_setCell _ ⟨q, 0, none⟩ _ gl HGQ.out).trans HRr.out, fun j hj => ?_, HEX.out.drew.setCell (.inl hq.1) _⟩
        obtain ⟨v, l2, h1, h2⟩ := HF.out j hj
        obtain ⟨l3, h3⟩ := blk_turn (w := wr.drew) (h2.keep (fun _ _ _ _ => rfl)) (show Row wr.drew q l' rest from HROW.out) new
        exact ⟨v, l3, h1, h3⟩
      case measure => simp [intOf]; omega
    · go_wp2
      go_ret
      exact ⟨rfl, ⟨H2.out.dev.ext HEX.out (fun q h1 h2 => by have := HT.out.1 q h2; omega), H2.out.doc.ext HEX.out (fun q h1 h2 => by have := HT.out.2 q h2; omega), H2.out.far, H2.out.newS, H2.out.newR⟩,
        (HB2.out.mono hB).trans (HEX.out.below (by have := HB2.out.size; omega) (fun q hq => by omega))⟩

theorem step_any (B : Nat) (S R : Nat → Prop) (d r : Nat) (s : St) (o : OpV) (K : Option Addr) (c : Nat) (w : World) (h : Two w B S R d r s) (hK : Sl w B K (o.keep.map boolv)) (hB : B ≤ w.heap.size) (hN : s.N ≤ 1073741823) :
    Calls Try.prog 18 #[.pointer (some ⟨d, 0, none⟩), .pointer (some ⟨r, 0, none⟩), .agg #[.int .i64 o.what, .int .i64 o.block, .int .i64 o.fill, .slice K o.keep.length c]] w fun e w' =>
      e = .returned (.bool true) ∧ ∃ S' R', Two w' B S' R' d r (stepSt s o) ∧ Below B w w' := by
  have h8 := low7_lt o.what
  unfold stepSt
  by_cases h4 : low7 o.what < 4
  · rw [if_pos h4]
    by_cases hf : o.fill < 0
    · exact step_write_short B S R d r s o.what o.block o.fill K _ c w h h4 hB hN hf
    · exact step_write_full B S R d r s o.what o.block o.fill K _ c w h h4 hB hN hf
  · rw [if_neg h4]
    by_cases h5 : low7 o.what = 5
    · rw [if_pos h5]
      exact step_flush B S R d r s o.what o.block o.fill K _ c w h h5 hB hN
    · rw [if_neg h5]
      by_cases h6 : low7 o.what = 6
      · rw [if_pos h6]
        exact step_crash B S R d r s o.what o.block o.fill o.keep K c w h hK h6 hB hN
      · rw [if_neg h6]
        by_cases h7 : low7 o.what = 7
        · refine (step_pend B S R d r s o.what o.block o.fill K _ c w h h7 hB hN).mono ?_
          rintro e w' ⟨rfl, h1, h2⟩
          exact ⟨rfl, S, R, h1, h2⟩
        · have h44 : low7 o.what = 4 := by omega
          by_cases hin : 0 ≤ o.block ∧ o.block < s.L.length
          · obtain ⟨k, hk⟩ := Int.eq_ofNat_of_zero_le hin.1
            rw [hk]
            refine (step_read_yes B S R d r s o.what o.fill k K _ c w h h44 hB (by omega) hN).mono ?_
            rintro e w' ⟨rfl, h1, h2⟩
            exact ⟨rfl, S, R, h1, h2⟩
          · refine (step_read_no B S R d r s o.what o.block o.fill K _ c w h h44 hB (by omega)).mono ?_
            rintro e w' ⟨rfl, h1, h2⟩
            exact ⟨rfl, S, R, h1, h2⟩
end Go.Proofs.Ytkemakemolohdaa.LStepP
