/- The document's disk: Flush and Crash; two lists of writes compared. -/
import Derived.Test.YtkemakemolohdaaRWrite
import Derived.Test.YtkemakemolohdaaDFlush
namespace Go.Proofs.Ytkemakemolohdaa.RFlush
open Go.RowKit WMem WPlain WAppend Ext Map DPlain DMem Mk DBase DRead DPend DWrite RNew RRead RWrite DFlush

/-- the blocks' row, known whole, while writes are done: the document's disk under way -/
structure Mid (w wr : World) (S : Nat → Prop) (s : St) (gL cap : Nat) (cur : Array Value) (L' : List (List UInt8)) : Prop where
  row : wr.heap[gL]? = some (.cells cur 35 (0, 0))
  size : cur.size = cap
  each : LOf wr S (cur.toList.take s.L.length) L'
  ext : Ext (fun j => j = gL) w wr

section
variable {w wr : World} {S : Nat → Prop} {b gL cap : Nat} {s : St} {Lv Pv : Value} {xs ys : List Value} {cur : Array Value} {L' : List (List UInt8)}
theorem mid_start (hx : RDx w S b s Lv Pv xs ys) : ∃ gL cap cur, Lv = .slice (some ⟨gL, 0, none⟩) s.L.length cap ∧ S gL ∧ s.L.length ≤ cap ∧ cap ≤ maxLen ∧ Mid w w S s gL cap cur s.L := by
  obtain ⟨⟨hl, h1 | ⟨g, cap, cur, rfl, hb, hgg, hnc, hm, hcs, ht⟩⟩, h2⟩ := hx.rowL
  · have h0 := h1.2
    have := hx.pos
    exact absurd h0 (by omega)
  · refine ⟨g, cap, cur, rfl, h2 g rfl, hnc, hm, hgg, by simpa using hcs, ?_, Ext.refl _ _⟩
    rw [Nat.mul_one] at ht
    rw [ht]
    exact hx.eachL
theorem Mid.drew (h : Mid w wr S s gL cap cur L') : Mid w wr.drew S s gL cap cur L' := ⟨h.row, h.size, h.each, h.ext.drew⟩
theorem mid_store (h : Mid w wr S s gL cap cur L') {j : Nat} (hj : j < s.L.length) {v : Value} {l : List UInt8} (hv : IsBlk wr S v l) : Mid w (wr.setCell ⟨gL, j, none⟩ v) S s gL cap (cur.setIfInBounds j v) (L'.set j l) := by
  have kr : ∀ k o, S k → wr.heap[k]? = some (.cells o 5 (0, 0)) → (wr.setCell ⟨gL, j, none⟩ v).heap[k]? = wr.heap[k]? := fun k o _ ho => Below.heap_setCell wr ⟨gL, j, none⟩ v k (fun e => by
    have h0 := h.row
    rw [e, h0] at ho
    injection ho with ho
    injection ho with _ ho
    exact absurd ho (by decide))
  have he := h.each.keep kr
  have hv1 := hv.keep kr
  refine ⟨row_set h.row j v, by simpa using h.size, ⟨?_, fun i hi => ?_⟩, h.ext.setCell (.inl rfl) v⟩
  · have := h.each.1
    simp at this ⊢
    omega
  · have hi' : i < L'.length := by simpa using hi
    have hlt := h.each.1
    rw [Array.toList_setIfInBounds, List.take_set]
    by_cases e : i = j
    · subst e
      refine ⟨v, List.getElem?_set_self (by rw [hlt]; exact hi'), ?_⟩
      simpa using hv1
    · obtain ⟨u, h1, h2⟩ := he.2 i hi'
      exact ⟨u, by rw [List.getElem?_set_ne (Ne.symm e)]; exact h1, by rw [List.getElem_set_ne (Ne.symm e)]; exact h2⟩
theorem mid_block (hx : RDx w S b s (.slice (some ⟨gL, 0, none⟩) s.L.length cap) Pv xs ys) (h : Mid w wr S s gL cap cur L') :
    wr.heap[b]? = w.heap[b]? ∧ (∀ k, k ≠ gL → k < w.heap.size → wr.heap[k]? = w.heap[k]?) := by
  refine ⟨h.ext.block b (row_lt hx.block) (fun e => ?_), fun k hk hl => h.ext.block k hl hk⟩
  have := own_ne hx.rowL.1 hx.block (by decide)
  exact this (by rw [e]; rfl)
theorem mid_end (hx : RDx w S b s (.slice (some ⟨gL, 0, none⟩) s.L.length cap) Pv xs ys) (h : Mid w wr S s gL cap cur L') (hL : L'.length = s.L.length) (hwf : ∀ l ∈ L', l.length = 256) (hc : s.L.length ≤ cap) (hm : cap ≤ maxLen) :
    RDx (wr.setCell ⟨b, 1, none⟩ (.slice none 0 0)) S b ⟨L', [], s.N⟩ (.slice (some ⟨gL, 0, none⟩) s.L.length cap) (.slice none 0 0) (cur.toList.take s.L.length) [] ∧ Ext S w (wr.setCell ⟨b, 1, none⟩ (.slice none 0 0)) := by
  have hb := (mid_block hx h).1.trans hx.block
  have hgb : gL ≠ b := fun e => own_ne hx.rowL.1 hx.block (by decide) (by rw [e]; rfl)
  have hgS : S gL := hx.rowL.2 gL rfl
  have kr : ∀ k o, S k → wr.heap[k]? = some (.cells o 5 (0, 0)) → (wr.setCell ⟨b, 1, none⟩ (.slice none 0 0)).heap[k]? = wr.heap[k]? := fun k o _ ho => Below.heap_setCell wr ⟨b, 1, none⟩ _ k (fun e => by
    rw [e, hb] at ho
    injection ho with ho
    injection ho with _ ho
    exact absurd ho (by decide))
  refine ⟨⟨hx.here, by simpa using row_set hb 1 (.slice none 0 0), ⟨?_, fun g hg => ?_⟩, ⟨World.ownsRow_nil _ _ _ _, fun g hg => (by cases hg)⟩, h.each.keep kr, ⟨rfl, fun i hi => (by cases hi)⟩, ⟨hwf, fun x hxm => (by cases hxm)⟩, by rw [hL]; exact hx.pos, by rw [hL]; exact hx.most, hx.there.up (by have := h.ext.size; simpa [World.setCell] using this)⟩,
    (h.ext.more (fun k _ hk => hk ▸ hgS)).setCell (.inl hx.here) _⟩
  · rw [hL]
    have h1 := (Below.heap_setCell wr ⟨b, 1, none⟩ (.slice none 0 0) gL hgb).trans h.row
    refine ⟨by have := h.each.1; simp at this ⊢; omega, .inr ⟨gL, cap, cur, rfl, Nat.zero_le _, h1, hc, hm, by rw [h.size]; omega, by rw [Nat.mul_one]⟩⟩
  · simp [Value.ownBlock] at hg
    subst hg
    exact hgS
end

set_option maxHeartbeats 1600000 in
set_option maxRecDepth 100000 in
theorem RFlush_ok (S : Nat → Prop) (b : Nat) (s : St) (w : World) (hd : RD w S b s) (hP : s.P.length ≤ 1073741824) (hN : s.N ≤ 1073741824) :
    Calls Try.prog 37 #[.pointer (some ⟨b, 0, none⟩)] w fun e w' =>
      e = .returned (.tuple #[]) ∧ ∃ S', RD w' S' b s.flush ∧ Ext S w w' ∧ In S' S w := by
  obtain ⟨Lv, Pv, xs, ys, hx⟩ := hd
  obtain ⟨gL, cap, cur0, rfl, hgS, hcap, hmax, hmid⟩ := mid_start hx
  obtain ⟨A, capP, rfl, hcapP, hPat⟩ := P_at hx.rowP hx.eachP
  have hbig : s.L.length ≤ 4096 := hx.most
  have HX := Lib.hid hx
  have HM0 := Lib.hid hmid
  have HP := Lib.hid hPat
  clear hx hmid hPat
  go_enter Try.func37, Try.ntmps37
  go_wp2
  go_loopw [2] (fun i wr => ∃ (k : Nat) (cur : Array Value), k ≤ s.P.length ∧ i = .int .i64 k ∧ Mid w wr S s gL cap cur (doneTo (fun _ => true) s.L s.P k)) (fun i _ => s.P.length - (intOf i).toNat)
  case atStart => exact ⟨0, cur0, Nat.zero_le _, rfl, HM0.out⟩
  case round =>
    obtain ⟨k, cur, hk, rfl, hm⟩ := hrel
    have hb := mid_block HX.out hm
    have hbb := hb.1.trans HX.out.block
    have c0 : wr.cell? ⟨b, 0, none⟩ = some (.slice (some ⟨gL, 0, none⟩) s.L.length cap) := (row_cell hbb 0).trans rfl
    have c1 : wr.cell? ⟨b, 1, none⟩ = some (.slice A s.P.length capP) := (row_cell hbb 1).trans rfl
    have HM := Lib.hid hm
    have HKP := Lib.hid hb.2
    have HBB := Lib.hid hbb
    clear hm hb hbb
    by_cases hlt : k < s.P.length
    · obtain ⟨gP, u, rfl, hgP, p0, p1, hu⟩ := HP.out k hlt
      have hpn := (HX.out.wf.pend _ (List.getElem_mem hlt)).1
      have hgne : gP ≠ gL := fun e => by
        subst e
        have h1 := HX.out.rowL.1.2
        rcases h1 with ⟨h1, _⟩ | ⟨g', cap', cur', h1, _, hh, _⟩
        · cases h1
        · have h2 : g' = gP := by injection h1 with h1; injection h1 with h1; injection h1 with h1; exact h1.symm
          subst h2
          exact own_ne HX.out.rowP.1 hh (by decide) rfl
      have lgP := HX.out.there gP hgP
      have r0 : wr.cell? ⟨gP, k * 2, none⟩ = some (.int .i64 (s.P[k].1 : Int)) := (World.cell?_of_block (HKP.out gP hgne lgP)).trans p0
      have r1 : wr.cell? ⟨gP, k * 2 + 1, none⟩ = some u := (World.cell?_of_block (HKP.out gP hgne lgP)).trans p1
      have hrL := HM.out.row
      have hcs := HM.out.size
      have hin : s.P[k].1 < cur.size := by omega
      obtain ⟨old, hold⟩ : ∃ o, wr.cell? ⟨gL, s.P[k].1, none⟩ = some o := ⟨cur[s.P[k].1], (row_cell hrL _).trans (Array.getElem?_eq_getElem hin)⟩
      have hfr := row_free hrL s.P[k].1
      have hur : IsBlk wr S u s.P[k].2 := hu.keep (fun j o hj ho => HKP.out j (fun e => by
        subst e
        have h1 := HM0.out.row
        rw [h1] at ho
        injection ho with ho
        injection ho with _ ho
        exact absurd ho (by decide)) (HX.out.there j hj))
      obtain ⟨g1, c1', r1', rfl, _⟩ := id hur
      have HU := Lib.hid hur
      have HPN := Lib.hid hpn
      have HT := Lib.hid (doneTo_yes (fun _ => true) s.L s.P hlt rfl)
      have hk0 : (0 : Int) ≤ (k : Int) := Int.natCast_nonneg _
      have hk1 : (k : Int) < (s.P.length : Int) := by omega
      have hj0 : (0 : Int) ≤ (s.P[k].1 : Int) := Int.natCast_nonneg _
      have hj1 : (s.P[k].1 : Int) < (s.L.length : Int) := by omega
      clear hu p0 p1 hrL hcs hur hpn hgP hin
      generalize s.P[k].1 = n at *
      generalize s.P[k].2 = lk at *
      go_wp2_with fail
      go_still_tail 21, (by kernel_rfl)
      go_wp2
      go_roundw
      case rel => exact ⟨k + 1, _, by omega, by go_num, by rw [HT.out]; exact mid_store HM.out.drew HPN.out (HU.out.keep (fun _ _ _ _ => rfl))⟩
      case measure => simp [intOf]; omega
    · obtain rfl : k = s.P.length := by omega
      have hend := mid_end HX.out HM.out (doneTo_len ..) (doneTo_each (fun _ => true) HX.out.wf.each (fun x hx => (HX.out.wf.pend x hx).2) _) hcap hmax
      have f1 := row_free HBB.out 1
      have d2 : (wr.setCell ⟨b, 1, none⟩ (.slice none 0 0)).cell? ⟨b, 2, none⟩ = some (.int .i64 s.N) := hend.1.cN
      have d3 := row_free hend.1.block 2
      have HEND := Lib.hid hend
      clear hend
      go_wp2
      go_end0
      exact ⟨rfl, S, ⟨_, _, _, _, rd_setN HEND.out.1 (s.N + 1)⟩, HEND.out.2.setCell (.inl HX.out.here) _, In.refl _ _⟩
set_option maxHeartbeats 1600000 in
set_option maxRecDepth 100000 in
theorem RCrash_ok (S : Nat → Prop) (b : Nat) (s : St) (keep : List Bool) (B : Nat) (K : Option Addr) (c : Nat) (w : World) (hd : RD w S b s) (hK : Sl w B K (keep.map boolv)) (hS : ∀ q, S q → B ≤ q) (hB : B ≤ w.heap.size) (hP : s.P.length ≤ 1073741824) :
    Calls Try.prog 38 #[.pointer (some ⟨b, 0, none⟩), .slice K keep.length c] w fun e w' =>
      e = .returned (.tuple #[]) ∧ ∃ S', RD w' S' b (s.crash keep) ∧ Ext S w w' ∧ In S' S w := by
  obtain ⟨Lv, Pv, xs, ys, hx⟩ := hd
  obtain ⟨gL, cap, cur0, rfl, hgS, hcap, hmax, hmid⟩ := mid_start hx
  obtain ⟨A, capP, rfl, hcapP, hPat⟩ := P_at hx.rowP hx.eachP
  have hbig : s.L.length ≤ 4096 := hx.most
  have HX := Lib.hid hx
  have HK := Lib.hid hK
  have hBg := hS gL hgS
  have HM0 := Lib.hid hmid
  have HP := Lib.hid hPat
  clear hx hmid hPat hK hS
  go_enter Try.func38, Try.ntmps38
  go_wp2
  go_loopw [4] (fun i wr => ∃ (k : Nat) (cur : Array Value), k ≤ s.P.length ∧ k ≤ keep.length ∧ i = .int .i64 k ∧ Mid w wr S s gL cap cur (doneTo (keepF keep) s.L s.P k)) (fun i _ => s.P.length - (intOf i).toNat)
  case atStart => exact ⟨0, cur0, Nat.zero_le _, Nat.zero_le _, rfl, HM0.out⟩
  case round =>
    obtain ⟨k, cur, hk, hkk, rfl, hm⟩ := hrel
    have hb := mid_block HX.out hm
    have hbb := hb.1.trans HX.out.block
    have c0 : wr.cell? ⟨b, 0, none⟩ = some (.slice (some ⟨gL, 0, none⟩) s.L.length cap) := (row_cell hbb 0).trans rfl
    have c1 : wr.cell? ⟨b, 1, none⟩ = some (.slice A s.P.length capP) := (row_cell hbb 1).trans rfl
    have HM := Lib.hid hm
    have HKP := Lib.hid hb.2
    have HBB := Lib.hid hbb
    clear hm hb hbb
    by_cases hboth : k < s.P.length ∧ k < keep.length
    · obtain ⟨hlt, hlk⟩ := hboth
      obtain ⟨ka, hKa, hkb, hkc⟩ := HK.out k (boolv keep[k]) (by rw [List.getElem?_map, List.getElem?_eq_getElem hlk]; rfl)
      subst hKa
      have hkw : wr.cell? (ka.add k) = some (.bool keep[k]) := (World.cell?_of_block (HKP.out (ka.add k).block (by rw [addr_add_block]; omega) (by rw [addr_add_block]; omega))).trans hkc
      have HKF : Hid (keepF keep k = keep[k]) := by show _ = _; unfold keepF; rw [List.getD_eq_getElem?_getD, List.getElem?_eq_getElem hlk]; rfl
      have hkk0 : (k : Int) < (keep.length : Int) := by omega
      obtain ⟨gP, u, rfl, hgP, p0, p1, hu⟩ := HP.out k hlt
      have hpn := (HX.out.wf.pend _ (List.getElem_mem hlt)).1
      have hgne : gP ≠ gL := fun e => by
        subst e
        have h1 := HX.out.rowL.1.2
        rcases h1 with ⟨h1, _⟩ | ⟨g', cap', cur', h1, _, hh, _⟩
        · cases h1
        · have h2 : g' = gP := by injection h1 with h1; injection h1 with h1; injection h1 with h1; exact h1.symm
          subst h2
          exact own_ne HX.out.rowP.1 hh (by decide) rfl
      have lgP := HX.out.there gP hgP
      have r0 : wr.cell? ⟨gP, k * 2, none⟩ = some (.int .i64 (s.P[k].1 : Int)) := (World.cell?_of_block (HKP.out gP hgne lgP)).trans p0
      have r1 : wr.cell? ⟨gP, k * 2 + 1, none⟩ = some u := (World.cell?_of_block (HKP.out gP hgne lgP)).trans p1
      have hrL := HM.out.row
      have hcs := HM.out.size
      have hin : s.P[k].1 < cur.size := by omega
      obtain ⟨old, hold⟩ : ∃ o, wr.cell? ⟨gL, s.P[k].1, none⟩ = some o := ⟨cur[s.P[k].1], (row_cell hrL _).trans (Array.getElem?_eq_getElem hin)⟩
      have hfr := row_free hrL s.P[k].1
      have hur : IsBlk wr S u s.P[k].2 := hu.keep (fun j o hj ho => HKP.out j (fun e => by
        subst e
        have h1 := HM0.out.row
        rw [h1] at ho
        injection ho with ho
        injection ho with _ ho
        exact absurd ho (by decide)) (HX.out.there j hj))
      obtain ⟨g1, c1', r1', rfl, _⟩ := id hur
      have HU := Lib.hid hur
      have HPN := Lib.hid hpn
      have HT := Lib.hid (doneTo_yes (keepF keep) s.L s.P hlt)
      have hk0 : (0 : Int) ≤ (k : Int) := Int.natCast_nonneg _
      have hk1 : (k : Int) < (s.P.length : Int) := by omega
      have hj0 : (0 : Int) ≤ (s.P[k].1 : Int) := Int.natCast_nonneg _
      have hj1 : (s.P[k].1 : Int) < (s.L.length : Int) := by omega
      clear hu p0 p1 hrL hcs hur hpn hgP hin hkc
      generalize s.P[k].1 = n at *
      generalize s.P[k].2 = lk at *
      generalize hkx : keep[k] = kx at *
      have HKX := Lib.hid hkx
      clear hkx
      cases kx with
      | true =>
        go_wp2_with fail
        go_still_tail 21, (by kernel_rfl)
        go_wp2
        go_roundw
        case rel => exact ⟨k + 1, _, by omega, by omega, by go_num, by rw [HT.out HKF.out]; exact mid_store HM.out.drew HPN.out (HU.out.keep (fun _ _ _ _ => rfl))⟩
        case measure => simp [intOf]; omega
      | false =>
        go_wp2
        go_roundw
        case rel => exact ⟨k + 1, cur, by omega, by omega, by go_num, by rw [doneTo_no _ _ _ HKF.out]; exact HM.out⟩
        case measure => simp [intOf]; omega
    · have hall : doneTo (keepF keep) s.L s.P s.P.length = doneTo (keepF keep) s.L s.P k := by
        by_cases e : k = s.P.length
        · rw [e]
        · refine doneTo_stay _ _ _ (fun i hi => ?_) _ (by omega)
          unfold keepF
          rw [List.getD_eq_getElem?_getD, List.getElem?_eq_none (by omega)]
          rfl
      have hend := mid_end HX.out HM.out (doneTo_len ..) (doneTo_each (keepF keep) HX.out.wf.each (fun x hx => (HX.out.wf.pend x hx).2) _) hcap hmax
      have f1 := row_free HBB.out 1
      have HEND := Lib.hid hend
      have HRD : Hid (RD (wr.setCell ⟨b, 1, none⟩ (.slice none 0 0)) S b (s.crash keep)) := by
        show RD _ _ _ _
        unfold St.crash St.settled
        rw [hall]
        exact ⟨_, _, _, _, HEND.out.1⟩
      clear hend hall
      by_cases e : k < s.P.length
      · have hlk : decide ((k : Int) < (keep.length : Int)) = false := by simp; omega
        have hlk2 : decide (k < keep.length) = false := by simp; omega
        have hkp : (k : Int) < (s.P.length : Int) := by omega
        clear hboth
        go_wp2
        go_end0
        exact ⟨rfl, S, HRD.out, HEND.out.2, In.refl _ _⟩
      · have hlk : decide ((k : Int) < (s.P.length : Int)) = false := by simp; omega
        have hlk2 : decide (k < s.P.length) = false := by simp; omega
        clear hboth
        go_wp2
        go_end0
        exact ⟨rfl, S, HRD.out, HEND.out.2, In.refl _ _⟩

theorem quiet_add {P : Program} {f : FuncId} {args : Array Value} {w : World} {a n : Nat} {v : Value}
    (h : Calls P f args (w.drewN (a + n)) fun e w' => e = .returned v ∧ ∃ m, w' = (w.drewN (a + n)).drewN m) :
    Calls P f args (w.drewN (a + n)) fun e w'' => e = .returned v ∧ ∃ m, w'' = w.drewN (a + m) :=
  h.mono fun _ _ ⟨he, m, hm⟩ => ⟨he, n + m, by rw [hm, World.drewN_drewN, Nat.add_assoc]⟩
set_option maxHeartbeats 1600000 in
set_option maxRecDepth 100000 in
/-- two lists of the same writes are the same -/
theorem SameWrites_yes (S S' : Nat → Prop) (P : List (Nat × List UInt8)) (A A' : Option Addr) (c c' : Nat) (w : World) (hP : P.length ≤ 1073741824)
    (h1 : ∀ (i : Nat) (hi : i < P.length), ∃ g u, A = some ⟨g, 0, none⟩ ∧ S g ∧ w.cell? ⟨g, i * 2, none⟩ = some (.int .i64 (P[i].1 : Int)) ∧ w.cell? ⟨g, i * 2 + 1, none⟩ = some u ∧ IsBlk w S u P[i].2)
    (h2 : ∀ (i : Nat) (hi : i < P.length), ∃ g u, A' = some ⟨g, 0, none⟩ ∧ S' g ∧ w.cell? ⟨g, i * 2, none⟩ = some (.int .i64 (P[i].1 : Int)) ∧ w.cell? ⟨g, i * 2 + 1, none⟩ = some u ∧ IsBlk w S' u P[i].2) :
    Calls Try.prog 32 #[.slice A P.length c, .slice A' P.length c'] w fun e w' => e = .returned (.bool true) ∧ ∃ n, w' = w.drewN n := by
  have H1 := Lib.hid h1
  have H2 := Lib.hid h2
  clear h1 h2
  go_enter Try.func32, Try.ntmps32
  go_wp2
  go_loopw [5] (fun i wr => ∃ k n : Nat, k ≤ P.length ∧ i = .int .i64 k ∧ wr = w.drewN n) (fun i _ => P.length - (intOf i).toNat)
  case atStart => exact ⟨0, 0, Nat.zero_le _, rfl, rfl⟩
  case round =>
    obtain ⟨k, n, hk, rfl, rfl⟩ := hrel
    by_cases hlt : k < P.length
    · obtain ⟨g, u, rfl, _, p0, p1, hu⟩ := H1.out k hlt
      obtain ⟨g', u', rfl, _, p0', p1', hu'⟩ := H2.out k hlt
      obtain ⟨q, cq, rq, rfl, _⟩ := id hu
      obtain ⟨q', cq', rq', rfl, _⟩ := id hu'
      have HSB := fun m : Nat => Lib.hid (Same_blk P[k].2 S S' _ _ (w.drewN m) (hu.keep (w' := w.drewN m) (fun _ _ _ _ => rfl)) (hu'.keep (w' := w.drewN m) (fun _ _ _ _ => rfl)))
      have hk0 : (0 : Int) ≤ (k : Int) := Int.natCast_nonneg _
      have hk1 : (k : Int) < (P.length : Int) := by omega
      generalize P[k].1 = j at *
      generalize P[k].2 = lk at *
      have hne : ((j : Int) != (j : Int)) = false := by simp
      clear hu hu'
      go_wp2
      go_quiet ((go_at_call 26; exact quiet_add (HSB _).out))
      go_wp2
      go_roundw
      case rel => exact ⟨k + 1, n + nq, by omega, by go_num, rfl⟩
      case measure => simp [intOf]; omega
    · go_wp2
      go_ret
      exact ⟨rfl, n, rfl⟩
end Go.Proofs.Ytkemakemolohdaa.RFlush
