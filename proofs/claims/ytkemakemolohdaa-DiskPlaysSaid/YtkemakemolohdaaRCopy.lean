/- The document's disk: Copy. -/
import Derived.Test.YtkemakemolohdaaRWrite
import Derived.Deep.RegionHeld3
namespace Go.Proofs.Ytkemakemolohdaa.RCopy
open Go.RowKit WMem WPlain WAppend Ext Map DPlain DMem Mk DBase DRead DPend DWrite RNew RRead RWrite

theorem cell_of_block' {w w' : World} {g o : Nat} (h : w'.heap[g]? = w.heap[g]?) : w'.cell? ⟨g, o, none⟩ = w.cell? ⟨g, o, none⟩ := by simp [World.cell?, h]
/-- a field's row that grows leaves the rows of bytes -/
theorem bytes_keep {wr W1 : World} {g base n size : Nat} {cs : Array Value} {e : TypeId} {Pv : Value} {ys : List Value} {S : Nat → Prop} (hg : wr.heap[g]? = some (.cells cs 64 (0, 0))) (ho : wr.ownsRow base e size Pv n ys) (he : e ≠ 5)
    (hext : Ext (fun j => j = g ∨ Pv.ownBlock = some j) wr W1) : ∀ k o, S k → wr.heap[k]? = some (.cells o 5 (0, 0)) → W1.heap[k]? = wr.heap[k]? := fun k o _ hk => hext.block k (row_lt hk) fun h => by
  rcases h with rfl | h
  · rw [hg] at hk
    injection hk with hk
    injection hk with _ hk
    exact absurd hk (by decide)
  · exact own_ne ho hk he h

/-- one block more in the copy -/
theorem C_append {w wr W0 w2 : World} {g gg cap H k : Nat} {N Lv v : Value} {xs : List Value} {L : List (List UInt8)} {l : List UInt8} (hb : wr.heap[g]? = some (.cells #[Lv, .slice none 0 0, N] 64 (0, 0))) (hgw : w.heap.size ≤ g)
    (ho : wr.ownsRow w.heap.size 35 1 Lv k xs) (hL : LOf wr (Made w wr) xs L) (hB : Below w.heap.size w wr) (hW : Below wr.heap.size wr W0) (hv : IsBlk W0 (Made wr W0) v l)
    (hgrow : W0.grownBy w2 Lv.ownBlock) (hown1 : w2.ownsRow w.heap.size 35 1 (.slice (some ⟨gg, 0, none⟩) (k + 1) cap) (k + 1) (xs ++ [v])) (hat : Lv.ownBlock = some gg ∨ gg = H) (hH : W0.heap.size ≤ H) :
    (w2.setCell ⟨g, 0, none⟩ (.slice (some ⟨gg, 0, none⟩) (k + 1) cap)).heap[g]? = some (.cells #[.slice (some ⟨gg, 0, none⟩) (k + 1) cap, .slice none 0 0, N] 64 (0, 0)) ∧
    (w2.setCell ⟨g, 0, none⟩ (.slice (some ⟨gg, 0, none⟩) (k + 1) cap)).ownsRow w.heap.size 35 1 (.slice (some ⟨gg, 0, none⟩) (k + 1) cap) (k + 1) (xs ++ [v]) ∧
    LOf (w2.setCell ⟨g, 0, none⟩ (.slice (some ⟨gg, 0, none⟩) (k + 1) cap)) (Made w (w2.setCell ⟨g, 0, none⟩ (.slice (some ⟨gg, 0, none⟩) (k + 1) cap))) (xs ++ [v]) (L ++ [l]) ∧
    Below w.heap.size w (w2.setCell ⟨g, 0, none⟩ (.slice (some ⟨gg, 0, none⟩) (k + 1) cap)) := by
  obtain ⟨q1, q2, q3, q4, q5, q6⟩ := field_append (fld := 0) hW hb ho (by decide) hgrow hown1 hat hH
  generalize w2.setCell ⟨g, 0, none⟩ (.slice (some ⟨gg, 0, none⟩) (k + 1) cap) = W1 at *
  have hs := hB.size
  have hs1 := q3.size
  have hg := row_lt hb
  refine ⟨by simpa using q1, q2, L_snoc ((hL.keep (bytes_keep hb ho (by decide) q3)).more (fun j hj => ⟨hj.1, by have := hj.2; omega⟩)) ((hv.keep (fun j o hj hjo => q6 j (by have := hj.2; omega) (fun e => by have := hj.1; omega) (fun e => by have := own_lt ho _ e; have := hj.1; omega))).more (fun j hj => ⟨by have := hj.1; omega, by have := hj.2; omega⟩)), ?_⟩
  refine hB.trans (q3.below hs (fun j hj => ?_))
  rcases hj with e | e
  · omega
  · exact own_ge ho _ e

/-- one write more in the copy -/
theorem C_append2 {w wr W0 w2 : World} {g gg cap H k m n : Nat} {N Lv Pv v : Value} {xs ys : List Value} {L : List (List UInt8)} {P : List (Nat × List UInt8)} {l : List UInt8} (hb : wr.heap[g]? = some (.cells #[Lv, Pv, N] 64 (0, 0))) (hgw : w.heap.size ≤ g)
    (hoL : wr.ownsRow w.heap.size 35 1 Lv m xs) (ho : wr.ownsRow w.heap.size 56 2 Pv k ys) (hL : LOf wr (Made w wr) xs L) (hP : POf wr (Made w wr) ys P) (hB : Below w.heap.size w wr) (hW : Below wr.heap.size wr W0) (hv : IsBlk W0 (Made wr W0) v l)
    (hgrow : W0.grownBy w2 Pv.ownBlock) (hown1 : w2.ownsRow w.heap.size 56 2 (.slice (some ⟨gg, 0, none⟩) (k + 1) cap) (k + 1) (ys ++ [.int .i64 (n : Int), v])) (hat : Pv.ownBlock = some gg ∨ gg = H) (hH : W0.heap.size ≤ H) :
    (w2.setCell ⟨g, 1, none⟩ (.slice (some ⟨gg, 0, none⟩) (k + 1) cap)).heap[g]? = some (.cells #[Lv, .slice (some ⟨gg, 0, none⟩) (k + 1) cap, N] 64 (0, 0)) ∧
    (w2.setCell ⟨g, 1, none⟩ (.slice (some ⟨gg, 0, none⟩) (k + 1) cap)).ownsRow w.heap.size 35 1 Lv m xs ∧
    (w2.setCell ⟨g, 1, none⟩ (.slice (some ⟨gg, 0, none⟩) (k + 1) cap)).ownsRow w.heap.size 56 2 (.slice (some ⟨gg, 0, none⟩) (k + 1) cap) (k + 1) (ys ++ [.int .i64 (n : Int), v]) ∧
    LOf (w2.setCell ⟨g, 1, none⟩ (.slice (some ⟨gg, 0, none⟩) (k + 1) cap)) (Made w (w2.setCell ⟨g, 1, none⟩ (.slice (some ⟨gg, 0, none⟩) (k + 1) cap))) xs L ∧
    POf (w2.setCell ⟨g, 1, none⟩ (.slice (some ⟨gg, 0, none⟩) (k + 1) cap)) (Made w (w2.setCell ⟨g, 1, none⟩ (.slice (some ⟨gg, 0, none⟩) (k + 1) cap))) (ys ++ [.int .i64 (n : Int), v]) (P ++ [(n, l)]) ∧
    Below w.heap.size w (w2.setCell ⟨g, 1, none⟩ (.slice (some ⟨gg, 0, none⟩) (k + 1) cap)) := by
  obtain ⟨q1, q2, q3, q4, q5, q6⟩ := field_append (fld := 1) hW hb ho (by decide) hgrow hown1 hat hH
  generalize w2.setCell ⟨g, 1, none⟩ (.slice (some ⟨gg, 0, none⟩) (k + 1) cap) = W1 at *
  have hs := hB.size
  have hs1 := q3.size
  have hg := row_lt hb
  have bk : ∀ j o, Made w wr j → wr.heap[j]? = some (.cells o 5 (0, 0)) → W1.heap[j]? = wr.heap[j]? := bytes_keep hb ho (by decide) q3
  have more : ∀ j, Made w wr j → Made w W1 j := fun j hj => ⟨hj.1, by have := hj.2; omega⟩
  refine ⟨by simpa using q1, own_same hoL (fun j hj => q3.block j (own_lt hoL j hj) ?_), q2, (hL.keep bk).more more, P_snoc ((hP.keep bk).more more) ((hv.keep (fun j o hj hjo => q6 j (by have := hj.2; omega) (fun e => by have := hj.1; omega) (fun e => by have := own_lt ho _ e; have := hj.1; omega))).more (fun j hj => ⟨by have := hj.1; omega, by have := hj.2; omega⟩)), ?_⟩
  · rintro (e | e)
    · subst e
      exact own_ne hoL hb (by decide) hj
    · rcases hoL.2 with ⟨h1, _⟩ | ⟨g', cap', cur, h1, _, hh, _⟩
      · subst h1; cases hj
      · subst h1
        simp [Value.ownBlock] at hj
        subst hj
        exact own_ne ho hh (by decide) e
  · refine hB.trans (q3.below hs (fun j hj => ?_))
    rcases hj with e | e
    · omega
    · exact own_ge ho _ e

set_option maxHeartbeats 12800000 in
set_option maxRecDepth 100000 in
theorem RCopy_ok (S : Nat → Prop) (b : Nat) (s : St) (w : World) (hd : RD w S b s) (hP : s.P.length ≤ 1073741824) :
    Calls Try.prog 13 #[.pointer (some ⟨b, 0, none⟩)] w fun e w' => ∃ g S', e = .returned (.pointer (some ⟨g, 0, none⟩)) ∧ RD w' S' g s ∧ (∀ q, S' q → w.heap.size ≤ q) ∧ Below w.heap.size w w' := by
  obtain ⟨Lv0, Pv0, xs0, ys0, hx⟩ := hd
  obtain ⟨i0, hi0, hz0, hz1, hz2⟩ := info_parts infoB
  obtain ⟨i1, hi1, hy0, hy1, hy2⟩ := info_parts infoW
  have cN := hx.cN
  have cL := hx.cL
  have cP := hx.cP
  obtain ⟨AL, capL, rfl, hcapL, hLat⟩ := L_at hx.rowL hx.eachL
  obtain ⟨AP, capP, rfl, hcapP, hPat⟩ := P_at hx.rowP hx.eachP
  have lb := row_lt hx.block
  have hmost := hx.most
  have HLA := Lib.hid hLat
  have HPA := Lib.hid hPat
  have HX := Lib.hid hx
  have CL := Lib.hid cL
  have CP := Lib.hid cP
  clear hx hLat hPat cL cP
  go_enter Try.func13, Try.ntmps13
  go_wp2
  clear cN
  go_loopw [4] (fun i wr => ∃ (k : Nat) (Lv : Value) (xs : List Value), k ≤ s.L.length ∧ i = .int .i64 k ∧ wr.heap[w.heap.size]? = some (.cells #[Lv, .slice none 0 0, .int .i64 s.N] 64 (0, 0)) ∧
      wr.ownsRow w.heap.size 35 1 Lv k xs ∧ LOf wr (Made w wr) xs (s.L.take k) ∧ Below w.heap.size w wr) (fun i _ => s.L.length - (intOf i).toNat)
  case atStart => exact ⟨0, .slice none 0 0, [], Nat.zero_le _, rfl, row_new _ _, World.ownsRow_nil _ _ _ _, ⟨rfl, fun i hi => (by cases hi)⟩, (Below.refl _ _).alloc (Nat.le_refl _) _⟩
  case round =>
    obtain ⟨k, Lv, xs, hk, rfl, hb, ho, hL, hB⟩ := hrel
    have HB := Lib.hid hb
    have HO := Lib.hid ho
    have HL := Lib.hid hL
    have HBB := Lib.hid hB
    have lg := row_lt hb
    have c0 : wr.cell? ⟨w.heap.size, 0, none⟩ = some Lv := (row_cell hb 0).trans rfl
    have cL : wr.cell? ⟨b, 0, none⟩ = _ := (hB.cell (p := ⟨b, 0, none⟩) lb).trans CL.out
    have AB : Hid (Lv.ownBlock ≠ some w.heap.size) := own_ne ho hb (by decide)
    clear hb ho hL hB
    by_cases hlt : k < s.L.length
    · obtain ⟨gL, u, rfl, hgL, cl, hu⟩ := HLA.out k hlt
      obtain ⟨g0, c00, rest, rfl, hg0, hl, hc, hr⟩ := id hu
      have hgLl := HX.out.there gL hgL
      have cl2 : wr.cell? ⟨gL, k, none⟩ = _ := (HBB.out.cell (p := ⟨gL, k, none⟩) hgLl).trans cl
      have HCO := Lib.hid (Copied_blk s.L[k] S _ wr.drew (hu.keep (fun j o hj _ => HBB.out.block j (HX.out.there j hj))))
      have HTK := Lib.hid (List.take_succ_eq_append_getElem hlt)
      have hk0 : (0 : Int) ≤ (k : Int) := Int.natCast_nonneg _
      have hk1 : (k : Int) < (s.L.length : Int) := by omega
      clear hu cl hr hg0 hl hgL
      generalize s.L[k] = lk at *
      go_wp2_with fail
      go_region_law
        ((first
          | (refine step_append_lies _ (by rfl) _ _ _ (by rfl) w.heap.size 35 i0 _ 1 24 underB hi0 hz0 hz1 hz2 rfl (by omega) Lv k xs (by rfl) (HO1.out.alloc _)
              ⟨w1.heap.size, 0, none⟩ 1 1 [.slice (some ⟨g1, 0, none⟩) 256 c1] (by rfl) (by rfl) (World.news_of_block (cs := #[.slice (some ⟨g1, 0, none⟩) 256 c1]) (t := 35) (fr := (0, 0)) (row_new w1 _)) (by simp [Value.oneCell'])
              (by omega) (by unfold maxLen; omega) (by omega) (by simp; omega) (w1.heap.size + 1) (by simp) ?_; intro gg cap w2 hown1 hgrow hat hlt2
             have j1 : w2.cell? ⟨w.heap.size, 0, none⟩ = some Lv := (hgrow.cell_far _ (by simp; omega) (Ne.symm AB.out)).trans ((row_cell (row_alloc HB1.out _) 0).trans rfl)
             have j2 : w2.frozen? ⟨w.heap.size, 0, none⟩ = false := (hgrow.frozen_far _ (by simp; omega) (Ne.symm AB.out)).trans (row_free (row_alloc HB1.out _) 0))
          | (go_simp; go_at_call 30; refine HCO.out.mono ?_; rintro e w1 ⟨u, rfl, hblk, hb1⟩
             obtain ⟨g1, c1, r1, rfl, _⟩ := id hblk
             have HBLK := Lib.hid hblk
             have HBW := Lib.hid hb1
             have hsw : wr.heap.size ≤ w1.heap.size := hb1.size
             have HB1 := Lib.hid ((hb1.block w.heap.size lg).trans HB.out)
             have j0 : w1.cell? ⟨w.heap.size, 0, none⟩ = some Lv := (row_cell HB1.out 0).trans rfl
             have j3 : ∀ o : Obj, (w1.alloc o).cell? ⟨w.heap.size, 0, none⟩ = some Lv := fun o => (row_cell (row_alloc HB1.out o) 0).trans rfl
             have HO1 := Lib.hid (own_same (w' := w1) HO.out (fun g hg => hb1.block g (own_lt HO.out g hg)))
             clear hblk hb1)))
      all_goals
        have hr := C_append (W0 := w1.alloc (.cells #[.slice (some ⟨g1, 0, none⟩) 256 c1] 35)) HB.out (Nat.le_refl _) HO.out HL.out HBB.out ((⟨HBW.out.os, HBW.out.tape, HBW.out.output, HBW.out.size, HBW.out.block⟩ : Below wr.heap.size wr w1).alloc hsw _)
          ((HBLK.out.keep (fun k o _ ho => Below.heap_alloc _ _ _ (row_lt ho))).more (fun k hk => ⟨hk.1, by have := hk.2; simp; omega⟩)) hgrow hown1 hat (by simp)
        have HR := Lib.hid hr
        clear hr hown1 hgrow hat hlt2 j1 j2 j0 j3
        generalize w2.setCell ⟨w.heap.size, 0, none⟩ (.slice (some ⟨gg, 0, none⟩) (k + 1) cap) = W1 at *
        go_wp2
        go_roundw
        case rel => exact ⟨k + 1, _, _, by omega, by go_num, HR.out.1, HR.out.2.1, by rw [HTK.out]; exact HR.out.2.2.1, HR.out.2.2.2⟩
        case measure => simp [intOf]; omega
    · obtain rfl : k = s.L.length := by omega
      go_wp2
      have h0 : wr.heap[w.heap.size]? = some (.cells #[Lv, .slice none 0 0, .int .i64 s.N] 64 (0, 0)) := HB.out
      clear c0 cL AB
      go_loopw [5] (fun i wt => ∃ (k : Nat) (Pv : Value) (ys : List Value), k ≤ s.P.length ∧ i = .int .i64 k ∧ wt.heap[w.heap.size]? = some (.cells #[Lv, Pv, .int .i64 s.N] 64 (0, 0)) ∧
        wt.ownsRow w.heap.size 35 1 Lv s.L.length xs ∧ wt.ownsRow w.heap.size 56 2 Pv k ys ∧ LOf wt (Made w wt) xs s.L ∧ POf wt (Made w wt) ys (s.P.take k) ∧ Below w.heap.size w wt) (fun i _ => s.P.length - (intOf i).toNat)
      case atStart =>
        have hl := HL.out
        rw [List.take_length] at hl
        exact ⟨0, .slice none 0 0, [], Nat.zero_le _, rfl, h0, HO.out, World.ownsRow_nil _ _ _ _, hl, ⟨rfl, fun i hi => (by cases hi)⟩, HBB.out⟩
      case round =>
        clear HB HO HL HBB lg h0
        obtain ⟨k, Pv, ys, hk, rfl, hb, hoL, ho, hL, hP2, hB⟩ := hrel
        have HB := Lib.hid hb
        have HOL := Lib.hid hoL
        have HO := Lib.hid ho
        have HL := Lib.hid hL
        have HP := Lib.hid hP2
        have HBB := Lib.hid hB
        have lg := row_lt hb
        have c1 : wr.cell? ⟨w.heap.size, 1, none⟩ = some Pv := (row_cell hb 1).trans rfl
        have cP : wr.cell? ⟨b, 1, none⟩ = _ := (hB.cell (p := ⟨b, 1, none⟩) lb).trans CP.out
        have AB : Hid (Pv.ownBlock ≠ some w.heap.size) := own_ne ho hb (by decide)
        clear hb hoL ho hL hP2 hB
        by_cases hlt : k < s.P.length
        · obtain ⟨gP, u, rfl, hgP, p0, p1, hu⟩ := HPA.out k hlt
          obtain ⟨g0, c00, rest, rfl, hg0, hl, hc, hr⟩ := id hu
          have hgPl := HX.out.there gP hgP
          have r0 : wr.cell? ⟨gP, k * 2, none⟩ = _ := (HBB.out.cell (p := ⟨gP, k * 2, none⟩) hgPl).trans p0
          have r1 : wr.cell? ⟨gP, k * 2 + 1, none⟩ = _ := (HBB.out.cell (p := ⟨gP, k * 2 + 1, none⟩) hgPl).trans p1
          have HCO := Lib.hid (Copied_blk s.P[k].2 S _ wr.drew (hu.keep (fun j o hj _ => HBB.out.block j (HX.out.there j hj))))
          have HTK := Lib.hid (List.take_succ_eq_append_getElem hlt)
          have hk0 : (0 : Int) ≤ (k : Int) := Int.natCast_nonneg _
          have hk1 : (k : Int) < (s.P.length : Int) := by omega
          have HPE : Hid (s.P[k] = (s.P[k].1, s.P[k].2)) := rfl
          clear hu p0 p1 hr hg0 hl hgP
          have hbw := HBB.out.size
          have hlt1 : gP < wr.heap.size := by omega
          have lbr : b < wr.heap.size := by omega
          have lbw := lb
          have AP1 : Hid (∀ j, j < w.heap.size → (some j : Option Nat) ≠ Pv.ownBlock) := fun j hj e => by have := own_ge HO.out j e.symm; omega
          generalize s.P[k].2 = lk at *
          generalize s.P[k].1 = n at *
          go_wp2_with fail
          have nb : b ≠ w.heap.size := by omega
          have ng : gP ≠ w.heap.size := by omega
          have HELD := Lib.hid (And.intro cP (And.intro r0 r1))
          refine wp_region_held_drew (S := (fun w' => w'.cell? ⟨b, 1, none⟩ = some (.slice (some ⟨gP, 0, none⟩) s.P.length capP) ∧ w'.cell? ⟨gP, k * 2, none⟩ = some (.int .i64 n) ∧ w'.cell? ⟨gP, k * 2 + 1, none⟩ = some (.slice (some ⟨g0, 0, none⟩) 256 c00))) (by kernel_rfl) HELD.out (fun hHeld => ?_)
          refine wpAnyH_take (i := 0) (v := ?_) rfl (by kernel_rfl) (by kernel_rfl) (by kernel_rfl) (fun _ _ _ h => h) (Or.inl ⟨by rfl, ?_⟩) hHeld ?_
          rotate_left
          · intro w hSw
            try dsimp only at hSw
            go_simp
            try with_reducible rfl
          simp only [Act.put, List.getElem_toArray, List.getElem_cons_zero, List.setIfInBounds_toArray, List.set_cons_zero, List.set_cons_succ]
          refine wpAnyH_take (i := 1) (v := ?_) rfl (by kernel_rfl) (by kernel_rfl) (by kernel_rfl) (fun _ _ _ h => h) (Or.inl ⟨by rfl, ?_⟩) hHeld ?_
          rotate_left
          · intro w hSw
            try dsimp only at hSw
            go_simp
            try with_reducible rfl
          simp only [Act.put, List.getElem_toArray, List.getElem_cons_zero, List.getElem_cons_succ, List.setIfInBounds_toArray, List.set_cons_zero, List.set_cons_succ]
          refine wpAnyH_take (i := 2) (v := ?_) rfl (by kernel_rfl) (by kernel_rfl) (by kernel_rfl) (fun _ _ _ h => h) (Or.inl ⟨by rfl, ?_⟩) hHeld ?_
          rotate_left
          · intro w hSw
            try dsimp only at hSw
            go_simp
            try with_reducible rfl
          simp only [Act.put, List.getElem_toArray, List.getElem_cons_zero, List.getElem_cons_succ, List.setIfInBounds_toArray, List.set_cons_zero, List.set_cons_succ]
          refine wpAnyH_take (i := 3) (v := ?_) rfl (by kernel_rfl) (by kernel_rfl) (by kernel_rfl) (fun _ _ _ h => h) (Or.inl ⟨by rfl, ?_⟩) hHeld ?_
          rotate_left
          · intro w hSw
            try dsimp only at hSw
            go_simp
            try with_reducible rfl
          simp only [Act.put, List.getElem_toArray, List.getElem_cons_zero, List.getElem_cons_succ, List.setIfInBounds_toArray, List.set_cons_zero, List.set_cons_succ]
          refine wpAnyH_take (i := 5) (v := ?_) rfl (by kernel_rfl) (by kernel_rfl) (by kernel_rfl) (fun _ _ _ h => h) (Or.inl ⟨by rfl, ?_⟩) hHeld ?_
          rotate_left
          · intro w hSw
            try dsimp only at hSw
            go_simp
            try with_reducible rfl
          simp only [Act.put, List.getElem_toArray, List.getElem_cons_zero, List.getElem_cons_succ, List.setIfInBounds_toArray, List.set_cons_zero, List.set_cons_succ]
          refine wpAnyH_take (i := 6) (v := ?_) rfl (by kernel_rfl) (by kernel_rfl) (by kernel_rfl) (fun _ _ _ h => h) (Or.inl ⟨by rfl, ?_⟩) hHeld ?_
          rotate_left
          · intro w hSw
            try dsimp only at hSw
            go_simp
            try with_reducible rfl
          simp only [Act.put, List.getElem_toArray, List.getElem_cons_zero, List.getElem_cons_succ, List.setIfInBounds_toArray, List.set_cons_zero, List.set_cons_succ]
          refine wpAnyH_take (i := 7) (v := ?_) rfl (by kernel_rfl) (by kernel_rfl) (by kernel_rfl) (fun _ _ _ h => h) (Or.inl ⟨by rfl, ?_⟩) hHeld ?_
          rotate_left
          · intro w hSw
            try dsimp only at hSw
            go_simp
            try with_reducible rfl
          simp only [Act.put, List.getElem_toArray, List.getElem_cons_zero, List.getElem_cons_succ, List.setIfInBounds_toArray, List.set_cons_zero, List.set_cons_succ]
          refine wpAnyH_take (i := 8) (v := ?_) rfl (by kernel_rfl) (by kernel_rfl) (by kernel_rfl) (fun _ _ _ h => h) (Or.inl ⟨by rfl, ?_⟩) hHeld ?_
          rotate_left
          · intro w hSw
            try dsimp only at hSw
            go_simp
            try with_reducible rfl
          simp only [Act.put, List.getElem_toArray, List.getElem_cons_zero, List.getElem_cons_succ, List.setIfInBounds_toArray, List.set_cons_zero, List.set_cons_succ]
          refine wpAnyH_take (i := 9) (v := ?_) rfl (by kernel_rfl) (by kernel_rfl) (by kernel_rfl) (fun _ _ _ h => h) (Or.inl ⟨by rfl, ?_⟩) hHeld ?_
          rotate_left
          · intro w hSw
            try dsimp only at hSw
            go_simp
            try with_reducible rfl
          simp only [Act.put, List.getElem_toArray, List.getElem_cons_zero, List.getElem_cons_succ, List.setIfInBounds_toArray, List.set_cons_zero, List.set_cons_succ]
          refine wpAnyH_take (i := 10) (v := ?_) rfl (by kernel_rfl) (by kernel_rfl) (by kernel_rfl) (fun _ _ _ h => h) (Or.inl ⟨by rfl, ?_⟩) hHeld ?_
          rotate_left
          · intro w hSw
            try dsimp only at hSw
            go_simp
            try with_reducible rfl
          simp only [Act.put, List.getElem_toArray, List.getElem_cons_zero, List.getElem_cons_succ, List.setIfInBounds_toArray, List.set_cons_zero, List.set_cons_succ]
          refine wpAnyH_take (i := 11) (v := ?_) rfl (by kernel_rfl) (by kernel_rfl) (by kernel_rfl) (fun _ _ _ h => h) (Or.inl ⟨by rfl, ?_⟩) hHeld ?_
          rotate_left
          · intro w hSw
            try dsimp only at hSw
            go_simp
            try with_reducible rfl
          simp only [Act.put, List.getElem_toArray, List.getElem_cons_zero, List.getElem_cons_succ, List.setIfInBounds_toArray, List.set_cons_zero, List.set_cons_succ]
          refine wpAnyH_take (i := 12) (v := ?_) rfl (by kernel_rfl) (by kernel_rfl) (by kernel_rfl) (fun _ _ _ h => h) (Or.inl ⟨by rfl, ?_⟩) hHeld ?_
          rotate_left
          · intro w hSw
            try dsimp only at hSw
            go_simp
            try with_reducible rfl
          simp only [Act.put, List.getElem_toArray, List.getElem_cons_zero, List.getElem_cons_succ, List.setIfInBounds_toArray, List.set_cons_zero, List.set_cons_succ]
          refine wpAnyH_take (i := 13) (v := ?_) rfl (by kernel_rfl) (by kernel_rfl) (by kernel_rfl) (fun _ _ _ h => h) (Or.inl ⟨by rfl, ?_⟩) hHeld ?_
          rotate_left
          · intro w hSw
            try dsimp only at hSw
            go_simp
            try with_reducible rfl
          simp only [Act.put, List.getElem_toArray, List.getElem_cons_zero, List.getElem_cons_succ, List.setIfInBounds_toArray, List.set_cons_zero, List.set_cons_succ]
          refine wpAnyH_take (i := 14) (v := ?_) rfl (by kernel_rfl) (by kernel_rfl) (by kernel_rfl) (fun _ _ _ h => h) (Or.inl ⟨by rfl, ?_⟩) hHeld ?_
          rotate_left
          · intro w hSw
            try dsimp only at hSw
            go_simp
            try with_reducible rfl
          simp only [Act.put, List.getElem_toArray, List.getElem_cons_zero, List.getElem_cons_succ, List.setIfInBounds_toArray, List.set_cons_zero, List.set_cons_succ]
          refine wpAnyH_take (i := 15) (v := ?_) rfl (by kernel_rfl) (by kernel_rfl) (by kernel_rfl) (fun _ _ _ h => h) (Or.inl ⟨by rfl, ?_⟩) hHeld ?_
          rotate_left
          · intro w hSw
            try dsimp only at hSw
            go_simp
            try with_reducible rfl
          simp only [Act.put, List.getElem_toArray, List.getElem_cons_zero, List.getElem_cons_succ, List.setIfInBounds_toArray, List.set_cons_zero, List.set_cons_succ]
          refine wpAnyH_take (i := 16) (v := ?_) rfl (by kernel_rfl) (by kernel_rfl) (by kernel_rfl) (fun _ _ _ h => h) (Or.inl ⟨by rfl, ?_⟩) hHeld ?_
          rotate_left
          · intro w hSw
            try dsimp only at hSw
            go_simp
            try with_reducible rfl
          simp only [Act.put, List.getElem_toArray, List.getElem_cons_zero, List.getElem_cons_succ, List.setIfInBounds_toArray, List.set_cons_zero, List.set_cons_succ]
          refine wpAnyH_take (i := 17) (v := ?_) rfl (by kernel_rfl) (by kernel_rfl) (by kernel_rfl) (fun _ _ _ h => h) (Or.inl ⟨by rfl, ?_⟩) hHeld ?_
          rotate_left
          · intro w hSw
            try dsimp only at hSw
            go_simp
            try with_reducible rfl
          simp only [Act.put, List.getElem_toArray, List.getElem_cons_zero, List.getElem_cons_succ, List.setIfInBounds_toArray, List.set_cons_zero, List.set_cons_succ]
          refine wpAnyH_take (i := 18) (v := ?_) rfl (by kernel_rfl) (by kernel_rfl) (by kernel_rfl) (fun _ _ _ h => h) (Or.inl ⟨by rfl, ?_⟩) hHeld ?_
          rotate_left
          · intro w hSw
            try dsimp only at hSw
            go_simp
            try with_reducible rfl
          simp only [Act.put, List.getElem_toArray, List.getElem_cons_zero, List.getElem_cons_succ, List.setIfInBounds_toArray, List.set_cons_zero, List.set_cons_succ]
          refine wpAnyH_take (i := 19) (v := ?_) rfl (by kernel_rfl) (by kernel_rfl) (by kernel_rfl) (fun _ _ _ h => h) (Or.inl ⟨by rfl, ?_⟩) hHeld ?_
          rotate_left
          · intro w hSw
            try dsimp only at hSw
            go_simp
            try with_reducible rfl
          simp only [Act.put, List.getElem_toArray, List.getElem_cons_zero, List.getElem_cons_succ, List.setIfInBounds_toArray, List.set_cons_zero, List.set_cons_succ]
          refine wpAnyH_take (i := 20) (v := ?_) rfl (by kernel_rfl) (by kernel_rfl) (by kernel_rfl) (fun _ _ _ h => h) (Or.inl ⟨by rfl, ?_⟩) hHeld ?_
          rotate_left
          · intro w hSw
            try dsimp only at hSw
            go_simp
            try with_reducible rfl
          simp only [Act.put, List.getElem_toArray, List.getElem_cons_zero, List.getElem_cons_succ, List.setIfInBounds_toArray, List.set_cons_zero, List.set_cons_succ]
          refine wpAnyH_ready (rs := [4, 21]) (by kernel_rfl) (by simp) ?_
          refine AllReadyH.cons (o := _) rfl (fun K hK => ?_) (AllReadyH.cons (o := _) rfl (fun K hK => ?_) AllReadyH.nil)
          · skip
            go_simp
            refine hK.out _ _ hHeld (fun hHeld => ?_)
            clear hK K
            try simp only [Act.put, List.getElem_toArray, List.getElem_cons_zero, List.getElem_cons_succ, List.setIfInBounds_toArray, List.set_cons_zero, List.set_cons_succ]
            refine wpAnyH_ready (rs := [21]) (by kernel_rfl) (by simp) ?_
            refine AllReadyH.cons (o := _) rfl (fun K hK => ?_) AllReadyH.nil
            go_simp; go_at_call 30; refine HCO.out.mono ?_; rintro e w1 ⟨u, rfl, hblk, hb1⟩
            obtain ⟨g1, c1, r1x, rfl, _⟩ := id hblk
            have HBLK := Lib.hid hblk
            have HBW := Lib.hid hb1
            have hsw : wr.heap.size ≤ w1.heap.size := hb1.size
            have HB1 := Lib.hid ((hb1.block w.heap.size lg).trans HB.out)
            have j0 : w1.cell? ⟨w.heap.size, 1, none⟩ = some Pv := (row_cell HB1.out 1).trans rfl
            have j3 : ∀ o : Obj, (w1.alloc o).cell? ⟨w.heap.size, 1, none⟩ = some Pv := fun o => (row_cell (row_alloc HB1.out o) 1).trans rfl
            have j4 : w1.cell? ⟨b, 1, none⟩ = _ := (hb1.cell (p := ⟨b, 1, none⟩) lbr).trans cP
            have j5 : w1.cell? ⟨gP, k * 2, none⟩ = _ := (hb1.cell (p := ⟨gP, k * 2, none⟩) hlt1).trans r0
            have j6 : w1.cell? ⟨gP, k * 2 + 1, none⟩ = _ := (hb1.cell (p := ⟨gP, k * 2 + 1, none⟩) hlt1).trans r1
            have j7 : ∀ o : Obj, (w1.alloc o).cell? ⟨b, 1, none⟩ = _ := fun o => (World.cell?_alloc_lt w1 o ⟨b, 1, none⟩ (by show b < _; omega)).trans j4
            have j8 : ∀ o : Obj, (w1.alloc o).cell? ⟨gP, k * 2, none⟩ = _ := fun o => (World.cell?_alloc_lt w1 o ⟨gP, k * 2, none⟩ (by show gP < _; omega)).trans j5
            have j9 : ∀ o : Obj, (w1.alloc o).cell? ⟨gP, k * 2 + 1, none⟩ = _ := fun o => (World.cell?_alloc_lt w1 o ⟨gP, k * 2 + 1, none⟩ (by show gP < _; omega)).trans j6
            have HO1 := Lib.hid (own_same (w' := w1) HO.out (fun g hg => hb1.block g (own_lt HO.out g hg)))
            clear hblk hb1
            go_wp2_with fail
            refine hK.out _ _ ⟨j4, j5, j6⟩ (fun hHeld => ?_)
            clear hK K
            try simp only [Act.put, List.getElem_toArray, List.getElem_cons_zero, List.getElem_cons_succ, List.setIfInBounds_toArray, List.set_cons_zero, List.set_cons_succ]
            refine wpAnyH_take (i := 22) (v := ?_) rfl (by kernel_rfl) (by kernel_rfl) (by kernel_rfl) (fun _ _ _ h => h) (Or.inl ⟨by rfl, ?_⟩) hHeld ?_
            rotate_left
            · intro w hSw
              try dsimp only at hSw
              go_simp
              try with_reducible rfl
            simp only [Act.put, List.getElem_toArray, List.getElem_cons_zero, List.getElem_cons_succ, List.setIfInBounds_toArray, List.set_cons_zero, List.set_cons_succ]
            refine wpAnyH_ready (rs := [23]) (by kernel_rfl) (by simp) ?_
            refine AllReadyH.cons (o := _) rfl (fun K hK => ?_) AllReadyH.nil
            go_simp
            refine hK.out _ _ ⟨j7 _, j8 _, j9 _⟩ (fun hHeld => ?_)
            clear hK K
            try simp only [Act.put, List.getElem_toArray, List.getElem_cons_zero, List.getElem_cons_succ, List.setIfInBounds_toArray, List.set_cons_zero, List.set_cons_succ]
            refine wpAnyH_ready (rs := [24]) (by kernel_rfl) (by simp) ?_
            refine AllReadyH.cons (o := _) rfl (fun K hK => ?_) AllReadyH.nil
            refine step_append_lies _ (by rfl) _ _ _ (by rfl) w.heap.size 56 i1 _ 2 32 underW hi1 hy0 hy1 hy2 rfl (by omega) Pv k ys (by rfl) (HO1.out.alloc _) ⟨w1.heap.size, 0, none⟩ 1 1 [.int .i64 n, .slice (some ⟨g1, 0, none⟩) 256 c1] (by rfl) (by rfl) (World.news_of_block (cs := #[.int .i64 n, .slice (some ⟨g1, 0, none⟩) 256 c1]) (t := 56) (fr := (0, 0)) (row_new w1 _)) (by simp [Value.oneCell']) (by omega) (by unfold maxLen; omega) (by omega) (by simp; omega) (w1.heap.size + 1) (by simp) ?_; intro gg cap w2 hown1 hgrow hat hlt2
            have j1 : w2.cell? ⟨w.heap.size, 1, none⟩ = some Pv := (hgrow.cell_far _ (by simp; omega) (Ne.symm AB.out)).trans ((row_cell (row_alloc HB1.out _) 1).trans rfl)
            have m4 : w2.cell? ⟨b, 1, none⟩ = _ := (hgrow.cell_far ⟨b, 1, none⟩ (by simp; omega) (AP1.out _ lbw)).trans (j7 _)
            have m5 : w2.cell? ⟨gP, k * 2, none⟩ = _ := (hgrow.cell_far ⟨gP, k * 2, none⟩ (by simp; omega) (AP1.out _ hgPl)).trans (j8 _)
            have m6 : w2.cell? ⟨gP, k * 2 + 1, none⟩ = _ := (hgrow.cell_far ⟨gP, k * 2 + 1, none⟩ (by simp; omega) (AP1.out _ hgPl)).trans (j9 _)
            have m7 : ∀ v, (w2.setCell ⟨w.heap.size, 1, none⟩ v).cell? ⟨b, 1, none⟩ = _ := fun v => (cell_of_block' (Below.heap_setCell w2 ⟨w.heap.size, 1, none⟩ v b nb)).trans m4
            have m8 : ∀ v, (w2.setCell ⟨w.heap.size, 1, none⟩ v).cell? ⟨gP, k * 2, none⟩ = _ := fun v => (cell_of_block' (Below.heap_setCell w2 ⟨w.heap.size, 1, none⟩ v gP ng)).trans m5
            have m9 : ∀ v, (w2.setCell ⟨w.heap.size, 1, none⟩ v).cell? ⟨gP, k * 2 + 1, none⟩ = _ := fun v => (cell_of_block' (Below.heap_setCell w2 ⟨w.heap.size, 1, none⟩ v gP ng)).trans m6
            have j2 : w2.frozen? ⟨w.heap.size, 1, none⟩ = false := (hgrow.frozen_far _ (by simp; omega) (Ne.symm AB.out)).trans (row_free (row_alloc HB1.out _) 1)
            refine hK.out _ _ ⟨m4, m5, m6⟩ (fun hHeld => ?_)
            clear hK K
            try simp only [Act.put, List.getElem_toArray, List.getElem_cons_zero, List.getElem_cons_succ, List.setIfInBounds_toArray, List.set_cons_zero, List.set_cons_succ]
            refine wpAnyH_take (i := 25) (v := ?_) rfl (by kernel_rfl) (by kernel_rfl) (by kernel_rfl) (fun _ _ _ h => h) (Or.inl ⟨by rfl, ?_⟩) hHeld ?_
            rotate_left
            · intro w hSw
              try dsimp only at hSw
              go_simp
              try with_reducible rfl
            simp only [Act.put, List.getElem_toArray, List.getElem_cons_zero, List.getElem_cons_succ, List.setIfInBounds_toArray, List.set_cons_zero, List.set_cons_succ]
            refine wpAnyH_take (i := 26) (v := ?_) rfl (by kernel_rfl) (by kernel_rfl) (by kernel_rfl) (fun _ _ _ h => h) (Or.inl ⟨by rfl, ?_⟩) hHeld ?_
            rotate_left
            · intro w hSw
              try dsimp only at hSw
              go_simp
              try with_reducible rfl
            simp only [Act.put, List.getElem_toArray, List.getElem_cons_zero, List.getElem_cons_succ, List.setIfInBounds_toArray, List.set_cons_zero, List.set_cons_succ]
            refine wpAnyH_ready (rs := [27]) (by kernel_rfl) (by simp) ?_
            refine AllReadyH.cons (o := _) rfl (fun K hK => ?_) AllReadyH.nil
            go_simp
            refine hK.out _ _ ⟨m7 _, m8 _, m9 _⟩ (fun hHeld => ?_)
            clear hK K
            try simp only [Act.put, List.getElem_toArray, List.getElem_cons_zero, List.getElem_cons_succ, List.setIfInBounds_toArray, List.set_cons_zero, List.set_cons_succ]
            refine wpAnyH_done (by kernel_rfl) ?_ _
            have hr := C_append2 (n := n) (W0 := w1.alloc (.cells #[.int .i64 n, .slice (some ⟨g1, 0, none⟩) 256 c1] 56)) HB.out (Nat.le_refl _) HOL.out HO.out HL.out HP.out HBB.out ((⟨HBW.out.os, HBW.out.tape, HBW.out.output, HBW.out.size, HBW.out.block⟩ : Below wr.heap.size wr w1).alloc hsw _)
              ((HBLK.out.keep (fun k o _ ho => Below.heap_alloc _ _ _ (row_lt ho))).more (fun k hk => ⟨hk.1, by have := hk.2; simp; omega⟩)) hgrow hown1 hat (by simp)
            have HR := Lib.hid hr
            clear hr hown1 hgrow hat hlt2 j1 j2 j0 j3 j4 j5 j6 j7 j8 j9 m4 m5 m6 m7 m8 m9
            generalize w2.setCell ⟨w.heap.size, 1, none⟩ (.slice (some ⟨gg, 0, none⟩) (k + 1) cap) = W1 at *
            go_wp2
            go_roundw
            case rel => exact ⟨k + 1, _, _, by omega, by go_num, HR.out.1, HR.out.2.1, HR.out.2.2.1, HR.out.2.2.2.1, by rw [HTK.out, HPE.out]; exact HR.out.2.2.2.2.1, HR.out.2.2.2.2.2⟩
            case measure => simp [intOf]; omega
          · skip
            go_simp; go_at_call 30; refine HCO.out.mono ?_; rintro e w1 ⟨u, rfl, hblk, hb1⟩
            obtain ⟨g1, c1, r1x, rfl, _⟩ := id hblk
            have HBLK := Lib.hid hblk
            have HBW := Lib.hid hb1
            have hsw : wr.heap.size ≤ w1.heap.size := hb1.size
            have HB1 := Lib.hid ((hb1.block w.heap.size lg).trans HB.out)
            have j0 : w1.cell? ⟨w.heap.size, 1, none⟩ = some Pv := (row_cell HB1.out 1).trans rfl
            have j3 : ∀ o : Obj, (w1.alloc o).cell? ⟨w.heap.size, 1, none⟩ = some Pv := fun o => (row_cell (row_alloc HB1.out o) 1).trans rfl
            have j4 : w1.cell? ⟨b, 1, none⟩ = _ := (hb1.cell (p := ⟨b, 1, none⟩) lbr).trans cP
            have j5 : w1.cell? ⟨gP, k * 2, none⟩ = _ := (hb1.cell (p := ⟨gP, k * 2, none⟩) hlt1).trans r0
            have j6 : w1.cell? ⟨gP, k * 2 + 1, none⟩ = _ := (hb1.cell (p := ⟨gP, k * 2 + 1, none⟩) hlt1).trans r1
            have j7 : ∀ o : Obj, (w1.alloc o).cell? ⟨b, 1, none⟩ = _ := fun o => (World.cell?_alloc_lt w1 o ⟨b, 1, none⟩ (by show b < _; omega)).trans j4
            have j8 : ∀ o : Obj, (w1.alloc o).cell? ⟨gP, k * 2, none⟩ = _ := fun o => (World.cell?_alloc_lt w1 o ⟨gP, k * 2, none⟩ (by show gP < _; omega)).trans j5
            have j9 : ∀ o : Obj, (w1.alloc o).cell? ⟨gP, k * 2 + 1, none⟩ = _ := fun o => (World.cell?_alloc_lt w1 o ⟨gP, k * 2 + 1, none⟩ (by show gP < _; omega)).trans j6
            have HO1 := Lib.hid (own_same (w' := w1) HO.out (fun g hg => hb1.block g (own_lt HO.out g hg)))
            clear hblk hb1
            go_wp2_with fail
            refine hK.out _ _ ⟨j4, j5, j6⟩ (fun hHeld => ?_)
            clear hK K
            try simp only [Act.put, List.getElem_toArray, List.getElem_cons_zero, List.getElem_cons_succ, List.setIfInBounds_toArray, List.set_cons_zero, List.set_cons_succ]
            refine wpAnyH_take (i := 22) (v := ?_) rfl (by kernel_rfl) (by kernel_rfl) (by kernel_rfl) (fun _ _ _ h => h) (Or.inl ⟨by rfl, ?_⟩) hHeld ?_
            rotate_left
            · intro w hSw
              try dsimp only at hSw
              go_simp
              try with_reducible rfl
            simp only [Act.put, List.getElem_toArray, List.getElem_cons_zero, List.getElem_cons_succ, List.setIfInBounds_toArray, List.set_cons_zero, List.set_cons_succ]
            refine wpAnyH_ready (rs := [4, 23]) (by kernel_rfl) (by simp) ?_
            refine AllReadyH.cons (o := _) rfl (fun K hK => ?_) (AllReadyH.cons (o := _) rfl (fun K hK => ?_) AllReadyH.nil)
            · skip
              go_simp
              refine hK.out _ _ ⟨j4, j5, j6⟩ (fun hHeld => ?_)
              clear hK K
              try simp only [Act.put, List.getElem_toArray, List.getElem_cons_zero, List.getElem_cons_succ, List.setIfInBounds_toArray, List.set_cons_zero, List.set_cons_succ]
              refine wpAnyH_ready (rs := [23]) (by kernel_rfl) (by simp) ?_
              refine AllReadyH.cons (o := _) rfl (fun K hK => ?_) AllReadyH.nil
              go_simp
              refine hK.out _ _ ⟨j7 _, j8 _, j9 _⟩ (fun hHeld => ?_)
              clear hK K
              try simp only [Act.put, List.getElem_toArray, List.getElem_cons_zero, List.getElem_cons_succ, List.setIfInBounds_toArray, List.set_cons_zero, List.set_cons_succ]
              refine wpAnyH_ready (rs := [24]) (by kernel_rfl) (by simp) ?_
              refine AllReadyH.cons (o := _) rfl (fun K hK => ?_) AllReadyH.nil
              refine step_append_lies _ (by rfl) _ _ _ (by rfl) w.heap.size 56 i1 _ 2 32 underW hi1 hy0 hy1 hy2 rfl (by omega) Pv k ys (by rfl) (HO1.out.alloc _) ⟨w1.heap.size, 0, none⟩ 1 1 [.int .i64 n, .slice (some ⟨g1, 0, none⟩) 256 c1] (by rfl) (by rfl) (World.news_of_block (cs := #[.int .i64 n, .slice (some ⟨g1, 0, none⟩) 256 c1]) (t := 56) (fr := (0, 0)) (row_new w1 _)) (by simp [Value.oneCell']) (by omega) (by unfold maxLen; omega) (by omega) (by simp; omega) (w1.heap.size + 1) (by simp) ?_; intro gg cap w2 hown1 hgrow hat hlt2
              have j1 : w2.cell? ⟨w.heap.size, 1, none⟩ = some Pv := (hgrow.cell_far _ (by simp; omega) (Ne.symm AB.out)).trans ((row_cell (row_alloc HB1.out _) 1).trans rfl)
              have m4 : w2.cell? ⟨b, 1, none⟩ = _ := (hgrow.cell_far ⟨b, 1, none⟩ (by simp; omega) (AP1.out _ lbw)).trans (j7 _)
              have m5 : w2.cell? ⟨gP, k * 2, none⟩ = _ := (hgrow.cell_far ⟨gP, k * 2, none⟩ (by simp; omega) (AP1.out _ hgPl)).trans (j8 _)
              have m6 : w2.cell? ⟨gP, k * 2 + 1, none⟩ = _ := (hgrow.cell_far ⟨gP, k * 2 + 1, none⟩ (by simp; omega) (AP1.out _ hgPl)).trans (j9 _)
              have m7 : ∀ v, (w2.setCell ⟨w.heap.size, 1, none⟩ v).cell? ⟨b, 1, none⟩ = _ := fun v => (cell_of_block' (Below.heap_setCell w2 ⟨w.heap.size, 1, none⟩ v b nb)).trans m4
              have m8 : ∀ v, (w2.setCell ⟨w.heap.size, 1, none⟩ v).cell? ⟨gP, k * 2, none⟩ = _ := fun v => (cell_of_block' (Below.heap_setCell w2 ⟨w.heap.size, 1, none⟩ v gP ng)).trans m5
              have m9 : ∀ v, (w2.setCell ⟨w.heap.size, 1, none⟩ v).cell? ⟨gP, k * 2 + 1, none⟩ = _ := fun v => (cell_of_block' (Below.heap_setCell w2 ⟨w.heap.size, 1, none⟩ v gP ng)).trans m6
              have j2 : w2.frozen? ⟨w.heap.size, 1, none⟩ = false := (hgrow.frozen_far _ (by simp; omega) (Ne.symm AB.out)).trans (row_free (row_alloc HB1.out _) 1)
              refine hK.out _ _ ⟨m4, m5, m6⟩ (fun hHeld => ?_)
              clear hK K
              try simp only [Act.put, List.getElem_toArray, List.getElem_cons_zero, List.getElem_cons_succ, List.setIfInBounds_toArray, List.set_cons_zero, List.set_cons_succ]
              refine wpAnyH_take (i := 25) (v := ?_) rfl (by kernel_rfl) (by kernel_rfl) (by kernel_rfl) (fun _ _ _ h => h) (Or.inl ⟨by rfl, ?_⟩) hHeld ?_
              rotate_left
              · intro w hSw
                try dsimp only at hSw
                go_simp
                try with_reducible rfl
              simp only [Act.put, List.getElem_toArray, List.getElem_cons_zero, List.getElem_cons_succ, List.setIfInBounds_toArray, List.set_cons_zero, List.set_cons_succ]
              refine wpAnyH_take (i := 26) (v := ?_) rfl (by kernel_rfl) (by kernel_rfl) (by kernel_rfl) (fun _ _ _ h => h) (Or.inl ⟨by rfl, ?_⟩) hHeld ?_
              rotate_left
              · intro w hSw
                try dsimp only at hSw
                go_simp
                try with_reducible rfl
              simp only [Act.put, List.getElem_toArray, List.getElem_cons_zero, List.getElem_cons_succ, List.setIfInBounds_toArray, List.set_cons_zero, List.set_cons_succ]
              refine wpAnyH_ready (rs := [27]) (by kernel_rfl) (by simp) ?_
              refine AllReadyH.cons (o := _) rfl (fun K hK => ?_) AllReadyH.nil
              go_simp
              refine hK.out _ _ ⟨m7 _, m8 _, m9 _⟩ (fun hHeld => ?_)
              clear hK K
              try simp only [Act.put, List.getElem_toArray, List.getElem_cons_zero, List.getElem_cons_succ, List.setIfInBounds_toArray, List.set_cons_zero, List.set_cons_succ]
              refine wpAnyH_done (by kernel_rfl) ?_ _
              have hr := C_append2 (n := n) (W0 := w1.alloc (.cells #[.int .i64 n, .slice (some ⟨g1, 0, none⟩) 256 c1] 56)) HB.out (Nat.le_refl _) HOL.out HO.out HL.out HP.out HBB.out ((⟨HBW.out.os, HBW.out.tape, HBW.out.output, HBW.out.size, HBW.out.block⟩ : Below wr.heap.size wr w1).alloc hsw _)
                ((HBLK.out.keep (fun k o _ ho => Below.heap_alloc _ _ _ (row_lt ho))).more (fun k hk => ⟨hk.1, by have := hk.2; simp; omega⟩)) hgrow hown1 hat (by simp)
              have HR := Lib.hid hr
              clear hr hown1 hgrow hat hlt2 j1 j2 j0 j3 j4 j5 j6 j7 j8 j9 m4 m5 m6 m7 m8 m9
              generalize w2.setCell ⟨w.heap.size, 1, none⟩ (.slice (some ⟨gg, 0, none⟩) (k + 1) cap) = W1 at *
              go_wp2
              go_roundw
              case rel => exact ⟨k + 1, _, _, by omega, by go_num, HR.out.1, HR.out.2.1, HR.out.2.2.1, HR.out.2.2.2.1, by rw [HTK.out, HPE.out]; exact HR.out.2.2.2.2.1, HR.out.2.2.2.2.2⟩
              case measure => simp [intOf]; omega
            · skip
              go_simp
              refine hK.out _ _ ⟨j7 _, j8 _, j9 _⟩ (fun hHeld => ?_)
              clear hK K
              try simp only [Act.put, List.getElem_toArray, List.getElem_cons_zero, List.getElem_cons_succ, List.setIfInBounds_toArray, List.set_cons_zero, List.set_cons_succ]
              refine wpAnyH_ready (rs := [4]) (by kernel_rfl) (by simp) ?_
              refine AllReadyH.cons (o := _) rfl (fun K hK => ?_) AllReadyH.nil
              go_simp
              refine hK.out _ _ ⟨j7 _, j8 _, j9 _⟩ (fun hHeld => ?_)
              clear hK K
              try simp only [Act.put, List.getElem_toArray, List.getElem_cons_zero, List.getElem_cons_succ, List.setIfInBounds_toArray, List.set_cons_zero, List.set_cons_succ]
              refine wpAnyH_ready (rs := [24]) (by kernel_rfl) (by simp) ?_
              refine AllReadyH.cons (o := _) rfl (fun K hK => ?_) AllReadyH.nil
              refine step_append_lies _ (by rfl) _ _ _ (by rfl) w.heap.size 56 i1 _ 2 32 underW hi1 hy0 hy1 hy2 rfl (by omega) Pv k ys (by rfl) (HO1.out.alloc _) ⟨w1.heap.size, 0, none⟩ 1 1 [.int .i64 n, .slice (some ⟨g1, 0, none⟩) 256 c1] (by rfl) (by rfl) (World.news_of_block (cs := #[.int .i64 n, .slice (some ⟨g1, 0, none⟩) 256 c1]) (t := 56) (fr := (0, 0)) (row_new w1 _)) (by simp [Value.oneCell']) (by omega) (by unfold maxLen; omega) (by omega) (by simp; omega) (w1.heap.size + 1) (by simp) ?_; intro gg cap w2 hown1 hgrow hat hlt2
              have j1 : w2.cell? ⟨w.heap.size, 1, none⟩ = some Pv := (hgrow.cell_far _ (by simp; omega) (Ne.symm AB.out)).trans ((row_cell (row_alloc HB1.out _) 1).trans rfl)
              have m4 : w2.cell? ⟨b, 1, none⟩ = _ := (hgrow.cell_far ⟨b, 1, none⟩ (by simp; omega) (AP1.out _ lbw)).trans (j7 _)
              have m5 : w2.cell? ⟨gP, k * 2, none⟩ = _ := (hgrow.cell_far ⟨gP, k * 2, none⟩ (by simp; omega) (AP1.out _ hgPl)).trans (j8 _)
              have m6 : w2.cell? ⟨gP, k * 2 + 1, none⟩ = _ := (hgrow.cell_far ⟨gP, k * 2 + 1, none⟩ (by simp; omega) (AP1.out _ hgPl)).trans (j9 _)
              have m7 : ∀ v, (w2.setCell ⟨w.heap.size, 1, none⟩ v).cell? ⟨b, 1, none⟩ = _ := fun v => (cell_of_block' (Below.heap_setCell w2 ⟨w.heap.size, 1, none⟩ v b nb)).trans m4
              have m8 : ∀ v, (w2.setCell ⟨w.heap.size, 1, none⟩ v).cell? ⟨gP, k * 2, none⟩ = _ := fun v => (cell_of_block' (Below.heap_setCell w2 ⟨w.heap.size, 1, none⟩ v gP ng)).trans m5
              have m9 : ∀ v, (w2.setCell ⟨w.heap.size, 1, none⟩ v).cell? ⟨gP, k * 2 + 1, none⟩ = _ := fun v => (cell_of_block' (Below.heap_setCell w2 ⟨w.heap.size, 1, none⟩ v gP ng)).trans m6
              have j2 : w2.frozen? ⟨w.heap.size, 1, none⟩ = false := (hgrow.frozen_far _ (by simp; omega) (Ne.symm AB.out)).trans (row_free (row_alloc HB1.out _) 1)
              refine hK.out _ _ ⟨m4, m5, m6⟩ (fun hHeld => ?_)
              clear hK K
              try simp only [Act.put, List.getElem_toArray, List.getElem_cons_zero, List.getElem_cons_succ, List.setIfInBounds_toArray, List.set_cons_zero, List.set_cons_succ]
              refine wpAnyH_take (i := 25) (v := ?_) rfl (by kernel_rfl) (by kernel_rfl) (by kernel_rfl) (fun _ _ _ h => h) (Or.inl ⟨by rfl, ?_⟩) hHeld ?_
              rotate_left
              · intro w hSw
                try dsimp only at hSw
                go_simp
                try with_reducible rfl
              simp only [Act.put, List.getElem_toArray, List.getElem_cons_zero, List.getElem_cons_succ, List.setIfInBounds_toArray, List.set_cons_zero, List.set_cons_succ]
              refine wpAnyH_take (i := 26) (v := ?_) rfl (by kernel_rfl) (by kernel_rfl) (by kernel_rfl) (fun _ _ _ h => h) (Or.inl ⟨by rfl, ?_⟩) hHeld ?_
              rotate_left
              · intro w hSw
                try dsimp only at hSw
                go_simp
                try with_reducible rfl
              simp only [Act.put, List.getElem_toArray, List.getElem_cons_zero, List.getElem_cons_succ, List.setIfInBounds_toArray, List.set_cons_zero, List.set_cons_succ]
              refine wpAnyH_ready (rs := [27]) (by kernel_rfl) (by simp) ?_
              refine AllReadyH.cons (o := _) rfl (fun K hK => ?_) AllReadyH.nil
              go_simp
              refine hK.out _ _ ⟨m7 _, m8 _, m9 _⟩ (fun hHeld => ?_)
              clear hK K
              try simp only [Act.put, List.getElem_toArray, List.getElem_cons_zero, List.getElem_cons_succ, List.setIfInBounds_toArray, List.set_cons_zero, List.set_cons_succ]
              refine wpAnyH_done (by kernel_rfl) ?_ _
              have hr := C_append2 (n := n) (W0 := w1.alloc (.cells #[.int .i64 n, .slice (some ⟨g1, 0, none⟩) 256 c1] 56)) HB.out (Nat.le_refl _) HOL.out HO.out HL.out HP.out HBB.out ((⟨HBW.out.os, HBW.out.tape, HBW.out.output, HBW.out.size, HBW.out.block⟩ : Below wr.heap.size wr w1).alloc hsw _)
                ((HBLK.out.keep (fun k o _ ho => Below.heap_alloc _ _ _ (row_lt ho))).more (fun k hk => ⟨hk.1, by have := hk.2; simp; omega⟩)) hgrow hown1 hat (by simp)
              have HR := Lib.hid hr
              clear hr hown1 hgrow hat hlt2 j1 j2 j0 j3 j4 j5 j6 j7 j8 j9 m4 m5 m6 m7 m8 m9
              generalize w2.setCell ⟨w.heap.size, 1, none⟩ (.slice (some ⟨gg, 0, none⟩) (k + 1) cap) = W1 at *
              go_wp2
              go_roundw
              case rel => exact ⟨k + 1, _, _, by omega, by go_num, HR.out.1, HR.out.2.1, HR.out.2.2.1, HR.out.2.2.2.1, by rw [HTK.out, HPE.out]; exact HR.out.2.2.2.2.1, HR.out.2.2.2.2.2⟩
              case measure => simp [intOf]; omega
        · obtain rfl : k = s.P.length := by omega
          go_wp2
          go_ret
          have hp := HP.out
          rw [List.take_length] at hp
          have hs := HBB.out.size
          refine ⟨w.heap.size, Made w wr, rfl, ⟨Lv, Pv, xs, ys, ⟨⟨Nat.le_refl _, lg⟩, HB.out, ⟨own_base HOL.out (fun g _ => Nat.zero_le g), fun g hg => ⟨own_ge HOL.out g hg, own_lt HOL.out g hg⟩⟩, ⟨own_base HO.out (fun g _ => Nat.zero_le g), fun g hg => ⟨own_ge HO.out g hg, own_lt HO.out g hg⟩⟩, HL.out, hp, HX.out.wf, HX.out.pos, HX.out.most, fun q hq => hq.2⟩⟩, fun q hq => hq.1, HBB.out⟩
end Go.Proofs.Ytkemakemolohdaa.RCopy
