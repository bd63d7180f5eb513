/- The program's disk: Pending: each write copied. -/
import Derived.Test.YtmlgchmladkfpaaGreatDoorMg14
import Derived.Deep.RegionHeld3
import Derived.Deep.DrawnRows
import Derived.Outline
namespace Go.Proofs.YtmlgchmladkfpaaGreatDoor.DPending
open Go.RowKit WMem WPlain WAppend Ext Map DPlain DMem Mk DBase DRead DPend DWrite

set_option maxHeartbeats 1600000 in
set_option maxRecDepth 100000 in
/-- copyWrite: the same number, the block copied -/
theorem copyWrite_any (S : Nat → Prop) (n : Nat) (v : Value) (l : List UInt8) (w : World) (hv : IsBlk w S v l) :
    Calls Tryz.prog 63 #[.agg #[.int .i64 n, v]] w fun e w' => ∃ u, e = .returned (.agg #[.int .i64 n, u]) ∧ IsBlk w' (Made w w') u l ∧ Below w.heap.size w w' := by
  obtain ⟨g0, c0, rest, rfl, hg0, hl, hc, hr⟩ := id hv
  have HV := Lib.hid hv
  clear hv hr hg0
  go_enter Tryz.func63, Tryz.ntmps63
  go_wp2_with fail
  have HV1 : Hid (IsBlk ((w.alloc (.cells #[.int .i64 n, .slice (some ⟨g0, 0, none⟩) 256 c0] 115)).alloc (.cells #[.int .i64 0, .slice none 0 0] 115)).drew S (.slice (some ⟨g0, 0, none⟩) 256 c0) l) :=
    HV.out.keep (fun k o _ ho => (Below.heap_alloc _ _ _ (by have := row_lt ho; simp; omega)).trans (Below.heap_alloc _ _ _ (row_lt ho)))
  have a0 : ((w.alloc (.cells #[.int .i64 n, .slice (some ⟨g0, 0, none⟩) 256 c0] 115)).alloc (.cells #[.int .i64 0, .slice none 0 0] 115)).cell? ⟨w.heap.size, 0, none⟩ = some (.int .i64 n) := (row_cell (row_alloc (row_new w _) _) 0).trans rfl
  have a1 : ((w.alloc (.cells #[.int .i64 n, .slice (some ⟨g0, 0, none⟩) 256 c0] 115)).alloc (.cells #[.int .i64 0, .slice none 0 0] 115)).cell? ⟨w.heap.size, 1, none⟩ = some (.slice (some ⟨g0, 0, none⟩) 256 c0) := (row_cell (row_alloc (row_new w _) _) 1).trans rfl
  have hz1 := row_new (w.alloc (.cells #[.int .i64 n, .slice (some ⟨g0, 0, none⟩) 256 c0] 115)) (.cells #[.int .i64 0, .slice none 0 0] 115)
  rw [World.size_alloc] at hz1
  have HB0 : Hid (Below w.heap.size w ((w.alloc (.cells #[.int .i64 n, .slice (some ⟨g0, 0, none⟩) 256 c0] 115)).alloc (.cells #[.int .i64 0, .slice none 0 0] 115)).drew) := (((Below.refl _ _).alloc (Nat.le_refl _) _).alloc (by simp) _).drew
  have hzle : w.heap.size + 2 ≤ ((w.alloc (.cells #[.int .i64 n, .slice (some ⟨g0, 0, none⟩) 256 c0] 115)).alloc (.cells #[.int .i64 0, .slice none 0 0] 115)).heap.size := by simp
  have HZ1 := Lib.hid hz1
  clear hz1
  generalize (w.alloc (.cells #[.int .i64 n, .slice (some ⟨g0, 0, none⟩) 256 c0] 115)).alloc (.cells #[.int .i64 0, .slice none 0 0] 115) = W0 at *
  go_region_held3 (fun w' => w'.cell? ⟨w.heap.size, 0, none⟩ = some (.int .i64 n) ∧ w'.cell? ⟨w.heap.size, 1, none⟩ = some (.slice (some ⟨g0, 0, none⟩) 256 c0))
    (go_keep)
    ((go_at_call 54; refine (Clone_blk l S (.slice (some ⟨g0, 0, none⟩) 256 c0) _ HV1.out).mono ?_; rintro e w1 ⟨u, rfl, hu, hb⟩
      have k0 : w1.cell? ⟨w.heap.size, 0, none⟩ = some (.int .i64 n) := (hb.cell (p := ⟨w.heap.size, 0, none⟩) (by show w.heap.size < W0.heap.size; omega)).trans a0
      have k1 : w1.cell? ⟨w.heap.size, 1, none⟩ = some (.slice (some ⟨g0, 0, none⟩) 256 c0) := (hb.cell (p := ⟨w.heap.size, 1, none⟩) (by show w.heap.size < W0.heap.size; omega)).trans a1
      have kb := (hb.block (w.heap.size + 1) (by show w.heap.size + 1 < W0.heap.size; omega)).trans HZ1.out
      have KB := Lib.hid kb
      have k2 : w1.cell? ⟨w.heap.size + 1, 0, none⟩ = some (.int .i64 0) := (row_cell kb 0).trans rfl
      have k3 : w1.cell? ⟨w.heap.size + 1, 1, none⟩ = some (.slice none 0 0) := (row_cell kb 1).trans rfl
      have k4 := row_free kb 0
      have k5 := row_free kb 1
      have HU := Lib.hid hu
      have HBB := Lib.hid hb
      obtain ⟨gu, cu, ru, rfl, _⟩ := id hu
      clear kb hu hb))
  have hext : Below w.heap.size w ((w1.setCell ⟨w.heap.size + 1, 0, none⟩ (.int .i64 n)).setCell ⟨w.heap.size + 1, 1, none⟩ (.slice (some ⟨gu, 0, none⟩) 256 cu)) :=
    ((HB0.out.trans (HBB.out.mono (by show w.heap.size ≤ W0.heap.size; omega))).setCell (by simp) _).setCell (by simp) _
  have hblk : ((w1.setCell ⟨w.heap.size + 1, 0, none⟩ (.int .i64 n)).setCell ⟨w.heap.size + 1, 1, none⟩ (.slice (some ⟨gu, 0, none⟩) 256 cu)).heap[w.heap.size + 1]? = some (.cells #[.int .i64 n, .slice (some ⟨gu, 0, none⟩) 256 cu] 115 (0, 0)) := by
    have h1 := row_set (row_set KB.out 0 (.int .i64 n)) 1 (.slice (some ⟨gu, 0, none⟩) 256 cu)
    simpa using h1
  have hu2 : IsBlk ((w1.setCell ⟨w.heap.size + 1, 0, none⟩ (.int .i64 n)).setCell ⟨w.heap.size + 1, 1, none⟩ (.slice (some ⟨gu, 0, none⟩) 256 cu)) (Made w ((w1.setCell ⟨w.heap.size + 1, 0, none⟩ (.int .i64 n)).setCell ⟨w.heap.size + 1, 1, none⟩ (.slice (some ⟨gu, 0, none⟩) 256 cu))) (.slice (some ⟨gu, 0, none⟩) 256 cu) l := by
    refine (HU.out.keep (fun k o _ ho => ?_)).more (fun k hk => ⟨?_, ?_⟩)
    · have hne : k ≠ w.heap.size + 1 := fun e => by
        rw [e, KB.out] at ho
        injection ho with ho
        injection ho with _ ho
        exact absurd ho (by decide)
      exact (Below.heap_setCell _ _ _ _ hne).trans (Below.heap_setCell _ _ _ _ hne)
    · have h1 : W0.heap.size ≤ k := hk.1
      omega
    · simpa [World.setCell] using hk.2
  clear k0 k1 k2 k3 k4 k5 KB HU HBB HB0 HZ1 a0 a1 HV HV1
  generalize (w1.setCell ⟨w.heap.size + 1, 0, none⟩ (.int .i64 n)).setCell ⟨w.heap.size + 1, 1, none⟩ (.slice (some ⟨gu, 0, none⟩) 256 cu) = W2 at *
  have r0 : W2.cell? ⟨w.heap.size + 1, 0, none⟩ = some (.int .i64 n) := (row_cell hblk 0).trans rfl
  have r1 : W2.cell? ⟨w.heap.size + 1, 1, none⟩ = some (.slice (some ⟨gu, 0, none⟩) 256 cu) := (row_cell hblk 1).trans rfl
  have H1 := Lib.hid hext
  have H2 := Lib.hid hu2
  clear hext hu2 hblk
  go_wp2
  exact bodyPost_ret (v := .agg #[.int .i64 n, .slice (some ⟨gu, 0, none⟩) 256 cu]) (by simp [results, Tryz.results63, go_sem, r0, r1]) rfl ⟨_, rfl, H2.out, H1.out⟩

theorem run_make_rowN {P : Program} (t e : TypeId) (i : TypeInfo) (z : Value) (ht : P.underlying t = some (.slice e)) (hi : P.info? e = some i) (hz : i.zero = some z)
    (kl kc : IntKind) (n c : Nat) (hnc : n ≤ c) (hbytes : i.bytes * c ≤ 281474976710656) (h63 : c ≤ 9223372036854775807) (w : World) :
    (Instr.makeSlice t (.int kl (n : Int)) (.int kc (c : Int))).run P w = .ok (.slice (some ⟨w.heap.size, 0, none⟩) n c) (w.alloc (.cells (madeCells z.cells (c * i.size)) e)) := by
  have hb : (i.bytes : Int) * (c : Int) ≤ 281474976710656 := by
    have h : ((i.bytes * c : Nat) : Int) ≤ 281474976710656 := by omega
    rwa [Int.natCast_mul] at h
  have hr := run_make (P := P) w t e i z ht hi hz kl kc n c (by omega) (by omega) hb (by omega)
  simp only [Int.toNat_natCast] at hr
  exact hr
/-- a row of writes that a make has laid -/
def zeroRow (n : Nat) : List Value := (madeCells #[.int .i64 0, .slice none 0 0] (n * 2)).toList
theorem zeroRow_len (n : Nat) : (zeroRow n).length = n * 2 := by simp [zeroRow, madeCells]
theorem make_writes (n : Nat) (hn : n ≤ 1073741824) (w : World) : (Instr.makeSlice 51 (.int .i64 (n : Int)) (.int .i64 (n : Int))).run Tryz.prog w = .ok (.slice (some ⟨w.heap.size, 0, none⟩) n n) (w.alloc (.cells (zeroRow n).toArray 115)) := by
  obtain ⟨i, h1, h2, h3, h4⟩ := info_parts infoW
  have h := run_make_rowN (P := Tryz.prog) 51 115 i _ underW h1 h2 .i64 .i64 n n (Nat.le_refl _) (by rw [h4]; omega) (by omega) w
  rw [h3] at h
  rw [h]
  simp [zeroRow, Value.cells]

set_option maxHeartbeats 1600000 in
set_option maxRecDepth 100000 in
theorem copyList_any (S : Nat → Prop) (P : List (Nat × List UInt8)) (A : Option Addr) (cap : Nat) (w : World) (hP : P.length ≤ 1073741824) (hS : There S w)
    (hat : ∀ (i : Nat) (hi : i < P.length), ∃ g u, A = some ⟨g, 0, none⟩ ∧ S g ∧ w.cell? ⟨g, i * 2, none⟩ = some (.int .i64 (P[i].1 : Int)) ∧ w.cell? ⟨g, i * 2 + 1, none⟩ = some u ∧ IsBlk w S u P[i].2) :
    Calls Tryz.prog 62 #[.slice A P.length cap, .func (.func 63) #[] #[]] w fun e w' =>
      ∃ g xs, e = .returned (.slice (some ⟨g, 0, none⟩) P.length P.length) ∧ w.heap.size ≤ g ∧ RowV w' g 115 xs ∧ POf w' (Made w w') xs P ∧ Below w.heap.size w w' := by
  have hmk := make_writes P.length hP
  have HAT := Lib.hid hat
  have HS := Lib.hid hS
  clear hat hS
  go_enter Tryz.func62, Tryz.ntmps62
  go_wp2
  clear hmk
  go_loopw [13] (fun i wr => ∃ (k : Nat) (xs : List Value), k ≤ P.length ∧ i = .int .i64 k ∧ RowV wr w.heap.size 115 xs ∧ xs.length = P.length * 2 ∧
      (∀ (j : Nat) (hj : j < P.length), j < k → ∃ v, xs[j * 2]? = some (.int .i64 (P[j].1 : Int)) ∧ xs[j * 2 + 1]? = some v ∧ IsBlk wr (Made w wr) v P[j].2) ∧ Below w.heap.size w wr) (fun i _ => P.length - (intOf i).toNat)
  case atStart => exact ⟨0, zeroRow P.length, Nat.zero_le _, rfl, row_new _ _, zeroRow_len _, fun j _ h => (by cases h), (Below.refl _ _).alloc (Nat.le_refl _) _⟩
  case round =>
    obtain ⟨k, xs, hk, rfl, hR, hlen, hall, hB⟩ := hrel
    have HR := Lib.hid hR
    have HLEN := Lib.hid hlen
    have HALL := Lib.hid hall
    have HB := Lib.hid hB
    clear hR hlen hall hB
    by_cases hlt : k < P.length
    · obtain ⟨g, u, rfl, hg, p0, p1, hu⟩ := HAT.out k hlt
      obtain ⟨g0, c0, rest, rfl, hg0, hl, hc, hr⟩ := id hu
      have hgl := HS.out g hg
      have r0 : wr.cell? ⟨g, k * 2, none⟩ = _ := (HB.out.cell (p := ⟨g, k * 2, none⟩) hgl).trans p0
      have r1 : wr.cell? ⟨g, k * 2 + 1, none⟩ = _ := (HB.out.cell (p := ⟨g, k * 2 + 1, none⟩) hgl).trans p1
      have HU : Hid (IsBlk wr S _ P[k].2) := hu.keep (fun j o hj ho => HB.out.block j (HS.out j hj))
      have hk0 : (0 : Int) ≤ (k : Int) := Int.natCast_nonneg _
      have hk1 : (k : Int) < (P.length : Int) := by omega
      have hszr := HB.out.size
      clear hu p0 p1 hr hg0 hl
      generalize hn : P[k].1 = n at *
      generalize hlk : P[k].2 = lk at *
      have HN := Lib.hid hn
      have HLK := Lib.hid hlk
      clear hn hlk
      go_wp2_with fail
      have HU1 : Hid (IsBlk (wr.alloc (.cells #[.int .i64 n, .slice (some ⟨g0, 0, none⟩) 256 c0] 115)) S (.slice (some ⟨g0, 0, none⟩) 256 c0) lk) := HU.out.keep (fun j o _ ho => Below.heap_alloc _ _ _ (row_lt ho))
      refine (copyWrite_any S n _ lk _ HU1.out).mono ?_
      rintro e w1 ⟨v, rfl, hv, hb1⟩
      have hx : RowV w1 w.heap.size 115 xs := (HR.out.alloc _).keep hb1 (by have := HR.out.lt; simp; omega)
      obtain ⟨o0, z0⟩ : ∃ o, w1.cell? ⟨w.heap.size, k * 2, none⟩ = some o := ⟨_, hx.cell (i := k * 2) (by rw [HLEN.out]; omega)⟩
      obtain ⟨o1, z1⟩ : ∃ o, w1.cell? ⟨w.heap.size, k * 2 + 1, none⟩ = some o := ⟨_, hx.cell (i := k * 2 + 1) (by rw [HLEN.out]; omega)⟩
      have f0 := hx.free (k * 2)
      have f1 := hx.free (k * 2 + 1)
      have hB1 : Below w.heap.size w w1 := (HB.out.alloc hszr _).trans (hb1.mono (by simp; omega))
      obtain ⟨gv, cv, rv, rfl, hgv, _⟩ := id hv
      have HV1 := Lib.hid hv
      have HX := Lib.hid hx
      have HB1 := Lib.hid hB1
      have HBB := Lib.hid hb1
      clear hv hx hb1 hgv hB1
      go_wp2
      go_roundw
      case rel =>
        have hset := (HX.out.set (k * 2) (.int .i64 n)).set (k * 2 + 1) (.slice (some ⟨gv, 0, none⟩) 256 cv)
        have hext : Below w.heap.size w ((w1.setCell ⟨w.heap.size, k * 2, none⟩ (.int .i64 n)).setCell ⟨w.heap.size, k * 2 + 1, none⟩ (.slice (some ⟨gv, 0, none⟩) 256 cv)) := (HB1.out.setCell (Nat.le_refl _) _).setCell (Nat.le_refl _) _
        have kr : ∀ j (o : Array Value), w1.heap[j]? = some (Obj.cells o 5 (0, 0)) → ((w1.setCell ⟨w.heap.size, k * 2, none⟩ (.int .i64 n)).setCell ⟨w.heap.size, k * 2 + 1, none⟩ (.slice (some ⟨gv, 0, none⟩) 256 cv)).heap[j]? = w1.heap[j]? := fun j o ho => by
          have hne : j ≠ w.heap.size := fun e => by
            have h0 : w1.heap[w.heap.size]? = _ := HX.out
            rw [e, h0] at ho
            injection ho with ho
            injection ho with _ ho
            exact absurd ho (by decide)
          exact (Below.heap_setCell _ _ _ _ hne).trans (Below.heap_setCell _ _ _ _ hne)
        have hszw : ((w1.setCell ⟨w.heap.size, k * 2, none⟩ (.int .i64 n)).setCell ⟨w.heap.size, k * 2 + 1, none⟩ (.slice (some ⟨gv, 0, none⟩) 256 cv)).heap.size = w1.heap.size := by simp [World.setCell]
        refine ⟨k + 1, _, by omega, by go_num, hset, by simp [HLEN.out], fun j hj hlt' => ?_, hext⟩
        by_cases e : j = k
        · subst e
          refine ⟨.slice (some ⟨gv, 0, none⟩) 256 cv, ?_, ?_, ?_⟩
          · rw [List.getElem?_set_ne (by omega), List.getElem?_set_self (by rw [HLEN.out]; omega), HN.out]
          · rw [List.getElem?_set_self (by rw [List.length_set, HLEN.out]; omega)]
          · rw [HLK.out]
            refine (HV1.out.keep (fun j o _ ho => kr j o ho)).more (fun q hq => ⟨?_, ?_⟩)
            · have h1 := hq.1; simp at h1; omega
            · rw [hszw]; exact hq.2
        · obtain ⟨v', h1, h2, h3⟩ := HALL.out j hj (by omega)
          refine ⟨v', ?_, ?_, ?_⟩
          · rw [List.getElem?_set_ne (by omega), List.getElem?_set_ne (by omega)]; exact h1
          · rw [List.getElem?_set_ne (by omega), List.getElem?_set_ne (by omega)]; exact h2
          · refine (h3.keep (fun q o _ ho => ?_)).more (fun q hq => ⟨hq.1, ?_⟩)
            · have h5 : w1.heap[q]? = wr.heap[q]? := (HBB.out.block q (by have := row_lt ho; simp; omega)).trans (Below.heap_alloc _ _ _ (row_lt ho))
              exact (kr q o (h5.trans ho)).trans h5
            · rw [hszw]
              have h6 := HBB.out.size
              have h7 := hq.2
              simp at h6
              omega
      case measure => simp [intOf]; omega
    · obtain rfl : k = P.length := by omega
      go_wp2
      go_ret
      exact ⟨w.heap.size, xs, rfl, Nat.le_refl _, HR.out, ⟨HLEN.out, fun i hi => HALL.out i hi hi⟩, HB.out⟩

theorem Pending_at (S : Nat → Prop) (b : Nat) (P : List (Nat × List UInt8)) (A : Option Addr) (cap : Nat) (w : World) (c3 : w.cell? ⟨b, 3, none⟩ = some (.slice A P.length cap)) (hP : P.length ≤ 1073741824) (hS : There S w)
    (hat : ∀ (i : Nat) (hi : i < P.length), ∃ g u, A = some ⟨g, 0, none⟩ ∧ S g ∧ w.cell? ⟨g, i * 2, none⟩ = some (.int .i64 (P[i].1 : Int)) ∧ w.cell? ⟨g, i * 2 + 1, none⟩ = some u ∧ IsBlk w S u P[i].2) :
    Calls Tryz.prog 25 #[.pointer (some ⟨b, 0, none⟩)] w fun e w' =>
      ∃ g xs, e = .returned (.slice (some ⟨g, 0, none⟩) P.length P.length) ∧ w.heap.size ≤ g ∧ RowV w' g 115 xs ∧ POf w' (Made w w') xs P ∧ Below w.heap.size w w' := by
  have HAT := Lib.hid hat
  have HS := Lib.hid hS
  clear hat hS
  go_enter Tryz.func25, Tryz.ntmps25
  go_wp2_with fail
  refine (copyList_any S P A cap w hP HS.out HAT.out).mono ?_
  rintro e w1 ⟨g, xs, rfl, h1, h2, h3, h4⟩
  have H2 := Lib.hid h2
  have H3 := Lib.hid h3
  have H4 := Lib.hid h4
  clear h2 h3 h4
  go_wp2
  go_ret
  exact ⟨g, xs, rfl, h1, H2.out, H3.out, H4.out⟩
theorem Pending_ok (S : Nat → Prop) (b : Nat) (s : St) (w : World) (hd : DD w S b s) (hN : s.N ≤ 1073741824) :
    Calls Tryz.prog 25 #[.pointer (some ⟨b, 0, none⟩)] w fun e w' =>
      ∃ g xs, e = .returned (.slice (some ⟨g, 0, none⟩) s.P.length s.P.length) ∧ w.heap.size ≤ g ∧ RowV w' g 115 xs ∧ POf w' (Made w w') xs s.P ∧ Below w.heap.size w w' := by
  obtain ⟨m1, m2, n1, n2, f, h, Pv, ys, hx, q1, q2⟩ := hd
  obtain ⟨A, cap, rfl, _, hat⟩ := P_at hx.rowP hx.eachP
  exact Pending_at S b s.P A cap w hx.c3 (by omega) hx.there hat
theorem Pending_nil (w : World) : Calls Tryz.prog 25 #[.pointer none] w fun e w' => e = .returned (.slice none 0 0) ∧ w = w' := by
  go_enter Tryz.func25, Tryz.ntmps25
  go_wp2
  go_ret
  exact ⟨rfl, rfl⟩
theorem Pending_zero (b : Nat) (w : World) (c3 : w.cell? ⟨b, 3, none⟩ = some (.slice none 0 0)) :
    Calls Tryz.prog 25 #[.pointer (some ⟨b, 0, none⟩)] w fun e w' => ∃ g, e = .returned (.slice (some ⟨g, 0, none⟩) 0 0) ∧ Below w.heap.size w w' := by
  refine (Pending_at (fun _ => False) b [] none 0 w c3 (Nat.zero_le _) (fun k hk => hk.elim) (fun i hi => (by cases hi))).mono ?_
  rintro e w' ⟨g, xs, rfl, _, _, _, h⟩
  exact ⟨g, rfl, h⟩
end Go.Proofs.YtmlgchmladkfpaaGreatDoor.DPending
