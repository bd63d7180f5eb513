/- The first block, unpacked by the document. -/
import Derived.Test.YtoaallnmihhjlaaDoorSRPack
import Derived.Test.YtoaallnmihhjlaaDoorSMayBe
import Derived.Test.YtoaallnmihhjlaaDoorSEqual
import Derived.Test.YtoaallnmihhjlaaDoorWRef
import Derived.Deep.RegionHeld3
import Derived.Deep.DeepCutAuto
namespace Go.Proofs.YtoaallnmihhjlaaDoor.SRUnp
open Go.RowKit WMem WPlain WWide WAny WRef GPlain GWithin GGeo GGeo2 GFace SNums SPlain SRMay SRPack SEqual

theorem f1_eq (l : List UInt8) (k : Nat) (hk : k < l.length) : f1 l k = (l[k].toNat : Int) := by
  unfold f1
  rw [List.drop_eq_getElem_cons hk]
  show ((num [l[k]] : Nat) : Int) = _
  simp only [num]
  omega
theorem number_any (l : List UInt8) (hl : l.length = 256) (B : Nat) (A : Option Addr) (c p : Nat) (hp : p + 4 ≤ 256) (w : World) (hA : Sl w B A (l.map u8v)) :
    Calls Tryd.prog 34 #[.slice A 256 c, .int .i64 (p : Int), .int .i64 4] w fun e w' => e = .returned (.int .i64 (f4 l p)) ∧ w = w' := by
  have h1 := refGet_ok l B A c p 4 w (by omega) (by omega) (by omega) (by omega) hA
  have h2 := f4_bd l p
  unfold f4 at *
  rw [hl] at h1
  have HG := Lib.hid h1
  clear h1 hA
  generalize num ((l.drop p).take 4) = x at *
  go_enter Tryd.func34, Tryd.ntmps34
  go_wp2_with (go_at_call 57; refine HG.out.mono ?_; rintro e w' ⟨rfl, rfl⟩)
  go_ret
  exact ⟨rfl, rfl⟩
theorem number_at (l : List UInt8) (hl : l.length = 256) (B : Nat) (A : Option Addr) (c p : Nat) (q : Int) (hq : q = (p : Int)) (hp : p + 4 ≤ 256) (w : World) (hA : Sl w B A (l.map u8v)) :
    Calls Tryd.prog 34 #[.slice A 256 c, .int .i64 q, .int .i64 4] w fun e w' => e = .returned (.int .i64 (f4 l p)) ∧ w = w' := by
  subst hq
  exact number_any l hl B A c p hp w hA
/-- a fresh block that is not marked stays unmarked -/
theorem fresh_free (w : World) (cs : List Value) (T : TypeId) {w1 : World} (hb : Below (w.alloc (.cells cs.toArray T)).heap.size (w.alloc (.cells cs.toArray T)) w1) (i : Nat) : w1.frozen? ⟨w.heap.size, i, none⟩ = false :=
  (hb.frozen (p := ⟨w.heap.size, i, none⟩) (by simp)).trans (row_free (row_new w (.cells cs.toArray T)) i)
def zsup : List Value := [.int .i64 0, .int .i64 0, .int .i64 0, .int .i64 0, .int .i64 0, .int .i64 0, .int .i64 0, .int .i64 0, .bool false]
def NoSup : Value := .agg #[.int .i64 0, .int .i64 0, .int .i64 0, .int .i64 0, .int .i64 0, .int .i64 0, .int .i64 0, .int .i64 0, .bool false]
def saysCells (l : List UInt8) : List Value := [.int .i64 (f4 l 6), .int .i64 (f4 l 10), .int .i64 (f4 l 14), .int .i64 (f4 l 18), .int .i64 (f4 l 22), .int .i64 (f4 l 26), .int .i64 (f4 l 30), .int .i64 (f4 l 34), .bool (f1 l 38 == 1)]
theorem own256 {w : World} {base : Nat} {v : Value} {l : List UInt8} (h : Own w base v l) (hl : l.length = 256) : ∃ A c, v = .slice A 256 c ∧ Sl w w.heap.size A (l.map u8v) := by
  obtain ⟨A, c, rfl, h1, _⟩ := h.sl
  rw [hl]
  exact ⟨A, c, rfl, h1⟩
theorem supSays_len (l : List UInt8) : (supSays l).length = 256 := supBytes_len _ _ _ _ _ _ _ _ _
theorem says_own {w : World} {base : Nat} {v : Value} {l : List UInt8} (h : Own w base v (supBytes (f4 l 6) (f4 l 10) (f4 l 14) (f4 l 18) (f4 l 22) (f4 l 26) (f4 l 30) (f4 l 34) (f1 l 38 == 1))) : Own w base v (supSays l) := h
/-- what is answered of a block -/
def supRes (l : List UInt8) : Value := if supGood l = true then .tuple #[.agg #[.int .i64 (f4 l 6), .int .i64 (f4 l 10), .int .i64 (f4 l 14), .int .i64 (f4 l 18), .int .i64 (f4 l 22), .int .i64 (f4 l 26), .int .i64 (f4 l 30), .int .i64 (f4 l 34), .bool (f1 l 38 == 1)], .int .i64 0] else .tuple #[NoSup, .int .i64 117]
structure After (w wx : World) (g : Nat) (l : List UInt8) : Prop where
  boxed : Boxed w wx zsup
  far : w.heap.size < g
  row : RowV wx g 25 (saysCells l)
  free : ∀ i, wx.frozen? ⟨w.heap.size, i, none⟩ = false
theorem after_of (w : World) (l : List UInt8) : After w (((w.alloc (.cells zsup.toArray 25)).alloc (.cells (saysCells l).toArray 25)).drew) (w.heap.size + 1) l := by
  have hz : ∀ o, (w.alloc o).heap.size = w.heap.size + 1 := fun o => by simp
  have hr := row_new (w.alloc (.cells zsup.toArray 25)) (.cells (saysCells l).toArray 25)
  rw [hz] at hr
  exact ⟨((Boxed.start w zsup _).alloc _).drewN 1, by omega, hr, fun i => row_free (row_alloc (row_new w (.cells zsup.toArray 25)) _) i⟩
set_option maxHeartbeats 1000000 in
theorem refUnpackSuper_len (len : Nat) (hl : len ≠ 256) (A : Option Addr) (c : Nat) (w : World) :
    Calls Tryd.prog 11 #[.slice A len c] w fun e w' => e = .returned (.tuple #[NoSup, .int .i64 117]) ∧ Below w.heap.size w w' := by
  have h1 : ((len : Int) != 256) = true := by rw [bne_iff_ne]; omega
  have h2 : (len != 256) = true := by rw [bne_iff_ne]; omega
  clear hl
  go_enter Tryd.func11, Tryd.ntmps11
  go_wp2
  refine bodyPost_ret (v := .tuple #[NoSup, .int .i64 117]) ?_ rfl ⟨rfl, below_box _⟩
  · simp [results, Tryd.results11, go_sem]
    rfl

set_option maxHeartbeats 4000000 in
set_option maxRecDepth 20000 in
theorem refUnpackSuper_all (l : List UInt8) (hl : l.length = 256) (B : Nat) (A : Option Addr) (c : Nat) (w : World) (hB : B ≤ w.heap.size) (hA : Sl w B A (l.map u8v)) :
    Calls Tryd.prog 11 #[.slice A 256 c] w fun e w' => e = .returned (supRes l) ∧ Below w.heap.size w w' := by
  obtain ⟨a, rfl, hab, h38⟩ := hA.u8 (k := 38) (by omega)
  rw [← f1_eq l 38 (by omega)] at h38
  have HA := Lib.hid hA
  have HL := Lib.hid hl
  have HC : Hid (∀ o, (w.alloc o).cell? ⟨a.block, a.off + 38, none⟩ = some (.int .u8 (f1 l 38))) := Lib.hid (fun o => (World.cell?_alloc_lt w o _ (by show a.block < _; omega)).trans h38)
  have HA1 : Hid (∀ o, Sl (w.alloc o) B (some a) (l.map u8v)) := Lib.hid (fun o => HA.out.keep fun q hq => World.cell?_alloc_lt w o q (by omega))
  obtain ⟨q0, q1⟩ := f1_bd l 38
  clear hA hl h38
  go_enter Tryd.func11, Tryd.ntmps11
  have h38 := HC.out (.cells #[.int .i64 0, .int .i64 0, .int .i64 0, .int .i64 0, .int .i64 0, .int .i64 0, .int .i64 0, .int .i64 0, .bool false] 25)
  have HA2 : Hid (Sl (w.alloc (.cells #[.int .i64 0, .int .i64 0, .int .i64 0, .int .i64 0, .int .i64 0, .int .i64 0, .int .i64 0, .int .i64 0, .bool false] 25)).drew B (some a) (l.map u8v)) := Lib.hid (HA1.out _)
  have HA3 : Hid (Sl ((w.alloc (.cells #[.int .i64 0, .int .i64 0, .int .i64 0, .int .i64 0, .int .i64 0, .int .i64 0, .int .i64 0, .int .i64 0, .bool false] 25)).alloc (.cells #[.int .i64 0, .int .i64 0, .int .i64 0, .int .i64 0, .int .i64 0, .int .i64 0, .int .i64 0, .int .i64 0, .bool false] 25)).drew B (some a) (l.map u8v)) := Lib.hid ((HA1.out _).keep fun q hq => World.cell?_alloc_lt _ _ q (by simp; omega))
  go_upto_region 3 with fail
  go_cut [4] (fun s4 wx => ∃ g : Nat, s4 = .pointer (some ⟨g, 0, none⟩) ∧ Hid (After w wx g l))
  case first =>
    go_region_held3 (fun w' => w'.cell? ⟨a.block, a.off + 38, none⟩ = some (.int .u8 (f1 l 38))) (first | exact h38 | go_keep)
      ((first
      | (go_at_call 34; (with_reducible refine (number_at l HL.out B (some a) c 6 6 rfl (by decide) _ ?_).mono ?_); · first | exact HA2.out | exact HA3.out
         rintro e w' ⟨rfl, rfl⟩)
      | (go_at_call 34; (with_reducible refine (number_at l HL.out B (some a) c 10 10 rfl (by decide) _ ?_).mono ?_); · first | exact HA2.out | exact HA3.out
         rintro e w' ⟨rfl, rfl⟩)
      | (go_at_call 34; (with_reducible refine (number_at l HL.out B (some a) c 14 14 rfl (by decide) _ ?_).mono ?_); · first | exact HA2.out | exact HA3.out
         rintro e w' ⟨rfl, rfl⟩)
      | (go_at_call 34; (with_reducible refine (number_at l HL.out B (some a) c 18 18 rfl (by decide) _ ?_).mono ?_); · first | exact HA2.out | exact HA3.out
         rintro e w' ⟨rfl, rfl⟩)
      | (go_at_call 34; (with_reducible refine (number_at l HL.out B (some a) c 22 22 rfl (by decide) _ ?_).mono ?_); · first | exact HA2.out | exact HA3.out
         rintro e w' ⟨rfl, rfl⟩)
      | (go_at_call 34; (with_reducible refine (number_at l HL.out B (some a) c 26 26 rfl (by decide) _ ?_).mono ?_); · first | exact HA2.out | exact HA3.out
         rintro e w' ⟨rfl, rfl⟩)
      | (go_at_call 34; (with_reducible refine (number_at l HL.out B (some a) c 30 30 rfl (by decide) _ ?_).mono ?_); · first | exact HA2.out | exact HA3.out
         rintro e w' ⟨rfl, rfl⟩)
      | (go_at_call 34; (with_reducible refine (number_at l HL.out B (some a) c 34 34 rfl (by decide) _ ?_).mono ?_); · first | exact HA2.out | exact HA3.out
         rintro e w' ⟨rfl, rfl⟩)))
    all_goals
      go_wp2_with fail
      go_meet
      exact ⟨w.heap.size + 1, rfl, Lib.hid (after_of w l)⟩
  case rest =>
    obtain ⟨g, rfl, HAF⟩ := hcut
    have hgl := HAF.out.row.lt
    have hwl := HAF.out.boxed.lt
    have hgw := HAF.out.far
    have HAL := Lib.hid HA.out
    have e0 : wc.cell? ⟨g, 0, none⟩ = some (.int .i64 (f4 l 6)) := HAF.out.row.cell (i := 0) (show 0 < 9 by decide)
    have e1 : wc.cell? ⟨g, 1, none⟩ = some (.int .i64 (f4 l 10)) := HAF.out.row.cell (i := 1) (show 1 < 9 by decide)
    have e2 : wc.cell? ⟨g, 2, none⟩ = some (.int .i64 (f4 l 14)) := HAF.out.row.cell (i := 2) (show 2 < 9 by decide)
    have e3 : wc.cell? ⟨g, 3, none⟩ = some (.int .i64 (f4 l 18)) := HAF.out.row.cell (i := 3) (show 3 < 9 by decide)
    have e4 : wc.cell? ⟨g, 4, none⟩ = some (.int .i64 (f4 l 22)) := HAF.out.row.cell (i := 4) (show 4 < 9 by decide)
    have e5 : wc.cell? ⟨g, 5, none⟩ = some (.int .i64 (f4 l 26)) := HAF.out.row.cell (i := 5) (show 5 < 9 by decide)
    have e6 : wc.cell? ⟨g, 6, none⟩ = some (.int .i64 (f4 l 30)) := HAF.out.row.cell (i := 6) (show 6 < 9 by decide)
    have e7 : wc.cell? ⟨g, 7, none⟩ = some (.int .i64 (f4 l 34)) := HAF.out.row.cell (i := 7) (show 7 < 9 by decide)
    have e8 : wc.cell? ⟨g, 8, none⟩ = some (.bool (f1 l 38 == 1)) := HAF.out.row.cell (i := 8) (show 8 < 9 by decide)
    cases h : supIs l with
    | false =>
      have H := Lib.hid h
      have HRES : Hid (supRes l = .tuple #[NoSup, .int .i64 117]) := Lib.hid (by simp only [supRes, supGood, h]; rfl)
      clear h
      go_wp2_with fail
      refine (refPackSuper_no (f4 l 6) (f4 l 10) (f4 l 14) (f4 l 18) (f4 l 22) (f4 l 26) (f4 l 30) (f4 l 34) _ _ H.out).mono ?_
      rintro e w5 ⟨rfl, hb5⟩
      have HY5 := Lib.hid (HAF.out.boxed.go hb5)
      have hs5 := hb5.size
      obtain ⟨r0, r1, r2, r3, r4, r5, r6, r7, r8⟩ := SRPack.Boxed.nine HY5.out
      have hfr : ∀ i, w5.frozen? ⟨w.heap.size, i, none⟩ = false := fun i => (hb5.frozen (p := ⟨w.heap.size, i, none⟩) (by omega)).trans (HAF.out.free i)
      have HA5 := Lib.hid (HAL.out.below_le HY5.out.below hB)
      clear hb5 e0 e1 e2 e3 e4 e5 e6 e7 e8 h38
      go_wp2_with fail
      refine bodyPost_ret (v := .tuple #[NoSup, .int .i64 117]) ?_ rfl ⟨by rw [HRES.out], ?_⟩
      · simp [results, Tryd.results11, go_sem, r0, r1, r2, r3, r4, r5, r6, r7, r8]
        rfl
      · exact (((((((((HY5.out.below.setCell (Nat.le_refl _) _).setCell (Nat.le_refl _) _).setCell (Nat.le_refl _) _).setCell (Nat.le_refl _) _).setCell (Nat.le_refl _) _).setCell (Nat.le_refl _) _).setCell (Nat.le_refl _) _).setCell (Nat.le_refl _) _).setCell (Nat.le_refl _) _)
    | true =>
      have H := Lib.hid h
      cases h2 : (l == supSays l) with
      | false =>
        have HQ := Lib.hid h2
        have h2' : (supSays l == l) = false := by rw [BEq.comm]; exact h2
        have HRES : Hid (supRes l = .tuple #[NoSup, .int .i64 117]) := Lib.hid (by simp only [supRes, supGood, h, h2']; rfl)
        clear h h2 h2'
        go_wp2_with fail
        refine (refPackSuper_yes (f4 l 6) (f4 l 10) (f4 l 14) (f4 l 18) (f4 l 22) (f4 l 26) (f4 l 30) (f4 l 34) _ _ H.out).mono ?_
        rintro e w5 ⟨v5, rfl, hO5, hb5⟩
        have HY5 := Lib.hid (HAF.out.boxed.go hb5)
        have hs5 := hb5.size
        obtain ⟨r0, r1, r2, r3, r4, r5, r6, r7, r8⟩ := SRPack.Boxed.nine HY5.out
        have hfr : ∀ i, w5.frozen? ⟨w.heap.size, i, none⟩ = false := fun i => (hb5.frozen (p := ⟨w.heap.size, i, none⟩) (by omega)).trans (HAF.out.free i)
        have HA5 := Lib.hid (HAL.out.below_le HY5.out.below hB)
        obtain ⟨A', cap, rfl, hsl⟩ := own256 (says_own hO5) (supSays_len l)
        clear hb5 hO5 e0 e1 e2 e3 e4 e5 e6 e7 e8 h38
        have HSL := Lib.hid hsl
        clear hsl
        go_wp2_with fail
        refine (Same_any 256 256 l (supSays l) HL.out (supSays_len l) B w5.heap.size (some a) A' c cap w5 HA5.out HSL.out (by decide) false HQ.out).mono ?_
        rintro e w' ⟨rfl, nd, rfl⟩
        go_wp2_with fail
        refine bodyPost_ret (v := .tuple #[NoSup, .int .i64 117]) ?_ rfl ⟨by rw [HRES.out], ?_⟩
        · simp [results, Tryd.results11, go_sem, r0, r1, r2, r3, r4, r5, r6, r7, r8]
          rfl
        · exact ((((((((((below_drewN HY5.out.below nd).setCell (Nat.le_refl _) _).setCell (Nat.le_refl _) _).setCell (Nat.le_refl _) _).setCell (Nat.le_refl _) _).setCell (Nat.le_refl _) _).setCell (Nat.le_refl _) _).setCell (Nat.le_refl _) _).setCell (Nat.le_refl _) _).setCell (Nat.le_refl _) _)
      | true =>
        have HQ := Lib.hid h2
        have h2' : (supSays l == l) = true := by rw [BEq.comm]; exact h2
        have HRES : Hid (supRes l = .tuple #[.agg #[.int .i64 (f4 l 6), .int .i64 (f4 l 10), .int .i64 (f4 l 14), .int .i64 (f4 l 18), .int .i64 (f4 l 22), .int .i64 (f4 l 26), .int .i64 (f4 l 30), .int .i64 (f4 l 34), .bool (f1 l 38 == 1)], .int .i64 0]) := Lib.hid (by simp only [supRes, supGood, h, h2']; rfl)
        clear h h2 h2'
        go_wp2_with fail
        refine (refPackSuper_yes (f4 l 6) (f4 l 10) (f4 l 14) (f4 l 18) (f4 l 22) (f4 l 26) (f4 l 30) (f4 l 34) _ _ H.out).mono ?_
        rintro e w5 ⟨v5, rfl, hO5, hb5⟩
        have HY5 := Lib.hid (HAF.out.boxed.go hb5)
        have hs5 := hb5.size
        obtain ⟨r0, r1, r2, r3, r4, r5, r6, r7, r8⟩ := SRPack.Boxed.nine HY5.out
        have hfr : ∀ i, w5.frozen? ⟨w.heap.size, i, none⟩ = false := fun i => (hb5.frozen (p := ⟨w.heap.size, i, none⟩) (by omega)).trans (HAF.out.free i)
        have HA5 := Lib.hid (HAL.out.below_le HY5.out.below hB)
        obtain ⟨A', cap, rfl, hsl⟩ := own256 (says_own hO5) (supSays_len l)
        have k0 : w5.cell? ⟨g, 0, none⟩ = some (.int .i64 (f4 l 6)) := (hb5.cell (p := ⟨g, 0, none⟩) hgl).trans e0
        have k1 : w5.cell? ⟨g, 1, none⟩ = some (.int .i64 (f4 l 10)) := (hb5.cell (p := ⟨g, 1, none⟩) hgl).trans e1
        have k2 : w5.cell? ⟨g, 2, none⟩ = some (.int .i64 (f4 l 14)) := (hb5.cell (p := ⟨g, 2, none⟩) hgl).trans e2
        have k3 : w5.cell? ⟨g, 3, none⟩ = some (.int .i64 (f4 l 18)) := (hb5.cell (p := ⟨g, 3, none⟩) hgl).trans e3
        have k4 : w5.cell? ⟨g, 4, none⟩ = some (.int .i64 (f4 l 22)) := (hb5.cell (p := ⟨g, 4, none⟩) hgl).trans e4
        have k5 : w5.cell? ⟨g, 5, none⟩ = some (.int .i64 (f4 l 26)) := (hb5.cell (p := ⟨g, 5, none⟩) hgl).trans e5
        have k6 : w5.cell? ⟨g, 6, none⟩ = some (.int .i64 (f4 l 30)) := (hb5.cell (p := ⟨g, 6, none⟩) hgl).trans e6
        have k7 : w5.cell? ⟨g, 7, none⟩ = some (.int .i64 (f4 l 34)) := (hb5.cell (p := ⟨g, 7, none⟩) hgl).trans e7
        have k8 : w5.cell? ⟨g, 8, none⟩ = some (.bool (f1 l 38 == 1)) := (hb5.cell (p := ⟨g, 8, none⟩) hgl).trans e8
        clear hb5 hO5 e0 e1 e2 e3 e4 e5 e6 e7 e8 h38
        have HSL := Lib.hid hsl
        clear hsl
        go_wp2_with fail
        refine (Same_any 256 256 l (supSays l) HL.out (supSays_len l) B w5.heap.size (some a) A' c cap w5 HA5.out HSL.out (by decide) true HQ.out).mono ?_
        rintro e w' ⟨rfl, nd, rfl⟩
        go_wp2_with fail
        refine bodyPost_ret (v := .tuple #[.agg #[.int .i64 (f4 l 6), .int .i64 (f4 l 10), .int .i64 (f4 l 14), .int .i64 (f4 l 18), .int .i64 (f4 l 22), .int .i64 (f4 l 26), .int .i64 (f4 l 30), .int .i64 (f4 l 34), .bool (f1 l 38 == 1)], .int .i64 0]) ?_ rfl ⟨by rw [HRES.out], ?_⟩
        · simp [results, Tryd.results11, go_sem, r0, r1, r2, r3, r4, r5, r6, r7, r8]
        · exact ((((((((((below_drewN HY5.out.below nd).setCell (Nat.le_refl _) _).setCell (Nat.le_refl _) _).setCell (Nat.le_refl _) _).setCell (Nat.le_refl _) _).setCell (Nat.le_refl _) _).setCell (Nat.le_refl _) _).setCell (Nat.le_refl _) _).setCell (Nat.le_refl _) _).setCell (Nat.le_refl _) _)
end Go.Proofs.YtoaallnmihhjlaaDoor.SRUnp
