/- The first block, unpacked by the program. -/
import Derived.Test.YtgjcbfdhpbkhoaaGreatDoorMg16
import Derived.Test.YtgjcbfdhpbkhoaaGreatDoorMg10
import Derived.Test.YtgjcbfdhpbkhoaaGreatDoorMg17
import Derived.Test.YtgjcbfdhpbkhoaaGreatDoorMg18
import Derived.Deep.RegionHeld3
namespace Go.Proofs.YtgjcbfdhpbkhoaaGreatDoor.SUnp
open Go.RowKit WMem WPlain WWide WCrc WSeal GPlain GWithin GGeo GGeo2 GFace SNums SPlain SMayBe SPack SRead STell SSays SEqual STold
def NoSup : Value := .agg #[.int .i64 0, .int .i64 0, .int .i64 0, .int .i64 0, .int .i64 0, .int .i64 0, .int .i64 0, .int .i64 0, .bool false]
theorem read_at (l : List UInt8) (hl : l.length = 256) (len : Nat) (ws : List Int) (hw : ws.length = len) (hf : fineI ws) (ht : tot (nats ws) ≤ 256) (B : Nat) (A A' : Option Addr) (c c' : Nat) (hc : 256 ≤ c) (w : World) (hB : B ≤ w.heap.size)
    (hA : Sl w B A (l.map u8v)) (hA' : Sl w B A' (ws.map i64v)) (hws : len ≤ 1000 := by decide) :
    Calls Tryz.prog 149 #[.slice A 256 c, .slice A' len c'] w fun e w' =>
      ∃ g, e = .returned (.tuple #[.slice (some ⟨g, 0, none⟩) len len, .bool true]) ∧ w.heap.size ≤ g ∧ RowV w' g 47 ((unp (nats ws) (l.take (tot (nats ws)))).map u64v) ∧ Below w.heap.size w w' := by
  subst hw
  exact read_yes l hl ws hf ht B A A' c c' hc w hB hws hA hA'
theorem fresh_free (w : World) (cs : List Value) (T : TypeId) {w1 : World} (hb : Below (w.alloc (.cells cs.toArray T)).heap.size (w.alloc (.cells cs.toArray T)) w1) (i : Nat) : w1.frozen? ⟨w.heap.size, i, none⟩ = false :=
  (hb.frozen (p := ⟨w.heap.size, i, none⟩) (by simp)).trans (row_free (row_new w (.cells cs.toArray T)) i)
set_option maxHeartbeats 1000000 in
theorem UnpackSuper_len (len : Nat) (hl : len ≠ 256) (A : Option Addr) (c : Nat) (w : World) :
    Calls Tryz.prog 129 #[.slice A len c] w fun e w' => e = .returned (.tuple #[NoSup, .int .i64 117]) ∧ Below w.heap.size w w' := by
  have HX := Lib.hid (Boxed.start w zsup 124)
  go_enter Tryz.func129, Tryz.ntmps129
  go_wp2_with fail
  refine (superWidths_any _).mono ?_
  rintro e w1 ⟨rfl, hR1, hb1, hs1⟩
  have HY1 := Lib.hid (HX.out.go hb1)
  obtain ⟨c0, c1, c2, c3, c4, c5, c6, c7, c8⟩ := Boxed.nine HY1.out
  have hlt := HY1.out.lt
  have hfr := fresh_free w zsup 124 hb1
  clear hR1 hb1 hs1
  go_wp2_with (go_at_call 149; refine (read_no len hl A _ c 11 11 _).mono ?_; rintro e w' ⟨rfl, rfl⟩)
  refine bodyPost_ret (v := .tuple #[NoSup, .int .i64 117]) ?_ rfl ⟨rfl, ?_⟩
  · simp [results, Tryz.results129, go_sem, c0, c1, c2, c3, c4, c5, c6, c7, c8]
    rfl
  · exact (((((((((HY1.out.below.setCell (Nat.le_refl _) _).setCell (Nat.le_refl _) _).setCell (Nat.le_refl _) _).setCell (Nat.le_refl _) _).setCell (Nat.le_refl _) _).setCell (Nat.le_refl _) _).setCell (Nat.le_refl _) _).setCell (Nat.le_refl _) _).setCell (Nat.le_refl _) _)
set_option maxHeartbeats 4000000 in
set_option maxRecDepth 20000 in
theorem UnpackSuper_1 (l : List UInt8) (hl : l.length = 256) (B : Nat) (A : Option Addr) (c : Nat) (hc : 256 ≤ c) (w : World) (hB : B ≤ w.heap.size) (hA : Sl w B A (l.map u8v)) (hT : Tab w) (h : supIs l = false) :
    Calls Tryz.prog 129 #[.slice A 256 c] w fun e w' => e = .returned (.tuple #[NoSup, .int .i64 117]) ∧ Below w.heap.size w w' := by
  have HX := Lib.hid (Boxed.start w STold.zsup 124)
  have HA := Lib.hid hA
  have HT := Lib.hid hT
  have htl := Tab.lt hT
  have HL := Lib.hid hl
  have H := Lib.hid h
  clear h
  clear hA hT hl
  go_enter Tryz.func129, Tryz.ntmps129
  go_wp2_with fail
  refine (superWidths_any _).mono ?_
  rintro e w1 ⟨rfl, hR1, hb1, hs1⟩
  have HY1 := Lib.hid (HX.out.go hb1)
  have HA1 := Lib.hid (HA.out.below_le HY1.out.below hB)
  have HW1 : Hid (Sl w1 w1.heap.size (some ⟨w.heap.size + 1, 0, none⟩) (supW.map i64v)) := Lib.hid (by
    have h := hR1.sl (B := w1.heap.size) hR1.lt
    have hz : ∀ o, (w.alloc o).heap.size = w.heap.size + 1 := fun o => by simp
    rw [hz] at h
    exact h)
  have hlt := HY1.out.lt
  have HFR1 := Lib.hid (fresh_free w STold.zsup 124 hb1)
  clear hR1 hb1 hs1
  go_wp2_with fail
  refine (read_at l HL.out 11 supW rfl sup_fine (by rw [sup_ns]; decide) w1.heap.size A _ c 11 hc w1 (Nat.le_refl _) (HA1.out.up (by omega)) HW1.out).mono ?_
  rintro e w2 ⟨g2, rfl, hg2, hR2, hb2⟩
  have HY2 := Lib.hid (HY1.out.go hb2)
  have HR2 : Hid (RowV w2 g2 47 ((supX l).map u64v)) := Lib.hid hR2
  have HFR2 : Hid (∀ i, w2.frozen? ⟨w.heap.size, i, none⟩ = false) := Lib.hid (fun i => (hb2.frozen (p := ⟨w.heap.size, i, none⟩) hlt).trans (HFR1.out i))
  have hlt2 := HY2.out.lt
  clear hR2 hb2
  go_wp2_with fail
  go_region_held3 (fun w' => True) (trivial)
    ((first
      | (go_at_call 150; refine (tell_sup l w2 _ (five_is w2).drew g2 11 11 HR2.out).mono ?_; rintro e w3 ⟨rfl, ht3⟩
         have HT3 := Lib.hid ht3
         clear ht3)))
  obtain ⟨hb3, hz3, c0, c1, c2, c3, c4, c5, c6, c7, c8, ccl, cfr⟩ := HT3.out
  have HW4 : Hid (Below w2.heap.size w2 (w3.setCell ⟨w2.heap.size, 8, none⟩ (.bool (f1 l 38 == 1)))) := Lib.hid (hb3.setCell (Nat.le_refl _) _)
  have hlt3 : w2.heap.size < w3.heap.size := by omega
  clear hb3 hz3
  go_wp2_with fail
  refine (PackSuper_no (f4 l 6) (f4 l 10) (f4 l 14) (f4 l 18) (f4 l 22) (f4 l 26) (f4 l 30) (f4 l 34) _ _ H.out).mono ?_
  rintro e w5 ⟨rfl, hb5⟩
  have HY5 := Lib.hid ((HY2.out.go HW4.out).go hb5)
  obtain ⟨r0, r1, r2, r3, r4, r5, r6, r7, r8⟩ := Boxed.nine HY5.out
  have hfr : ∀ i, w5.frozen? ⟨w.heap.size, i, none⟩ = false := fun i => (hb5.frozen (p := ⟨w.heap.size, i, none⟩) (by simp [World.setCell]; omega)).trans ((HW4.out.frozen (p := ⟨w.heap.size, i, none⟩) hlt2).trans (HFR2.out i))
  have HA5 := Lib.hid (HA.out.below_le HY5.out.below hB)
  clear hb5
  go_wp2_with fail
  refine bodyPost_ret (v := .tuple #[NoSup, .int .i64 117]) ?_ rfl ⟨rfl, ?_⟩
  · simp [results, Tryz.results129, go_sem, r0, r1, r2, r3, r4, r5, r6, r7, r8]
    rfl
  · exact (((((((((HY5.out.below.setCell (Nat.le_refl _) _).setCell (Nat.le_refl _) _).setCell (Nat.le_refl _) _).setCell (Nat.le_refl _) _).setCell (Nat.le_refl _) _).setCell (Nat.le_refl _) _).setCell (Nat.le_refl _) _).setCell (Nat.le_refl _) _).setCell (Nat.le_refl _) _)
set_option maxHeartbeats 4000000 in
set_option maxRecDepth 20000 in
theorem UnpackSuper_2 (l : List UInt8) (hl : l.length = 256) (B : Nat) (A : Option Addr) (c : Nat) (hc : 256 ≤ c) (w : World) (hB : B ≤ w.heap.size) (hA : Sl w B A (l.map u8v)) (hT : Tab w) (h : supIs l = true) (h2 : (supSays l == l) = false) :
    Calls Tryz.prog 129 #[.slice A 256 c] w fun e w' => e = .returned (.tuple #[NoSup, .int .i64 117]) ∧ Below w.heap.size w w' := by
  have HX := Lib.hid (Boxed.start w STold.zsup 124)
  have HA := Lib.hid hA
  have HT := Lib.hid hT
  have htl := Tab.lt hT
  have HL := Lib.hid hl
  have H := Lib.hid h
  have H2 := Lib.hid h2
  clear h h2
  clear hA hT hl
  go_enter Tryz.func129, Tryz.ntmps129
  go_wp2_with fail
  refine (superWidths_any _).mono ?_
  rintro e w1 ⟨rfl, hR1, hb1, hs1⟩
  have HY1 := Lib.hid (HX.out.go hb1)
  have HA1 := Lib.hid (HA.out.below_le HY1.out.below hB)
  have HW1 : Hid (Sl w1 w1.heap.size (some ⟨w.heap.size + 1, 0, none⟩) (supW.map i64v)) := Lib.hid (by
    have h := hR1.sl (B := w1.heap.size) hR1.lt
    have hz : ∀ o, (w.alloc o).heap.size = w.heap.size + 1 := fun o => by simp
    rw [hz] at h
    exact h)
  have hlt := HY1.out.lt
  have HFR1 := Lib.hid (fresh_free w STold.zsup 124 hb1)
  clear hR1 hb1 hs1
  go_wp2_with fail
  refine (read_at l HL.out 11 supW rfl sup_fine (by rw [sup_ns]; decide) w1.heap.size A _ c 11 hc w1 (Nat.le_refl _) (HA1.out.up (by omega)) HW1.out).mono ?_
  rintro e w2 ⟨g2, rfl, hg2, hR2, hb2⟩
  have HY2 := Lib.hid (HY1.out.go hb2)
  have HR2 : Hid (RowV w2 g2 47 ((supX l).map u64v)) := Lib.hid hR2
  have HFR2 : Hid (∀ i, w2.frozen? ⟨w.heap.size, i, none⟩ = false) := Lib.hid (fun i => (hb2.frozen (p := ⟨w.heap.size, i, none⟩) hlt).trans (HFR1.out i))
  have hlt2 := HY2.out.lt
  clear hR2 hb2
  go_wp2_with fail
  go_region_held3 (fun w' => True) (trivial)
    ((first
      | (go_at_call 150; refine (tell_sup l w2 _ (five_is w2).drew g2 11 11 HR2.out).mono ?_; rintro e w3 ⟨rfl, ht3⟩
         have HT3 := Lib.hid ht3
         clear ht3)))
  obtain ⟨hb3, hz3, c0, c1, c2, c3, c4, c5, c6, c7, c8, ccl, cfr⟩ := HT3.out
  have HW4 : Hid (Below w2.heap.size w2 (w3.setCell ⟨w2.heap.size, 8, none⟩ (.bool (f1 l 38 == 1)))) := Lib.hid (hb3.setCell (Nat.le_refl _) _)
  have hlt3 : w2.heap.size < w3.heap.size := by omega
  clear hb3 hz3
  go_wp2_with fail
  have HT4 := Lib.hid (Tab.below HT.out ((HY2.out.go HW4.out).below) htl)
  refine (PackSuper_yes (f4 l 6) (f4 l 10) (f4 l 14) (f4 l 18) (f4 l 22) (f4 l 26) (f4 l 30) (f4 l 34) _ _ H.out HT4.out).mono ?_
  rintro e w5 ⟨g5, rfl, hg5, hR5, hb5⟩
  have HY5 := Lib.hid ((HY2.out.go HW4.out).go hb5)
  obtain ⟨r0, r1, r2, r3, r4, r5, r6, r7, r8⟩ := Boxed.nine HY5.out
  have hfr : ∀ i, w5.frozen? ⟨w.heap.size, i, none⟩ = false := fun i => (hb5.frozen (p := ⟨w.heap.size, i, none⟩) (by simp [World.setCell]; omega)).trans ((HW4.out.frozen (p := ⟨w.heap.size, i, none⟩) hlt2).trans (HFR2.out i))
  have HA5 := Lib.hid (HA.out.below_le HY5.out.below hB)
  have HR5 := Lib.hid hR5
  clear hb5 hR5 c0 c1 c2 c3 c4 c5 c6 c7 c8 ccl cfr
  go_wp2_with fail
  refine (Equal_at 256 256 (supSays l) l (supBytes_len _ _ _ _ _ _ _ _ _) HL.out (g5 + 1) B _ A 256 c w5 (HR5.out.sl (by omega)) HA5.out _ H2.out).mono ?_
  rintro e w' ⟨rfl, rfl⟩
  go_wp2_with fail
  refine bodyPost_ret (v := .tuple #[NoSup, .int .i64 117]) ?_ rfl ⟨rfl, ?_⟩
  · simp [results, Tryz.results129, go_sem, r0, r1, r2, r3, r4, r5, r6, r7, r8]
    rfl
  · exact (((((((((HY5.out.below.setCell (Nat.le_refl _) _).setCell (Nat.le_refl _) _).setCell (Nat.le_refl _) _).setCell (Nat.le_refl _) _).setCell (Nat.le_refl _) _).setCell (Nat.le_refl _) _).setCell (Nat.le_refl _) _).setCell (Nat.le_refl _) _).setCell (Nat.le_refl _) _)
set_option maxHeartbeats 4000000 in
set_option maxRecDepth 20000 in
theorem UnpackSuper_3 (l : List UInt8) (hl : l.length = 256) (B : Nat) (A : Option Addr) (c : Nat) (hc : 256 ≤ c) (w : World) (hB : B ≤ w.heap.size) (hA : Sl w B A (l.map u8v)) (hT : Tab w) (h : supIs l = true) (h2 : (supSays l == l) = true) :
    Calls Tryz.prog 129 #[.slice A 256 c] w fun e w' => e = .returned (.tuple #[.agg #[.int .i64 (f4 l 6), .int .i64 (f4 l 10), .int .i64 (f4 l 14), .int .i64 (f4 l 18), .int .i64 (f4 l 22), .int .i64 (f4 l 26), .int .i64 (f4 l 30), .int .i64 (f4 l 34), .bool (f1 l 38 == 1)], .int .i64 0]) ∧ Below w.heap.size w w' := by
  have HX := Lib.hid (Boxed.start w STold.zsup 124)
  have HA := Lib.hid hA
  have HT := Lib.hid hT
  have htl := Tab.lt hT
  have HL := Lib.hid hl
  have H := Lib.hid h
  have H2 := Lib.hid h2
  clear h h2
  clear hA hT hl
  go_enter Tryz.func129, Tryz.ntmps129
  go_wp2_with fail
  refine (superWidths_any _).mono ?_
  rintro e w1 ⟨rfl, hR1, hb1, hs1⟩
  have HY1 := Lib.hid (HX.out.go hb1)
  have HA1 := Lib.hid (HA.out.below_le HY1.out.below hB)
  have HW1 : Hid (Sl w1 w1.heap.size (some ⟨w.heap.size + 1, 0, none⟩) (supW.map i64v)) := Lib.hid (by
    have h := hR1.sl (B := w1.heap.size) hR1.lt
    have hz : ∀ o, (w.alloc o).heap.size = w.heap.size + 1 := fun o => by simp
    rw [hz] at h
    exact h)
  have hlt := HY1.out.lt
  have HFR1 := Lib.hid (fresh_free w STold.zsup 124 hb1)
  clear hR1 hb1 hs1
  go_wp2_with fail
  refine (read_at l HL.out 11 supW rfl sup_fine (by rw [sup_ns]; decide) w1.heap.size A _ c 11 hc w1 (Nat.le_refl _) (HA1.out.up (by omega)) HW1.out).mono ?_
  rintro e w2 ⟨g2, rfl, hg2, hR2, hb2⟩
  have HY2 := Lib.hid (HY1.out.go hb2)
  have HR2 : Hid (RowV w2 g2 47 ((supX l).map u64v)) := Lib.hid hR2
  have HFR2 : Hid (∀ i, w2.frozen? ⟨w.heap.size, i, none⟩ = false) := Lib.hid (fun i => (hb2.frozen (p := ⟨w.heap.size, i, none⟩) hlt).trans (HFR1.out i))
  have hlt2 := HY2.out.lt
  clear hR2 hb2
  go_wp2_with fail
  go_region_held3 (fun w' => True) (trivial)
    ((first
      | (go_at_call 150; refine (tell_sup l w2 _ (five_is w2).drew g2 11 11 HR2.out).mono ?_; rintro e w3 ⟨rfl, ht3⟩
         have HT3 := Lib.hid ht3
         clear ht3)))
  obtain ⟨hb3, hz3, c0, c1, c2, c3, c4, c5, c6, c7, c8, ccl, cfr⟩ := HT3.out
  have HW4 : Hid (Below w2.heap.size w2 (w3.setCell ⟨w2.heap.size, 8, none⟩ (.bool (f1 l 38 == 1)))) := Lib.hid (hb3.setCell (Nat.le_refl _) _)
  have hlt3 : w2.heap.size < w3.heap.size := by omega
  clear hb3 hz3
  go_wp2_with fail
  have HT4 := Lib.hid (Tab.below HT.out ((HY2.out.go HW4.out).below) htl)
  refine (PackSuper_yes (f4 l 6) (f4 l 10) (f4 l 14) (f4 l 18) (f4 l 22) (f4 l 26) (f4 l 30) (f4 l 34) _ _ H.out HT4.out).mono ?_
  rintro e w5 ⟨g5, rfl, hg5, hR5, hb5⟩
  have HY5 := Lib.hid ((HY2.out.go HW4.out).go hb5)
  obtain ⟨r0, r1, r2, r3, r4, r5, r6, r7, r8⟩ := Boxed.nine HY5.out
  have hfr : ∀ i, w5.frozen? ⟨w.heap.size, i, none⟩ = false := fun i => (hb5.frozen (p := ⟨w.heap.size, i, none⟩) (by simp [World.setCell]; omega)).trans ((HW4.out.frozen (p := ⟨w.heap.size, i, none⟩) hlt2).trans (HFR2.out i))
  have HA5 := Lib.hid (HA.out.below_le HY5.out.below hB)
  have HR5 := Lib.hid hR5
  have hzb : w2.heap.size < (w3.setCell ⟨w2.heap.size, 8, none⟩ (.bool (f1 l 38 == 1))).heap.size := by simp [World.setCell]; omega
  have k0 : w5.cell? ⟨w2.heap.size, 0, none⟩ = some (.int .i64 (f4 l 6)) := (hb5.cell (p := ⟨w2.heap.size, 0, none⟩) hzb).trans (by simp [go_sem, c0])
  have k1 : w5.cell? ⟨w2.heap.size, 1, none⟩ = some (.int .i64 (f4 l 10)) := (hb5.cell (p := ⟨w2.heap.size, 1, none⟩) hzb).trans (by simp [go_sem, c1])
  have k2 : w5.cell? ⟨w2.heap.size, 2, none⟩ = some (.int .i64 (f4 l 14)) := (hb5.cell (p := ⟨w2.heap.size, 2, none⟩) hzb).trans (by simp [go_sem, c2])
  have k3 : w5.cell? ⟨w2.heap.size, 3, none⟩ = some (.int .i64 (f4 l 18)) := (hb5.cell (p := ⟨w2.heap.size, 3, none⟩) hzb).trans (by simp [go_sem, c3])
  have k4 : w5.cell? ⟨w2.heap.size, 4, none⟩ = some (.int .i64 (f4 l 22)) := (hb5.cell (p := ⟨w2.heap.size, 4, none⟩) hzb).trans (by simp [go_sem, c4])
  have k5 : w5.cell? ⟨w2.heap.size, 5, none⟩ = some (.int .i64 (f4 l 26)) := (hb5.cell (p := ⟨w2.heap.size, 5, none⟩) hzb).trans (by simp [go_sem, c5])
  have k6 : w5.cell? ⟨w2.heap.size, 6, none⟩ = some (.int .i64 (f4 l 30)) := (hb5.cell (p := ⟨w2.heap.size, 6, none⟩) hzb).trans (by simp [go_sem, c6])
  have k7 : w5.cell? ⟨w2.heap.size, 7, none⟩ = some (.int .i64 (f4 l 34)) := (hb5.cell (p := ⟨w2.heap.size, 7, none⟩) hzb).trans (by simp [go_sem, c7])
  have k8 : w5.cell? ⟨w2.heap.size, 8, none⟩ = some (.bool (f1 l 38 == 1)) := (hb5.cell (p := ⟨w2.heap.size, 8, none⟩) hzb).trans (by simp [go_sem, c8])
  clear hb5 hR5 c0 c1 c2 c3 c4 c5 c6 c7 c8 ccl cfr
  go_wp2_with fail
  refine (Equal_at 256 256 (supSays l) l (supBytes_len _ _ _ _ _ _ _ _ _) HL.out (g5 + 1) B _ A 256 c w5 (HR5.out.sl (by omega)) HA5.out _ H2.out).mono ?_
  rintro e w' ⟨rfl, rfl⟩
  go_wp2_with fail
  refine bodyPost_ret (v := .tuple #[.agg #[.int .i64 (f4 l 6), .int .i64 (f4 l 10), .int .i64 (f4 l 14), .int .i64 (f4 l 18), .int .i64 (f4 l 22), .int .i64 (f4 l 26), .int .i64 (f4 l 30), .int .i64 (f4 l 34), .bool (f1 l 38 == 1)], .int .i64 0]) ?_ rfl ⟨rfl, ?_⟩
  · simp [results, Tryz.results129, go_sem, r0, r1, r2, r3, r4, r5, r6, r7, r8]
  · exact (((((((((HY5.out.below.setCell (Nat.le_refl _) _).setCell (Nat.le_refl _) _).setCell (Nat.le_refl _) _).setCell (Nat.le_refl _) _).setCell (Nat.le_refl _) _).setCell (Nat.le_refl _) _).setCell (Nat.le_refl _) _).setCell (Nat.le_refl _) _).setCell (Nat.le_refl _) _)
end Go.Proofs.YtgjcbfdhpbkhoaaGreatDoor.SUnp
