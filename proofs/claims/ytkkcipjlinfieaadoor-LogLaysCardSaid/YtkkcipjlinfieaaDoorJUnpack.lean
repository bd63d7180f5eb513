/- Unpack: the program's record of a block. -/
import Derived.Test.YtkkcipjlinfieaaDoorJRead
import Derived.Test.YtkkcipjlinfieaaDoorSEqual
namespace Go.Proofs.YtkkcipjlinfieaaDoor.JUnpack
open Go.RowKit WMem WPlain WFace2 WWide WAny WCrc WSeal SNums SEqual JPlain JMem JMay JBody JPack JPackFace JTold JRead

theorem hasOk_min {k : Int} {n : Nat} (h : hasOk k n = false) : hasOk k (min n 61) = false := by
  by_cases hn : n ≤ 61
  · rw [Nat.min_eq_left hn]; exact h
  · rw [Nat.min_eq_right (by omega)]
    rw [Bool.eq_false_iff]
    intro h2
    rcases hasOk_cases h2 with e | e | e | e <;> omega
theorem says_len (b : List UInt8) : (says b).ents.length = min (saysL b) 61 := by simp [says]
theorem isRec_no_ok {b : List UInt8} (h : hasOk (saysK b) (saysL b) = false) : isRec b = false := by
  have : recMay (says b) = false := by
    rw [Bool.eq_false_iff]
    intro hm
    have h2 := (recMay_iff.1 hm).2.1
    rw [says_len] at h2
    have h3 := hasOk_min h
    rw [show (says b).kind = saysK b from rfl] at h2
    rw [h3] at h2
    cases h2
  simp [isRec, this]
theorem says_sum (b : List UInt8) : (says b).sum < 4294967296 := by
  have h : getX b 11 4 < 4294967296 := getX_small b 11 4
  unfold says
  simp only
  split
  · exact h
  · decide
/-- what Unpack answers -/
def UnpackR (b : List UInt8) (w : World) (e : Ending) (w' : World) : Prop :=
  ∃ A' c', e = .returned (.tuple #[recV (unpR b) A' c', .int .i64 (unpE b)]) ∧ Ents w' w'.heap.size A' (unpR b).ents ∧ (∀ a, A' = some a → w.heap.size ≤ a.block) ∧ Below w.heap.size w w'
theorem UnpackR.no {b : List UInt8} {w w' : World} (h : isRec b = false) (hb : Below w.heap.size w w') : UnpackR b w (.returned (.tuple #[nulV, .int .i64 117])) w' := by
  have e1 : unpR b = nul := by simp [unpR, h]
  have e2 : unpE b = 117 := by simp [unpE, h]
  refine ⟨none, 0, ?_, ?_, fun a ha => (by cases ha), hb⟩
  · rw [e1, e2]; rfl
  · rw [e1]; exact Ents.nil _ _ _
set_option maxHeartbeats 2000000 in
theorem Unpack_len (n : Nat) (b : List UInt8) (hb : b.length = n) (h : n ≠ 256) (A : Option Addr) (c : Nat) (w : World) :
    Calls Tryd.prog 11 #[.slice A n c] w (UnpackR b w) := by
  have HN := Lib.hid (show isRec b = false by simp [isRec]; intro e; omega)
  have HR := Lib.hid (read_len n h A c (w.alloc (.cells (rbox 0 0 (.slice none 0 0)) 38)))
  have HX := Lib.hid (JMem.Boxed.start w [.int .i64 0, .int .i64 0, .slice none 0 0, .int .u32 0, .int .i64 0] 38)
  have HZ : Hid ((w.alloc (.cells (rbox 0 0 (.slice none 0 0)) 38)).heap[w.heap.size]? = some (.cells (rbox 0 0 (.slice none 0 0)) 38 (0, 0))) := Lib.hid (row_new w _)
  unfold rbox at HR HZ
  clear hb h
  go_enter Tryd.func11, Tryd.ntmps11
  go_wp2_with fail
  refine HR.out.mono ?_
  rintro e w1 ⟨rfl, hb1⟩
  have HY1 := Lib.hid ((HX.out.go hb1).alloc (.cells #[.int .i64 0, .int .i64 0, .slice none 0 0, .int .u32 0, .int .i64 0] 38))
  have HZ1 := Lib.hid (row_alloc ((hb1.block w.heap.size (by simp)).trans HZ.out) (.cells #[.int .i64 0, .int .i64 0, .slice none 0 0, .int .u32 0, .int .i64 0] 38))
  clear hb1 HX HZ HR
  unfold nulV
  obtain ⟨e0, e1, e2, e3, e4⟩ := HY1.out.five
  have z : ∀ i, (w1.alloc (.cells #[.int .i64 0, .int .i64 0, .slice none 0 0, .int .u32 0, .int .i64 0] 38)).frozen? ⟨w.heap.size, i, none⟩ = false := fun i => row_free HZ1.out i
  have HB1 := Lib.hid HY1.out.below
  go_wp2_with fail
  refine bodyPost_ret (v := .tuple #[nulV, .int .i64 117]) ?_ rfl (UnpackR.no HN.out (set5_below _ _ _ _ _ HB1.out (Nat.le_refl _)))
  simp [results, Tryd.results11, go_sem, nulV, e0, e1, e2, e3, e4]
set_option maxRecDepth 100000 in
set_option maxHeartbeats 4000000 in
theorem Unpack_256 (b : List UInt8) (hb : b.length = 256) (H1 : saysK b = 1 → Told1) (B : Nat) (A : Option Addr) (c : Nat) (hc : 256 ≤ c) (w : World) (hB : B ≤ w.heap.size) (hA : Sl w B A (b.map u8v)) (hT : Tab w) :
    Calls Tryd.prog 11 #[.slice A 256 c] w (UnpackR b w) := by
  have HR := Lib.hid (read_256 b hb H1 B A c hc (w.alloc (.cells #[.int .i64 0, .int .i64 0, .slice none 0 0, .int .u32 0, .int .i64 0] 38)) (by simp; omega) (alloc_sl hA hB _))
  have HX := Lib.hid (JMem.Boxed.start w [.int .i64 0, .int .i64 0, .slice none 0 0, .int .u32 0, .int .i64 0] 38)
  have HZ : Hid ((w.alloc (.cells #[.int .i64 0, .int .i64 0, .slice none 0 0, .int .u32 0, .int .i64 0] 38)).heap[w.heap.size]? = some (.cells #[.int .i64 0, .int .i64 0, .slice none 0 0, .int .u32 0, .int .i64 0] 38 (0, 0))) := Lib.hid (row_new w _)
  have HA := Lib.hid hA
  have HT := Lib.hid hT
  have htl := Tab.lt hT
  have HBL := Lib.hid hb
  have HSUM := Lib.hid (says_sum b)
  clear hb H1 hA hT
  cases hok : hasOk (saysK b) (saysL b) with
  | false =>
    have HN := Lib.hid (isRec_no_ok hok)
    have HOK := Lib.hid hok
    clear hok
    go_enter Tryd.func11, Tryd.ntmps11
    go_wp2_with fail
    refine HR.out.mono ?_
    rintro e w1 ⟨h1, _, hb1⟩
    obtain rfl := h1 HOK.out
    have HY1 := Lib.hid ((HX.out.go hb1).alloc (.cells #[.int .i64 0, .int .i64 0, .slice none 0 0, .int .u32 0, .int .i64 0] 38))
    have HZ1 := Lib.hid (row_alloc ((hb1.block w.heap.size (by simp)).trans HZ.out) (.cells #[.int .i64 0, .int .i64 0, .slice none 0 0, .int .u32 0, .int .i64 0] 38))
    clear hb1 HX HZ HR h1
    unfold nulV
    obtain ⟨e0, e1, e2, e3, e4⟩ := HY1.out.five
    have z : ∀ i, (w1.alloc (.cells #[.int .i64 0, .int .i64 0, .slice none 0 0, .int .u32 0, .int .i64 0] 38)).frozen? ⟨w.heap.size, i, none⟩ = false := fun i => row_free HZ1.out i
    have HB1 := Lib.hid HY1.out.below
    go_wp2_with fail
    refine bodyPost_ret (v := .tuple #[nulV, .int .i64 117]) ?_ rfl (UnpackR.no HN.out (set5_below _ _ _ _ _ HB1.out (Nat.le_refl _)))
    simp [results, Tryd.results11, go_sem, nulV, e0, e1, e2, e3, e4]
  | true =>
    have HOK := Lib.hid hok
    have hlen : (says b).ents.length ≤ 61 := by rw [says_len]; omega
    have HIS : Hid (isRec b = (recMay (says b) && (recBytes (says b) == b))) := Lib.hid (by simp [isRec, HBL.out])
    have HRL : Hid (recMay (says b) = true → (recBytes (says b)).length = 256) := Lib.hid (fun h => recBytes_len (recMay_iff.1 h).2.1)
    obtain ⟨R, hR⟩ : ∃ R, says b = R := ⟨_, rfl⟩
    rw [hR] at HR HSUM hlen HIS HRL
    have HRS := Lib.hid hR
    clear hok hR
    go_enter Tryd.func11, Tryd.ntmps11
    go_wp2_with fail
    refine HR.out.mono ?_
    rintro e w1 ⟨_, h2, hb1⟩
    obtain ⟨A', c', rfl, hE, hfar⟩ := h2 HOK.out
    have HY1 := Lib.hid ((HX.out.go hb1).alloc (.cells #[.int .i64 R.kind, .int .i64 R.seq, .slice A' R.ents.length c', .int .u32 (R.sum : Int), .int .i64 R.start] 38))
    have HZ1 := Lib.hid (row_alloc ((hb1.block w.heap.size (by simp)).trans HZ.out) (.cells #[.int .i64 R.kind, .int .i64 R.seq, .slice A' R.ents.length c', .int .u32 (R.sum : Int), .int .i64 R.start] 38))
    have HW1 := Lib.hid (row_new w1 (.cells #[.int .i64 R.kind, .int .i64 R.seq, .slice A' R.ents.length c', .int .u32 (R.sum : Int), .int .i64 R.start] 38))
    have HE1 := Lib.hid (hE.alloc (Nat.le_refl _) (.cells #[.int .i64 R.kind, .int .i64 R.seq, .slice A' R.ents.length c', .int .u32 (R.sum : Int), .int .i64 R.start] 38))
    have HFAR : Hid (∀ a, A' = some a → w.heap.size < a.block) := Lib.hid (fun a ha => by have := hfar a ha; simp at this; omega)
    have hs1 : w1.heap.size < (w1.alloc (.cells #[.int .i64 R.kind, .int .i64 R.seq, .slice A' R.ents.length c', .int .u32 (R.sum : Int), .int .i64 R.start] 38)).heap.size := by simp
    have hs0 : w.heap.size < w1.heap.size := by have := hb1.size; simp at this; omega
    have f0 : (w1.alloc (.cells #[.int .i64 R.kind, .int .i64 R.seq, .slice A' R.ents.length c', .int .u32 (R.sum : Int), .int .i64 R.start] 38)).cell? ⟨w1.heap.size, 0, none⟩ = some (.int .i64 R.kind) := (row_cell HW1.out 0).trans rfl
    have f1 : (w1.alloc (.cells #[.int .i64 R.kind, .int .i64 R.seq, .slice A' R.ents.length c', .int .u32 (R.sum : Int), .int .i64 R.start] 38)).cell? ⟨w1.heap.size, 1, none⟩ = some (.int .i64 R.seq) := (row_cell HW1.out 1).trans rfl
    have f2 : (w1.alloc (.cells #[.int .i64 R.kind, .int .i64 R.seq, .slice A' R.ents.length c', .int .u32 (R.sum : Int), .int .i64 R.start] 38)).cell? ⟨w1.heap.size, 2, none⟩ = some (.slice A' R.ents.length c') := (row_cell HW1.out 2).trans rfl
    have f3 : (w1.alloc (.cells #[.int .i64 R.kind, .int .i64 R.seq, .slice A' R.ents.length c', .int .u32 (R.sum : Int), .int .i64 R.start] 38)).cell? ⟨w1.heap.size, 3, none⟩ = some (.int .u32 (R.sum : Int)) := (row_cell HW1.out 3).trans rfl
    have f4 : (w1.alloc (.cells #[.int .i64 R.kind, .int .i64 R.seq, .slice A' R.ents.length c', .int .u32 (R.sum : Int), .int .i64 R.start] 38)).cell? ⟨w1.heap.size, 4, none⟩ = some (.int .i64 R.start) := (row_cell HW1.out 4).trans rfl
    clear h2 hE hfar hb1
    unfold recV
    go_wp2_with fail
    generalize (w1.alloc (.cells #[.int .i64 R.kind, .int .i64 R.seq, .slice A' R.ents.length c', .int .u32 (R.sum : Int), .int .i64 R.start] 38)) = w2 at *
    refine (Pack_any R HSUM.out (w1.heap.size + 1) A' c' w2 (by omega) (HE1.out.up (by omega)) (by omega) (Tab.below HT.out HY1.out.below htl)).mono ?_
    rintro e w3 ⟨hyes, hno, hb3⟩
    have HY3 := Lib.hid (HY1.out.go hb3)
    have HZ3 := Lib.hid ((hb3.block w.heap.size (by omega)).trans HZ1.out)
    have HE3 := Lib.hid (HE1.out.below hb3 (by omega))
    have HA3 := Lib.hid (HA.out.below_le HY3.out.below hB)
    have hs3 := hb3.size
    have k0 := (hb3.cell (p := ⟨w1.heap.size, 0, none⟩) hs1).trans f0
    have k1 := (hb3.cell (p := ⟨w1.heap.size, 1, none⟩) hs1).trans f1
    have k2 := (hb3.cell (p := ⟨w1.heap.size, 2, none⟩) hs1).trans f2
    have k3 := (hb3.cell (p := ⟨w1.heap.size, 3, none⟩) hs1).trans f3
    have k4 := (hb3.cell (p := ⟨w1.heap.size, 4, none⟩) hs1).trans f4
    obtain ⟨e0, e1, e2, e3, e4⟩ := HY3.out.five
    have z : ∀ i, w3.frozen? ⟨w.heap.size, i, none⟩ = false := fun i => row_free HZ3.out i
    have hb3s := Lib.hid hb3
    clear hb3 f0 f1 f2 f3 f4 HR HX HZ HE1 HY1 HZ1 HW1
    cases hm : recMay R with
    | false =>
      obtain rfl := hno hm
      have HN : Hid (isRec b = false) := Lib.hid (by rw [HIS.out, hm]; rfl)
      clear hyes hno
      go_wp2_with fail
      refine bodyPost_ret (v := .tuple #[nulV, .int .i64 117]) ?_ rfl (UnpackR.no HN.out (set5_below _ _ _ _ _ HY3.out.below (Nat.le_refl _)))
      simp [results, Tryd.results11, go_sem, nulV, e0, e1, e2, e3, e4]
    | true =>
      obtain ⟨g, rfl, hg, hR3⟩ := hyes hm
      have HR3 := Lib.hid hR3
      have HL := Lib.hid (HRL.out hm)
      clear hyes hno hR3
      cases hq : (recBytes R == b) with
      | false =>
        have HN : Hid (isRec b = false) := Lib.hid (by rw [HIS.out, hq]; simp)
        have HQ := Lib.hid hq
        clear hq
        go_wp2_with fail
        refine (Equal_at 256 256 (recBytes R) b HL.out HBL.out w3.heap.size B _ A 256 c w3 (HR3.out.sl HR3.out.lt) HA3.out false HQ.out).mono ?_
        rintro e w' ⟨rfl, rfl⟩
        go_wp2_with fail
        refine bodyPost_ret (v := .tuple #[nulV, .int .i64 117]) ?_ rfl (UnpackR.no HN.out (set5_below _ _ _ _ _ HY3.out.below (Nat.le_refl _)))
        simp [results, Tryd.results11, go_sem, nulV, e0, e1, e2, e3, e4]
      | true =>
        have HN : Hid (unpR b = R ∧ unpE b = 0) := Lib.hid (by
          have h : isRec b = true := by rw [HIS.out, hq, hm]; rfl
          simp only [unpR, unpE, h, if_true, HRS.out]
          exact ⟨trivial, trivial⟩)
        have HQ := Lib.hid hq
        clear hq
        go_wp2_with fail
        refine (Equal_at 256 256 (recBytes R) b HL.out HBL.out w3.heap.size B _ A 256 c w3 (HR3.out.sl HR3.out.lt) HA3.out true HQ.out).mono ?_
        rintro e w' ⟨rfl, rfl⟩
        go_wp2_with fail
        refine bodyPost_ret (v := .tuple #[.agg #[.int .i64 R.kind, .int .i64 R.seq, .slice A' R.ents.length c', .int .u32 (R.sum : Int), .int .i64 R.start], .int .i64 0]) ?_ rfl ?_
        · simp [results, Tryd.results11, go_sem, e0, e1, e2, e3, e4]
        · unfold UnpackR
          rw [HN.out.1, HN.out.2]
          exact ⟨A', c', rfl, Ents.set5_up (HE3.out.up (by omega)) (fun a ha => Nat.ne_of_lt (HFAR.out a ha)) _ _ _ _ _, fun a ha => Nat.le_of_lt (HFAR.out a ha), set5_below _ _ _ _ _ HY3.out.below (Nat.le_refl _)⟩
theorem Unpack_any (b : List UInt8) (H1 : saysK b = 1 → Told1) (B : Nat) (A : Option Addr) (c : Nat) (hc : b.length ≤ c) (w : World) (hB : B ≤ w.heap.size) (hA : Sl w B A (b.map u8v)) (hT : Tab w) :
    Calls Tryd.prog 11 #[.slice A b.length c] w (UnpackR b w) := by
  by_cases h : b.length = 256
  · have := Unpack_256 b h H1 B A c (by omega) w hB hA hT
    rw [h]
    exact this
  · exact Unpack_len b.length b rfl h A c w
theorem Unpack_at (n : Nat) (b : List UInt8) (hn : b.length = n) (H1 : saysK b = 1 → Told1) (B : Nat) (A : Option Addr) (c : Nat) (hc : n ≤ c) (w : World) (hB : B ≤ w.heap.size) (hA : Sl w B A (b.map u8v)) (hT : Tab w) :
    Calls Tryd.prog 11 #[.slice A n c] w (UnpackR b w) := by
  subst hn
  exact Unpack_any b H1 B A c hc w hB hA hT
end Go.Proofs.YtkkcipjlinfieaaDoor.JUnpack
