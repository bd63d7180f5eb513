/- Two disks with the same blocks are alike; the document's examples hold; a disk that a script was done to. -/
import Derived.Test.YtkemakemolohdaaLStepP
namespace Go.Proofs.Ytkemakemolohdaa.LAlike
open Go.RowKit WMem WPlain WAppend Ext Map DPlain DMem Mk DBase DRead DPend DWrite DFlush DPending DCopy RNew RRead RWrite RFlush DLaw LStep LStepP

set_option maxHeartbeats 1600000 in
set_option maxRecDepth 100000 in
theorem alike_yes (S S' : Nat → Prop) (a b : Nat) (s t : St) (w : World) (ha : DD w S a s) (hb : DD w S' b t) (hl : s.L.length = t.L.length) (hr : ∀ i, i < s.L.length → s.readAt i = t.readAt i) :
    Calls Try.prog 25 #[.pointer (some ⟨a, 0, none⟩), .pointer (some ⟨b, 0, none⟩)] w fun e w' => e = .returned (.bool true) ∧ Below w.heap.size w w' := by
  have hbig := ha.len
  have HA := Lib.hid ha
  have HB := Lib.hid hb
  have HL := Lib.hid hl
  have HR := Lib.hid hr
  clear ha hb hl hr
  go_enter Try.func25, Try.ntmps25
  go_wp2
  go_loopw [5] (fun i wr => ∃ k : Nat, k ≤ s.L.length ∧ i = .int .i64 k ∧ Below w.heap.size w wr) (fun i _ => s.L.length - (intOf i).toNat)
  case atStart => exact ⟨0, Nat.zero_le _, rfl, Below.refl _ _⟩
  case round =>
    obtain ⟨k, hk, rfl, hbe⟩ := hrel
    have HBE := Lib.hid hbe
    have hsz := hbe.size
    clear hbe
    by_cases hlt : k < s.L.length
    · go_wp2_with fail
      refine (Blocks_at a s.L.length wr (HA.out.below HBE.out).c0).mono ?_
      rintro e w' ⟨rfl, rfl⟩
      go_wp2_with fail
      refine (Read_yes S a k s wr (HA.out.below HBE.out) hlt).mono ?_
      rintro e w1 ⟨g1, rfl, hg1, hR1, hb1⟩
      have hs1 := hb1.size
      have HB1 : Hid (Below w.heap.size w w1) := HBE.out.trans (hb1.mono hsz)
      have HR1 := Lib.hid hR1
      have hgl := hR1.lt
      clear hR1 hb1
      go_wp2_with fail
      refine (Read_yes S' b k t w1 (HB.out.below HB1.out) (by have := HL.out; omega)).mono ?_
      rintro e w2 ⟨g2, rfl, hg2, hR2, hb2⟩
      have hs2 := hb2.size
      have HB2 : Hid (Below w.heap.size w w2) := HB1.out.trans (hb2.mono (by omega))
      have HR2 := Lib.hid hR2
      have HR12 := Lib.hid (HR1.out.keep hb2 hgl)
      clear hR2 hb2
      go_wp2_with fail
      refine (Same_blk (s.readAt k) (fun _ => True) (fun _ => True) _ _ w2 ⟨g1, 256, [], rfl, trivial, HA.out.wf.read hlt, Nat.le_refl _, HR12.out⟩ ⟨g2, 256, [], rfl, trivial, HA.out.wf.read hlt, Nat.le_refl _, by rw [HR.out k hlt]; exact HR2.out⟩).mono ?_
      rintro e w3 ⟨rfl, n, rfl⟩
      go_wp2
      go_roundw
      case rel => exact ⟨k + 1, by omega, by go_num, below_drewN HB2.out n⟩
      case measure => simp [intOf]; omega
    · obtain rfl : k = s.L.length := by omega
      go_wp2_with fail
      refine (Blocks_at a s.L.length wr (HA.out.below HBE.out).c0).mono ?_
      rintro e w' ⟨rfl, rfl⟩
      go_wp2_with fail
      refine (Blocks_at a s.L.length wr (HA.out.below HBE.out).c0).mono ?_
      rintro e w' ⟨rfl, rfl⟩
      go_wp2_with fail
      refine (Blocks_at b t.L.length wr (HB.out.below HBE.out).c0).mono ?_
      rintro e w' ⟨rfl, rfl⟩
      rw [← HL.out]
      go_wp2
      go_ret
      exact ⟨rfl, HBE.out⟩

/-! the document's examples -/
def ex1 : St := (St.new 128).write 3 (full 7)
def ex2 : St := ex1.flush
def ex3 : St := ex2.write 3 (full 8)
def ex4 : St := ex3.write 4 (full 9)
def ex5 : St := ex4.crash [false, true]
theorem ex_len : ex1.L.length = 128 ∧ ex2.L.length = 128 ∧ ex3.L.length = 128 ∧ ex4.L.length = 128 ∧ ex5.L.length = 128 := by
  have h1 : ex1.L.length = 128 := by show (St.new 128).L.length = 128; simp [St.new]
  have h2 : ex2.L.length = 128 := (doneTo_len ..).trans h1
  exact ⟨h1, h2, h2, h2, (doneTo_len ..).trans h2⟩
theorem ex_three : ex5.readAt 3 = full 7 := by
  have e1 : ex2.L.getD 3 [] = full 7 := by
    show (doneTo (fun _ => true) ex1.L [(3, full 7)] 1).getD 3 [] = _
    rw [doneTo_yes _ _ _ (by simp) rfl]
    rw [List.getD_eq_getElem?_getD]
    simp only [doneTo_zero, List.getElem_cons_zero]
    rw [List.getElem?_set_self (by rw [ex_len.1]; decide)]
    rfl
  show ((lastOf [] 3).getD ((doneTo (keepF [false, true]) ex2.L [(3, full 8), (4, full 9)] 2).getD 3 [])) = _
  rw [doneTo_yes _ _ _ (by simp) rfl, doneTo_no _ _ _ rfl, doneTo_zero]
  simp only [lastOf, Option.getD_none, List.getElem_cons_succ, List.getElem_cons_zero]
  rw [List.getD_eq_getElem?_getD, List.getElem?_set_ne (by decide), ← List.getD_eq_getElem?_getD]
  exact e1
theorem ex_four : ex5.readAt 4 = full 9 := by
  show ((lastOf [] 4).getD ((doneTo (keepF [false, true]) ex2.L [(3, full 8), (4, full 9)] 2).getD 4 [])) = _
  rw [doneTo_yes _ _ _ (by simp) rfl, doneTo_no _ _ _ rfl, doneTo_zero]
  simp only [lastOf, Option.getD_none, List.getElem_cons_succ, List.getElem_cons_zero]
  rw [List.getD_eq_getElem?_getD, List.getElem?_set_self (by rw [ex_len.2.1]; decide)]
  rfl
end Go.Proofs.Ytkemakemolohdaa.LAlike
