/- The statements' own examples: awake answers true. -/
import Derived.Test.YtkkcipjlinfieaaDoorJUnpack
import Derived.Test.YtkkcipjlinfieaaDoorJBackM
import Derived.Test.YtkkcipjlinfieaaDoorJEscape
import Derived.Test.YtkkcipjlinfieaaDoorJNeed
import Derived.Test.YtkkcipjlinfieaaDoorJPackFace
import Derived.Test.YtkkcipjlinfieaaDoorWHelp
namespace Go.Proofs.YtkkcipjlinfieaaDoor.JAwake
open Go.RowKit WMem WPlain WList WPack WHelp WFace2 WWide WAny WCrc WSeal SNums SEqual JPlain JMem JMay JBody JPack JPackFace JTold JRead JUnpack JBackM JEscape JNeed

theorem sl_of {w : World} {g : Nat} {l : List UInt8} {T : TypeId} {cs : Array Value} (h : w.heap[g]? = some (.cells cs T (0, 0))) (e : cs = (l.map u8v).toArray) : Sl w w.heap.size (some ⟨g, 0, none⟩) (l.map u8v) := by
  subst e
  exact Sl.of_row (n := (l.map u8v).length) h (row_lt h) (List.take_of_length_le (Nat.le_refl _))
def markL : List UInt8 := [73, 82, 89, 72, 7]
def backL : List UInt8 := [0, 0, 0, 0, 7]
theorem mark_yes : marked markL = true := by decide
theorem mark_esc : escL markL = backL := by decide
def headR : Rec := ⟨4, 9, [], 0, 4⟩
def commR : Rec := ⟨2, 1, [⟨0, false⟩], 0, 0⟩
theorem head_may : recMay headR = true := by decide
theorem comm_may : recMay commR = false := by decide
theorem head_k : saysK (recBytes headR) ≠ 1 := by
  have h := says_back headR head_may (by decide)
  have e : saysK (recBytes headR) = (says (recBytes headR)).kind := rfl
  rw [e, h]
  decide
theorem zero_k : saysK (List.replicate 256 0) ≠ 1 := by
  have hk : saysK (List.replicate 256 0) = 0 := by decide +kernel
  rw [hk]
  decide
theorem Unpack_head (g : Nat) (w : World) (hR : Row w g (recBytes headR) []) (hT : Tab w) :
    Calls Tryd.prog 11 #[.slice (some ⟨g, 0, none⟩) 256 256] w fun e w' => ∃ A' c', e = .returned (.tuple #[.agg #[.int .i64 4, .int .i64 9, .slice A' 0 c', .int .u32 0, .int .i64 4], .int .i64 0]) ∧ Below w.heap.size w w' := by
  refine (Unpack_at 256 (recBytes headR) (recBytes_len (by decide)) (fun h => absurd h head_k) w.heap.size (some ⟨g, 0, none⟩) 256 (Nat.le_refl _) w (Nat.le_refl _) (hR.sl hR.lt) hT).mono ?_
  rintro e w' ⟨A', c', rfl, _, _, hb⟩
  rw [(unp_back headR head_may (by decide)).1, (unp_back headR head_may (by decide)).2]
  exact ⟨A', c', rfl, hb⟩
theorem Unpack_zero (g : Nat) (w : World) (hR : Row w g (List.replicate 256 0) []) (hT : Tab w) :
    Calls Tryd.prog 11 #[.slice (some ⟨g, 0, none⟩) 256 256] w fun e w' => ∃ A' c', e = .returned (.tuple #[.agg #[.int .i64 0, .int .i64 0, .slice A' 0 c', .int .u32 0, .int .i64 0], .int .i64 117]) ∧ Below w.heap.size w w' := by
  refine (Unpack_at 256 (List.replicate 256 0) List.length_replicate (fun h => absurd h zero_k) w.heap.size (some ⟨g, 0, none⟩) 256 (Nat.le_refl _) w (Nat.le_refl _) (hR.sl hR.lt) hT).mono ?_
  rintro e w' ⟨A', c', rfl, _, _, hb⟩
  have e1 : unpR (List.replicate 256 0) = nul := by unfold unpR; rw [zeros_no]; rfl
  have e2 : unpE (List.replicate 256 0) = 117 := by unfold unpE; rw [zeros_no]; rfl
  rw [e1, e2]
  exact ⟨A', c', rfl, hb⟩
theorem Pack_head (w : World) (hT : Tab w) : Calls Tryd.prog 12 #[.agg #[.int .i64 4, .int .i64 9, .slice none 0 0, .int .u32 0, .int .i64 4]] w fun e w' => ∃ g, e = .returned (.tuple #[.slice (some ⟨g, 0, none⟩) 256 256, .int .i64 0]) ∧ w.heap.size ≤ g ∧ Row w' g (recBytes headR) [] ∧ Below w.heap.size w w' :=
  Pack_yes headR head_may (by decide) 0 none 0 w (Nat.zero_le _) (Ents.nil _ _ _) hT
theorem Pack_comm (w : World) : Calls Tryd.prog 12 #[.agg #[.int .i64 2, .int .i64 1, .slice (some ⟨w.heap.size, 0, none⟩) 1 1, .int .u32 0, .int .i64 0]] (w.alloc (.cells #[.int .i64 0, .bool false] 44)) fun e w' => e = .returned (.tuple #[.slice none 0 0, .int .i64 22]) ∧ Below (w.alloc (.cells #[.int .i64 0, .bool false] 44)).heap.size (w.alloc (.cells #[.int .i64 0, .bool false] 44)) w' := by
  refine Pack_no commR comm_may (w.heap.size + 1) (some ⟨w.heap.size, 0, none⟩) 1 _ (by simp) (fun i hi => ?_) (by decide)
  obtain rfl : i = 0 := by
    have : i < 1 := hi
    omega
  have h := row_new w (.cells #[.int .i64 0, .bool false] 44)
  exact ⟨_, rfl, by simp, (row_cell h 0).trans rfl, (row_cell h 1).trans rfl⟩
theorem Need_00 (w : World) : Calls Tryd.prog 7 #[.int .i64 0, .int .i64 0] w fun e w' => e = .returned (.int .i64 1) ∧ Below w.heap.size w w' := Need_any 0 0 (by decide) (by decide) w
theorem Need_48 (w : World) : Calls Tryd.prog 7 #[.int .i64 48, .int .i64 61] w fun e w' => e = .returned (.int .i64 52) ∧ Below w.heap.size w w' := Need_any 48 61 (by decide) (by decide) w
theorem Need_49 (w : World) : Calls Tryd.prog 7 #[.int .i64 49, .int .i64 0] w fun e w' => e = .returned (.int .i64 52) ∧ Below w.heap.size w w' := Need_any 49 0 (by decide) (by decide) w
set_option maxRecDepth 100000 in
set_option maxHeartbeats 4000000 in
theorem awake_any (w : World) (hT : Tab w) : Calls Tryd.prog 4 #[] w fun e w' => e = .returned (.bool true) ∧ Below w.heap.size w w' := by
  have HT := Lib.hid hT
  have htl := Tab.lt hT
  have hmk : ∀ w : World, (Instr.makeSlice 31 (.int .i64 256) (.int .i64 256)).run Tryd.prog w = .ok (.slice (some ⟨w.heap.size, 0, none⟩) 256 256) (w.alloc (.cells (zrow 256) 5)) := make_bytes 256 (by decide)
  clear hT
  go_enter Tryd.func4, Tryd.ntmps4
  have HE : Hid (Calls Tryd.prog 10 #[.slice (some ⟨w.heap.size, 0, none⟩) 5 5] (w.alloc (.cells #[.int .u8 73, .int .u8 82, .int .u8 89, .int .u8 72, .int .u8 7] 5)) fun e w' => ∃ v, e = .returned (.tuple #[v, .bool true]) ∧ WAny.Own w' (w.alloc (.cells #[.int .u8 73, .int .u8 82, .int .u8 89, .int .u8 72, .int .u8 7] 5)).heap.size v backL ∧ Below (w.alloc (.cells #[.int .u8 73, .int .u8 82, .int .u8 89, .int .u8 72, .int .u8 7] 5)).heap.size (w.alloc (.cells #[.int .u8 73, .int .u8 82, .int .u8 89, .int .u8 72, .int .u8 7] 5)) w') := Lib.hid (by
    have h := Escape_any markL _ (some ⟨w.heap.size, 0, none⟩) 5 (w.alloc (.cells #[.int .u8 73, .int .u8 82, .int .u8 89, .int .u8 72, .int .u8 7] 5)) (Nat.le_refl _) (by decide) (sl_of (row_new w _) rfl)
    rw [mark_yes, mark_esc] at h
    exact h)
  go_wp2_with fail
  refine HE.out.mono ?_
  rintro e w1 ⟨v1, rfl, hO1, hb1⟩
  have HB1 := Lib.hid (below_box_to hb1)
  obtain ⟨A1, c1, ev, hS1, _⟩ := hO1.sl
  rw [show backL.length = 5 from rfl] at ev
  subst ev
  have HS1 := Lib.hid hS1
  have hs1 := HB1.out.size
  clear hO1 hb1 hS1 HE
  go_wp2_with fail
  refine (Unpack_zero w1.heap.size _ (zrow_row w1 256) (Tab.below HT.out (HB1.out.alloc hs1 _) htl)).mono ?_
  rintro e w2 ⟨A2, c2, rfl, hb2⟩
  have HB2 := Lib.hid ((HB1.out.alloc hs1 _).trans (hb2.mono (by simp; omega)))
  have HS2 := Lib.hid ((HS1.out.below (below_box_to hb2)).up (by have := (below_box_to hb2).size; omega))
  have hs2 := HB2.out.size
  clear hb2
  have HC := Lib.hid (Pack_comm (w2.alloc (.cells #[.int .i64 0, .int .i64 0, .slice A2 0 c2, .int .u32 0, .int .i64 0] 38)))
  rw [World.size_alloc] at HC
  go_wp2_with fail
  refine HC.out.mono ?_
  rintro e w3 ⟨rfl, hb3⟩
  have HB3 := Lib.hid (((HB2.out.alloc hs2 _).alloc (by simp; omega) _).trans (hb3.mono (by simp; omega)))
  have HS3 := Lib.hid (((HS2.out.below (below_box _)).up (Nat.le_succ _)).below_le (below_box_to hb3) (by simp))
  have hs3 := HB3.out.size
  have hs23 : w2.heap.size + 1 ≤ w3.heap.size := by have := hb3.size; simp at this; omega
  clear hb3 HC
  go_wp2_with fail
  refine (Pack_head w3 (Tab.below HT.out HB3.out htl)).mono ?_
  rintro e w4 ⟨g4, rfl, hg4, hR4, hb4⟩
  have HB4 := Lib.hid (below_up HB3.out hb4 hs3)
  have HS4 := Lib.hid (HS3.out.below_le hb4 hs23)
  have HR4 := Lib.hid hR4
  have hs4 := HB4.out.size
  have hs34 := hb4.size
  clear hR4 hb4
  go_wp2_with fail
  refine (Unpack_head g4 w4 HR4.out (Tab.below HT.out HB4.out htl)).mono ?_
  rintro e w5 ⟨A5, c5, rfl, hb5⟩
  have HX5 := Lib.hid (Boxed.start w5 [.int .i64 4, .int .i64 9, .slice A5 0 c5, .int .u32 0, .int .i64 4] 38)
  have HB5 := Lib.hid (below_up HB4.out hb5 hs4)
  have HS5 := Lib.hid (HS4.out.below_le hb5 (Nat.le_trans hs23 hs34))
  have hs5 := HB5.out.size
  have hs45 := hb5.size
  clear hb5
  have HB6 := Lib.hid (HB5.out.alloc hs5 (.cells #[.int .i64 4, .int .i64 9, .slice A5 0 c5, .int .u32 0, .int .i64 4] 38))
  have HS6 := Lib.hid (HS5.out.below_le (below_box (.cells #[.int .i64 4, .int .i64 9, .slice A5 0 c5, .int .u32 0, .int .i64 4] 38)) (Nat.le_trans (Nat.le_trans hs23 hs34) hs45))
  have hs6 := HB6.out.size
  have hs56 : w2.heap.size + 1 ≤ (w5.alloc (.cells #[.int .i64 4, .int .i64 9, .slice A5 0 c5, .int .u32 0, .int .i64 4] 38)).heap.size := Nat.le_trans (Nat.le_trans (Nat.le_trans hs23 hs34) hs45) (by simp)
  go_wp2_with fail
  generalize (w5.alloc (.cells #[.int .i64 4, .int .i64 9, .slice A5 0 c5, .int .u32 0, .int .i64 4] 38)) = w6 at *
  refine (Need_00 w6).mono ?_
  rintro e w7 ⟨rfl, hb7⟩
  have HX7 := Lib.hid (HX5.out.go hb7)
  have HB7 := Lib.hid (below_up HB6.out hb7 hs6)
  have HS7 := Lib.hid (HS6.out.below_le hb7 hs56)
  have hs7 := HB7.out.size
  have hs57 := Nat.le_trans hs56 hb7.size
  clear hb7
  go_wp2_with fail
  refine (Need_48 w7).mono ?_
  rintro e w8 ⟨rfl, hb8⟩
  have HX8 := Lib.hid (HX7.out.go hb8)
  have HB8 := Lib.hid (below_up HB7.out hb8 hs7)
  have HS8 := Lib.hid (HS7.out.below_le hb8 hs57)
  have hs8 := HB8.out.size
  have hs58 := Nat.le_trans hs57 hb8.size
  clear hb8
  go_wp2_with fail
  refine (Need_49 w8).mono ?_
  rintro e w9 ⟨rfl, hb9⟩
  have HX9 := Lib.hid ((HX8.out.go hb9).alloc (.cells #[.int .u8 0, .int .u8 0, .int .u8 0, .int .u8 0, .int .u8 7] 5))
  have HB9 := Lib.hid ((below_up HB8.out hb9 hs8).alloc (below_up HB8.out hb9 hs8).size (.cells #[.int .u8 0, .int .u8 0, .int .u8 0, .int .u8 0, .int .u8 7] 5))
  have HS9 := Lib.hid ((HS8.out.below_le hb9 hs58).below_le (below_box (.cells #[.int .u8 0, .int .u8 0, .int .u8 0, .int .u8 0, .int .u8 7] 5)) (Nat.le_trans hs58 hb9.size))
  have HQ9 : Hid (Sl (w9.alloc (.cells #[.int .u8 0, .int .u8 0, .int .u8 0, .int .u8 0, .int .u8 7] 5)) (w9.alloc (.cells #[.int .u8 0, .int .u8 0, .int .u8 0, .int .u8 0, .int .u8 7] 5)).heap.size (some ⟨w9.heap.size, 0, none⟩) (backL.map u8v)) := Lib.hid (sl_of (row_new w9 _) rfl)
  clear hb9
  go_wp2_with fail
  generalize (w9.alloc (.cells #[.int .u8 0, .int .u8 0, .int .u8 0, .int .u8 0, .int .u8 7] 5)) = w10 at *
  refine (Same_at 5 5 backL rfl rfl _ _ A1 _ c1 5 w10 HS9.out HQ9.out (by decide)).mono ?_
  rintro e w' ⟨rfl, nd, rfl⟩
  obtain ⟨d0, d1, d2, d3, d4⟩ := (HX9.out.drewN nd).five
  have HBF : Hid (Below w.heap.size w (w10.drewN nd)) := Lib.hid (below_drewN HB9.out nd)
  generalize w10.drewN nd = w11 at *
  go_wp2
  go_ret
  exact ⟨rfl, HBF.out⟩
end Go.Proofs.YtkkcipjlinfieaaDoor.JAwake
