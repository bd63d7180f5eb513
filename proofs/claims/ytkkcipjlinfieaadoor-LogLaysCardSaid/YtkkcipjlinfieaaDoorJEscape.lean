/- Escape, Unescape, and bytes.Clone. -/
import Derived.Test.YtkkcipjlinfieaaDoorJMem
import Derived.Test.YtkkcipjlinfieaaDoorWAny
import Derived.Test.YtkkcipjlinfieaaDoorWFace2
import Derived.WalkKit
import Derived.WalkSpells
import Derived.WalkLawsBesides
import Derived.Handy
import Derived.Outline
import Derived.Lib.SliceRun
namespace Go.Proofs.YtkkcipjlinfieaaDoor.JEscape
open Go.RowKit WMem WPlain WAppend WHelp WAny WFace2 JPlain JMem

set_option maxHeartbeats 1000000 in
theorem Clone_any (l : List UInt8) (B : Nat) (A : Option Addr) (c : Nat) (w : World) (hB : B ≤ w.heap.size) (hl : l.length ≤ 140737488351232) (hA : Sl w B A (l.map u8v)) :
    Calls Tryd.prog 25 #[.slice A l.length c] w fun e w' => ∃ v, e = .returned v ∧ WAny.Own w' w.heap.size v l ∧ Below w.heap.size w w' := by
  cases A with
  | none =>
    obtain rfl : l = [] := by
      cases l with
      | nil => rfl
      | cons x l => obtain ⟨a, h, _⟩ := hA 0 (u8v x) (by simp); cases h
    clear hA
    have hnil : ∀ w : World, (binOp .eql 31 (.slice none 0 c) (.slice none 0 0)).run Tryd.prog w = .ok (.bool true) w := fun w => Lib.run_eql_slice_nil (P := Tryd.prog) w 31 5 none 0 c 0 0 (by kernel_rfl)
    simp only [List.length_nil]
    go_enter Tryd.func25, Tryd.ntmps25
    go_wp2
    go_ret
    exact ⟨_, rfl, .inl ⟨rfl, rfl⟩, Below.refl _ _⟩
  | some a =>
    have HS : Hid (Sl (w.alloc (.cells #[] 5)) B (some a) (l.map u8v)) := Lib.hid (hA.keep fun q hq => World.cell?_alloc_lt w _ q (by omega))
    have HO : Hid ((w.alloc (.cells #[] 5)).ownsRow w.heap.size 5 1 (.slice (some ⟨w.heap.size, 0, none⟩) 0 0) 0 []) := Lib.hid (World.ownsRow_made w #[] 0 (Nat.le_refl _) (by decide) rfl)
    clear hA
    have hnil : ∀ w : World, (binOp .eql 31 (.slice (some a) l.length c) (.slice none 0 0)).run Tryd.prog w = .ok (.bool false) w := fun w => Lib.run_eql_slice_nil (P := Tryd.prog) w 31 5 (some a) l.length c 0 0 (by kernel_rfl)
    go_enter Tryd.func25, Tryd.ntmps25
    go_wp2_with (at_builtin; go_loud (refine wl_append rfl (.tmp 5) (.tmp 6) 31 rfl w.heap.size 5 1 elem8 (.slice (some ⟨w.heap.size, 0, none⟩) 0 0) 0 [] rfl HO.out B (some a) l.length c (l.map u8v) rfl (by simp) HS.out (one_u8 l) (by omega) (by unfold maxLen; omega) (by simp) ?_); intro v' w2 h1 h2 h3)
    rw [List.nil_append, Nat.zero_add] at h1
    have HO1 := Lib.hid (Own.of_row h1)
    have HB := Lib.hid (((Below.refl w.heap.size w).alloc (Nat.le_refl _) (.cells #[] 5)).grown h2 (by simp) (fun k hk => by simp [Value.ownBlock] at hk; omega))
    clear h1 h2 h3
    go_ret
    exact ⟨_, rfl, HO1.out, HB.out⟩
/-- do bytes begin with the mark? -/
def marked (l : List UInt8) : Bool := decide (4 ≤ l.length) && (getX l 0 4 == 1213813321)
def escL (l : List UInt8) : List UInt8 := if marked l = true then [0, 0, 0, 0] ++ l.drop 4 else l
theorem escL_len (l : List UInt8) : (escL l).length = l.length := by
  unfold escL
  split
  · rename_i h
    simp only [marked, Bool.and_eq_true] at h
    have := of_decide_eq_true h.1
    simp
    omega
  · rfl
theorem getE_0 (l : List UInt8) : getE l 0 4 = if 4 ≤ l.length then 0 else 22 := by
  unfold getE
  by_cases h : 4 ≤ l.length
  · rw [if_pos h, if_pos ⟨by omega, by omega, by omega, by omega⟩]
  · rw [if_neg h, if_neg (fun h' => h (by have := h'.2.2.2; omega))]
set_option maxHeartbeats 2000000 in
theorem Escape_no (l : List UInt8) (hm : marked l = false) (B : Nat) (A : Option Addr) (c : Nat) (w : World) (hB : B ≤ w.heap.size) (hl : l.length ≤ 140737488351232) (hA : Sl w B A (l.map u8v)) :
    Calls Tryd.prog 10 #[.slice A l.length c] w fun e w' => ∃ v, e = .returned (.tuple #[v, .bool false]) ∧ WAny.Own w' w.heap.size v l ∧ Below w.heap.size w w' := by
  have HC := Lib.hid (Clone_any l B A c w hB hl hA)
  have HA := Lib.hid hA
  clear hA
  by_cases h4 : 4 ≤ l.length
  · have hx : ((getX l 0 4 : Nat) : Int) ≠ 1213813321 := by
      simp only [marked, h4, decide_true, Bool.true_and, beq_eq_false_iff_ne] at hm
      omega
    have d1 : (((getX l 0 4 : Nat) : Int) != 1213813321) = true := by rw [bne_iff_ne]; exact hx
    have HE : Hid (getE l 0 4 = 0) := Lib.hid (by rw [getE_0, if_pos h4])
    generalize hX : getX l 0 4 = X at *
    have HXX := Lib.hid hX
    clear hX hx hm
    go_enter Tryd.func10, Tryd.ntmps10
    go_wp2_with fail
    refine HC.out.mono ?_
    rintro e w1 ⟨v, rfl, hO, hb⟩
    have HO := Lib.hid hO
    have HB := Lib.hid hb
    have hs := hb.size
    clear hO hb
    go_wp2_with fail
    refine (Get_any l B A c 0 4 w1 (by omega) (HA.out.below_le HB.out hB) (by omega)).mono ?_
    rintro e w2 ⟨rfl, hb2⟩
    rw [HXX.out, HE.out]
    have HO2 := Lib.hid (HO.out.keep hb2)
    have HB2 := Lib.hid (below_up HB.out hb2 hs)
    clear hb2
    go_wp2
    go_ret2
    exact ⟨v, rfl, HO2.out, HB2.out⟩
  · have HE : Hid (getE l 0 4 = 22) := Lib.hid (by rw [getE_0, if_neg h4])
    clear hm h4
    go_enter Tryd.func10, Tryd.ntmps10
    go_wp2_with fail
    refine HC.out.mono ?_
    rintro e w1 ⟨v, rfl, hO, hb⟩
    have HO := Lib.hid hO
    have HB := Lib.hid hb
    have hs := hb.size
    clear hO hb
    go_wp2_with fail
    refine (Get_any l B A c 0 4 w1 (by omega) (HA.out.below_le HB.out hB) (by omega)).mono ?_
    rintro e w2 ⟨rfl, hb2⟩
    rw [HE.out]
    have HO2 := Lib.hid (HO.out.keep hb2)
    have HB2 := Lib.hid (below_up HB.out hb2 hs)
    clear hb2
    go_wp2
    go_ret2
    exact ⟨v, rfl, HO2.out, HB2.out⟩
theorem zero8 (w : World) : (zeroValue 5).run Tryd.prog w = .ok (.int .u8 0) w := by kernel_rfl
theorem sets4 : ∀ (l : List UInt8), 4 ≤ l.length → (((l.set 0 0).set 1 0).set 2 0).set 3 0 = [0, 0, 0, 0] ++ l.drop 4
  | a :: b :: c :: d :: r, _ => rfl
  | [], h => absurd h (by decide)
  | [_], h => absurd h (by simp)
  | [_, _], h => absurd h (by simp)
  | [_, _, _], h => absurd h (by simp)
theorem Row.zero {w : World} {g : Nat} {l : List UInt8} {rest : List Value} (h : Row w g l rest) {i : Nat} (hi : i < l.length) : Row (w.setCell ⟨g, i, none⟩ (.int .u8 0)) g (l.set i 0) rest := by
  have h1 := h.set hi 0
  exact h1
theorem cells4 (w : World) (g : Nat) (v : Value) : w.setCells g 0 [v, v, v, v] = (((w.setCell ⟨g, 0, none⟩ v).setCell ⟨g, 1, none⟩ v).setCell ⟨g, 2, none⟩ v).setCell ⟨g, 3, none⟩ v := by
  simp only [World.setCells]
theorem four_zeros {w : World} {g : Nat} {l : List UInt8} {rest : List Value} (h : Row w g l rest) (h4 : 4 ≤ l.length) : Row (w.setCells g 0 [.int .u8 0, .int .u8 0, .int .u8 0, .int .u8 0]) g ([0, 0, 0, 0] ++ l.drop 4) rest ∧ w.grownBy (w.setCells g 0 [.int .u8 0, .int .u8 0, .int .u8 0, .int .u8 0]) (some g) := by
  rw [cells4, ← sets4 l h4]
  refine ⟨?_, grown_set (grown_set (grown_set (grown_set (grown_refl _ _) 0 _) 1 _) 2 _) 3 _⟩
  have h1 := Row.zero h (i := 0) (by omega)
  have h2 := Row.zero h1 (i := 1) (by rw [List.length_set]; omega)
  have h3 := Row.zero h2 (i := 2) (by rw [List.length_set, List.length_set]; omega)
  exact Row.zero h3 (i := 3) (by rw [List.length_set, List.length_set, List.length_set]; omega)
theorem clear4 {w : World} {g cap : Nat} {l : List UInt8} {rest : List Value} (h : Row w g l rest) (h4 : 4 ≤ l.length) (ty : TypeId) : (Builtin.clear_ #[31] ty #[.slice (some ⟨g, 0, none⟩) 4 cap]).run Tryd.prog w = .ok (.tuple #[]) (w.setCells g 0 [.int .u8 0, .int .u8 0, .int .u8 0, .int .u8 0]) :=
  Lib.run_clear_slice w 31 5 ty (.int .u8 0) (by kernel_rfl) zero8 rfl rfl g 0 4 cap (by decide) (fun j hj => by rw [Nat.zero_add, h.cell (i := j) (by omega)]; rfl) (fun j hj => by rw [Nat.zero_add]; exact h.free j)
theorem under8 : Tryd.prog.underlying 31 = some (.slice 5) := by kernel_rfl
set_option maxRecDepth 100000 in
set_option maxHeartbeats 2000000 in
theorem Escape_yes (l : List UInt8) (hm : marked l = true) (B : Nat) (A : Option Addr) (c : Nat) (w : World) (hB : B ≤ w.heap.size) (hl : l.length ≤ 140737488351232) (hA : Sl w B A (l.map u8v)) :
    Calls Tryd.prog 10 #[.slice A l.length c] w fun e w' => ∃ v, e = .returned (.tuple #[v, .bool true]) ∧ WAny.Own w' w.heap.size v (escL l) ∧ Below w.heap.size w w' := by
  have HC := Lib.hid (Clone_any l B A c w hB hl hA)
  have HA := Lib.hid hA
  have HEL : Hid (escL l = [0, 0, 0, 0] ++ l.drop 4) := Lib.hid (by simp [escL, hm])
  simp only [marked, Bool.and_eq_true, beq_iff_eq] at hm
  have h4 := of_decide_eq_true hm.1
  have HX := Lib.hid hm.2
  have HE : Hid (getE l 0 4 = 0) := Lib.hid (by rw [getE_0, if_pos h4])
  clear hA hm
  go_enter Tryd.func10, Tryd.ntmps10
  go_wp2_with fail
  refine HC.out.mono ?_
  rintro e w1 ⟨v, rfl, hO, hb⟩
  have HB := Lib.hid hb
  have hs := hb.size
  clear hb
  obtain ⟨g, cap, rest, rfl, hg, hcap, hR⟩ : ∃ g cap rest, v = .slice (some ⟨g, 0, none⟩) l.length cap ∧ w.heap.size ≤ g ∧ l.length ≤ cap ∧ Row w1 g l rest := by
    rcases hO with ⟨_, rfl⟩ | h
    · simp at h4
    · exact h
  have HR := Lib.hid hR
  have hgl := hR.lt
  clear hO hR
  go_wp2_with fail
  refine (Get_any l B A c 0 4 w1 (by omega) (HA.out.below_le HB.out hB) (by omega)).mono ?_
  rintro e w2 ⟨rfl, hb2⟩
  rw [HX.out, HE.out]
  have HR2 := Lib.hid (HR.out.keep hb2 hgl)
  have HB2 := Lib.hid (below_up HB.out hb2 hs)
  have i4 : (4 : Int) ≤ (cap : Int) := by omega
  have i5 : 4 ≤ cap := by omega
  have hcl := fun ty => clear4 (cap := cap) HR2.out h4 ty
  have h4z := four_zeros HR2.out h4
  have HZ := Lib.hid h4z.1
  have HG := Lib.hid (HB2.out.grown h4z.2 HB2.out.size (fun q hq => by injection hq with hq; omega))
  have HOW : Hid (WAny.Own (w2.setCells g 0 [.int .u8 0, .int .u8 0, .int .u8 0, .int .u8 0]) w.heap.size (.slice (some ⟨g, 0, none⟩) l.length cap) (escL l)) := Lib.hid (by
    have hlen := escL_len l
    rw [HEL.out] at hlen ⊢
    refine .inr ⟨g, cap, rest, ?_, hg, ?_, HZ.out⟩
    · rw [hlen]
    · rw [hlen]; exact hcap)
  clear hb2 h4z HZ
  go_wp2
  generalize w2.setCells g 0 [.int .u8 0, .int .u8 0, .int .u8 0, .int .u8 0] = w3 at *
  go_ret2
  exact ⟨.slice (some ⟨g, 0, none⟩) l.length cap, rfl, HOW.out, HG.out⟩
theorem Escape_any (l : List UInt8) (B : Nat) (A : Option Addr) (c : Nat) (w : World) (hB : B ≤ w.heap.size) (hl : l.length ≤ 140737488351232) (hA : Sl w B A (l.map u8v)) :
    Calls Tryd.prog 10 #[.slice A l.length c] w fun e w' => ∃ v, e = .returned (.tuple #[v, .bool (marked l)]) ∧ WAny.Own w' w.heap.size v (escL l) ∧ Below w.heap.size w w' := by
  cases hm : marked l with
  | false =>
    have e : escL l = l := by simp [escL, hm]
    rw [e]
    exact Escape_no l hm B A c w hB hl hA
  | true => exact Escape_yes l hm B A c w hB hl hA
end Go.Proofs.YtkkcipjlinfieaaDoor.JEscape
