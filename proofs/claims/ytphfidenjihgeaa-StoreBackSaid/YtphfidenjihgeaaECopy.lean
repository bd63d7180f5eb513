/- maps.Copy: all entries of one map laid into another one. -/
import Derived.Test.YtphfidenjihgeaaEMap
import Derived.WalkKit
import Derived.Maps.Ext
import Derived.Maps.RangeWalk
namespace Go.Proofs.Ytphfidenjihgeaa.ECopy
open Go.RowKit WMem Map Ext

/-- f2's entries laid over f1's -/
def over (f1 f2 : Int → Option Value) : Int → Option Value := fun k => match f2 k with
  | some v => some v
  | none => f1 k
theorem MapIs_congr {w : World} {b n : Nat} {f g : Int → Option Value} (h : MapIs w b n f) (he : ∀ k, Fits k → f k = g k) : MapIs w b n g := by
  obtain ⟨D, ho, hf⟩ := h
  exact ⟨D, ho, fun k hk => by rw [← he k hk]; exact hf k hk⟩

set_option maxRecDepth 100000 in
set_option maxHeartbeats 1000000 in
theorem Copy_any (b1 b2 n1 n2 : Nat) (f1 f2 : Int → Option Value) (w : World) (h1 : MapIs w b1 n1 f1) (h2 : MapIs w b2 n2 f2) (hne : b1 ≠ b2) (hn : n1 + n2 ≤ 1073741824) :
    Calls Try.prog 43 #[.map (some b1), .map (some b2)] w fun e w' =>
      e = .returned (.tuple #[]) ∧ MapIs w' b1 (n1 + n2) (over f1 f2) ∧ MapIs w' b2 n2 f2 ∧ w.grownBy w' (some b1) := by
  have l1 := h1.lt
  have l2 := h2.lt
  have H1 := Lib.hid h1
  have H2 := Lib.hid h2
  clear h1 h2
  go_enter Try.func43, Try.ntmps43
  go_wp2_with (at_range; refine wl_range _ rfl _ rfl b2 n2 f2 rfl H2.out ?_; intro w0 left0 cnt0 hrg0 hl0 hc0 hg0 hs0)
  go_frame
  have hm0 := H1.out.keep (hg0.block b1 l1 (by simp))
  have HL0 := Lib.hid hl0
  have HR0 := Lib.hid hrg0
  have HM0 := Lib.hid hm0
  have HB0 : Hid (w.grownBy w0 (some b1)) := hg0.but _
  clear hl0 hrg0 hm0 hg0 hs0
  go_loopw [8] (fun _ wr => ∃ (left : Lit → Bool) (cnt n : Nat) (g : Int → Option Value), RangeIs wr b2 w.heap.size n2 f2 left cnt ∧ MapIs wr b1 n g ∧ n + cnt ≤ n1 + n2 ∧
      (∀ k, Fits k → g k = if left (.int .i64 k) then f1 k else over f1 f2 k) ∧ w.grownBy wr (some b1))
    (fun _ wr => wr.rangeLeft b2 w.heap.size)
  case atStart => exact ⟨left0, cnt0, n1, f1, HR0.out, HM0.out, by omega, (fun k hk => by
    rw [HL0.out k hk]
    unfold over
    cases f2 k <;> simp), HB0.out⟩
  case round =>
    obtain ⟨left, cnt, n, g, hrg, hmo, hcn, hgk, hB⟩ := hrel
    have HRG := Lib.hid hrg
    have HMO := Lib.hid hmo
    have HGK := Lib.hid hgk
    have HB := Lib.hid hB
    clear hrg hmo hgk hB
    go_wp2_with (at_next; refine wl_next _ rfl _ rfl b2 w.heap.size n2 f2 left cnt rfl HRG.out ?_ ?_)
    · intro hl
      have HLL := Lib.hid hl
      clear hl
      go_wp2
      go_end0
      exact ⟨rfl, MapIs_congr (HMO.out.mono (by omega)) (fun k hk => by rw [HGK.out k hk, HLL.out k]; rfl), HRG.out.map, HB.out⟩
    · intro x v w1 cnt1 hfx hfv hrg1 hlt hg1 hs1 hen
      have hmo1 := HMO.out.keep (hg1.block b1 HMO.out.lt (fun e => by injection e; omega))
      obtain ⟨w3, hrun, hmo3, hturn⟩ := hmo1.store hfx (by unfold maxLen; omega) v
      have HR1 := Lib.hid hrg1
      have HMO3 := Lib.hid hmo3
      have HT := Lib.hid hturn
      have HG1 := Lib.hid hg1
      have HFV := Lib.hid hfv
      clear hrg1 hmo3 hturn hmo1 hg1 hs1 hfv
      go_wp2
      have hr3 : RangeIs w3 b2 w.heap.size n2 f2 (fun z => left z && !z.sameKey (.int .i64 x)) cnt1 := HR1.out.keep (HT.out.grown.block _ HR1.out.map.lt (fun e => hne (by injection e with e; exact e.symm))) (HT.out.grown.block _ HR1.out.lt (fun e => by injection e; omega))
      go_roundw
      case rel =>
        refine ⟨_, cnt1, n + 1, _, hr3, HMO3.out, by omega, fun k hk => ?_, (HB.out.andThen HG1.out (fun j hj => .inl (by cases hj; exact Nat.le_refl _))).andThen HT.out.grown (fun j hj => .inr hj)⟩
        unfold upd
        by_cases e : k = x
        · subst e
          simp [Lit.sameKey, over, HFV.out]
        · rw [if_neg e, HGK.out k hk]
          simp [Lit.sameKey, e]
      case measure => rw [hr3.left_eq, HRG.out.left_eq]; exact hlt
end Go.Proofs.Ytphfidenjihgeaa.ECopy
