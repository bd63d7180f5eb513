/- One claim is taken out of a row: the library's slices.Delete at rows of claims. -/
import Derived.Test.YtfaahhipddlmgaaKMem
import Derived.Deep.RegionLaw
import Derived.Deep.AppendLies
import Derived.Lib.SliceRun
import Derived.Lib.Walk
import Derived.Shelf.RegionOpenPlain
import Derived.WalkKit
import Derived.ProofKit
namespace Go.Proofs.Ytfaahhipddlmgaa.KDel
open Go.RowKit WMem Ext KMap KPlain KMem

theorem infoK : (Try.prog.info? 63).map (fun i => (i.zero, i.size, i.bytes)) = some (some (.agg #[.int .i64 0, .bool false]), 2, 16) := by kernel_rfl
theorem underK : Try.prog.underlying 61 = some (.slice 63) := by kernel_rfl

/-- the last element is cleared -/
theorem run_clear_one (w : World) (ty : TypeId) (b o c : Nat) (hc : ∀ j, j < 2 → (w.cell? ⟨b, o + j, none⟩).isSome = true) (hf : ∀ j, j < 2 → w.frozen? ⟨b, o + j, none⟩ = false) :
    (Builtin.clear_ #[61] ty #[.slice (some ⟨b, o, none⟩) 1 c]).run Try.prog w = .ok (.tuple #[]) (w.setCells b o [.int .i64 0, .bool false]) := by
  have hst := run_storeCells_cells (P := Try.prog) b o [.int .i64 0, .bool false] 0 w (by simpa using hc) (by simpa using hf) (by simp [Value.oneCell'])
  simp only [Nat.add_zero] at hst
  have hz : (Builtin.zeroCells #[Value.int .i64 0, .bool false] 1).toList = [.int .i64 0, .bool false] := by
    simp [Builtin.zeroCells]
    rfl
  simp [Builtin.clear_, run_underlying underK, Value.cells, hz, hst]

/-- what stands behind the claim -/
structure DelFacts (w : World) (g i r cap : Nat) (A : Addr) (news : List Value) (W1 : World) : Prop where
  len : news.length = r * 2
  src : ∀ t u, news[t]? = some u → w.drew.cell? (A.add t) = some u
  one : ∀ u ∈ news, u.oneCell' = true
  room : i + r ≤ cap
  spare : ∀ t, t < news.length → (w.drew.cell? ⟨g, 0 + i * 2 + t, none⟩).isSome = true ∧ w.drew.frozen? ⟨g, 0 + i * 2 + t, none⟩ = false
  world : w.drew.setCells g (0 + i * 2) news = W1
  clear : ∀ ty, (Builtin.clear_ #[61] ty #[.slice (some ⟨g, (i + r) * 2, none⟩) (i + 1 + r - (i + r)) (cap - (i + r))]).run Try.prog W1 = .ok (.tuple #[]) (W1.setCells g ((i + r) * 2) [.int .i64 0, .bool false])

set_option maxRecDepth 100000 in
set_option maxHeartbeats 2000000 in
theorem Delete_walk (g i r cap : Nat) (A : Addr) (news : List Value) (w W1 : World) (_hn : i + 1 + r ≤ 1073741824) (hcap : i + 1 + r ≤ cap) (_hcm : cap ≤ maxLen) (hf : DelFacts w g i r cap A news W1)
    (hA : (if cap = i + 1 then some (⟨g, 0, none⟩ : Addr) else some ⟨g, (i + 1) * 2, none⟩) = some A) :
    Calls Try.prog 26 #[.slice (some ⟨g, 0, none⟩) (i + 1 + r) cap, .int .i64 i, .int .i64 (i + 1)] w fun e w' =>
      e = .returned (.slice (some ⟨g, 0, none⟩) (i + r) cap) ∧ w' = W1.setCells g ((i + r) * 2) [.int .i64 0, .bool false] := by
  obtain ⟨i0, hi0, hz0, hz1, hz2⟩ := info_parts infoK
  have HF := Lib.hid hf
  clear hf
  have hic : i ≤ cap := by omega
  have hjc : i + 1 ≤ cap := by omega
  have hk0 : (0 : Int) ≤ (i : Int) + 1 := by omega
  have hk1 : (i : Int) + 1 ≤ (i : Int) + 1 + (r : Int) := by omega
  have hjn : i + 1 + r - (i + 1) = r := by omega
  go_enter Try.func26, Try.ntmps26
  go_wp2_with fail
  go_region_law (refine step_append_room rfl (.tmp 22) (.tmp 25) 61 rfl 63 i0 2 underK hi0 hz1 g 0 i cap (by simp [Act.eval, Act.put]) A r (cap - (i + 1)) news (by simp [Act.eval, Act.put]) HF.out.len HF.out.src HF.out.one HF.out.room HF.out.spare ?_; rw [HF.out.world])
  have hcl := HF.out.clear
  go_wp2
  go_ret
  exact ⟨rfl, rfl⟩

/-- a row, some cells of which are written anew -/
theorem set_row {g : Nat} {T : TypeId} : ∀ (vs : List Value) (o : Nat) (w : World) (P B C : List Value), w.heap[g]? = some (.cells (P ++ (B ++ C)).toArray T (0, 0)) → P.length = o → B.length = vs.length →
    (w.setCells g o vs).heap[g]? = some (.cells (P ++ (vs ++ C)).toArray T (0, 0))
  | [], o, _, P, B, C, h, _, hB => by
    rw [List.length_eq_zero_iff.1 hB] at h
    exact h
  | v :: r, o, w, P, B, C, h, hP, hB => by
    cases B with
    | nil => cases hB
    | cons b B =>
      have h1 := row_set h o v
      have e : ((P ++ (b :: B ++ C)).toArray.setIfInBounds o v) = ((P ++ [v]) ++ (B ++ C)).toArray := by
        rw [List.setIfInBounds_toArray, ← hP, List.set_append_right _ _ (Nat.le_refl _), Nat.sub_self]
        simp
      rw [e] at h1
      have h2 := set_row r (o + 1) (w.setCell ⟨g, o, none⟩ v) (P ++ [v]) B C h1 (by simp [hP]) (by simpa using hB)
      simpa [World.setCells] using h2
theorem set_grown {a : World} {g : Nat} : ∀ (vs : List Value) (o : Nat) (w : World), a.grownBy w (some g) → a.grownBy (w.setCells g o vs) (some g)
  | [], _, _, h => h
  | v :: r, o, _, h => set_grown r (o + 1) _ (grown_set h o v)
theorem drew_grown (w : World) (row : Option Nat) : w.grownBy w.drew row := ⟨rfl, rfl, rfl, Nat.le_refl _, fun _ _ _ => rfl⟩

theorem addr_off (g o t : Nat) : (⟨g, o, none⟩ : Addr).add t = ⟨g, o + t, none⟩ := by
  unfold Addr.add
  split
  · rename_i h; rw [h]; rfl
  · rfl

/-- a claim is taken out of a row -/
theorem Delete_own (g i cap : Nat) (l : List Cl) (w : World) (hi : i < l.length) (hn : l.length ≤ 1073741824) (ho : w.ownsRow 0 63 2 (.slice (some ⟨g, 0, none⟩) l.length cap) l.length (cells l)) :
    Calls Try.prog 26 #[.slice (some ⟨g, 0, none⟩) l.length cap, .int .i64 i, .int .i64 (i + 1)] w fun e w' =>
      e = .returned (.slice (some ⟨g, 0, none⟩) (l.length - 1) cap) ∧ w'.ownsRow 0 63 2 (.slice (some ⟨g, 0, none⟩) (l.length - 1) cap) (l.length - 1) (cells (l.take i ++ l.drop (i + 1))) ∧ w.grownBy w' (some g) := by
  obtain ⟨r, hr⟩ : ∃ r, l.length = i + 1 + r := ⟨l.length - (i + 1), by omega⟩
  rcases ho.2 with ⟨h0, _⟩ | ⟨g', cap', cur, hv, _, hg, hnc, hcm, hcs, htk⟩
  · cases h0
  simp only [Value.slice.injEq, Option.some.injEq, Addr.mk.injEq] at hv
  obtain ⟨⟨rfl, -⟩, -, rfl⟩ := hv
  -- the row in its parts
  obtain ⟨C, hC⟩ : ∃ C, C = cur.toList.drop (l.length * 2) := ⟨_, rfl⟩
  have hcur : cur = (cells (l.take i) ++ (cells [l[i]] ++ (cells (l.drop (i + 1)) ++ C))).toArray := by
    apply Array.ext'
    rw [← List.take_append_drop (l.length * 2) cur.toList, htk, ← hC]
    simp only [← List.append_assoc, ← cells_append]
    congr 2
    rw [List.append_assoc, List.singleton_append, ← List.drop_eq_getElem_cons hi, List.take_append_drop]
  have lP : (cells (l.take i)).length = i * 2 := by rw [cells_len, List.length_take]; congr 1; omega
  have lN : (cells (l.drop (i + 1))).length = r * 2 := by rw [cells_len, List.length_drop]; congr 1; omega
  have lX : (cells [l[i]]).length = 2 := by rw [cells_len]; rfl
  obtain ⟨N, hN⟩ : ∃ N, N = cells (l.drop (i + 1)) := ⟨_, rfl⟩
  obtain ⟨X, hX⟩ : ∃ X, X = cells [l[i]] := ⟨_, rfl⟩
  obtain ⟨P, hP⟩ : ∃ P, P = cells (l.take i) := ⟨_, rfl⟩
  rw [← hN] at lN hcur
  rw [← hX] at lX hcur
  rw [← hP] at lP hcur
  have hg0 : w.drew.heap[g]? = some (.cells (P ++ (X ++ (N ++ C))).toArray 63 (0, 0)) := by rw [← hcur]; exact hg
  -- what is written first
  obtain ⟨D, hD, lD⟩ : ∃ D, X ++ N = (X ++ N).take N.length ++ D ∧ D.length = 2 := ⟨_, (List.take_append_drop _ _).symm, by simp [lX]⟩
  have hg1 : w.drew.heap[g]? = some (.cells (P ++ ((X ++ N).take N.length ++ (D ++ C))).toArray 63 (0, 0)) := by
    rw [hg0, ← List.append_assoc X, hD, List.append_assoc, ← hD]
  have hw1 := set_row N (0 + i * 2) w.drew P ((X ++ N).take N.length) (D ++ C) hg1 (by omega) (by simp)
  have hg1' := hw1
  rw [show P ++ (N ++ (D ++ C)) = (P ++ N) ++ (D ++ C) by simp] at hg1'
  have hw2 := set_row [.int .i64 0, .bool false] ((i + r) * 2) _ (P ++ N) D C hg1' (by rw [List.length_append, lP, lN]; omega) (by rw [lD]; rfl)
  have hA : ∃ A, (if cap = i + 1 then some (⟨g, 0, none⟩ : Addr) else some ⟨g, (i + 1) * 2, none⟩) = some A ∧ ∀ t u, N[t]? = some u → w.drew.cell? (A.add t) = some u := by
    by_cases hc : cap = i + 1
    · refine ⟨_, by rw [if_pos hc], fun t u hu => ?_⟩
      have h0 : N.length = 0 := by omega
      rw [List.length_eq_zero_iff.1 h0] at hu
      simp at hu
    · refine ⟨_, by rw [if_neg hc], fun t u hu => ?_⟩
      have ht := (List.getElem?_eq_some_iff.1 hu).1
      rw [addr_off, row_cell hg0, List.getElem?_toArray, List.getElem?_append_right (by omega), List.getElem?_append_right (by omega), List.getElem?_append_left (by omega), show (i + 1) * 2 + t - P.length - X.length = t by omega]
      exact hu
  obtain ⟨A, hA, hsrc⟩ := hA
  have hall : cap * 2 = (P ++ (X ++ (N ++ C))).length := by rw [← hcs, hcur]; rfl
  have hf : DelFacts w g i r cap A N (w.drew.setCells g (0 + i * 2) N) := by
    refine ⟨lN, hsrc, ?_, by omega, fun t ht => ⟨?_, row_free hg0 _⟩, rfl, fun ty => ?_⟩
    · rw [hN]; exact cells_flat _
    · rw [row_cell hg0, List.getElem?_toArray, List.getElem?_eq_getElem (by simp only [List.length_append] at hall ⊢; omega)]
      rfl
    · rw [show i + 1 + r - (i + r) = 1 by omega]
      refine run_clear_one _ _ _ _ _ (fun j hj => ?_) (fun j hj => row_free hw1 _)
      rw [row_cell hw1, List.getElem?_toArray, List.getElem?_eq_getElem (by simp only [List.length_append, lP, lN, lD]; omega)]
      rfl
  rw [hr]
  refine (Delete_walk g i r cap A N w _ (by omega) (by omega) hcm hf hA).mono ?_
  rintro e w' ⟨rfl, rfl⟩
  have hlen : (l.take i ++ l.drop (i + 1)).length = i + r := by simp; omega
  refine ⟨by rw [show i + 1 + r - 1 = i + r by omega], ⟨by rw [cells_len, hlen]; omega, .inr ⟨g, cap, _, by rw [show i + 1 + r - 1 = i + r by omega], Nat.zero_le _, hw2, by omega, hcm, ?_, ?_⟩⟩, set_grown _ _ _ (set_grown _ _ _ (drew_grown w _))⟩
  · rw [List.size_toArray, hall]
    simp only [List.length_append, lX, List.length_cons, List.length_nil]
    omega
  · rw [cells_append, ← hP, ← hN]
    have hl2 : (P ++ N).length = (i + 1 + r - 1) * 2 := by rw [List.length_append, lP, lN]; omega
    rw [← hl2]
    exact List.take_left
end Go.Proofs.Ytfaahhipddlmgaa.KDel
