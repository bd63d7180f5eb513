/- Elements are taken out of a row: the library's slices.Delete at rows of ints. -/
import Derived.Test.YtgjcbfdhpbkhoaaGreatDoorMg29
import Derived.Test.YtgjcbfdhpbkhoaaGreatDoorMg8
import Derived.Deep.RegionLaw
import Derived.Deep.AppendLies
import Derived.Lib.SliceRun
import Derived.Lib.Walk
import Derived.Shelf.RegionOpenPlain
import Derived.WalkKit
import Derived.ProofKit
namespace Go.Proofs.YtgjcbfdhpbkhoaaGreatDoor.EDelI
open Go.RowKit WMem Ext DMem
theorem infoE : (Tryz.prog.info? 3).map (fun i => (i.zero, i.size, i.bytes)) = some (some (.int .i64 0), 1, 8) := by kernel_rfl
theorem underE : Tryz.prog.underlying 50 = some (.slice 3) := by kernel_rfl
theorem zeroE (w : World) : (zeroValue 3).run Tryz.prog w = .ok (.int .i64 0) w := by kernel_rfl
structure DelFacts (w : World) (g i d r cap : Nat) (A : Addr) (news : List Value) (W1 : World) : Prop where
  len : news.length = r * 1
  src : ∀ t u, news[t]? = some u → w.drew.cell? (A.add t) = some u
  one : ∀ u ∈ news, u.oneCell' = true
  room : i + r ≤ cap
  spare : ∀ t, t < news.length → (w.drew.cell? ⟨g, 0 + i * 1 + t, none⟩).isSome = true ∧ w.drew.frozen? ⟨g, 0 + i * 1 + t, none⟩ = false
  world : w.drew.setCells g (0 + i * 1) news = W1
  clear : ∀ ty, (Builtin.clear_ #[50] ty #[.slice (some ⟨g, i + r, none⟩) (i + d + r - (i + r)) (cap - (i + r))]).run Tryz.prog W1 = .ok (.tuple #[]) (W1.setCells g (i + r) (List.replicate d (.int .i64 0)))
set_option maxRecDepth 100000 in
set_option maxHeartbeats 2000000 in
theorem Delete_walk (g i d r cap : Nat) (j : Int) (hj : j = (i : Int) + (d : Int)) (hd : 1 ≤ d) (A : Addr) (news : List Value) (w W1 : World) (_hn : i + d + r ≤ 1073741824) (hcap : i + d + r ≤ cap) (_hcm : cap ≤ maxLen) (hf : DelFacts w g i d r cap A news W1)
    (hA : (if cap = i + d then some (⟨g, 0, none⟩ : Addr) else some ⟨g, i + d, none⟩) = some A) :
    Calls Tryz.prog 128 #[.slice (some ⟨g, 0, none⟩) (i + d + r) cap, .int .i64 i, .int .i64 j] w fun e w' =>
      e = .returned (.slice (some ⟨g, 0, none⟩) (i + r) cap) ∧ w' = W1.setCells g (i + r) (List.replicate d (.int .i64 0)) := by
  obtain ⟨i0, hi0, hz0, hz1, hz2⟩ := info_parts infoE
  have HF := Lib.hid hf
  clear hf
  obtain rfl : j = ((i + d : Nat) : Int) := by omega
  clear hj
  have hic : i ≤ cap := by omega
  have hjc : i + d ≤ cap := by omega
  have hij : i ≤ i + d := by omega
  have hjn : i + d + r - (i + d) = r := by omega
  have hne : ((i : Int) == ((i + d : Nat) : Int)) = false := by rw [beq_eq_false_iff_ne]; omega
  have hjl : i + d ≤ i + d + r := by omega
  have hk0 : (0 : Int) ≤ (i : Int) + (d : Int) := by omega
  have hk1 : (i : Int) + (d : Int) ≤ (i : Int) + (d : Int) + (r : Int) := by omega
  have ht : ((i : Int) + (d : Int)).toNat = i + d := by omega
  go_enter Tryz.func128, Tryz.ntmps128
  go_wp2_with fail
  go_region_law (refine step_append_room rfl (.tmp 22) (.tmp 25) 50 rfl 3 i0 1 underE hi0 hz1 g 0 i cap (by simp [Act.eval, Act.put]) A r (cap - (i + d)) news (by simp [Act.eval, Act.put]; try exact ⟨hA, hjn⟩) HF.out.len HF.out.src HF.out.one HF.out.room HF.out.spare ?_; rw [HF.out.world])
  have hcl := HF.out.clear
  go_wp2
  go_ret
  exact ⟨rfl, rfl⟩
theorem set_row {g : Nat} {T : TypeId} : ∀ (vs : List Value) (o : Nat) (w : World) (P B C : List Value), w.heap[g]? = some (.cells (P ++ (B ++ C)).toArray T (0, 0)) → P.length = o → B.length = vs.length →
    (w.setCells g o vs).heap[g]? = some (.cells (P ++ (vs ++ C)).toArray T (0, 0))
  | [], o, _, P, B, C, h, _, hB => by
    rw [List.length_eq_zero_iff.1 hB] at h
    exact h
  | v :: r, o, w, P, B, C, h, hP, hB => by
    cases B with
    | nil => cases hB
    | cons b B =>
      have h1 := row_set h o v
      have e : ((P ++ (b :: B ++ C)).toArray.setIfInBounds o v) = ((P ++ [v]) ++ (B ++ C)).toArray := by
        rw [List.setIfInBounds_toArray, ← hP, List.set_append_right _ _ (Nat.le_refl _), Nat.sub_self]
        simp
      rw [e] at h1
      have h2 := set_row r (o + 1) (w.setCell ⟨g, o, none⟩ v) (P ++ [v]) B C h1 (by simp [hP]) (by simpa using hB)
      simpa [World.setCells] using h2
theorem set_grown {a : World} {g : Nat} : ∀ (vs : List Value) (o : Nat) (w : World), a.grownBy w (some g) → a.grownBy (w.setCells g o vs) (some g)
  | [], _, _, h => h
  | v :: r, o, _, h => set_grown r (o + 1) _ (grown_set h o v)
theorem drew_grown (w : World) (row : Option Nat) : w.grownBy w.drew row := ⟨rfl, rfl, rfl, Nat.le_refl _, fun _ _ _ => rfl⟩
theorem addr_off (g o t : Nat) : (⟨g, o, none⟩ : Addr).add t = ⟨g, o + t, none⟩ := by
  unfold Addr.add
  split
  · rename_i h; rw [h]; rfl
  · rfl
theorem Delete_own (g cap : Nat) (a b c : List Value) (j : Int) (w : World) (hb : 1 ≤ b.length) (hj : j = (a.length : Int) + (b.length : Int)) (hn : (a ++ (b ++ c)).length ≤ 1073741824) (hone : ∀ u ∈ c, u.oneCell' = true)
    (ho : w.ownsRow 0 3 1 (.slice (some ⟨g, 0, none⟩) (a ++ (b ++ c)).length cap) (a ++ (b ++ c)).length (a ++ (b ++ c))) :
    Calls Tryz.prog 128 #[.slice (some ⟨g, 0, none⟩) (a ++ (b ++ c)).length cap, .int .i64 a.length, .int .i64 j] w fun e w' =>
      e = .returned (.slice (some ⟨g, 0, none⟩) (a ++ c).length cap) ∧ w'.ownsRow 0 3 1 (.slice (some ⟨g, 0, none⟩) (a ++ c).length cap) (a ++ c).length (a ++ c) ∧ w.grownBy w' (some g) := by
  rcases ho.2 with ⟨h0, _⟩ | ⟨g', cap', cur, hv, _, hg, hnc, hcm, hcs, htk⟩
  · cases h0
  simp only [Value.slice.injEq, Option.some.injEq, Addr.mk.injEq] at hv
  obtain ⟨⟨rfl, -⟩, -, rfl⟩ := hv
  obtain ⟨X, hX⟩ : ∃ X, X = cur.toList.drop (a ++ (b ++ c)).length := ⟨_, rfl⟩
  have hcur : cur = (a ++ (b ++ (c ++ X))).toArray := by
    apply Array.ext'
    rw [← List.take_append_drop (a ++ (b ++ c)).length cur.toList, ← hX]
    rw [Nat.mul_one] at htk
    rw [htk]
    simp
  have hg0 : w.drew.heap[g]? = some (.cells (a ++ (b ++ (c ++ X))).toArray 3 (0, 0)) := by rw [← hcur]; exact hg
  obtain ⟨D, hD, lD⟩ : ∃ D, b ++ c = (b ++ c).take c.length ++ D ∧ D.length = b.length := ⟨_, (List.take_append_drop _ _).symm, by simp⟩
  have hg1 : w.drew.heap[g]? = some (.cells (a ++ ((b ++ c).take c.length ++ (D ++ X))).toArray 3 (0, 0)) := by
    rw [hg0, ← List.append_assoc b, hD, List.append_assoc, ← hD]
  have hw1 := set_row c (0 + a.length * 1) w.drew a ((b ++ c).take c.length) (D ++ X) hg1 (by omega) (by simp)
  have hg1' := hw1
  rw [show a ++ (c ++ (D ++ X)) = (a ++ c) ++ (D ++ X) by simp] at hg1'
  have hw2 := set_row (List.replicate b.length (.int .i64 0)) (a.length + c.length) _ (a ++ c) D X hg1' (by rw [List.length_append]) (by rw [lD]; simp)
  have hall : cap * 1 = (a ++ (b ++ (c ++ X))).length := by rw [← hcs, hcur]; rfl
  simp only [List.length_append] at hall hnc hn
  have hA : ∃ A, (if cap = a.length + b.length then some (⟨g, 0, none⟩ : Addr) else some ⟨g, a.length + b.length, none⟩) = some A ∧ ∀ t u, c[t]? = some u → w.drew.cell? (A.add t) = some u := by
    by_cases hc : cap = a.length + b.length
    · refine ⟨_, by rw [if_pos hc], fun t u hu => ?_⟩
      have h0 : c.length = 0 := by omega
      rw [List.length_eq_zero_iff.1 h0] at hu
      simp at hu
    · refine ⟨_, by rw [if_neg hc], fun t u hu => ?_⟩
      have ht := (List.getElem?_eq_some_iff.1 hu).1
      rw [addr_off, row_cell hg0, List.getElem?_toArray, List.getElem?_append_right (by omega), List.getElem?_append_right (by omega), List.getElem?_append_left (by omega), show a.length + b.length + t - a.length - b.length = t by omega]
      exact hu
  obtain ⟨A, hA, hsrc⟩ := hA
  have hf : DelFacts w g a.length b.length c.length cap A c (w.drew.setCells g (0 + a.length * 1) c) := by
    refine ⟨by omega, hsrc, hone, by omega, fun t ht => ⟨?_, row_free hg0 _⟩, rfl, fun ty => ?_⟩
    · rw [row_cell hg0, List.getElem?_toArray, List.getElem?_eq_getElem (by simp only [List.length_append]; omega)]
      rfl
    · rw [show a.length + b.length + c.length - (a.length + c.length) = b.length by omega]
      refine Lib.run_clear_slice _ _ _ _ _ underE zeroE rfl rfl _ _ _ _ hb (fun j hj => ?_) (fun j hj => row_free hw1 _)
      rw [row_cell hw1, List.getElem?_toArray, List.getElem?_eq_getElem (by simp only [List.length_append, lD]; omega)]
      rfl
  have e1 : (a ++ (b ++ c)).length = a.length + b.length + c.length := by simp; omega
  have e2 : (a ++ c).length = a.length + c.length := by simp
  rw [e1, e2]
  refine (Delete_walk g a.length b.length c.length cap j hj hb A c w _ (by omega) (by omega) hcm hf hA).mono ?_
  rintro e w' ⟨rfl, rfl⟩
  refine ⟨rfl, ⟨by rw [e2, Nat.mul_one], .inr ⟨g, cap, _, rfl, Nat.zero_le _, hw2, by omega, hcm, ?_, ?_⟩⟩, set_grown _ _ _ (set_grown _ _ _ (drew_grown w _))⟩
  · rw [List.size_toArray, hall]
    simp only [List.length_append, List.length_replicate]
    omega
  · rw [Nat.mul_one, ← e2]
    exact List.take_left
end Go.Proofs.YtgjcbfdhpbkhoaaGreatDoor.EDelI
/- Elements are taken out of a row: the library's slices.Delete at rows of functions. -/
namespace Go.Proofs.YtgjcbfdhpbkhoaaGreatDoor.EDelF
open Go.RowKit WMem Ext DMem
theorem infoE : (Tryz.prog.info? 1).map (fun i => (i.zero, i.size, i.bytes)) = some (some .nilFunc, 1, 8) := by kernel_rfl
theorem underE : Tryz.prog.underlying 107 = some (.slice 1) := by kernel_rfl
theorem zeroE (w : World) : (zeroValue 1).run Tryz.prog w = .ok .nilFunc w := by kernel_rfl
structure DelFacts (w : World) (g i d r cap : Nat) (A : Addr) (news : List Value) (W1 : World) : Prop where
  len : news.length = r * 1
  src : ∀ t u, news[t]? = some u → w.drew.cell? (A.add t) = some u
  one : ∀ u ∈ news, u.oneCell' = true
  room : i + r ≤ cap
  spare : ∀ t, t < news.length → (w.drew.cell? ⟨g, 0 + i * 1 + t, none⟩).isSome = true ∧ w.drew.frozen? ⟨g, 0 + i * 1 + t, none⟩ = false
  world : w.drew.setCells g (0 + i * 1) news = W1
  clear : ∀ ty, (Builtin.clear_ #[107] ty #[.slice (some ⟨g, i + r, none⟩) (i + d + r - (i + r)) (cap - (i + r))]).run Tryz.prog W1 = .ok (.tuple #[]) (W1.setCells g (i + r) (List.replicate d .nilFunc))
theorem set_row {g : Nat} {T : TypeId} : ∀ (vs : List Value) (o : Nat) (w : World) (P B C : List Value), w.heap[g]? = some (.cells (P ++ (B ++ C)).toArray T (0, 0)) → P.length = o → B.length = vs.length →
    (w.setCells g o vs).heap[g]? = some (.cells (P ++ (vs ++ C)).toArray T (0, 0))
  | [], o, _, P, B, C, h, _, hB => by
    rw [List.length_eq_zero_iff.1 hB] at h
    exact h
  | v :: r, o, w, P, B, C, h, hP, hB => by
    cases B with
    | nil => cases hB
    | cons b B =>
      have h1 := row_set h o v
      have e : ((P ++ (b :: B ++ C)).toArray.setIfInBounds o v) = ((P ++ [v]) ++ (B ++ C)).toArray := by
        rw [List.setIfInBounds_toArray, ← hP, List.set_append_right _ _ (Nat.le_refl _), Nat.sub_self]
        simp
      rw [e] at h1
      have h2 := set_row r (o + 1) (w.setCell ⟨g, o, none⟩ v) (P ++ [v]) B C h1 (by simp [hP]) (by simpa using hB)
      simpa [World.setCells] using h2
theorem set_grown {a : World} {g : Nat} : ∀ (vs : List Value) (o : Nat) (w : World), a.grownBy w (some g) → a.grownBy (w.setCells g o vs) (some g)
  | [], _, _, h => h
  | v :: r, o, _, h => set_grown r (o + 1) _ (grown_set h o v)
theorem drew_grown (w : World) (row : Option Nat) : w.grownBy w.drew row := ⟨rfl, rfl, rfl, Nat.le_refl _, fun _ _ _ => rfl⟩
theorem addr_off (g o t : Nat) : (⟨g, o, none⟩ : Addr).add t = ⟨g, o + t, none⟩ := by
  unfold Addr.add
  split
  · rename_i h; rw [h]; rfl
  · rfl
end Go.Proofs.YtgjcbfdhpbkhoaaGreatDoor.EDelF
