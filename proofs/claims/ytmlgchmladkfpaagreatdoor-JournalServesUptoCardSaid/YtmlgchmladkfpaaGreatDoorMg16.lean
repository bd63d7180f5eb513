/- slices.Sorted(maps.Keys(m)): the numbers at which something stands, rising, in new memory. -/
import Derived.Test.YtmlgchmladkfpaaGreatDoorMg5
import Derived.Test.YtmlgchmladkfpaaGreatDoorMg15
namespace Go.Proofs.YtmlgchmladkfpaaGreatDoor.EKeys
open Go.RowKit Go.Maps Go.Sort Go.Shelf WMem Map Ext

/-- slices.Sort's two contracts at the fence that asks nothing -/
theorem sorts (m : Nat) : AnyZI.SortsIn Tryz.prog Tryz.sortedA_ren Fence.wide m :=
  ⟨fun blk off cap ss W hH hblk hsz => callsIn_wide.2 (AnyM.slices_Sort_int Tryz.sortA blk off cap ss W hH hblk hsz),
   fun p cap W => callsIn_wide.2 (AnyM.slices_Sort_int_none Tryz.sortA p cap W)⟩

theorem Keys_any (mb : Option Nat) (w : World) :
    Calls Tryz.prog 66 #[.map mb] w fun e w' => e = .returned (.func (.func 92) #[] #[.pointer (some ⟨w.heap.size, 0, none⟩)]) ∧ w.alloc (.cells #[.map mb] 91) = w' :=
  (callsIn_wide.1 (AnyZI.keys_in Tryz.keysA Fence.wide 5 trivial rfl mb w)).mono fun _ _ ⟨h1, h2⟩ => ⟨h1, h2.symm⟩

set_option maxRecDepth 100000 in
set_option maxHeartbeats 1000000 in
theorem Sorted_any (g b n m : Nat) (f : Int → Option Value) (w : World) (hg : w.heap[g]? = some (.cells #[.map (some b)] 91 (0, 0))) (h : MapIs w b n f) (hm : ∀ k v, f k = some v → 0 ≤ k ∧ k < (m : Int)) (hmm : m ≤ 4096) :
    Calls Tryz.prog 65 #[.func (.func 92) #[] #[.pointer (some ⟨g, 0, none⟩)]] w fun e w' => ∃ v, e = .returned v ∧
      w'.ownsRow w.heap.size 3 1 v (nums f m).length ((nums f m).map encZ) ∧ (v = .slice none 0 0 ↔ nums f m = []) ∧ Below w.heap.size w w' := by
  obtain ⟨D, ho, hf⟩ := h.cap hm
  have hsz : Maps.size D ≤ m := ho.size_le
  have hseq : SeqGives Fence.wide 2 Tryz.prog 92 #[.pointer (some ⟨g, 0, none⟩)] encZ (fun ss => ss.Perm (intKeys D)) (Maps.size D) w :=
    AnyZI.keys_gives (ρ := Tryz.keysA_ren) { Tryz.keysA with } Fence.wide _ trivial rfl (by omega) g b m D _ (row_lt hg) ((row_cell hg 0).trans rfl) ho
  have cS := AnyZI.sorted_in Tryz.sortedA Fence.wide 5 trivial trivial trivial trivial rfl (by omega) (sorts _) (enters_of Tryz.func91 (by kernel_rfl) rfl) 92 #[.pointer (some ⟨g, 0, none⟩)] trivial (enters_of Tryz.func92 (by kernel_rfl) rfl) _ _ (by unfold maxLen; omega) (by omega) _ hseq
  change CallsIn _ _ Tryz.prog 65 _ _ _ at cS
  refine (callsIn_wide.1 cS).mono ?_
  rintro e w' ⟨v, ss, rfl, hS, hrow, hnil, hb⟩
  have hp : ss.Perm (nums f m) := hS.trans (perm_nums ho hf (by omega) hm).symm
  have hs := sort_nums f m hp
  rw [show (ss.mergeSort fun x y => decide (x ≤ y)) = ss.mergeSort leI from rfl, hs, hp.length_eq] at hrow
  refine ⟨v, rfl, hrow, hnil.trans ⟨fun h => ?_, fun h => ?_⟩, hb⟩
  · rw [h] at hp; exact hp.symm.eq_nil
  · rw [h] at hp; exact hp.eq_nil
end Go.Proofs.YtmlgchmladkfpaaGreatDoor.EKeys
