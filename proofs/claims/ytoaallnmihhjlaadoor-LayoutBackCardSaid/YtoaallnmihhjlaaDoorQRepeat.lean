/- slices.Repeat of three fours: the widths of n groups. -/
import Derived.Test.YtoaallnmihhjlaaDoorQWidths
import Derived.Test.YtoaallnmihhjlaaDoorGGeo
namespace Go.Proofs.YtoaallnmihhjlaaDoor.QRepeat
open Go.RowKit WMem WPlain WList WPack SNums QPlain QWidths

theorem splice_first (m : Nat) : splice (frow m 0) 0 [.int .i64 4, .int .i64 4, .int .i64 4] = frow m 3 := by
  simp [splice, frow, List.drop_replicate, List.replicate_succ]
theorem splice_next (m k j : Nat) : splice (frow m k) k (List.replicate j (.int .i64 4)) = frow m (k + j) := by
  unfold splice frow
  have h1 : (List.replicate k (Value.int .i64 4) ++ List.replicate (m - k) (Value.int .i64 0)).take k = List.replicate k (Value.int .i64 4) := by
    rw [List.take_append_of_le_length (by simp)]; simp
  have h2 : (List.replicate k (Value.int .i64 4) ++ List.replicate (m - k) (Value.int .i64 0)).drop (k + j) = List.replicate (m - (k + j)) (Value.int .i64 0) := by
    rw [List.drop_append]
    simp
    omega
  rw [List.length_replicate, h1, h2, ← List.append_assoc, List.replicate_append_replicate]
set_option maxRecDepth 100000 in
set_option maxHeartbeats 1000000 in
theorem Repeat_any (n : Nat) (h1 : 1 ≤ n) (h2 : n ≤ 14) (g c : Nat) (w : World) (hR : RowV w g 3 [.int .i64 4, .int .i64 4, .int .i64 4]) :
    Calls Tryd.prog 58 #[.slice (some ⟨g, 0, none⟩) 3 c, .int .i64 (n : Int)] w fun e w' =>
      e = .returned (.slice (some ⟨w.heap.size, 0, none⟩) ((3 * n : Nat) : Nat) ((3 * n : Nat) : Nat)) ∧ RowV w' w.heap.size 3 (List.replicate (3 * n) (.int .i64 4)) ∧ Below w.heap.size w w' := by
  have HM := Lib.hid (mul_any n h1 h2)
  have HR := Lib.hid hR
  have hm0 := make_ints (3 * n) (by omega)
  obtain ⟨m, hm⟩ : ∃ m, 3 * n = m := ⟨_, rfl⟩
  rw [hm] at HM hm0 ⊢
  have hm1 : 3 ≤ m := by omega
  have hm2 : m ≤ 42 := by omega
  have d1 : decide ((n : Int) < 0) = false := by simp
  have d2 : decide ((9223372036854775807 : Int) < (m : Int)) = false := by simp; omega
  have hF3 : ([.int .i64 4, .int .i64 4, .int .i64 4] : List Value).length = Nat.min 3 m := by show 3 = Nat.min 3 m; exact (Nat.min_eq_left hm1).symm
  have HZ : Hid ((w.alloc (.cells (frow m 0).toArray 3)).heap[w.heap.size]? = some (.cells (frow m 0).toArray 3 (0, 0))) := Lib.hid (row_new w (.cells (frow m 0).toArray 3))
  have HB : Hid (Below w.heap.size w (w.alloc (.cells (frow m 0).toArray 3))) := Lib.hid ((Below.refl _ _).alloc (Nat.le_refl _) _)
  have HFL := Lib.hid (frow_len m 0 (Nat.zero_le _))
  have HC : Hid (∀ (j : Nat) (v : Value), ([.int .i64 4, .int .i64 4, .int .i64 4] : List Value)[j]? = some v → (w.alloc (.cells (frow m 0).toArray 3)).cell? ((⟨g, 0, none⟩ : Addr).add j) = some v) := Lib.hid (fun j v hv => by
    obtain ⟨a, e, _, hcell⟩ := ((HR.out.alloc (.cells (frow m 0).toArray 3)).sl (B := g + 1) (by omega)) j v hv
    injection e with e
    subst e
    exact hcell)
  clear hR hm
  have HF3 := Lib.hid hF3
  clear hF3
  go_enter Tryd.func58, Tryd.ntmps58
  go_wp2_with (first
    | (go_at_call 75; refine (HM.out _).mono ?_; rintro e w' ⟨rfl, rfl⟩)
    | (refine wpList_copy_splice (w := w.alloc (.cells (frow m 0).toArray 3)) rfl (.tmp 31) (.tmp 32) 53 53 rfl 3 (by kernel_rfl) (by kernel_rfl) (some ⟨w.heap.size, 0, none⟩) (some ⟨g, 0, none⟩) m m 3 c rfl rfl w.heap.size 0 (frow m 0) 3 HZ.out [.int .i64 4, .int .i64 4, .int .i64 4] HF3.out (fun _ => ⟨rfl, _, rfl, HC.out⟩) (by rw [HFL.out]; show 0 + 3 ≤ m; omega) (by intro v hv; simp at hv; subst hv; rfl) w.heap.size w HB.out (Nat.le_refl _) ?_
       intro w1 hrow1 hb1
       have HB1 := Lib.hid hb1
       clear hb1))
  have HR1 : Hid (RowV w1 w.heap.size 3 (frow m 3)) := Lib.hid (by
    have h := hrow1.out
    rw [splice_first m] at h
    exact h)
  clear hrow1
  go_loopw [8] (fun v wr => ∃ k : Nat, 3 ≤ k ∧ k ≤ m ∧ v = .int .i64 k ∧ RowV wr w.heap.size 3 (frow m k) ∧ Below w.heap.size w wr) (fun v _ => m - (intOf v).toNat)
  case atStart => exact ⟨3, Nat.le_refl _, hm1, rfl, HR1.out, HB1.out⟩
  case round =>
    obtain ⟨k, hk1, hk2, rfl, hr, hb⟩ := hrel
    have HR2 := Lib.hid hr
    have HB2 := Lib.hid hb
    clear hr hb
    by_cases hlt : k < m
    · obtain ⟨j, hj⟩ : ∃ j, min k (m - k) = j := ⟨_, rfl⟩
      have HJ := Lib.hid hj
      have hj1 : j ≤ m - k := by omega
      have hj2 : 1 ≤ j := by omega
      have hj3 : j ≤ k := by omega
      have HS := Lib.hid (splice_next m k j)
      have HFK := Lib.hid (frow_len m k hk2)
      have HLN : Hid ((List.replicate j (Value.int .i64 4)).length = Nat.min k (m - k)) := Lib.hid (by rw [List.length_replicate]; exact hj.symm)
      have HCC : Hid (∀ (i : Nat) (v : Value), (List.replicate j (Value.int .i64 4))[i]? = some v → wr.drew.cell? ((⟨w.heap.size, 0, none⟩ : Addr).add i) = some v) := Lib.hid (fun i v hv => by
        have hi : i < j := by
          have := (List.getElem?_eq_some_iff.1 hv).1
          simpa using this
        rw [List.getElem?_replicate, if_pos hi] at hv
        injection hv with hv
        subst hv
        have hc := HR2.out.cell (i := i) (by rw [HFK.out]; omega)
        have he : (frow m k)[i]'(by rw [HFK.out]; omega) = .int .i64 4 := by
          simp only [frow]
          rw [List.getElem_append_left (by simp; omega)]
          simp
        rw [he] at hc
        have hadd : (⟨w.heap.size, 0, none⟩ : Addr).add i = ⟨w.heap.size, i, none⟩ := by unfold Addr.add; split <;> simp_all
        rw [hadd]
        exact hc)
      have HBD : Hid (Below w.heap.size w wr.drew) := Lib.hid (below_drewN HB2.out 1)
      have HRD : Hid (RowV wr.drew w.heap.size 3 (frow m k)) := Lib.hid (HR2.out.drewN 1)
      have hne : ¬ (m = k) := by omega
      have hwr : IntKind.i64.wrap ((k : Int) + (j : Int)) = (k : Int) + (j : Int) := IntWalk.i64_in _ (by omega)
      clear hj
      go_wp2_with fail
      go_region_law (refine step_copy_splice (w := wr.drew) ?g1 (.tmp 41) (.tmp 44) 53 53 ?g2 3 (by kernel_rfl) (by kernel_rfl) (some ⟨w.heap.size, k, none⟩) (some ⟨w.heap.size, 0, none⟩) (m - k) (m - k) k m ?g3 ?g4 w.heap.size k (frow m k) 3 HRD.out (List.replicate j (.int .i64 4)) HLN.out (fun _ => ⟨rfl, _, rfl, HCC.out⟩) (by rw [HFK.out, List.length_replicate]; omega) (by intro v hv; have := List.eq_of_mem_replicate hv; subst this; rfl) w.heap.size w HBD.out (Nat.le_refl _) ?g5; (exact rfl); (exact rfl); (simp [Act.eval, Act.put]); (simp [Act.eval, Act.put]); intro w4 hg4 hb4; rw [List.length_replicate])
      all_goals
        have HR4 : Hid (RowV w4 w.heap.size 3 (frow m (k + j))) := Lib.hid (by
          have h := hg4.out
          rw [HS.out] at h
          exact h)
        have HB4 := Lib.hid hb4
        clear hg4 hb4
        simp [Exit.inBlock, Act.put]
        go_wp2
        go_roundw
        case rel => exact ⟨k + j, by omega, by omega, by go_num, HR4.out, HB4.out⟩
        case measure => simp [intOf]; omega
    · obtain rfl : k = m := by omega
      go_wp2
      go_ret
      refine ⟨rfl, ?_, HB2.out⟩
      have := HR2.out
      simpa [frow] using this
end Go.Proofs.YtoaallnmihhjlaaDoor.QRepeat
