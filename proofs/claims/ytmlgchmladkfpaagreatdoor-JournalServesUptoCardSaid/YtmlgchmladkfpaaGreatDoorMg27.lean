/- slices.Repeat of one or two widths: the widths of a record's body. -/
import Derived.Test.YtmlgchmladkfpaaGreatDoorMg24
import Derived.Test.YtmlgchmladkfpaaGreatDoorMg26
import Derived.WalkKit
import Derived.WalkSpells
import Derived.WalkLawsBesides
import Derived.Laws.CopyOwn
import Derived.Deep.RegionLaw
import Derived.Deep.DeepMust
namespace Go.Proofs.YtmlgchmladkfpaaGreatDoor.JWide
open Go.RowKit WMem WPlain WList WPack SNums JPlain JMem JMul JMay

/-- the first k numbers of a pattern, and noughts -/
def prow (p : Nat → Int) (m k : Nat) : List Value := (List.range k).map (fun i => .int .i64 (p i)) ++ List.replicate (m - k) (.int .i64 0)
theorem prow_len (p : Nat → Int) (m k : Nat) (h : k ≤ m) : (prow p m k).length = m := by simp [prow]; omega
theorem prow_get (p : Nat → Int) (m k i : Nat) (h : i < k) : (prow p m k)[i]? = some (.int .i64 (p i)) := by
  unfold prow
  rw [List.getElem?_append_left (by simpa using h)]
  simp [h]
theorem make_ints (p : Nat → Int) (n : Nat) (hn : n ≤ 1000) (w : World) : (Instr.makeSlice 55 (.int .i64 (n : Int)) (.int .i64 (n : Int))).run Tryz.prog w = .ok (.slice (some ⟨w.heap.size, 0, none⟩) n n) (w.alloc (.cells (prow p n 0).toArray 3)) := by
  obtain ⟨i, h1, h2, h3, h4⟩ := info_parts (P := Tryz.prog) (e := 3) (z := .int .i64 0) (size := 1) (bytes := 8) (by kernel_rfl)
  have h := run_make (P := Tryz.prog) w 55 3 i (.int .i64 0) (by kernel_rfl) h1 h2 .i64 .i64 n n (by omega) (by omega) (by rw [h4]; omega) (by omega)
  rw [h]
  simp only [Int.toNat_natCast, h3, Nat.mul_one]
  rw [show (Value.int IntKind.i64 0).cells = #[Value.int IntKind.i64 0] from rfl, made_one]
  simp [prow]
/-- what is copied behind the first k: the first j again -/
def pre (p : Nat → Int) (j : Nat) : List Value := (List.range j).map (fun i => .int .i64 (p i))
theorem pre_len (p : Nat → Int) (j : Nat) : (pre p j).length = j := by simp [pre]
theorem pre_get (p : Nat → Int) (j i : Nat) (h : i < j) : (pre p j)[i]? = some (.int .i64 (p i)) := by simp [pre, h]
theorem pre_add (p : Nat → Int) (k j : Nat) (hp : ∀ i, p (k + i) = p i) : pre p (k + j) = pre p k ++ pre p j := by
  unfold pre
  rw [List.range_add, List.map_append, List.map_map]
  congr 1
  apply List.map_congr_left
  intro i _
  simp [hp]
theorem splice_next (p : Nat → Int) (m k j : Nat) (hp : ∀ i, p (k + i) = p i) : splice (prow p m k) k (pre p j) = prow p m (k + j) := by
  unfold splice
  rw [pre_len]
  have h1 : (prow p m k).take k = pre p k := List.take_left' (by simp)
  have h2 : (prow p m k).drop (k + j) = List.replicate (m - (k + j)) (.int .i64 0) := by
    unfold prow
    rw [List.drop_append, List.drop_eq_nil_of_le (by simp), List.nil_append, List.drop_replicate]
    congr 1
    simp
    omega
  rw [h1, h2, ← List.append_assoc, ← pre_add p k j hp]
  rfl
theorem prow_all (p : Nat → Int) (m : Nat) : prow p m m = pre p m := by simp [prow, pre]
set_option maxRecDepth 100000 in
set_option maxHeartbeats 1000000 in
/-- a row of a (one or two) widths, n times -/
theorem Repeat_any (p : Nat → Int) (a n : Nat) (ha : 1 ≤ a) (ha2 : a ≤ 2) (hp : ∀ i, p (a + i) = p i) (h1 : 1 ≤ n) (h2 : n ≤ 60) (g c : Nat) (w : World) (hR : RowV w g 3 (pre p a)) :
    Calls Tryz.prog 179 #[.slice (some ⟨g, 0, none⟩) a c, .int .i64 (n : Int)] w fun e w' =>
      e = .returned (.slice (some ⟨w.heap.size, 0, none⟩) ((a * n : Nat) : Nat) ((a * n : Nat) : Nat)) ∧ RowV w' w.heap.size 3 (pre p (a * n)) ∧ Below w.heap.size w w' := by
  have hpa : ∀ q i, p (a * q + i) = p i := fun q => by
    induction q with
    | zero => intro i; simp
    | succ q ih => intro i; rw [show a * (q + 1) + i = a + (a * q + i) by rw [Nat.mul_succ]; omega, hp, ih]
  have hm1 : a ≤ a * n := Nat.le_mul_of_pos_right a (by omega)
  have hm2 : a * n ≤ 120 := by
    have : a * n ≤ 2 * 60 := Nat.mul_le_mul ha2 h2
    omega
  obtain ⟨m, hm⟩ : ∃ m, a * n = m := ⟨_, rfl⟩
  have HM := Lib.hid (mul_any a n m (by omega) (by omega) hm)
  rw [hm] at hm1 hm2 ⊢
  have HR := Lib.hid hR
  have hm0 := make_ints p m (by omega)
  have d1 : decide ((n : Int) < 0) = false := by simp
  have d2 : decide ((9223372036854775807 : Int) < (m : Int)) = false := by simp; omega
  have HF3 := Lib.hid (show (pre p a).length = Nat.min a m by rw [pre_len]; exact (Nat.min_eq_left hm1).symm)
  have HZ : Hid ((w.alloc (.cells (prow p m 0).toArray 3)).heap[w.heap.size]? = some (.cells (prow p m 0).toArray 3 (0, 0))) := Lib.hid (row_new w (.cells (prow p m 0).toArray 3))
  have HB : Hid (Below w.heap.size w (w.alloc (.cells (prow p m 0).toArray 3))) := Lib.hid ((Below.refl _ _).alloc (Nat.le_refl _) _)
  have HFL := Lib.hid (prow_len p m 0 (Nat.zero_le _))
  have HC : Hid (∀ (j : Nat) (v : Value), (pre p a)[j]? = some v → (w.alloc (.cells (prow p m 0).toArray 3)).cell? ((⟨g, 0, none⟩ : Addr).add j) = some v) := Lib.hid (fun j v hv => by
    obtain ⟨x, e, _, hcell⟩ := ((HR.out.alloc (.cells (prow p m 0).toArray 3)).sl (B := g + 1) (by omega)) j v hv
    injection e with e
    subst e
    exact hcell)
  have HPN := Lib.hid (show splice (prow p m 0) 0 (pre p a) = prow p m a by
    have := splice_next p m 0 a (by simp)
    rwa [Nat.zero_add] at this)
  have HL := Lib.hid (pre_len p a)
  have HPA := Lib.hid hpa
  have HMN := Lib.hid hm
  clear hR hm hp hpa
  go_enter Tryz.func179, Tryz.ntmps179
  go_wp2_with (first
    | (go_at_call 205; refine (HM.out _).mono ?_; rintro e w' ⟨rfl, rfl⟩)
    | (refine wpList_copy_splice (w := w.alloc (.cells (prow p m 0).toArray 3)) rfl (.tmp 31) (.tmp 32) 55 55 rfl 3 (by kernel_rfl) (by kernel_rfl) (some ⟨w.heap.size, 0, none⟩) (some ⟨g, 0, none⟩) m m a c rfl rfl w.heap.size 0 (prow p m 0) 3 HZ.out (pre p a) HF3.out (fun _ => ⟨rfl, _, rfl, HC.out⟩) (by rw [HFL.out, HL.out]; omega) (by intro v hv; obtain ⟨i, _, rfl⟩ := List.mem_map.1 hv; rfl) w.heap.size w HB.out (Nat.le_refl _) ?_
       intro w1 hrow1 hb1
       have HB1 := Lib.hid hb1
       clear hb1))
  have HR1 : Hid (RowV w1 w.heap.size 3 (prow p m a)) := Lib.hid (by
    have h := hrow1.out
    rw [HPN.out] at h
    exact h)
  clear hrow1
  go_loopw [8] (fun v wr => ∃ k : Nat, a ≤ k ∧ k ≤ m ∧ v = .int .i64 k ∧ RowV wr w.heap.size 3 (prow p m k) ∧ Below w.heap.size w wr ∧ Hid (∃ q, k = a * q)) (fun v _ => m - (intOf v).toNat)
  case atStart => exact ⟨a, Nat.le_refl _, hm1, by rw [HL.out], HR1.out, HB1.out, Lib.hid ⟨1, by omega⟩⟩
  case round =>
    obtain ⟨k, hk1, hk2, rfl, hr, hb, HQ⟩ := hrel
    have HR2 := Lib.hid hr
    have HB2 := Lib.hid hb
    clear hr hb
    by_cases hlt : k < m
    · obtain ⟨j, hj⟩ : ∃ j, min k (m - k) = j := ⟨_, rfl⟩
      have HQ2 : Hid (∃ q, k + j = a * q) := by
        obtain ⟨q, hq⟩ := HQ.out
        refine Lib.hid ?_
        by_cases hc : k ≤ m - k
        · exact ⟨q + q, by rw [Nat.mul_add, ← hq]; omega⟩
        · exact ⟨n, by rw [HMN.out]; omega⟩
      have hj1 : j ≤ m - k := by omega
      have hj2 : 1 ≤ j := by omega
      have hj3 : j ≤ k := by omega
      have HS := Lib.hid (splice_next p m k j (by obtain ⟨q, hq⟩ := HQ.out; rw [hq]; exact HPA.out q))
      have HFK := Lib.hid (prow_len p m k hk2)
      have HLN : Hid ((pre p j).length = Nat.min k (m - k)) := Lib.hid (by rw [pre_len]; exact hj.symm)
      have HCC : Hid (∀ (i : Nat) (v : Value), (pre p j)[i]? = some v → wr.drew.cell? ((⟨w.heap.size, 0, none⟩ : Addr).add i) = some v) := Lib.hid (fun i v hv => by
        have hi : i < j := by
          have := (List.getElem?_eq_some_iff.1 hv).1
          rwa [pre_len] at this
        rw [pre_get p j i hi] at hv
        have hadd : (⟨w.heap.size, 0, none⟩ : Addr).add i = ⟨w.heap.size, i, none⟩ := by unfold Addr.add; split <;> simp_all
        rw [hadd]
        refine ((row_cell HR2.out i).trans ?_)
        rw [List.getElem?_toArray, prow_get p m k i (by omega)]
        exact hv)
      have HBD : Hid (Below w.heap.size w wr.drew) := Lib.hid (below_drewN HB2.out 1)
      have HRD : Hid (RowV wr.drew w.heap.size 3 (prow p m k)) := Lib.hid (HR2.out.drewN 1)
      have hne : ¬ (m = k) := by omega
      have hwr : IntKind.i64.wrap ((k : Int) + (j : Int)) = (k : Int) + (j : Int) := IntWalk.i64_in _ (by omega)
      have HPJ := Lib.hid (pre_len p j)
      have HHJ := Lib.hid hj
      clear hj
      go_wp2_with fail
      go_region_law (refine step_copy_splice (w := wr.drew) ?g1 (.tmp 41) (.tmp 44) 55 55 ?g2 3 (by kernel_rfl) (by kernel_rfl) (some ⟨w.heap.size, k, none⟩) (some ⟨w.heap.size, 0, none⟩) (m - k) (m - k) k m ?g3 ?g4 w.heap.size k (prow p m k) 3 HRD.out (pre p j) HLN.out (fun _ => ⟨rfl, _, rfl, HCC.out⟩) (by rw [HFK.out, HPJ.out]; omega) (by intro v hv; obtain ⟨i, _, rfl⟩ := List.mem_map.1 hv; rfl) w.heap.size w HBD.out (Nat.le_refl _) ?g5; (exact rfl); (exact rfl); (simp [Act.eval, Act.put]); (simp [Act.eval, Act.put]); intro w4 hg4 hb4; rw [HPJ.out])
      all_goals
        have HR4 : Hid (RowV w4 w.heap.size 3 (prow p m (k + j))) := Lib.hid (by
          have h := hg4.out
          rw [HS.out] at h
          exact h)
        have HB4 := Lib.hid hb4
        clear hg4 hb4
        simp [Exit.inBlock, Act.put]
        go_wp2
        go_roundw
        case rel => exact ⟨k + j, by omega, by omega, by go_num, HR4.out, HB4.out, HQ2⟩
        case measure => simp [intOf]; omega
    · obtain rfl : k = m := by omega
      go_wp2
      go_ret
      refine ⟨rfl, ?_, HB2.out⟩
      rw [← prow_all]
      exact HR2.out
end Go.Proofs.YtmlgchmladkfpaaGreatDoor.JWide
