/- The walk that cuts a row of free bits into chunks: cut, buddiesOf, Orders. -/
import Derived.Test.YtlpipnpcgancmaaDoorTOrd
import Derived.RegionTactic
import Derived.ChangeAlike
import Derived.StillTailTactics
namespace Go.Proofs.YtlpipnpcgancmaaDoor.TCut
open Go.RowKit WMem WPlain TPlain TBits TSet TWalk TOrd

theorem grown_drew {a w : World} {row : Option Nat} (h : a.grownBy w row) : a.grownBy w.drew row := ⟨h.os, h.tape, h.output, h.size, h.block⟩
/-- the cells of the buddies that begin ahead of p -/
def bcells (F : Nat → Bool) (p : Nat) : List Value := vals (fun k => cnt F k p) 11 ++ vals (fun k => fst F k p) 11
theorem bcells_len (F : Nat → Bool) (p : Nat) : (bcells F p).length = 22 := by simp [bcells, vals_len]
theorem bcells_cnt (F : Nat → Bool) (p : Nat) {k : Nat} (hk : k < 11) : (bcells F p)[k]? = some (.int .i64 (cnt F k p : Nat)) := by
  unfold bcells
  rw [List.getElem?_append_left (by rw [vals_len]; exact hk)]
  exact vals_at _ hk
theorem bcells_fst (F : Nat → Bool) (p : Nat) {k : Nat} (hk : k < 11) : (bcells F p)[11 + k]? = some (.int .i64 (fst F k p : Nat)) := by
  unfold bcells
  rw [List.getElem?_append_right (by rw [vals_len]; omega), vals_len, show 11 + k - 11 = k by omega]
  exact vals_at _ hk
theorem cells_ext {xs : List Value} {F : Nat → Bool} {p : Nat} (hl : xs.length = 22) (h1 : ∀ k, k < 11 → xs[k]? = some (.int .i64 (cnt F k p : Nat))) (h2 : ∀ k, k < 11 → xs[11 + k]? = some (.int .i64 (fst F k p : Nat))) : xs = bcells F p := by
  apply List.ext_getElem?
  intro i
  by_cases hi : i < 11
  · rw [h1 i hi, bcells_cnt F p hi]
  · by_cases hj : i < 22
    · obtain ⟨k, rfl⟩ : ∃ k, i = 11 + k := ⟨i - 11, by omega⟩
      rw [h2 k (by omega), bcells_fst F p (by omega)]
    · rw [List.getElem?_eq_none (by omega), List.getElem?_eq_none (by rw [bcells_len]; omega)]
theorem cells_start (F : Nat → Bool) : bcells F 0 = [.int .i64 0, .int .i64 0, .int .i64 0, .int .i64 0, .int .i64 0, .int .i64 0, .int .i64 0, .int .i64 0, .int .i64 0, .int .i64 0, .int .i64 0, .int .i64 0, .int .i64 0, .int .i64 0, .int .i64 0, .int .i64 0, .int .i64 0, .int .i64 0, .int .i64 0, .int .i64 0, .int .i64 0, .int .i64 0] := rfl
theorem cells_first {F : Nat → Bool} {p k : Nat} (h : Here F p k) (h0 : cnt F k p = 0) : ((bcells F p).set (11 + k) (.int .i64 (p : Nat))).set k (.int .i64 1) = bcells F (p + 2 ^ k) := by
  have hk := h.le
  refine cells_ext (by simp [bcells_len]) (fun j hj => ?_) (fun j hj => ?_)
  · by_cases e : j = k
    · subst e
      rw [List.getElem?_set_self (by simp [bcells_len]; omega), h.cnt_at.1, h0]; rfl
    · rw [List.getElem?_set_ne (by omega), List.getElem?_set_ne (by omega), bcells_cnt F p hj, (h.cnt_else (by omega) e).1]
  · by_cases e : j = k
    · subst e
      rw [List.getElem?_set_ne (by omega), List.getElem?_set_self (by simp [bcells_len]; omega), h.cnt_at.2, if_pos h0]
    · rw [List.getElem?_set_ne (by omega), List.getElem?_set_ne (by omega), bcells_fst F p hj, (h.cnt_else (by omega) e).2]
theorem cells_more {F : Nat → Bool} {p k : Nat} (h : Here F p k) (h0 : cnt F k p ≠ 0) : (bcells F p).set k (.int .i64 ((cnt F k p : Nat) + 1)) = bcells F (p + 2 ^ k) := by
  have hk := h.le
  refine cells_ext (by simp [bcells_len]) (fun j hj => ?_) (fun j hj => ?_)
  · by_cases e : j = k
    · subst e
      rw [List.getElem?_set_self (by simp [bcells_len]; omega), h.cnt_at.1]; rfl
    · rw [List.getElem?_set_ne (by omega), bcells_cnt F p hj, (h.cnt_else (by omega) e).1]
  · rw [List.getElem?_set_ne (by omega), bcells_fst F p hj]
    by_cases e : j = k
    · subst e
      rw [h.cnt_at.2, if_neg h0]
    · rw [(h.cnt_else (by omega) e).2]
theorem cells_skip {F : Nat → Bool} {p : Nat} (h : F p = false) : bcells F (p + 1) = bcells F p := by
  refine (cells_ext (bcells_len _ _) (fun j hj => ?_) (fun j hj => ?_)).symm
  · rw [bcells_cnt F p hj, (cnt_skip h).1]
  · rw [bcells_fst F p hj, (cnt_skip h).2]
theorem cnt_le (F : Nat → Bool) (k p : Nat) : cnt F k p ≤ p := by
  induction p with
  | zero => exact Nat.le_refl _
  | succ p ih =>
    simp only [cnt]
    split <;> omega
set_option maxHeartbeats 400000 in
set_option maxRecDepth 100000 in
theorem cut_any (F : Nat → Bool) (p0 e g : Nat) (w : World) (hpe : p0 ≤ e) (he : e ≤ 2016) (hc : Cut F p0) (hf : ∀ i, p0 ≤ i → i < e → F i = true) (hfe : F e = false) (hR : RowV w g 54 (bcells F p0)) :
    Calls Tryd.prog 50 #[.pointer (some ⟨g, 0, none⟩), .int .i64 p0, .int .i64 e] w fun e' w' => e' = .returned (.tuple #[]) ∧ RowV w' g 54 (bcells F e) ∧ w.grownBy w' (some g) ∧ Cut F e := by
  have HF := Lib.hid hf
  have HE := Lib.hid hfe
  have HR0 := Lib.hid hR
  have HC0 := Lib.hid hc
  clear hf hfe hR hc
  go_enter Tryd.func50, Tryd.ntmps50
  go_wp2
  go_loopw [1] (fun v wr => ∃ p : Nat, p0 ≤ p ∧ p ≤ e ∧ v = .int .i64 p ∧ Cut F p ∧ RowV wr g 54 (bcells F p) ∧ w.grownBy wr (some g)) (fun v _ => e - (intOf v).toNat)
  case atStart => exact ⟨p0, Nat.le_refl _, hpe, rfl, HC0.out, HR0.out, grown_refl _ _⟩
  case round =>
    obtain ⟨p, hp0, hp, rfl, hc, hR, hG⟩ := hrel
    have HC := Lib.hid hc
    have HR := Lib.hid hR
    have HG := Lib.hid hG
    clear hc hR hG
    by_cases hlt : p < e
    · go_wp2_with fail
      refine (orderAt_any p e _ hlt he).mono ?_
      rintro e' w' ⟨k, rfl, hord, rfl⟩
      have hh : Here F p k := here_of HC.out (fun i h1 h2 => HF.out i (by omega) h2) HE.out hlt hord
      have hk := hh.le
      have hcell : wr.cell? ⟨g, k, none⟩ = some (.int .i64 (cnt F k p : Nat)) := (row_cell HR.out k).trans (by rw [List.getElem?_toArray]; exact bcells_cnt F p (by omega))
      have hfrk := row_free HR.out k
      have hfrj := row_free HR.out (11 + k)
      have hcl := cnt_le F k p
      have hkk := hh.free
      have HH := Lib.hid hh
      have HO := Lib.hid hord
      clear hord hh hkk
      obtain ⟨z, hz⟩ : ∃ z, cnt F k p = z := ⟨_, rfl⟩
      rw [hz] at hcell hcl
      have HZ := Lib.hid hz
      clear hz
      have hp2 : 2 ^ k ≤ e - p := HO.out.2.2.1
      have hpp := two_pow_pos k
      obtain ⟨q, hq⟩ : ∃ q, 2 ^ k = q := ⟨_, rfl⟩
      have hw : wrap64 (2 ^ k) = (q : Int) := by
        have e1 : (2 ^ k : Int) = (q : Int) := by rw [← hq]; push_cast; rfl
        rw [e1, IntWalk.wrap64_in _ ⟨by omega, by omega⟩]
      rw [hq] at hp2 hpp
      have HQ := Lib.hid hq
      clear hq
      have hki : (k : Int) < 11 := by omega
      by_cases h0 : z = 0
      · subst h0
        have hcellj : wr.cell? ⟨g, 11 + k, none⟩ = some (.int .i64 (fst F k p : Nat)) := (row_cell HR.out _).trans (by rw [List.getElem?_toArray]; exact bcells_fst F p (by omega))
        obtain ⟨y, hy⟩ : ∃ y, fst F k p = y := ⟨_, rfl⟩
        rw [hy] at hcellj
        clear hy
        go_wp2
        have HR1 := Lib.hid (HR.out.set (11 + k) (.int .i64 p))
        have HG1 := Lib.hid (grown_set HG.out (11 + k) (.int .i64 p))
        obtain ⟨w1, hw1⟩ : ∃ w1, w1 = wr.setCell ⟨g, 11 + k, none⟩ (.int .i64 p) := ⟨_, rfl⟩
        have hcell1 : w1.cell? ⟨g, k, none⟩ = some (.int .i64 0) := by
          rw [hw1]
          exact (row_cell HR1.out k).trans (by rw [List.getElem?_toArray, List.getElem?_set_ne (by omega), bcells_cnt F p (by omega), HZ.out]; rfl)
        rw [← hw1] at HR1 HG1 ⊢
        clear hw1 hcell hfrk hfrj hcellj
        have hfrk := row_free HR1.out k
        go_still_tail 10, (by kernel_rfl)
        change wpList _ _ _ _ _ w1.drew
        have HR2 : Hid (RowV (w1.setCell ⟨g, k, none⟩ (.int .i64 1)) g 54 (bcells F (p + q))) := Lib.hid (by
          rw [← HQ.out, ← cells_first HH.out HZ.out]
          exact HR1.out.set k (.int .i64 1))
        have HG2 := Lib.hid (grown_set HG1.out k (.int .i64 1))
        go_wp2
        go_roundw
        case rel =>
          refine ⟨p + q, by omega, by omega, by go_num, ?_, HR2.out, grown_drew HG2.out⟩
          rw [← HQ.out]
          exact HH.out.after
        case measure => simp [intOf]; omega
      · have hd : ((z : Int) == 0) = false := by rw [beq_eq_false_iff_ne]; omega
        have H0 := Lib.hid h0
        clear h0
        go_wp2
        go_still_tail 10, (by kernel_rfl)
        change wpList _ _ _ _ _ wr.drew
        have HR2 : Hid (RowV (wr.setCell ⟨g, k, none⟩ (.int .i64 ((z : Nat) + 1))) g 54 (bcells F (p + q))) := Lib.hid (by
          have := HR.out.set k (.int .i64 ((cnt F k p : Nat) + 1))
          rw [cells_more HH.out (by rw [HZ.out]; exact H0.out), HQ.out, HZ.out] at this
          exact this)
        have HG2 := Lib.hid (grown_set HG.out k (.int .i64 ((z : Nat) + 1)))
        go_wp2
        go_roundw
        case rel =>
          refine ⟨p + q, by omega, by omega, by go_num, ?_, HR2.out, grown_drew HG2.out⟩
          rw [← HQ.out]
          exact HH.out.after
        case measure => simp [intOf]; omega
    · obtain rfl : p = e := by omega
      go_wp2
      go_end0
      exact ⟨rfl, HR.out, HG.out, HC.out⟩
end Go.Proofs.YtlpipnpcgancmaaDoor.TCut
