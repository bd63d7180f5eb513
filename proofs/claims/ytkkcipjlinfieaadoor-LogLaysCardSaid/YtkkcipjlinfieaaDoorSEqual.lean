/- bytes.Equal, and the statements' own Same: do two rows of bytes say the same? -/
import Derived.Test.YtkkcipjlinfieaaDoorWHelp
import Derived.Shelf.Bytes.SlEqualAll
import Derived.Deep.QuietTactic
import Derived.BigQuiet
namespace Go.Proofs.YtkkcipjlinfieaaDoor.SEqual
open Go.RowKit WMem WPlain WHelp

def ints (l : List UInt8) : List Int := l.map fun b => (b.toNat : Int)
theorem ints_len (l : List UInt8) : (ints l).length = l.length := by simp [ints]
theorem bytesIn_of {w : World} {B : Nat} {A : Option Addr} {l : List UInt8} (h : Sl w B A (l.map u8v)) : Lib.BytesIn w A l.length (ints l) := by
  match l, A with
  | [], _ => exact Lib.BytesIn.nil _ _ _
  | x :: l, A =>
    obtain ⟨a, rfl, _, _⟩ := h 0 (u8v x) (by simp)
    refine Lib.BytesIn.of_cells fun i hi => ?_
    obtain ⟨a', e, _, hc⟩ := h.u8 (k := i) hi
    injection e with e
    subst e
    rw [hc]
    unfold ints
    rw [List.getD_eq_getElem?_getD, List.getElem?_map, List.getElem?_eq_getElem hi]
    rfl
theorem ints_back (l : List UInt8) : (strOfNums (ints l)).toList = l := by
  rw [Lib.strOfNums_toList]
  unfold Lib.bytesOf ints
  rw [List.map_map]
  conv => rhs; rw [← List.map_id l]
  apply List.map_congr_left
  intro b _
  simp
theorem conv_bytes (l : List UInt8) (B : Nat) (A : Option Addr) (c : Nat) (w : World) (h : Sl w B A (l.map u8v)) : (convert 31 9 (.slice A l.length c)).run Tryd.prog w = .ok (.string (strOfNums (ints l))) w :=
  (bytesIn_of h).convert (P := Tryd.prog) (ints_len l) c 31 5 9 (by kernel_rfl) (by kernel_rfl) (by kernel_rfl)
set_option maxHeartbeats 400000 in
theorem Equal_any (l r : List UInt8) (B B' : Nat) (A A' : Option Addr) (c c' : Nat) (w : World) (hA : Sl w B A (l.map u8v)) (hA' : Sl w B' A' (r.map u8v)) :
    Calls Tryd.prog 28 #[.slice A l.length c, .slice A' r.length c'] w fun e w' => e = .returned (.bool (l == r)) ∧ w = w' := by
  have h1 := conv_bytes l B A c w hA
  have h2 := conv_bytes r B' A' c' w hA'
  have he : ((strOfNums (ints l)).toList == (strOfNums (ints r)).toList) = (l == r) := by rw [ints_back, ints_back]
  clear hA hA'
  generalize (l == r) = q at *
  generalize strOfNums (ints l) = x at *
  generalize strOfNums (ints r) = y at *
  go_enter Tryd.func28, Tryd.ntmps28
  go_wp2
  go_ret
  exact ⟨rfl, rfl⟩
/-- the lengths written otherwise -/
theorem Equal_at (n n' : Nat) (l r : List UInt8) (hn : l.length = n) (hn' : r.length = n') (B B' : Nat) (A A' : Option Addr) (c c' : Nat) (w : World) (hA : Sl w B A (l.map u8v)) (hA' : Sl w B' A' (r.map u8v)) (q : Bool) (hq : (l == r) = q) :
    Calls Tryd.prog 28 #[.slice A n c, .slice A' n' c'] w fun e w' => e = .returned (.bool q) ∧ w = w' := by
  subst hn
  subst hn'
  subst hq
  exact Equal_any l r B B' A A' c c' w hA hA'
theorem eq_of_takes {l r : List UInt8} (hn : l.length = r.length) (h : l.take l.length = r.take l.length) : l = r := by
  rw [List.take_length] at h
  rw [h, hn, List.take_length]
set_option maxHeartbeats 400000 in
theorem Same_len (n n' : Nat) (h : n ≠ n') (A A' : Option Addr) (c c' : Nat) (w : World) :
    Calls Tryd.prog 9 #[.slice A n c, .slice A' n' c'] w fun e w' => e = .returned (.bool false) ∧ ∃ n, w' = w.drewN n := by
  have h1 : ((n : Int) != (n' : Int)) = true := by rw [bne_iff_ne]; omega
  have h2 : (n != n') = true := by rw [bne_iff_ne]; omega
  clear h
  go_enter Tryd.func9, Tryd.ntmps9
  go_wp2
  go_ret
  exact ⟨rfl, 0, rfl⟩
set_option maxHeartbeats 400000 in
theorem Same_eq (l r : List UInt8) (hn : r.length = l.length) (B B' : Nat) (A A' : Option Addr) (c c' : Nat) (w : World) (hA : Sl w B A (l.map u8v)) (hA' : Sl w B' A' (r.map u8v)) (hl : l.length ≤ 140737488355328) :
    Calls Tryd.prog 9 #[.slice A l.length c, .slice A' l.length c'] w fun e w' => e = .returned (.bool (l == r)) ∧ ∃ n, w' = w.drewN n := by
  have HA := Lib.hid hA
  have HA' := Lib.hid hA'
  have HN := Lib.hid hn
  clear hA hA' hn
  go_enter Tryd.func9, Tryd.ntmps9
  go_wp2
  go_loopw [5] (fun i wr => ∃ k n : Nat, k ≤ l.length ∧ i = .int .i64 k ∧ wr = w.drewN n ∧ Hid (l.take k = r.take k)) (fun i _ => l.length - (intOf i).toNat)
  case atStart => exact ⟨0, 0, Nat.zero_le _, rfl, rfl, Lib.hid rfl⟩
  case round =>
    obtain ⟨k, n, hk, rfl, rfl, HK⟩ := hrel
    by_cases hlt : k < l.length
    · have hlt' : k < r.length := by rw [HN.out]; exact hlt
      obtain ⟨a, rfl, _, hc⟩ := HA.out.u8 hlt
      obtain ⟨a', rfl, _, hc'⟩ := HA'.out.u8 hlt'
      have H1 := Lib.hid (List.take_succ_eq_append_getElem hlt)
      have H2 := Lib.hid (List.take_succ_eq_append_getElem hlt')
      by_cases hxy : l[k] = r[k]
      · have HS : Hid (l.take (k + 1) = r.take (k + 1)) := Lib.hid (by rw [H1.out, H2.out, HK.out, hxy])
        rw [hxy] at hc
        have hx := byte_lt r[k]
        generalize r[k].toNat = x at hc hc' hx
        clear hxy
        go_wp2
        go_quiet (fail)
        go_wp2
        go_roundw
        case rel => exact ⟨k + 1, n + nq, by omega, by go_num, rfl, HS⟩
        case measure => simp [intOf]; omega
      · have HF : Hid ((l == r) = false) := Lib.hid (by
          rw [beq_eq_false_iff_ne]
          intro e
          subst e
          exact hxy rfl)
        have hd : ((l[k].toNat : Int) != (r[k].toNat : Int)) = true := by
          rw [bne_iff_ne]
          intro e
          exact hxy (UInt8.toNat_inj.1 (by omega))
        have hx := byte_lt l[k]
        have hy := byte_lt r[k]
        generalize l[k].toNat = x at hc hx hd
        generalize r[k].toNat = y at hc' hy hd
        clear hxy
        go_wp2
        go_quiet (fail)
        go_wp2
        go_ret
        exact ⟨by rw [HF.out]; rfl, n + nq, (World.drewN_drewN _ _ _)⟩
    · obtain rfl : k = l.length := by omega
      have HE : Hid ((l == r) = true) := Lib.hid (by rw [beq_iff_eq]; exact eq_of_takes HN.out.symm HK.out)
      go_wp2
      go_ret
      exact ⟨by rw [HE.out]; rfl, n, rfl⟩
theorem Same_any (n n' : Nat) (l r : List UInt8) (hn : l.length = n) (hn' : r.length = n') (B B' : Nat) (A A' : Option Addr) (c c' : Nat) (w : World) (hA : Sl w B A (l.map u8v)) (hA' : Sl w B' A' (r.map u8v)) (hl : n ≤ 140737488355328) (q : Bool) (hq : (l == r) = q) :
    Calls Tryd.prog 9 #[.slice A n c, .slice A' n' c'] w fun e w' => e = .returned (.bool q) ∧ ∃ n, w' = w.drewN n := by
  subst hn
  subst hn'
  by_cases h : r.length = l.length
  · subst hq
    rw [h]
    exact Same_eq l r h B B' A A' c c' w hA hA' hl
  · have hf : (l == r) = false := by
      rw [beq_eq_false_iff_ne]
      intro e
      subst e
      exact h rfl
    rw [hf] at hq
    subst hq
    exact Same_len _ _ (fun e => h e.symm) A A' c c' w
end Go.Proofs.YtkkcipjlinfieaaDoor.SEqual
