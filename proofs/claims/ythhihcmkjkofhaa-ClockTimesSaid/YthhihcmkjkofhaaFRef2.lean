/- The document's rows of bits: row, twice, plus. -/
import Derived.Test.YthhihcmkjkofhaaFRef1
import Derived.Test.YthhihcmkjkofhaaWAppend
import Derived.Test.YthhihcmkjkofhaaMk
import Derived.Deep.LoopGhost
import Derived.Handy
namespace Go.Proofs.Ythhihcmkjkofhaa.FRef2
open Go.RowKit WMem WAppend FPlain FRows FMath FCmp FExp FNano FRef1

theorem elemR : Elem Try.prog 49 4 1 := ⟨by kernel_rfl, by
  obtain ⟨i, h1, h2, h3, h4⟩ := info_parts (P := Try.prog) (e := 4) (z := .bool false) (size := 1) (bytes := 1) (by kernel_rfl)
  exact ⟨i, _, h1, h2, h3, h4, rfl⟩⟩
theorem one_b (l : List Bool) : ∀ u ∈ l.map Value.bool, u.oneCell' = true := by
  intro u hu
  obtain ⟨x, _, rfl⟩ := List.mem_map.1 hu
  rfl
theorem own_sl {w : World} {base : Nat} {e : TypeId} {v : Value} {n : Nat} {xs : List Value} (h : w.ownsRow base e 1 v n xs) :
    ∃ A c, v = .slice A n c ∧ Sl w w.heap.size A xs ∧ n ≤ c := by
  obtain ⟨hl, h | ⟨g, cap, cur, rfl, hb, hg, hnc, hcm, hcs, ht⟩⟩ := h
  · obtain ⟨rfl, rfl⟩ := h
    have : xs = [] := List.eq_nil_of_length_eq_zero (by simpa using hl)
    subst this
    exact ⟨none, 0, rfl, Sl.nil _ _ _, Nat.le_refl _⟩
  · refine ⟨_, _, rfl, Sl.of_row hg (row_lt hg) (n := n) ?_, hnc⟩
    simpa using ht
/-- a row that a call made -/
def RowOf (x m : Nat) (w : World) (e : Ending) (w' : World) : Prop := ∃ (A : Option Addr) (l : List Bool) (c : Nat), e = .returned (.slice A l.length c) ∧ num l = x ∧ l.length ≤ m ∧ Sl w' w'.heap.size A (l.map Value.bool) ∧ Below w.heap.size w w' ∧ l.length ≤ c
theorem ret_s {A : Option Addr} {m n c : Nat} (h : m = n) : Ending.returned (.slice A n c) = .returned (.slice A m c) := by rw [h]
theorem step_row (x k : Nat) (h : x < 18446744073709551616) : (0 < x / 2 ^ k → k < 64) ∧ x / 2 ^ k / 2 = x / 2 ^ (k + 1) := by
  constructor
  · intro h0
    rcases Nat.lt_or_ge k 64 with h1 | h1
    · exact h1
    · have : 2 ^ 64 ≤ 2 ^ k := Nat.pow_le_pow_right (by decide) h1
      rw [Nat.div_eq_of_lt (by omega)] at h0
      omega
  · rw [Nat.pow_succ, Nat.div_div_eq_div_mul]
set_option maxHeartbeats 400000 in
theorem row_any (x : Nat) (hx : x < 18446744073709551616) (w : World) : Calls Try.prog 35 #[.int .u64 x] w (RowOf x 64 w) := by
  have HS := Lib.hid (fun k => step_row x k hx)
  go_enter Try.func35, Try.ntmps35
  go_wp2
  go_loopw [0, 3] (fun y v wr => ∃ (k : Nat) (l : List Bool), k ≤ 64 ∧ l.length = k ∧ y = .int .u64 ((x / 2 ^ k : Nat) : Int) ∧ num l = x % 2 ^ k ∧ wr.ownsRow w.heap.size 4 1 v k (l.map Value.bool) ∧ Below w.heap.size w wr) (fun y _ _ => (intOf y).toNat)
  case atStart => exact ⟨0, [], by omega, rfl, by simp, by simp [num, Nat.mod_one], by simpa using World.ownsRow_nil w w.heap.size 4 1, Below.refl _ _⟩
  case round =>
    obtain ⟨k, l, hk, hlen, rfl, hnum, ho, hb⟩ := hrel
    obtain ⟨y, hy⟩ : ∃ y, y = x / 2 ^ k := ⟨_, rfl⟩
    rw [← hy]
    have HO := Lib.hid ho
    have HB := Lib.hid hb
    have sB := hb.size
    rcases Nat.eq_zero_or_pos y with h0 | h0
    · have hfin : num l = x := by
        have := Nat.div_add_mod x (2 ^ k)
        rw [← hy, h0, Nat.mul_zero, Nat.zero_add] at this
        rw [hnum, this]
      obtain ⟨A, c, rfl, hsl, hcc⟩ := own_sl ho
      have d : decide (0 < y) = false := by simp; omega
      clear ho hb hy h0
      go_wp2
      go_ret
      exact ⟨A, l, c, ret_s hlen, hfin, by omega, hsl, HB.out, by omega⟩
    · have hk64 := (HS.out k).1 (by rw [← hy]; exact h0)
      have hnext := (HS.out k).2
      rw [← hy] at hnext
      obtain ⟨b, hb2⟩ : ∃ b, bit x k = b := ⟨_, rfl⟩
      have hq : ((y : Int) % 2 == 1) = b := by
        rw [← hb2]; unfold bit; rw [← hy, Bool.eq_iff_iff]; simp only [beq_iff_eq, decide_eq_true_eq]; omega
      have hmore := mod_more x k
      rw [hb2] at hmore
      have HM := Lib.hid hmore
      have HN := Lib.hid hnum
      have d : decide (0 < y) = true := by simpa using h0
      obtain ⟨z, hz⟩ : ∃ z, z = y / 2 := ⟨_, rfl⟩
      have hy2 : (y : Int) / 2 = (z : Int) := by omega
      have hlt : z < y := by omega
      have hyx : y ≤ x := by rw [hy]; exact Nat.div_le_self _ _
      have hwz : IntKind.u64.wrap (z : Int) = (z : Int) := by clear hmore hq; rw [IntKind.wrap_u64]; omega
      clear hyx
      rw [← hz] at hnext
      have HNX := Lib.hid hnext
      have HLT := Lib.hid hlt
      clear ho hb hy hmore hnum hb2 hlt hnext hz
      have HX : Hid (Sl (wr.alloc (.cells #[.bool b] 4)) (wr.heap.size + 1) (some ⟨wr.heap.size, 0, none⟩) [.bool b]) := Lib.hid (Sl.of_row (n := 1) (row_new _ _) (by omega) rfl)
      have HO2 := Lib.hid (HO.out.alloc (.cells #[.bool b] 4))
      go_wp2_with (at_builtin; go_loud (refine wl_append rfl (.tmp 6) (.tmp 10) 49 rfl w.heap.size 4 1 elemR _ k _ rfl HO2.out (wr.heap.size + 1) (some ⟨wr.heap.size, 0, none⟩) 1 1 [.bool b] rfl rfl HX.out (by simp [Value.oneCell']) (by omega) (by unfold maxLen; omega) (by simp; omega) ?_); intro v' w1 h1 h2 h3
                   have b1 : Below w.heap.size w w1 := (HB.out.alloc sB _).grown h2 (by simp; omega) (fun q hq => (HO.out.lt q hq).1)
                   have H1 := Lib.hid h1
                   have HB1 := Lib.hid b1
                   clear h1 h2 h3 b1)
      go_roundw
      case rel => exact ⟨k + 1, l ++ [b], by omega, by simp [hlen], by rw [HNX.out], by rw [num_append, hlen, HN.out, HM.out]; simp [num], by rw [List.map_append]; exact H1.out, HB1.out⟩
      case measure => have := HLT.out; simp only [intOf]; clear hwz; omega
theorem own_is {g o m c k : Nat} (h : (Value.slice (some ⟨g, o, none⟩) m c).ownBlock = some k) : g ≤ k := Nat.le_of_eq (Option.some.inj h)
theorem made_row (n : Nat) (hn : n ≤ 100000) (w : World) : (Instr.makeSlice 49 (.int .i64 (n : Int)) (.int .i64 (n : Int))).run Try.prog w = .ok (.slice (some ⟨w.heap.size, 0, none⟩) n n) (w.alloc (.cells (List.replicate n (Value.bool false)).toArray 4)) := by
  obtain ⟨i, h1, h2, h3, h4⟩ := info_parts (P := Try.prog) (e := 4) (z := .bool false) (size := 1) (bytes := 1) (by kernel_rfl)
  have h := run_make (P := Try.prog) w 49 4 i (.bool false) (by kernel_rfl) h1 h2 .i64 .i64 n n (by omega) (by omega) (by rw [h4]; omega) (by omega)
  rw [h]
  simp only [Int.toNat_natCast, h3, Nat.mul_one]
  rw [← Mk.made_one]
  rfl
theorem own_made (n : Nat) (hn : n ≤ 100000) (w : World) : (w.alloc (.cells (List.replicate n (Value.bool false)).toArray 4)).ownsRow w.heap.size 4 1 (.slice (some ⟨w.heap.size, 0, none⟩) n n) n ((List.replicate n false).map Value.bool) := by
  refine ⟨by simp, .inr ⟨w.heap.size, n, _, rfl, Nat.le_refl _, heap_alloc_new w _, Nat.le_refl _, by unfold maxLen; omega, by simp, by simp⟩⟩
set_option maxHeartbeats 400000 in
theorem twice_any (l : List Bool) (n : Nat) (B : Nat) (A : Option Addr) (c : Nat) (w : World) (hl : l.length ≤ 100000) (hn : n ≤ 100000) (hB : B ≤ w.heap.size) (hA : Sl w B A (l.map Value.bool)) :
    Calls Try.prog 37 #[.slice A l.length c, .int .i64 n] w (RowOf (2 ^ n * num l) (n + l.length) w) := by
  have hm := made_row n hn w
  obtain ⟨R, hR⟩ : ∃ R, R = (List.replicate n (Value.bool false)).toArray := ⟨_, rfl⟩
  have HO := Lib.hid (own_made n hn w)
  rw [← hR] at HO hm
  have HA : Hid (Sl (w.alloc (.cells R 4)) B A (l.map Value.bool)) := Lib.hid (hA.keep fun q hq => World.cell?_alloc_lt w _ q (by omega))
  clear hA hR
  go_enter Try.func37, Try.ntmps37
  go_wp2_with (at_builtin; go_loud (refine wl_append rfl (.tmp 8) (.tmp 9) 49 rfl w.heap.size 4 1 elemR _ n _ rfl HO.out B A l.length c (l.map Value.bool) rfl (by simp) HA.out (one_b l) (by omega) (by unfold maxLen; omega) (by simp) ?_); intro v' w1 h1 h2 h3
               have b1 : Below w.heap.size w w1 := ((Below.refl _ _).alloc (Nat.le_refl _) _).grown h2 (by simp) (fun k hk => own_is hk)
               have H1 := Lib.hid h1
               have HB1 := Lib.hid b1
               clear h1 h2 h3 b1)
  have h1 := H1.out
  rw [← List.map_append] at h1
  obtain ⟨A', c', rfl, hsl, hcc⟩ := own_sl h1
  clear h1
  go_ret
  exact ⟨A', _, c', ret_s (by simp), by rw [num_append, num_none, List.length_replicate, Nat.zero_add], by simp, hsl, HB1.out, by simpa using hcc⟩
end Go.Proofs.Ythhihcmkjkofhaa.FRef2
