/- DiskReads walked: what was written is read, from that block, and no other block turns by it. -/
import Derived.Test.YtkemakemolohdaaLCopies
namespace Go.Proofs.Ytkemakemolohdaa.LReads
open Go.RowKit WMem WPlain WAppend Ext Map DPlain DMem Mk DBase DRead DPend DWrite DFlush DPending DCopy RNew RRead RWrite RFlush DLaw LStep LStepP LAlike LAwake LMade LLoses LCopies

def rdOpt (s : St) (n : Int) : Option (List UInt8) := if 0 ≤ n ∧ n < s.L.length then some (s.readAt n.toNat) else none
def rerr (s : St) (n : Int) : Int := if 0 ≤ n ∧ n < s.L.length then 0 else 5
/-- v is what a read answers: nothing, or a block -/
def ValAt (w : World) (v : Value) : Option (List UInt8) → Prop
  | none => v = .slice none 0 0
  | some l => ∃ g, v = .slice (some ⟨g, 0, none⟩) 256 256 ∧ g < w.heap.size ∧ l.length = 256 ∧ Row w g l []
theorem ValAt.below {w w' : World} {v : Value} {o : Option (List UInt8)} (h : ValAt w v o) (hb : Below w.heap.size w w') : ValAt w' v o := by
  cases o with
  | none => exact h
  | some l =>
    obtain ⟨g, h1, h2, h3, h4⟩ := h
    exact ⟨g, h1, Nat.lt_of_lt_of_le h2 hb.size, h3, h4.keep hb h2⟩
theorem ValAt.ext {w w' : World} {S : Nat → Prop} {v : Value} {o : Option (List UInt8)} (h : ValAt w v o) (he : Ext S w w') (hn : ∀ g, v = .slice (some ⟨g, 0, none⟩) 256 256 → ¬ S g) : ValAt w' v o := by
  cases o with
  | none => exact h
  | some l =>
    obtain ⟨g, h1, h2, h3, h4⟩ := h
    exact ⟨g, h1, Nat.lt_of_lt_of_le h2 he.size, h3, (he.block g h2 (hn g h1)).trans h4⟩
theorem ReadU (S : Nat → Prop) (b : Nat) (n : Int) (s : St) (w : World) (hd : DD w S b s) :
    Calls Try.prog 20 #[.pointer (some ⟨b, 0, none⟩), .int .i64 n] w fun e w' => ∃ v, e = .returned (.tuple #[v, .int .i64 (rerr s n)]) ∧ ValAt w' v (rdOpt s n) ∧ Below w.heap.size w w' ∧ (∀ g, v = .slice (some ⟨g, 0, none⟩) 256 256 → w.heap.size ≤ g) := by
  unfold rerr rdOpt
  by_cases hin : 0 ≤ n ∧ n < s.L.length
  · rw [if_pos hin, if_pos hin]
    obtain ⟨k, rfl⟩ := Int.eq_ofNat_of_zero_le hin.1
    have hk : k < s.L.length := by omega
    refine (Read_yes S b k s w hd hk).mono ?_
    rintro e w' ⟨g, rfl, h1, h2, h3⟩
    exact ⟨_, rfl, ⟨g, rfl, h2.lt, by rw [Int.toNat_natCast]; exact hd.wf.read hk, by rw [Int.toNat_natCast]; exact h2⟩, h3, fun g' hg' => by injection hg' with hg'; injection hg' with hg'; injection hg' with hg'; omega⟩
  · rw [if_neg hin, if_neg hin]
    refine (Read_no S b n s w hd (by omega)).mono ?_
    rintro e w' ⟨rfl, rfl⟩
    exact ⟨_, rfl, rfl, Below.refl _ _, fun g hg => by cases hg⟩
theorem SameU (o : Option (List UInt8)) (v v' : Value) (w : World) (h : ValAt w v o) (h' : ValAt w v' o) :
    Calls Try.prog 26 #[v, v'] w fun e w' => e = .returned (.bool true) ∧ ∃ n, w' = w.drewN n := by
  cases o with
  | none => rw [show v = _ from h, show v' = _ from h']; exact Same_nil w
  | some l =>
    obtain ⟨g, rfl, _, hl, hr⟩ := h
    obtain ⟨g', rfl, _, _, hr'⟩ := h'
    exact w_same w l g g' hl hr hr'
theorem rerr_wst (s : St) (n m : Int) (l : List UInt8) : rerr (wst s n l) m = rerr s m := by unfold rerr; rw [wst_len]
theorem werr_rerr (s : St) (n : Int) : werr s n 256 = rerr s n := by unfold werr rerr; split <;> rfl
theorem rd_other (s : St) (n m : Int) (l : List UInt8) (h : n ≠ m) : rdOpt (wst s n l) m = rdOpt s m := by
  unfold rdOpt
  rw [wst_len]
  by_cases hin : 0 ≤ m ∧ m < s.L.length
  · rw [if_pos hin, if_pos hin]
    congr 1
    unfold wst
    split
    · rename_i hc
      show (lastOf (s.P ++ [(n.toNat, l)]) m.toNat).getD (s.L.getD m.toNat []) = _
      rw [lastOf_snoc, if_neg (by show n.toNat ≠ m.toNat; omega)]
      rfl
    · rfl
  · rw [if_neg hin, if_neg hin]
theorem rd_same (s : St) (n : Int) (l : List UInt8) (h : 0 ≤ n ∧ n < s.L.length) (hl : l.length = 256) : rdOpt (wst s n l) n = some l := by
  unfold rdOpt
  rw [wst_len, if_pos h]
  congr 1
  unfold wst
  rw [if_pos ⟨h.1, h.2, hl⟩]
  show (lastOf (s.P ++ [(n.toNat, l)]) n.toNat).getD (s.L.getD n.toNat []) = _
  rw [lastOf_snoc, if_pos rfl]
  rfl

set_option maxHeartbeats 8000000 in
set_option maxRecDepth 100000 in
theorem reads (blocks n fill other : Int) (ops : List OpV) (A : Option Addr) (c : Nat) (w : World) (hA : OpsIn w w.heap.size A ops) (hl : ops.length ≤ 140737488355328) :
    Calls Try.prog 6 #[.int .i64 blocks, .slice A ops.length c, .int .i64 n, .int .i64 fill, .int .i64 other] w fun e w' => e = .returned (.bool true) ∧ Below w.heap.size w w' := by
  have HA := Lib.hid hA
  clear hA
  go_enter Try.func6, Try.ntmps6
  go_wp2_with fail
  refine (awake_any w).mono ?_
  rintro e w1 ⟨rfl, hb1⟩
  have hs1 := hb1.size
  have HB1 := Lib.hid hb1
  clear hb1
  go_wp2_with fail
  refine (made_any blocks ops w.heap.size A c w1 (HA.out.below HB1.out (Nat.le_refl _)) hs1 hl).mono ?_
  rintro e w2 ⟨d, S2, rfl, ho⟩
  have hN := (made_facts (128 + low127 blocks) ops (cut ops.length 500) (cut_le _ _)).1
  have O2 : Hid (Own w w2 S2 d _) := Own.up ho HB1.out
  clear ho
  generalize runs (St.new (128 + low127 blocks)) ops (cut ops.length 500) = s at *
  go_wp2_with fail
  refine (ReadU S2 d other s w2 O2.out.dd).mono ?_
  rintro e w3 ⟨v1, rfl, hv1, hb3, hn3⟩
  have O3 := Lib.hid (O2.out.go hb3)
  have V1 := Lib.hid hv1
  have N1 : Hid (∀ g, v1 = .slice (some ⟨g, 0, none⟩) 256 256 → ¬ S2 g) := fun g hg hq => by have := hn3 g hg; have := O2.out.dd.there g hq; omega
  clear hv1 hb3 hn3
  go_wp2_with fail
  refine (filled_at fill w3).mono ?_
  rintro e w4 ⟨g4, rfl, hg4, hR4, hb4⟩
  have O4 := Lib.hid (O3.out.go hb4)
  have V4 := Lib.hid (V1.out.below hb4)
  have HSL := Lib.hid (hR4.sl hR4.lt)
  clear hg4 hR4 hb4
  go_wp2_with fail
  refine (WriteU S2 d n s (full (octet fill)) w4.heap.size (some ⟨g4, 0, none⟩) 256 256 w4 O4.out.dd HSL.out (Nat.le_refl _) (full_len _) (Nat.le_refl _) (by omega)).mono ?_
  rintro e w5 ⟨rfl, S5, hd5, he5, hi5⟩
  have O5 := Lib.hid (O4.out.turn hd5 he5 hi5)
  have V5 := Lib.hid (V4.out.ext he5 N1.out)
  clear hd5 he5 hi5
  go_wp2_with fail
  refine (ReadU S5 d n _ w5 O5.out.dd).mono ?_
  rintro e w6 ⟨v2, rfl, hv2, hb6, _⟩
  have O6 := Lib.hid (O5.out.go hb6)
  have V6 := Lib.hid (V5.out.below hb6)
  have U6 := Lib.hid hv2
  clear hv2 hb6
  go_wp2_with fail
  refine (ReadU S5 d other _ w6 O6.out.dd).mono ?_
  rintro e w7 ⟨v3, rfl, hv3, hb7, _⟩
  have O7 := Lib.hid (O6.out.go hb7)
  have V7 := Lib.hid (V6.out.below hb7)
  have U7 := Lib.hid (U6.out.below hb7)
  have T7 := Lib.hid hv3
  clear hv3 hb7
  rw [rerr_wst, rerr_wst, werr_rerr]
  have hlen := wst_len s n (full (octet fill))
  have HC0 : Hid (w7.cell? ⟨d, 0, none⟩ = some (.int .i64 s.L.length)) := by
    have h1 := O7.out.dd.c0
    rw [hlen] at h1
    exact h1
  clear hlen
  by_cases hno : n = other
  · subst hno
    have hb2 : (n == n) = true := beq_self_eq_true _
    by_cases hin : 0 ≤ n ∧ n < s.L.length
    · have hr : rerr s n = 0 := if_pos hin
      have RD := Lib.hid (rd_same s n (full (octet fill)) hin (full_len _))
      obtain ⟨hge, hlt⟩ := hin
      rw [hr]
      clear hr
      go_wp2_with fail
      refine (Blocks_at d _ w7 HC0.out).mono ?_
      rintro e w' ⟨rfl, rfl⟩
      go_wp2_with fail
      refine (filled_at fill w7).mono ?_
      rintro e w8 ⟨g8, rfl, hg8, hR8, hb8⟩
      have O8 := Lib.hid (O7.out.go hb8)
      have U8 : Hid (ValAt w8 v2 (some (full (octet fill)))) := by
        have h1 := U7.out.below hb8
        rw [RD.out] at h1
        exact h1
      have F8 : Hid (ValAt w8 (.slice (some ⟨g8, 0, none⟩) 256 256) (some (full (octet fill)))) := ⟨g8, rfl, hR8.lt, full_len _, hR8⟩
      clear hg8 hR8 hb8
      go_wp2_with fail
      refine (SameU _ _ _ w8 U8.out F8.out).mono ?_
      rintro e w9 ⟨rfl, m, rfl⟩
      go_wp2
      go_ret
      exact ⟨rfl, (O8.out.drewN m).below⟩
    · have hr : rerr s n = 5 := if_neg hin
      have hcase : n < 0 ∨ (0 ≤ n ∧ (s.L.length : Int) ≤ n) := by omega
      rw [hr]
      clear hr hin
      rcases hcase with h0 | ⟨h0, h1⟩
      · go_wp2
        go_ret
        exact ⟨rfl, O7.out.below⟩
      · go_wp2_with fail
        refine (Blocks_at d _ w7 HC0.out).mono ?_
        rintro e w' ⟨rfl, rfl⟩
        go_wp2
        go_ret
        exact ⟨rfl, O7.out.below⟩
  · have hb2 : (n == other) = false := by rw [beq_eq_false_iff_ne]; exact hno
    have RO := Lib.hid (rd_other s n other (full (octet fill)) hno)
    have T8 : Hid (ValAt w7 v3 (rdOpt s other)) := by
      have h1 := T7.out
      rw [RO.out] at h1
      exact h1
    clear hno
    by_cases hin : 0 ≤ n ∧ n < s.L.length
    · have hr : rerr s n = 0 := if_pos hin
      have RD := Lib.hid (rd_same s n (full (octet fill)) hin (full_len _))
      obtain ⟨hge, hlt⟩ := hin
      rw [hr]
      clear hr
      go_wp2_with fail
      refine (Blocks_at d _ w7 HC0.out).mono ?_
      rintro e w' ⟨rfl, rfl⟩
      go_wp2_with fail
      refine (filled_at fill w7).mono ?_
      rintro e w8 ⟨g8, rfl, hg8, hR8, hb8⟩
      have O8 := Lib.hid (O7.out.go hb8)
      have V8 := Lib.hid (V7.out.below hb8)
      have T9 := Lib.hid (T8.out.below hb8)
      have U8 : Hid (ValAt w8 v2 (some (full (octet fill)))) := by
        have h1 := U7.out.below hb8
        rw [RD.out] at h1
        exact h1
      have F8 : Hid (ValAt w8 (.slice (some ⟨g8, 0, none⟩) 256 256) (some (full (octet fill)))) := ⟨g8, rfl, hR8.lt, full_len _, hR8⟩
      clear hg8 hR8 hb8
      go_wp2_with fail
      refine (SameU _ _ _ w8 U8.out F8.out).mono ?_
      rintro e w9 ⟨rfl, m, rfl⟩
      have V9 := Lib.hid (V8.out.below (below_drewN (Below.refl _ _) m))
      have T10 := Lib.hid (T9.out.below (below_drewN (Below.refl _ _) m))
      have O9 := Lib.hid (O8.out.drewN m)
      generalize w8.drewN m = w9 at *
      go_wp2_with fail
      refine (SameU _ _ _ w9 V9.out T10.out).mono ?_
      rintro e w10 ⟨rfl, m2, rfl⟩
      go_wp2
      go_ret
      exact ⟨rfl, (O9.out.drewN m2).below⟩
    · have hr : rerr s n = 5 := if_neg hin
      have hcase : n < 0 ∨ (0 ≤ n ∧ (s.L.length : Int) ≤ n) := by omega
      rw [hr]
      clear hr hin
      rcases hcase with h0 | ⟨h0, h1⟩
      · go_wp2_with fail
        refine (SameU _ _ _ w7 V7.out T8.out).mono ?_
        rintro e w10 ⟨rfl, m2, rfl⟩
        go_wp2
        go_ret
        exact ⟨rfl, (O7.out.drewN m2).below⟩
      · go_wp2_with fail
        refine (Blocks_at d _ w7 HC0.out).mono ?_
        rintro e w' ⟨rfl, rfl⟩
        go_wp2_with fail
        refine (SameU _ _ _ w7 V7.out T8.out).mono ?_
        rintro e w10 ⟨rfl, m2, rfl⟩
        go_wp2
        go_ret
        exact ⟨rfl, (O7.out.drewN m2).below⟩
end Go.Proofs.Ytkemakemolohdaa.LReads
