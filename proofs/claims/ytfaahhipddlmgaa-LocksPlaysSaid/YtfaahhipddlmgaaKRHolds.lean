/- The document's locks in memory: Holds. -/
import Derived.Test.YtfaahhipddlmgaaKRMem
namespace Go.Proofs.Ytfaahhipddlmgaa.KRHolds
open Go.RowKit WMem Ext KMap KPlain KMem KDel KAsk KLeave KClaims KLaw KScript KBits KAPlain KRPlain KRMem

theorem aheadOf_succ (L : List E) (k : Int) {i : Nat} (hi : i < L.length) : aheadOf L k (i + 1) = aheadOf L k i + (if (atE L i).2.1 == k then 1 else 0) := by
  unfold aheadOf
  rw [List.take_add_one, List.getElem?_eq_getElem hi, List.filter_append, List.length_append, atE_get L hi]
  congr 1
  by_cases h : L[i].2.1 == k <;> simp [h]
theorem alone_succ (L : List E) (k : Int) (p : Nat) {i : Nat} (hi : i < L.length) : aloneTo L k p (i + 1) = (aloneTo L k p i || ((atE L i).2.1 == k && (atE L i).2.2)) := by
  unfold aloneTo
  rw [List.take_add_one, List.getElem?_eq_getElem hi, List.filter_append, List.any_append, atE_get L hi, Bool.or_assoc]
  congr 2
  by_cases h : L[i].2.1 == k <;> simp [h]

set_option maxRecDepth 100000 in
set_option maxHeartbeats 1600000 in
theorem rHolds_walk (b i : Nat) (L : List E) (A : Option Addr) (c : Nat) (th key : Int) (w : World) (c0 : w.cell? ⟨b, 0, none⟩ = some (.slice A L.length c)) (hl : L.length ≤ 1073741824) (hp : placeE L th key = some i)
    (ho : w.ownsRow 0 66 3 (.slice A L.length c) L.length (ecells L)) :
    Calls Try.prog 17 #[.pointer (some ⟨b, 0, none⟩), .int .i64 th, .int .i64 key] w fun e w' => e = .returned (.bool (rHolds L th key)) ∧ w' = w := by
  have hat := At_walk b L A c th key w c0 hl ho
  have e : atV L th key = (i : Int) := by unfold atV; rw [hp]
  rw [e] at hat
  have HAT := Lib.hid hat
  have HO := Lib.hid ho
  have hi := (placeE_some.1 hp).1
  have HV : Hid (rHolds L th key = ((aheadOf L key i == 0) || !(aloneTo L key i i))) := by show _ = _; unfold rHolds; rw [hp]
  obtain ⟨g, hA, p0, p1, p2⟩ := row_at ho hi
  subst hA
  have hi1 : (i : Int) < (L.length : Int) := by omega
  have H0 : Hid (aloneTo L key i 0 = (atE L i).2.2) := by show _ = _; simp [aloneTo]
  have HI : Hid (i < L.length) := hi
  clear hat e hp ho p0 p1
  generalize (atE L i).2.2 = ali at *
  go_enter Try.func17, Try.ntmps17
  go_wp2_with (go_at_call 25; refine HAT.out.mono ?_; rintro e w' ⟨rfl, hww⟩; have hww := hww.symm; subst hww)
  go_loopw [8, 9, 10] (fun x y z wr => ∃ (k : Nat), k ≤ i ∧ x = .int .i64 (aheadOf L key k : Nat) ∧ y = .bool (aloneTo L key i k) ∧ z = .int .i64 k ∧ wr = w) (fun _ _ z _ => i - (intOf z).toNat)
  case atStart => exact ⟨0, Nat.zero_le _, rfl, by rw [H0.out], rfl, rfl⟩
  case round =>
    obtain ⟨k, hk, rfl, rfl, rfl, rfl⟩ := hrel
    by_cases hlt : k < i
    · have hkl : k < L.length := by have := HI.out; omega
      obtain ⟨g', hA', _, q1, q2⟩ := row_at HO.out hkl
      cases hA'
      have HS1 := Lib.hid (aheadOf_succ L key hkl)
      have HS2 := Lib.hid (alone_succ L key i hkl)
      have hk1 : (k : Int) < (i : Int) := by omega
      have hk2 : (k : Int) < (L.length : Int) := by omega
      have hle : aheadOf L key k ≤ 1073741824 := by
        unfold aheadOf
        refine Nat.le_trans (List.length_filter_le _ _) ?_
        rw [List.length_take]
        omega
      generalize atE L k = ek at *
      obtain ⟨t, ky, al⟩ := ek
      generalize aheadOf L key k = m at *
      generalize aloneTo L key i k = y at *
      cases h1 : ky == key
      · have HT1 : Hid (aheadOf L key (k + 1) = m) := by have h := HS1.out; simp only [h1] at h; exact h
        have HT2 : Hid (aloneTo L key i (k + 1) = y) := by have h := HS2.out; simp only [h1, Bool.false_and, Bool.or_false] at h; exact h
        clear HS1 HS2
        go_wp2_with fail
        go_roundw
        case rel => exact ⟨k + 1, by omega, by rw [HT1.out], by rw [HT2.out], by go_num, by first | rfl | trivial⟩
        case measure => simp [intOf]; omega
      · have HT1 : Hid (aheadOf L key (k + 1) = m + 1) := by have h := HS1.out; simp only [h1] at h; exact h
        have HT2 : Hid (aloneTo L key i (k + 1) = (y || al)) := by have h := HS2.out; simp only [h1, Bool.true_and] at h; exact h
        clear HS1 HS2
        cases y
        all_goals
          go_wp2_with fail
          go_roundw
          case rel => exact ⟨k + 1, by omega, by rw [HT1.out]; go_num, by rw [HT2.out]; rfl, by go_num, by first | rfl | trivial⟩
          case measure => simp [intOf]; omega
    · obtain rfl : k = i := by omega
      clear hlt
      generalize aheadOf L key k = m at *
      generalize aloneTo L key k k = y at *
      by_cases hm : m = 0
      · subst hm
        have HV1 : Hid (rHolds L th key = true) := by show _ = _; rw [HV.out]; rfl
        clear HV
        go_wp2_with fail
        go_ret
        exact ⟨by rw [HV1.out]; rfl, by first | rfl | trivial⟩
      · have HV1 : Hid (rHolds L th key = !y) := by show _ = _; rw [HV.out, beq_eq_false_iff_ne.2 hm]; rfl
        have hm1 : ((m : Int) == 0) = false := by rw [beq_eq_false_iff_ne]; omega
        clear HV hm
        go_wp2_with fail
        go_ret
        exact ⟨by rw [HV1.out]; rfl, by first | rfl | trivial⟩
set_option maxHeartbeats 400000 in
theorem rHolds_no (S : Nat → Prop) (b : Nat) (L : List E) (th key : Int) (w : World) (h : RT w S b L) (hl : L.length ≤ 1073741824) (hp : placeE L th key = none) :
    Calls Try.prog 17 #[.pointer (some ⟨b, 0, none⟩), .int .i64 th, .int .i64 key] w fun e w' => e = .returned (.bool false) ∧ w' = w := by
  have hat := At_ok S b L th key w h hl
  have e : atV L th key = -1 := by unfold atV; rw [hp]
  rw [e] at hat
  have HAT := Lib.hid hat
  clear hat e hp h hl
  go_enter Try.func17, Try.ntmps17
  go_wp2_with (go_at_call 25; refine HAT.out.mono ?_; rintro e w' ⟨rfl, rfl⟩)
  go_ret
  exact ⟨rfl, rfl⟩
theorem rHolds_any (S : Nat → Prop) (b : Nat) (L : List E) (th key : Int) (w : World) (h : RT w S b L) (hl : L.length ≤ 1073741824) (q : Bool) (hq : rHolds L th key = q) :
    Calls Try.prog 17 #[.pointer (some ⟨b, 0, none⟩), .int .i64 th, .int .i64 key] w fun e w' => e = .returned (.bool q) ∧ w' = w := by
  subst hq
  cases hp : placeE L th key with
  | none =>
    have e : rHolds L th key = false := by unfold rHolds; rw [hp]
    rw [e]
    exact rHolds_no S b L th key w h hl hp
  | some i =>
    obtain ⟨v, hx⟩ := h
    obtain ⟨A, c, rfl⟩ := own_form hx.row.1
    exact rHolds_walk b i L A c th key w ((row_cell hx.block 0).trans rfl) hl hp hx.row.1
end Go.Proofs.Ytfaahhipddlmgaa.KRHolds
