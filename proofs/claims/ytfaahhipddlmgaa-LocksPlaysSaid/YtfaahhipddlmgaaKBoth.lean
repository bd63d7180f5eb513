/- Both tables, the program's and the document's, apart from one another; and that a key's rows are the same. -/
import Derived.Test.YtfaahhipddlmgaaKRAsk
import Derived.Test.YtfaahhipddlmgaaKRHolds
import Derived.Deep.RegionHeld3
import Derived.Deep.DeepMust
import Derived.Deep.DeepFit
import Derived.BigQuiet
namespace Go.Proofs.Ytfaahhipddlmgaa.KBoth
open Go.RowKit WMem Ext KMap KPlain KMem KDel KAsk KLeave KClaims KLaw KScript KBits KAPlain KRPlain KRMem KRAsk KRHolds

structure Both (a w : World) (S Q : Nat → Prop) (b r : Nat) (R : Rw) (L : List E) (n : Nat) : Prop where
  tab : Tab w S b R n
  doc : RT w Q r L
  far : Far S Q
  newS : ∀ q, S q → a.heap.size ≤ q
  newQ : ∀ q, Q q → a.heap.size ≤ q
  below : Below a.heap.size a w
section
variable {a w w' : World} {S Q : Nat → Prop} {b r n : Nat} {R : Rw} {L : List E}
theorem Both.own (h : Both a w S Q b r R L n) : OwnT a w S b R n := ⟨h.tab, h.newS, h.below⟩
theorem Both.go (h : Both a w S Q b r R L n) (hb : Below w.heap.size w w') : Both a w' S Q b r R L n := ⟨h.tab.below hb, h.doc.below hb, h.far, h.newS, h.newQ, h.below.trans (hb.mono h.below.size)⟩
theorem Both.ext {P : Nat → Prop} (h : Both a w S Q b r R L n) (he : Ext P w w') (hS : Far P S) (hQ : Far P Q) (hP : ∀ q, P q → a.heap.size ≤ q) : Both a w' S Q b r R L n := ⟨h.tab.ext he hS, h.doc.ext he hQ, h.far, h.newS, h.newQ, h.below.trans (he.below h.below.size hP)⟩
theorem Both.mono (h : Both a w S Q b r R L n) {n' : Nat} (hn : n ≤ n') : Both a w S Q b r R L n' := ⟨h.tab.mono hn, h.doc, h.far, h.newS, h.newQ, h.below⟩
theorem Both.askP (h : Both a w S Q b r R L n) (th key : Int) (al : Bool) (hk : Fits key) (hn : n < 1073741824) (q : Int) (hq : (if askOk R th key = true then 0 else 22) = q) :
    Calls Try.prog 12 #[.pointer (some ⟨b, 0, none⟩), .int .i64 th, .int .i64 key, .bool al] w fun e w' => e = .returned (.int .i64 q) ∧ ∃ S', Both a w' S' Q b r (askd R th key al) L (n + 1) ∧ Ext S w w' ∧ In S' S w := by
  subst hq
  refine (Ask_tab S b n R th key al w h.tab hk hn).mono ?_
  rintro e w' ⟨rfl, S', h1, h2, h3⟩
  have hb := h2.below h.below.size h.newS
  exact ⟨rfl, S', ⟨h1, h.doc.ext h2 h.far, h.far.step h3 h.doc.there, in_new h3 h.newS h.below.size, h.newQ, h.below.trans hb⟩, h2, h3⟩
theorem Both.leaveP (h : Both a w S Q b r R L n) (th key : Int) (hk : Fits key) (hn : n < 1073741824) (q : Int) (hq : (if has (R key) th = true then 0 else 22) = q) :
    Calls Try.prog 14 #[.pointer (some ⟨b, 0, none⟩), .int .i64 th, .int .i64 key] w fun e w' => e = .returned (.int .i64 q) ∧ ∃ S', Both a w' S' Q b r (leavd R th key) L (n + 1) ∧ Ext S w w' ∧ In S' S w := by
  subst hq
  refine (Leave_tab S b n R th key w h.tab hk hn).mono ?_
  rintro e w' ⟨rfl, S', h1, h2, h3⟩
  have hb := h2.below h.below.size h.newS
  exact ⟨rfl, S', ⟨h1, h.doc.ext h2 h.far, h.far.step h3 h.doc.there, in_new h3 h.newS h.below.size, h.newQ, h.below.trans hb⟩, h2, h3⟩
theorem Both.holdsP (h : Both a w S Q b r R L n) (th key : Int) (hk : Fits key) (hn : n ≤ 1073741824) (q : Bool) (hq : holdd R th key = q) :
    Calls Try.prog 16 #[.pointer (some ⟨b, 0, none⟩), .int .i64 th, .int .i64 key] w fun e w' => e = .returned (.bool q) ∧ Both a w' S Q b r R L n ∧ Below w.heap.size w w' := by
  subst hq
  refine (Holds_tab S b n R th key w h.tab hk hn).mono ?_
  rintro e w' ⟨rfl, h1⟩
  exact ⟨rfl, h.go h1, h1⟩
theorem Both.askQ (h : Both a w S Q b r R L n) (th key : Int) (al : Bool) (hl : L.length < 1073741824) (q : Int) (hq : (if rOk L th key = true then 0 else 22) = q) :
    Calls Try.prog 13 #[.pointer (some ⟨r, 0, none⟩), .int .i64 th, .int .i64 key, .bool al] w fun e w' => e = .returned (.int .i64 q) ∧ ∃ Q', Both a w' S Q' b r R (rAsk L th key al) n ∧ Ext Q w w' ∧ In Q' Q w := by
  refine (rAsk_any Q r L th key al w h.doc hl q hq).mono ?_
  rintro e w' ⟨rfl, Q', h1, h2, h3⟩
  have hb := h2.below h.below.size h.newQ
  exact ⟨rfl, Q', ⟨h.tab.ext h2 h.far.symm, h1, (h.far.symm.step h3 h.tab.there).symm, h.newS, in_new h3 h.newQ h.below.size, h.below.trans hb⟩, h2, h3⟩
theorem Both.leaveQ (h : Both a w S Q b r R L n) (th key : Int) (hl : L.length ≤ 1073741824) (q : Int) (hq : (if (placeE L th key).isSome = true then 0 else 22) = q) :
    Calls Try.prog 15 #[.pointer (some ⟨r, 0, none⟩), .int .i64 th, .int .i64 key] w fun e w' => e = .returned (.int .i64 q) ∧ ∃ Q', Both a w' S Q' b r R (rLeave L th key) n ∧ Ext Q w w' ∧ In Q' Q w := by
  refine (rLeave_any Q r L th key w h.doc hl q hq).mono ?_
  rintro e w' ⟨rfl, Q', h1, h2, h3⟩
  have hb := h2.below h.below.size h.newQ
  exact ⟨rfl, Q', ⟨h.tab.ext h2 h.far.symm, h1, (h.far.symm.step h3 h.tab.there).symm, h.newS, in_new h3 h.newQ h.below.size, h.below.trans hb⟩, h2, h3⟩
theorem Both.holdsQ (h : Both a w S Q b r R L n) (th key : Int) (hl : L.length ≤ 1073741824) (q : Bool) (hq : rHolds L th key = q) :
    Calls Try.prog 17 #[.pointer (some ⟨r, 0, none⟩), .int .i64 th, .int .i64 key] w fun e w' => e = .returned (.bool q) ∧ w' = w := rHolds_any Q r L th key w h.doc hl q hq
end

theorem quiet_same {P : Program} {f : FuncId} {args : Array Value} {w : World} {a n : Nat} {v : Value}
    (h : Calls P f args (w.drewN (a + n)) fun e w' => e = .returned v ∧ w' = w.drewN (a + n)) :
    Calls P f args (w.drewN (a + n)) fun e w'' => e = .returned v ∧ ∃ m, w'' = w.drewN (a + m) :=
  h.mono fun _ _ ⟨he, hm⟩ => ⟨he, n, hm⟩
/-- a claim in its key's row -/
theorem in_row (L : List E) (key : Int) {i : Nat} (hi : i < L.length) (hk : (atE L i).2.1 = key) : aheadOf L key i < (rowOf L key).length ∧ at_ (rowOf L key) (aheadOf L key i) = ((atE L i).1, (atE L i).2.2) := by
  have e : L = L.take i ++ ([L[i]] ++ L.drop (i + 1)) := by rw [List.singleton_append, ← List.drop_eq_getElem_cons hi, List.take_append_drop]
  have er : rowOf L key = rowOf (L.take i) key ++ ((L[i].1, L[i].2.2) :: rowOf (L.drop (i + 1)) key) := by
    conv => lhs; rw [e]
    rw [rowOf_append, rowOf_append, rowOf_one, if_pos (by rw [← atE_get L hi]; exact hk)]
    rfl
  rw [aheadOf_row, er, atE_get L hi]
  refine ⟨by simp, ?_⟩
  unfold at_
  rw [List.getElem?_append_right (Nat.le_refl _), Nat.sub_self]
  rfl
theorem ahead_all (L : List E) (key : Int) : aheadOf L key L.length = (rowOf L key).length := by rw [aheadOf_row, List.take_length]

set_option maxRecDepth 100000 in
set_option maxHeartbeats 3200000 in
theorem same_any (a : World) (S Q : Nat → Prop) (b r n : Nat) (L : List E) (key : Int) (w : World) (h : Both a w S Q b r (rowOf L) L n) (hu : Uniq (rowOf L)) (hk : Fits key) (hn : n ≤ 1073741824) (hl : L.length ≤ 1073741824) :
    Calls Try.prog 19 #[.pointer (some ⟨b, 0, none⟩), .pointer (some ⟨r, 0, none⟩), .int .i64 key] w fun e w' => e = .returned (.bool true) ∧ Both a w' S Q b r (rowOf L) L n ∧ Below w.heap.size w w' := by
  have H := Lib.hid h
  have HU := Lib.hid hu
  have HK := Lib.hid hk
  obtain ⟨n1, hn1⟩ : ∃ n1, (rowOf L key).length = n1 := ⟨_, rfl⟩
  have HN1 := Lib.hid hn1
  have hn1b : n1 ≤ 1073741824 := by rw [← hn1]; exact Nat.le_trans (h.own.len hk) hn
  clear h hu hk hn1
  go_enter Try.func19, Try.ntmps19
  go_wp2_with fail
  refine (H.out.own.claims key HK.out hn n1 HN1.out).mono ?_
  rintro e w1 ⟨A1, c1, rfl, hr1, ho, hb1⟩
  have HR1 := Lib.hid hr1
  have HB1 := Lib.hid hb1
  have H1 := Lib.hid (H.out.go hb1)
  clear hr1 ho hb1
  obtain ⟨v, hx⟩ := H1.out.doc
  obtain ⟨A, c, rfl⟩ := own_form hx.row.1
  have HX := Lib.hid hx
  have HOR := Lib.hid hx.row.1
  have lr : r < w1.heap.size := row_lt hx.block
  clear hx
  go_wp2_with fail
  go_loopw [8, 9] (fun x y wr => ∃ (k : Nat), k ≤ L.length ∧ x = .int .i64 (aheadOf L key k : Nat) ∧ y = .int .i64 k ∧ Below w1.heap.size w1 wr) (fun _ y _ => L.length - (intOf y).toNat)
  case atStart => exact ⟨0, Nat.zero_le _, rfl, rfl, Below.refl _ _⟩
  case round =>
    obtain ⟨k, hk, rfl, rfl, hb⟩ := hrel
    have HBK := Lib.hid hb
    have c0 : wr.cell? ⟨r, 0, none⟩ = some (.slice A L.length c) := (hb.cell (p := ⟨r, 0, none⟩) lr).trans ((row_cell HX.out.block 0).trans rfl)
    clear hb
    by_cases hlt : k < L.length
    · have hor : wr.ownsRow 0 66 3 (.slice A L.length c) L.length (ecells L) := own_same HOR.out (fun g hg => HBK.out.block g (own_lt HOR.out g hg))
      obtain ⟨g, hA, p0, p1, p2⟩ := row_at hor hlt
      subst hA
      have hk1 : (k : Int) < (L.length : Int) := by omega
      have HS := Lib.hid (aheadOf_succ L key hlt)
      have HIN : Hid ((atE L k).2.1 = key → aheadOf L key k < n1 ∧ at_ (rowOf L key) (aheadOf L key k) = ((atE L k).1, (atE L k).2.2)) := fun h => by rw [← HN1.out]; exact in_row L key hlt h
      clear hor
      generalize atE L k = ek at *
      obtain ⟨t, ky, al⟩ := ek
      generalize hm : aheadOf L key k = m at *
      clear hm
      cases h1 : ky == key
      · have HT1 : Hid (aheadOf L key (k + 1) = m) := by have h := HS.out; simp only [h1] at h; exact h
        have hne : (ky != key) = true := by simp [bne, h1]
        clear HS HIN
        go_wp2_with fail
        go_roundw
        case rel => exact ⟨k + 1, by omega, by rw [HT1.out], by go_num, HBK.out⟩
        case measure => simp [intOf]; omega
      · have HT1 : Hid (aheadOf L key (k + 1) = m + 1) := by have h := HS.out; simp only [h1] at h; exact h
        obtain rfl : ky = key := beq_iff_eq.1 h1
        obtain ⟨hmn, hat⟩ := HIN.out rfl
        obtain ⟨g1, hA1, _, _, q0, q1, q2⟩ := row3_at HR1.out HBK.out (i := m) (by rw [HN1.out]; exact hmn)
        subst hA1
        have hhold : holdsAt (rowOf L ky) m = rHolds L t ky := by
          rw [← hold_at (HU.out ky) (by rw [HN1.out]; exact hmn), hat, rowOf_holds]
        rw [hat] at q0 q1
        rw [hhold] at q2
        generalize hrh : rHolds L t ky = rh at *
        have HRH := Lib.hid hrh
        have hm1 : (m : Int) < (n1 : Int) := by omega
        have hm2 : ¬ n1 ≤ m := by omega
        have hm3 : decide (n1 ≤ m) = false := by simpa using hm2
        have HDOC := fun m : Nat => Lib.hid (((H1.out.go HBK.out).go (below_drewN (Below.refl _ _) m)).holdsQ t ky hl rh HRH.out)
        clear HS HIN hat hhold hrh h1
        go_wp2_with fail
        go_region_held3 (fun w' => w'.cell? ⟨r, 0, none⟩ = some (.slice (some ⟨g, 0, none⟩) L.length c) ∧ w'.cell? ⟨g, k * 3, none⟩ = some (.int .i64 t) ∧ w'.cell? ⟨g, k * 3 + 2, none⟩ = some (.bool al) ∧ w'.cell? ⟨g1, m * 3, none⟩ = some (.int .i64 t) ∧ w'.cell? ⟨g1, m * 3 + 1, none⟩ = some (.bool al) ∧ w'.cell? ⟨g1, m * 3 + 2, none⟩ = some (.bool rh)) (first | exact ⟨c0, p0, p2, q0, q1, q2⟩ | go_keep)
          ((first
            | (go_at_call 17; refine (HDOC 1).out.mono ?_; rintro e w' ⟨rfl, rfl⟩)))
        go_wp2_with fail
        go_roundw
        case rel => exact ⟨k + 1, by omega, by rw [HT1.out]; go_num, by go_num, by first | exact HBK.out | exact HBK.out.drew | exact below_drewN HBK.out _⟩
        case measure => simp [intOf]; omega
    · have hend : (L.length : Int) ≤ (k : Int) := by omega
      have HE : Hid (aheadOf L key k = n1) := by show _ = _; rw [show k = L.length by omega, ahead_all, HN1.out]
      clear hlt
      generalize aheadOf L key k = m at *
      have hmn : m = n1 := HE.out
      subst hmn
      go_wp2_with fail
      go_ret
      exact ⟨rfl, H1.out.go HBK.out, HB1.out.trans (HBK.out.mono HB1.out.size)⟩
end Go.Proofs.Ytfaahhipddlmgaa.KBoth
