/- Unescape, and the law LogEscapes. -/
import Derived.Test.YtgegmoejhnjhjaaDoorJAwake
import Derived.Test.YtgegmoejhnjhjaaDoorJFull
import Derived.Test.YtgegmoejhnjhjaaDoorJLOnly
namespace Go.Proofs.YtgegmoejhnjhjaaDoor.JLEscapes
open Go.RowKit WMem WPlain WHelp WFace2 WWide WAny WCrc WSeal SNums SEqual JPlain JMem JBody JPack JPackFace JRead JUnpack JFull JBackM JEscape JAwake JLOnly

def unescL (l : List UInt8) (q : Bool) : List UInt8 := if q = true then putL l 0 4 1213813321 else l
theorem unescL_len (l : List UInt8) (q : Bool) : (unescL l q).length = l.length := by
  unfold unescL
  split
  · exact putL_len _ _ _ _
  · rfl
set_option maxHeartbeats 1000000 in
theorem Unescape_any (n : Nat) (l : List UInt8) (hn : l.length = n) (q : Bool) (B : Nat) (A : Option Addr) (c : Nat) (w : World) (hB : B ≤ w.heap.size) (hl : n ≤ 140737488351232) (hA : Sl w B A (l.map u8v)) :
    Calls Tryd.prog 24 #[.slice A n c, .bool q] w fun e w' => ∃ v, e = .returned v ∧ WAny.Own w' w.heap.size v (unescL l q) ∧ Below w.heap.size w w' := by
  subst hn
  have HC := Lib.hid (Clone_any l B A c w hB hl hA)
  clear hA
  cases q with
  | false =>
    go_enter Tryd.func24, Tryd.ntmps24
    go_wp2_with fail
    refine HC.out.mono ?_
    rintro e w1 ⟨v, rfl, hO, hb⟩
    have HO := Lib.hid hO
    have HB := Lib.hid hb
    clear hO hb
    go_wp2
    go_ret
    exact ⟨v, rfl, HO.out, HB.out⟩
  | true =>
    go_enter Tryd.func24, Tryd.ntmps24
    go_wp2_with fail
    refine HC.out.mono ?_
    rintro e w1 ⟨v, rfl, hO, hb⟩
    have HP := Lib.hid (PutOwn_any l 0 4 w1 w.heap.size v 1213813321 (by omega) hO)
    have HBL := Lib.hid (Own.block hO)
    have HB := Lib.hid hb
    clear hO hb
    go_wp2_with fail
    refine HP.out.mono ?_
    rintro e w2 ⟨rfl, hO2, hg⟩
    have HO2 := Lib.hid hO2
    have HB2 := Lib.hid (HB.out.grown hg HB.out.size (fun k hk => (HBL.out k hk).1))
    clear hO2 hg
    go_wp2
    go_ret
    exact ⟨v, rfl, by rw [unescL, if_pos rfl]; exact HO2.out, HB2.out⟩

/-! what is escaped is no record, and comes back -/
theorem mark_dig : dig 4 1213813321 = [73, 82, 89, 72] := by decide
theorem rec_mark {b : List UInt8} (h : isRec b = true) : getX b 0 4 = 1213813321 := by
  obtain ⟨_, _, _, e4, e5⟩ := unp_yes h
  have k0 := recs_at e4 (says_sum b) 0 1213813321 0 4 (by rw [n_head (by omega)]; rfl) (by rw [w_head (by omega)]; rfl) (by rw [tot_head (by omega)]; rfl)
  rw [e5] at k0
  exact k0
theorem getX_of {l : List UInt8} (h : 4 ≤ l.length) : getX l 0 4 = num (l.take 4) := by
  unfold getX
  rw [if_pos ⟨by omega, by omega, by omega, by omega⟩]
  rfl
theorem marked_iff {l : List UInt8} : marked l = true ↔ 4 ≤ l.length ∧ l.take 4 = [73, 82, 89, 72] := by
  constructor
  · intro h
    simp only [marked, Bool.and_eq_true, beq_iff_eq] at h
    have h4 := of_decide_eq_true h.1
    refine ⟨h4, ?_⟩
    have hx := h.2
    rw [getX_of h4] at hx
    have hd := dig_num (l.take 4)
    rw [hx, List.length_take, Nat.min_eq_left h4, mark_dig] at hd
    exact hd.symm
  · rintro ⟨h4, h⟩
    simp only [marked, Bool.and_eq_true, beq_iff_eq]
    refine ⟨by simpa using h4, ?_⟩
    rw [getX_of h4, h]
    decide
theorem esc_back (l : List UInt8) : unescL (escL l) (marked l) = l := by
  cases h : marked l with
  | false => simp [unescL, escL, h]
  | true =>
    obtain ⟨h4, ht⟩ := marked_iff.1 h
    have hl : ([0, 0, 0, 0] ++ l.drop 4).length = l.length := by simp; omega
    have e : escL l = [0, 0, 0, 0] ++ l.drop 4 := by simp [escL, h]
    rw [e, unescL, if_pos rfl]
    unfold putL
    rw [if_pos ⟨by omega, by omega, by omega, by rw [hl]; omega⟩, if_pos (by decide)]
    show patch ([0, 0, 0, 0] ++ l.drop 4) 0 (dig 4 1213813321) = l
    rw [mark_dig, ← ht]
    unfold patch
    rw [List.length_take, Nat.min_eq_left h4]
    simp
theorem esc_not (l : List UInt8) : ¬ (4 ≤ (escL l).length ∧ (escL l).take 4 = [73, 82, 89, 72]) := by
  intro h
  cases hm : marked l with
  | false =>
    have e : escL l = l := by simp [escL, hm]
    rw [e] at h
    rw [marked_iff.2 h] at hm
    cases hm
  | true =>
    have e : escL l = [0, 0, 0, 0] ++ l.drop 4 := by simp [escL, hm]
    rw [e] at h
    have := h.2
    simp at this
theorem esc_no (l : List UInt8) : isRec (escL l) = false := by
  rw [Bool.eq_false_iff]
  intro h
  have h256 := (unp_yes h).2.2.1
  have hx := rec_mark h
  refine esc_not l ⟨by omega, ?_⟩
  rw [getX_of (by omega)] at hx
  have hd := dig_num ((escL l).take 4)
  rw [hx, List.length_take, Nat.min_eq_left (by omega), mark_dig] at hd
  exact hd.symm
theorem xor255 (x : UInt8) : ∃ y : UInt8, bits BinOp.xor IntKind.u8 (x.toNat : Int) 255 = (y.toNat : Int) := by
  refine ⟨UInt8.ofNat (BitVec.ofInt 8 (x.toNat : Int) ^^^ BitVec.ofInt 8 255).toNat, ?_⟩
  show IntKind.u8.wrap ((BitVec.ofInt 8 (x.toNat : Int) ^^^ BitVec.ofInt 8 255).toNat : Int) = _
  have h4 : (BitVec.ofInt 8 (x.toNat : Int) ^^^ BitVec.ofInt 8 255).toNat < 256 := (BitVec.ofInt 8 (x.toNat : Int) ^^^ BitVec.ofInt 8 255).isLt
  generalize (BitVec.ofInt 8 (x.toNat : Int) ^^^ BitVec.ofInt 8 255).toNat = z at *
  rw [IntKind.wrap_u8']
  simp
/-- the copy that is turned, byte by byte; what came back lies elsewhere -/
def CInv (w : World) (p2 g n : Nat) (v : Value) (b : List UInt8) (rest : List Value) (W : World) : Prop :=
  ∃ cr : List UInt8, cr.length = n ∧ Row W g cr rest ∧ WAny.Own W p2 v b ∧ Below w.heap.size w W
set_option maxRecDepth 100000 in
set_option maxHeartbeats 8000000 in
theorem escapes (b : List UInt8) (B : Nat) (A : Option Addr) (c : Nat) (w : World) (hc : b.length ≤ c) (hl : b.length ≤ 140737488351232) (hB : B ≤ w.heap.size) (hA : Sl w B A (b.map u8v)) (hT : Tab w) :
    Calls Tryd.prog 5 #[.slice A b.length c] w fun e w' => e = .returned (.bool true) ∧ Below w.heap.size w w' := by
  have HA := Lib.hid hA
  have HT := Lib.hid hT
  have htl := Tab.lt hT
  have HAW := Lib.hid (awake_any w hT)
  have HES := Lib.hid (fun w (hB : B ≤ w.heap.size) (hA : Sl w B A (b.map u8v)) => Escape_any b B A c w hB hl hA)
  have HUN := Lib.hid (fun w (hB : B ≤ w.heap.size) (hA : Sl w B A (b.map u8v)) => Unescape_any b.length b rfl false B A c w hB hl hA)
  have HUE : Hid (unescL b false = b) := Lib.hid (by simp [unescL])
  have HEB := Lib.hid (esc_back b)
  have HNO := Lib.hid (unp_no (esc_no b))
  have HNOT := Lib.hid (esc_not b)
  have HCL := Lib.hid (escL_len b)
  clear hA hT
  generalize escL b = cl at *
  generalize marked b = q at *
  obtain ⟨n, hn⟩ : ∃ n, b.length = n := ⟨_, rfl⟩
  rw [hn] at hc hl HES HUN HCL ⊢
  have HN := Lib.hid hn
  clear hn
  go_enter Tryd.func5, Tryd.ntmps5
  go_wp2_with fail
  refine HAW.out.mono ?_
  rintro e w1 ⟨rfl, hb1⟩
  have HB1 := Lib.hid hb1
  have hs1 := hb1.size
  clear hb1
  go_wp2_with fail
  refine (HES.out w1 (by omega) (HA.out.below_le HB1.out hB)).mono ?_
  rintro e w2 ⟨v2, rfl, hO2, hb2⟩
  have HB2 := Lib.hid (below_up HB1.out hb2 hs1)
  have hs2 := hb2.size
  obtain ⟨A2, c2, ev, hS2, hc2⟩ := hO2.sl
  rw [HCL.out] at ev hc2
  subst ev
  have HO2 := Lib.hid hO2
  have HS2 := Lib.hid hS2
  clear hb2 hO2 hS2
  go_wp2_with fail
  refine (Unescape_any n cl HCL.out q w2.heap.size A2 c2 w2 (Nat.le_refl _) hl HS2.out).mono ?_
  rintro e w3 ⟨v3, rfl, hO3, hb3⟩
  rw [HEB.out] at hO3
  have HB3 := Lib.hid (below_up HB2.out hb3 HB2.out.size)
  have hs3 := hb3.size
  have HO3 := Lib.hid hO3
  have HOC3 := Lib.hid (HO2.out.keep hb3)
  have HS3 := Lib.hid (HS2.out.below_le hb3 (Nat.le_refl _))
  clear hb3 hO3
  go_wp2_with fail
  refine (Unpack_full n cl HCL.out w2.heap.size A2 c2 hc2 w3 (by omega) HS3.out (Tab.below HT.out HB3.out htl)).mono ?_
  rintro e w4 ⟨A4, c4, rfl, _, _, hb4⟩
  rw [HNO.out.1, HNO.out.2]
  unfold recV nul
  have hb4' := hb4.alloc hb4.size (.cells #[.int .i64 0, .int .i64 0, .slice A4 0 c4, .int .u32 0, .int .i64 0] 33)
  have HB4 := Lib.hid (below_up HB3.out hb4' HB3.out.size)
  have hs4 := hb4'.size
  have HO4 := Lib.hid (HO3.out.keep hb4')
  have HOC4 := Lib.hid (HOC3.out.keep hb4')
  clear hb4 hb4'
  go_wp2_with fail
  generalize (w4.alloc (.cells #[.int .i64 0, .int .i64 0, .slice A4 0 c4, .int .u32 0, .int .i64 0] 33)) = wa at *
  refine (HUN.out wa (by omega) (HA.out.below_le HB4.out hB)).mono ?_
  rintro e w5 ⟨v5, rfl, hO5, hb5⟩
  rw [HUE.out] at hO5
  have HB5 := Lib.hid (below_up HB4.out hb5 HB4.out.size)
  have hs5 := hb5.size
  have HO5 := Lib.hid (HO4.out.keep hb5)
  have HOC5 := Lib.hid (HOC4.out.keep hb5)
  obtain ⟨A3, c3, e3, hS3, _⟩ := HO5.out.sl
  obtain ⟨A5, c5, e5, hS5, _⟩ := hO5.sl
  rw [HN.out] at e3 e5
  subst e3
  subst e5
  have HD5 := Lib.hid hS3
  have HP5 := Lib.hid hS5
  clear hb5 hO5 hS3 hS5
  have HA5 := Lib.hid (HA.out.below_le HB5.out hB)
  rcases HOC5.out with ⟨ev, _⟩ | ⟨g, cap, rest, ev, hg, hcap, hR⟩
  · cases ev
    clear HOC5 HOC4 HOC3 HO2 HS2 HS3
    go_wp2_with fail
    refine (Same_at 0 0 b HN.out HN.out w5.heap.size B A3 A c3 c w5 HD5.out HA5.out (by decide)).mono ?_
    rintro e w' ⟨rfl, n6, rfl⟩
    go_wp2_with fail
    refine (Same_at 0 0 b HN.out HN.out w5.heap.size B A5 A c5 c _ (HP5.out.drewN n6) (HA5.out.drewN n6) (by decide)).mono ?_
    rintro e w' ⟨rfl, n7, rfl⟩
    have HD7 := Lib.hid ((HD5.out.drewN n6).drewN n7)
    have HA7 := Lib.hid ((HA5.out.drewN n6).drewN n7)
    have HB7 := Lib.hid (below_drewN (below_drewN HB5.out n6) n7)
    generalize ((w5.drewN n6).drewN n7) = w7 at *
    go_wp2
    go_loopw [12] (fun i wr => i = .int .i64 0 ∧ wr = w7) (fun _ _ => 0)
    case atStart => exact ⟨rfl, rfl⟩
    case round =>
      obtain ⟨rfl, rfl⟩ := hrel
      go_wp2_with fail
      refine (Same_at 0 0 b HN.out HN.out w5.heap.size B A3 A c3 c wr HD7.out HA7.out (by decide)).mono ?_
      rintro e w' ⟨rfl, n8, rfl⟩
      have HB8 := Lib.hid (below_drewN HB7.out n8)
      generalize wr.drewN n8 = w8 at *
      go_wp2
      go_ret
      exact ⟨rfl, HB8.out⟩
  · injection ev with ea en ec
    subst ea
    subst ec
    clear en
    have hg2 : g < w2.heap.size := (WAny.Own.block HO2.out g rfl).2
    rw [HCL.out] at hcap
    have hgs := hR.lt
    have hnx := HNOT.out
    have HR := Lib.hid hR
    by_cases h4 : n < 4
    · have d4 : ¬ (4 : Int) ≤ (n : Int) := by omega
      clear hR hnx HOC5 HOC4 HOC3 HO2 HS2 HS3
      go_wp2_with fail
      refine (Same_at n n b HN.out HN.out w5.heap.size B A3 A c3 c w5 HD5.out HA5.out (by omega)).mono ?_
      rintro e w' ⟨rfl, n6, rfl⟩
      go_wp2_with fail
      refine (Same_at n n b HN.out HN.out w5.heap.size B A5 A c5 c _ (HP5.out.drewN n6) (HA5.out.drewN n6) (by omega)).mono ?_
      rintro e w' ⟨rfl, n7, rfl⟩
      have HC7 : Hid (CInv w w2.heap.size g n (.slice A3 n c3) b rest ((w5.drewN n6).drewN n7)) := Lib.hid ⟨cl, HCL.out, (HR.out.drewN n6).drewN n7, (HO5.out.drewN n6).drewN n7, below_drewN (below_drewN HB5.out n6) n7⟩
      generalize ((w5.drewN n6).drewN n7) = w7 at *
      go_wp2
      go_loopw [12] (fun i wr => ∃ k : Nat, k ≤ n ∧ i = .int .i64 k ∧ CInv w w2.heap.size g n (.slice A3 n c3) b rest wr) (fun i _ => n - (intOf i).toNat)
      case atStart => exact ⟨0, Nat.zero_le _, rfl, HC7.out⟩
      case round =>
        obtain ⟨k, hk, rfl, cr, hcl, hRr, hOr, hBr⟩ := hrel
        have HBr := Lib.hid hBr
        have HOr := Lib.hid hOr
        have HRr := Lib.hid hRr
        have HCr := Lib.hid hcl
        by_cases hlt : k < n
        · have hlt' : k < cr.length := by omega
          have cx := hRr.cell hlt'
          have cf := hRr.free k
          obtain ⟨y, hy⟩ := xor255 cr[k]
          have HS := Lib.hid (hRr.set hlt' y)
          generalize cr[k].toNat = x at *
          clear hBr hOr hRr hcl hlt'
          go_wp2
          go_roundw
          case rel =>
            refine ⟨k + 1, by omega, by go_num, cr.set k y, by rw [List.length_set]; exact HCr.out, HS.out, HOr.out.grown (grown_set (grown_refl _ _) k _) (fun j hj => by injection hj with hj; omega), HBr.out.setCell (by simp only; omega) _⟩
          case measure => simp [intOf]; omega
        · obtain ⟨_, hSr, _⟩ := hOr.at_
          have HSr := Lib.hid hSr
          have HAr := Lib.hid (HA.out.below_le HBr.out hB)
          clear hBr hOr hRr hcl hSr
          obtain ⟨k', HK⟩ : ∃ k' : Nat, Hid (k = k') := ⟨k, Lib.hid rfl⟩
          go_wp2_with fail
          refine (Same_at n n b HN.out HN.out wr.heap.size B A3 A c3 c wr HSr.out HAr.out (by omega)).mono ?_
          rintro e w' ⟨rfl, n8, rfl⟩
          have HB8 := Lib.hid (below_drewN HBr.out n8)
          generalize wr.drewN n8 = w8 at *
          go_wp2
          go_ret
          exact ⟨rfl, HB8.out⟩
    · have d4 : (4 : Int) ≤ (n : Int) := by omega
      have hln := HCL.out
      have i0 : 0 < cl.length := by omega
      have i1 : 1 < cl.length := by omega
      have i2 : 2 < cl.length := by omega
      have i3 : 3 < cl.length := by omega
      have c0 := hR.cell i0
      have c1 := hR.cell i1
      have c2' := hR.cell i2
      have c3' := hR.cell i3
      have hfour : ¬ (cl[0].toNat = 73 ∧ cl[1].toNat = 82 ∧ cl[2].toNat = 89 ∧ cl[3].toNat = 72) := fun ⟨q0, q1, q2, q3⟩ => hnx ⟨by omega, by
        have e0 : cl[0] = 73 := UInt8.toNat_inj.1 q0
        have e1 : cl[1] = 82 := UInt8.toNat_inj.1 q1
        have e2 : cl[2] = 89 := UInt8.toNat_inj.1 q2
        have e3 : cl[3] = 72 := UInt8.toNat_inj.1 q3
        refine List.ext_getElem (by simp; omega) fun i j1 j2 => ?_
        rw [List.getElem_take]
        match i, j2 with
        | 0, _ => exact e0
        | 1, _ => exact e1
        | 2, _ => exact e2
        | 3, _ => exact e3⟩
      generalize cl[0].toNat = x0 at *
      generalize cl[1].toNat = x1 at *
      generalize cl[2].toNat = x2 at *
      generalize cl[3].toNat = x3 at *
      have k0 : (x0 : Int) = 73 ∨ ((x0 : Int) == 73) = false := by by_cases h : (x0 : Int) = 73; exact .inl h; exact .inr (by simpa using h)
      have k1 : (x1 : Int) = 82 ∨ ((x1 : Int) == 82) = false := by by_cases h : (x1 : Int) = 82; exact .inl h; exact .inr (by simpa using h)
      have k2 : (x2 : Int) = 89 ∨ ((x2 : Int) == 89) = false := by by_cases h : (x2 : Int) = 89; exact .inl h; exact .inr (by simpa using h)
      have k3 : ((x0 : Int) = 73 ∧ (x1 : Int) = 82 ∧ (x2 : Int) = 89) → ((x3 : Int) == 72) = false := fun ⟨i0, i1, i2⟩ => by
        rw [beq_eq_false_iff_ne]
        intro i3
        exact hfour ⟨by omega, by omega, by omega, by omega⟩
      clear hR hnx HOC5 HOC4 HOC3 HO2 HS2 HS3 hfour hln i0 i1 i2 i3
      rcases k0 with k0 | k0
      · rcases k1 with k1 | k1
        · rcases k2 with k2 | k2
          · have k3 := k3 ⟨k0, k1, k2⟩
            go_wp2_with fail
            refine (Same_at n n b HN.out HN.out w5.heap.size B A3 A c3 c w5 HD5.out HA5.out (by omega)).mono ?_
            rintro e w' ⟨rfl, n6, rfl⟩
            go_wp2_with fail
            refine (Same_at n n b HN.out HN.out w5.heap.size B A5 A c5 c _ (HP5.out.drewN n6) (HA5.out.drewN n6) (by omega)).mono ?_
            rintro e w' ⟨rfl, n7, rfl⟩
            have HC7 : Hid (CInv w w2.heap.size g n (.slice A3 n c3) b rest ((w5.drewN n6).drewN n7)) := Lib.hid ⟨cl, HCL.out, (HR.out.drewN n6).drewN n7, (HO5.out.drewN n6).drewN n7, below_drewN (below_drewN HB5.out n6) n7⟩
            generalize ((w5.drewN n6).drewN n7) = w7 at *
            go_wp2
            go_loopw [12] (fun i wr => ∃ k : Nat, k ≤ n ∧ i = .int .i64 k ∧ CInv w w2.heap.size g n (.slice A3 n c3) b rest wr) (fun i _ => n - (intOf i).toNat)
            case atStart => exact ⟨0, Nat.zero_le _, rfl, HC7.out⟩
            case round =>
              obtain ⟨k, hk, rfl, cr, hcl, hRr, hOr, hBr⟩ := hrel
              have HBr := Lib.hid hBr
              have HOr := Lib.hid hOr
              have HRr := Lib.hid hRr
              have HCr := Lib.hid hcl
              by_cases hlt : k < n
              · have hlt' : k < cr.length := by omega
                have cx := hRr.cell hlt'
                have cf := hRr.free k
                obtain ⟨y, hy⟩ := xor255 cr[k]
                have HS := Lib.hid (hRr.set hlt' y)
                generalize cr[k].toNat = x at *
                clear hBr hOr hRr hcl hlt'
                go_wp2
                go_roundw
                case rel =>
                  refine ⟨k + 1, by omega, by go_num, cr.set k y, by rw [List.length_set]; exact HCr.out, HS.out, HOr.out.grown (grown_set (grown_refl _ _) k _) (fun j hj => by injection hj with hj; omega), HBr.out.setCell (by simp only; omega) _⟩
                case measure => simp [intOf]; omega
              · obtain ⟨_, hSr, _⟩ := hOr.at_
                have HSr := Lib.hid hSr
                have HAr := Lib.hid (HA.out.below_le HBr.out hB)
                clear hBr hOr hRr hcl hSr
                obtain ⟨k', HK⟩ : ∃ k' : Nat, Hid (k = k') := ⟨k, Lib.hid rfl⟩
                go_wp2_with fail
                refine (Same_at n n b HN.out HN.out wr.heap.size B A3 A c3 c wr HSr.out HAr.out (by omega)).mono ?_
                rintro e w' ⟨rfl, n8, rfl⟩
                have HB8 := Lib.hid (below_drewN HBr.out n8)
                generalize wr.drewN n8 = w8 at *
                go_wp2
                go_ret
                exact ⟨rfl, HB8.out⟩
          · clear k3
            go_wp2_with fail
            refine (Same_at n n b HN.out HN.out w5.heap.size B A3 A c3 c w5 HD5.out HA5.out (by omega)).mono ?_
            rintro e w' ⟨rfl, n6, rfl⟩
            go_wp2_with fail
            refine (Same_at n n b HN.out HN.out w5.heap.size B A5 A c5 c _ (HP5.out.drewN n6) (HA5.out.drewN n6) (by omega)).mono ?_
            rintro e w' ⟨rfl, n7, rfl⟩
            have HC7 : Hid (CInv w w2.heap.size g n (.slice A3 n c3) b rest ((w5.drewN n6).drewN n7)) := Lib.hid ⟨cl, HCL.out, (HR.out.drewN n6).drewN n7, (HO5.out.drewN n6).drewN n7, below_drewN (below_drewN HB5.out n6) n7⟩
            generalize ((w5.drewN n6).drewN n7) = w7 at *
            go_wp2
            go_loopw [12] (fun i wr => ∃ k : Nat, k ≤ n ∧ i = .int .i64 k ∧ CInv w w2.heap.size g n (.slice A3 n c3) b rest wr) (fun i _ => n - (intOf i).toNat)
            case atStart => exact ⟨0, Nat.zero_le _, rfl, HC7.out⟩
            case round =>
              obtain ⟨k, hk, rfl, cr, hcl, hRr, hOr, hBr⟩ := hrel
              have HBr := Lib.hid hBr
              have HOr := Lib.hid hOr
              have HRr := Lib.hid hRr
              have HCr := Lib.hid hcl
              by_cases hlt : k < n
              · have hlt' : k < cr.length := by omega
                have cx := hRr.cell hlt'
                have cf := hRr.free k
                obtain ⟨y, hy⟩ := xor255 cr[k]
                have HS := Lib.hid (hRr.set hlt' y)
                generalize cr[k].toNat = x at *
                clear hBr hOr hRr hcl hlt'
                go_wp2
                go_roundw
                case rel =>
                  refine ⟨k + 1, by omega, by go_num, cr.set k y, by rw [List.length_set]; exact HCr.out, HS.out, HOr.out.grown (grown_set (grown_refl _ _) k _) (fun j hj => by injection hj with hj; omega), HBr.out.setCell (by simp only; omega) _⟩
                case measure => simp [intOf]; omega
              · obtain ⟨_, hSr, _⟩ := hOr.at_
                have HSr := Lib.hid hSr
                have HAr := Lib.hid (HA.out.below_le HBr.out hB)
                clear hBr hOr hRr hcl hSr
                obtain ⟨k', HK⟩ : ∃ k' : Nat, Hid (k = k') := ⟨k, Lib.hid rfl⟩
                go_wp2_with fail
                refine (Same_at n n b HN.out HN.out wr.heap.size B A3 A c3 c wr HSr.out HAr.out (by omega)).mono ?_
                rintro e w' ⟨rfl, n8, rfl⟩
                have HB8 := Lib.hid (below_drewN HBr.out n8)
                generalize wr.drewN n8 = w8 at *
                go_wp2
                go_ret
                exact ⟨rfl, HB8.out⟩
        · clear k3 k2
          go_wp2_with fail
          refine (Same_at n n b HN.out HN.out w5.heap.size B A3 A c3 c w5 HD5.out HA5.out (by omega)).mono ?_
          rintro e w' ⟨rfl, n6, rfl⟩
          go_wp2_with fail
          refine (Same_at n n b HN.out HN.out w5.heap.size B A5 A c5 c _ (HP5.out.drewN n6) (HA5.out.drewN n6) (by omega)).mono ?_
          rintro e w' ⟨rfl, n7, rfl⟩
          have HC7 : Hid (CInv w w2.heap.size g n (.slice A3 n c3) b rest ((w5.drewN n6).drewN n7)) := Lib.hid ⟨cl, HCL.out, (HR.out.drewN n6).drewN n7, (HO5.out.drewN n6).drewN n7, below_drewN (below_drewN HB5.out n6) n7⟩
          generalize ((w5.drewN n6).drewN n7) = w7 at *
          go_wp2
          go_loopw [12] (fun i wr => ∃ k : Nat, k ≤ n ∧ i = .int .i64 k ∧ CInv w w2.heap.size g n (.slice A3 n c3) b rest wr) (fun i _ => n - (intOf i).toNat)
          case atStart => exact ⟨0, Nat.zero_le _, rfl, HC7.out⟩
          case round =>
            obtain ⟨k, hk, rfl, cr, hcl, hRr, hOr, hBr⟩ := hrel
            have HBr := Lib.hid hBr
            have HOr := Lib.hid hOr
            have HRr := Lib.hid hRr
            have HCr := Lib.hid hcl
            by_cases hlt : k < n
            · have hlt' : k < cr.length := by omega
              have cx := hRr.cell hlt'
              have cf := hRr.free k
              obtain ⟨y, hy⟩ := xor255 cr[k]
              have HS := Lib.hid (hRr.set hlt' y)
              generalize cr[k].toNat = x at *
              clear hBr hOr hRr hcl hlt'
              go_wp2
              go_roundw
              case rel =>
                refine ⟨k + 1, by omega, by go_num, cr.set k y, by rw [List.length_set]; exact HCr.out, HS.out, HOr.out.grown (grown_set (grown_refl _ _) k _) (fun j hj => by injection hj with hj; omega), HBr.out.setCell (by simp only; omega) _⟩
              case measure => simp [intOf]; omega
            · obtain ⟨_, hSr, _⟩ := hOr.at_
              have HSr := Lib.hid hSr
              have HAr := Lib.hid (HA.out.below_le HBr.out hB)
              clear hBr hOr hRr hcl hSr
              obtain ⟨k', HK⟩ : ∃ k' : Nat, Hid (k = k') := ⟨k, Lib.hid rfl⟩
              go_wp2_with fail
              refine (Same_at n n b HN.out HN.out wr.heap.size B A3 A c3 c wr HSr.out HAr.out (by omega)).mono ?_
              rintro e w' ⟨rfl, n8, rfl⟩
              have HB8 := Lib.hid (below_drewN HBr.out n8)
              generalize wr.drewN n8 = w8 at *
              go_wp2
              go_ret
              exact ⟨rfl, HB8.out⟩
      · clear k3 k2 k1
        go_wp2_with fail
        refine (Same_at n n b HN.out HN.out w5.heap.size B A3 A c3 c w5 HD5.out HA5.out (by omega)).mono ?_
        rintro e w' ⟨rfl, n6, rfl⟩
        go_wp2_with fail
        refine (Same_at n n b HN.out HN.out w5.heap.size B A5 A c5 c _ (HP5.out.drewN n6) (HA5.out.drewN n6) (by omega)).mono ?_
        rintro e w' ⟨rfl, n7, rfl⟩
        have HC7 : Hid (CInv w w2.heap.size g n (.slice A3 n c3) b rest ((w5.drewN n6).drewN n7)) := Lib.hid ⟨cl, HCL.out, (HR.out.drewN n6).drewN n7, (HO5.out.drewN n6).drewN n7, below_drewN (below_drewN HB5.out n6) n7⟩
        generalize ((w5.drewN n6).drewN n7) = w7 at *
        go_wp2
        go_loopw [12] (fun i wr => ∃ k : Nat, k ≤ n ∧ i = .int .i64 k ∧ CInv w w2.heap.size g n (.slice A3 n c3) b rest wr) (fun i _ => n - (intOf i).toNat)
        case atStart => exact ⟨0, Nat.zero_le _, rfl, HC7.out⟩
        case round =>
          obtain ⟨k, hk, rfl, cr, hcl, hRr, hOr, hBr⟩ := hrel
          have HBr := Lib.hid hBr
          have HOr := Lib.hid hOr
          have HRr := Lib.hid hRr
          have HCr := Lib.hid hcl
          by_cases hlt : k < n
          · have hlt' : k < cr.length := by omega
            have cx := hRr.cell hlt'
            have cf := hRr.free k
            obtain ⟨y, hy⟩ := xor255 cr[k]
            have HS := Lib.hid (hRr.set hlt' y)
            generalize cr[k].toNat = x at *
            clear hBr hOr hRr hcl hlt'
            go_wp2
            go_roundw
            case rel =>
              refine ⟨k + 1, by omega, by go_num, cr.set k y, by rw [List.length_set]; exact HCr.out, HS.out, HOr.out.grown (grown_set (grown_refl _ _) k _) (fun j hj => by injection hj with hj; omega), HBr.out.setCell (by simp only; omega) _⟩
            case measure => simp [intOf]; omega
          · obtain ⟨_, hSr, _⟩ := hOr.at_
            have HSr := Lib.hid hSr
            have HAr := Lib.hid (HA.out.below_le HBr.out hB)
            clear hBr hOr hRr hcl hSr
            obtain ⟨k', HK⟩ : ∃ k' : Nat, Hid (k = k') := ⟨k, Lib.hid rfl⟩
            go_wp2_with fail
            refine (Same_at n n b HN.out HN.out wr.heap.size B A3 A c3 c wr HSr.out HAr.out (by omega)).mono ?_
            rintro e w' ⟨rfl, n8, rfl⟩
            have HB8 := Lib.hid (below_drewN HBr.out n8)
            generalize wr.drewN n8 = w8 at *
            go_wp2
            go_ret
            exact ⟨rfl, HB8.out⟩
end Go.Proofs.YtgegmoejhnjhjaaDoor.JLEscapes
