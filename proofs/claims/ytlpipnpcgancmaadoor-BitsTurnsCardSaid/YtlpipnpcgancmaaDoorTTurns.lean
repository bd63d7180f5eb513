/- The law BitsTurns. -/
import Derived.Test.YtlpipnpcgancmaaDoorTAwake
import Derived.Test.YtlpipnpcgancmaaDoorTTop
namespace Go.Proofs.YtlpipnpcgancmaaDoor.TTurns
open Go.RowKit WMem WPlain WAppend WHelp WCrc WSeal WAny TPlain TBits TSet TWalk TOrd TCut TBud TTurn TFace TTurnF TSame TRef TRef2 TTop TAwake

theorem xor255 (x : UInt8) : bits BinOp.xor IntKind.u8 (x.toNat : Int) 255 = (((UInt8.ofNat (x.toNat ^^^ 255)).toNat : Nat) : Int) := by
  have hx := byte_lt x
  show IntKind.u8.wrap ((BitVec.ofInt 8 (x.toNat : Int) ^^^ BitVec.ofInt 8 255).toNat : Int) = _
  have h : (BitVec.ofInt 8 (x.toNat : Int) ^^^ BitVec.ofInt 8 255).toNat = x.toNat ^^^ 255 := by
    rw [BitVec.toNat_xor]
    have h1 : (BitVec.ofInt 8 (x.toNat : Int)).toNat = x.toNat := by simp
    have h3 : (BitVec.ofInt 8 255).toNat = 255 := by decide
    rw [h1, h3]
  have h4 : x.toNat ^^^ 255 < 256 := Nat.xor_lt_two_pow (n := 8) hx (by decide)
  rw [h, IntKind.wrap_u8']
  simp only [UInt8.toNat_ofNat']
  omega
/-- what New answers, by one contract: the bytes, whether it may be or not -/
def newP (n : Int) (seed : Nat) : List UInt8 := if sizeB n = true then newB n.toNat seed else []
def newE (n : Int) : Int := if sizeB n = true then 0 else 22
theorem newP_le (n : Int) (seed : Nat) : (newP n seed).length ≤ 256 := by
  unfold newP
  split
  · rw [newB_len]; exact Nat.le_refl _
  · simp
theorem New_u (n : Int) (seed np : Nat) (hnp : (newP n seed).length = np) (w : World) (hs : seed < 4294967296) (hT : Tab w) :
    Calls Tryd.prog 12 #[.int .i64 n, .int .u32 seed] w fun e w' => ∃ A c, e = .returned (.tuple #[.slice A np c, .int .i64 (newE n)]) ∧ Sl w' w'.heap.size A ((newP n seed).map u8v) ∧ Below w.heap.size w w' := by
  subst hnp
  cases h : sizeB n with
  | false =>
    simp only [newP, newE, h, Bool.false_eq_true, if_false]
    exact (New_no n seed w h).mono fun e w' ⟨he, hb⟩ => ⟨none, 0, he, Sl.nil _ _ _, hb⟩
  | true =>
    obtain ⟨m, rfl, hm⟩ := sizeB_nat h
    simp only [newP, newE, h, if_true, Int.toNat_natCast, newB_len]
    exact (New_yes m seed w hm hs hT).mono fun e w' ⟨g, he, hg, hR, hb⟩ => ⟨some ⟨g, 0, none⟩, 256, he, hR.sl hR.lt, hb⟩
theorem refNew_u (n : Int) (seed np : Nat) (hnp : (newP n seed).length = np) (w : World) (hs : seed < 4294967296) :
    Calls Tryd.prog 13 #[.int .i64 n, .int .u32 seed] w fun e w' => ∃ A c, e = .returned (.tuple #[.slice A np c, .int .i64 (newE n)]) ∧ Sl w' w'.heap.size A ((newP n seed).map u8v) ∧ Below w.heap.size w w' := by
  subst hnp
  cases h : sizeB n with
  | false =>
    simp only [newP, newE, h, Bool.false_eq_true, if_false]
    exact (refNew_no n seed w h).mono fun e w' ⟨he, hb⟩ => ⟨none, 0, he, Sl.nil _ _ _, hb⟩
  | true =>
    obtain ⟨m, rfl, hm⟩ := sizeB_nat h
    simp only [newP, newE, h, if_true, Int.toNat_natCast, newB_len]
    exact (refNew_yes m seed w hm hs).mono fun e w' ⟨g, cap, rest, he, hg, hc, hR, hb⟩ => ⟨some ⟨g, 0, none⟩, cap, he, hR.sl hR.lt, hb⟩
/-- what is looked at once more at the end -/
structure Kept (w wr : World) (B : Nat) (A Ap Aq Ab : Option Addr) (l P : List UInt8) : Prop where
  b : Sl wr B A (l.map u8v)
  p : Sl wr B Ap (P.map u8v)
  q : Sl wr B Aq (P.map u8v)
  o : Sl wr B Ab (l.map u8v)
  tab : Tab wr
  below : Below w.heap.size w wr
  ge : B ≤ wr.heap.size
section
variable {w wr w' : World} {B : Nat} {A Ap Aq Ab : Option Addr} {l P : List UInt8} (h : Kept w wr B A Ap Aq Ab l P) (ht : 0 < w.heap.size)
include h
include ht in
theorem Kept.go (hb : Below wr.heap.size wr w') : Kept w w' B A Ap Aq Ab l P :=
  ⟨h.b.below_le hb h.ge, h.p.below_le hb h.ge, h.q.below_le hb h.ge, h.o.below_le hb h.ge, Tab.below h.tab hb (by have := h.below.size; omega), h.below.trans (hb.mono h.below.size), Nat.le_trans h.ge hb.size⟩
include ht in
theorem Kept.grown {g : Nat} (hg : wr.grownBy w' (some g)) (hB : B ≤ g) (hw : w.heap.size ≤ g) : Kept w w' B A Ap Aq Ab l P :=
  ⟨h.b.grown hg hB h.ge, h.p.grown hg hB h.ge, h.q.grown hg hB h.ge, h.o.grown hg hB h.ge, Tab.grown h.tab hg (by intro e; injection e with e; omega), h.below.grown hg h.below.size (by intro k hk; injection hk with hk; omega), Nat.le_trans h.ge hg.size⟩
end
theorem Drew.of {w w' : World} (h : ∃ n, w' = w.drewN n) : Below w.heap.size w w' := drew_below h
section
variable (l : List UInt8) (len : Nat) (hlen : l.length = len) (B : Nat) (A : Option Addr) (c : Nat) (n a k : Int) (on : Bool) (seed : Nat) (w : World) (hs : seed < 4294967296) (hc : len ≤ c) (ha : a ≤ 9223372036854775807) (hl : len ≤ 140737488351232) (hB : B ≤ w.heap.size) (hA : Sl w B A (l.map u8v)) (hT : Tab w)
include hlen hs hc ha hl hB hA hT
set_option maxHeartbeats 2000000 in
set_option maxRecDepth 100000 in
theorem turns_no (e0 : Int) (hv : turnE l n a k on seed = e0) (h0 : e0 ≠ 0) :
    Calls Tryd.prog 3 #[.slice A len c, .int .i64 n, .int .i64 a, .int .i64 k, .bool on, .int .u32 seed] w fun e w' => e = .returned (.bool true) ∧ Below w.heap.size w w' := by
  have ht := Tab.lt hT
  have hl8 : len ≤ 140737488355328 := by omega
  have HL := Lib.hid hlen
  have HA := Lib.hid hA
  have HB := Lib.hid hB
  have HT := Lib.hid hT
  have HV := Lib.hid hv
  have HAA := Lib.hid ha
  obtain ⟨np, hnp⟩ : ∃ np, (newP n seed).length = np := ⟨_, rfl⟩
  have hnl : np ≤ 256 := by rw [← hnp]; exact newP_le n seed
  have HNP := Lib.hid hnp
  obtain ⟨en, hen⟩ : ∃ en, newE n = en := ⟨_, rfl⟩
  have HEN := Lib.hid hen
  obtain ⟨ck, hck⟩ : ∃ ck, chkE l n seed = ck := ⟨_, rfl⟩
  have HCK := Lib.hid hck
  obtain ⟨tb, htb⟩ : ∃ tb, tstB l a = tb := ⟨_, rfl⟩
  have HTB := Lib.hid htb
  obtain ⟨te, hte⟩ : ∃ te, tstE a = te := ⟨_, rfl⟩
  have HTE := Lib.hid hte
  have q1 : (en == en) = true := by simp
  have q2 : (ck == ck) = true := by simp
  have q3 : (tb == tb) = true := by simp
  have q4 : (te == te) = true := by simp
  obtain ⟨P, hP⟩ : ∃ P, newP n seed = P := ⟨_, rfl⟩
  have HPP := Lib.hid hP
  rw [hP] at HNP
  have H0 := Lib.hid h0
  have q5 : (e0 == e0) = true := by simp
  clear hlen hA hB hT hv ha hnp hen hck htb hte hP h0
  go_enter Tryd.func3, Tryd.ntmps3
  go_wp2_with fail
  refine (awake_any w HT.out).mono ?_
  rintro e w1 ⟨rfl, hb1⟩
  have B1 := Lib.hid hb1
  have s1 := hb1.size
  have S1 := Lib.hid (HA.out.below_le hb1 HB.out)
  have T1 := Lib.hid (Tab.below HT.out hb1 ht)
  have hcp := Copied_any l B A c w1 S1.out (by rw [HL.out]; exact hl)
  rw [HL.out] at hcp
  clear hb1
  go_wp2_with fail
  refine hcp.mono ?_
  clear hcp
  rintro e w2 ⟨v, rfl, hown, hb2⟩
  obtain ⟨Ab, cb, rfl, hSb, hcb⟩ := own_sl hown
  have B2 := Lib.hid (B1.out.trans (hb2.mono s1))
  have s2 := B2.out.size
  have S2 := Lib.hid (HA.out.below_le B2.out HB.out)
  have T2 := Lib.hid (Tab.below T1.out hb2 (by omega))
  have SB2 := Lib.hid hSb
  clear hb2 hown hSb
  have hn := New_u n seed np (by rw [HPP.out]; exact HNP.out) w2 hs T2.out
  rw [HPP.out, HEN.out] at hn
  go_wp2_with fail
  refine hn.mono ?_
  clear hn
  rintro e w3 ⟨Ap, cp, rfl, hSp, hb3⟩
  have B3 := Lib.hid (B2.out.trans (hb3.mono s2))
  have s3 := B3.out.size
  have s23 := hb3.size
  have SB3 := Lib.hid (SB2.out.below hb3)
  have SP3 := Lib.hid hSp
  clear hb3 hSp
  have hn := refNew_u n seed np (by rw [HPP.out]; exact HNP.out) w3 hs
  rw [HPP.out, HEN.out] at hn
  go_wp2_with fail
  refine hn.mono ?_
  clear hn
  rintro e w4 ⟨Aq, cq, rfl, hSq, hb4⟩
  have K4 : Hid (Kept w w4 w4.heap.size A Ap Aq Ab l P) := Lib.hid ⟨(HA.out.below_le (B3.out.trans (hb4.mono s3)) HB.out).up (by have := HB.out; have := hb4.size; omega), (SP3.out.below hb4).up hb4.size, hSq, (SB3.out.below_le hb4 s23).up (by have := hb4.size; omega), Tab.below HT.out (B3.out.trans (hb4.mono s3)) ht, B3.out.trans (hb4.mono s3), Nat.le_refl _⟩
  have s4 := K4.out.below.size
  clear hb4 hSq
  go_wp2_with fail
  refine (Turn_fail l len HL.out _ A c n a k on seed w4 hs hc HAA.out K4.out.ge K4.out.b K4.out.tab e0 HV.out H0.out).mono ?_
  rintro e w5 ⟨rfl, hb5⟩
  have K5 := Lib.hid (K4.out.go ht hb5)
  clear hb5
  go_wp2_with fail
  refine (refTurn_fail l len HL.out _ A c n a k on seed w5 hs hc K5.out.ge K5.out.b e0 HV.out H0.out).mono ?_
  rintro e w6 ⟨rfl, hb6⟩
  have K6 := Lib.hid (K5.out.go ht hb6)
  clear hb6
  have X1 := Lib.hid (Test_any l len HL.out _ A c a w6 hl8 K6.out.b)
  have X2 := Lib.hid (refTest_any l len HL.out _ A c a w6 hl8 K6.out.b)
  rw [HTB.out, HTE.out] at X1 X2
  go_wp2_with (first
    | (go_at_call 16; refine X1.out.mono ?_; rintro e w' ⟨rfl, rfl⟩)
    | (go_at_call 17; refine X2.out.mono ?_; rintro e w' ⟨rfl, rfl⟩))
  refine (Same_at 0 0 [] rfl rfl 0 0 none none 0 0 _ (Sl.nil _ _ _) (Sl.nil _ _ _) (by omega)).mono ?_
  rintro e w8 ⟨rfl, hd8⟩
  have K8 := Lib.hid (K6.out.go ht (Drew.of hd8))
  clear hd8
  go_wp2_with fail
  go_loop [28] (fun v => v = .int .i64 0) (fun _ => 0)
  case atStart => rfl
  case round =>
    subst hrel
    go_wp2_with (first
      | (go_at_call 18; (with_reducible refine (Same_at np np P HNP.out HNP.out _ _ Ap Aq cp cq _ K8.out.p K8.out.q (by omega)).mono ?_); rintro e w9 ⟨rfl, hd9⟩
         have K9 := Lib.hid (K8.out.go ht (Drew.of hd9))
         have C1 := Lib.hid (Check_any l len HL.out _ A c n seed w9 hs hc K9.out.b K9.out.tab)
         rw [HCK.out] at C1
         clear hd9)
      | (go_at_call 19; refine C1.out.mono ?_; rintro e w10 ⟨rfl, hd10⟩
         have K10 := Lib.hid (K9.out.go ht (drew_below hd10))
         have C2 := Lib.hid (refCheck_any l len HL.out _ A c n seed w10 hs hc K10.out.b)
         rw [HCK.out] at C2
         clear hd10)
      | (go_at_call 20; refine C2.out.mono ?_; rintro e w' ⟨rfl, rfl⟩)
      | (go_at_call 18; (with_reducible refine (Same_at len len l HL.out HL.out _ _ A Ab c cb _ K10.out.b K10.out.o hl8).mono ?_); rintro e w11 ⟨rfl, hd11⟩
         have K11 := Lib.hid (K10.out.go ht (Drew.of hd11))
         clear hd11))
    go_ret
    exact ⟨rfl, K11.out.below⟩
set_option maxHeartbeats 2000000 in
set_option maxRecDepth 100000 in
theorem turns_yes (r : List UInt8) (hr : turnL l a k seed = r) (hrl : r.length = 256) (hv : turnE l n a k on seed = 0) :
    Calls Tryd.prog 3 #[.slice A len c, .int .i64 n, .int .i64 a, .int .i64 k, .bool on, .int .u32 seed] w fun e w' => e = .returned (.bool true) ∧ Below w.heap.size w w' := by
  have ht := Tab.lt hT
  have hl8 : len ≤ 140737488355328 := by omega
  have HL := Lib.hid hlen
  have HA := Lib.hid hA
  have HB := Lib.hid hB
  have HT := Lib.hid hT
  have HV := Lib.hid hv
  have HAA := Lib.hid ha
  obtain ⟨np, hnp⟩ : ∃ np, (newP n seed).length = np := ⟨_, rfl⟩
  have hnl : np ≤ 256 := by rw [← hnp]; exact newP_le n seed
  have HNP := Lib.hid hnp
  obtain ⟨en, hen⟩ : ∃ en, newE n = en := ⟨_, rfl⟩
  have HEN := Lib.hid hen
  obtain ⟨ck, hck⟩ : ∃ ck, chkE l n seed = ck := ⟨_, rfl⟩
  have HCK := Lib.hid hck
  obtain ⟨tb, htb⟩ : ∃ tb, tstB l a = tb := ⟨_, rfl⟩
  have HTB := Lib.hid htb
  obtain ⟨te, hte⟩ : ∃ te, tstE a = te := ⟨_, rfl⟩
  have HTE := Lib.hid hte
  have q1 : (en == en) = true := by simp
  have q2 : (ck == ck) = true := by simp
  have q3 : (tb == tb) = true := by simp
  have q4 : (te == te) = true := by simp
  obtain ⟨P, hP⟩ : ∃ P, newP n seed = P := ⟨_, rfl⟩
  have HPP := Lib.hid hP
  rw [hP] at HNP
  have HR := Lib.hid hr
  have HRL := Lib.hid hrl
  clear hlen hA hB hT hv ha hnp hen hck htb hte hP hr hrl
  go_enter Tryd.func3, Tryd.ntmps3
  go_wp2_with fail
  refine (awake_any w HT.out).mono ?_
  rintro e w1 ⟨rfl, hb1⟩
  have B1 := Lib.hid hb1
  have s1 := hb1.size
  have S1 := Lib.hid (HA.out.below_le hb1 HB.out)
  have T1 := Lib.hid (Tab.below HT.out hb1 ht)
  have hcp := Copied_any l B A c w1 S1.out (by rw [HL.out]; exact hl)
  rw [HL.out] at hcp
  clear hb1
  go_wp2_with fail
  refine hcp.mono ?_
  clear hcp
  rintro e w2 ⟨v, rfl, hown, hb2⟩
  obtain ⟨Ab, cb, rfl, hSb, hcb⟩ := own_sl hown
  have B2 := Lib.hid (B1.out.trans (hb2.mono s1))
  have s2 := B2.out.size
  have S2 := Lib.hid (HA.out.below_le B2.out HB.out)
  have T2 := Lib.hid (Tab.below T1.out hb2 (by omega))
  have SB2 := Lib.hid hSb
  clear hb2 hown hSb
  have hn := New_u n seed np (by rw [HPP.out]; exact HNP.out) w2 hs T2.out
  rw [HPP.out, HEN.out] at hn
  go_wp2_with fail
  refine hn.mono ?_
  clear hn
  rintro e w3 ⟨Ap, cp, rfl, hSp, hb3⟩
  have B3 := Lib.hid (B2.out.trans (hb3.mono s2))
  have s3 := B3.out.size
  have s23 := hb3.size
  have SB3 := Lib.hid (SB2.out.below hb3)
  have SP3 := Lib.hid hSp
  clear hb3 hSp
  have hn := refNew_u n seed np (by rw [HPP.out]; exact HNP.out) w3 hs
  rw [HPP.out, HEN.out] at hn
  go_wp2_with fail
  refine hn.mono ?_
  clear hn
  rintro e w4 ⟨Aq, cq, rfl, hSq, hb4⟩
  have K4 : Hid (Kept w w4 w4.heap.size A Ap Aq Ab l P) := Lib.hid ⟨(HA.out.below_le (B3.out.trans (hb4.mono s3)) HB.out).up (by have := HB.out; have := hb4.size; omega), (SP3.out.below hb4).up hb4.size, hSq, (SB3.out.below_le hb4 s23).up (by have := hb4.size; omega), Tab.below HT.out (B3.out.trans (hb4.mono s3)) ht, B3.out.trans (hb4.mono s3), Nat.le_refl _⟩
  have s4 := K4.out.below.size
  clear hb4 hSq
  have hn := Turn_done l len HL.out _ A c n a k on seed w4 hs hc K4.out.ge K4.out.b K4.out.tab HV.out
  rw [HR.out] at hn
  go_wp2_with fail
  refine hn.mono ?_
  clear hn
  rintro e w5 ⟨g, cap, rest, rfl, hg, hcap, hRc, hb5⟩
  have K5 := Lib.hid (K4.out.go ht hb5)
  have R5 := Lib.hid hRc
  clear hb5 hRc
  have hn := refTurn_done l len HL.out _ A c n a k on seed w5 hs hc K5.out.ge K5.out.b HV.out
  rw [HR.out] at hn
  go_wp2_with fail
  refine hn.mono ?_
  clear hn
  rintro e w6 ⟨g2, cap2, rest2, rfl, hg2, hcap2, hRd, hb6⟩
  have K6 := Lib.hid (K5.out.go ht hb6)
  have R6 := Lib.hid (R5.out.keep hb6 R5.out.lt)
  have D6 := Lib.hid hRd
  clear hb6 hRd
  have X1 := Lib.hid (Test_any l len HL.out _ A c a w6 hl8 K6.out.b)
  have X2 := Lib.hid (refTest_any l len HL.out _ A c a w6 hl8 K6.out.b)
  rw [HTB.out, HTE.out] at X1 X2
  go_wp2_with (first
    | (go_at_call 16; refine X1.out.mono ?_; rintro e w' ⟨rfl, rfl⟩)
    | (go_at_call 17; refine X2.out.mono ?_; rintro e w' ⟨rfl, rfl⟩))
  refine (Same_at 256 256 r HRL.out HRL.out _ _ _ _ cap cap2 _ (R6.out.sl R6.out.lt) (D6.out.sl D6.out.lt) (by omega)).mono ?_
  rintro e w7 ⟨rfl, hd7⟩
  have K7 := Lib.hid (K6.out.go ht (Drew.of hd7))
  have R7 := Lib.hid (R6.out.keep (Drew.of hd7) R6.out.lt)
  clear hd7
  go_wp2_with fail
  go_loopw [28] (fun v wr => ∃ (i : Nat) (s : List UInt8), i ≤ 256 ∧ v = .int .i64 i ∧ s.length = 256 ∧ Row wr g s rest ∧ w7.grownBy wr (some g)) (fun v _ => 256 - (intOf v).toNat)
  case atStart => exact ⟨0, r, by omega, rfl, HRL.out, R7.out, grown_refl _ _⟩
  case round =>
    obtain ⟨i, s, hi, rfl, hsl, hRs, hGs⟩ := hrel
    have RS := Lib.hid hRs
    have GS := Lib.hid hGs
    by_cases hlt : i < 256
    · have hi2 : i < s.length := by omega
      have hcell := hRs.cell hi2
      have hfr := hRs.free i
      obtain ⟨x, hx⟩ : ∃ x, s[i] = x := ⟨_, rfl⟩
      rw [hx] at hcell
      have hv2 := xor255 x
      obtain ⟨y, hy⟩ : ∃ y, UInt8.ofNat (x.toNat ^^^ 255) = y := ⟨_, rfl⟩
      rw [hy] at hv2
      have HSL := Lib.hid hsl
      have hbx := byte_lt x
      clear hx hy hsl hRs hGs hi2
      go_wp2
      go_roundw
      case rel => exact ⟨i + 1, s.set i y, by omega, by go_num, by rw [List.length_set]; exact HSL.out, RS.out.set (by have := HSL.out; omega) y, grown_set GS.out _ _⟩
      case measure => simp [intOf]; omega
    · obtain rfl : i = 256 := by omega
      have K8 := Lib.hid (K7.out.grown ht GS.out (by omega) (by omega))
      clear hsl hRs hGs
      go_wp2_with (first
        | (go_at_call 18; (with_reducible refine (Same_at np np P HNP.out HNP.out _ _ Ap Aq cp cq _ K8.out.p K8.out.q (by omega)).mono ?_); rintro e w9 ⟨rfl, hd9⟩
           have K9 := Lib.hid (K8.out.go ht (Drew.of hd9))
           have C1 := Lib.hid (Check_any l len HL.out _ A c n seed w9 hs hc K9.out.b K9.out.tab)
           rw [HCK.out] at C1
           clear hd9)
        | (go_at_call 19; refine C1.out.mono ?_; rintro e w10 ⟨rfl, hd10⟩
           have K10 := Lib.hid (K9.out.go ht (drew_below hd10))
           have C2 := Lib.hid (refCheck_any l len HL.out _ A c n seed w10 hs hc K10.out.b)
           rw [HCK.out] at C2
           clear hd10)
        | (go_at_call 20; refine C2.out.mono ?_; rintro e w' ⟨rfl, rfl⟩)
        | (go_at_call 18; (with_reducible refine (Same_at len len l HL.out HL.out _ _ A Ab c cb _ K10.out.b K10.out.o hl8).mono ?_); rintro e w11 ⟨rfl, hd11⟩
           have K11 := Lib.hid (K10.out.go ht (Drew.of hd11))
           clear hd11))
      go_ret
      exact ⟨rfl, K11.out.below⟩
end
theorem turns (l : List UInt8) (B : Nat) (A : Option Addr) (c : Nat) (n a k : Int) (on : Bool) (seed : Nat) (w : World) (hs : seed < 4294967296) (hc : l.length ≤ c) (ha : a ≤ 9223372036854775807) (hl : l.length ≤ 140737488351232) (hB : B ≤ w.heap.size) (hA : Sl w B A (l.map u8v)) (hT : Tab w) :
    Calls Tryd.prog 3 #[.slice A l.length c, .int .i64 n, .int .i64 a, .int .i64 k, .bool on, .int .u32 seed] w fun e w' => e = .returned (.bool true) ∧ Below w.heap.size w w' := by
  by_cases he : turnE l n a k on seed = 0
  · have hl2 : l.length = 256 := by
      rcases turnE_cases (l := l) (n := n) (a := a) (k := k) (on := on) (seed := seed) with ⟨h1, h2⟩ | ⟨h1, m, _, hm, hl2, _⟩
      · rw [he] at h2; exact absurd h2.symm h1
      · exact hl2
    exact turns_yes l _ rfl B A c n a k on seed w hs hc ha hl hB hA hT _ rfl (by unfold turnL; rw [sealL_len, flips_len, hl2]) he
  · exact turns_no l _ rfl B A c n a k on seed w hs hc ha hl hB hA hT _ rfl he
end Go.Proofs.YtlpipnpcgancmaaDoor.TTurns
