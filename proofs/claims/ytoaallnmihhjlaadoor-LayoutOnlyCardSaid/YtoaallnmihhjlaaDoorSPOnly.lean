/- Proved: called with any bytes and any number, the statement LayoutOnly answers true, and its arguments read behind the call as before. Conditions: the row's own (each slice takes at most 2^47 - 4096 bytes; the package variable fourSteps starts as the program's text lays it, which the card ties). -/
import Derived.Test.YtoaallnmihhjlaaDoorSDoor
import Derived.Test.YtoaallnmihhjlaaDoorBPlain
import Derived.Test.YtoaallnmihhjlaaDoorGFace
namespace Go.Proofs.YtoaallnmihhjlaaDoor.OLaw
open Go.RowKit WMem WPlain WFace2 WWide WAny WCrc WSeal GPlain GWithin GGeo GFace SNums SPlain SEqual SPack QPlain QMem QPack QUnp BPlain

theorem any_cases (b : List UInt8) (n : Int) : ((anyE b n = 22 ∨ anyE b n = 117) ∧ anyX b n = []) ∨ (anyE b n = 0 ∧ anyX b n = grpSays b n.toNat ∧ b.length = 256 ∧ 1 ≤ n ∧ n ≤ 14 ∧ grpMay (grpSays b n.toNat) = true ∧ grpBytes (grpSays b n.toNat) = b) := by
  unfold anyE anyX
  split
  · rename_i hi
    have hn := inB_true.1 hi
    cases hk : grpOk b n.toNat with
    | false => exact .inl (by simp [unE, unX, hk])
    | true =>
      refine .inr ?_
      have hk' := hk
      simp only [grpOk, grpGood, Bool.and_eq_true, beq_iff_eq] at hk'
      exact ⟨by simp [unE, hk], by simp [unX, hk], of_decide_eq_true hk'.1, hn.1, hn.2, hk'.2.1, hk'.2.2⟩
  · exact .inl (by simp)
set_option maxHeartbeats 2000000 in
set_option maxRecDepth 20000 in
/-- it is a super block: then no block of groups -/
theorem only_sup (b : List UInt8) (n : Int) (B : Nat) (A : Option Addr) (c : Nat) (hc : b.length ≤ c) (w : World) (hB : B ≤ w.heap.size) (hA : Sl w B A (b.map u8v)) (hT : Tab w) (h : supOk b = true) :
    Calls Tryd.prog 6 #[.slice A b.length c, .int .i64 n] w fun e w' => e = .returned (.bool true) ∧ Below w.heap.size w w' := by
  have HA := Lib.hid hA
  have HT := Lib.hid hT
  have htl := Tab.lt hT
  have hg : b.length = 256 ∧ supIs b = true ∧ supSays b = b := by
    simp only [supOk, supGood, Bool.and_eq_true, beq_iff_eq] at h
    exact ⟨of_decide_eq_true h.1, h.2.1, h.2.2⟩
  have hE : (anyE b n = 22 ∨ anyE b n = 117) ∧ anyX b n = [] := by
    unfold anyE anyX
    split
    · rename_i hi
      have hn := inB_true.1 hi
      have hk : grpOk b n.toNat = false := by
        rw [Bool.eq_false_iff]
        intro hk
        exact not_both b n.toNat (by omega) h hk
      simp [unE, unX, hk]
    · simp
  obtain ⟨hl, hi, hs⟩ := hg
  have hmay := (supMay_of hi).may
  have HUV := Lib.hid (unpV_yes h)
  have HI : Hid (supMay (f4 b 6) (f4 b 10) (f4 b 14) (f4 b 18) (f4 b 22) (f4 b 26) (f4 b 30) (f4 b 34) = true) := Lib.hid hi
  have HSS : Hid (supBytes (f4 b 6) (f4 b 10) (f4 b 14) (f4 b 18) (f4 b 22) (f4 b 26) (f4 b 30) (f4 b 34) (f1 b 38 == 1) = b) := Lib.hid hs
  have HE := Lib.hid hE
  have HM := Lib.hid hmay
  have HL := Lib.hid hl
  clear hA hT h hi hs hE hmay hl
  go_enter Tryd.func6, Tryd.ntmps6
  go_wp2_with fail
  refine (awake_any _).mono ?_
  rintro e w1 ⟨rfl, hb1⟩
  have HB1 := Lib.hid hb1
  have HA1 := Lib.hid (HA.out.below_le hb1 hB)
  have HT1 := Lib.hid (Tab.below HT.out hb1 htl)
  have hs1 := hb1.size
  clear hb1
  go_wp2_with fail
  refine (Unpack_c b B A c w1 hc (by omega) HA1.out HT1.out).mono ?_
  rintro e w2 ⟨rfl, hb2⟩
  rw [HUV.out]
  have HB2 := Lib.hid (below_up HB1.out hb2 hs1)
  have hs2 := HB2.out.size
  clear hb2
  have HX := Lib.hid (Boxed.start w2 [.int .i64 (f4 b 6), .int .i64 (f4 b 10), .int .i64 (f4 b 14), .int .i64 (f4 b 18), .int .i64 (f4 b 22), .int .i64 (f4 b 26), .int .i64 (f4 b 30), .int .i64 (f4 b 34), .bool (f1 b 38 == 1)] 25)
  go_wp2_with fail
  have HT3 := Lib.hid (Tab.below HT.out (HB2.out.alloc hs2 (.cells #[.int .i64 (f4 b 6), .int .i64 (f4 b 10), .int .i64 (f4 b 14), .int .i64 (f4 b 18), .int .i64 (f4 b 22), .int .i64 (f4 b 26), .int .i64 (f4 b 30), .int .i64 (f4 b 34), .bool (f1 b 38 == 1)] 25)) htl)
  refine (PackSuper_yes (f4 b 6) (f4 b 10) (f4 b 14) (f4 b 18) (f4 b 22) (f4 b 26) (f4 b 30) (f4 b 34) _ _ HI.out HT3.out).mono ?_
  rintro e w4 ⟨g4, rfl, hg4, hR4, hb4⟩
  rw [HSS.out] at hR4
  have HY4 := Lib.hid (HX.out.go hb4)
  have HB4 := Lib.hid (HB2.out.trans (HY4.out.below.mono hs2))
  obtain ⟨c0, c1, c2, c3, c4, c5, c6, c7, c8⟩ := Boxed.nine HY4.out
  have HR4 := Lib.hid (hR4.sl hR4.lt)
  have HA4 := Lib.hid (HA.out.below_le HB4.out hB)
  clear hg4 hR4 hb4 c4 c5 c6 c7 c8
  go_wp2_with fail
  refine (Same_any 256 b.length b b HL.out rfl w4.heap.size B _ A 256 c w4 HR4.out HA4.out (by decide) true (beq_self_eq_true _)).mono ?_
  rintro e w' ⟨rfl, nd, rfl⟩
  have d0 : (w4.drewN nd).cell? ⟨w2.heap.size, 0, none⟩ = some (.int .i64 (f4 b 6)) := c0
  have d1 : (w4.drewN nd).cell? ⟨w2.heap.size, 1, none⟩ = some (.int .i64 (f4 b 10)) := c1
  have d2 : (w4.drewN nd).cell? ⟨w2.heap.size, 2, none⟩ = some (.int .i64 (f4 b 14)) := c2
  have d3 : (w4.drewN nd).cell? ⟨w2.heap.size, 3, none⟩ = some (.int .i64 (f4 b 18)) := c3
  have HBD : Hid (Below w.heap.size w (w4.drewN nd)) := Lib.hid (below_drewN HB4.out nd)
  clear c0 c1 c2 c3
  generalize w4.drewN nd = w5 at *
  have hs5 := HBD.out.size
  go_wp2_with fail
  refine (Check_any (f4 b 6) (f4 b 10) (f4 b 14) (f4 b 18) w5).mono ?_
  rintro e w6 ⟨rfl, hb6⟩
  rw [show chk (f4 b 6) (f4 b 10) (f4 b 14) (f4 b 18) = 0 by simp [chk, HM.out]]
  have HB6 := Lib.hid (below_up HBD.out hb6 hs5)
  have HA6 := Lib.hid (HA.out.below_le HB6.out hB)
  have HT6 := Lib.hid (Tab.below HT.out HB6.out htl)
  have hs6 := HB6.out.size
  clear hb6 d0 d1 d2 d3
  go_wp2_with fail
  refine (UnpackGroups_any n b B A c hc w6 (by omega) HA6.out HT6.out).mono ?_
  rintro e w7 ⟨A7, c7, rfl, hG7, _, hb7⟩
  have HB7 := Lib.hid (below_up HB6.out hb7 hs6)
  clear hG7 hb7
  obtain ⟨hE, hX⟩ := HE.out
  rw [hX]
  rcases hE with hE | hE
  all_goals
    rw [hE]
    clear hE hX
    go_wp2
    go_ret
    exact ⟨rfl, HB7.out⟩
set_option maxHeartbeats 2000000 in
set_option maxRecDepth 20000 in
/-- it is none -/
theorem only_not (b : List UInt8) (n : Int) (B : Nat) (A : Option Addr) (c : Nat) (hc : b.length ≤ c) (w : World) (hB : B ≤ w.heap.size) (hA : Sl w B A (b.map u8v)) (hT : Tab w) (h : supOk b = false) :
    Calls Tryd.prog 6 #[.slice A b.length c, .int .i64 n] w fun e w' => e = .returned (.bool true) ∧ Below w.heap.size w w' := by
  have HA := Lib.hid hA
  have HT := Lib.hid hT
  have htl := Tab.lt hT
  have HUV := Lib.hid (unpV_no h)
  clear hA hT h
  go_enter Tryd.func6, Tryd.ntmps6
  go_wp2_with fail
  refine (awake_any _).mono ?_
  rintro e w1 ⟨rfl, hb1⟩
  have HB1 := Lib.hid hb1
  have HA1 := Lib.hid (HA.out.below_le hb1 hB)
  have HT1 := Lib.hid (Tab.below HT.out hb1 htl)
  have hs1 := hb1.size
  clear hb1
  go_wp2_with fail
  refine (Unpack_c b B A c w1 hc (by omega) HA1.out HT1.out).mono ?_
  rintro e w2 ⟨rfl, hb2⟩
  rw [HUV.out]
  unfold SUnp.NoSup
  have HB2 := Lib.hid ((below_up HB1.out hb2 hs1).alloc (below_up HB1.out hb2 hs1).size (.cells #[.int .i64 0, .int .i64 0, .int .i64 0, .int .i64 0, .int .i64 0, .int .i64 0, .int .i64 0, .int .i64 0, .bool false] 25))
  have HA2 := Lib.hid (HA.out.below_le HB2.out hB)
  have HT2 := Lib.hid (Tab.below HT.out HB2.out htl)
  have hs2 := HB2.out.size
  clear hb2
  go_wp2_with fail
  generalize w2.alloc (.cells #[.int .i64 0, .int .i64 0, .int .i64 0, .int .i64 0, .int .i64 0, .int .i64 0, .int .i64 0, .int .i64 0, .bool false] 25) = w3 at *
  refine (UnpackGroups_any n b B A c hc w3 (by omega) HA2.out HT2.out).mono ?_
  rintro e w7 ⟨A7, c7, rfl, hG7, _, hb7⟩
  have HB7 := Lib.hid (below_up HB2.out hb7 hs2)
  have HG7 := Lib.hid hG7
  have hs7 := HB7.out.size
  clear hG7 hb7
  rcases any_cases b n with ⟨hE, hX⟩ | ⟨hE, hX, hl, hn1, hn2, hm, hby⟩
  · rw [hX]
    rcases hE with hE | hE
    all_goals
      rw [hE]
      clear hE hX
      go_wp2
      go_ret
      exact ⟨rfl, HB7.out⟩
  · rw [hE]
    have HBY := Lib.hid hby
    have HLB := Lib.hid hl
    have HMY := Lib.hid hm
    have hlen : ((anyX b n).length : Int) = n := by rw [hX, grpSays_len]; omega
    have HLN := Lib.hid (grpBytes_len (anyX b n) (by omega))
    have HA7 := Lib.hid (HA.out.below_le HB7.out hB)
    have HT7 := Lib.hid (Tab.below HT.out HB7.out htl)
    rw [← hX] at HBY HMY
    clear hE hX hby hl hm
    generalize anyX b n = X at *
    go_wp2_with fail
    refine (PackGroups_any X w7.heap.size A7 c7 w7 (Nat.le_refl _) HG7.out HT7.out).mono ?_
    rintro e w8 ⟨hyes, _, hb8⟩
    obtain ⟨g8, rfl, hg8, hR8⟩ := hyes HMY.out
    rw [HBY.out] at hR8
    have HB8 := Lib.hid (below_up HB7.out hb8 hs7)
    have HA8 := Lib.hid (HA.out.below_le HB8.out hB)
    have HR8 := Lib.hid (hR8.sl hR8.lt)
    clear hyes hb8 hR8 hg8
    go_wp2_with fail
    refine (Same_any 256 b.length b b HLB.out rfl w8.heap.size B _ A 256 c w8 HR8.out HA8.out (by decide) true (beq_self_eq_true _)).mono ?_
    rintro e w' ⟨rfl, nd, rfl⟩
    go_wp2
    go_ret
    exact ⟨rfl, below_drewN HB8.out nd⟩
theorem only (b : List UInt8) (n : Int) (B : Nat) (A : Option Addr) (c : Nat) (hc : b.length ≤ c) (w : World) (hB : B ≤ w.heap.size) (hA : Sl w B A (b.map u8v)) (hT : Tab w) :
    Calls Tryd.prog 6 #[.slice A b.length c, .int .i64 n] w fun e w' => e = .returned (.bool true) ∧ Below w.heap.size w w' := by
  cases h : supOk b with
  | true => exact only_sup b n B A c hc w hB hA hT h
  | false => exact only_not b n B A c hc w hB hA hT h
end Go.Proofs.YtoaallnmihhjlaaDoor.OLaw
namespace Go.Proofs.YtoaallnmihhjlaaDoor.SPOnly
open Go.ChangeShapes Go.WideShapes Go.ChangeAt Go.RowKit WMem WPlain WCrc RowEnd Args Door SDoor

set_option maxRecDepth 100000 in
theorem contract (H : Type) (enc : TypeId × Value → H) (W : World) (base : Nat) (args : Array Value) (ds gs : List (DataW H)) (before : List MemPlace)
    (hval : ∀ (j : Nat) t v, Tryd.f6.params[j]? = some t → args[j]? = some v → Value.okWide Tryd.prog W .any base t v)
    (hW : DataW.Whole enc Tryd.prog Tryd.f6.params.toList Rows.layoutOnlySpec.vars false W args.toList ds gs before)
    (hsz : (DataW.weightsEach Tryd.prog (Tryd.f6.params.toList ++ []) (ds ++ gs)).all (· ≤ reachBytes) = true) (hL : laidMetH Tryd.prog laid1 W) :
    Calls Tryd.prog 6 args W fun e W' => ∃ v, e = .returned v ∧ Rows.layoutOnlySpec.post enc Tryd.prog Tryd.f6 false true false false W args v W' := by
  have hW' := hW
  obtain ⟨p, q, hA0, hV, hbe, hfz, hnd⟩ := hW
  have hA : DataW.TrodAll enc Tryd.prog W 0 (fun _ => true) true Tryd.f6.params.toList args.toList ds p := hA0
  have hA1 := hA
  obtain ⟨rfl, rfl⟩ := trodVars_none hV
  rw [List.append_nil] at hbe hsz
  rw [Tryd.params6] at hA hval hsz
  obtain ⟨v0, vs0, d0, ds0, p0, q0, hargs, rfl, rfl, h0, r0⟩ := trodAll_cons hA
  obtain ⟨v1, vs1, d1, ds1, p1, q1, rfl, rfl, rfl, h1, r1⟩ := trodAll_cons r0
  obtain ⟨rfl, rfl, rfl⟩ := trodAll_nil r1
  obtain rfl : args = #[v0, v1] := by cases args; simp_all
  obtain ⟨x1, rfl, rfl, rfl, w1⟩ := open_int i64t (hval 1 3 v1 rfl rfl) h1
  have b1 := bounds_i64 w1
  obtain ⟨A0, l0, c0, rfl, s0, z0, k0⟩ := arg_u8s u8s u8t c8 b8 (hval 0 26 v0 rfl rfl) h0 hsz (j := 0) rfl rfl
  refine (OLaw.only l0 x1 _ A0 c0 k0 W (Nat.le_refl _) s0 (tab_of hL)).mono fun e W' ⟨he, hb⟩ => ?_
  subst he
  refine ⟨_, rfl, law_post laidOut (by kernel_rfl) rfl boolt rfl rfl rfl rfl hW' hA1 (fun x hx => hW'.lt x (by rw [hbe]; exact hx)) hb⟩

abbrev start : Array Value := #[.slice none 0 0, .int .i64 0]
theorem laid_met (os : Os) : laidMet Tryd.prog laid1 ((laidWorld os).forCall (fun _ _ => 0) ⟨#[], start, []⟩).memory :=
  laidMet_of_run' 8 (by kernel_rfl) (by kernel_rfl)
theorem reads (os : Os) {H : Type} (enc : TypeId × Value → H) : ∃ places, DataW.whole enc Tryd.prog ((laidWorld os).forCall (fun _ _ => 0) ⟨#[], start, []⟩).memory Tryd.f6.params.toList Rows.layoutOnlySpec.vars false start.toList 8 = some ([.nil, .lit (.int .i64 0)], [], places) :=
  ⟨[], by kernel_rfl⟩

set_option maxRecDepth 100000 in
theorem lifted (os : Os) (started : os.Started) (H : Type) (enc : TypeId × Value → H) (F : Stop.Interp) :
    ReturnsInHanded {} Tryd.checked os 6 .any ((OpenSpec.ofChange Rows.layoutOnlySpec).preRow enc Tryd.prog Tryd.f6 Rows.layoutOnlyRow.domain false Rows.layoutOnlyRow.laid) (((OpenSpec.ofChange Rows.layoutOnlySpec).at F).post enc Tryd.prog Tryd.f6 false true false false) := by
  obtain ⟨places, hx⟩ := reads os enc
  refine returnsInHanded_of_row (C := Tryd.checked) (s := (OpenSpec.ofChange Rows.layoutOnlySpec)) own started (by kernel_rfl) Tryd.func6
    (witness_row_at (enc := enc) (C := Tryd.checked) false (laidWorld os) start rfl (by kernel_rfl) (by kernel_rfl) (by kernel_rfl)
      (OpenSpec.preRow_of_cond 8 hx (by kernel_rfl) (fun k hk => by cases hk) (by kernel_rfl) (laid_met os))) ?_
  intro W base args ds gs before hval hW _ _ hsz hL _ _
  exact contract H enc W base args ds gs before hval hW hsz hL

theorem said : Rows.LayoutOnlySaid :=
  OpenClaim.holds_of_cond 6 Tryd.f6 rfl rfl rfl rfl rfl rfl rfl ⟨rfl, rfl, rfl, rfl, rfl⟩ rfl rfl rfl rfl rfl (by kernel_rfl) Tryd.func6 (by kernel_rfl)
    (of_decide_eq_true (by kernel_rfl)) (by unfold Func.isWrapper; first | (rw [if_pos (by decide +kernel)]; kernel_rfl) | (rw [if_neg (by decide +kernel)]; exact ⟨rfl, rfl⟩))
    (fun os started H enc _ F => by rw [OpenClaim.pre_eq_preRow]; exact lifted os started H enc F)

theorem plain (f : FuncId) (fn : Func) (hf : Tryd.pinned.checked.prog.funcNamed "hayrick/hayricklaw04.LayoutOnly" = some f) (hfn : Tryd.pinned.checked.prog.funcs[f]? = some fn) :
    true = Tryd.pinned.checked.prog.looks [] ∧ ∀ (j : Nat) t, fn.params[j]? = some t → Tryd.pinned.checked.prog.wantsStandIn t = false := by
  obtain rfl : f = 6 := Option.some.inj ((show Tryd.prog.funcNamed "hayrick/hayricklaw04.LayoutOnly" = some 6 by kernel_rfl).symm.trans hf) |>.symm
  obtain rfl : fn = Tryd.f6 := (Option.some.inj (Tryd.func6.symm.trans hfn)).symm
  refine ⟨by kernel_rfl, fun j t ht => ?_⟩
  have hall : (Tryd.f6.params.toList.all fun u => !Tryd.prog.wantsStandIn u) = true := by kernel_rfl
  have := List.all_eq_true.1 hall t (Array.mem_toList_iff.2 (Array.mem_of_getElem? ht))
  exact (show Tryd.prog.wantsStandIn t = false by simpa using this)

theorem card : Rows.LayoutOnlyCardSaid :=
  Claim7.holds_tied_plain_at .later [] _ _ _ _ said (fun _ h => by cases h) (by kernel_rfl) (fun _ h => by cases h) layoutOnly_row_tie rfl ⟨rfl, rfl⟩ (by kernel_rfl) rfl plain (by kernel_rfl)
#print axioms card
end Go.Proofs.YtoaallnmihhjlaaDoor.SPOnly
