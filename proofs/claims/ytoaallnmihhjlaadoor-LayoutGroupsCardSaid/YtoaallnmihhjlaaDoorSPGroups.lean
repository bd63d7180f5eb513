/- Proved: called with any groups, any bytes and any number, the statement LayoutGroups answers true, and its arguments read behind the call as before. Conditions: the row's own (each slice takes at most 2^47 - 4096 bytes; the package variable fourSteps starts as the program's text lays it, which the card ties). -/
import Derived.Test.YtoaallnmihhjlaaDoorQDoor
import Derived.Test.YtoaallnmihhjlaaDoorQRUnp
import Derived.Test.YtoaallnmihhjlaaDoorGFace
namespace Go.Proofs.YtoaallnmihhjlaaDoor.QLaw
open Go.RowKit WMem WPlain WFace2 WWide WAny WCrc WSeal GPlain GWithin GGeo GFace SNums SPlain SEqual SRUnp QPlain QMem QPack QRPack QUnp QRUnp

theorem anyX_le (b : List UInt8) (n : Int) : (anyX b n).length ≤ 140737488355328 := by
  unfold anyX
  split
  · rename_i h
    have := inB_true.1 h
    unfold unX
    split
    · rw [grpSays_len]; omega
    · simp
  · simp
set_option maxHeartbeats 2000000 in
set_option maxRecDepth 20000 in
theorem groups_no (l : List Grp) (Al : Option Addr) (cl : Nat) (b : List UInt8) (n : Int) (B : Nat) (A : Option Addr) (c : Nat) (hc : b.length ≤ c) (w : World) (hB : B ≤ w.heap.size) (hL : Grps w B Al l) (hA : Sl w B A (b.map u8v)) (hT : Tab w) (h : grpMay l = false) :
    Calls Tryd.prog 4 #[.slice Al l.length cl, .slice A b.length c, .int .i64 n] w fun e w' => e = .returned (.bool true) ∧ Below w.heap.size w w' := by
  have HL := Lib.hid hL
  have HA := Lib.hid hA
  have HT := Lib.hid hT
  have htl := Tab.lt hT
  have H := Lib.hid h
  clear hL hA hT h
  go_enter Tryd.func4, Tryd.ntmps4
  go_wp2_with fail
  refine (awake_any _).mono ?_
  rintro e w1 ⟨rfl, hb1⟩
  have HB1 := Lib.hid hb1
  have HL1 := Lib.hid (HL.out.below hb1 hB)
  have HT1 := Lib.hid (Tab.below HT.out hb1 htl)
  have hs1 := hb1.size
  clear hb1
  go_wp2_with fail
  refine (PackGroups_any l B Al cl w1 (by omega) HL1.out HT1.out).mono ?_
  rintro e w2 ⟨_, hno, hb2⟩
  obtain rfl := hno H.out
  have HB2 := Lib.hid (below_up HB1.out hb2 hs1)
  have HL2 := Lib.hid (HL.out.below HB2.out hB)
  have hs2 := HB2.out.size
  clear hno hb2
  go_wp2_with fail
  refine (refPackGroups_any l B Al cl w2 (by omega) HL2.out).mono ?_
  rintro e w3 ⟨_, hno, hb3⟩
  obtain rfl := hno H.out
  have HB3 := Lib.hid (below_up HB2.out hb3 hs2)
  have HA3 := Lib.hid (HA.out.below_le HB3.out hB)
  have HT3 := Lib.hid (Tab.below HT.out HB3.out htl)
  have hs3 := HB3.out.size
  clear hno hb3
  go_wp2_with fail
  refine (UnpackGroups_any n b B A c hc w3 (by omega) HA3.out HT3.out).mono ?_
  rintro e w4 ⟨A4, c4, rfl, hG4, _, hb4⟩
  have HB4 := Lib.hid (below_up HB3.out hb4 hs3)
  have HA4 := Lib.hid (HA.out.below_le HB4.out hB)
  have HG4 := Lib.hid hG4
  have hs4 := HB4.out.size
  clear hG4 hb4
  go_wp2_with fail
  refine (refUnpackGroups_any n b B A c w4 (by omega) HA4.out).mono ?_
  rintro e w5 ⟨A5, c5, rfl, hG5, _, hb5⟩
  have HB5 := Lib.hid (below_up HB4.out hb5 hs4)
  have HG45 := Lib.hid (HG4.out.below hb5 (Nat.le_refl _))
  have HG5 := Lib.hid hG5
  clear hG5 hb5
  have HLE := Lib.hid (anyX_le b n)
  generalize anyX b n = X at *
  generalize anyE b n = E at *
  go_wp2_with fail
  refine (Same_any 0 0 [] [] rfl rfl 0 0 none none 0 0 _ (Sl.nil _ _ _) (Sl.nil _ _ _) (by decide) true rfl).mono ?_
  rintro e w' ⟨rfl, nd, rfl⟩
  go_wp2_with fail
  refine (sameGroups_yes X _ _ A4 A5 c4 c5 _ HLE.out (HG45.out.drewN nd) (HG5.out.drewN nd)).mono ?_
  rintro e w' ⟨rfl, nd2, rfl⟩
  go_wp2
  go_ret
  exact ⟨rfl, below_drewN HB5.out (nd + nd2)⟩
set_option maxHeartbeats 2000000 in
set_option maxRecDepth 20000 in
theorem groups_yes (l : List Grp) (Al : Option Addr) (cl : Nat) (b : List UInt8) (n : Int) (B : Nat) (A : Option Addr) (c : Nat) (hc : b.length ≤ c) (w : World) (hB : B ≤ w.heap.size) (hL : Grps w B Al l) (hA : Sl w B A (b.map u8v)) (hT : Tab w) (h : grpMay l = true) :
    Calls Tryd.prog 4 #[.slice Al l.length cl, .slice A b.length c, .int .i64 n] w fun e w' => e = .returned (.bool true) ∧ Below w.heap.size w w' := by
  have HL := Lib.hid hL
  have HA := Lib.hid hA
  have HT := Lib.hid hT
  have htl := Tab.lt hT
  have H := Lib.hid h
  have HLN := Lib.hid (grpBytes_len l (by have := (grpMay_iff.1 h).1; omega))
  clear hL hA hT h
  go_enter Tryd.func4, Tryd.ntmps4
  go_wp2_with fail
  refine (awake_any _).mono ?_
  rintro e w1 ⟨rfl, hb1⟩
  have HB1 := Lib.hid hb1
  have HL1 := Lib.hid (HL.out.below hb1 hB)
  have HT1 := Lib.hid (Tab.below HT.out hb1 htl)
  have hs1 := hb1.size
  clear hb1
  go_wp2_with fail
  refine (PackGroups_any l B Al cl w1 (by omega) HL1.out HT1.out).mono ?_
  rintro e w2 ⟨hyes, _, hb2⟩
  obtain ⟨g2, rfl, hg2, hR2⟩ := hyes H.out
  have HB2 := Lib.hid (below_up HB1.out hb2 hs1)
  have HL2 := Lib.hid (HL.out.below HB2.out hB)
  have HR2 := Lib.hid (hR2.sl hR2.lt)
  have hs2 := HB2.out.size
  clear hyes hb2 hR2 hg2
  go_wp2_with fail
  refine (refPackGroups_any l B Al cl w2 (by omega) HL2.out).mono ?_
  rintro e w3 ⟨hyes, _, hb3⟩
  obtain ⟨v3, rfl, hO3⟩ := hyes H.out
  obtain ⟨A3, c3, rfl, hS3⟩ := own256 hO3 HLN.out
  have HB3 := Lib.hid (below_up HB2.out hb3 hs2)
  have HA3 := Lib.hid (HA.out.below_le HB3.out hB)
  have HT3 := Lib.hid (Tab.below HT.out HB3.out htl)
  have HR3 := Lib.hid ((HR2.out.below hb3).up hb3.size)
  have HS3 := Lib.hid hS3
  have hs3 := HB3.out.size
  clear hyes hb3 hO3 hS3
  go_wp2_with fail
  refine (UnpackGroups_any n b B A c hc w3 (by omega) HA3.out HT3.out).mono ?_
  rintro e w4 ⟨A4, c4, rfl, hG4, _, hb4⟩
  have HB4 := Lib.hid (below_up HB3.out hb4 hs3)
  have HA4 := Lib.hid (HA.out.below_le HB4.out hB)
  have HR4 := Lib.hid ((HR3.out.below hb4).up hb4.size)
  have HS4 := Lib.hid ((HS3.out.below hb4).up hb4.size)
  have HG4 := Lib.hid hG4
  have hs4 := HB4.out.size
  clear hG4 hb4
  go_wp2_with fail
  refine (refUnpackGroups_any n b B A c w4 (by omega) HA4.out).mono ?_
  rintro e w5 ⟨A5, c5, rfl, hG5, _, hb5⟩
  have HB5 := Lib.hid (below_up HB4.out hb5 hs4)
  have HR5 := Lib.hid (HR4.out.below hb5)
  have HS5 := Lib.hid (HS4.out.below hb5)
  have HG45 := Lib.hid (HG4.out.below hb5 (Nat.le_refl _))
  have HG5 := Lib.hid hG5
  clear hG5 hb5
  have HLE := Lib.hid (anyX_le b n)
  generalize anyX b n = X at *
  generalize anyE b n = E at *
  go_wp2_with fail
  refine (Same_any 256 256 (grpBytes l) (grpBytes l) HLN.out HLN.out _ _ _ A3 256 c3 _ HR5.out HS5.out (by decide) true (beq_self_eq_true _)).mono ?_
  rintro e w' ⟨rfl, nd, rfl⟩
  go_wp2_with fail
  refine (sameGroups_yes X _ _ A4 A5 c4 c5 _ HLE.out (HG45.out.drewN nd) (HG5.out.drewN nd)).mono ?_
  rintro e w' ⟨rfl, nd2, rfl⟩
  go_wp2
  go_ret
  exact ⟨rfl, below_drewN HB5.out (nd + nd2)⟩
theorem groups (l : List Grp) (Al : Option Addr) (cl : Nat) (b : List UInt8) (n : Int) (B : Nat) (A : Option Addr) (c : Nat) (hc : b.length ≤ c) (w : World) (hB : B ≤ w.heap.size) (hL : Grps w B Al l) (hA : Sl w B A (b.map u8v)) (hT : Tab w) :
    Calls Tryd.prog 4 #[.slice Al l.length cl, .slice A b.length c, .int .i64 n] w fun e w' => e = .returned (.bool true) ∧ Below w.heap.size w w' := by
  cases h : grpMay l with
  | true => exact groups_yes l Al cl b n B A c hc w hB hL hA hT h
  | false => exact groups_no l Al cl b n B A c hc w hB hL hA hT h
end Go.Proofs.YtoaallnmihhjlaaDoor.QLaw
namespace Go.Proofs.YtoaallnmihhjlaaDoor.SPGroups
open Go.ChangeShapes Go.WideShapes Go.ChangeAt Go.RowKit WMem WPlain WCrc RowEnd Args Door SDoor QDoor

set_option maxRecDepth 100000 in
theorem contract (H : Type) (enc : TypeId × Value → H) (W : World) (base : Nat) (args : Array Value) (ds gs : List (DataW H)) (before : List MemPlace)
    (hval : ∀ (j : Nat) t v, Tryd.f4.params[j]? = some t → args[j]? = some v → Value.okWide Tryd.prog W .any base t v)
    (hW : DataW.Whole enc Tryd.prog Tryd.f4.params.toList Rows.layoutGroupsSpec.vars false W args.toList ds gs before)
    (hsz : (DataW.weightsEach Tryd.prog (Tryd.f4.params.toList ++ []) (ds ++ gs)).all (· ≤ reachBytes) = true) (hL : laidMetH Tryd.prog laid1 W) :
    Calls Tryd.prog 4 args W fun e W' => ∃ v, e = .returned v ∧ Rows.layoutGroupsSpec.post enc Tryd.prog Tryd.f4 false true false false W args v W' := by
  have hW' := hW
  obtain ⟨p, q, hA0, hV, hbe, hfz, hnd⟩ := hW
  have hA : DataW.TrodAll enc Tryd.prog W 0 (fun _ => true) true Tryd.f4.params.toList args.toList ds p := hA0
  have hA1 := hA
  obtain ⟨rfl, rfl⟩ := trodVars_none hV
  rw [List.append_nil] at hbe hsz
  rw [Tryd.params4] at hA hval hsz
  obtain ⟨v0, vs0, d0, ds0, p0, q0, hargs, rfl, rfl, h0, r0⟩ := trodAll_cons hA
  obtain ⟨v1, vs1, d1, ds1, p1, q1, rfl, rfl, rfl, h1, r1⟩ := trodAll_cons r0
  obtain ⟨v2, vs2, d2, ds2, p2, q2, rfl, rfl, rfl, h2, r2⟩ := trodAll_cons r1
  obtain ⟨rfl, rfl, rfl⟩ := trodAll_nil r2
  obtain rfl : args = #[v0, v1, v2] := by cases args; simp_all
  obtain ⟨x2, rfl, rfl, rfl, w2⟩ := open_int i64t (hval 2 3 v2 rfl rfl) h2
  have b2 := bounds_i64 w2
  obtain ⟨A0, l0, c0, rfl, s0, z0⟩ := arg_grps (hval 0 35 v0 rfl rfl) h0 hsz (j := 0) rfl rfl
  obtain ⟨A1, l1, c1, rfl, s1, z1, k1⟩ := arg_u8s u8s u8t c8 b8 (hval 1 26 v1 rfl rfl) h1 hsz (j := 1) rfl rfl
  refine (QLaw.groups l0 A0 c0 l1 x2 _ A1 c1 k1 W (Nat.le_refl _) s0 s1 (tab_of hL)).mono fun e W' ⟨he, hb⟩ => ?_
  subst he
  refine ⟨_, rfl, law_post laidOut (by kernel_rfl) rfl boolt rfl rfl rfl rfl hW' hA1 (fun x hx => hW'.lt x (by rw [hbe]; exact hx)) hb⟩

abbrev start : Array Value := #[.slice none 0 0, .slice none 0 0, .int .i64 0]
theorem laid_met (os : Os) : laidMet Tryd.prog laid1 ((laidWorld os).forCall (fun _ _ => 0) ⟨#[], start, []⟩).memory :=
  laidMet_of_run' 8 (by kernel_rfl) (by kernel_rfl)
theorem reads (os : Os) {H : Type} (enc : TypeId × Value → H) : ∃ places, DataW.whole enc Tryd.prog ((laidWorld os).forCall (fun _ _ => 0) ⟨#[], start, []⟩).memory Tryd.f4.params.toList Rows.layoutGroupsSpec.vars false start.toList 8 = some ([.nil, .nil, .lit (.int .i64 0)], [], places) :=
  ⟨[], by kernel_rfl⟩

set_option maxRecDepth 100000 in
theorem lifted (os : Os) (started : os.Started) (H : Type) (enc : TypeId × Value → H) (F : Stop.Interp) :
    ReturnsInHanded {} Tryd.checked os 4 .any ((OpenSpec.ofChange Rows.layoutGroupsSpec).preRow enc Tryd.prog Tryd.f4 Rows.layoutGroupsRow.domain false Rows.layoutGroupsRow.laid) (((OpenSpec.ofChange Rows.layoutGroupsSpec).at F).post enc Tryd.prog Tryd.f4 false true false false) := by
  obtain ⟨places, hx⟩ := reads os enc
  refine returnsInHanded_of_row (C := Tryd.checked) (s := (OpenSpec.ofChange Rows.layoutGroupsSpec)) own started (by kernel_rfl) Tryd.func4
    (witness_row_at (enc := enc) (C := Tryd.checked) false (laidWorld os) start rfl (by kernel_rfl) (by kernel_rfl) (by kernel_rfl)
      (OpenSpec.preRow_of_cond 8 hx (by kernel_rfl) (fun k hk => by cases hk) (by kernel_rfl) (laid_met os))) ?_
  intro W base args ds gs before hval hW _ _ hsz hL _ _
  exact contract H enc W base args ds gs before hval hW hsz hL

theorem said : Rows.LayoutGroupsSaid :=
  OpenClaim.holds_of_cond 4 Tryd.f4 rfl rfl rfl rfl rfl rfl rfl ⟨rfl, rfl, rfl, rfl, rfl⟩ rfl rfl rfl rfl rfl (by kernel_rfl) Tryd.func4 (by kernel_rfl)
    (of_decide_eq_true (by kernel_rfl)) (by unfold Func.isWrapper; first | (rw [if_pos (by decide +kernel)]; kernel_rfl) | (rw [if_neg (by decide +kernel)]; exact ⟨rfl, rfl⟩))
    (fun os started H enc _ F => by rw [OpenClaim.pre_eq_preRow]; exact lifted os started H enc F)

theorem plain (f : FuncId) (fn : Func) (hf : Tryd.pinned.checked.prog.funcNamed "hayrick/hayricklaw04.LayoutGroups" = some f) (hfn : Tryd.pinned.checked.prog.funcs[f]? = some fn) :
    true = Tryd.pinned.checked.prog.looks [] ∧ ∀ (j : Nat) t, fn.params[j]? = some t → Tryd.pinned.checked.prog.wantsStandIn t = false := by
  obtain rfl : f = 4 := Option.some.inj ((show Tryd.prog.funcNamed "hayrick/hayricklaw04.LayoutGroups" = some 4 by kernel_rfl).symm.trans hf) |>.symm
  obtain rfl : fn = Tryd.f4 := (Option.some.inj (Tryd.func4.symm.trans hfn)).symm
  refine ⟨by kernel_rfl, fun j t ht => ?_⟩
  have hall : (Tryd.f4.params.toList.all fun u => !Tryd.prog.wantsStandIn u) = true := by kernel_rfl
  have := List.all_eq_true.1 hall t (Array.mem_toList_iff.2 (Array.mem_of_getElem? ht))
  exact (show Tryd.prog.wantsStandIn t = false by simpa using this)

theorem card : Rows.LayoutGroupsCardSaid :=
  Claim7.holds_tied_plain_at .later [] _ _ _ _ said (fun _ h => by cases h) (by kernel_rfl) (fun _ h => by cases h) layoutGroups_row_tie rfl ⟨rfl, rfl⟩ (by kernel_rfl) rfl plain (by kernel_rfl)
#print axioms card
end Go.Proofs.YtoaallnmihhjlaaDoor.SPGroups
