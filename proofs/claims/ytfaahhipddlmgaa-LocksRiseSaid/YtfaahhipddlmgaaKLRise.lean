/- LocksRise holds: rising keys never lock up. -/
import Derived.Test.YtfaahhipddlmgaaKStart
import Derived.Deep.CutBlock
import Derived.Deep.DeepCutAuto
namespace Go.Proofs.Ytfaahhipddlmgaa.KLRise
open Go.RowKit WMem Ext WAppend KMap KPlain KMem KAsk KLeave KLaw KScript KArgs KBits KWPlain KWMem KRMem KMay KGoes KMake KStart

def low63 (x : Int) : Nat := (BitVec.ofInt 64 x &&& BitVec.ofInt 64 63).toNat
theorem low63_lt (x : Int) : low63 x < 64 := by
  unfold low63
  rw [BitVec.toNat_and]
  exact Nat.lt_of_le_of_lt Nat.and_le_right (by decide)
theorem and63 (x : Int) : bits BinOp.and IntKind.i64 x 63 = (low63 x : Int) := by
  have h := low63_lt x
  show IntKind.i64.wrap ((BitVec.ofInt 64 x &&& BitVec.ofInt 64 63).toNat : Int) = _
  rw [IntKind.wrap_i64]
  unfold low63 at *
  omega
theorem grid_up {w : World} {B B' : Nat} {A : Option Addr} {G : List (List Int)} (h : Grid w B A G) (hB : B ≤ B') : Grid w B' A G := fun i hi => by
  obtain ⟨a, A', c, hA, hab, h1, h2, h3⟩ := h i hi
  exact ⟨a, A', c, hA, Nat.lt_of_lt_of_le hab hB, h1, h2.up hB, h3⟩
theorem pick_eq (z : Int) {n : Nat} (hn : 0 < n) (h8 : n ≤ 8) : ∃ q : Nat, wrap64 ((IntKind.u64.wrap z).tmod (n : Int)) = (q : Int) ∧ q < n := by
  have h0 : 0 ≤ IntKind.u64.wrap z := by rw [IntKind.wrap_u64]; omega
  obtain ⟨q, h1, h2⟩ := pick_lt (IntKind.u64.wrap z) hn
  refine ⟨q, ?_, h2⟩
  rw [Int.tmod_eq_emod_of_nonneg h0, h1]
  unfold wrap64
  omega
/-- who may go, of those below k -/
structure Can (R : Rw) (W : Nat → Wk) (m k : Nat) (js : List Nat) : Prop where
  may : ∀ q, q ∈ js → q < m ∧ mayGo R W q = true
  all : ∀ q, q < k → mayGo R W q = true → q ∈ js
  few : js.length ≤ k
theorem Can.no {R : Rw} {W : Nat → Wk} {m k : Nat} {js : List Nat} (h : Can R W m k js) (hq : mayGo R W k = false) : Can R W m (k + 1) js :=
  ⟨h.may, fun q h1 h2 => by
    rcases Nat.lt_or_ge q k with h3 | h3
    · exact h.all q h3 h2
    · obtain rfl : q = k := by omega
      exact absurd (hq.symm.trans h2) (by decide), Nat.le_succ_of_le h.few⟩
theorem Can.yes {R : Rw} {W : Nat → Wk} {m k : Nat} {js : List Nat} (h : Can R W m k js) (hk : k < m) (hq : mayGo R W k = true) : Can R W m (k + 1) (js ++ [k]) := by
  refine ⟨fun q h1 => ?_, fun q h1 h2 => ?_, by rw [List.length_append]; have := h.few; simp; omega⟩
  · rcases List.mem_append.1 h1 with h3 | h3
    · exact h.may q h3
    · rw [List.mem_singleton.1 h3]; exact ⟨hk, hq⟩
  · rcases Nat.lt_or_ge q k with h3 | h3
    · exact List.mem_append_left _ (h.all q h3 h2)
    · obtain rfl : q = k := by omega
      simp
theorem Can.some {R : Rw} {W : Nat → Wk} {m : Nat} {js : List Nat} (h : Can R W m m js) (iv : Inv R W m) (hl : 0 < live W m) : 0 < js.length := by
  obtain ⟨q, hq, h1⟩ := somebody iv (live_some hl)
  exact List.length_pos_of_mem (h.all q hq h1)

set_option maxRecDepth 100000 in
set_option maxHeartbeats 1600000 in
theorem rise_true (G : List (List Int)) (alone : Int) (picks : List Int) (A0 A2 : Option Addr) (c0 c2 : Nat) (w : World) (hG : Grid w w.heap.size A0 G) (_hl : G.length ≤ 140737488355328) (_hf : ∀ z ∈ picks, Fits z) (hs : Sl w w.heap.size A2 (picks.map i64v)) (_hz : picks.length ≤ 140737488355328) (_hal : Fits alone) :
    Calls Try.prog 6 #[.slice A0 G.length c0, .int .i64 alone, .slice A2 picks.length c2] w fun e w' => e = .returned (.bool true) ∧ Below w.heap.size w w' := by
  have HG := Lib.hid hG
  have HS := Lib.hid hs
  clear hG hs _hf
  go_enter Try.func6, Try.ntmps6
  go_wp2_with fail
  refine (awake_any w).mono ?_
  rintro e w1 ⟨rfl, hb1⟩
  have HB1 := Lib.hid hb1
  clear hb1
  go_wp2_with fail
  refine (New_own w1).mono ?_
  rintro e w2 ⟨b, rfl, S0, o2⟩
  have HO2 := Lib.hid o2
  clear o2
  go_wp2_with fail
  refine (walkers_any G A0 c0 w2 (grid_up ((HG.out.below HB1.out (Nat.le_refl _)).below (HO2.out.below.mono HB1.out.size) (Nat.le_refl _)) (Nat.le_trans HB1.out.size HO2.out.below.size))).mono ?_
  rintro e w3 ⟨v, p, W0, m, rfl, ht, hk, hm, hn, hb3⟩
  obtain ⟨A1, c1, rfl⟩ := own_form ht.row
  have HC := Lib.hid (crew_start HB1.out HO2.out ht hb3)
  have HI := Lib.hid (inv_start hk hm hn)
  have HLV : Hid (live W0 m = m) := live_all (fun i hi => (hn i hi).2)
  generalize Since w2 w3 = T at *
  clear ht hk hn hb3 HO2 HB1
  go_wp2_with fail
  go_loopw [10, 11] (fun lv ix wr => ∃ (j : Nat) (S : Nat → Prop) (R : Rw) (n : Nat) (W : Nat → Wk), lv = .int .i64 (live W m) ∧ ix = .int .i64 j ∧ Crew w wr S T b R n (.slice A1 m c1) p W m ∧ Inv R W m ∧ j + work W m ≤ 72 ∧ n ≤ 9 * j) (fun _ ix _ => 1000 - (intOf ix).toNat)
  case atStart => exact ⟨0, S0, _, 0, W0, by rw [HLV.out], rfl, HC.out, HI.out, by have := work_start HI.out; omega, Nat.zero_le _⟩
  case round =>
    obtain ⟨j, S, R, n, W, rfl, rfl, hc, hi, hw, hn9⟩ := hrel
    have HC2 := Lib.hid hc
    have HI2 := Lib.hid hi
    have hlw := live_le_work W m
    have hj0 : (0 : Int) ≤ (j : Int) := Int.natCast_nonneg _
    by_cases hlive : 0 < live W m
    · have hl1 : (0 : Int) < ((live W m : Nat) : Int) := by omega
      have hj1 : (j : Int) < 1000 := by omega
      have HSM : Hid (∀ js, Can R W m m js → 0 < js.length) := fun js h => h.some hi hlive
      clear HC HI HLV hc hi
      go_wp2_with fail
      obtain ⟨w5, hw5⟩ : ∃ x, x = wr := ⟨_, rfl⟩
      subst hw5
      go_loopw [12, 13] (fun cv kx wr2 => ∃ (k : Nat) (js : List Nat), k ≤ m ∧ kx = .int .i64 k ∧ wr2.ownsRow w5.heap.size 3 1 cv js.length (js.map natv) ∧ Below w5.heap.size w5 wr2 ∧ Can R W m k js) (fun _ kx _ => m - (intOf kx).toNat)
      case atStart => exact ⟨0, [], Nat.zero_le _, rfl, World.ownsRow_nil _ _ _ _, Below.refl _ _, ⟨fun q h => (by cases h), fun q h => (by omega), Nat.le_refl _⟩⟩
      case round =>
        obtain ⟨k, js, hk, rfl, ho, hb, hcan⟩ := hrel
        have HO := Lib.hid ho
        have HB2 := Lib.hid hb
        have HCAN := Lib.hid hcan
        have hk0 : (0 : Int) ≤ (k : Int) := Int.natCast_nonneg _
        have HC3 := Lib.hid (HC2.out.go hb)
        have hjs : js.length ≤ 8 := by have := hcan.few; omega
        have hbz := hb.size
        by_cases hlt : k < m
        · have hkm : (k : Int) < (m : Int) := by omega
          obtain ⟨q, hq⟩ : ∃ q, mayGo R W k = q := ⟨_, rfl⟩
          have HQ := Lib.hid hq
          clear ho hb hcan hq
          go_wp2_with fail
          refine (may_any k _ HC3.out.own HC3.out.team HI2.out hlt (by omega) q HQ.out).mono ?_
          rintro e w6 ⟨rfl, _, hb6⟩
          have HO6 := Lib.hid (own_same HO.out (fun g hg => hb6.block g (own_lt HO.out g hg)))
          have HB6 := Lib.hid (HB2.out.trans (hb6.mono HB2.out.size))
          have hbz6 := hb6.size
          clear hb6
          cases q with
          | false =>
            go_wp2_with fail
            go_roundw
            case rel => exact ⟨k + 1, js, by omega, by go_num, HO6.out, HB6.out, HCAN.out.no HQ.out⟩
            case measure => simp [intOf]; omega
          | true =>
            go_wp2_with (at_builtin; refine wl_append rfl _ _ 44 rfl w5.heap.size 3 8 elemI _ js.length (js.map natv) rfl (HO6.out.alloc _) (w6.heap.size + 1) (some ⟨w6.heap.size, 0, none⟩) 1 1 [.int .i64 k] rfl rfl (made_row _ _) (by simp [Value.oneCell']) (by omega) (by unfold maxLen; omega) (by simp; omega) ?_
                         intro v' w7 ho7 hg7 hat7
                         have HO7 := Lib.hid ho7
                         have HB7 := Lib.hid (below_own (HB6.out.alloc HB6.out.size _) (HO6.out.alloc _) hg7 (by simp; omega))
                         clear ho7 hg7 hat7)
            go_roundw
            case rel => exact ⟨k + 1, js ++ [k], by omega, by go_num, by rw [List.length_append, List.map_append]; exact HO7.out, HB7.out, HCAN.out.yes hlt HQ.out⟩
            case measure => simp [intOf]; omega
        · obtain rfl : k = m := by omega
          have hpos := HSM.out js hcan
          have hnz : ((js.length : Int) == 0) = false := by rw [beq_eq_false_iff_ne]; omega
          obtain ⟨A3, c3, rfl⟩ := own_form ho
          obtain ⟨g3, rfl⟩ : ∃ g3, A3 = some ⟨g3, 0, none⟩ := by
            rcases ho.2 with ⟨_, h0⟩ | ⟨g, _, _, h1, _⟩
            · omega
            · simp only [Value.slice.injEq] at h1
              exact ⟨g, h1.1⟩
          have HCELL : Hid (∀ (pk : Nat) (h : pk < js.length), wr.cell? ⟨g3, pk, none⟩ = some (.int .i64 (js[pk] : Int))) := fun pk h => by
            rw [ho.cellAt pk (by omega), List.getElem?_map, List.getElem?_eq_getElem h]
            rfl
          clear ho hb hcan
          by_cases hpk : j < picks.length
          · have hpk1 : (j : Int) < (picks.length : Int) := by omega
            obtain ⟨a2, rfl, hab2, hz2⟩ := HS.out.i64 hpk
            have z : wr.cell? (a2.add j) = some (.int .i64 picks[j]) := (HC3.out.own.below.cell (by rw [addr_add_block]; exact hab2)).trans hz2
            generalize picks[j] = raw at *
            clear hz2 hab2
            obtain ⟨pk, hpe, hq⟩ := pick_eq raw hpos hjs
            have HMAY := Lib.hid (HCAN.out.may _ (List.getElem_mem hq))
            have zq := HCELL.out pk hq
            have hpkl : (pk : Int) < (js.length : Int) := by omega
            have hpk0 : (0 : Int) ≤ (pk : Int) := Int.natCast_nonneg _
            generalize js[pk] = kk at *
            have hkk := HMAY.out.1
            have hdn : (W kk).done = false := by
              have h := HMAY.out.2
              unfold mayGo at h
              rw [Bool.and_eq_true] at h
              simpa using h.1
            obtain ⟨g1, c9, K9, d9, hv9, yy, _, yn, _, _⟩ := HC3.out.team.reads hkk
            have hkkm : (kk : Int) < (k : Int) := by omega
            have hkk0 : (0 : Int) ≤ (kk : Int) := Int.natCast_nonneg _
            have hnl := HI2.out.nle kk hkk
            have hln := HI2.out.keys.short kk hkk
            have hn8 : ((W kk).n : Int) ≤ 8 := by omega
            have hn0 : (0 : Int) ≤ ((W kk).n : Int) := Int.natCast_nonneg _
            have h63 := and63 ((kk : Int) * 8 + (W kk).n)
            have h63l := low63_lt ((kk : Int) * 8 + (W kk).n)
            generalize low63 ((kk : Int) * 8 + (W kk).n) = sh at *
            simp only [Value.slice.injEq] at hv9
            obtain ⟨rfl, -, rfl⟩ := hv9
            have HDN := Lib.hid hdn
            clear hdn
            by_cases hlen : (W kk).n < (W kk).len
            · go_wp2_with fail
              refine (goes_more kk _ _ HC3.out HI2.out hkk hlen (by omega)).mono ?_
              rintro e w8 ⟨rfl, S8, hc8⟩
              obtain ⟨g8, c8, K8, d8, hv8, y8, _, _, zd, _⟩ := hc8.team.reads hkk
              rw [upd_same] at zd
              have zd2 : w8.cell? ⟨p kk, 2, none⟩ = some (.bool false) := zd.trans (congrArg (fun x => some (Value.bool x)) HDN.out)
              simp only [Value.slice.injEq, Option.some.injEq, Addr.mk.injEq] at hv8
              obtain ⟨⟨rfl, -⟩, -, rfl⟩ := hv8
              have E8 := Lib.hid (more_turn hkk HDN.out hlen)
              have HC8 := Lib.hid hc8
              have hlv : ((live W k : Nat) : Int) ≤ 72 := by omega
              clear hc8 zd
              go_wp2_with fail
              go_roundw
              case rel => exact ⟨j + 1, S8, _, _, _, by rw [E8.out.1], by go_num, HC8.out, HI2.out.more hkk HDN.out hlen _, by have := E8.out.2; omega, by omega⟩
              case measure => simp [intOf]; omega
            · have HLEN2 : Hid ((W kk).n = (W kk).len) := by
                have : (W kk).n = (W kk).len := by omega
                exact this
              clear hlen
              go_wp2_with fail
              refine (goes_ends kk _ _ HC3.out HI2.out hkk HLEN2.out (by omega)).mono ?_
              rintro e w8 ⟨rfl, S8, hc8⟩
              obtain ⟨g8, c8, K8, d8, hv8, y8, _, _, zd, _⟩ := hc8.team.reads hkk
              rw [upd_same] at zd
              have zd2 : w8.cell? ⟨p kk, 2, none⟩ = some (.bool true) := zd.trans (congrArg (fun x => some (Value.bool x)) rfl)
              simp only [Value.slice.injEq, Option.some.injEq, Addr.mk.injEq] at hv8
              obtain ⟨⟨rfl, -⟩, -, rfl⟩ := hv8
              have E8 := Lib.hid (ends_turn hkk HDN.out HLEN2.out)
              have HC8 := Lib.hid hc8
              have hlv : ((live W k : Nat) : Int) ≤ 72 := by omega
              clear hc8 zd
              go_wp2_with fail
              go_roundw
              case rel => exact ⟨j + 1, S8, _, _, _, by have h1 := E8.out.1; have h2 : ((live W k : Nat) : Int) - 1 = ((live (upd W kk (ended (W kk))) k : Nat) : Int) := (by omega); rw [← h2], by go_num, HC8.out, HI2.out.ends HLEN2.out, by have := E8.out.2; omega, by omega⟩
              case measure => simp [intOf]; omega
          · have hpk1 : (picks.length : Int) ≤ (j : Int) := by omega
            have hq : 0 < js.length := hpos
            have HMAY := Lib.hid (HCAN.out.may _ (List.getElem_mem hq))
            have zq := HCELL.out 0 hq
            have hpkl : (0 : Int) < (js.length : Int) := by omega
            have hq0 := hq
            generalize js[0] = kk at *
            have hkk := HMAY.out.1
            have hdn : (W kk).done = false := by
              have h := HMAY.out.2
              unfold mayGo at h
              rw [Bool.and_eq_true] at h
              simpa using h.1
            obtain ⟨g1, c9, K9, d9, hv9, yy, _, yn, _, _⟩ := HC3.out.team.reads hkk
            have hkkm : (kk : Int) < (k : Int) := by omega
            have hkk0 : (0 : Int) ≤ (kk : Int) := Int.natCast_nonneg _
            have hnl := HI2.out.nle kk hkk
            have hln := HI2.out.keys.short kk hkk
            have hn8 : ((W kk).n : Int) ≤ 8 := by omega
            have hn0 : (0 : Int) ≤ ((W kk).n : Int) := Int.natCast_nonneg _
            have h63 := and63 ((kk : Int) * 8 + (W kk).n)
            have h63l := low63_lt ((kk : Int) * 8 + (W kk).n)
            generalize low63 ((kk : Int) * 8 + (W kk).n) = sh at *
            simp only [Value.slice.injEq] at hv9
            obtain ⟨rfl, -, rfl⟩ := hv9
            have HDN := Lib.hid hdn
            clear hdn
            by_cases hlen : (W kk).n < (W kk).len
            · go_wp2_with fail
              refine (goes_more kk _ _ HC3.out HI2.out hkk hlen (by omega)).mono ?_
              rintro e w8 ⟨rfl, S8, hc8⟩
              obtain ⟨g8, c8, K8, d8, hv8, y8, _, _, zd, _⟩ := hc8.team.reads hkk
              rw [upd_same] at zd
              have zd2 : w8.cell? ⟨p kk, 2, none⟩ = some (.bool false) := zd.trans (congrArg (fun x => some (Value.bool x)) HDN.out)
              simp only [Value.slice.injEq, Option.some.injEq, Addr.mk.injEq] at hv8
              obtain ⟨⟨rfl, -⟩, -, rfl⟩ := hv8
              have E8 := Lib.hid (more_turn hkk HDN.out hlen)
              have HC8 := Lib.hid hc8
              have hlv : ((live W k : Nat) : Int) ≤ 72 := by omega
              clear hc8 zd
              go_wp2_with fail
              go_roundw
              case rel => exact ⟨j + 1, S8, _, _, _, by rw [E8.out.1], by go_num, HC8.out, HI2.out.more hkk HDN.out hlen _, by have := E8.out.2; omega, by omega⟩
              case measure => simp [intOf]; omega
            · have HLEN2 : Hid ((W kk).n = (W kk).len) := by
                have : (W kk).n = (W kk).len := by omega
                exact this
              clear hlen
              go_wp2_with fail
              refine (goes_ends kk _ _ HC3.out HI2.out hkk HLEN2.out (by omega)).mono ?_
              rintro e w8 ⟨rfl, S8, hc8⟩
              obtain ⟨g8, c8, K8, d8, hv8, y8, _, _, zd, _⟩ := hc8.team.reads hkk
              rw [upd_same] at zd
              have zd2 : w8.cell? ⟨p kk, 2, none⟩ = some (.bool true) := zd.trans (congrArg (fun x => some (Value.bool x)) rfl)
              simp only [Value.slice.injEq, Option.some.injEq, Addr.mk.injEq] at hv8
              obtain ⟨⟨rfl, -⟩, -, rfl⟩ := hv8
              have E8 := Lib.hid (ends_turn hkk HDN.out HLEN2.out)
              have HC8 := Lib.hid hc8
              have hlv : ((live W k : Nat) : Int) ≤ 72 := by omega
              clear hc8 zd
              go_wp2_with fail
              go_roundw
              case rel => exact ⟨j + 1, S8, _, _, _, by have h1 := E8.out.1; have h2 : ((live W k : Nat) : Int) - 1 = ((live (upd W kk (ended (W kk))) k : Nat) : Int) := (by omega); rw [← h2], by go_num, HC8.out, HI2.out.ends HLEN2.out, by have := E8.out.2; omega, by omega⟩
              case measure => simp [intOf]; omega
    · have hl0 : live W m = 0 := by omega
      have HEMP := Lib.hid (free_end hi hl0)
      rw [hl0]
      clear HC HI HLV hc hi hlw hw
      go_wp2_with fail
      refine (HC2.out.own.free).mono ?_
      rintro e w' ⟨q, rfl, hq, rfl⟩
      obtain rfl : q = true := hq.2 HEMP.out
      clear hq
      go_wp2_with fail
      go_ret
      exact ⟨rfl, HC2.out.own.below⟩
end Go.Proofs.Ytfaahhipddlmgaa.KLRise
