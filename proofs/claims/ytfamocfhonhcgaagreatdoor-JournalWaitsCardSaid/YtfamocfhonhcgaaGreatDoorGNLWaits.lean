/- The law JournalWaits: handles and commits wait for one another. -/
import Derived.Test.YtfamocfhonhcgaaGreatDoorMg43
namespace Go.Proofs.YtfamocfhonhcgaaGreatDoor.NLWaits
open Go.RowKit WMem WPlain WAppend WCrc WSeal Ext Map DPlain DMem Mk DBase DRead DWrite EPlain EMem EFace EAny JPlain JMem JNeed JLayM NPlain NMem NFace NRuns NOpen NLive NFill NAwake
open NAwM hiding j0 j1 s1 s1_nums

def low63 (x : Int) : Nat := (BitVec.ofInt 64 x &&& BitVec.ofInt 64 63).toNat
theorem low63_lt (x : Int) : low63 x < 64 := by
  unfold low63
  rw [BitVec.toNat_and]
  exact Nat.lt_of_le_of_lt Nat.and_le_right (by decide)
theorem and63 (x : Int) : bits BinOp.and IntKind.i64 x 63 = (low63 x : Int) := by
  have h := low63_lt x
  show IntKind.i64.wrap ((BitVec.ofInt 64 x &&& BitVec.ofInt 64 63).toNat : Int) = _
  rw [IntKind.wrap_i64]
  unfold low63 at *
  omega
theorem end_cred (j : Jr) (s : Sto) : (endPart j s).1.cred = j.cred := by
  unfold endPart
  simp only
  split <;> rfl
theorem come_cred (j : Jr) (s : Sto) (c : Come) : (come j s c).1.cred = j.cred := by
  cases c with
  | empty => rfl
  | fin => rfl
  | part => exact end_cred j s
  | laid k bs => rfl
theorem comes_cred : ∀ (l : List Come) (j : Jr) (s : Sto), (comes j s l).1.cred = j.cred
  | [], _, _ => rfl
  | x :: l, j, s => (comes_cred l _ _).trans (come_cred j s x)
theorem next_cred (j : Jr) (s : Sto) : (next j s).1.cred = j.cred := by
  unfold next
  cases j.left with
  | nil => rfl
  | cons t r =>
    cases t with
    | home n => rfl
    | put p l => rfl
    | flush cs => exact comes_cred cs _ _
    | head => rfl
theorem begin_cred (j : Jr) (s : Sto) : (begin_ j s).2.1.cred = j.cred := by
  unfold begin_
  simp only
  repeat' split
  · exact end_cred j s
  all_goals rfl
theorem step_cred (j : Jr) (s : Sto) : (NPlain.step j s).2.1.cred = j.cred := by
  unfold NPlain.step
  split
  · cases j.left with
    | nil =>
      simp only
      split
      · exact (next_cred _ _).trans (begin_cred j s)
      · exact begin_cred j s
    | cons t r => exact next_cred j s
  · rfl
def j0 : Jr := Jr.new 95 1 0
def s1 : Sto := s0.write 150 (full 7)
def j1 (c : Nat) : Jr := (j0.start c).stop 1
theorem s1_nums : numsOf s1.now.chg s1.N = [150] := by
  rw [show s1.N = 300 from s0_N]
  unfold numsOf
  have : (fun n => (s1.now.chg n).isSome) = fun n => decide (n = 150) := by
    funext n
    show (if n = 150 then some (full 7) else none : Option Bk).isSome = _
    by_cases h : n = 150 <;> simp [h]
  rw [this]
  decide +kernel
set_option maxRecDepth 100000 in
theorem opn (c : Nat) : NOpen.Open 10 (j1 c) s1 := by
  refine ⟨rfl, rfl, rfl, by show 12 ≤ 95; omega, by show 95 ≤ 511; omega, by show 0 < 95; omega, by show 0 ≤ 95; omega, by show 1 ≤ 1; omega, by show 1 + 10 ≤ 2147483646; omega, by rw [show s1.N = 300 from s0_N]; show 95 + 3 ≤ 300; omega, by show 0 + 10 ≤ 1073741823; omega, s0_wf.write (by rw [s0_N]; omega) (full_len _), ?_, fun n hn => (by cases hn), fun h => ?_⟩
  · show (numsOf (fun _ => none) _).length ≤ 0
    rw [none_nums]
    exact Nat.le_refl _
  · show (if h = 1 then none else if h = 1 then some c else none) = none
    split
    · rfl
    · rfl
set_option maxRecDepth 100000 in
theorem run (c : Nat) (q : Bool) : ∃ o r jz sz, Runs ((j1 c).ask q) s1 (o :: r) jz sz ∧ r ≠ [] ∧ o.1 ≠ .nop := by
  have hl : s1.load + 30000 ≤ 1073741824 := by show 1 + 30000 ≤ 1073741824; omega
  have hh : (j1 c).handles ≤ 1073741824 := by show 1 ≤ 1073741824; omega
  have hc1 : (numsOf s1.now.chg s1.N).length = 1 := by rw [s1_nums]; rfl
  have hr := (commit_open (opn c) q hh hl (by rw [hc1]; show 1 ≤ 95 * 3 / 4 - 4; decide)).1
  have hf := com_fine (open_rest (opn c) q hh hl) hl (by rw [hc1]; show needN 1 0 ≤ 95; decide)
  have hlen : 2 ≤ (comOps ((j1 c).ask q) s1).length := by
    have h0 : ¬ (numsOf s1.now.chg s1.N).length = 0 := by omega
    unfold comOps
    rw [if_neg h0, List.length_append, List.length_append, layOps_len]
    omega
  obtain ⟨o, r, ho⟩ := List.exists_cons_of_ne_nil (show comOps ((j1 c).ask q) s1 ≠ [] from fun e => by rw [e] at hlen; simp at hlen)
  rw [ho] at hr hlen hf
  refine ⟨o, r, _, _, hr, fun e => by rw [e] at hlen; simp at hlen, fun e => ?_⟩
  rcases hf with hf | hf
  · injection hf with _ hf
    rw [hf] at hlen
    simp at hlen
  · have := hf o (by simp)
    rw [e] at this
    exact this
set_option maxHeartbeats 1000000 in
set_option maxRecDepth 100000 in
theorem waits_true (x : Int) (q : Bool) (w : World) (hT : Tab w) : Calls Tryz.prog 7 #[.int .i64 x, .bool q] w fun e w' => e = .returned (.bool true) ∧ Below w.heap.size w w' := by
  have HA := Lib.hid (awake_any w hT)
  have HT := Lib.hid hT
  clear hT
  go_enter Tryz.func7, Tryz.ntmps7
  go_wp2_with fail
  refine HA.out.mono ?_
  rintro e w1 ⟨rfl, hb1⟩
  have HB1 := Lib.hid hb1
  clear hb1
  go_wp2_with fail
  refine (mk_disk w1).mono ?_
  rintro e w2 ⟨db, rfl, hd, hb⟩
  have HD1 := Lib.hid hd
  have HB2 := Lib.hid hb
  clear hd hb
  go_wp2_with fail
  refine (mk_store HD1.out (NAwM.new_len 300)).mono ?_
  rintro e w3 ⟨b, ρ0, rfl, hs, hm, hb2⟩
  have H0 : Hid (Live w1 w3 ρ0 (Made w1 w2) b db s0) := live_new HD1.out (fun q hq => hq.1) HB2.out hs hm hb2
  clear hs hm hb2
  go_wp2_with fail
  refine (small_any w3).mono ?_
  rintro e w4 ⟨rfl, hb3⟩
  have H1 := Lib.hid (H0.out.go hb3)
  clear hb3
  go_wp2_with fail
  refine (mk_journal H1.out s0_N 1 0 1 0 rfl rfl (by decide) (by decide) (by decide)).mono ?_
  rintro e w5 ⟨jb, rfl, hj⟩
  have J0 : Hid (JL w1 (fun _ => False) w5 w5 jb b db j0 s0) := Lib.hid hj
  clear hj H0 H1 HD1 HB2
  go_wp2_with fail
  have hlo := low63_lt x
  have hand := and63 x
  obtain ⟨c, hcd⟩ : ∃ c, low63 x = c := ⟨_, rfl⟩
  rw [hcd] at hlo hand
  have h1c : ((1 + c : Nat) : Int) = 1 + (c : Int) := by omega
  have HST : Hid (Calls Tryz.prog 30 #[.pointer (some ⟨jb, 0, none⟩), .int .i64 (1 + (c : Int))] w5 fun e w' => e = .returned (.tuple #[.int .i64 1, .int .i64 0]) ∧ JL w1 (fun _ => False) w5 w' jb b db (j0.start (1 + c)) s0) := Lib.hid (by
    rw [← h1c]
    exact l_start J0.out (1 + c) (by omega) (by omega) rfl (by decide) (by decide) (by decide) (fun n c h => (by cases h)) (by show (numsOf (fun _ => none) _).length + 0 + (1 + c) ≤ 67; rw [none_nums]; simp; omega))
  obtain ⟨o, r, jz, sz, hr, hrn, hon⟩ := run (1 + c) q
  obtain ⟨j', s', g1, g2, g3, g4, g5⟩ := runs_step hr
  obtain ⟨o2, r2, rfl⟩ := List.exists_cons_of_ne_nil hrn
  obtain ⟨j2, s2, k1, _⟩ := runs_step g5
  have G1 := Lib.hid g1
  have G2 := Lib.hid g2
  have G3 : Hid (s'.d.N = 1) := Lib.hid (by
    rw [g3]
    cases ho : o.1 with
    | put k l => rfl
    | sync => rfl
    | nop => exact absurd ho hon)
  have GW : Hid (j'.wanted = true) := Lib.hid (by
    have := k1.may
    unfold NPlain.may at this
    rw [Bool.and_eq_true] at this
    exact this.1)
  have GC : Hid (j'.cred 1 = none) := Lib.hid (by
    have h := step_cred ((j1 (1 + c)).ask q) s1
    rw [g2] at h
    have h2 : j'.cred = ((j1 (1 + c)).ask q).cred := h
    rw [h2]
    rfl)
  clear hr hrn hon g1 g2 g3 g4 g5 k1 hcd
  have HAND := Lib.hid hand
  have HWR := Lib.hid (show wrap64 (1 + (c : Int)) = 1 + (c : Int) from IntWalk.wrap64_in _ ⟨by omega, by omega⟩)
  clear hand h1c hlo
  go_wp2_with fail
  rw [HAND.out, HWR.out]
  refine HST.out.mono ?_
  rintro e w6 ⟨rfl, hj⟩
  have J1 : Hid (JL w1 (fun _ => False) w5 w6 jb b db (j0.start (1 + c)) s0) := Lib.hid hj
  clear hj J0 HST
  go_wp2_with fail
  refine (mk_filled J1.out 7 7 rfl).mono ?_
  rintro e w7 ⟨rfl, hj, hv, hb⟩
  have J2 := Lib.hid hj
  have HV := Lib.hid hv
  clear hj hv hb J1
  go_wp2_with fail
  refine (l_write J2.out 150 150 rfl (by rw [s0_N]; decide) HV.out (by decide)).mono ?_
  rintro e w8 ⟨rfl, hj⟩
  have J3 : Hid (JL w1 (fun _ => False) w8 w8 jb b db (j0.start (1 + c)) s1) := Lib.hid ((hj.less (fun q hq => hq.elim)).rebase)
  clear hj HV J2
  go_wp2_with fail
  refine (l_ask J3.out q).mono ?_
  rintro e w9 ⟨rfl, hj⟩
  have J4 := Lib.hid hj.rebase
  clear hj J3
  have hmay : NPlain.may ((j0.start (1 + c)).ask q) = false := by
    unfold NPlain.may
    rw [Bool.and_eq_false_iff]
    refine .inr (decide_eq_false fun h => ?_)
    have := h 1 (by show 1 ≤ 1; omega)
    cases this
  have HMAY := Lib.hid hmay
  clear hmay
  go_wp2_with fail
  refine (l_start_busy J4.out 1 (by decide) (by decide) rfl).mono ?_
  rintro e w' ⟨rfl, rfl⟩
  go_wp2_with fail
  refine (l_busy J4.out true rfl).mono ?_
  rintro e w' ⟨rfl, rfl⟩
  go_wp2_with fail
  refine (l_may J4.out (by show 1 ≤ 1073741824; omega) false HMAY.out).mono ?_
  rintro e w' ⟨rfl, rfl⟩
  go_wp2_with fail
  refine (l_step_no J4.out (by show 1 ≤ 1073741824; omega) HMAY.out).mono ?_
  rintro e w' ⟨rfl, rfl⟩
  go_wp2_with fail
  refine (l_ops J4.out 0 rfl).mono ?_
  rintro e w' ⟨rfl, rfl⟩
  go_wp2_with fail
  refine (l_stop J4.out 1 (1 + c) rfl (by show 1 ≤ 1073741824; omega)).mono ?_
  rintro e w10 ⟨rfl, hj⟩
  have J5 : Hid (JL w1 (fun _ => False) w9 w10 jb b db ((j1 (1 + c)).ask q) s1) := Lib.hid hj
  clear hj J4
  go_wp2_with fail
  refine (l_start_busy J5.out 1 (by decide) (by decide) rfl).mono ?_
  rintro e w' ⟨rfl, rfl⟩
  go_wp2_with fail
  refine (l_may J5.out (by show 1 ≤ 1073741824; omega) true G1.out.may).mono ?_
  rintro e w' ⟨rfl, rfl⟩
  have HS := Lib.hid (l_step J5.out (Tab.below HT.out HB1.out (Tab.lt HT.out)) G1.out G2.out)
  go_wp2_with fail
  refine HS.out.mono ?_
  rintro e w11 ⟨rfl, hj⟩
  have J6 := Lib.hid hj
  clear hj J5 HS
  go_wp2_with fail
  refine (l_ops J6.out 1 (by rw [G3.out]; rfl)).mono ?_
  rintro e w' ⟨rfl, rfl⟩
  go_wp2_with fail
  refine (l_start_busy J6.out 1 (by decide) (by decide) GW.out).mono ?_
  rintro e w' ⟨rfl, rfl⟩
  go_wp2_with fail
  refine (l_stop_bad J6.out 1 (by constructor <;> decide) (fun m hm => by
    have e : m = 1 := by omega
    rw [e]
    exact GC.out)).mono ?_
  rintro e w' ⟨rfl, rfl⟩
  go_wp2_with fail
  go_ret
  exact ⟨rfl, HB1.out.trans (J6.out.below.mono HB1.out.size)⟩
end Go.Proofs.YtfamocfhonhcgaaGreatDoor.NLWaits
