/- The document's right and Escape: which transactions may be, and copies of blocks. -/
import Derived.Test.YtkkcipjlinfieaaDoorJRPack
import Derived.Test.YtkkcipjlinfieaaDoorJLayF
import Derived.Test.YtkkcipjlinfieaaDoorSEqual
import Derived.BigQuiet
import Derived.Deep.QuietTactic
import Derived.Deep.RegionHeld3
namespace Go.Proofs.YtkkcipjlinfieaaDoor.JRLayF
open Go.RowKit SEqual WMem WPlain WHelp WAppend WFace2 WWide WAny WSeal SNums JPlain JMem JMay JBody JPack JEscape JNeed JLayM JLayF

def okB (x : Wr) : Bool := decide (0 ≤ x.blk) && decide (x.blk < 4096) && (x.data.length == 256)
def okN (n : Int) : Bool := decide (0 ≤ n) && decide (n < 4096)
def rightB (seq : Int) (ws : List Wr) (rs : List Int) : Bool := seqOk seq && decide (ws.length ≤ 4096) && decide (rs.length ≤ 4096) && ws.all okB && rs.all okN
theorem rightB_noW {seq : Int} {ws : List Wr} {rs : List Int} {k : Nat} (hk : k < ws.length) (h : okB ws[k] = false) : rightB seq ws rs = false := by
  have : ws.all okB = false := by
    rw [Bool.eq_false_iff]
    intro ha
    have := List.all_eq_true.1 ha _ (List.getElem_mem hk)
    rw [h] at this
    cases this
  simp [rightB, this]
theorem rightB_noR {seq : Int} {ws : List Wr} {rs : List Int} {k : Nat} (hk : k < rs.length) (h : okN rs[k] = false) : rightB seq ws rs = false := by
  have : rs.all okN = false := by
    rw [Bool.eq_false_iff]
    intro ha
    have := List.all_eq_true.1 ha _ (List.getElem_mem hk)
    rw [h] at this
    cases this
  simp [rightB, this]
theorem all_take {α : Type} (f : α → Bool) (l : List α) (h : ∀ k (hk : k < l.length), f l[k] = true) : l.all f = true := by
  rw [List.all_eq_true]
  intro x hx
  obtain ⟨k, hk, rfl⟩ := List.getElem_of_mem hx
  exact h k hk
theorem seq_iff {q : Int} : seqOk q = true ↔ 1 ≤ q ∧ q ≤ 2147483647 := by simp [seqOk]
set_option maxRecDepth 100000 in
set_option maxHeartbeats 4000000 in
theorem right_any (seq : Int) (ws : List Wr) (rs : List Int) (q : Bool) (hq : rightB seq ws rs = q) (nw nr : Nat) (hnw : ws.length = nw) (hnr : rs.length = nr) (B : Nat) (A A' : Option Addr) (c c' : Nat) (w : World)
    (hA : Wrs w B A ws) (hA' : Sl w B A' (rs.map i64v)) (hlw : nw ≤ 140737488355328) (hlr : nr ≤ 140737488355328) :
    Calls Tryd.prog 20 #[.int .i64 seq, .slice A nw c, .slice A' nr c'] w fun e w' => e = .returned (.bool q) ∧ w = w' := by
  have HQ := Lib.hid hq
  have HA := Lib.hid hA
  have HA' := Lib.hid hA'
  have HNW := Lib.hid hnw
  have HNR := Lib.hid hnr
  clear hA hA' hq hnw hnr
  by_cases hs1 : seq < 1
  · obtain rfl : q = false := by rw [← HQ.out]; simp [rightB, seqOk]; omega
    go_enter Tryd.func20, Tryd.ntmps20
    go_wp2
    go_ret
    exact ⟨rfl, rfl⟩
  by_cases hs2 : 2147483647 < seq
  · obtain rfl : q = false := by rw [← HQ.out]; simp [rightB, seqOk]; omega
    go_enter Tryd.func20, Tryd.ntmps20
    go_wp2
    go_ret
    exact ⟨rfl, rfl⟩
  by_cases hs3 : 4096 < nw
  · obtain rfl : q = false := by rw [← HQ.out]; simp [rightB, HNW.out]; omega
    have d1 : decide ((4096 : Int) < (nw : Int)) = true := by simp; omega
    go_enter Tryd.func20, Tryd.ntmps20
    go_wp2
    go_ret
    exact ⟨rfl, rfl⟩
  by_cases hs4 : 4096 < nr
  · obtain rfl : q = false := by rw [← HQ.out]; simp [rightB, HNR.out]; omega
    have d1 : decide ((4096 : Int) < (nw : Int)) = false := by simp; omega
    have d2 : decide ((4096 : Int) < (nr : Int)) = true := by simp; omega
    go_enter Tryd.func20, Tryd.ntmps20
    go_wp2
    go_ret
    exact ⟨rfl, rfl⟩
  have d1 : decide ((4096 : Int) < (nw : Int)) = false := by simp; omega
  have d2 : decide ((4096 : Int) < (nr : Int)) = false := by simp; omega
  go_enter Tryd.func20, Tryd.ntmps20
  go_wp2
  go_loop [7] (fun i => ∃ k : Nat, k ≤ nw ∧ i = .int .i64 k ∧ Hid (∀ j (h : j < ws.length), j < k → okB ws[j] = true)) (fun i => nw - (intOf i).toNat)
  case atStart => exact ⟨0, Nat.zero_le _, rfl, Lib.hid (fun j _ h => absurd h (by omega))⟩
  case round =>
    obtain ⟨k, hk, rfl, HOKS⟩ := hrel
    by_cases hlt : k < nw
    · have d3 : decide ((k : Int) < (nw : Int)) = true := by simp; omega
      have hkI : (k : Int) < (nw : Int) := by omega
      have hk0 : (0 : Int) ≤ (k : Int) := by omega
      have hlt' : k < ws.length := by rw [HNW.out]; exact hlt
      obtain ⟨a, K, cc, rfl, hab, c0, c1, _⟩ := HA.out.at_ hlt'
      have HSO : Hid (∀ (h : okB ws[k] = true) j (h : j < ws.length), j < k + 1 → okB ws[j] = true) := Lib.hid (fun h j hj hlt2 => by
        by_cases e : j = k
        · subst e; exact h
        · exact HOKS.out j hj (by omega))
      have HNO : Hid (okB ws[k] = false → q = false) := Lib.hid (fun h => by rw [← HQ.out]; exact rightB_noW hlt' h)
      have HOB : Hid (okB ws[k] = (decide (0 ≤ ws[k].blk) && decide (ws[k].blk < 4096) && (ws[k].data.length == 256))) := Lib.hid rfl
      generalize hx : ws[k].blk = bk at *
      generalize hy : ws[k].data.length = ln at *
      generalize okB ws[k] = ob at *
      clear hx hy
      by_cases t1 : bk < 0
      · obtain rfl : ob = false := by rw [HOB.out]; simp; omega
        obtain rfl := HNO.out rfl
        go_wp2
        go_ret
        exact ⟨rfl, rfl⟩
      by_cases t2 : bk < 4096
      · have t2' : ¬ (4096 ≤ bk) := by omega
        by_cases t3 : ln = 256
        · obtain rfl : ob = true := by rw [HOB.out]; simp; omega
          have d4 : ((ln : Int) != 256) = false := by simp; omega
          go_wp2
          go_round
          case rel => exact ⟨k + 1, by omega, by go_num, Lib.hid (HSO.out rfl)⟩
          case measure => simp [intOf]; omega
        · obtain rfl : ob = false := by rw [HOB.out]; simp; omega
          obtain rfl := HNO.out rfl
          have d4 : ((ln : Int) != 256) = true := by simp; omega
          go_wp2
          go_ret
          exact ⟨rfl, rfl⟩
      · obtain rfl : ob = false := by rw [HOB.out]; simp; omega
        obtain rfl := HNO.out rfl
        have t2' : 4096 ≤ bk := by omega
        go_wp2
        go_ret
        exact ⟨rfl, rfl⟩
    · obtain rfl : k = nw := by omega
      have d3 : decide ((k : Int) < (k : Int)) = false := by simp
      have HALL : Hid (ws.all okB = true) := Lib.hid (all_take okB ws (fun j hj => HOKS.out j hj (by have := HNW.out; omega)))
      go_wp2
      go_loop [8] (fun i => ∃ k : Nat, k ≤ nr ∧ i = .int .i64 k ∧ Hid (∀ j (h : j < rs.length), j < k → okN rs[j] = true)) (fun i => nr - (intOf i).toNat)
      case atStart => exact ⟨0, Nat.zero_le _, rfl, Lib.hid (fun j _ h => absurd h (by omega))⟩
      case round =>
        obtain ⟨m, hm, rfl, HOKN⟩ := hrel
        by_cases hlt : m < nr
        · have d3 : decide ((m : Int) < (nr : Int)) = true := by simp; omega
          have hkI : (m : Int) < (nr : Int) := by omega
          have hk0 : (0 : Int) ≤ (m : Int) := by omega
          have hlt' : m < rs.length := by rw [HNR.out]; exact hlt
          obtain ⟨a, rfl, hab, c0⟩ := Sl.i64 HA'.out hlt'
          have HSO : Hid (∀ (h : okN rs[m] = true) j (h : j < rs.length), j < m + 1 → okN rs[j] = true) := Lib.hid (fun h j hj hlt2 => by
            by_cases e : j = m
            · subst e; exact h
            · exact HOKN.out j hj (by omega))
          have HNO : Hid (okN rs[m] = false → q = false) := Lib.hid (fun h => by rw [← HQ.out]; exact rightB_noR hlt' h)
          have HOB : Hid (okN rs[m] = (decide (0 ≤ rs[m]) && decide (rs[m] < 4096))) := Lib.hid rfl
          generalize okN rs[m] = ob at *
          generalize hx : rs[m] = bk at *
          clear hx
          by_cases t1 : bk < 0
          · obtain rfl : ob = false := by rw [HOB.out]; simp; omega
            obtain rfl := HNO.out rfl
            go_wp2
            go_ret
            exact ⟨rfl, rfl⟩
          by_cases t2 : bk < 4096
          · have t2' : ¬ (4096 ≤ bk) := by omega
            obtain rfl : ob = true := by rw [HOB.out]; simp; omega
            go_wp2
            go_round
            case rel => exact ⟨m + 1, by omega, by go_num, Lib.hid (HSO.out rfl)⟩
            case measure => simp [intOf]; omega
          · obtain rfl : ob = false := by rw [HOB.out]; simp; omega
            obtain rfl := HNO.out rfl
            have t2' : 4096 ≤ bk := by omega
            go_wp2
            go_ret
            exact ⟨rfl, rfl⟩
        · obtain rfl : m = nr := by omega
          have d3 : decide ((m : Int) < (m : Int)) = false := by simp
          obtain rfl : q = true := by
            rw [← HQ.out]
            have h1 := all_take okN rs (fun j hj => HOKN.out j hj (by have := HNR.out; omega))
            simp [rightB, h1, HALL.out, HNW.out, HNR.out, seqOk]
            omega
          go_wp2
          go_ret
          exact ⟨rfl, rfl⟩
def mag : List UInt8 := [73, 82, 89, 72]
theorem marked_mag (l : List UInt8) (h : 4 ≤ l.length) : marked l = (l.take 4 == mag) := by
  have e1 : getX l 0 4 = num (l.take 4) := by
    unfold getX
    rw [if_pos (⟨by omega, by omega, by omega, by omega⟩ : okPlace l.length 0 4)]
    rfl
  unfold marked
  rw [e1, Bool.eq_iff_iff]
  simp only [h, decide_true, Bool.true_and, beq_iff_eq]
  have hl : (l.take 4).length = 4 := by simp; omega
  constructor
  · intro hn
    have := dig_num (l.take 4)
    rw [hl, hn] at this
    rw [← this]
    decide
  · intro hn
    rw [hn]
    decide
/-- the rows of writes have room for what they hold -/
def Caps (w : World) (A : Option Addr) (n : Nat) : Prop := ∀ i, i < n → ∀ a K m c, A = some a → w.cell? (a.add (i * 2 + 1)) = some (.slice K m c) → m ≤ c
theorem magic_any (w : World) : Calls Tryd.prog 40 #[] w fun e w' => e = .returned (.slice (some ⟨w.heap.size, 0, none⟩) 4 4) ∧ Row w' w.heap.size mag [] ∧ Below w.heap.size w w' := by
  go_enter Tryd.func40, Tryd.ntmps40
  go_wp2
  go_ret
  exact ⟨rfl, row_new w _, below_box _⟩
theorem take_sl {w : World} {B : Nat} {A : Option Addr} {l : List UInt8} (h : Sl w B A (l.map u8v)) (n : Nat) : Sl w B A ((l.take n).map u8v) := by rw [List.map_take]; exact h.take n
set_option maxRecDepth 100000 in
set_option maxHeartbeats 4000000 in
theorem refEscape_any (n : Nat) (l : List UInt8) (hn : l.length = n) (B : Nat) (A : Option Addr) (c : Nat) (hc : n ≤ c) (w : World) (hB : B ≤ w.heap.size) (hl : n ≤ 140737488351232) (hA : Sl w B A (l.map u8v)) :
    Calls Tryd.prog 21 #[.slice A n c] w fun e w' => ∃ v, e = .returned (.tuple #[v, .bool (marked l)]) ∧ WAny.Own w' w.heap.size v (escL l) ∧ Below w.heap.size w w' := by
  have HA := Lib.hid hA
  have HN := Lib.hid hn
  have HCP : Hid (Calls Tryd.prog 39 #[.slice A n c] w fun e w' => ∃ v, e = .returned v ∧ WAny.Own w' w.heap.size v l ∧ Below w.heap.size w w') := Lib.hid (by
    have := Copied_any l B A c w hA (by omega)
    rw [hn] at this
    exact this.mono fun e w' ⟨v, h1, h2, h3⟩ => ⟨v, h1, Own.of_row (by rw [hn]; exact h2), h3⟩)
  clear hA
  by_cases h4 : 4 ≤ n
  · have HMM := Lib.hid (marked_mag l (by omega))
    have hl4 : 4 ≤ l.length := by omega
    have d1 : decide ((n : Int) < 4) = false := by simp; omega
    have hc4 : (4 : Int) ≤ (c : Int) := by omega
    clear hn
    go_enter Tryd.func21, Tryd.ntmps21
    go_wp2_with fail
    refine HCP.out.mono ?_
    rintro e w1 ⟨v, rfl, hO, hb1⟩
    have HB1 := Lib.hid hb1
    have HO := Lib.hid hO
    have HA1 := Lib.hid (HA.out.below_le hb1 hB)
    clear hO hb1
    go_wp2_with fail
    have HSM : Hid (∀ q, (l.take 4 == mag) = q → ∀ w2, Row w2 w1.heap.size mag [] → Below w1.heap.size w1.drew w2 → Calls Tryd.prog 9 #[.slice A 4 c, .slice (some ⟨w1.heap.size, 0, none⟩) 4 4] w2 fun e w' => e = .returned (.bool q) ∧ ∃ n, w' = w2.drewN n) := Lib.hid (fun q hq w2 hR2 hb2 =>
      SEqual.Same_any 4 4 (l.take 4) mag (by simp; omega) rfl B w2.heap.size A _ c 4 w2 (take_sl ((show Sl w1.drew B A _ from HA1.out).below_le hb2 (by have := HB1.out.size; omega)) 4) (hR2.sl hR2.lt) (by omega) q hq)
    clear HA1
    cases hm : marked l with
    | false =>
      have HM0 := Lib.hid hm
      have HE : Hid (escL l = l) := Lib.hid (by simp [escL, hm])
      have HMF : Hid ((l.take 4 == mag) = false) := Lib.hid (by rw [← HMM.out, hm])
      clear hm HMM
      go_region_held3 (fun _ => True) (trivial)
        ((first
          | (go_at_call 40; refine (magic_any _).mono ?_; rintro e w2 ⟨rfl, hR2, hb2⟩)
          | (go_at_call 9; refine (HSM.out _ HMF.out w2 hR2 hb2).mono ?_; rintro e w3 ⟨rfl, nd, rfl⟩)))
      have HB0 := Lib.hid (show Below w1.heap.size w1 _ from below_drewN (below_up (Below.refl _ _).drew hb2 (Nat.le_refl _)) nd)
      have HO3 := Lib.hid (HO.out.keep HB0.out)
      have HB3 := Lib.hid (below_up HB1.out HB0.out HB1.out.size)
      clear hR2 hb2 HB0
      go_wp2
      go_ret2
      exact ⟨v, by rw [HM0.out]; rfl, by rw [HE.out]; exact HO3.out, HB3.out⟩
    | true =>
      have HM0 := Lib.hid hm
      have HE : Hid (escL l = [0, 0, 0, 0] ++ l.drop 4) := Lib.hid (by simp [escL, hm])
      have HMF : Hid ((l.take 4 == mag) = true) := Lib.hid (by rw [← HMM.out, hm])
      clear hm HMM
      rcases HO.out with ⟨rfl, rfl⟩ | ⟨g, cg, rest, rfl, hbg, hcg, hRg⟩
      · simp at hl4
      have HR1 := Lib.hid hRg
      have hg1 := hRg.lt
      rw [HN.out] at hcg ⊢
      clear hRg
      go_region_held3 (fun _ => True) (trivial)
        ((first
          | (go_at_call 40; refine (magic_any _).mono ?_; rintro e w2 ⟨rfl, hR2, hb2⟩)
          | (go_at_call 9; refine (HSM.out _ HMF.out w2 hR2 hb2).mono ?_; rintro e w3 ⟨rfl, nd, rfl⟩)))
      have HB0 := Lib.hid (show Below w1.heap.size w1 _ from below_drewN (below_up (Below.refl _ _).drew hb2 (Nat.le_refl _)) nd)
      have HR3 := Lib.hid (HR1.out.keep HB0.out hg1)
      have HB3 := Lib.hid (below_up HB1.out HB0.out HB1.out.size)
      clear hR2 hb2 HB0 HSM HR1 HO
      go_wp2
      go_loopw [5] (fun i wr => ∃ k : Nat, k ≤ 4 ∧ i = .int .i64 k ∧ Row wr g (List.replicate k 0 ++ l.drop k) rest ∧ Below w.heap.size w wr) (fun i _ => 4 - (intOf i).toNat)
      case atStart => exact ⟨0, by omega, rfl, by simpa using HR3.out, HB3.out⟩
      case round =>
        obtain ⟨k, hk, rfl, hR, hb⟩ := hrel
        have HB := Lib.hid hb
        have HR := Lib.hid hR
        by_cases hlt : k < 4
        · have hkl : k < (List.replicate k (0 : UInt8) ++ l.drop k).length := by simp; omega
          have hcl := hR.cell hkl
          have hfr := hR.free k
          have hk0 : (0 : Int) ≤ (k : Int) := by omega
          have hk1 : (k : Int) < (n : Int) := by omega
          have HR' := Lib.hid (Row.zero hR hkl)
          have HX : Hid ((List.replicate k (0 : UInt8) ++ l.drop k).set k 0 = List.replicate (k + 1) 0 ++ l.drop (k + 1)) := Lib.hid (by
            rw [List.set_append_right _ _ (by simp)]
            rw [List.length_replicate, Nat.sub_self, List.drop_eq_getElem_cons (show k < l.length by omega), List.set_cons_zero, List.replicate_succ', List.append_assoc]
            rfl)
          clear hR hb
          go_wp2
          go_roundw
          case rel => exact ⟨k + 1, by omega, by go_num, by rw [← HX.out]; exact HR'.out, HB.out.setCell (by simp only; omega) _⟩
          case measure => simp [intOf]; omega
        · obtain rfl : k = 4 := by omega
          clear hR hb
          go_wp2
          go_ret2
          refine ⟨.slice (some ⟨g, 0, none⟩) n cg, by rw [HM0.out]; rfl, ?_, HB.out⟩
          rw [HE.out]
          have hlen : ([0, 0, 0, 0] ++ l.drop 4 : List UInt8).length = n := by simp [HN.out]; omega
          exact .inr ⟨g, cg, rest, by rw [hlen], by have := HB1.out.size; omega, by rw [hlen]; exact hcg, HR.out⟩
  · have HE : Hid (escL l = l ∧ marked l = false) := Lib.hid (by
      have : marked l = false := by unfold marked; simp [show ¬ 4 ≤ l.length by omega]
      exact ⟨by simp [escL, this], this⟩)
    have d1 : decide ((n : Int) < 4) = true := by simp; omega
    go_enter Tryd.func21, Tryd.ntmps21
    go_wp2_with fail
    refine HCP.out.mono ?_
    rintro e w1 ⟨v, rfl, hO, hb1⟩
    have HB1 := Lib.hid hb1
    have HO := Lib.hid hO
    clear hO hb1
    go_wp2_with fail
    go_quiet (fail)
    go_wp2
    go_ret2
    exact ⟨v, by rw [HE.out.2]; rfl, by rw [HE.out.1]; exact HO.out.drewN _, below_drewN HB1.out _⟩
end Go.Proofs.YtkkcipjlinfieaaDoor.JRLayF
