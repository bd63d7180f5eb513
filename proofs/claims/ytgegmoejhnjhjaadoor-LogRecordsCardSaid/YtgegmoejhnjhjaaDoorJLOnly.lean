/- The law LogOnly. -/
import Derived.Test.YtgegmoejhnjhjaaDoorJAwake
import Derived.Test.YtgegmoejhnjhjaaDoorJFull
namespace Go.Proofs.YtgegmoejhnjhjaaDoor.JLOnly
open Go.RowKit WMem WPlain WHelp WFace2 WWide WAny WCrc WSeal SNums SEqual JPlain JMem JBody JPack JPackFace JRead JUnpack JFull JBackM JAwake

theorem unp_no {b : List UInt8} (h : isRec b = false) : unpR b = nul ∧ unpE b = 117 := by
  unfold unpR unpE
  rw [h]
  exact ⟨rfl, rfl⟩
theorem unp_yes {b : List UInt8} (h : isRec b = true) : unpR b = says b ∧ unpE b = 0 ∧ b.length = 256 ∧ recMay (says b) = true ∧ recBytes (says b) = b := by
  have h' := h
  simp only [isRec, Bool.and_eq_true, beq_iff_eq] at h'
  unfold unpR unpE
  rw [h]
  exact ⟨rfl, rfl, of_decide_eq_true h'.1.1, h'.1.2, h'.2⟩
theorem kind_in {r : Rec} (h : recMay r = true) : 1 ≤ r.kind ∧ r.kind ≤ 4 ∧ r.ents.length ≤ 60 := by
  rcases hasOk_cases (recMay_iff.1 h).2.1 with e | e | e | e <;> omega
set_option maxRecDepth 100000 in
set_option maxHeartbeats 4000000 in
theorem only (b : List UInt8) (B : Nat) (A : Option Addr) (c : Nat) (w : World) (hc : b.length ≤ c) (hB : B ≤ w.heap.size) (hA : Sl w B A (b.map u8v)) (hT : Tab w) :
    Calls Tryd.prog 8 #[.slice A b.length c] w fun e w' => e = .returned (.bool true) ∧ Below w.heap.size w w' := by
  have HA := Lib.hid hA
  have HT := Lib.hid hT
  have htl := Tab.lt hT
  have HAW := Lib.hid (awake_any w hT)
  clear hA hT
  obtain ⟨n, hn⟩ : ∃ n, b.length = n := ⟨_, rfl⟩
  rw [hn] at hc ⊢
  have HN := Lib.hid hn
  clear hn
  cases hq : isRec b with
  | false =>
    obtain ⟨e1, e2⟩ := unp_no hq
    have HE1 := Lib.hid e1
    have HE2 := Lib.hid e2
    clear hq e1 e2
    go_enter Tryd.func8, Tryd.ntmps8
    go_wp2_with fail
    refine HAW.out.mono ?_
    rintro e w1 ⟨rfl, hb1⟩
    have HB1 := Lib.hid hb1
    have hs1 := hb1.size
    clear hb1
    go_wp2_with fail
    refine (Unpack_full n b HN.out B A c hc w1 (by omega) (HA.out.below_le HB1.out hB) (Tab.below HT.out HB1.out htl)).mono ?_
    rintro e w2 ⟨A2, c2, rfl, _, _, hb2⟩
    rw [HE1.out, HE2.out]
    have HB2 := Lib.hid (below_up HB1.out hb2 hs1)
    have hs2 := HB2.out.size
    clear hb2
    unfold recV nul
    go_wp2
    go_ret
    exact ⟨rfl, HB2.out.alloc hs2 _⟩
  | true =>
    obtain ⟨e1, e2, e3, e4, e5⟩ := unp_yes hq
    obtain ⟨k1, k2, k3⟩ := kind_in e4
    obtain rfl : n = 256 := by rw [← HN.out]; exact e3
    have HSU := Lib.hid (says_sum b)
    have HE1 := Lib.hid e1
    have HE2 := Lib.hid e2
    have HE4 := Lib.hid e4
    have HE5 := Lib.hid e5
    clear hq e1 e2 e3 e4 e5
    go_enter Tryd.func8, Tryd.ntmps8
    go_wp2_with fail
    refine HAW.out.mono ?_
    rintro e w1 ⟨rfl, hb1⟩
    have HB1 := Lib.hid hb1
    have hs1 := hb1.size
    clear hb1
    go_wp2_with fail
    refine (Unpack_full 256 b HN.out B A c hc w1 (by omega) (HA.out.below_le HB1.out hB) (Tab.below HT.out HB1.out htl)).mono ?_
    rintro e w2 ⟨A2, c2, rfl, hE2, _, hb2⟩
    rw [HE1.out] at hE2
    rw [HE1.out, HE2.out]
    have HB2 := Lib.hid (below_up HB1.out hb2 hs1)
    have hs2 := HB2.out.size
    have HEN := Lib.hid hE2
    clear hb2 hE2
    generalize hr : says b = r at *
    obtain ⟨kind, seq, l, sum, start⟩ := r
    have HR := Lib.hid hr
    clear hr
    unfold recV
    simp only at k1 k2 k3 ⊢
    have HX := Lib.hid (Boxed.start w2 [.int .i64 kind, .int .i64 seq, .slice A2 l.length c2, .int .u32 (sum : Int), .int .i64 start] 33)
    have HB3 := Lib.hid (HB2.out.alloc hs2 (.cells #[.int .i64 kind, .int .i64 seq, .slice A2 l.length c2, .int .u32 (sum : Int), .int .i64 start] 33))
    have HEN3 := Lib.hid (HEN.out.alloc (Nat.le_refl _) (.cells #[.int .i64 kind, .int .i64 seq, .slice A2 l.length c2, .int .u32 (sum : Int), .int .i64 start] 33))
    go_wp2_with fail
    refine (Pack_any ⟨kind, seq, l, sum, start⟩ HSU.out w2.heap.size A2 c2 _ (by simp) HEN3.out (by simp only; omega) (Tab.below HT.out HB3.out htl)).mono ?_
    rintro e w4 ⟨hyes, _, hb4⟩
    obtain ⟨g, rfl, hg, hR4⟩ := hyes HE4.out
    rw [HE5.out] at hR4
    have HY4 := Lib.hid (HX.out.go hb4)
    have HB4 := Lib.hid (below_up HB3.out hb4 HB3.out.size)
    obtain ⟨d0, d1, d2, d3, d4⟩ := HY4.out.five
    have HR4 := Lib.hid (hR4.sl hR4.lt)
    have HA4 := Lib.hid (HA.out.below_le HB4.out hB)
    have g1 : decide ((1 : Int) ≤ kind) = true := by simpa using k1
    have g2 : decide (kind ≤ 4) = true := by simpa using k2
    clear hyes hb4 hR4 d1 d2 d3 d4
    go_wp2_with fail
    refine (Same_at 256 256 b HN.out HN.out B w4.heap.size A _ c 256 w4 HA4.out HR4.out (by decide)).mono ?_
    rintro e w' ⟨rfl, nd, rfl⟩
    obtain ⟨d0, d1, d2, d3, d4⟩ := (HY4.out.drewN nd).five
    have HBF : Hid (Below w.heap.size w (w4.drewN nd)) := Lib.hid (below_drewN HB4.out nd)
    generalize w4.drewN nd = w5 at *
    clear d1 d2 d3 d4
    go_wp2
    go_ret
    exact ⟨rfl, HBF.out⟩
end Go.Proofs.YtgegmoejhnjhjaaDoor.JLOnly
