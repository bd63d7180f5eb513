/- The law BitsBack. -/
import Derived.Test.YtlpipnpcgancmaaDoorTTurned
namespace Go.Proofs.YtlpipnpcgancmaaDoor.TBack
open Go.RowKit WMem WPlain WAppend WHelp WCrc WSeal WAny TPlain TBits TSet TWalk TOrd TCut TBud TTurn TFace TTurnF TSame TTop TFind TAwM TAwake TFacts TGoal TTurned

def low16 (x : Int) : Nat := (BitVec.ofInt 64 x &&& BitVec.ofInt 64 65535).toNat
theorem low16_lt (x : Int) : low16 x < 65536 := by
  unfold low16
  rw [BitVec.toNat_and]
  exact Nat.lt_of_le_of_lt Nat.and_le_right (by decide)
theorem and16 (x : Int) : bits BinOp.and IntKind.i64 x 65535 = (low16 x : Int) := by
  have h := low16_lt x
  show IntKind.i64.wrap ((BitVec.ofInt 64 x &&& BitVec.ofInt 64 65535).toNat : Int) = _
  rw [IntKind.wrap_i64]
  unfold low16 at *
  omega
/-- a bitmap of so many bits -/
structure Good (l : List UInt8) (size seed : Nat) : Prop where
  len : l.length = 256
  seal_ : sealB l seed = true
  rest : allB l size (2016 - size) true = true
theorem Good.chk {l : List UInt8} {size seed : Nat} (h : Good l size seed) (hs : size ≤ 2016) : chkE l (size : Int) seed = 0 := by
  refine chkE_ok (by simp [sizeB]; omega) ?_
  rw [Int.toNat_natCast]
  simp only [isMap, h.len, h.seal_, h.rest]
  rfl
theorem Good.new {size seed : Nat} (hs : size ≤ 2016) : Good (newB size seed) size seed where
  len := newB_len size seed
  seal_ := by
    unfold newB
    exact WTurn.sealed_sealL _ _ (by rw [flips_len, List.length_replicate]; omega)
  rest := allB_iff.2 fun j _ => by rw [fr_newB hs, decide_eq_false (by omega)]; rfl
theorem range_yes {m x y : Nat} (h1 : 1 ≤ y) (h2 : x + y ≤ m) : rangeB (m : Int) (x : Int) (y : Int) = true := by
  unfold rangeB
  exact decide_eq_true ⟨by omega, by omega, by omega⟩
theorem Good.turn {l : List UInt8} {size seed x y : Nat} (h : Good l size seed) (hs : size ≤ 2016) (hxy : x + y ≤ size) (hb : allB l x y false = true) : Good (turnL l (x : Int) (y : Int) seed) size seed :=
  ⟨turned_len h.len _ _ _, turned_seal h.len _ _ _, (turned_bits h.len hs hxy hb h.rest).2.1⟩
theorem Good.turned {l : List UInt8} {size seed x : Nat} (h : Good l size seed) (hs : size ≤ 2016) (hx : x < size) (he : turnE l (size : Int) (x : Int) 1 true seed = 0) : Good (turnL l (x : Int) 1 seed) size seed := by
  unfold turnE at he
  have hr : rangeB (size : Int) (x : Int) 1 = true := range_yes (y := 1) (by omega) (by omega)
  rw [if_pos (h.chk hs), if_pos hr] at he
  split at he
  · rename_i hb
    exact h.turn (y := 1) hs (by omega) hb
  · cases he
/-- what is found is taken, and given back -/
theorem there_back {l : List UInt8} {size seed i n : Nat} (h : Good l size seed) (hs : size ≤ 2016) (hn : 1 ≤ n) (hin : i + n ≤ 2016) (hfree : ∀ j, j < n → fr l (i + j) = true) :
    ∃ r, turnL l (i : Int) (n : Int) seed = r ∧ r.length = 256 ∧ turnE l (size : Int) (i : Int) (n : Int) true seed = 0 ∧ turnE r (size : Int) (i : Int) (n : Int) false seed = 0 ∧ turnL r (i : Int) (n : Int) seed = l ∧ zeros r + n = zeros l := by
  have hlast : i + n ≤ size := by
    refine Nat.le_of_not_lt fun h2 => ?_
    have h3 := hfree (n - 1) (by omega)
    have h4 := allB_iff.1 h.rest (i + (n - 1) - size) (by omega)
    rw [show size + (i + (n - 1) - size) = i + (n - 1) by omega, h3] at h4
    cases h4
  have hb : allB l i n false = true := allB_iff.2 fun j hj => by rw [hfree j hj]; rfl
  obtain ⟨k1, k2, k3, k4⟩ := turned_bits (seed := seed) h.len hs hlast hb h.rest
  have hg := h.turn hs hlast hb
  refine ⟨_, rfl, hg.len, ?_, ?_, ?_, k1⟩
  · unfold turnE
    rw [if_pos (h.chk hs), if_pos (range_yes hn hlast), if_pos]
    simpa using hb
  · unfold turnE
    rw [if_pos (hg.chk hs), if_pos (range_yes hn hlast), if_pos]
    rw [Int.toNat_natCast, Int.toNat_natCast]
    refine allB_iff.2 fun j hj => ?_
    rw [k3, decide_eq_true ⟨by omega, by omega⟩]
    simp
  · have e : ∀ r : List UInt8, r.length = 256 → (∀ x, fr r x = (fr l x && !decide (i ≤ x ∧ x < i + n))) → turnL r (i : Int) (n : Int) seed = sealL l seed := by
      intro r hrl hr
      unfold turnL
      rw [Int.toNat_natCast, Int.toNat_natCast]
      refine seal_same (by rw [flips_len]; exact hrl) h.len (fun x hx => ?_) seed
      rw [fr_flips hrl hx n hin, hr]
      by_cases hxin : i ≤ x ∧ x < i + n
      · rw [decide_eq_true hxin, k4 x hxin.1 hxin.2]; rfl
      · rw [decide_eq_false hxin]; cases fr l x <;> rfl
    rw [e _ hg.len k3]
    exact sealed_is h.len h.seal_
section
variable (n : Int) (marks : List Int) (B : Nat) (A : Option Addr) (c : Nat) (goal want : Int) (seed : Nat) (w : World)
set_option maxHeartbeats 2000000 in
set_option maxRecDepth 100000 in
theorem back (hs : seed < 4294967296) (_hl : marks.length ≤ 140737488355328) (hB : B ≤ w.heap.size) (hA : Sl w B A (marks.map i64v)) (hT : Tab w) :
    Calls Tryd.prog 6 #[.int .i64 n, .slice A marks.length c, .int .i64 goal, .int .i64 want, .int .u32 seed] w fun e w' => e = .returned (.bool true) ∧ Below w.heap.size w w' := by
  obtain ⟨len, hlen⟩ : ∃ len, marks.length = len := ⟨_, rfl⟩
  rw [hlen] at _hl ⊢
  have ht := Tab.lt hT
  have HL := Lib.hid hlen
  have HA := Lib.hid hA
  have HB := Lib.hid hB
  have HT := Lib.hid hT
  have hand := and16 n
  have hlow := low16_lt n
  obtain ⟨lw, hlw⟩ : ∃ lw, low16 n = lw := ⟨_, rfl⟩
  rw [hlw] at hand hlow
  obtain ⟨size, hsize⟩ : ∃ size, 1 + lw % 2016 = size := ⟨_, rfl⟩
  have hsz : (1 : Int) + (lw : Int) % 2016 = (size : Int) := by omega
  have hsz1 : 1 ≤ size := by omega
  have hsz2 : size ≤ 2016 := by omega
  clear hlen hA hB hT hlw hsize
  go_enter Tryd.func6, Tryd.ntmps6
  go_wp2_with fail
  refine (awake_any w HT.out).mono ?_
  rintro e w1 ⟨rfl, hb1⟩
  have B1 := Lib.hid hb1
  have s1 := hb1.size
  have T1 := Lib.hid (Tab.below HT.out hb1 ht)
  clear hb1
  go_wp2_with fail
  refine (New_yes size seed w1 hsz2 hs T1.out).mono ?_
  rintro e w2 ⟨g0, rfl, hg0, hR, hb2⟩
  have H2 : Hid (At w w2 g0 (newB size seed) []) := Lib.hid ⟨hR, Tab.below T1.out hb2 (by omega), B1.out.trans (hb2.mono s1), by omega⟩
  have HG0 : Hid (Good (newB size seed) size seed) := Lib.hid (Good.new hsz2)
  clear hR hb2 hsz hand
  go_wp2_with fail
  go_loopw [13, 15] (fun v i wr => ∃ (k : Nat) (l : List UInt8) (g cap : Nat) (rest : List Value), k ≤ 200 ∧ i = .int .i64 k ∧ v = .slice (some ⟨g, 0, none⟩) 256 cap ∧ 256 ≤ cap ∧ Good l size seed ∧ At w wr g l rest) (fun _ i _ => 200 - (intOf i).toNat)
  case atStart => exact ⟨0, _, g0, 256, [], by omega, rfl, rfl, Nat.le_refl _, HG0.out, H2.out⟩
  case round =>
    obtain ⟨k, l, g, cap, rest, hk, rfl, rfl, hcap, hgood, hat⟩ := hrel
    clear H2 HG0
    have HG := Lib.hid hgood
    have HR := Lib.hid hat
    have sr := hat.below.size
    clear hgood hat
    by_cases hgo : k < len ∧ k < 200
    · obtain ⟨k1, k2⟩ := hgo
      obtain ⟨am, rfl, hab, hcell⟩ := HA.out.i64 (k := k) (by rw [HL.out]; exact k1)
      have hcell2 := (HR.out.below.cell (p := am.add k) (by have := HB.out; rw [addr_add_block]; omega)).trans hcell
      have hand := and16 (marks[k]'(by rw [HL.out]; exact k1))
      have hlow := low16_lt (marks[k]'(by rw [HL.out]; exact k1))
      generalize marks[k]'(by rw [HL.out]; exact k1) = mk at hand hlow hcell hcell2
      obtain ⟨lm, hlm⟩ : ∃ lm, low16 mk = lm := ⟨_, rfl⟩
      rw [hlm] at hand hlow
      obtain ⟨x, hx⟩ : ∃ x, lm % size = x := ⟨_, rfl⟩
      have hxs : x < size := by rw [← hx]; exact Nat.mod_lt _ (by omega)
      have hxI : (lm : Int) % (size : Int) = (x : Int) := by rw [← hx]; push_cast; rfl
      have hsne : ((size : Int) == 0) = false := by rw [beq_eq_false_iff_ne]; omega
      have hsn : (size : Int) ≠ 0 := by omega
      clear hlm hx hcell
      by_cases he : turnE l (size : Int) (x : Int) 1 true seed = 0
      · have HN := Lib.hid (HG.out.turned hsz2 hxs he)
        have hn := Turn_done l 256 HG.out.len _ _ cap (size : Int) (x : Int) 1 true seed wr hs hcap (Nat.le_refl _) HR.out.sl HR.out.tab he
        have HD := Lib.hid hn
        clear hn he
        go_wp2_with (go_at_call 14; refine HD.out.mono ?_; rintro e w3 ⟨g3, cap3, rest3, rfl, hg3, hcap3, hR3, hb3⟩
                     have H3 : Hid (At w w3 g3 (turnL l (x : Int) 1 seed) rest3) := Lib.hid ⟨hR3, (HR.out.go ht hb3).tab, (HR.out.go ht hb3).below, by omega⟩
                     clear hR3 hb3)
        go_roundw
        case rel => exact ⟨k + 1, _, g3, cap3, rest3, by omega, by go_num, rfl, hcap3, HN.out, H3.out⟩
        case measure => simp [intOf]; omega
      · obtain ⟨e0, he0⟩ : ∃ e0, turnE l (size : Int) (x : Int) 1 true seed = e0 := ⟨_, rfl⟩
        rw [he0] at he
        have d1 : (e0 == 0) = false := by rw [beq_eq_false_iff_ne]; exact he
        have HF := Lib.hid (Turn_fail l 256 HG.out.len _ _ cap (size : Int) (x : Int) 1 true seed wr hs hcap (by omega) (Nat.le_refl _) HR.out.sl HR.out.tab e0 he0 he)
        clear he he0
        go_wp2_with (go_at_call 14; refine HF.out.mono ?_; rintro e w3 ⟨rfl, hb3⟩
                     have H3 := Lib.hid (HR.out.go ht hb3)
                     clear hb3)
        go_roundw
        case rel => exact ⟨k + 1, l, g, cap, rest, by omega, by go_num, rfl, hcap, HG.out, H3.out⟩
        case measure => simp [intOf]; omega
    · have hstop : (decide ((k : Int) < (len : Int)) = false ∧ decide (k < len) = false) ∨ ((decide ((k : Int) < (len : Int)) = true ∧ decide (k < len) = true) ∧ decide ((k : Int) < 200) = false) := by
        by_cases k1 : k < len
        · exact .inr ⟨⟨decide_eq_true (by omega), decide_eq_true k1⟩, decide_eq_false (by omega)⟩
        · exact .inl ⟨decide_eq_false (by omega), decide_eq_false k1⟩
      clear hgo
      cases hq : fOk l goal want with
      | false =>
        have HF := Lib.hid (Find_any l 256 HG.out.len _ (some ⟨g, 0, none⟩) cap goal want wr (Nat.le_refl _) (by omega) HR.out.sl)
        unfold findV at HF
        rw [hq] at HF
        generalize fI l goal want = x at HF
        generalize fN l goal want = y at HF
        clear hq
        rcases hstop with ⟨e1, e2⟩ | ⟨⟨e1, e2⟩, e3⟩
        all_goals
          go_wp2_with (go_at_call 21; refine HF.out.mono ?_; rintro e w3 ⟨rfl, hb3⟩
                       have H3 := Lib.hid (HR.out.go ht hb3)
                       clear hb3)
          go_ret
          exact ⟨rfl, H3.out.below⟩
      | true =>
        obtain ⟨i, m, h1, h2, h3, h4, h5, h6⟩ := found hq
        obtain ⟨r, b1, b2, b3, b4, b5, b6⟩ := there_back HG.out hsz2 h3 h5 h6
        have HF := Lib.hid (Find_any l 256 HG.out.len _ (some ⟨g, 0, none⟩) cap goal want wr (Nat.le_refl _) (by omega) HR.out.sl)
        unfold findV at HF
        rw [hq, h1, h2] at HF
        have Q1 := Lib.hid b1
        have Q2 := Lib.hid b2
        have Q3 := Lib.hid b3
        have Q4 := Lib.hid b4
        have Q5 := Lib.hid b5
        obtain ⟨z, hz⟩ : ∃ z, zeros l = z := ⟨_, rfl⟩
        obtain ⟨z2, hz2⟩ : ∃ z2, zeros r = z2 := ⟨_, rfl⟩
        have hzl : z ≤ 2016 := by rw [← hz]; exact zer_le (fr l) 2016
        rw [hz, hz2] at b6
        have HZ := Lib.hid hz
        have HZ2 := Lib.hid hz2
        have hsub : wrap64 ((z : Int) - (m : Int)) = (z2 : Int) := by rw [IntWalk.wrap64_in _ ⟨by omega, by omega⟩]; omega
        have d9 : ((z2 : Int) == (z2 : Int)) = true := by simp
        have d10 : ((z2 : Int) == (z : Int) - (m : Int)) = true := by rw [beq_iff_eq]; omega
        clear hq h1 h2 h6 b1 b2 b3 b4 b5 hz hz2 b6
        rcases hstop with ⟨e1, e2⟩ | ⟨⟨e1, e2⟩, e3⟩
        all_goals
          go_wp2_with (go_at_call 21; refine HF.out.mono ?_; rintro e w3 ⟨rfl, hb3⟩
                       have H3 := Lib.hid (HR.out.go ht hb3)
                       have s3 := H3.out.below.size
                       have hgl3 := H3.out.row.lt
                       clear hb3
                       have hn := Turn_done l 256 HG.out.len _ (some ⟨g, 0, none⟩) cap (size : Int) (i : Int) (m : Int) true seed w3 hs hcap (Nat.le_refl _) H3.out.sl H3.out.tab Q3.out
                       rw [Q1.out] at hn
                       have TD := Lib.hid hn
                       clear hn
                       go_wp2_with fail)
          refine TD.out.mono ?_
          rintro e w4 ⟨g4, cap4, rest4, rfl, hg4, hcap4, hR4, hb4⟩
          have H4 := Lib.hid (H3.out.go ht hb4)
          have R4 : Hid (At w w4 g4 r rest4) := Lib.hid ⟨hR4, H4.out.tab, H4.out.below, by omega⟩
          clear hb4 hR4
          have hn := Turn_done r 256 Q2.out _ (some ⟨g4, 0, none⟩) cap4 (size : Int) (i : Int) (m : Int) false seed w4 hs hcap4 (Nat.le_refl _) R4.out.sl R4.out.tab Q4.out
          rw [Q5.out] at hn
          have TE := Lib.hid hn
          clear hn
          go_wp2_with fail
          refine TE.out.mono ?_
          rintro e w5 ⟨g5, cap5, rest5, rfl, hg5, hcap5, hR5, hb5⟩
          have H5 := Lib.hid (H4.out.go ht hb5)
          have R5 := Lib.hid (R4.out.go ht hb5)
          have D5 := Lib.hid hR5
          have HGL := Lib.hid HG.out.len
          clear hb5 hR5
          go_wp2_with (first
            | (go_at_call 18; refine (Same_at 256 256 l HGL.out HGL.out _ _ (some ⟨g, 0, none⟩) (some ⟨g5, 0, none⟩) cap cap5 _ H5.out.sl (D5.out.sl D5.out.lt) (by omega)).mono ?_; rintro e w6 ⟨rfl, hd6⟩
               have H6 := Lib.hid (H5.out.go ht (drew_below hd6))
               have R6 := Lib.hid (R5.out.go ht (drew_below hd6))
               have Z1 := Lib.hid (Zeros_any l 256 HGL.out _ (some ⟨g, 0, none⟩) cap w6 (by omega) H6.out.sl)
               rw [HZ.out] at Z1
               have Z2 := Lib.hid (Zeros_any r 256 Q2.out _ (some ⟨g4, 0, none⟩) cap4 w6 (by omega) R6.out.sl)
               rw [HZ2.out] at Z2
               clear hd6)
            | (go_at_call 23; (with_reducible refine Z1.out.mono ?_); rintro e w' ⟨rfl, rfl⟩)
            | (go_at_call 23; (with_reducible refine Z2.out.mono ?_); rintro e w' ⟨rfl, rfl⟩))
          go_ret
          exact ⟨rfl, H6.out.below⟩
end
end Go.Proofs.YtlpipnpcgancmaaDoor.TBack
