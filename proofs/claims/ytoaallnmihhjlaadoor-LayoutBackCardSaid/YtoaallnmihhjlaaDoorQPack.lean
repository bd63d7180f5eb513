/- The second block, packed by the program. -/
import Derived.Test.YtoaallnmihhjlaaDoorQRepeat
import Derived.Test.YtoaallnmihhjlaaDoorQMem
import Derived.Test.YtoaallnmihhjlaaDoorSPack
namespace Go.Proofs.YtoaallnmihhjlaaDoor.QPack
open Go.RowKit WMem WPlain WAppend WHelp WWide WCrc WSeal GPlain GWithin GGeo SNums SPack QPlain QMem QWidths QRepeat

theorem groupsWidths_any (n : Nat) (h1 : 1 ≤ n) (h2 : n ≤ 14) (w : World) :
    Calls Tryd.prog 36 #[.int .i64 (n : Int)] w fun e w' => ∃ g, e = .returned (.slice (some ⟨g, 0, none⟩) (3 * n) (3 * n)) ∧ w.heap.size ≤ g ∧ RowV w' g 3 ((grpW n).map i64v) ∧ Below w.heap.size w w' := by
  go_enter Tryd.func36, Tryd.ntmps36
  go_wp2_with fail
  refine (groupWidths_any w).mono ?_
  rintro e w1 ⟨rfl, hR1, hb1⟩
  have HR1 := Lib.hid hR1
  have HB1 := Lib.hid hb1
  clear hR1 hb1
  go_wp2_with fail
  refine (Repeat_any n h1 h2 w.heap.size 3 w1 HR1.out).mono ?_
  rintro e w2 ⟨rfl, hR2, hb2⟩
  have HR2 := Lib.hid hR2
  have HB2 := Lib.hid hb2
  clear hR2 hb2
  go_wp2
  go_ret
  refine ⟨_, rfl, HB1.out.size, ?_, below_up HB1.out HB2.out HB1.out.size⟩
  have := HR2.out
  simpa [grpW, i64v] using this
theorem groupsWidths_at (n m : Nat) (hm : m = 3 * n) (h1 : 1 ≤ n) (h2 : n ≤ 14) (w : World) :
    Calls Tryd.prog 36 #[.int .i64 (n : Int)] w fun e w' => ∃ g, e = .returned (.slice (some ⟨g, 0, none⟩) m m) ∧ w.heap.size ≤ g ∧ RowV w' g 3 ((grpW n).map i64v) ∧ Below w.heap.size w w' := by
  subst hm
  exact groupsWidths_any n h1 h2 w

theorem owns_below {w w' : World} {B : Nat} {e : TypeId} {k : Nat} {v : Value} {n : Nat} {xs : List Value} (h : w.ownsRow B e k v n xs) (hb : Below w.heap.size w w') : w'.ownsRow B e k v n xs :=
  h.kept (below_grown hb none) (by cases v.ownBlock <;> simp)
theorem owns_base {w : World} {B B' : Nat} {e : TypeId} {k : Nat} {v : Value} {n : Nat} {xs : List Value} (h : w.ownsRow B e k v n xs) (hB : B' ≤ B) : w.ownsRow B' e k v n xs := by
  refine ⟨h.1, ?_⟩
  rcases h.2 with hn | ⟨g, cap, cur, rfl, hb, rest⟩
  · exact .inl hn
  · exact .inr ⟨g, cap, cur, rfl, Nat.le_trans hB hb, rest⟩
theorem oneCell_nums (l : List UInt64) : ∀ u ∈ l.map u64v, u.oneCell' = true := by
  intro u hu
  obtain ⟨x, _, rfl⟩ := List.mem_map.1 hu
  rfl
/-- one group more -/
theorem nums_take (l : List Grp) (k : Nat) (h : k < l.length) (x : Grp) (hx : l[k] = x) : (nums (grpN (l.take (k + 1)))).map u64v = (nums (grpN (l.take k))).map u64v ++ (nums (three x)).map u64v := by
  subst hx
  rw [grpN_take_succ l k h]
  simp [nums]
theorem all_take (l : List Grp) (k : Nat) (h : k < l.length) (x : Grp) (hx : l[k] = x) (h1 : ∀ y ∈ l.take k, oneMay y = true) (h2 : oneMay x = true) : ∀ y ∈ l.take (k + 1), oneMay y = true := by
  subst hx
  intro y hy
  rw [List.take_succ_eq_append_getElem h] at hy
  rcases List.mem_append.1 hy with hy | hy
  · exact h1 y hy
  · rw [List.mem_singleton.1 hy]; exact h2
theorem may_no (l : List Grp) (k : Nat) (h : k < l.length) (x : Grp) (hx : l[k] = x) (h2 : oneMay x = false) : grpMay l = false := by
  rw [Bool.eq_false_iff]
  intro hm
  have := (grpMay_iff.1 hm).2 l[k] (List.getElem_mem h)
  rw [hx, h2] at this
  cases this
theorem may_len {l : List Grp} (h : ¬ (1 ≤ l.length ∧ l.length ≤ 14)) : grpMay l = false := by
  rw [Bool.eq_false_iff]
  intro hm
  exact h (grpMay_iff.1 hm).1

/-- what the program answers -/
def PackG (l : List Grp) (w : World) (e : Ending) (w' : World) : Prop :=
  (grpMay l = true → ∃ g, e = .returned (.tuple #[.slice (some ⟨g, 0, none⟩) 256 256, .int .i64 0]) ∧ w.heap.size ≤ g ∧ Row w' g (grpBytes l) []) ∧
    (grpMay l = false → e = .returned (.tuple #[.slice none 0 0, .int .i64 22])) ∧ Below w.heap.size w w'
theorem PackG.no {l : List Grp} {w w' : World} (h : grpMay l = false) (hb : Below w.heap.size w w') : PackG l w (.returned (.tuple #[.slice none 0 0, .int .i64 22])) w' :=
  ⟨fun h' => (by rw [h] at h'; cases h'), fun _ => rfl, hb⟩
set_option maxHeartbeats 1000000 in
theorem PackGroups_len (l : List Grp) (h : ¬ (1 ≤ l.length ∧ l.length ≤ 14)) (A : Option Addr) (c : Nat) (w : World) :
    Calls Tryd.prog 13 #[.slice A l.length c] w (PackG l w) := by
  have HN := Lib.hid (may_len h)
  have hq : inB 1 14 l.length = false := by rw [inB_false]; omega
  clear h
  go_enter Tryd.func13, Tryd.ntmps13
  go_wp2_with fail
  refine (within_one 1 14 l.length ⟨w.heap.size, 0, none⟩ 1 _ (by simp)).mono ?_
  rintro e w1 ⟨rfl, rfl⟩
  rw [hq]
  go_wp2
  go_ret2
  exact PackG.no HN.out (below_box _)
set_option maxHeartbeats 2000000 in
theorem PackGroups_in (l : List Grp) (h1 : 1 ≤ l.length) (h2 : l.length ≤ 14) (B : Nat) (A : Option Addr) (c : Nat) (w : World) (hB : B ≤ w.heap.size) (hA : Grps w B A l) (hT : Tab w) :
    Calls Tryd.prog 13 #[.slice A l.length c] w (PackG l w) := by
  have hq : inB 1 14 l.length = true := by rw [inB_true]; omega
  have HA := Lib.hid hA
  have HT := Lib.hid hT
  have htl := Tab.lt hT
  clear hA hT
  go_enter Tryd.func13, Tryd.ntmps13
  go_wp2_with fail
  refine (within_one 1 14 l.length ⟨w.heap.size, 0, none⟩ 1 _ (by simp)).mono ?_
  rintro e w1 ⟨rfl, rfl⟩
  rw [hq]
  clear hq
  go_wp2_with fail
  go_loopw [4, 14] (fun v i wr => ∃ k : Nat, k ≤ l.length ∧ i = .int .i64 k ∧ wr.ownsRow w.heap.size 56 1 v (3 * k) ((nums (grpN (l.take k))).map u64v) ∧ Below w.heap.size w wr ∧ Hid (∀ x ∈ l.take k, oneMay x = true)) (fun _ i _ => l.length - (intOf i).toNat)
  case atStart => exact ⟨0, Nat.zero_le _, rfl, by simpa [nums, grpN] using World.ownsRow_nil _ w.heap.size 56 1, below_box _, Lib.hid (by simp)⟩
  case round =>
    obtain ⟨k, hk, rfl, ho, hb, HK⟩ := hrel
    have HO := Lib.hid ho
    have HB := Lib.hid hb
    have sB := hb.size
    clear ho hb
    by_cases hlt : k < l.length
    · obtain ⟨a, rfl, hab, c0, c1, c2⟩ := (HA.out.below HB.out hB).at_ hlt
      have HX := Lib.hid (nums_take l k hlt)
      have HM := Lib.hid (all_take l k hlt)
      have HN := Lib.hid (may_no l k hlt)
      generalize hx : l[k] = x at *
      obtain ⟨fb, fi, dd⟩ := x
      cases hm : oneMay ⟨fb, fi, dd⟩ with
      | false =>
        have HQ := Lib.hid (HN.out _ rfl hm)
        go_wp2_with fail
        refine (within_any 0 65535 [fb, fi, dd] (wr.heap.size + 1 + 1) (some ⟨wr.heap.size + 1, 0, none⟩) 3 _ (sl_new (by simp) [.int .i64 fb, .int .i64 fi, .int .i64 dd] _) (by simp)).mono ?_
        rintro e w1 ⟨rfl, rfl⟩
        rw [show allIn 0 65535 [fb, fi, dd] = false from hm]
        go_wp2
        go_ret2
        exact PackG.no HQ.out ((HB.out.alloc sB _).alloc (by simp; omega) _)
      | true =>
        have HXX := Lib.hid (HX.out _ rfl)
        have HMM := Lib.hid (HM.out _ rfl HK.out hm)
        have hmm := hm
        obtain ⟨⟨b1, b2⟩, ⟨i1, i2⟩, ⟨d1, d2⟩⟩ := oneMay_iff.1 hmm
        clear hmm
        simp only at b1 b2 i1 i2 d1 d2
        obtain ⟨fb, rfl⟩ := Int.eq_ofNat_of_zero_le b1
        obtain ⟨fi, rfl⟩ := Int.eq_ofNat_of_zero_le i1
        obtain ⟨dd, rfl⟩ := Int.eq_ofNat_of_zero_le d1
        go_wp2_with fail
        refine (within_any 0 65535 [(fb : Int), (fi : Int), (dd : Int)] (wr.heap.size + 1 + 1) (some ⟨wr.heap.size + 1, 0, none⟩) 3 _ (sl_new (by simp) [.int .i64 fb, .int .i64 fi, .int .i64 dd] _) (by simp)).mono ?_
        rintro e w1 ⟨rfl, rfl⟩
        rw [show allIn 0 65535 [(fb : Int), (fi : Int), (dd : Int)] = true from hm]
        go_wp2_with fail
        refine (numbers_ex 3 [fb, fi, dd] rfl (wr.heap.size + 1 + 1 + 1) (some ⟨wr.heap.size + 1 + 1, 0, none⟩) 3 _ (by simp) (by decide) (by intro x hx; simp at hx; omega) (sl_new (by simp) [.int .i64 fb, .int .i64 fi, .int .i64 dd] _)).mono ?_
        rintro e w2 ⟨g2, rfl, hR2, hb2, hg2, hg2'⟩
        have HO2 := Lib.hid (owns_below (((HO.out.alloc _).alloc _).alloc _) hb2)
        have HB2 := Lib.hid (below_up (((HB.out.alloc sB _).alloc (by simp; omega) _).alloc (by simp; omega) _) hb2 (by simp; omega))
        have HS2 := Lib.hid (hR2.sl hg2')
        have sB2 := HB2.out.size
        clear hR2 hb2
        go_wp2_with (at_builtin; go_loud (refine wl_append rfl (.tmp 27) (.tmp 35) 50 rfl w.heap.size 56 8 elem64 _ (3 * k) _ rfl HO2.out w2.heap.size (some ⟨g2, 0, none⟩) 3 3 ((nums [fb, fi, dd]).map u64v) rfl rfl HS2.out (oneCell_nums _) (by omega) (by unfold maxLen; omega) sB2 ?_); intro v' w3 h1 h2 h3
                     have b3 : Below w.heap.size w w3 := HB2.out.grown h2 sB2 (fun q hq => (HO2.out.lt q hq).1)
                     have H1 := Lib.hid h1
                     have HB3 := Lib.hid b3
                     clear h1 h2 h3 b3)
        go_roundw
        case rel =>
          refine ⟨k + 1, by omega, by go_num, ?_, HB3.out, HMM⟩
          rw [HXX.out, show 3 * (k + 1) = 3 * k + 3 by omega]
          exact H1.out
        case measure => simp [intOf]; omega
    · obtain rfl : k = l.length := by omega
      have hal : ∀ x ∈ l, oneMay x = true := by
        have := HK.out
        rwa [List.take_length] at this
      have HF := Lib.hid (grp_fit l hal)
      have HP := Lib.hid (grp_packs l h2)
      have HY := Lib.hid (grpMay_iff.2 ⟨⟨h1, h2⟩, hal⟩)
      obtain ⟨A', c', rfl, hs⟩ := own_sl HO.out
      rw [List.take_length] at hs
      have HS := Lib.hid hs.1
      clear hs hal
      go_wp2_with fail
      refine (groupsWidths_any l.length h1 h2 _).mono ?_
      rintro e w1 ⟨g1, rfl, hg1, hR1, hb1⟩
      have HS1 := Lib.hid ((HS.out.below hb1).up hb1.size)
      have HB1 := Lib.hid (below_up HB.out hb1 sB)
      have HW1 := Lib.hid (hR1.sl hR1.lt)
      have HT1 := Lib.hid (Tab.below HT.out HB1.out htl)
      clear hR1 hb1
      go_wp2_with fail
      refine (block_ok (3 * l.length) (3 * l.length) (nums (grpN l)) (by rw [nums_len, grpN_len]) (grpW l.length) (by simp [grpW]) 1 (by decide) w1.heap.size A' (some ⟨g1, 0, none⟩) c' (3 * l.length) w1 (Nat.le_refl _) HP.out HF.out HS1.out HW1.out HT1.out).mono ?_
      rintro e w4 ⟨g4, rfl, hg4, hR4, hb4⟩
      have HB4 := Lib.hid (below_up HB1.out hb4 HB1.out.size)
      have HR4 := Lib.hid hR4
      have hs1 := HB1.out.size
      clear hR4 hb4
      go_wp2
      go_ret2
      exact ⟨fun _ => ⟨g4, rfl, by omega, HR4.out⟩, fun h => (by rw [HY.out] at h; cases h), HB4.out⟩
theorem PackGroups_any (l : List Grp) (B : Nat) (A : Option Addr) (c : Nat) (w : World) (hB : B ≤ w.heap.size) (hA : Grps w B A l) (hT : Tab w) :
    Calls Tryd.prog 13 #[.slice A l.length c] w (PackG l w) := by
  by_cases h : 1 ≤ l.length ∧ l.length ≤ 14
  · exact PackGroups_in l h.1 h.2 B A c w hB hA hT
  · exact PackGroups_len l h A c w
end Go.Proofs.YtoaallnmihhjlaaDoor.QPack
