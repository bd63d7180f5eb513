/- slices.Repeat of three fours: the widths of n groups. -/
import Derived.Test.YtgjcbfdhpbkhoaaGreatDoorMg21
import Derived.Test.YtgjcbfdhpbkhoaaGreatDoorMg14
import Derived.Test.YtgjcbfdhpbkhoaaGreatDoorMg17
import Derived.Test.YtgjcbfdhpbkhoaaGreatDoorMg16
namespace Go.Proofs.YtgjcbfdhpbkhoaaGreatDoor.QRepeat
open Go.RowKit WMem WPlain WList WPack SNums QPlain QWidths
theorem splice_first (m : Nat) : splice (frow m 0) 0 [.int .i64 4, .int .i64 4, .int .i64 4] = frow m 3 := by
  simp [splice, frow, List.drop_replicate, List.replicate_succ]
theorem splice_next (m k j : Nat) : splice (frow m k) k (List.replicate j (.int .i64 4)) = frow m (k + j) := by
  unfold splice frow
  have h1 : (List.replicate k (Value.int .i64 4) ++ List.replicate (m - k) (Value.int .i64 0)).take k = List.replicate k (Value.int .i64 4) := by
    rw [List.take_append_of_le_length (by simp)]; simp
  have h2 : (List.replicate k (Value.int .i64 4) ++ List.replicate (m - k) (Value.int .i64 0)).drop (k + j) = List.replicate (m - (k + j)) (Value.int .i64 0) := by
    rw [List.drop_append]
    simp
    omega
  rw [List.length_replicate, h1, h2, ← List.append_assoc, List.replicate_append_replicate]
set_option maxRecDepth 100000 in
set_option maxHeartbeats 1000000 in
theorem Repeat_any (n : Nat) (h1 : 1 ≤ n) (h2 : n ≤ 14) (g c : Nat) (w : World) (hR : RowV w g 3 [.int .i64 4, .int .i64 4, .int .i64 4]) :
    Calls Tryz.prog 156 #[.slice (some ⟨g, 0, none⟩) 3 c, .int .i64 (n : Int)] w fun e w' =>
      e = .returned (.slice (some ⟨w.heap.size, 0, none⟩) ((3 * n : Nat) : Nat) ((3 * n : Nat) : Nat)) ∧ RowV w' w.heap.size 3 (List.replicate (3 * n) (.int .i64 4)) ∧ Below w.heap.size w w' := by
  have HM := Lib.hid (mul_any n h1 h2)
  have HR := Lib.hid hR
  have hm0 := make_ints (3 * n) (by omega)
  obtain ⟨m, hm⟩ : ∃ m, 3 * n = m := ⟨_, rfl⟩
  rw [hm] at HM hm0 ⊢
  have hm1 : 3 ≤ m := by omega
  have hm2 : m ≤ 42 := by omega
  have d1 : decide ((n : Int) < 0) = false := by simp
  have d2 : decide ((9223372036854775807 : Int) < (m : Int)) = false := by simp; omega
  have hF3 : ([.int .i64 4, .int .i64 4, .int .i64 4] : List Value).length = Nat.min 3 m := by show 3 = Nat.min 3 m; exact (Nat.min_eq_left hm1).symm
  have HZ : Hid ((w.alloc (.cells (frow m 0).toArray 3)).heap[w.heap.size]? = some (.cells (frow m 0).toArray 3 (0, 0))) := Lib.hid (row_new w (.cells (frow m 0).toArray 3))
  have HB : Hid (Below w.heap.size w (w.alloc (.cells (frow m 0).toArray 3))) := Lib.hid ((Below.refl _ _).alloc (Nat.le_refl _) _)
  have HFL := Lib.hid (frow_len m 0 (Nat.zero_le _))
  have HC : Hid (∀ (j : Nat) (v : Value), ([.int .i64 4, .int .i64 4, .int .i64 4] : List Value)[j]? = some v → (w.alloc (.cells (frow m 0).toArray 3)).cell? ((⟨g, 0, none⟩ : Addr).add j) = some v) := Lib.hid (fun j v hv => by
    obtain ⟨a, e, _, hcell⟩ := ((HR.out.alloc (.cells (frow m 0).toArray 3)).sl (B := g + 1) (by omega)) j v hv
    injection e with e
    subst e
    exact hcell)
  clear hR hm
  have HF3 := Lib.hid hF3
  clear hF3
  go_enter Tryz.func156, Tryz.ntmps156
  go_wp2_with (first
    | (go_at_call 159; refine (HM.out _).mono ?_; rintro e w' ⟨rfl, rfl⟩)
    | (refine wpList_copy_splice (w := w.alloc (.cells (frow m 0).toArray 3)) rfl (.tmp 31) (.tmp 32) 50 50 rfl 3 (by kernel_rfl) (by kernel_rfl) (some ⟨w.heap.size, 0, none⟩) (some ⟨g, 0, none⟩) m m 3 c rfl rfl w.heap.size 0 (frow m 0) 3 HZ.out [.int .i64 4, .int .i64 4, .int .i64 4] HF3.out (fun _ => ⟨rfl, _, rfl, HC.out⟩) (by rw [HFL.out]; show 0 + 3 ≤ m; omega) (by intro v hv; simp at hv; subst hv; rfl) w.heap.size w HB.out (Nat.le_refl _) ?_
       intro w1 hrow1 hb1
       have HB1 := Lib.hid hb1
       clear hb1))
  have HR1 : Hid (RowV w1 w.heap.size 3 (frow m 3)) := Lib.hid (by
    have h := hrow1.out
    rw [splice_first m] at h
    exact h)
  clear hrow1
  go_loopw [8] (fun v wr => ∃ k : Nat, 3 ≤ k ∧ k ≤ m ∧ v = .int .i64 k ∧ RowV wr w.heap.size 3 (frow m k) ∧ Below w.heap.size w wr) (fun v _ => m - (intOf v).toNat)
  case atStart => exact ⟨3, Nat.le_refl _, hm1, rfl, HR1.out, HB1.out⟩
  case round =>
    obtain ⟨k, hk1, hk2, rfl, hr, hb⟩ := hrel
    have HR2 := Lib.hid hr
    have HB2 := Lib.hid hb
    clear hr hb
    by_cases hlt : k < m
    · obtain ⟨j, hj⟩ : ∃ j, min k (m - k) = j := ⟨_, rfl⟩
      have HJ := Lib.hid hj
      have hj1 : j ≤ m - k := by omega
      have hj2 : 1 ≤ j := by omega
      have hj3 : j ≤ k := by omega
      have HS := Lib.hid (splice_next m k j)
      have HFK := Lib.hid (frow_len m k hk2)
      have HLN : Hid ((List.replicate j (Value.int .i64 4)).length = Nat.min k (m - k)) := Lib.hid (by rw [List.length_replicate]; exact hj.symm)
      have HCC : Hid (∀ (i : Nat) (v : Value), (List.replicate j (Value.int .i64 4))[i]? = some v → wr.drew.cell? ((⟨w.heap.size, 0, none⟩ : Addr).add i) = some v) := Lib.hid (fun i v hv => by
        have hi : i < j := by
          have := (List.getElem?_eq_some_iff.1 hv).1
          simpa using this
        rw [List.getElem?_replicate, if_pos hi] at hv
        injection hv with hv
        subst hv
        have hc := HR2.out.cell (i := i) (by rw [HFK.out]; omega)
        have he : (frow m k)[i]'(by rw [HFK.out]; omega) = .int .i64 4 := by
          simp only [frow]
          rw [List.getElem_append_left (by simp; omega)]
          simp
        rw [he] at hc
        have hadd : (⟨w.heap.size, 0, none⟩ : Addr).add i = ⟨w.heap.size, i, none⟩ := by unfold Addr.add; split <;> simp_all
        rw [hadd]
        exact hc)
      have HBD : Hid (Below w.heap.size w wr.drew) := Lib.hid (below_drewN HB2.out 1)
      have HRD : Hid (RowV wr.drew w.heap.size 3 (frow m k)) := Lib.hid (HR2.out.drewN 1)
      have hne : ¬ (m = k) := by omega
      have hwr : IntKind.i64.wrap ((k : Int) + (j : Int)) = (k : Int) + (j : Int) := IntWalk.i64_in _ (by omega)
      clear hj
      go_wp2_with fail
      go_region_law (refine step_copy_splice (w := wr.drew) ?g1 (.tmp 41) (.tmp 44) 50 50 ?g2 3 (by kernel_rfl) (by kernel_rfl) (some ⟨w.heap.size, k, none⟩) (some ⟨w.heap.size, 0, none⟩) (m - k) (m - k) k m ?g3 ?g4 w.heap.size k (frow m k) 3 HRD.out (List.replicate j (.int .i64 4)) HLN.out (fun _ => ⟨rfl, _, rfl, HCC.out⟩) (by rw [HFK.out, List.length_replicate]; omega) (by intro v hv; have := List.eq_of_mem_replicate hv; subst this; rfl) w.heap.size w HBD.out (Nat.le_refl _) ?g5; (exact rfl); (exact rfl); (simp [Act.eval, Act.put]); (simp [Act.eval, Act.put]); intro w4 hg4 hb4; rw [List.length_replicate])
      all_goals
        have HR4 : Hid (RowV w4 w.heap.size 3 (frow m (k + j))) := Lib.hid (by
          have h := hg4.out
          rw [HS.out] at h
          exact h)
        have HB4 := Lib.hid hb4
        clear hg4 hb4
        simp [Exit.inBlock, Act.put]
        go_wp2
        go_roundw
        case rel => exact ⟨k + j, by omega, by omega, by go_num, HR4.out, HB4.out⟩
        case measure => simp [intOf]; omega
    · obtain rfl : k = m := by omega
      go_wp2
      go_ret
      refine ⟨rfl, ?_, HB2.out⟩
      have := HR2.out
      simpa [frow] using this
end Go.Proofs.YtgjcbfdhpbkhoaaGreatDoor.QRepeat
/- The second block, packed by the program. -/
namespace Go.Proofs.YtgjcbfdhpbkhoaaGreatDoor.QPack
open Go.RowKit WMem WPlain WAppend WHelp WWide WCrc WSeal GPlain GWithin GGeo SNums SPack QPlain QMem QWidths QRepeat
theorem groupsWidths_any (n : Nat) (h1 : 1 ≤ n) (h2 : n ≤ 14) (w : World) :
    Calls Tryz.prog 145 #[.int .i64 (n : Int)] w fun e w' => ∃ g, e = .returned (.slice (some ⟨g, 0, none⟩) (3 * n) (3 * n)) ∧ w.heap.size ≤ g ∧ RowV w' g 3 ((grpW n).map i64v) ∧ Below w.heap.size w w' := by
  go_enter Tryz.func145, Tryz.ntmps145
  go_wp2_with fail
  refine (groupWidths_any w).mono ?_
  rintro e w1 ⟨rfl, hR1, hb1⟩
  have HR1 := Lib.hid hR1
  have HB1 := Lib.hid hb1
  clear hR1 hb1
  go_wp2_with fail
  refine (Repeat_any n h1 h2 w.heap.size 3 w1 HR1.out).mono ?_
  rintro e w2 ⟨rfl, hR2, hb2⟩
  have HR2 := Lib.hid hR2
  have HB2 := Lib.hid hb2
  clear hR2 hb2
  go_wp2
  go_ret
  refine ⟨_, rfl, HB1.out.size, ?_, below_up HB1.out HB2.out HB1.out.size⟩
  have := HR2.out
  simpa [grpW, i64v] using this
theorem owns_below {w w' : World} {B : Nat} {e : TypeId} {k : Nat} {v : Value} {n : Nat} {xs : List Value} (h : w.ownsRow B e k v n xs) (hb : Below w.heap.size w w') : w'.ownsRow B e k v n xs :=
  h.kept (below_grown hb none) (by cases v.ownBlock <;> simp)
theorem owns_base {w : World} {B B' : Nat} {e : TypeId} {k : Nat} {v : Value} {n : Nat} {xs : List Value} (h : w.ownsRow B e k v n xs) (hB : B' ≤ B) : w.ownsRow B' e k v n xs := by
  refine ⟨h.1, ?_⟩
  rcases h.2 with hn | ⟨g, cap, cur, rfl, hb, rest⟩
  · exact .inl hn
  · exact .inr ⟨g, cap, cur, rfl, Nat.le_trans hB hb, rest⟩
theorem oneCell_nums (l : List UInt64) : ∀ u ∈ l.map u64v, u.oneCell' = true := by
  intro u hu
  obtain ⟨x, _, rfl⟩ := List.mem_map.1 hu
  rfl
theorem nums_take (l : List Grp) (k : Nat) (h : k < l.length) (x : Grp) (hx : l[k] = x) : (nums (grpN (l.take (k + 1)))).map u64v = (nums (grpN (l.take k))).map u64v ++ (nums (three x)).map u64v := by
  subst hx
  rw [grpN_take_succ l k h]
  simp [nums]
theorem all_take (l : List Grp) (k : Nat) (h : k < l.length) (x : Grp) (hx : l[k] = x) (h1 : ∀ y ∈ l.take k, oneMay y = true) (h2 : oneMay x = true) : ∀ y ∈ l.take (k + 1), oneMay y = true := by
  subst hx
  intro y hy
  rw [List.take_succ_eq_append_getElem h] at hy
  rcases List.mem_append.1 hy with hy | hy
  · exact h1 y hy
  · rw [List.mem_singleton.1 hy]; exact h2
theorem may_no (l : List Grp) (k : Nat) (h : k < l.length) (x : Grp) (hx : l[k] = x) (h2 : oneMay x = false) : grpMay l = false := by
  rw [Bool.eq_false_iff]
  intro hm
  have := (grpMay_iff.1 hm).2 l[k] (List.getElem_mem h)
  rw [hx, h2] at this
  cases this
theorem may_len {l : List Grp} (h : ¬ (1 ≤ l.length ∧ l.length ≤ 14)) : grpMay l = false := by
  rw [Bool.eq_false_iff]
  intro hm
  exact h (grpMay_iff.1 hm).1
def PackG (l : List Grp) (w : World) (e : Ending) (w' : World) : Prop :=
  (grpMay l = true → ∃ g, e = .returned (.tuple #[.slice (some ⟨g, 0, none⟩) 256 256, .int .i64 0]) ∧ w.heap.size ≤ g ∧ Row w' g (grpBytes l) []) ∧
    (grpMay l = false → e = .returned (.tuple #[.slice none 0 0, .int .i64 22])) ∧ Below w.heap.size w w'
theorem PackG.no {l : List Grp} {w w' : World} (h : grpMay l = false) (hb : Below w.heap.size w w') : PackG l w (.returned (.tuple #[.slice none 0 0, .int .i64 22])) w' :=
  ⟨fun h' => (by rw [h] at h'; cases h'), fun _ => rfl, hb⟩
set_option maxHeartbeats 1000000 in
theorem PackGroups_len (l : List Grp) (h : ¬ (1 ≤ l.length ∧ l.length ≤ 14)) (A : Option Addr) (c : Nat) (w : World) :
    Calls Tryz.prog 118 #[.slice A l.length c] w (PackG l w) := by
  have HN := Lib.hid (may_len h)
  have hq : inB 1 14 l.length = false := by rw [inB_false]; omega
  clear h
  go_enter Tryz.func118, Tryz.ntmps118
  go_wp2_with fail
  refine (within_one 1 14 l.length ⟨w.heap.size, 0, none⟩ 1 _ (by simp)).mono ?_
  rintro e w1 ⟨rfl, rfl⟩
  rw [hq]
  go_wp2
  go_ret2
  exact PackG.no HN.out (below_box _)
set_option maxHeartbeats 2000000 in
theorem PackGroups_in (l : List Grp) (h1 : 1 ≤ l.length) (h2 : l.length ≤ 14) (B : Nat) (A : Option Addr) (c : Nat) (w : World) (hB : B ≤ w.heap.size) (hA : Grps w B A l) (hT : Tab w) :
    Calls Tryz.prog 118 #[.slice A l.length c] w (PackG l w) := by
  have hq : inB 1 14 l.length = true := by rw [inB_true]; omega
  have HA := Lib.hid hA
  have HT := Lib.hid hT
  have htl := Tab.lt hT
  clear hA hT
  go_enter Tryz.func118, Tryz.ntmps118
  go_wp2_with fail
  refine (within_one 1 14 l.length ⟨w.heap.size, 0, none⟩ 1 _ (by simp)).mono ?_
  rintro e w1 ⟨rfl, rfl⟩
  rw [hq]
  clear hq
  go_wp2_with fail
  go_loopw [4, 14] (fun v i wr => ∃ k : Nat, k ≤ l.length ∧ i = .int .i64 k ∧ wr.ownsRow w.heap.size 47 1 v (3 * k) ((nums (grpN (l.take k))).map u64v) ∧ Below w.heap.size w wr ∧ Hid (∀ x ∈ l.take k, oneMay x = true)) (fun _ i _ => l.length - (intOf i).toNat)
  case atStart => exact ⟨0, Nat.zero_le _, rfl, by simpa [nums, grpN] using World.ownsRow_nil _ w.heap.size 47 1, below_box _, Lib.hid (by simp)⟩
  case round =>
    obtain ⟨k, hk, rfl, ho, hb, HK⟩ := hrel
    have HO := Lib.hid ho
    have HB := Lib.hid hb
    have sB := hb.size
    clear ho hb
    by_cases hlt : k < l.length
    · obtain ⟨a, rfl, hab, c0, c1, c2⟩ := (HA.out.below HB.out hB).at_ hlt
      have HX := Lib.hid (nums_take l k hlt)
      have HM := Lib.hid (all_take l k hlt)
      have HN := Lib.hid (may_no l k hlt)
      generalize hx : l[k] = x at *
      obtain ⟨fb, fi, dd⟩ := x
      cases hm : oneMay ⟨fb, fi, dd⟩ with
      | false =>
        have HQ := Lib.hid (HN.out _ rfl hm)
        go_wp2_with fail
        refine (within_any 0 65535 [fb, fi, dd] (wr.heap.size + 1 + 1) (some ⟨wr.heap.size + 1, 0, none⟩) 3 _ (sl_new (by simp) [.int .i64 fb, .int .i64 fi, .int .i64 dd] _) (by simp)).mono ?_
        rintro e w1 ⟨rfl, rfl⟩
        rw [show allIn 0 65535 [fb, fi, dd] = false from hm]
        go_wp2
        go_ret2
        exact PackG.no HQ.out ((HB.out.alloc sB _).alloc (by simp; omega) _)
      | true =>
        have HXX := Lib.hid (HX.out _ rfl)
        have HMM := Lib.hid (HM.out _ rfl HK.out hm)
        have hmm := hm
        obtain ⟨⟨b1, b2⟩, ⟨i1, i2⟩, ⟨d1, d2⟩⟩ := oneMay_iff.1 hmm
        clear hmm
        simp only at b1 b2 i1 i2 d1 d2
        obtain ⟨fb, rfl⟩ := Int.eq_ofNat_of_zero_le b1
        obtain ⟨fi, rfl⟩ := Int.eq_ofNat_of_zero_le i1
        obtain ⟨dd, rfl⟩ := Int.eq_ofNat_of_zero_le d1
        go_wp2_with fail
        refine (within_any 0 65535 [(fb : Int), (fi : Int), (dd : Int)] (wr.heap.size + 1 + 1) (some ⟨wr.heap.size + 1, 0, none⟩) 3 _ (sl_new (by simp) [.int .i64 fb, .int .i64 fi, .int .i64 dd] _) (by simp)).mono ?_
        rintro e w1 ⟨rfl, rfl⟩
        rw [show allIn 0 65535 [(fb : Int), (fi : Int), (dd : Int)] = true from hm]
        go_wp2_with fail
        refine (numbers_ex 3 [fb, fi, dd] rfl (wr.heap.size + 1 + 1 + 1) (some ⟨wr.heap.size + 1 + 1, 0, none⟩) 3 _ (by simp) (by decide) (by intro x hx; simp at hx; omega) (sl_new (by simp) [.int .i64 fb, .int .i64 fi, .int .i64 dd] _)).mono ?_
        rintro e w2 ⟨g2, rfl, hR2, hb2, hg2, hg2'⟩
        have HO2 := Lib.hid (owns_below (((HO.out.alloc _).alloc _).alloc _) hb2)
        have HB2 := Lib.hid (below_up (((HB.out.alloc sB _).alloc (by simp; omega) _).alloc (by simp; omega) _) hb2 (by simp; omega))
        have HS2 := Lib.hid (hR2.sl hg2')
        have sB2 := HB2.out.size
        clear hR2 hb2
        go_wp2_with (at_builtin; go_loud (refine wl_append rfl (.tmp 27) (.tmp 35) 48 rfl w.heap.size 47 8 elem64 _ (3 * k) _ rfl HO2.out w2.heap.size (some ⟨g2, 0, none⟩) 3 3 ((nums [fb, fi, dd]).map u64v) rfl rfl HS2.out (oneCell_nums _) (by omega) (by unfold maxLen; omega) sB2 ?_); intro v' w3 h1 h2 h3
                     have b3 : Below w.heap.size w w3 := HB2.out.grown h2 sB2 (fun q hq => (HO2.out.lt q hq).1)
                     have H1 := Lib.hid h1
                     have HB3 := Lib.hid b3
                     clear h1 h2 h3 b3)
        go_roundw
        case rel =>
          refine ⟨k + 1, by omega, by go_num, ?_, HB3.out, HMM⟩
          rw [HXX.out, show 3 * (k + 1) = 3 * k + 3 by omega]
          exact H1.out
        case measure => simp [intOf]; omega
    · obtain rfl : k = l.length := by omega
      have hal : ∀ x ∈ l, oneMay x = true := by
        have := HK.out
        rwa [List.take_length] at this
      have HF := Lib.hid (grp_fit l hal)
      have HP := Lib.hid (grp_packs l h2)
      have HY := Lib.hid (grpMay_iff.2 ⟨⟨h1, h2⟩, hal⟩)
      obtain ⟨A', c', rfl, hs⟩ := own_sl HO.out
      rw [List.take_length] at hs
      have HS := Lib.hid hs.1
      clear hs hal
      go_wp2_with fail
      refine (groupsWidths_any l.length h1 h2 _).mono ?_
      rintro e w1 ⟨g1, rfl, hg1, hR1, hb1⟩
      have HS1 := Lib.hid ((HS.out.below hb1).up hb1.size)
      have HB1 := Lib.hid (below_up HB.out hb1 sB)
      have HW1 := Lib.hid (hR1.sl hR1.lt)
      have HT1 := Lib.hid (Tab.below HT.out HB1.out htl)
      clear hR1 hb1
      go_wp2_with fail
      refine (block_ok (3 * l.length) (3 * l.length) (nums (grpN l)) (by rw [nums_len, grpN_len]) (grpW l.length) (by simp [grpW]) 1 (by decide) w1.heap.size A' (some ⟨g1, 0, none⟩) c' (3 * l.length) w1 (Nat.le_refl _) HP.out HF.out HS1.out HW1.out HT1.out).mono ?_
      rintro e w4 ⟨g4, rfl, hg4, hR4, hb4⟩
      have HB4 := Lib.hid (below_up HB1.out hb4 HB1.out.size)
      have HR4 := Lib.hid hR4
      have hs1 := HB1.out.size
      clear hR4 hb4
      go_wp2
      go_ret2
      exact ⟨fun _ => ⟨g4, rfl, by omega, HR4.out⟩, fun h => (by rw [HY.out] at h; cases h), HB4.out⟩
theorem PackGroups_any (l : List Grp) (B : Nat) (A : Option Addr) (c : Nat) (w : World) (hB : B ≤ w.heap.size) (hA : Grps w B A l) (hT : Tab w) :
    Calls Tryz.prog 118 #[.slice A l.length c] w (PackG l w) := by
  by_cases h : 1 ≤ l.length ∧ l.length ≤ 14
  · exact PackGroups_in l h.1 h.2 B A c w hB hA hT
  · exact PackGroups_len l h A c w
end Go.Proofs.YtgjcbfdhpbkhoaaGreatDoor.QPack
