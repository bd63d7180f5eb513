/- The second block, unpacked by the document. -/
import Derived.Test.YtoaallnmihhjlaaDoorQUnp
import Derived.Test.YtoaallnmihhjlaaDoorQRPack
import Derived.Test.YtoaallnmihhjlaaDoorSRUnp
namespace Go.Proofs.YtoaallnmihhjlaaDoor.QRUnp
open Go.RowKit WMem WPlain WFace2 WWide WAny WCrc GPlain GWithin GGeo SNums SPlain SSays SEqual SRUnp QPlain QMem QRPack QUnp

set_option maxHeartbeats 1000000 in
theorem refUnpackGroups_n (n : Int) (h : inB 1 14 n = false) (A : Option Addr) (len c : Nat) (w : World) :
    Calls Tryd.prog 16 #[.slice A len c, .int .i64 n] w fun e w' => e = .returned (.tuple #[.slice none 0 0, .int .i64 22]) ∧ Below w.heap.size w w' := by
  rcases inB_false.1 h with h0 | h0
  · have d0 : decide (n < 1) = true := by simpa using h0
    clear h
    go_enter Tryd.func16, Tryd.ntmps16
    go_wp2
    go_ret2
    exact ⟨rfl, Below.refl _ _⟩
  · have d0 : decide (n < 1) = false := by simp; omega
    have d1 : decide (14 < n) = true := by simpa using h0
    clear h
    go_enter Tryd.func16, Tryd.ntmps16
    go_wp2
    go_ret2
    exact ⟨rfl, Below.refl _ _⟩
set_option maxHeartbeats 1000000 in
theorem refUnpackGroups_len (n : Nat) (h1 : 1 ≤ n) (h2 : n ≤ 14) (len : Nat) (hl : len ≠ 256) (A : Option Addr) (c : Nat) (w : World) :
    Calls Tryd.prog 16 #[.slice A len c, .int .i64 (n : Int)] w fun e w' => e = .returned (.tuple #[.slice none 0 0, .int .i64 117]) ∧ Below w.heap.size w w' := by
  have d0 : decide ((n : Int) < 1) = false := by simp; omega
  have d1 : decide ((14 : Int) < (n : Int)) = false := by simp; omega
  have d2 : ((len : Int) != 256) = true := by rw [bne_iff_ne]; omega
  have d3 : (len != 256) = true := by rw [bne_iff_ne]; omega
  go_enter Tryd.func16, Tryd.ntmps16
  go_wp2
  go_ret2
  exact ⟨rfl, Below.refl _ _⟩
theorem gcells_range (b : List UInt8) (n k : Nat) (h : k < n) : gcells b n (List.range (k + 1)) = gcells b n (List.range k) ++ gcell b k := by
  rw [List.range_succ, gcells_snoc, Nat.min_eq_left (by omega)]
set_option maxRecDepth 100000 in
set_option maxHeartbeats 4000000 in
theorem refUnpackGroups_in (n : Nat) (h1 : 1 ≤ n) (h2 : n ≤ 14) (b : List UInt8) (hl : b.length = 256) (B : Nat) (A : Option Addr) (c : Nat) (w : World) (hB : B ≤ w.heap.size) (hA : Sl w B A (b.map u8v)) :
    Calls Tryd.prog 16 #[.slice A 256 c, .int .i64 (n : Int)] w fun e w' => ∃ A' c', e = .returned (.tuple #[.slice A' (unX b n).length c', .int .i64 (unE b n)]) ∧ Grps w' w'.heap.size A' (unX b n) ∧ (∀ a, A' = some a → w.heap.size ≤ a.block) ∧ Below w.heap.size w w' := by
  have HA := Lib.hid hA
  obtain ⟨i0, hi0, hz0, hz1, hz2⟩ := info_parts infoG
  clear hA
  have d0 : decide ((n : Int) < 1) = false := by simp; omega
  have d1 : decide ((14 : Int) < (n : Int)) = false := by simp; omega
  go_enter Tryd.func16, Tryd.ntmps16
  go_wp2_with fail
  clear d0 d1
  go_loopw [6, 7] (fun v i wr => ∃ k : Nat, k ≤ n ∧ i = .int .i64 k ∧ wr.ownsRow w.heap.size 67 3 v k (gcells b n (List.range k)) ∧ Below w.heap.size w wr) (fun _ i _ => n - (intOf i).toNat)
  case atStart => exact ⟨0, Nat.zero_le _, rfl, World.ownsRow_nil _ _ _ _, Below.refl _ _⟩
  case round =>
    obtain ⟨k, hk, rfl, ho, hb⟩ := hrel
    have HO := Lib.hid ho
    have HB := Lib.hid hb
    have sB := hb.size
    clear ho hb
    by_cases hlt : k < n
    · have HN := Lib.hid (fun p q hq hp => number_at b hl B A c p q hq hp wr (HA.out.below_le HB.out hB))
      have HX := Lib.hid (gcells_range b n k hlt)
      go_wp2_with fail
      refine (HN.out (12 * k) _ (by push_cast; omega) (by omega)).mono ?_
      rintro e w' ⟨rfl, rfl⟩
      go_wp2_with fail
      refine (HN.out (12 * k + 4) _ (by push_cast; omega) (by omega)).mono ?_
      rintro e w' ⟨rfl, rfl⟩
      go_wp2_with fail
      refine (HN.out (12 * k + 8) _ (by push_cast; omega) (by omega)).mono ?_
      rintro e w' ⟨rfl, rfl⟩
      go_wp2_with (at_builtin; go_loud (refine wpList_append_own _ rfl _ _ 35 rfl w.heap.size 67 i0 _ 3 24 underG hi0 hz0 hz1 hz2 rfl (by decide) _ _ _ rfl (HO.out.alloc _) ⟨wr.heap.size, 0, none⟩ 1 1 (gcell b k) rfl rfl (World.news_of_block (cs := #[.int .i64 (f4 b (12 * k)), .int .i64 (f4 b (12 * k + 4)), .int .i64 (f4 b (12 * k + 8))]) (t := 67) (fr := (0, 0)) (row_new _ _)) (by simp [gcell, Value.oneCell']) (by unfold maxLen; omega) (by omega) (by simp; omega) ?_); intro v' w4 h3 h4 _
                   have b4 : Below w.heap.size w w4 := (HB.out.alloc sB _).grown h4 (by simp; omega) (fun q hq => (HO.out.lt q hq).1)
                   have HO4 := Lib.hid h3
                   have HB4 := Lib.hid b4
                   clear h3 h4 b4)
      go_roundw
      case rel => exact ⟨k + 1, by omega, by go_num, by rw [HX.out]; exact HO4.out, HB4.out⟩
      case measure => simp [intOf]; omega
    · obtain rfl : k = n := by omega
      obtain ⟨A', c', rfl, hG, hA'⟩ := grps_of_own HO.out
      have HG := Lib.hid hG
      have HA' := Lib.hid hA'
      have HAW := Lib.hid (HA.out.below_le HB.out hB)
      clear hG hA'
      cases hm : grpMay (grpSays b k) with
      | false =>
        go_wp2_with fail
        refine (refPackGroups_any (grpSays b k) wr.heap.size A' c' wr (Nat.le_refl _) HG.out).mono ?_
        rintro e W5 ⟨_, hno, hb5⟩
        obtain rfl := hno hm
        have HB5 := Lib.hid (below_up HB.out hb5 sB)
        clear hno hb5
        go_wp2
        go_ret2
        have hX : unX b k = [] := by simp [unX, grpOk, grpGood, hm]
        have hE : unE b k = 117 := by simp [unE, grpOk, grpGood, hm]
        exact ⟨none, 0, by rw [hX, hE]; rfl, by rw [hX]; exact fun i hi => (by cases hi), fun a ha => (by cases ha), HB5.out⟩
      | true =>
        go_wp2_with fail
        refine (refPackGroups_any (grpSays b k) wr.heap.size A' c' wr (Nat.le_refl _) HG.out).mono ?_
        rintro e W5 ⟨hyes, _, hb5⟩
        obtain ⟨v5, rfl, hO5⟩ := hyes hm
        have hlen := grpBytes_len (grpSays b k) (by rw [grpSays_len]; exact h2)
        obtain ⟨A5, c5, rfl, hs5⟩ := own256 hO5 hlen
        have HB5 := Lib.hid (below_up HB.out hb5 sB)
        have HA5 := Lib.hid (HAW.out.below_le hb5 (by omega))
        have HS5 := Lib.hid hs5
        have HG5 := Lib.hid ((HG.out.below hb5 (Nat.le_refl _)).up hb5.size)
        have HLEN := Lib.hid hlen
        clear hyes hb5 hO5 hs5 hlen
        cases hq : (grpBytes (grpSays b k) == b) with
        | false =>
          have hq' : (b == grpBytes (grpSays b k)) = false := by rw [← hq]; exact Bool.beq_comm
          go_wp2_with fail
          refine (Same_any 256 256 b (grpBytes (grpSays b k)) hl HLEN.out B W5.heap.size A A5 c c5 W5 HA5.out HS5.out (by decide) false hq').mono ?_
          rintro e w' ⟨rfl, nd, rfl⟩
          go_wp2
          go_ret2
          have hX : unX b k = [] := by simp [unX, grpOk, grpGood, hm, hq]
          have hE : unE b k = 117 := by simp [unE, grpOk, grpGood, hm, hq]
          exact ⟨none, 0, by rw [hX, hE]; rfl, by rw [hX]; exact fun i hi => (by cases hi), fun a ha => (by cases ha), below_drewN HB5.out nd⟩
        | true =>
          have hq' : (b == grpBytes (grpSays b k)) = true := by rw [← hq]; exact Bool.beq_comm
          go_wp2_with fail
          refine (Same_any 256 256 b (grpBytes (grpSays b k)) hl HLEN.out B W5.heap.size A A5 c c5 W5 HA5.out HS5.out (by decide) true hq').mono ?_
          rintro e w' ⟨rfl, nd, rfl⟩
          go_wp2
          go_ret2
          have hX : unX b k = grpSays b k := by simp [unX, grpOk, grpGood, hm, hl, beq_iff_eq.1 hq]
          have hE : unE b k = 0 := by simp [unE, grpOk, grpGood, hm, hl, beq_iff_eq.1 hq]
          rw [hX, hE]
          exact ⟨A', c', rfl, HG5.out.drewN nd, HA'.out, below_drewN HB5.out nd⟩
theorem refUnpackGroups_any (n : Int) (b : List UInt8) (B : Nat) (A : Option Addr) (c : Nat) (w : World) (hB : B ≤ w.heap.size) (hA : Sl w B A (b.map u8v)) :
    Calls Tryd.prog 16 #[.slice A b.length c, .int .i64 n] w (UnpG b n w) := by
  cases h : inB 1 14 n with
  | false =>
    refine (refUnpackGroups_n n h A b.length c w).mono ?_
    rintro e w' ⟨rfl, hb⟩
    exact UnpG.nil (anyX_no h).1 (anyX_no h).2 hb
  | true =>
    have hn := inB_true.1 h
    obtain ⟨n, rfl⟩ := Int.eq_ofNat_of_zero_le (show 0 ≤ n by omega)
    by_cases hl : b.length = 256
    · have k := refUnpackGroups_in n (by omega) (by omega) b hl B A c w hB hA
      rw [← hl] at k
      refine k.mono ?_
      rintro e w' ⟨A', c', rfl, hG, hA', hb⟩
      obtain ⟨e1, e2⟩ := anyX_yes (b := b) (n := n) (by omega) (by omega)
      exact ⟨A', c', by rw [e1, e2], by rw [e1]; exact hG, hA', hb⟩
    · refine (refUnpackGroups_len n (by omega) (by omega) b.length hl A c w).mono ?_
      rintro e w' ⟨rfl, hb⟩
      obtain ⟨e1, e2⟩ := anyX_len (b := b) (n := n) (by omega) (by omega) hl
      exact UnpG.nil e1 e2 hb
end Go.Proofs.YtoaallnmihhjlaaDoor.QRUnp
