/- The law WirePacks, walked: lists of numbers are packed into bytes, and unpacked, as the document says. -/
import Derived.Test.YtlbolfjelhljjaaDoorWAwake
import Derived.Test.YtlbolfjelhljjaaDoorWRefPack
namespace Go.Proofs.YtlbolfjelhljjaaDoor.LPacks
open Go.RowKit WMem WPlain WGive WGet WPut WAppend WHelp WList WPack WUnpack WFace WFace2 WCrc WSeal WRef WAny WWide WRefList WRefPack WAwake

open Classical in
noncomputable def packE (xs : List UInt64) (ws : List Int) (size : Int) : Int := if packs xs ws size then (if fit (nats ws) xs then 0 else 34) else 22
open Classical in
noncomputable def packB (xs : List UInt64) (ws : List Int) (size : Int) : List UInt8 := if packs xs ws size then (if fit (nats ws) xs then bytesOf_ xs ws size else []) else []
open Classical in
noncomputable def unpE (b : List UInt8) (ws : List Int) : Int := if fineI ws ∧ tot (nats ws) = b.length then 0 else 22
open Classical in
noncomputable def unpN (b : List UInt8) (ws : List Int) : List UInt64 := if fineI ws ∧ tot (nats ws) = b.length then unp (nats ws) b else []

/-- a slice value that reads as a list -/
def Has (w : World) (v : Value) (xs : List Value) : Prop := ∃ A c, v = .slice A xs.length c ∧ Sl w w.heap.size A xs
theorem Has.nil (w : World) : Has w (.slice none 0 0) [] := ⟨none, 0, rfl, Sl.nil _ _ _⟩
theorem has_row {w : World} {g c : Nat} {l : List UInt8} {rest : List Value} (h : Row w g l rest) : Has w (.slice (some ⟨g, 0, none⟩) l.length c) (l.map u8v) := ⟨_, c, by simp, h.sl h.lt⟩

section
variable (xs : List UInt64) (ws : List Int) (size : Int) (b : List UInt8) (B : Nat) (A A' : Option Addr) (c c' : Nat) (w : World)
theorem Pack_any (hB : B ≤ w.heap.size) (hl' : ws.length ≤ 17592186043904) (hA : Sl w B A (xs.map u64v)) (hA' : Sl w B A' (ws.map i64v)) :
    Calls Tryd.prog 26 #[.slice A xs.length c, .slice A' ws.length c', .int .i64 size] w fun e w' =>
      ∃ v, e = .returned (.tuple #[v, .int .i64 (packE xs ws size)]) ∧ Has w' v ((packB xs ws size).map u8v) ∧ Below w.heap.size w w' := by
  unfold packE packB
  by_cases h : packs xs ws size
  · rw [if_pos h, if_pos h]
    by_cases hx : fit (nats ws) xs
    · rw [if_pos hx, if_pos hx]
      have hlen := bytesOf_len ws xs size h
      refine (PackW_ok ws B A A' c c' w xs size hB h hx hA hA').mono ?_
      rintro e w' ⟨g, rfl, hg, hR, hb⟩
      refine ⟨_, rfl, ?_, hb⟩
      have := has_row (c := size.toNat) hR
      rwa [hlen] at this
    · rw [if_neg hx, if_neg hx]
      exact (PackW_big ws B A A' c c' w xs size hB h hx hA hA').mono fun e w' ⟨he, hb⟩ => ⟨_, he, Has.nil _, hb⟩
  · rw [if_neg h, if_neg h]
    exact (PackW_no ws B A A' c c' w xs size hB h (by omega) hA').mono fun e w' ⟨he, hb⟩ => ⟨_, he, Has.nil _, hb⟩
theorem refPack_any (hB : B ≤ w.heap.size) (hl' : ws.length ≤ 17592186043904) (hA : Sl w B A (xs.map u64v)) (hA' : Sl w B A' (ws.map i64v)) :
    Calls Tryd.prog 27 #[.slice A xs.length c, .slice A' ws.length c', .int .i64 size] w fun e w' =>
      ∃ v, e = .returned (.tuple #[v, .int .i64 (packE xs ws size)]) ∧ Has w' v ((packB xs ws size).map u8v) ∧ Below w.heap.size w w' := by
  unfold packE packB
  by_cases h : packs xs ws size
  · rw [if_pos h, if_pos h]
    have h' := h
    obtain ⟨h1, h2, h3, h4⟩ := h'
    obtain ⟨size, rfl⟩ := Int.eq_ofNat_of_zero_le (show 0 ≤ size by omega)
    by_cases hx : fit (nats ws) xs
    · rw [if_pos hx, if_pos hx]
      have hlen := bytesOf_len ws xs size h
      refine (refPack_ok xs ws size B A A' c c' w hB h hx hA hA').mono ?_
      rintro e w' ⟨g, rfl, hg, hR, hb⟩
      refine ⟨_, rfl, ?_, hb⟩
      have := has_row (c := size) hR
      rw [hlen] at this
      exact this
    · rw [if_neg hx, if_neg hx]
      exact (refPack_big xs ws size B A A' c c' w hB h hx hA hA').mono fun e w' ⟨he, hb⟩ => ⟨_, he, Has.nil _, hb⟩
  · rw [if_neg h, if_neg h]
    exact (refPack_no xs ws size B A A' c c' w h (by omega) hA').mono fun e w' ⟨he, hb⟩ => ⟨_, he, Has.nil _, by subst hb; exact Below.refl _ _⟩
theorem Unpack_any (hB : B ≤ w.heap.size) (hl : b.length ≤ 140737488351232) (hl' : ws.length ≤ 17592186043904) (hA : Sl w B A (b.map u8v)) (hA' : Sl w B A' (ws.map i64v)) :
    Calls Tryd.prog 28 #[.slice A b.length c, .slice A' ws.length c'] w fun e w' =>
      ∃ v, e = .returned (.tuple #[v, .int .i64 (unpE b ws)]) ∧ Has w' v ((unpN b ws).map u64v) ∧ Below w.heap.size w w' := by
  unfold unpE unpN
  by_cases h : fineI ws ∧ tot (nats ws) = b.length
  · rw [if_pos h, if_pos h]
    refine (UnpackW_ok b ws B A A' c c' w hB h.1 h.2 (by omega) (by omega) hA hA').mono ?_
    rintro e w' ⟨g, rfl, hg, hR, hb⟩
    exact ⟨_, rfl, ⟨_, ws.length, by simp [unp_length, nats_len], hR.sl hR.lt⟩, hb⟩
  · rw [if_neg h, if_neg h]
    exact (UnpackW_no b ws B A A' c c' w hB h (by omega) hA').mono fun e w' ⟨he, hb⟩ => ⟨_, he, Has.nil _, hb⟩
theorem refUnpack_any (hB : B ≤ w.heap.size) (hl : b.length ≤ 140737488351232) (hl' : ws.length ≤ 17592186043904) (hA : Sl w B A (b.map u8v)) (hA' : Sl w B A' (ws.map i64v)) :
    Calls Tryd.prog 29 #[.slice A b.length c, .slice A' ws.length c'] w fun e w' =>
      ∃ v, e = .returned (.tuple #[v, .int .i64 (unpE b ws)]) ∧ Has w' v ((unpN b ws).map u64v) ∧ Below w.heap.size w w' := by
  unfold unpE unpN
  by_cases h : fineI ws ∧ tot (nats ws) = b.length
  · rw [if_pos h, if_pos h]
    refine (refUnpack_ok b ws B A A' c c' w hB h.1 h.2 hl hl' hA hA').mono ?_
    rintro e w' ⟨v, rfl, ho, hb⟩
    obtain ⟨A2, c2, rfl, hs, _⟩ := own_sl ho
    exact ⟨_, rfl, ⟨A2, c2, by simp [unp_length, nats_len], hs⟩, hb⟩
  · rw [if_neg h, if_neg h]
    exact (refUnpack_no b ws B A A' c c' w h hl' hA').mono fun e w' ⟨he, hb⟩ => ⟨_, he, Has.nil _, by subst hb; exact Below.refl _ _⟩
end

set_option maxHeartbeats 1000000 in
theorem law (xs : List UInt64) (ws : List Int) (size : Int) (b : List UInt8) (B : Nat) (A A' A2 : Option Addr) (c c' c2 : Nat) (w : World) (hl' : ws.length ≤ 17592186043904) (hl : b.length ≤ 140737488351232)
    (hA : Sl w B A (xs.map u64v)) (hA' : Sl w B A' (ws.map i64v)) (hA2 : Sl w B A2 (b.map u8v)) (hB : B ≤ w.heap.size) (hT : Tab w) :
    Calls Tryd.prog 6 #[.slice A xs.length c, .slice A' ws.length c', .int .i64 size, .slice A2 b.length c2] w fun e w' => e = .returned (.bool true) ∧ Below w.heap.size w w' := by
  have HT := Lib.hid hT
  have HA := Lib.hid hA
  have HA' := Lib.hid hA'
  have HA2 := Lib.hid hA2
  clear hT hA hA' hA2
  have hpl : (packB xs ws size).length ≤ 4096 := by
    unfold packB
    split
    · rename_i h
      split
      · rw [bytesOf_len ws xs size h]; have := h.2.2.2; omega
      · simp
    · simp
  have hul : (unpN b ws).length ≤ 17592186043904 := by
    unfold unpN
    split
    · rw [unp_length, nats_len]; exact hl'
    · simp
  go_enter Tryd.func6, Tryd.ntmps6
  go_wp2_with fail
  refine (awake_any w HT.out).mono ?_
  rintro e w1 ⟨rfl, hb1⟩
  have s1 := hb1.size
  have HB1 := Lib.hid hb1
  clear hb1
  go_wp2_with fail
  refine (Pack_any xs ws size B A A' c c' w1 (by omega) hl' (HA.out.below_le HB1.out hB) (HA'.out.below_le HB1.out hB)).mono ?_
  rintro e w2 ⟨v2, rfl, ⟨A3, c3, rfl, hs2⟩, hb2⟩
  have s2 := hb2.size
  have HS2 := Lib.hid hs2
  have HB2 : Hid (Below w.heap.size w w2) := HB1.out.trans (hb2.mono s1)
  clear hs2 hb2
  rw [List.length_map]
  go_wp2_with fail
  refine (refPack_any xs ws size B A A' c c' w2 (by omega) hl' (HA.out.below_le HB2.out hB) (HA'.out.below_le HB2.out hB)).mono ?_
  rintro e w3 ⟨v3, rfl, ⟨A4, c4, rfl, hs3⟩, hb3⟩
  have s3 := hb3.size
  have HS2b := Lib.hid (HS2.out.below hb3)
  have HS3 := Lib.hid hs3
  have HB3 : Hid (Below w.heap.size w w3) := HB2.out.trans (hb3.mono (by omega))
  clear hs3 hb3
  rw [List.length_map]
  go_wp2_with fail
  refine (Unpack_any ws b B A2 A' c2 c' w3 (by omega) hl hl' (HA2.out.below_le HB3.out hB) (HA'.out.below_le HB3.out hB)).mono ?_
  rintro e w4 ⟨v4, rfl, ⟨A5, c5, rfl, hs4⟩, hb4⟩
  have s4 := hb4.size
  have HS2c := Lib.hid (HS2b.out.below_le hb4 s3)
  have HS3c := Lib.hid (HS3.out.below hb4)
  have HS4 := Lib.hid hs4
  have HB4 : Hid (Below w.heap.size w w4) := HB3.out.trans (hb4.mono (by omega))
  clear hs4 hb4
  rw [List.length_map]
  go_wp2_with fail
  refine (refUnpack_any ws b B A2 A' c2 c' w4 (by omega) hl hl' (HA2.out.below_le HB4.out hB) (HA'.out.below_le HB4.out hB)).mono ?_
  rintro e w5 ⟨v5, rfl, ⟨A6, c6, rfl, hs5⟩, hb5⟩
  have s5 := hb5.size
  have HS2d := Lib.hid (HS2c.out.below_le hb5 (by omega))
  have HS3d := Lib.hid (HS3c.out.below_le hb5 s4)
  have HS4d := Lib.hid (HS4.out.below hb5)
  have HS5 := Lib.hid hs5
  have HB5 : Hid (Below w.heap.size w w5) := HB4.out.trans (hb5.mono (by omega))
  clear hs5 hb5
  rw [List.length_map]
  go_wp2_with fail
  refine (Same_at _ _ (packB xs ws size) rfl rfl _ _ A3 A4 c3 c4 w5 HS2d.out HS3d.out (by omega)).mono ?_
  rintro e w6 ⟨rfl, k, rfl⟩
  go_wp2_with fail
  refine (same_yes _ _ (unpN b ws) rfl rfl _ _ A5 A6 c5 c6 _ (HS4d.out.drewN k) (HS5.out.drewN k) (by omega)).mono ?_
  rintro e w7 ⟨rfl, k2, rfl⟩
  go_wp2
  go_ret
  exact ⟨rfl, below_drewN HB5.out (k + k2)⟩
end Go.Proofs.YtlbolfjelhljjaaDoor.LPacks
