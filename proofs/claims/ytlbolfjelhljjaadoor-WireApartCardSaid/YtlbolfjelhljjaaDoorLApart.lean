/- The law WireApart, walked: a number that is written leaves all numbers that stand elsewhere as they were. -/
import Derived.Test.YtlbolfjelhljjaaDoorWAwake
import Derived.Test.YtlbolfjelhljjaaDoorWAny
namespace Go.Proofs.YtlbolfjelhljjaaDoor.LApart
open Go.RowKit WMem WPlain WGive WGet WPut WAppend WHelp WFace WFace2 WCrc WPack WSeal WRef WAny WAwake

/-- the ways on which the law may end -/
theorem ways (l : List UInt8) (p n : Int) (x : Nat) (q m : Int) :
    (getE l q m = 22 ∧ getX l q m = 0 ∧ getX (putL l p n x) q m = 0 ∧ getE (putL l p n x) q m = 22 ∧ (putE l p n x = 0 ∨ putE l p n x = 22 ∨ putE l p n x = 34)) ∨
    (okPlace l.length q m ∧ getE l q m = 0 ∧ getE (putL l p n x) q m = 0 ∧ getX (putL l p n x) q m = getX l q m ∧ (putE l p n x = 22 ∨ putE l p n x = 34)) ∨
    (okPlace l.length q m ∧ okPlace l.length p n ∧ getE l q m = 0 ∧ getE (putL l p n x) q m = 0 ∧ putE l p n x = 0 ∧ (q + m ≤ p ∨ p + n ≤ q → getX (putL l p n x) q m = getX l q m)) := by
  by_cases h1 : okPlace l.length q m
  · have e1 : getE l q m = 0 := by unfold getE; rw [if_pos h1]
    have e2 : getE (putL l p n x) q m = 0 := by unfold getE; rw [putL_len, if_pos h1]
    by_cases h2 : okPlace l.length p n
    · by_cases h3 : x < 2 ^ (8 * n.toNat)
      · exact .inr (.inr ⟨h1, h2, e1, e2, by unfold putE; rw [if_pos h2, if_pos h3], apart_getX l p n x q m h1 h2⟩)
      · exact .inr (.inl ⟨h1, e1, e2, by unfold putL; rw [if_pos h2, if_neg h3], .inr (by unfold putE; rw [if_pos h2, if_neg h3])⟩)
    · exact .inr (.inl ⟨h1, e1, e2, by unfold putL; rw [if_neg h2], .inl (by unfold putE; rw [if_neg h2])⟩)
  · refine .inl ⟨by unfold getE; rw [if_neg h1], by unfold getX; rw [if_neg h1], by unfold getX; rw [putL_len, if_neg h1], by unfold getE; rw [putL_len, if_neg h1], ?_⟩
    unfold putE
    split
    · split
      · exact .inl rfl
      · exact .inr (.inr rfl)
    · exact .inr (.inl rfl)

set_option maxHeartbeats 1000000 in
theorem apart (l : List UInt8) (B : Nat) (A : Option Addr) (c : Nat) (p n : Int) (x : Nat) (q m : Int) (w : World) (hl : l.length ≤ 140737488351232) (hA : Sl w B A (l.map u8v)) (hB : B ≤ w.heap.size) (hT : Tab w) :
    Calls Tryd.prog 9 #[.slice A l.length c, .int .i64 p, .int .i64 n, .int .u64 x, .int .i64 q, .int .i64 m] w fun e w' => e = .returned (.bool true) ∧ Below w.heap.size w w' := by
  have h0 := Tab.lt hT
  have HT := Lib.hid hT
  have HA := Lib.hid hA
  have hways := ways l p n x q m
  have HW := Lib.hid hways
  clear hT hA hways
  go_enter Tryd.func9, Tryd.ntmps9
  go_wp2_with fail
  refine (awake_any w HT.out).mono ?_
  rintro e w1 ⟨rfl, hb1⟩
  have s1 := hb1.size
  have HB1 := Lib.hid hb1
  clear hb1
  have ho0 : (w1.alloc (.cells #[] 5)).ownsRow w1.heap.size 5 1 (.slice (some ⟨w1.heap.size, 0, none⟩) 0 0) 0 [] := World.ownsRow_made w1 #[] 0 (Nat.le_refl _) (by decide) rfl
  have hA0 : Sl (w1.alloc (.cells #[] 5)) B A (l.map u8v) := (HA.out.below_le HB1.out hB).keep fun q hq => World.cell?_alloc_lt w1 _ q (by omega)
  have HO := Lib.hid ho0
  have HS := Lib.hid hA0
  clear ho0 hA0
  go_wp2_with (at_builtin; go_loud (refine wl_append rfl (.tmp 22) (.tmp 23) 23 rfl w1.heap.size 5 1 elem8 (.slice (some ⟨w1.heap.size, 0, none⟩) 0 0) 0 [] rfl HO.out B A l.length c (l.map u8v) rfl (by simp) HS.out (one_u8 l) (by omega) (by unfold maxLen; omega) (by simp) ?_); intro v1 w2 h1 h2 h3
               have H1 := Lib.hid h1
               have H2 := Lib.hid h2
               clear h1 h2 h3)
  have b2 : Below w.heap.size w w2 := (HB1.out.alloc s1 _).trans (grown_below (g := w1.heap.size) H2.out s1 (by simp))
  have s2 := b2.size
  have HO2 : Hid (Own w2 w1.heap.size v1 l) := Own.of_row (by simpa using H1.out)
  have HB2 := Lib.hid b2
  clear b2 H1
  obtain ⟨A1, c1, rfl, hS1, hc1⟩ := HO2.out.sl
  have HS1 := Lib.hid hS1
  clear hS1
  refine (Get_any l _ A1 c1 q m w2 (by omega) HS1.out (Nat.le_refl _)).mono ?_
  rintro e w3 ⟨rfl, hb3⟩
  have s3 := hb3.size
  have HO3 := Lib.hid (HO2.out.keep hb3)
  have HB3 : Hid (Below w.heap.size w w3) := HB2.out.trans (hb3.mono s2)
  clear hb3 HO2 HB2
  go_wp2_with fail
  refine (PutOwn_any l p n w3 _ (.slice A1 l.length c1) x (by omega) HO3.out).mono ?_
  rintro e w4 ⟨rfl, hO4, hG4⟩
  have hbl := HO3.out.block
  have s4 := hG4.size
  have HO4 := Lib.hid hO4
  have HB4 : Hid (Below w.heap.size w w4) := HB3.out.grown hG4 (by omega) (fun k hk => by have := hbl k hk; omega)
  clear hO4 hG4 hbl HO3 HB3
  obtain ⟨hl4, hS4, hc4⟩ := HO4.out.at_
  have HL4 := Lib.hid hl4
  have HS4 := Lib.hid hS4
  clear hl4 hS4
  go_wp2_with fail
  refine (Get_at (putL l p n x) _ A1 c1 q m w4 l.length HL4.out (by omega) HS4.out (Nat.le_refl _)).mono ?_
  rintro e w5 ⟨rfl, hb5⟩
  have HB5 : Hid (Below w.heap.size w w5) := HB4.out.trans (hb5.mono (by omega))
  clear hb5
  rcases HW.out with ⟨e1, e2, e3, e4, e5⟩ | ⟨⟨i1, i2, i3, i4⟩, e1, e2, e3, e5⟩ | ⟨⟨i1, i2, i3, i4⟩, ⟨j1, j2, j3, j4⟩, e1, e2, e5, e3⟩
  · rw [e1, e2, e3, e4]
    clear e1 e2 e3 e4
    rcases e5 with e5 | e5 | e5 <;> (rw [e5]; clear e5; go_wp2; go_ret; exact ⟨rfl, HB5.out⟩)
  · rw [e1, e2, e3]
    clear e1 e2 e3
    generalize getX l q m = gx
    rcases e5 with e5 | e5 <;> (rw [e5]; clear e5; go_wp2; go_ret; exact ⟨rfl, HB5.out⟩)
  · rw [e1, e2, e5]
    clear e1 e2 e5
    by_cases h1 : q + m ≤ p
    · rw [e3 (.inl h1)]
      clear e3
      generalize getX l q m = gx
      have d1 : decide (q + m ≤ p) = true := by simpa using h1
      go_wp2
      go_ret
      exact ⟨rfl, HB5.out⟩
    · have d1 : decide (q + m ≤ p) = false := by simpa using h1
      by_cases h2 : p + n ≤ q
      · rw [e3 (.inr h2)]
        clear e3
        generalize getX l q m = gx
        have d2 : decide (p + n ≤ q) = true := by simpa using h2
        go_wp2
        go_ret
        exact ⟨rfl, HB5.out⟩
      · clear e3
        have d2 : decide (p + n ≤ q) = false := by simpa using h2
        generalize getX l q m = gx
        generalize getX (putL l p n x) q m = gy
        go_wp2
        go_ret
        exact ⟨rfl, HB5.out⟩
end Go.Proofs.YtlbolfjelhljjaaDoor.LApart
