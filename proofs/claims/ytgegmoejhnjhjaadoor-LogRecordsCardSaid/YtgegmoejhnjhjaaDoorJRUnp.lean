/- The document's Unpack: the record of a block. -/
import Derived.Test.YtgegmoejhnjhjaaDoorJRPack
import Derived.Test.YtgegmoejhnjhjaaDoorJTheirs
import Derived.Test.YtgegmoejhnjhjaaDoorJUnpack
import Derived.Test.YtgegmoejhnjhjaaDoorJLOnly
namespace Go.Proofs.YtgegmoejhnjhjaaDoor.JRUnp
open Go.RowKit WMem WPlain WFace2 WWide WAny WCrc WSeal SNums SEqual JPlain JMem JMay JBody JPack JTold JMine JTheirs JRMay JRPack JRead JUnpack JLOnly

theorem refGet_at (n : Nat) (l : List UInt8) (hn : l.length = n) (B : Nat) (A : Option Addr) (c : Nat) (p q : Int) (w : World) (hl : n ≤ 140737488355328) (hA : Sl w B A (l.map u8v)) :
    Calls Tryd.prog 71 #[.slice A n c, .int .i64 p, .int .i64 q] w fun e w' => e = .returned (.tuple #[.int .u64 (getX l p q : Nat), .int .i64 (getE l p q)]) ∧ w = w' := by
  subst hn
  exact refGet_any l B A c p q w hl hA
set_option maxHeartbeats 1000000 in
theorem number_any (l : List UInt8) (hl : l.length = 256) (B : Nat) (A : Option Addr) (c : Nat) (p q : Int) (hq : q ≤ 4) (w : World) (hA : Sl w B A (l.map u8v)) :
    Calls Tryd.prog 37 #[.slice A 256 c, .int .i64 p, .int .i64 q] w fun e w' => e = .returned (.int .i64 (getX l p q : Nat)) ∧ w = w' := by
  have hx : getX l p q < 4294967296 := by
    by_cases h0 : 0 ≤ q
    · obtain ⟨k, rfl⟩ := Int.eq_ofNat_of_zero_le h0
      have h1 := getX_small l p k
      have h2 : 2 ^ (8 * k) ≤ 2 ^ 32 := Nat.pow_le_pow_right (by decide) (by omega)
      omega
    · have : getX l p q = 0 := by unfold getX; rw [if_neg (fun h => h0 (by have := h.1; omega))]
      omega
  have HG := Lib.hid (refGet_at 256 l hl B A c p q w (by decide) hA)
  generalize getX l p q = x at *
  generalize getE l p q = z at *
  have s0 : IntKind.i64.wrap (x : Int) = (x : Int) := IntWalk.i64_in _ (by omega)
  clear hA
  go_enter Tryd.func37, Tryd.ntmps37
  go_wp2_with fail
  refine HG.out.mono ?_
  rintro e w' ⟨rfl, rfl⟩
  go_wp2
  go_ret
  exact ⟨rfl, rfl⟩
/-- the record being read, the result's cell -/
structure UU (b : List UInt8) (w : World) (sum start : Value) (k : Nat) (W : World) : Prop where
  own : ∃ v, W.heap[w.heap.size + 1]? = some (.cells #[.int .i64 (saysK b), .int .i64 (getX b 5 4 : Nat), v, sum, start] 25 (0, 0)) ∧ W.ownsRow w.heap.size 69 2 v k (ecells ((List.range k).map (saysEnt b (saysK b))))
  res : W.heap[w.heap.size]? = some (.cells zbox 25 (0, 0))
  below : Below w.heap.size w W
theorem ownTurn {W : World} {base k g i : Nat} {T : TypeId} {v u : Value} {xs : List Value} (h : W.ownsRow base T 2 v k xs) (hne : v.ownBlock ≠ some g) : (W.setCell ⟨g, i, none⟩ u).ownsRow base T 2 v k xs :=
  h.kept (grown_set (grown_refl _ (some g)) i u) (.inr hne)
theorem UU.next {b : List UInt8} {w : World} {sum start : Value} {k : Nat} {W1 w2 : World} {v : Value} {x : Ent} {gg cap : Nat} (hx : saysEnt b (saysK b) k = x)
    (hr : W1.heap[w.heap.size]? = some (.cells zbox 25 (0, 0))) (hv : W1.heap[w.heap.size + 1]? = some (.cells #[.int .i64 (saysK b), .int .i64 (getX b 5 4 : Nat), v, sum, start] 25 (0, 0)))
    (ho : W1.ownsRow w.heap.size 69 2 v k (ecells ((List.range k).map (saysEnt b (saysK b))))) (hb : Below w.heap.size w W1)
    (hown : w2.ownsRow w.heap.size 69 2 (.slice (some ⟨gg, 0, none⟩) (k + 1) cap) (k + 1) (ecells ((List.range k).map (saysEnt b (saysK b))) ++ ecell x)) (hgrow : W1.grownBy w2 v.ownBlock) :
    UU b w sum start (k + 1) (w2.setCell ⟨w.heap.size + 1, 2, none⟩ (.slice (some ⟨gg, 0, none⟩) (k + 1) cap)) := by
  obtain ⟨h1, h2⟩ := grow_field (by decide) hv ho hown hgrow
  refine ⟨⟨_, h1, ?_⟩, ?_, (hb.grown hgrow hb.size (fun j hj => own_ge ho j hj)).setCell (by simp only; omega) _⟩
  · rw [take_map_succ, hx]
    exact h2
  · exact (Below.heap_setCell w2 ⟨w.heap.size + 1, 2, none⟩ _ w.heap.size (by simp)).trans ((hgrow.block w.heap.size (row_lt hr) (Ne.symm (own_ne ho hr (by decide)))).trans hr)
/-- what is answered -/
def RUnp (b : List UInt8) (w : World) (e : Ending) (w' : World) : Prop :=
  ∃ A' c', e = .returned (.tuple #[recV (unpR b) A' c', .int .i64 (unpE b)]) ∧ Ents w' w'.heap.size A' (unpR b).ents ∧ (∀ a, A' = some a → w.heap.size ≤ a.block) ∧ Below w.heap.size w w'
theorem RUnp.no {b : List UInt8} {w w' : World} (h : isRec b = false) (hb : Below w.heap.size w w') : RUnp b w (.returned (.tuple #[nulV, .int .i64 117])) w' := UnpackR.no h hb
set_option maxHeartbeats 1000000 in
theorem refUnpack_len (n : Nat) (b : List UInt8) (hb : b.length = n) (h : n ≠ 256) (A : Option Addr) (c : Nat) (w : World) :
    Calls Tryd.prog 15 #[.slice A n c] w (RUnp b w) := by
  have HN := Lib.hid (show isRec b = false by simp [isRec]; intro e; omega)
  have HZ : Hid ((w.alloc (.cells zbox 25)).heap[w.heap.size]? = some (.cells zbox 25 (0, 0))) := Lib.hid (row_new w _)
  have HBZ := Lib.hid (below_box (w := w) (.cells zbox 25))
  have d : ((n : Int) != 256) = true := by rw [bne_iff_ne]; omega
  have d' : (n != 256) = true := by rw [bne_iff_ne]; omega
  have z0 := (row_cell HZ.out 0).trans rfl
  have z1 := (row_cell HZ.out 1).trans rfl
  have z2 := (row_cell HZ.out 2).trans rfl
  have z3 := (row_cell HZ.out 3).trans rfl
  have z4 := (row_cell HZ.out 4).trans rfl
  have zf : ∀ i, (w.alloc (.cells zbox 25)).frozen? ⟨w.heap.size, i, none⟩ = false := fun i => row_free HZ.out i
  clear hb h
  unfold zbox at z0 z1 z2 z3 z4 zf
  go_enter Tryd.func15, Tryd.ntmps15
  go_wp2_with fail
  refine bodyPost_ret (v := .tuple #[nulV, .int .i64 117]) ?_ rfl (RUnp.no HN.out HBZ.out)
  simp [results, Tryd.results15, go_sem, nulV, z0, z1, z2, z3, z4]
set_option maxRecDepth 100000 in
set_option maxHeartbeats 8000000 in
theorem refUnpack_1 (b : List UInt8) (hb : b.length = 256) (hk : saysK b = 1) (B : Nat) (A : Option Addr) (c : Nat) (w : World) (hB : B ≤ w.heap.size) (hA : Sl w B A (b.map u8v)) :
    Calls Tryd.prog 15 #[.slice A 256 c] w (RUnp b w) := by
  have HL := Lib.hid hb
  have HA := Lib.hid hA
  have HK := Lib.hid hk
  have HSM := Lib.hid (says_sum b)
  have hX5 : getX b 5 4 < 4294967296 := getX_small b 5 4
  have hX9 : getX b 9 2 < 65536 := getX_small b 9 2
  have hX11 : getX b 11 4 < 4294967296 := getX_small b 11 4
  have HNUM := Lib.hid (fun (p q : Int) (hq : q ≤ 4) W (hW : Below w.heap.size w W) => number_any b hb B A c p q hq W (hA.below_le hW hB))
  obtain ⟨X5, h5⟩ : ∃ x, getX b 5 4 = x := ⟨_, rfl⟩
  obtain ⟨L, h9⟩ : ∃ x, getX b 9 2 = x := ⟨_, rfl⟩
  obtain ⟨X11, h11⟩ : ∃ x, getX b 11 4 = x := ⟨_, rfl⟩
  rw [h5] at hX5
  rw [h9] at hX9
  rw [h11] at hX11
  have H5 := Lib.hid h5
  have H9 := Lib.hid h9
  have H11 := Lib.hid h11
  have H4 : Hid (((getX b 4 1 : Nat) : Int) = 1) := Lib.hid hk
  have HSK := HK
  have HU0 : Hid (UU b w (.int .u32 0) (.int .i64 0) 0 ((w.alloc (.cells #[.int .i64 0, .int .i64 0, .slice none 0 0, .int .u32 0, .int .i64 0] 25)).alloc (.cells #[.int .i64 1, .int .i64 (X5 : Int), .slice none 0 0, .int .u32 0, .int .i64 0] 25))) := Lib.hid (by
    have n0 := row_new w (.cells #[.int .i64 0, .int .i64 0, .slice none 0 0, .int .u32 0, .int .i64 0] 25)
    have n1 := row_new (w.alloc (.cells #[.int .i64 0, .int .i64 0, .slice none 0 0, .int .u32 0, .int .i64 0] 25)) (.cells #[.int .i64 1, .int .i64 (X5 : Int), .slice none 0 0, .int .u32 0, .int .i64 0] 25)
    rw [World.size_alloc] at n1
    refine ⟨⟨.slice none 0 0, ?_, World.ownsRow_nil _ _ _ _⟩, row_alloc n0 _, (below_box _).alloc (by simp) _⟩
    rw [HSK.out, H5.out]
    exact n1)
  obtain ⟨i0, hi0, hz0, hz1, hz2⟩ := info_parts info_theirs
  clear hA hb hk h5 h9 h11
  go_enter Tryd.func15, Tryd.ntmps15
  go_wp2_with fail
  refine (HNUM.out 4 1 (by decide) _ (below_box _)).mono ?_
  rintro e w' ⟨rfl, rfl⟩
  rw [H4.out]
  go_wp2_with fail
  refine (HNUM.out 5 4 (by decide) _ (below_box _)).mono ?_
  rintro e w' ⟨rfl, rfl⟩
  rw [H5.out]
  go_wp2_with fail
  refine (HNUM.out 9 2 (by decide) _ (HU0.out.below)).mono ?_
  rintro e w' ⟨rfl, rfl⟩
  rw [H9.out]
  go_wp2_with fail
  go_loopw [6, 7] (fun p i wr => ∃ k : Nat, k ≤ min L 61 ∧ i = .int .i64 k ∧ p = .int .i64 ((11 + 5 * k : Nat) : Int) ∧ UU b w (.int .u32 0) (.int .i64 0) k wr) (fun _ i _ => min L 61 - (intOf i).toNat)
  case atStart => exact ⟨0, Nat.zero_le _, rfl, rfl, HU0.out⟩
  case round =>
    obtain ⟨k, hk, rfl, rfl, ⟨⟨v, hv, ho⟩, hr, hb⟩⟩ := hrel
    rw [HSK.out, H5.out] at hv
    have sB := hb.size
    have Q1 := Lib.hid hr
    have Q2 := Lib.hid hv
    have HO := Lib.hid ho
    have HB := Lib.hid hb
    have b0 : wr.cell? ⟨w.heap.size + 1, 0, none⟩ = some (.int .i64 1) := (row_cell hv 0).trans rfl
    have b2 : wr.cell? ⟨w.heap.size + 1, 2, none⟩ = some v := (row_cell hv 2).trans rfl
    have f2 : wr.frozen? ⟨w.heap.size + 1, 2, none⟩ = false := row_free hv 2
    have hlR := row_lt hv
    clear hr hv ho hb HU0
    by_cases hlt : k < min L 61
    · have g1 : decide ((k : Int) < (L : Int)) = true := by simp; omega
      have g1' : decide (k < L) = true := by simp; omega
      have g2 : decide ((k : Int) < 61) = true := by simp; omega
      have g2' : decide (k < 61) = true := by simp; omega
      have s4 : IntKind.i64.wrap (((11 + 5 * k : Nat) : Int) + 4) = ((11 + 5 * k + 4 : Nat) : Int) := by rw [IntWalk.i64_in _ (by omega)]; simp
      have s5 : IntKind.i64.wrap (((11 + 5 * k + 4 : Nat) : Int) + 1) = ((11 + 5 * k + 4 + 1 : Nat) : Int) := by rw [IntWalk.i64_in _ (by omega)]; simp
      obtain ⟨Y, hY⟩ : ∃ y, getX b ((11 + 5 * k : Nat) : Int) 4 = y := ⟨_, rfl⟩
      have HY := Lib.hid hY
      obtain ⟨Z, hZ⟩ : ∃ y, getX b ((11 + 5 * k + 4 : Nat) : Int) 1 = y := ⟨_, rfl⟩
      have HZ := Lib.hid hZ
      obtain ⟨q, hq⟩ : ∃ q, ((Z : Int) == 1) = q := ⟨_, rfl⟩
      have HE : Hid (saysEnt b (saysK b) k = ⟨(Y : Int), q⟩) := Lib.hid (by rw [HSK.out]; unfold saysEnt; rw [if_pos rfl, hY, hZ, ← hq]; congr 1; rw [Bool.eq_iff_iff]; simp; omega)
      clear hY hZ
      go_wp2_with fail
      refine (HNUM.out ((11 + 5 * k : Nat) : Int) 4 (by decide) _ HB.out).mono ?_
      rintro e w' ⟨rfl, rfl⟩
      rw [HY.out]
      go_wp2_with fail
      refine (HNUM.out ((11 + 5 * k + 4 : Nat) : Int) 1 (by decide) _ (HB.out.alloc sB _)).mono ?_
      rintro e w' ⟨rfl, rfl⟩
      rw [HZ.out]
      have hO2 := (HO.out.alloc (.cells #[.int .i64 (Y : Int), .bool q] 69)).alloc (.cells #[.int .i64 (Y : Int), .bool q] 69)
      have hbx : ((wr.alloc (.cells #[.int .i64 (Y : Int), .bool q] 69)).alloc (.cells #[.int .i64 (Y : Int), .bool q] 69)).heap[w.heap.size + 1]? = _ := row_alloc (row_alloc Q2.out _) _
      have hbr : ((wr.alloc (.cells #[.int .i64 (Y : Int), .bool q] 69)).alloc (.cells #[.int .i64 (Y : Int), .bool q] 69)).heap[w.heap.size]? = _ := row_alloc (row_alloc Q1.out _) _
      have HO2 := Lib.hid hO2
      have HBX := Lib.hid hbx
      have HBR := Lib.hid hbr
      have HB2 := Lib.hid ((HB.out.alloc sB (.cells #[.int .i64 (Y : Int), .bool q] 69)).alloc (by simp; omega) (.cells #[.int .i64 (Y : Int), .bool q] 69))
      have hsz2 : (wr.alloc (.cells #[.int .i64 (Y : Int), .bool q] 69)).heap.size = wr.heap.size + 1 := by simp
      clear hO2 hbx hbr
      go_wp2_with (at_builtin; go_loud (refine wpList_append_lies _ rfl _ _ 22 rfl w.heap.size 69 i0 _ 2 16 under_theirs hi0 hz0 hz1 hz2 rfl (by decide) v k (ecells ((List.range k).map (saysEnt b (saysK b)))) rfl HO2.out ⟨wr.heap.size + 1, 0, none⟩ 1 1 (ecell ⟨(Y : Int), q⟩) rfl rfl (World.news_of_block (cs := #[.int .i64 (Y : Int), .bool q]) (t := 69) (fr := (0, 0)) (by rw [← hsz2]; exact row_new (wr.alloc (.cells #[.int .i64 (Y : Int), .bool q] 69)) _)) (by simp [ecell, Value.oneCell']) (by omega) (by unfold maxLen; omega) (by omega) (by simp; omega) _ rfl ?_); intro gg cap w2 h1 h2 hat hlt2
                   have hnb := own_ne HO2.out HBX.out (by decide)
                   have HNX := Lib.hid (UU.next (sum := .int .u32 0) (start := .int .i64 0) HE.out HBR.out (by rw [HSK.out, H5.out]; exact HBX.out) HO2.out HB2.out h1 h2)
                   have j0 : w2.cell? ⟨w.heap.size + 1, 2, none⟩ = some v := (World.cell?_of_block (h2.block (w.heap.size + 1) (row_lt HBX.out) (Ne.symm hnb))).trans ((row_cell HBX.out 2).trans rfl)
                   have j1 : w2.frozen? ⟨w.heap.size + 1, 2, none⟩ = false := (World.frozen?_of_block (h2.block (w.heap.size + 1) (row_lt HBX.out) (Ne.symm hnb))).trans (row_free HBX.out 2)
                   clear h1 h2 hnb hat)
      go_roundw
      case rel => exact ⟨k + 1, by omega, by go_num, by go_num, HNX.out⟩
      case measure => simp [intOf]; omega
    · have hkm : k = min L 61 := by omega
      have hE : (says b).ents = (List.range k).map (saysEnt b (saysK b)) := by rw [hkm, ← H9.out]; rfl
      rw [← hE] at HO
      have HLEN : Hid ((says b).ents.length = k) := Lib.hid (by rw [hE]; simp)
      have HRV : Hid (∀ A' c', recV (says b) A' c' = .agg #[.int .i64 1, .int .i64 (X5 : Int), .slice A' k c', .int .u32 0, .int .i64 0]) := Lib.hid (fun A' c' => by
        unfold recV
        rw [HLEN.out]
        have e0 : (says b).kind = 1 := HSK.out
        have e1 : (says b).seq = (X5 : Int) := by rw [← H5.out]; rfl
        have e2 : (says b).sum = 0 := by unfold says; simp only; rw [HSK.out]; rw [if_neg (by decide)]
        have e3 : (says b).start = 0 := by unfold says; simp only; rw [HSK.out]; rw [if_neg (by decide)]
        rw [e0, e1, e2, e3]; rfl)
      have hk61 : k ≤ 61 := by omega
      have HKM := Lib.hid hkm
      have f3 : wr.frozen? ⟨w.heap.size + 1, 3, none⟩ = false := row_free Q2.out 3
      have f4 : wr.frozen? ⟨w.heap.size + 1, 4, none⟩ = false := row_free Q2.out 4
      have b1 : wr.cell? ⟨w.heap.size + 1, 1, none⟩ = some (.int .i64 (X5 : Int)) := (row_cell Q2.out 1).trans rfl
      have b3 : wr.cell? ⟨w.heap.size + 1, 3, none⟩ = some (.int .u32 0) := (row_cell Q2.out 3).trans rfl
      have b4 : wr.cell? ⟨w.heap.size + 1, 4, none⟩ = some (.int .i64 0) := (row_cell Q2.out 4).trans rfl
      have P1 := Q1
      have P2 := Q2
      have PO := HO
      have PB := HB
      clear hkm hE
      obtain ⟨A1, c1, rfl, hE1, hfar1⟩ := entsOut PO.out HLEN.out
      have HE1 := Lib.hid hE1
      clear hE1
      have HPK := Lib.hid (refPack_any (says b) HSM.out wr.heap.size A1 c1 wr (Nat.le_refl _) HE1.out (by rw [HLEN.out]; omega))
      rw [HRV.out] at HPK
      have e0 : wr.cell? ⟨w.heap.size + 1, 0, none⟩ = some (.int .i64 1) := (row_cell P2.out 0).trans rfl
      have e1 : wr.cell? ⟨w.heap.size + 1, 1, none⟩ = some (.int .i64 (X5 : Int)) := (row_cell P2.out 1).trans rfl
      have e2 : wr.cell? ⟨w.heap.size + 1, 2, none⟩ = some (.slice A1 k c1) := (row_cell P2.out 2).trans rfl
      have e3 : wr.cell? ⟨w.heap.size + 1, 3, none⟩ = some (.int .u32 0) := (row_cell P2.out 3).trans rfl
      have e4 : wr.cell? ⟨w.heap.size + 1, 4, none⟩ = some (.int .i64 0) := (row_cell P2.out 4).trans rfl
      by_cases hL : L ≤ 61
      · have g1 : decide ((k : Int) < (L : Int)) = false := by have := HKM.out; simp; omega
        have g1' : decide (k < L) = false := by have := HKM.out; simp; omega
        clear hL
        go_wp2_with fail
        generalize wr = WT at *
        refine HPK.out.mono ?_
        rintro e wp ⟨hyes, hno, hbp⟩
        have hsz := PB.out.size
        have HBP := Lib.hid (below_up PB.out hbp hsz)
        have R1 := Lib.hid (row_below P1.out hbp (row_lt P1.out))
        have R2 := Lib.hid (row_below P2.out hbp (row_lt P2.out))
        have RO := Lib.hid (owns_below PO.out hbp)
        have hsp : w.heap.size ≤ wp.heap.size := HBP.out.size
        have HAP := Lib.hid (HA.out.below_le HBP.out hB)
        clear hbp e0 e1 e2 e3 e4 b0 b2 f2 f3 f4 b1 b3 b4
        have z0 : wp.cell? ⟨w.heap.size, 0, none⟩ = some (.int .i64 0) := (row_cell R1.out 0).trans rfl
        have z1 : wp.cell? ⟨w.heap.size, 1, none⟩ = some (.int .i64 0) := (row_cell R1.out 1).trans rfl
        have z2 : wp.cell? ⟨w.heap.size, 2, none⟩ = some (.slice none 0 0) := (row_cell R1.out 2).trans rfl
        have z3 : wp.cell? ⟨w.heap.size, 3, none⟩ = some (.int .u32 0) := (row_cell R1.out 3).trans rfl
        have z4 : wp.cell? ⟨w.heap.size, 4, none⟩ = some (.int .i64 0) := (row_cell R1.out 4).trans rfl
        have zf : ∀ i, wp.frozen? ⟨w.heap.size, i, none⟩ = false := fun i => row_free R1.out i
        cases hm : recMay (says b) with
        | false =>
          obtain rfl := hno hm
          have HN := Lib.hid (show isRec b = false by unfold isRec; rw [hm]; simp)
          clear hyes hno hm
          go_wp2_with fail
          refine bodyPost_ret (v := .tuple #[nulV, .int .i64 117]) ?_ rfl (RUnp.no HN.out (set5_below (b := w.heap.size) (.int .i64 0) (.int .i64 0) (.slice none 0 0) (.int .u32 0) (.int .i64 0) HBP.out (Nat.le_refl _)))
          simp [results, Tryd.results15, go_sem, nulV, z0, z1, z2, z3, z4]
        | true =>
          obtain ⟨v6, rfl, hO6⟩ := hyes hm
          obtain ⟨A6, c6, e6, hS6, _⟩ := hO6.sl
          have HRL := Lib.hid (recBytes_len (recMay_iff.1 hm).2.1)
          rw [HRL.out] at e6
          subst e6
          have HS6 := Lib.hid hS6
          clear hO6 hS6 hyes hno
          cases hq : (b == recBytes (says b)) with
          | false =>
            have HN := Lib.hid (show isRec b = false by unfold isRec; rw [show (recBytes (says b) == b) = false from by rw [beq_eq_false_iff_ne] at hq ⊢; exact fun e => hq e.symm]; simp)
            have HSS := Lib.hid (Same_any 256 256 b (recBytes (says b)) HL.out HRL.out B wp.heap.size A A6 c c6 wp HAP.out HS6.out (by decide) false hq)
            clear hq hm
            go_wp2_with fail
            refine HSS.out.mono ?_
            rintro e w' ⟨rfl, nd, rfl⟩
            have R1 := Lib.hid (show (wp.drewN nd).heap[w.heap.size]? = _ from R1.out)
            have R2 := Lib.hid (show (wp.drewN nd).heap[w.heap.size + 1]? = _ from R2.out)
            have RO := Lib.hid (owns_below RO.out (below_drewN (Below.refl _ _) nd))
            have HBP := Lib.hid (below_drewN HBP.out nd)
            clear z0 z1 z2 z3 z4 zf hsp HSS HAP HS6
            generalize wp.drewN nd = wq at *
            have z0 : wq.cell? ⟨w.heap.size, 0, none⟩ = some (.int .i64 0) := (row_cell R1.out 0).trans rfl
            have z1 : wq.cell? ⟨w.heap.size, 1, none⟩ = some (.int .i64 0) := (row_cell R1.out 1).trans rfl
            have z2 : wq.cell? ⟨w.heap.size, 2, none⟩ = some (.slice none 0 0) := (row_cell R1.out 2).trans rfl
            have z3 : wq.cell? ⟨w.heap.size, 3, none⟩ = some (.int .u32 0) := (row_cell R1.out 3).trans rfl
            have z4 : wq.cell? ⟨w.heap.size, 4, none⟩ = some (.int .i64 0) := (row_cell R1.out 4).trans rfl
            have zf : ∀ i, wq.frozen? ⟨w.heap.size, i, none⟩ = false := fun i => row_free R1.out i
            go_wp2_with fail
            refine bodyPost_ret (v := .tuple #[nulV, .int .i64 117]) ?_ rfl (RUnp.no HN.out (set5_below (b := w.heap.size) (.int .i64 0) (.int .i64 0) (.slice none 0 0) (.int .u32 0) (.int .i64 0) HBP.out (Nat.le_refl _)))
            simp [results, Tryd.results15, go_sem, nulV, z0, z1, z2, z3, z4]
          | true =>
            have HN := Lib.hid (show isRec b = true by unfold isRec; rw [hm, show (recBytes (says b) == b) = true from by rw [beq_iff_eq] at hq ⊢; exact hq.symm, HL.out]; rfl)
            have HSS := Lib.hid (Same_any 256 256 b (recBytes (says b)) HL.out HRL.out B wp.heap.size A A6 c c6 wp HAP.out HS6.out (by decide) true hq)
            clear hq hm
            go_wp2_with fail
            refine HSS.out.mono ?_
            rintro e w' ⟨rfl, nd, rfl⟩
            have R1 := Lib.hid (show (wp.drewN nd).heap[w.heap.size]? = _ from R1.out)
            have R2 := Lib.hid (show (wp.drewN nd).heap[w.heap.size + 1]? = _ from R2.out)
            have RO := Lib.hid (owns_below RO.out (below_drewN (Below.refl _ _) nd))
            have HBP := Lib.hid (below_drewN HBP.out nd)
            clear z0 z1 z2 z3 z4 zf hsp HSS HAP HS6
            generalize wp.drewN nd = wq at *
            have z0 : wq.cell? ⟨w.heap.size, 0, none⟩ = some (.int .i64 0) := (row_cell R1.out 0).trans rfl
            have z1 : wq.cell? ⟨w.heap.size, 1, none⟩ = some (.int .i64 0) := (row_cell R1.out 1).trans rfl
            have z2 : wq.cell? ⟨w.heap.size, 2, none⟩ = some (.slice none 0 0) := (row_cell R1.out 2).trans rfl
            have z3 : wq.cell? ⟨w.heap.size, 3, none⟩ = some (.int .u32 0) := (row_cell R1.out 3).trans rfl
            have z4 : wq.cell? ⟨w.heap.size, 4, none⟩ = some (.int .i64 0) := (row_cell R1.out 4).trans rfl
            have zf : ∀ i, wq.frozen? ⟨w.heap.size, i, none⟩ = false := fun i => row_free R1.out i
            have y0 : wq.cell? ⟨w.heap.size + 1, 0, none⟩ = some (.int .i64 1) := (row_cell R2.out 0).trans rfl
            have y1 : wq.cell? ⟨w.heap.size + 1, 1, none⟩ = some (.int .i64 (X5 : Int)) := (row_cell R2.out 1).trans rfl
            have y2 : wq.cell? ⟨w.heap.size + 1, 2, none⟩ = some (.slice A1 k c1) := (row_cell R2.out 2).trans rfl
            have y3 : wq.cell? ⟨w.heap.size + 1, 3, none⟩ = some (.int .u32 0) := (row_cell R2.out 3).trans rfl
            have y4 : wq.cell? ⟨w.heap.size + 1, 4, none⟩ = some (.int .i64 0) := (row_cell R2.out 4).trans rfl
            obtain ⟨A7, c7, e7, hE7, hfar7⟩ := entsOut (RO.out.kept (set5_grown wq w.heap.size (.int .i64 1) (.int .i64 (X5 : Int)) (.slice A1 k c1) (.int .u32 0) (.int .i64 0)) (.inr (own_ne RO.out R1.out (by decide)))) HLEN.out
            cases e7
            have HE7 := Lib.hid hE7
            have HUR := Lib.hid (unp_yes HN.out)
            clear hE7
            go_wp2_with fail
            refine bodyPost_ret (v := .tuple #[.agg #[.int .i64 1, .int .i64 (X5 : Int), .slice A1 k c1, .int .u32 0, .int .i64 0], .int .i64 0]) ?_ rfl ?_
            · simp [results, Tryd.results15, go_sem, z0, z1, z2, z3, z4]
            · refine ⟨A1, c1, ?_, ?_, hfar7, set5_below (b := w.heap.size) (.int .i64 1) (.int .i64 (X5 : Int)) (.slice A1 k c1) (.int .u32 0) (.int .i64 0) HBP.out (Nat.le_refl _)⟩
              · rw [HUR.out.1, HUR.out.2.1, HRV.out]
              · rw [HUR.out.1]; exact HE7.out
      · have g1 : decide ((k : Int) < (L : Int)) = true := by have := HKM.out; simp; omega
        have g1' : decide (k < L) = true := by have := HKM.out; simp; omega
        have g2 : decide ((k : Int) < 61) = false := by have := HKM.out; simp; omega
        have g2' : decide (k < 61) = false := by have := HKM.out; simp; omega
        clear hL
        go_wp2_with fail
        generalize wr = WT at *
        refine HPK.out.mono ?_
        rintro e wp ⟨hyes, hno, hbp⟩
        have hsz := PB.out.size
        have HBP := Lib.hid (below_up PB.out hbp hsz)
        have R1 := Lib.hid (row_below P1.out hbp (row_lt P1.out))
        have R2 := Lib.hid (row_below P2.out hbp (row_lt P2.out))
        have RO := Lib.hid (owns_below PO.out hbp)
        have hsp : w.heap.size ≤ wp.heap.size := HBP.out.size
        have HAP := Lib.hid (HA.out.below_le HBP.out hB)
        clear hbp e0 e1 e2 e3 e4 b0 b2 f2 f3 f4 b1 b3 b4
        have z0 : wp.cell? ⟨w.heap.size, 0, none⟩ = some (.int .i64 0) := (row_cell R1.out 0).trans rfl
        have z1 : wp.cell? ⟨w.heap.size, 1, none⟩ = some (.int .i64 0) := (row_cell R1.out 1).trans rfl
        have z2 : wp.cell? ⟨w.heap.size, 2, none⟩ = some (.slice none 0 0) := (row_cell R1.out 2).trans rfl
        have z3 : wp.cell? ⟨w.heap.size, 3, none⟩ = some (.int .u32 0) := (row_cell R1.out 3).trans rfl
        have z4 : wp.cell? ⟨w.heap.size, 4, none⟩ = some (.int .i64 0) := (row_cell R1.out 4).trans rfl
        have zf : ∀ i, wp.frozen? ⟨w.heap.size, i, none⟩ = false := fun i => row_free R1.out i
        cases hm : recMay (says b) with
        | false =>
          obtain rfl := hno hm
          have HN := Lib.hid (show isRec b = false by unfold isRec; rw [hm]; simp)
          clear hyes hno hm
          go_wp2_with fail
          refine bodyPost_ret (v := .tuple #[nulV, .int .i64 117]) ?_ rfl (RUnp.no HN.out (set5_below (b := w.heap.size) (.int .i64 0) (.int .i64 0) (.slice none 0 0) (.int .u32 0) (.int .i64 0) HBP.out (Nat.le_refl _)))
          simp [results, Tryd.results15, go_sem, nulV, z0, z1, z2, z3, z4]
        | true =>
          obtain ⟨v6, rfl, hO6⟩ := hyes hm
          obtain ⟨A6, c6, e6, hS6, _⟩ := hO6.sl
          have HRL := Lib.hid (recBytes_len (recMay_iff.1 hm).2.1)
          rw [HRL.out] at e6
          subst e6
          have HS6 := Lib.hid hS6
          clear hO6 hS6 hyes hno
          cases hq : (b == recBytes (says b)) with
          | false =>
            have HN := Lib.hid (show isRec b = false by unfold isRec; rw [show (recBytes (says b) == b) = false from by rw [beq_eq_false_iff_ne] at hq ⊢; exact fun e => hq e.symm]; simp)
            have HSS := Lib.hid (Same_any 256 256 b (recBytes (says b)) HL.out HRL.out B wp.heap.size A A6 c c6 wp HAP.out HS6.out (by decide) false hq)
            clear hq hm
            go_wp2_with fail
            refine HSS.out.mono ?_
            rintro e w' ⟨rfl, nd, rfl⟩
            have R1 := Lib.hid (show (wp.drewN nd).heap[w.heap.size]? = _ from R1.out)
            have R2 := Lib.hid (show (wp.drewN nd).heap[w.heap.size + 1]? = _ from R2.out)
            have RO := Lib.hid (owns_below RO.out (below_drewN (Below.refl _ _) nd))
            have HBP := Lib.hid (below_drewN HBP.out nd)
            clear z0 z1 z2 z3 z4 zf hsp HSS HAP HS6
            generalize wp.drewN nd = wq at *
            have z0 : wq.cell? ⟨w.heap.size, 0, none⟩ = some (.int .i64 0) := (row_cell R1.out 0).trans rfl
            have z1 : wq.cell? ⟨w.heap.size, 1, none⟩ = some (.int .i64 0) := (row_cell R1.out 1).trans rfl
            have z2 : wq.cell? ⟨w.heap.size, 2, none⟩ = some (.slice none 0 0) := (row_cell R1.out 2).trans rfl
            have z3 : wq.cell? ⟨w.heap.size, 3, none⟩ = some (.int .u32 0) := (row_cell R1.out 3).trans rfl
            have z4 : wq.cell? ⟨w.heap.size, 4, none⟩ = some (.int .i64 0) := (row_cell R1.out 4).trans rfl
            have zf : ∀ i, wq.frozen? ⟨w.heap.size, i, none⟩ = false := fun i => row_free R1.out i
            go_wp2_with fail
            refine bodyPost_ret (v := .tuple #[nulV, .int .i64 117]) ?_ rfl (RUnp.no HN.out (set5_below (b := w.heap.size) (.int .i64 0) (.int .i64 0) (.slice none 0 0) (.int .u32 0) (.int .i64 0) HBP.out (Nat.le_refl _)))
            simp [results, Tryd.results15, go_sem, nulV, z0, z1, z2, z3, z4]
          | true =>
            have HN := Lib.hid (show isRec b = true by unfold isRec; rw [hm, show (recBytes (says b) == b) = true from by rw [beq_iff_eq] at hq ⊢; exact hq.symm, HL.out]; rfl)
            have HSS := Lib.hid (Same_any 256 256 b (recBytes (says b)) HL.out HRL.out B wp.heap.size A A6 c c6 wp HAP.out HS6.out (by decide) true hq)
            clear hq hm
            go_wp2_with fail
            refine HSS.out.mono ?_
            rintro e w' ⟨rfl, nd, rfl⟩
            have R1 := Lib.hid (show (wp.drewN nd).heap[w.heap.size]? = _ from R1.out)
            have R2 := Lib.hid (show (wp.drewN nd).heap[w.heap.size + 1]? = _ from R2.out)
            have RO := Lib.hid (owns_below RO.out (below_drewN (Below.refl _ _) nd))
            have HBP := Lib.hid (below_drewN HBP.out nd)
            clear z0 z1 z2 z3 z4 zf hsp HSS HAP HS6
            generalize wp.drewN nd = wq at *
            have z0 : wq.cell? ⟨w.heap.size, 0, none⟩ = some (.int .i64 0) := (row_cell R1.out 0).trans rfl
            have z1 : wq.cell? ⟨w.heap.size, 1, none⟩ = some (.int .i64 0) := (row_cell R1.out 1).trans rfl
            have z2 : wq.cell? ⟨w.heap.size, 2, none⟩ = some (.slice none 0 0) := (row_cell R1.out 2).trans rfl
            have z3 : wq.cell? ⟨w.heap.size, 3, none⟩ = some (.int .u32 0) := (row_cell R1.out 3).trans rfl
            have z4 : wq.cell? ⟨w.heap.size, 4, none⟩ = some (.int .i64 0) := (row_cell R1.out 4).trans rfl
            have zf : ∀ i, wq.frozen? ⟨w.heap.size, i, none⟩ = false := fun i => row_free R1.out i
            have y0 : wq.cell? ⟨w.heap.size + 1, 0, none⟩ = some (.int .i64 1) := (row_cell R2.out 0).trans rfl
            have y1 : wq.cell? ⟨w.heap.size + 1, 1, none⟩ = some (.int .i64 (X5 : Int)) := (row_cell R2.out 1).trans rfl
            have y2 : wq.cell? ⟨w.heap.size + 1, 2, none⟩ = some (.slice A1 k c1) := (row_cell R2.out 2).trans rfl
            have y3 : wq.cell? ⟨w.heap.size + 1, 3, none⟩ = some (.int .u32 0) := (row_cell R2.out 3).trans rfl
            have y4 : wq.cell? ⟨w.heap.size + 1, 4, none⟩ = some (.int .i64 0) := (row_cell R2.out 4).trans rfl
            obtain ⟨A7, c7, e7, hE7, hfar7⟩ := entsOut (RO.out.kept (set5_grown wq w.heap.size (.int .i64 1) (.int .i64 (X5 : Int)) (.slice A1 k c1) (.int .u32 0) (.int .i64 0)) (.inr (own_ne RO.out R1.out (by decide)))) HLEN.out
            cases e7
            have HE7 := Lib.hid hE7
            have HUR := Lib.hid (unp_yes HN.out)
            clear hE7
            go_wp2_with fail
            refine bodyPost_ret (v := .tuple #[.agg #[.int .i64 1, .int .i64 (X5 : Int), .slice A1 k c1, .int .u32 0, .int .i64 0], .int .i64 0]) ?_ rfl ?_
            · simp [results, Tryd.results15, go_sem, z0, z1, z2, z3, z4]
            · refine ⟨A1, c1, ?_, ?_, hfar7, set5_below (b := w.heap.size) (.int .i64 1) (.int .i64 (X5 : Int)) (.slice A1 k c1) (.int .u32 0) (.int .i64 0) HBP.out (Nat.le_refl _)⟩
              · rw [HUR.out.1, HUR.out.2.1, HRV.out]
              · rw [HUR.out.1]; exact HE7.out
set_option maxRecDepth 100000 in
set_option maxHeartbeats 8000000 in
theorem refUnpack_2 (b : List UInt8) (hb : b.length = 256) (hk : saysK b = 2) (B : Nat) (A : Option Addr) (c : Nat) (w : World) (hB : B ≤ w.heap.size) (hA : Sl w B A (b.map u8v)) :
    Calls Tryd.prog 15 #[.slice A 256 c] w (RUnp b w) := by
  have HL := Lib.hid hb
  have HA := Lib.hid hA
  have HK := Lib.hid hk
  have HSM := Lib.hid (says_sum b)
  have hX5 : getX b 5 4 < 4294967296 := getX_small b 5 4
  have hX9 : getX b 9 2 < 65536 := getX_small b 9 2
  have hX11 : getX b 11 4 < 4294967296 := getX_small b 11 4
  have HNUM := Lib.hid (fun (p q : Int) (hq : q ≤ 4) W (hW : Below w.heap.size w W) => number_any b hb B A c p q hq W (hA.below_le hW hB))
  obtain ⟨X5, h5⟩ : ∃ x, getX b 5 4 = x := ⟨_, rfl⟩
  obtain ⟨L, h9⟩ : ∃ x, getX b 9 2 = x := ⟨_, rfl⟩
  obtain ⟨X11, h11⟩ : ∃ x, getX b 11 4 = x := ⟨_, rfl⟩
  rw [h5] at hX5
  rw [h9] at hX9
  rw [h11] at hX11
  have H5 := Lib.hid h5
  have H9 := Lib.hid h9
  have H11 := Lib.hid h11
  have H4 : Hid (((getX b 4 1 : Nat) : Int) = 2) := Lib.hid hk
  have HSK := HK
  have HU0 : Hid (UU b w (.int .u32 0) (.int .i64 0) 0 ((w.alloc (.cells #[.int .i64 0, .int .i64 0, .slice none 0 0, .int .u32 0, .int .i64 0] 25)).alloc (.cells #[.int .i64 2, .int .i64 (X5 : Int), .slice none 0 0, .int .u32 0, .int .i64 0] 25))) := Lib.hid (by
    have n0 := row_new w (.cells #[.int .i64 0, .int .i64 0, .slice none 0 0, .int .u32 0, .int .i64 0] 25)
    have n1 := row_new (w.alloc (.cells #[.int .i64 0, .int .i64 0, .slice none 0 0, .int .u32 0, .int .i64 0] 25)) (.cells #[.int .i64 2, .int .i64 (X5 : Int), .slice none 0 0, .int .u32 0, .int .i64 0] 25)
    rw [World.size_alloc] at n1
    refine ⟨⟨.slice none 0 0, ?_, World.ownsRow_nil _ _ _ _⟩, row_alloc n0 _, (below_box _).alloc (by simp) _⟩
    rw [HSK.out, H5.out]
    exact n1)
  obtain ⟨i0, hi0, hz0, hz1, hz2⟩ := info_parts info_theirs
  clear hA hb hk h5 h9 h11
  go_enter Tryd.func15, Tryd.ntmps15
  go_wp2_with fail
  refine (HNUM.out 4 1 (by decide) _ (below_box _)).mono ?_
  rintro e w' ⟨rfl, rfl⟩
  rw [H4.out]
  go_wp2_with fail
  refine (HNUM.out 5 4 (by decide) _ (below_box _)).mono ?_
  rintro e w' ⟨rfl, rfl⟩
  rw [H5.out]
  go_wp2_with fail
  refine (HNUM.out 9 2 (by decide) _ (HU0.out.below)).mono ?_
  rintro e w' ⟨rfl, rfl⟩
  rw [H9.out]
  go_wp2_with fail
  go_loopw [6, 7] (fun p i wr => ∃ k : Nat, k ≤ min L 61 ∧ i = .int .i64 k ∧ p = .int .i64 ((11 + 4 * k : Nat) : Int) ∧ UU b w (.int .u32 0) (.int .i64 0) k wr) (fun _ i _ => min L 61 - (intOf i).toNat)
  case atStart => exact ⟨0, Nat.zero_le _, rfl, rfl, HU0.out⟩
  case round =>
    obtain ⟨k, hk, rfl, rfl, ⟨⟨v, hv, ho⟩, hr, hb⟩⟩ := hrel
    rw [HSK.out, H5.out] at hv
    have sB := hb.size
    have Q1 := Lib.hid hr
    have Q2 := Lib.hid hv
    have HO := Lib.hid ho
    have HB := Lib.hid hb
    have b0 : wr.cell? ⟨w.heap.size + 1, 0, none⟩ = some (.int .i64 2) := (row_cell hv 0).trans rfl
    have b2 : wr.cell? ⟨w.heap.size + 1, 2, none⟩ = some v := (row_cell hv 2).trans rfl
    have f2 : wr.frozen? ⟨w.heap.size + 1, 2, none⟩ = false := row_free hv 2
    have hlR := row_lt hv
    clear hr hv ho hb HU0
    by_cases hlt : k < min L 61
    · have g1 : decide ((k : Int) < (L : Int)) = true := by simp; omega
      have g1' : decide (k < L) = true := by simp; omega
      have g2 : decide ((k : Int) < 61) = true := by simp; omega
      have g2' : decide (k < 61) = true := by simp; omega
      have s4 : IntKind.i64.wrap (((11 + 4 * k : Nat) : Int) + 4) = ((11 + 4 * k + 4 : Nat) : Int) := by rw [IntWalk.i64_in _ (by omega)]; simp
      obtain ⟨Y, hY⟩ : ∃ y, getX b ((11 + 4 * k : Nat) : Int) 4 = y := ⟨_, rfl⟩
      have HY := Lib.hid hY
      have HE : Hid (saysEnt b (saysK b) k = ⟨(Y : Int), false⟩) := Lib.hid (by rw [HSK.out]; unfold saysEnt; rw [if_neg (by decide), hY])
      clear hY
      go_wp2_with fail
      refine (HNUM.out ((11 + 4 * k : Nat) : Int) 4 (by decide) _ HB.out).mono ?_
      rintro e w' ⟨rfl, rfl⟩
      rw [HY.out]
      have hO2 := (HO.out.alloc (.cells #[.int .i64 (Y : Int), .bool false] 69)).alloc (.cells #[.int .i64 (Y : Int), .bool false] 69)
      have hbx : ((wr.alloc (.cells #[.int .i64 (Y : Int), .bool false] 69)).alloc (.cells #[.int .i64 (Y : Int), .bool false] 69)).heap[w.heap.size + 1]? = _ := row_alloc (row_alloc Q2.out _) _
      have hbr : ((wr.alloc (.cells #[.int .i64 (Y : Int), .bool false] 69)).alloc (.cells #[.int .i64 (Y : Int), .bool false] 69)).heap[w.heap.size]? = _ := row_alloc (row_alloc Q1.out _) _
      have HO2 := Lib.hid hO2
      have HBX := Lib.hid hbx
      have HBR := Lib.hid hbr
      have HB2 := Lib.hid ((HB.out.alloc sB (.cells #[.int .i64 (Y : Int), .bool false] 69)).alloc (by simp; omega) (.cells #[.int .i64 (Y : Int), .bool false] 69))
      have hsz2 : (wr.alloc (.cells #[.int .i64 (Y : Int), .bool false] 69)).heap.size = wr.heap.size + 1 := by simp
      clear hO2 hbx hbr
      go_wp2_with (at_builtin; go_loud (refine wpList_append_lies _ rfl _ _ 22 rfl w.heap.size 69 i0 _ 2 16 under_theirs hi0 hz0 hz1 hz2 rfl (by decide) v k (ecells ((List.range k).map (saysEnt b (saysK b)))) rfl HO2.out ⟨wr.heap.size + 1, 0, none⟩ 1 1 (ecell ⟨(Y : Int), false⟩) rfl rfl (World.news_of_block (cs := #[.int .i64 (Y : Int), .bool false]) (t := 69) (fr := (0, 0)) (by rw [← hsz2]; exact row_new (wr.alloc (.cells #[.int .i64 (Y : Int), .bool false] 69)) _)) (by simp [ecell, Value.oneCell']) (by omega) (by unfold maxLen; omega) (by omega) (by simp; omega) _ rfl ?_); intro gg cap w2 h1 h2 hat hlt2
                   have hnb := own_ne HO2.out HBX.out (by decide)
                   have HNX := Lib.hid (UU.next (sum := .int .u32 0) (start := .int .i64 0) HE.out HBR.out (by rw [HSK.out, H5.out]; exact HBX.out) HO2.out HB2.out h1 h2)
                   have j0 : w2.cell? ⟨w.heap.size + 1, 2, none⟩ = some v := (World.cell?_of_block (h2.block (w.heap.size + 1) (row_lt HBX.out) (Ne.symm hnb))).trans ((row_cell HBX.out 2).trans rfl)
                   have j1 : w2.frozen? ⟨w.heap.size + 1, 2, none⟩ = false := (World.frozen?_of_block (h2.block (w.heap.size + 1) (row_lt HBX.out) (Ne.symm hnb))).trans (row_free HBX.out 2)
                   clear h1 h2 hnb hat)
      go_roundw
      case rel => exact ⟨k + 1, by omega, by go_num, by go_num, HNX.out⟩
      case measure => simp [intOf]; omega
    · have hkm : k = min L 61 := by omega
      have hE : (says b).ents = (List.range k).map (saysEnt b (saysK b)) := by rw [hkm, ← H9.out]; rfl
      rw [← hE] at HO
      have HLEN : Hid ((says b).ents.length = k) := Lib.hid (by rw [hE]; simp)
      have HRV : Hid (∀ A' c', recV (says b) A' c' = .agg #[.int .i64 2, .int .i64 (X5 : Int), .slice A' k c', .int .u32 (X11 : Int), .int .i64 0]) := Lib.hid (fun A' c' => by
        unfold recV
        rw [HLEN.out]
        have e0 : (says b).kind = 2 := HSK.out
        have e1 : (says b).seq = (X5 : Int) := by rw [← H5.out]; rfl
        have e2 : (says b).sum = X11 := by unfold says; simp only; rw [HSK.out]; rw [if_pos rfl]; exact H11.out
        have e3 : (says b).start = 0 := by unfold says; simp only; rw [HSK.out]; rw [if_neg (by decide)]
        rw [e0, e1, e2, e3])
      have hk61 : k ≤ 61 := by omega
      have HKM := Lib.hid hkm
      have f3 : wr.frozen? ⟨w.heap.size + 1, 3, none⟩ = false := row_free Q2.out 3
      have f4 : wr.frozen? ⟨w.heap.size + 1, 4, none⟩ = false := row_free Q2.out 4
      have b1 : wr.cell? ⟨w.heap.size + 1, 1, none⟩ = some (.int .i64 (X5 : Int)) := (row_cell Q2.out 1).trans rfl
      have b3 : wr.cell? ⟨w.heap.size + 1, 3, none⟩ = some (.int .u32 0) := (row_cell Q2.out 3).trans rfl
      have b4 : wr.cell? ⟨w.heap.size + 1, 4, none⟩ = some (.int .i64 0) := (row_cell Q2.out 4).trans rfl
      have sw : IntKind.u32.wrap (X11 : Int) = (X11 : Int) := by rw [IntKind.wrap_u32]; omega
      have hq2 : (wr.setCell ⟨w.heap.size + 1, 3, none⟩ (.int .u32 (X11 : Int))).heap[w.heap.size + 1]? = some (.cells #[.int .i64 2, .int .i64 (X5 : Int), v, .int .u32 (X11 : Int), .int .i64 0] 25 (0, 0)) := row_set Q2.out 3 (.int .u32 (X11 : Int))
      have hq1 : (wr.setCell ⟨w.heap.size + 1, 3, none⟩ (.int .u32 (X11 : Int))).heap[w.heap.size]? = _ := (Below.heap_setCell wr ⟨w.heap.size + 1, 3, none⟩ (.int .u32 (X11 : Int)) w.heap.size (by simp)).trans Q1.out
      have hoo := ownTurn (g := w.heap.size + 1) (i := 3) (u := .int .u32 (X11 : Int)) HO.out (own_ne HO.out Q2.out (by decide))
      have hbb := HB.out.setCell (p := ⟨w.heap.size + 1, 3, none⟩) (show w.heap.size ≤ w.heap.size + 1 by omega) (.int .u32 (X11 : Int))
      have P1 := Lib.hid hq1
      have P2 := Lib.hid hq2
      have PO := Lib.hid hoo
      have PB := Lib.hid hbb
      clear hq1 hq2 hoo hbb
      clear hkm hE
      obtain ⟨A1, c1, rfl, hE1, hfar1⟩ := entsOut PO.out HLEN.out
      have HE1 := Lib.hid hE1
      clear hE1
      have HPK := Lib.hid (refPack_any (says b) HSM.out (wr.setCell ⟨w.heap.size + 1, 3, none⟩ (.int .u32 (X11 : Int))).heap.size A1 c1 (wr.setCell ⟨w.heap.size + 1, 3, none⟩ (.int .u32 (X11 : Int))) (Nat.le_refl _) HE1.out (by rw [HLEN.out]; omega))
      rw [HRV.out] at HPK
      have e0 : (wr.setCell ⟨w.heap.size + 1, 3, none⟩ (.int .u32 (X11 : Int))).cell? ⟨w.heap.size + 1, 0, none⟩ = some (.int .i64 2) := (row_cell P2.out 0).trans rfl
      have e1 : (wr.setCell ⟨w.heap.size + 1, 3, none⟩ (.int .u32 (X11 : Int))).cell? ⟨w.heap.size + 1, 1, none⟩ = some (.int .i64 (X5 : Int)) := (row_cell P2.out 1).trans rfl
      have e2 : (wr.setCell ⟨w.heap.size + 1, 3, none⟩ (.int .u32 (X11 : Int))).cell? ⟨w.heap.size + 1, 2, none⟩ = some (.slice A1 k c1) := (row_cell P2.out 2).trans rfl
      have e3 : (wr.setCell ⟨w.heap.size + 1, 3, none⟩ (.int .u32 (X11 : Int))).cell? ⟨w.heap.size + 1, 3, none⟩ = some (.int .u32 (X11 : Int)) := (row_cell P2.out 3).trans rfl
      have e4 : (wr.setCell ⟨w.heap.size + 1, 3, none⟩ (.int .u32 (X11 : Int))).cell? ⟨w.heap.size + 1, 4, none⟩ = some (.int .i64 0) := (row_cell P2.out 4).trans rfl
      by_cases hL : L ≤ 61
      · have g1 : decide ((k : Int) < (L : Int)) = false := by have := HKM.out; simp; omega
        have g1' : decide (k < L) = false := by have := HKM.out; simp; omega
        clear hL
        go_wp2_with fail
        refine (HNUM.out 11 4 (by decide) _ HB.out).mono ?_
        rintro e w' ⟨rfl, rfl⟩
        rw [H11.out]
        go_wp2_with fail
        generalize (wr.setCell ⟨w.heap.size + 1, 3, none⟩ (.int .u32 (X11 : Int))) = WT at *
        refine HPK.out.mono ?_
        rintro e wp ⟨hyes, hno, hbp⟩
        have hsz := PB.out.size
        have HBP := Lib.hid (below_up PB.out hbp hsz)
        have R1 := Lib.hid (row_below P1.out hbp (row_lt P1.out))
        have R2 := Lib.hid (row_below P2.out hbp (row_lt P2.out))
        have RO := Lib.hid (owns_below PO.out hbp)
        have hsp : w.heap.size ≤ wp.heap.size := HBP.out.size
        have HAP := Lib.hid (HA.out.below_le HBP.out hB)
        clear hbp e0 e1 e2 e3 e4 b0 b2 f2 f3 f4 b1 b3 b4
        have z0 : wp.cell? ⟨w.heap.size, 0, none⟩ = some (.int .i64 0) := (row_cell R1.out 0).trans rfl
        have z1 : wp.cell? ⟨w.heap.size, 1, none⟩ = some (.int .i64 0) := (row_cell R1.out 1).trans rfl
        have z2 : wp.cell? ⟨w.heap.size, 2, none⟩ = some (.slice none 0 0) := (row_cell R1.out 2).trans rfl
        have z3 : wp.cell? ⟨w.heap.size, 3, none⟩ = some (.int .u32 0) := (row_cell R1.out 3).trans rfl
        have z4 : wp.cell? ⟨w.heap.size, 4, none⟩ = some (.int .i64 0) := (row_cell R1.out 4).trans rfl
        have zf : ∀ i, wp.frozen? ⟨w.heap.size, i, none⟩ = false := fun i => row_free R1.out i
        cases hm : recMay (says b) with
        | false =>
          obtain rfl := hno hm
          have HN := Lib.hid (show isRec b = false by unfold isRec; rw [hm]; simp)
          clear hyes hno hm
          go_wp2_with fail
          refine bodyPost_ret (v := .tuple #[nulV, .int .i64 117]) ?_ rfl (RUnp.no HN.out (set5_below (b := w.heap.size) (.int .i64 0) (.int .i64 0) (.slice none 0 0) (.int .u32 0) (.int .i64 0) HBP.out (Nat.le_refl _)))
          simp [results, Tryd.results15, go_sem, nulV, z0, z1, z2, z3, z4]
        | true =>
          obtain ⟨v6, rfl, hO6⟩ := hyes hm
          obtain ⟨A6, c6, e6, hS6, _⟩ := hO6.sl
          have HRL := Lib.hid (recBytes_len (recMay_iff.1 hm).2.1)
          rw [HRL.out] at e6
          subst e6
          have HS6 := Lib.hid hS6
          clear hO6 hS6 hyes hno
          cases hq : (b == recBytes (says b)) with
          | false =>
            have HN := Lib.hid (show isRec b = false by unfold isRec; rw [show (recBytes (says b) == b) = false from by rw [beq_eq_false_iff_ne] at hq ⊢; exact fun e => hq e.symm]; simp)
            have HSS := Lib.hid (Same_any 256 256 b (recBytes (says b)) HL.out HRL.out B wp.heap.size A A6 c c6 wp HAP.out HS6.out (by decide) false hq)
            clear hq hm
            go_wp2_with fail
            refine HSS.out.mono ?_
            rintro e w' ⟨rfl, nd, rfl⟩
            have R1 := Lib.hid (show (wp.drewN nd).heap[w.heap.size]? = _ from R1.out)
            have R2 := Lib.hid (show (wp.drewN nd).heap[w.heap.size + 1]? = _ from R2.out)
            have RO := Lib.hid (owns_below RO.out (below_drewN (Below.refl _ _) nd))
            have HBP := Lib.hid (below_drewN HBP.out nd)
            clear z0 z1 z2 z3 z4 zf hsp HSS HAP HS6
            generalize wp.drewN nd = wq at *
            have z0 : wq.cell? ⟨w.heap.size, 0, none⟩ = some (.int .i64 0) := (row_cell R1.out 0).trans rfl
            have z1 : wq.cell? ⟨w.heap.size, 1, none⟩ = some (.int .i64 0) := (row_cell R1.out 1).trans rfl
            have z2 : wq.cell? ⟨w.heap.size, 2, none⟩ = some (.slice none 0 0) := (row_cell R1.out 2).trans rfl
            have z3 : wq.cell? ⟨w.heap.size, 3, none⟩ = some (.int .u32 0) := (row_cell R1.out 3).trans rfl
            have z4 : wq.cell? ⟨w.heap.size, 4, none⟩ = some (.int .i64 0) := (row_cell R1.out 4).trans rfl
            have zf : ∀ i, wq.frozen? ⟨w.heap.size, i, none⟩ = false := fun i => row_free R1.out i
            go_wp2_with fail
            refine bodyPost_ret (v := .tuple #[nulV, .int .i64 117]) ?_ rfl (RUnp.no HN.out (set5_below (b := w.heap.size) (.int .i64 0) (.int .i64 0) (.slice none 0 0) (.int .u32 0) (.int .i64 0) HBP.out (Nat.le_refl _)))
            simp [results, Tryd.results15, go_sem, nulV, z0, z1, z2, z3, z4]
          | true =>
            have HN := Lib.hid (show isRec b = true by unfold isRec; rw [hm, show (recBytes (says b) == b) = true from by rw [beq_iff_eq] at hq ⊢; exact hq.symm, HL.out]; rfl)
            have HSS := Lib.hid (Same_any 256 256 b (recBytes (says b)) HL.out HRL.out B wp.heap.size A A6 c c6 wp HAP.out HS6.out (by decide) true hq)
            clear hq hm
            go_wp2_with fail
            refine HSS.out.mono ?_
            rintro e w' ⟨rfl, nd, rfl⟩
            have R1 := Lib.hid (show (wp.drewN nd).heap[w.heap.size]? = _ from R1.out)
            have R2 := Lib.hid (show (wp.drewN nd).heap[w.heap.size + 1]? = _ from R2.out)
            have RO := Lib.hid (owns_below RO.out (below_drewN (Below.refl _ _) nd))
            have HBP := Lib.hid (below_drewN HBP.out nd)
            clear z0 z1 z2 z3 z4 zf hsp HSS HAP HS6
            generalize wp.drewN nd = wq at *
            have z0 : wq.cell? ⟨w.heap.size, 0, none⟩ = some (.int .i64 0) := (row_cell R1.out 0).trans rfl
            have z1 : wq.cell? ⟨w.heap.size, 1, none⟩ = some (.int .i64 0) := (row_cell R1.out 1).trans rfl
            have z2 : wq.cell? ⟨w.heap.size, 2, none⟩ = some (.slice none 0 0) := (row_cell R1.out 2).trans rfl
            have z3 : wq.cell? ⟨w.heap.size, 3, none⟩ = some (.int .u32 0) := (row_cell R1.out 3).trans rfl
            have z4 : wq.cell? ⟨w.heap.size, 4, none⟩ = some (.int .i64 0) := (row_cell R1.out 4).trans rfl
            have zf : ∀ i, wq.frozen? ⟨w.heap.size, i, none⟩ = false := fun i => row_free R1.out i
            have y0 : wq.cell? ⟨w.heap.size + 1, 0, none⟩ = some (.int .i64 2) := (row_cell R2.out 0).trans rfl
            have y1 : wq.cell? ⟨w.heap.size + 1, 1, none⟩ = some (.int .i64 (X5 : Int)) := (row_cell R2.out 1).trans rfl
            have y2 : wq.cell? ⟨w.heap.size + 1, 2, none⟩ = some (.slice A1 k c1) := (row_cell R2.out 2).trans rfl
            have y3 : wq.cell? ⟨w.heap.size + 1, 3, none⟩ = some (.int .u32 (X11 : Int)) := (row_cell R2.out 3).trans rfl
            have y4 : wq.cell? ⟨w.heap.size + 1, 4, none⟩ = some (.int .i64 0) := (row_cell R2.out 4).trans rfl
            obtain ⟨A7, c7, e7, hE7, hfar7⟩ := entsOut (RO.out.kept (set5_grown wq w.heap.size (.int .i64 2) (.int .i64 (X5 : Int)) (.slice A1 k c1) (.int .u32 (X11 : Int)) (.int .i64 0)) (.inr (own_ne RO.out R1.out (by decide)))) HLEN.out
            cases e7
            have HE7 := Lib.hid hE7
            have HUR := Lib.hid (unp_yes HN.out)
            clear hE7
            go_wp2_with fail
            refine bodyPost_ret (v := .tuple #[.agg #[.int .i64 2, .int .i64 (X5 : Int), .slice A1 k c1, .int .u32 (X11 : Int), .int .i64 0], .int .i64 0]) ?_ rfl ?_
            · simp [results, Tryd.results15, go_sem, z0, z1, z2, z3, z4]
            · refine ⟨A1, c1, ?_, ?_, hfar7, set5_below (b := w.heap.size) (.int .i64 2) (.int .i64 (X5 : Int)) (.slice A1 k c1) (.int .u32 (X11 : Int)) (.int .i64 0) HBP.out (Nat.le_refl _)⟩
              · rw [HUR.out.1, HUR.out.2.1, HRV.out]
              · rw [HUR.out.1]; exact HE7.out
      · have g1 : decide ((k : Int) < (L : Int)) = true := by have := HKM.out; simp; omega
        have g1' : decide (k < L) = true := by have := HKM.out; simp; omega
        have g2 : decide ((k : Int) < 61) = false := by have := HKM.out; simp; omega
        have g2' : decide (k < 61) = false := by have := HKM.out; simp; omega
        clear hL
        go_wp2_with fail
        refine (HNUM.out 11 4 (by decide) _ HB.out).mono ?_
        rintro e w' ⟨rfl, rfl⟩
        rw [H11.out]
        go_wp2_with fail
        generalize (wr.setCell ⟨w.heap.size + 1, 3, none⟩ (.int .u32 (X11 : Int))) = WT at *
        refine HPK.out.mono ?_
        rintro e wp ⟨hyes, hno, hbp⟩
        have hsz := PB.out.size
        have HBP := Lib.hid (below_up PB.out hbp hsz)
        have R1 := Lib.hid (row_below P1.out hbp (row_lt P1.out))
        have R2 := Lib.hid (row_below P2.out hbp (row_lt P2.out))
        have RO := Lib.hid (owns_below PO.out hbp)
        have hsp : w.heap.size ≤ wp.heap.size := HBP.out.size
        have HAP := Lib.hid (HA.out.below_le HBP.out hB)
        clear hbp e0 e1 e2 e3 e4 b0 b2 f2 f3 f4 b1 b3 b4
        have z0 : wp.cell? ⟨w.heap.size, 0, none⟩ = some (.int .i64 0) := (row_cell R1.out 0).trans rfl
        have z1 : wp.cell? ⟨w.heap.size, 1, none⟩ = some (.int .i64 0) := (row_cell R1.out 1).trans rfl
        have z2 : wp.cell? ⟨w.heap.size, 2, none⟩ = some (.slice none 0 0) := (row_cell R1.out 2).trans rfl
        have z3 : wp.cell? ⟨w.heap.size, 3, none⟩ = some (.int .u32 0) := (row_cell R1.out 3).trans rfl
        have z4 : wp.cell? ⟨w.heap.size, 4, none⟩ = some (.int .i64 0) := (row_cell R1.out 4).trans rfl
        have zf : ∀ i, wp.frozen? ⟨w.heap.size, i, none⟩ = false := fun i => row_free R1.out i
        cases hm : recMay (says b) with
        | false =>
          obtain rfl := hno hm
          have HN := Lib.hid (show isRec b = false by unfold isRec; rw [hm]; simp)
          clear hyes hno hm
          go_wp2_with fail
          refine bodyPost_ret (v := .tuple #[nulV, .int .i64 117]) ?_ rfl (RUnp.no HN.out (set5_below (b := w.heap.size) (.int .i64 0) (.int .i64 0) (.slice none 0 0) (.int .u32 0) (.int .i64 0) HBP.out (Nat.le_refl _)))
          simp [results, Tryd.results15, go_sem, nulV, z0, z1, z2, z3, z4]
        | true =>
          obtain ⟨v6, rfl, hO6⟩ := hyes hm
          obtain ⟨A6, c6, e6, hS6, _⟩ := hO6.sl
          have HRL := Lib.hid (recBytes_len (recMay_iff.1 hm).2.1)
          rw [HRL.out] at e6
          subst e6
          have HS6 := Lib.hid hS6
          clear hO6 hS6 hyes hno
          cases hq : (b == recBytes (says b)) with
          | false =>
            have HN := Lib.hid (show isRec b = false by unfold isRec; rw [show (recBytes (says b) == b) = false from by rw [beq_eq_false_iff_ne] at hq ⊢; exact fun e => hq e.symm]; simp)
            have HSS := Lib.hid (Same_any 256 256 b (recBytes (says b)) HL.out HRL.out B wp.heap.size A A6 c c6 wp HAP.out HS6.out (by decide) false hq)
            clear hq hm
            go_wp2_with fail
            refine HSS.out.mono ?_
            rintro e w' ⟨rfl, nd, rfl⟩
            have R1 := Lib.hid (show (wp.drewN nd).heap[w.heap.size]? = _ from R1.out)
            have R2 := Lib.hid (show (wp.drewN nd).heap[w.heap.size + 1]? = _ from R2.out)
            have RO := Lib.hid (owns_below RO.out (below_drewN (Below.refl _ _) nd))
            have HBP := Lib.hid (below_drewN HBP.out nd)
            clear z0 z1 z2 z3 z4 zf hsp HSS HAP HS6
            generalize wp.drewN nd = wq at *
            have z0 : wq.cell? ⟨w.heap.size, 0, none⟩ = some (.int .i64 0) := (row_cell R1.out 0).trans rfl
            have z1 : wq.cell? ⟨w.heap.size, 1, none⟩ = some (.int .i64 0) := (row_cell R1.out 1).trans rfl
            have z2 : wq.cell? ⟨w.heap.size, 2, none⟩ = some (.slice none 0 0) := (row_cell R1.out 2).trans rfl
            have z3 : wq.cell? ⟨w.heap.size, 3, none⟩ = some (.int .u32 0) := (row_cell R1.out 3).trans rfl
            have z4 : wq.cell? ⟨w.heap.size, 4, none⟩ = some (.int .i64 0) := (row_cell R1.out 4).trans rfl
            have zf : ∀ i, wq.frozen? ⟨w.heap.size, i, none⟩ = false := fun i => row_free R1.out i
            go_wp2_with fail
            refine bodyPost_ret (v := .tuple #[nulV, .int .i64 117]) ?_ rfl (RUnp.no HN.out (set5_below (b := w.heap.size) (.int .i64 0) (.int .i64 0) (.slice none 0 0) (.int .u32 0) (.int .i64 0) HBP.out (Nat.le_refl _)))
            simp [results, Tryd.results15, go_sem, nulV, z0, z1, z2, z3, z4]
          | true =>
            have HN := Lib.hid (show isRec b = true by unfold isRec; rw [hm, show (recBytes (says b) == b) = true from by rw [beq_iff_eq] at hq ⊢; exact hq.symm, HL.out]; rfl)
            have HSS := Lib.hid (Same_any 256 256 b (recBytes (says b)) HL.out HRL.out B wp.heap.size A A6 c c6 wp HAP.out HS6.out (by decide) true hq)
            clear hq hm
            go_wp2_with fail
            refine HSS.out.mono ?_
            rintro e w' ⟨rfl, nd, rfl⟩
            have R1 := Lib.hid (show (wp.drewN nd).heap[w.heap.size]? = _ from R1.out)
            have R2 := Lib.hid (show (wp.drewN nd).heap[w.heap.size + 1]? = _ from R2.out)
            have RO := Lib.hid (owns_below RO.out (below_drewN (Below.refl _ _) nd))
            have HBP := Lib.hid (below_drewN HBP.out nd)
            clear z0 z1 z2 z3 z4 zf hsp HSS HAP HS6
            generalize wp.drewN nd = wq at *
            have z0 : wq.cell? ⟨w.heap.size, 0, none⟩ = some (.int .i64 0) := (row_cell R1.out 0).trans rfl
            have z1 : wq.cell? ⟨w.heap.size, 1, none⟩ = some (.int .i64 0) := (row_cell R1.out 1).trans rfl
            have z2 : wq.cell? ⟨w.heap.size, 2, none⟩ = some (.slice none 0 0) := (row_cell R1.out 2).trans rfl
            have z3 : wq.cell? ⟨w.heap.size, 3, none⟩ = some (.int .u32 0) := (row_cell R1.out 3).trans rfl
            have z4 : wq.cell? ⟨w.heap.size, 4, none⟩ = some (.int .i64 0) := (row_cell R1.out 4).trans rfl
            have zf : ∀ i, wq.frozen? ⟨w.heap.size, i, none⟩ = false := fun i => row_free R1.out i
            have y0 : wq.cell? ⟨w.heap.size + 1, 0, none⟩ = some (.int .i64 2) := (row_cell R2.out 0).trans rfl
            have y1 : wq.cell? ⟨w.heap.size + 1, 1, none⟩ = some (.int .i64 (X5 : Int)) := (row_cell R2.out 1).trans rfl
            have y2 : wq.cell? ⟨w.heap.size + 1, 2, none⟩ = some (.slice A1 k c1) := (row_cell R2.out 2).trans rfl
            have y3 : wq.cell? ⟨w.heap.size + 1, 3, none⟩ = some (.int .u32 (X11 : Int)) := (row_cell R2.out 3).trans rfl
            have y4 : wq.cell? ⟨w.heap.size + 1, 4, none⟩ = some (.int .i64 0) := (row_cell R2.out 4).trans rfl
            obtain ⟨A7, c7, e7, hE7, hfar7⟩ := entsOut (RO.out.kept (set5_grown wq w.heap.size (.int .i64 2) (.int .i64 (X5 : Int)) (.slice A1 k c1) (.int .u32 (X11 : Int)) (.int .i64 0)) (.inr (own_ne RO.out R1.out (by decide)))) HLEN.out
            cases e7
            have HE7 := Lib.hid hE7
            have HUR := Lib.hid (unp_yes HN.out)
            clear hE7
            go_wp2_with fail
            refine bodyPost_ret (v := .tuple #[.agg #[.int .i64 2, .int .i64 (X5 : Int), .slice A1 k c1, .int .u32 (X11 : Int), .int .i64 0], .int .i64 0]) ?_ rfl ?_
            · simp [results, Tryd.results15, go_sem, z0, z1, z2, z3, z4]
            · refine ⟨A1, c1, ?_, ?_, hfar7, set5_below (b := w.heap.size) (.int .i64 2) (.int .i64 (X5 : Int)) (.slice A1 k c1) (.int .u32 (X11 : Int)) (.int .i64 0) HBP.out (Nat.le_refl _)⟩
              · rw [HUR.out.1, HUR.out.2.1, HRV.out]
              · rw [HUR.out.1]; exact HE7.out
set_option maxRecDepth 100000 in
set_option maxHeartbeats 8000000 in
theorem refUnpack_4 (b : List UInt8) (hb : b.length = 256) (hk : saysK b = 4) (B : Nat) (A : Option Addr) (c : Nat) (w : World) (hB : B ≤ w.heap.size) (hA : Sl w B A (b.map u8v)) :
    Calls Tryd.prog 15 #[.slice A 256 c] w (RUnp b w) := by
  have HL := Lib.hid hb
  have HA := Lib.hid hA
  have HK := Lib.hid hk
  have HSM := Lib.hid (says_sum b)
  have hX5 : getX b 5 4 < 4294967296 := getX_small b 5 4
  have hX9 : getX b 9 2 < 65536 := getX_small b 9 2
  have hX11 : getX b 11 4 < 4294967296 := getX_small b 11 4
  have HNUM := Lib.hid (fun (p q : Int) (hq : q ≤ 4) W (hW : Below w.heap.size w W) => number_any b hb B A c p q hq W (hA.below_le hW hB))
  obtain ⟨X5, h5⟩ : ∃ x, getX b 5 4 = x := ⟨_, rfl⟩
  obtain ⟨L, h9⟩ : ∃ x, getX b 9 2 = x := ⟨_, rfl⟩
  obtain ⟨X11, h11⟩ : ∃ x, getX b 11 4 = x := ⟨_, rfl⟩
  rw [h5] at hX5
  rw [h9] at hX9
  rw [h11] at hX11
  have H5 := Lib.hid h5
  have H9 := Lib.hid h9
  have H11 := Lib.hid h11
  have H4 : Hid (((getX b 4 1 : Nat) : Int) = 4) := Lib.hid hk
  have HSK := HK
  have HU0 : Hid (UU b w (.int .u32 0) (.int .i64 0) 0 ((w.alloc (.cells #[.int .i64 0, .int .i64 0, .slice none 0 0, .int .u32 0, .int .i64 0] 25)).alloc (.cells #[.int .i64 4, .int .i64 (X5 : Int), .slice none 0 0, .int .u32 0, .int .i64 0] 25))) := Lib.hid (by
    have n0 := row_new w (.cells #[.int .i64 0, .int .i64 0, .slice none 0 0, .int .u32 0, .int .i64 0] 25)
    have n1 := row_new (w.alloc (.cells #[.int .i64 0, .int .i64 0, .slice none 0 0, .int .u32 0, .int .i64 0] 25)) (.cells #[.int .i64 4, .int .i64 (X5 : Int), .slice none 0 0, .int .u32 0, .int .i64 0] 25)
    rw [World.size_alloc] at n1
    refine ⟨⟨.slice none 0 0, ?_, World.ownsRow_nil _ _ _ _⟩, row_alloc n0 _, (below_box _).alloc (by simp) _⟩
    rw [HSK.out, H5.out]
    exact n1)
  obtain ⟨i0, hi0, hz0, hz1, hz2⟩ := info_parts info_theirs
  clear hA hb hk h5 h9 h11
  go_enter Tryd.func15, Tryd.ntmps15
  go_wp2_with fail
  refine (HNUM.out 4 1 (by decide) _ (below_box _)).mono ?_
  rintro e w' ⟨rfl, rfl⟩
  rw [H4.out]
  go_wp2_with fail
  refine (HNUM.out 5 4 (by decide) _ (below_box _)).mono ?_
  rintro e w' ⟨rfl, rfl⟩
  rw [H5.out]
  go_wp2_with fail
  refine (HNUM.out 9 2 (by decide) _ (HU0.out.below)).mono ?_
  rintro e w' ⟨rfl, rfl⟩
  rw [H9.out]
  go_wp2_with fail
  go_loopw [6, 7] (fun p i wr => ∃ k : Nat, k ≤ min L 61 ∧ i = .int .i64 k ∧ p = .int .i64 ((11 + 4 * k : Nat) : Int) ∧ UU b w (.int .u32 0) (.int .i64 0) k wr) (fun _ i _ => min L 61 - (intOf i).toNat)
  case atStart => exact ⟨0, Nat.zero_le _, rfl, rfl, HU0.out⟩
  case round =>
    obtain ⟨k, hk, rfl, rfl, ⟨⟨v, hv, ho⟩, hr, hb⟩⟩ := hrel
    rw [HSK.out, H5.out] at hv
    have sB := hb.size
    have Q1 := Lib.hid hr
    have Q2 := Lib.hid hv
    have HO := Lib.hid ho
    have HB := Lib.hid hb
    have b0 : wr.cell? ⟨w.heap.size + 1, 0, none⟩ = some (.int .i64 4) := (row_cell hv 0).trans rfl
    have b2 : wr.cell? ⟨w.heap.size + 1, 2, none⟩ = some v := (row_cell hv 2).trans rfl
    have f2 : wr.frozen? ⟨w.heap.size + 1, 2, none⟩ = false := row_free hv 2
    have hlR := row_lt hv
    clear hr hv ho hb HU0
    by_cases hlt : k < min L 61
    · have g1 : decide ((k : Int) < (L : Int)) = true := by simp; omega
      have g1' : decide (k < L) = true := by simp; omega
      have g2 : decide ((k : Int) < 61) = true := by simp; omega
      have g2' : decide (k < 61) = true := by simp; omega
      have s4 : IntKind.i64.wrap (((11 + 4 * k : Nat) : Int) + 4) = ((11 + 4 * k + 4 : Nat) : Int) := by rw [IntWalk.i64_in _ (by omega)]; simp
      obtain ⟨Y, hY⟩ : ∃ y, getX b ((11 + 4 * k : Nat) : Int) 4 = y := ⟨_, rfl⟩
      have HY := Lib.hid hY
      have HE : Hid (saysEnt b (saysK b) k = ⟨(Y : Int), false⟩) := Lib.hid (by rw [HSK.out]; unfold saysEnt; rw [if_neg (by decide), hY])
      clear hY
      go_wp2_with fail
      refine (HNUM.out ((11 + 4 * k : Nat) : Int) 4 (by decide) _ HB.out).mono ?_
      rintro e w' ⟨rfl, rfl⟩
      rw [HY.out]
      have hO2 := (HO.out.alloc (.cells #[.int .i64 (Y : Int), .bool false] 69)).alloc (.cells #[.int .i64 (Y : Int), .bool false] 69)
      have hbx : ((wr.alloc (.cells #[.int .i64 (Y : Int), .bool false] 69)).alloc (.cells #[.int .i64 (Y : Int), .bool false] 69)).heap[w.heap.size + 1]? = _ := row_alloc (row_alloc Q2.out _) _
      have hbr : ((wr.alloc (.cells #[.int .i64 (Y : Int), .bool false] 69)).alloc (.cells #[.int .i64 (Y : Int), .bool false] 69)).heap[w.heap.size]? = _ := row_alloc (row_alloc Q1.out _) _
      have HO2 := Lib.hid hO2
      have HBX := Lib.hid hbx
      have HBR := Lib.hid hbr
      have HB2 := Lib.hid ((HB.out.alloc sB (.cells #[.int .i64 (Y : Int), .bool false] 69)).alloc (by simp; omega) (.cells #[.int .i64 (Y : Int), .bool false] 69))
      have hsz2 : (wr.alloc (.cells #[.int .i64 (Y : Int), .bool false] 69)).heap.size = wr.heap.size + 1 := by simp
      clear hO2 hbx hbr
      go_wp2_with (at_builtin; go_loud (refine wpList_append_lies _ rfl _ _ 22 rfl w.heap.size 69 i0 _ 2 16 under_theirs hi0 hz0 hz1 hz2 rfl (by decide) v k (ecells ((List.range k).map (saysEnt b (saysK b)))) rfl HO2.out ⟨wr.heap.size + 1, 0, none⟩ 1 1 (ecell ⟨(Y : Int), false⟩) rfl rfl (World.news_of_block (cs := #[.int .i64 (Y : Int), .bool false]) (t := 69) (fr := (0, 0)) (by rw [← hsz2]; exact row_new (wr.alloc (.cells #[.int .i64 (Y : Int), .bool false] 69)) _)) (by simp [ecell, Value.oneCell']) (by omega) (by unfold maxLen; omega) (by omega) (by simp; omega) _ rfl ?_); intro gg cap w2 h1 h2 hat hlt2
                   have hnb := own_ne HO2.out HBX.out (by decide)
                   have HNX := Lib.hid (UU.next (sum := .int .u32 0) (start := .int .i64 0) HE.out HBR.out (by rw [HSK.out, H5.out]; exact HBX.out) HO2.out HB2.out h1 h2)
                   have j0 : w2.cell? ⟨w.heap.size + 1, 2, none⟩ = some v := (World.cell?_of_block (h2.block (w.heap.size + 1) (row_lt HBX.out) (Ne.symm hnb))).trans ((row_cell HBX.out 2).trans rfl)
                   have j1 : w2.frozen? ⟨w.heap.size + 1, 2, none⟩ = false := (World.frozen?_of_block (h2.block (w.heap.size + 1) (row_lt HBX.out) (Ne.symm hnb))).trans (row_free HBX.out 2)
                   clear h1 h2 hnb hat)
      go_roundw
      case rel => exact ⟨k + 1, by omega, by go_num, by go_num, HNX.out⟩
      case measure => simp [intOf]; omega
    · have hkm : k = min L 61 := by omega
      have hE : (says b).ents = (List.range k).map (saysEnt b (saysK b)) := by rw [hkm, ← H9.out]; rfl
      rw [← hE] at HO
      have HLEN : Hid ((says b).ents.length = k) := Lib.hid (by rw [hE]; simp)
      have HRV : Hid (∀ A' c', recV (says b) A' c' = .agg #[.int .i64 4, .int .i64 (X5 : Int), .slice A' k c', .int .u32 0, .int .i64 (X11 : Int)]) := Lib.hid (fun A' c' => by
        unfold recV
        rw [HLEN.out]
        have e0 : (says b).kind = 4 := HSK.out
        have e1 : (says b).seq = (X5 : Int) := by rw [← H5.out]; rfl
        have e2 : (says b).sum = 0 := by unfold says; simp only; rw [HSK.out]; rw [if_neg (by decide)]
        have e3 : (says b).start = (X11 : Int) := by unfold says; simp only; rw [HSK.out]; rw [if_pos rfl, H11.out]
        rw [e0, e1, e2, e3]; rfl)
      have hk61 : k ≤ 61 := by omega
      have HKM := Lib.hid hkm
      have f3 : wr.frozen? ⟨w.heap.size + 1, 3, none⟩ = false := row_free Q2.out 3
      have f4 : wr.frozen? ⟨w.heap.size + 1, 4, none⟩ = false := row_free Q2.out 4
      have b1 : wr.cell? ⟨w.heap.size + 1, 1, none⟩ = some (.int .i64 (X5 : Int)) := (row_cell Q2.out 1).trans rfl
      have b3 : wr.cell? ⟨w.heap.size + 1, 3, none⟩ = some (.int .u32 0) := (row_cell Q2.out 3).trans rfl
      have b4 : wr.cell? ⟨w.heap.size + 1, 4, none⟩ = some (.int .i64 0) := (row_cell Q2.out 4).trans rfl
      have hq2 : (wr.setCell ⟨w.heap.size + 1, 4, none⟩ (.int .i64 (X11 : Int))).heap[w.heap.size + 1]? = some (.cells #[.int .i64 4, .int .i64 (X5 : Int), v, .int .u32 0, .int .i64 (X11 : Int)] 25 (0, 0)) := row_set Q2.out 4 (.int .i64 (X11 : Int))
      have hq1 : (wr.setCell ⟨w.heap.size + 1, 4, none⟩ (.int .i64 (X11 : Int))).heap[w.heap.size]? = _ := (Below.heap_setCell wr ⟨w.heap.size + 1, 4, none⟩ (.int .i64 (X11 : Int)) w.heap.size (by simp)).trans Q1.out
      have hoo := ownTurn (g := w.heap.size + 1) (i := 4) (u := .int .i64 (X11 : Int)) HO.out (own_ne HO.out Q2.out (by decide))
      have hbb := HB.out.setCell (p := ⟨w.heap.size + 1, 4, none⟩) (show w.heap.size ≤ w.heap.size + 1 by omega) (.int .i64 (X11 : Int))
      have P1 := Lib.hid hq1
      have P2 := Lib.hid hq2
      have PO := Lib.hid hoo
      have PB := Lib.hid hbb
      clear hq1 hq2 hoo hbb
      clear hkm hE
      obtain ⟨A1, c1, rfl, hE1, hfar1⟩ := entsOut PO.out HLEN.out
      have HE1 := Lib.hid hE1
      clear hE1
      have HPK := Lib.hid (refPack_any (says b) HSM.out (wr.setCell ⟨w.heap.size + 1, 4, none⟩ (.int .i64 (X11 : Int))).heap.size A1 c1 (wr.setCell ⟨w.heap.size + 1, 4, none⟩ (.int .i64 (X11 : Int))) (Nat.le_refl _) HE1.out (by rw [HLEN.out]; omega))
      rw [HRV.out] at HPK
      have e0 : (wr.setCell ⟨w.heap.size + 1, 4, none⟩ (.int .i64 (X11 : Int))).cell? ⟨w.heap.size + 1, 0, none⟩ = some (.int .i64 4) := (row_cell P2.out 0).trans rfl
      have e1 : (wr.setCell ⟨w.heap.size + 1, 4, none⟩ (.int .i64 (X11 : Int))).cell? ⟨w.heap.size + 1, 1, none⟩ = some (.int .i64 (X5 : Int)) := (row_cell P2.out 1).trans rfl
      have e2 : (wr.setCell ⟨w.heap.size + 1, 4, none⟩ (.int .i64 (X11 : Int))).cell? ⟨w.heap.size + 1, 2, none⟩ = some (.slice A1 k c1) := (row_cell P2.out 2).trans rfl
      have e3 : (wr.setCell ⟨w.heap.size + 1, 4, none⟩ (.int .i64 (X11 : Int))).cell? ⟨w.heap.size + 1, 3, none⟩ = some (.int .u32 0) := (row_cell P2.out 3).trans rfl
      have e4 : (wr.setCell ⟨w.heap.size + 1, 4, none⟩ (.int .i64 (X11 : Int))).cell? ⟨w.heap.size + 1, 4, none⟩ = some (.int .i64 (X11 : Int)) := (row_cell P2.out 4).trans rfl
      by_cases hL : L ≤ 61
      · have g1 : decide ((k : Int) < (L : Int)) = false := by have := HKM.out; simp; omega
        have g1' : decide (k < L) = false := by have := HKM.out; simp; omega
        clear hL
        go_wp2_with fail
        refine (HNUM.out 11 4 (by decide) _ HB.out).mono ?_
        rintro e w' ⟨rfl, rfl⟩
        rw [H11.out]
        go_wp2_with fail
        generalize (wr.setCell ⟨w.heap.size + 1, 4, none⟩ (.int .i64 (X11 : Int))) = WT at *
        refine HPK.out.mono ?_
        rintro e wp ⟨hyes, hno, hbp⟩
        have hsz := PB.out.size
        have HBP := Lib.hid (below_up PB.out hbp hsz)
        have R1 := Lib.hid (row_below P1.out hbp (row_lt P1.out))
        have R2 := Lib.hid (row_below P2.out hbp (row_lt P2.out))
        have RO := Lib.hid (owns_below PO.out hbp)
        have hsp : w.heap.size ≤ wp.heap.size := HBP.out.size
        have HAP := Lib.hid (HA.out.below_le HBP.out hB)
        clear hbp e0 e1 e2 e3 e4 b0 b2 f2 f3 f4 b1 b3 b4
        have z0 : wp.cell? ⟨w.heap.size, 0, none⟩ = some (.int .i64 0) := (row_cell R1.out 0).trans rfl
        have z1 : wp.cell? ⟨w.heap.size, 1, none⟩ = some (.int .i64 0) := (row_cell R1.out 1).trans rfl
        have z2 : wp.cell? ⟨w.heap.size, 2, none⟩ = some (.slice none 0 0) := (row_cell R1.out 2).trans rfl
        have z3 : wp.cell? ⟨w.heap.size, 3, none⟩ = some (.int .u32 0) := (row_cell R1.out 3).trans rfl
        have z4 : wp.cell? ⟨w.heap.size, 4, none⟩ = some (.int .i64 0) := (row_cell R1.out 4).trans rfl
        have zf : ∀ i, wp.frozen? ⟨w.heap.size, i, none⟩ = false := fun i => row_free R1.out i
        cases hm : recMay (says b) with
        | false =>
          obtain rfl := hno hm
          have HN := Lib.hid (show isRec b = false by unfold isRec; rw [hm]; simp)
          clear hyes hno hm
          go_wp2_with fail
          refine bodyPost_ret (v := .tuple #[nulV, .int .i64 117]) ?_ rfl (RUnp.no HN.out (set5_below (b := w.heap.size) (.int .i64 0) (.int .i64 0) (.slice none 0 0) (.int .u32 0) (.int .i64 0) HBP.out (Nat.le_refl _)))
          simp [results, Tryd.results15, go_sem, nulV, z0, z1, z2, z3, z4]
        | true =>
          obtain ⟨v6, rfl, hO6⟩ := hyes hm
          obtain ⟨A6, c6, e6, hS6, _⟩ := hO6.sl
          have HRL := Lib.hid (recBytes_len (recMay_iff.1 hm).2.1)
          rw [HRL.out] at e6
          subst e6
          have HS6 := Lib.hid hS6
          clear hO6 hS6 hyes hno
          cases hq : (b == recBytes (says b)) with
          | false =>
            have HN := Lib.hid (show isRec b = false by unfold isRec; rw [show (recBytes (says b) == b) = false from by rw [beq_eq_false_iff_ne] at hq ⊢; exact fun e => hq e.symm]; simp)
            have HSS := Lib.hid (Same_any 256 256 b (recBytes (says b)) HL.out HRL.out B wp.heap.size A A6 c c6 wp HAP.out HS6.out (by decide) false hq)
            clear hq hm
            go_wp2_with fail
            refine HSS.out.mono ?_
            rintro e w' ⟨rfl, nd, rfl⟩
            have R1 := Lib.hid (show (wp.drewN nd).heap[w.heap.size]? = _ from R1.out)
            have R2 := Lib.hid (show (wp.drewN nd).heap[w.heap.size + 1]? = _ from R2.out)
            have RO := Lib.hid (owns_below RO.out (below_drewN (Below.refl _ _) nd))
            have HBP := Lib.hid (below_drewN HBP.out nd)
            clear z0 z1 z2 z3 z4 zf hsp HSS HAP HS6
            generalize wp.drewN nd = wq at *
            have z0 : wq.cell? ⟨w.heap.size, 0, none⟩ = some (.int .i64 0) := (row_cell R1.out 0).trans rfl
            have z1 : wq.cell? ⟨w.heap.size, 1, none⟩ = some (.int .i64 0) := (row_cell R1.out 1).trans rfl
            have z2 : wq.cell? ⟨w.heap.size, 2, none⟩ = some (.slice none 0 0) := (row_cell R1.out 2).trans rfl
            have z3 : wq.cell? ⟨w.heap.size, 3, none⟩ = some (.int .u32 0) := (row_cell R1.out 3).trans rfl
            have z4 : wq.cell? ⟨w.heap.size, 4, none⟩ = some (.int .i64 0) := (row_cell R1.out 4).trans rfl
            have zf : ∀ i, wq.frozen? ⟨w.heap.size, i, none⟩ = false := fun i => row_free R1.out i
            go_wp2_with fail
            refine bodyPost_ret (v := .tuple #[nulV, .int .i64 117]) ?_ rfl (RUnp.no HN.out (set5_below (b := w.heap.size) (.int .i64 0) (.int .i64 0) (.slice none 0 0) (.int .u32 0) (.int .i64 0) HBP.out (Nat.le_refl _)))
            simp [results, Tryd.results15, go_sem, nulV, z0, z1, z2, z3, z4]
          | true =>
            have HN := Lib.hid (show isRec b = true by unfold isRec; rw [hm, show (recBytes (says b) == b) = true from by rw [beq_iff_eq] at hq ⊢; exact hq.symm, HL.out]; rfl)
            have HSS := Lib.hid (Same_any 256 256 b (recBytes (says b)) HL.out HRL.out B wp.heap.size A A6 c c6 wp HAP.out HS6.out (by decide) true hq)
            clear hq hm
            go_wp2_with fail
            refine HSS.out.mono ?_
            rintro e w' ⟨rfl, nd, rfl⟩
            have R1 := Lib.hid (show (wp.drewN nd).heap[w.heap.size]? = _ from R1.out)
            have R2 := Lib.hid (show (wp.drewN nd).heap[w.heap.size + 1]? = _ from R2.out)
            have RO := Lib.hid (owns_below RO.out (below_drewN (Below.refl _ _) nd))
            have HBP := Lib.hid (below_drewN HBP.out nd)
            clear z0 z1 z2 z3 z4 zf hsp HSS HAP HS6
            generalize wp.drewN nd = wq at *
            have z0 : wq.cell? ⟨w.heap.size, 0, none⟩ = some (.int .i64 0) := (row_cell R1.out 0).trans rfl
            have z1 : wq.cell? ⟨w.heap.size, 1, none⟩ = some (.int .i64 0) := (row_cell R1.out 1).trans rfl
            have z2 : wq.cell? ⟨w.heap.size, 2, none⟩ = some (.slice none 0 0) := (row_cell R1.out 2).trans rfl
            have z3 : wq.cell? ⟨w.heap.size, 3, none⟩ = some (.int .u32 0) := (row_cell R1.out 3).trans rfl
            have z4 : wq.cell? ⟨w.heap.size, 4, none⟩ = some (.int .i64 0) := (row_cell R1.out 4).trans rfl
            have zf : ∀ i, wq.frozen? ⟨w.heap.size, i, none⟩ = false := fun i => row_free R1.out i
            have y0 : wq.cell? ⟨w.heap.size + 1, 0, none⟩ = some (.int .i64 4) := (row_cell R2.out 0).trans rfl
            have y1 : wq.cell? ⟨w.heap.size + 1, 1, none⟩ = some (.int .i64 (X5 : Int)) := (row_cell R2.out 1).trans rfl
            have y2 : wq.cell? ⟨w.heap.size + 1, 2, none⟩ = some (.slice A1 k c1) := (row_cell R2.out 2).trans rfl
            have y3 : wq.cell? ⟨w.heap.size + 1, 3, none⟩ = some (.int .u32 0) := (row_cell R2.out 3).trans rfl
            have y4 : wq.cell? ⟨w.heap.size + 1, 4, none⟩ = some (.int .i64 (X11 : Int)) := (row_cell R2.out 4).trans rfl
            obtain ⟨A7, c7, e7, hE7, hfar7⟩ := entsOut (RO.out.kept (set5_grown wq w.heap.size (.int .i64 4) (.int .i64 (X5 : Int)) (.slice A1 k c1) (.int .u32 0) (.int .i64 (X11 : Int))) (.inr (own_ne RO.out R1.out (by decide)))) HLEN.out
            cases e7
            have HE7 := Lib.hid hE7
            have HUR := Lib.hid (unp_yes HN.out)
            clear hE7
            go_wp2_with fail
            refine bodyPost_ret (v := .tuple #[.agg #[.int .i64 4, .int .i64 (X5 : Int), .slice A1 k c1, .int .u32 0, .int .i64 (X11 : Int)], .int .i64 0]) ?_ rfl ?_
            · simp [results, Tryd.results15, go_sem, z0, z1, z2, z3, z4]
            · refine ⟨A1, c1, ?_, ?_, hfar7, set5_below (b := w.heap.size) (.int .i64 4) (.int .i64 (X5 : Int)) (.slice A1 k c1) (.int .u32 0) (.int .i64 (X11 : Int)) HBP.out (Nat.le_refl _)⟩
              · rw [HUR.out.1, HUR.out.2.1, HRV.out]
              · rw [HUR.out.1]; exact HE7.out
      · have g1 : decide ((k : Int) < (L : Int)) = true := by have := HKM.out; simp; omega
        have g1' : decide (k < L) = true := by have := HKM.out; simp; omega
        have g2 : decide ((k : Int) < 61) = false := by have := HKM.out; simp; omega
        have g2' : decide (k < 61) = false := by have := HKM.out; simp; omega
        clear hL
        go_wp2_with fail
        refine (HNUM.out 11 4 (by decide) _ HB.out).mono ?_
        rintro e w' ⟨rfl, rfl⟩
        rw [H11.out]
        go_wp2_with fail
        generalize (wr.setCell ⟨w.heap.size + 1, 4, none⟩ (.int .i64 (X11 : Int))) = WT at *
        refine HPK.out.mono ?_
        rintro e wp ⟨hyes, hno, hbp⟩
        have hsz := PB.out.size
        have HBP := Lib.hid (below_up PB.out hbp hsz)
        have R1 := Lib.hid (row_below P1.out hbp (row_lt P1.out))
        have R2 := Lib.hid (row_below P2.out hbp (row_lt P2.out))
        have RO := Lib.hid (owns_below PO.out hbp)
        have hsp : w.heap.size ≤ wp.heap.size := HBP.out.size
        have HAP := Lib.hid (HA.out.below_le HBP.out hB)
        clear hbp e0 e1 e2 e3 e4 b0 b2 f2 f3 f4 b1 b3 b4
        have z0 : wp.cell? ⟨w.heap.size, 0, none⟩ = some (.int .i64 0) := (row_cell R1.out 0).trans rfl
        have z1 : wp.cell? ⟨w.heap.size, 1, none⟩ = some (.int .i64 0) := (row_cell R1.out 1).trans rfl
        have z2 : wp.cell? ⟨w.heap.size, 2, none⟩ = some (.slice none 0 0) := (row_cell R1.out 2).trans rfl
        have z3 : wp.cell? ⟨w.heap.size, 3, none⟩ = some (.int .u32 0) := (row_cell R1.out 3).trans rfl
        have z4 : wp.cell? ⟨w.heap.size, 4, none⟩ = some (.int .i64 0) := (row_cell R1.out 4).trans rfl
        have zf : ∀ i, wp.frozen? ⟨w.heap.size, i, none⟩ = false := fun i => row_free R1.out i
        cases hm : recMay (says b) with
        | false =>
          obtain rfl := hno hm
          have HN := Lib.hid (show isRec b = false by unfold isRec; rw [hm]; simp)
          clear hyes hno hm
          go_wp2_with fail
          refine bodyPost_ret (v := .tuple #[nulV, .int .i64 117]) ?_ rfl (RUnp.no HN.out (set5_below (b := w.heap.size) (.int .i64 0) (.int .i64 0) (.slice none 0 0) (.int .u32 0) (.int .i64 0) HBP.out (Nat.le_refl _)))
          simp [results, Tryd.results15, go_sem, nulV, z0, z1, z2, z3, z4]
        | true =>
          obtain ⟨v6, rfl, hO6⟩ := hyes hm
          obtain ⟨A6, c6, e6, hS6, _⟩ := hO6.sl
          have HRL := Lib.hid (recBytes_len (recMay_iff.1 hm).2.1)
          rw [HRL.out] at e6
          subst e6
          have HS6 := Lib.hid hS6
          clear hO6 hS6 hyes hno
          cases hq : (b == recBytes (says b)) with
          | false =>
            have HN := Lib.hid (show isRec b = false by unfold isRec; rw [show (recBytes (says b) == b) = false from by rw [beq_eq_false_iff_ne] at hq ⊢; exact fun e => hq e.symm]; simp)
            have HSS := Lib.hid (Same_any 256 256 b (recBytes (says b)) HL.out HRL.out B wp.heap.size A A6 c c6 wp HAP.out HS6.out (by decide) false hq)
            clear hq hm
            go_wp2_with fail
            refine HSS.out.mono ?_
            rintro e w' ⟨rfl, nd, rfl⟩
            have R1 := Lib.hid (show (wp.drewN nd).heap[w.heap.size]? = _ from R1.out)
            have R2 := Lib.hid (show (wp.drewN nd).heap[w.heap.size + 1]? = _ from R2.out)
            have RO := Lib.hid (owns_below RO.out (below_drewN (Below.refl _ _) nd))
            have HBP := Lib.hid (below_drewN HBP.out nd)
            clear z0 z1 z2 z3 z4 zf hsp HSS HAP HS6
            generalize wp.drewN nd = wq at *
            have z0 : wq.cell? ⟨w.heap.size, 0, none⟩ = some (.int .i64 0) := (row_cell R1.out 0).trans rfl
            have z1 : wq.cell? ⟨w.heap.size, 1, none⟩ = some (.int .i64 0) := (row_cell R1.out 1).trans rfl
            have z2 : wq.cell? ⟨w.heap.size, 2, none⟩ = some (.slice none 0 0) := (row_cell R1.out 2).trans rfl
            have z3 : wq.cell? ⟨w.heap.size, 3, none⟩ = some (.int .u32 0) := (row_cell R1.out 3).trans rfl
            have z4 : wq.cell? ⟨w.heap.size, 4, none⟩ = some (.int .i64 0) := (row_cell R1.out 4).trans rfl
            have zf : ∀ i, wq.frozen? ⟨w.heap.size, i, none⟩ = false := fun i => row_free R1.out i
            go_wp2_with fail
            refine bodyPost_ret (v := .tuple #[nulV, .int .i64 117]) ?_ rfl (RUnp.no HN.out (set5_below (b := w.heap.size) (.int .i64 0) (.int .i64 0) (.slice none 0 0) (.int .u32 0) (.int .i64 0) HBP.out (Nat.le_refl _)))
            simp [results, Tryd.results15, go_sem, nulV, z0, z1, z2, z3, z4]
          | true =>
            have HN := Lib.hid (show isRec b = true by unfold isRec; rw [hm, show (recBytes (says b) == b) = true from by rw [beq_iff_eq] at hq ⊢; exact hq.symm, HL.out]; rfl)
            have HSS := Lib.hid (Same_any 256 256 b (recBytes (says b)) HL.out HRL.out B wp.heap.size A A6 c c6 wp HAP.out HS6.out (by decide) true hq)
            clear hq hm
            go_wp2_with fail
            refine HSS.out.mono ?_
            rintro e w' ⟨rfl, nd, rfl⟩
            have R1 := Lib.hid (show (wp.drewN nd).heap[w.heap.size]? = _ from R1.out)
            have R2 := Lib.hid (show (wp.drewN nd).heap[w.heap.size + 1]? = _ from R2.out)
            have RO := Lib.hid (owns_below RO.out (below_drewN (Below.refl _ _) nd))
            have HBP := Lib.hid (below_drewN HBP.out nd)
            clear z0 z1 z2 z3 z4 zf hsp HSS HAP HS6
            generalize wp.drewN nd = wq at *
            have z0 : wq.cell? ⟨w.heap.size, 0, none⟩ = some (.int .i64 0) := (row_cell R1.out 0).trans rfl
            have z1 : wq.cell? ⟨w.heap.size, 1, none⟩ = some (.int .i64 0) := (row_cell R1.out 1).trans rfl
            have z2 : wq.cell? ⟨w.heap.size, 2, none⟩ = some (.slice none 0 0) := (row_cell R1.out 2).trans rfl
            have z3 : wq.cell? ⟨w.heap.size, 3, none⟩ = some (.int .u32 0) := (row_cell R1.out 3).trans rfl
            have z4 : wq.cell? ⟨w.heap.size, 4, none⟩ = some (.int .i64 0) := (row_cell R1.out 4).trans rfl
            have zf : ∀ i, wq.frozen? ⟨w.heap.size, i, none⟩ = false := fun i => row_free R1.out i
            have y0 : wq.cell? ⟨w.heap.size + 1, 0, none⟩ = some (.int .i64 4) := (row_cell R2.out 0).trans rfl
            have y1 : wq.cell? ⟨w.heap.size + 1, 1, none⟩ = some (.int .i64 (X5 : Int)) := (row_cell R2.out 1).trans rfl
            have y2 : wq.cell? ⟨w.heap.size + 1, 2, none⟩ = some (.slice A1 k c1) := (row_cell R2.out 2).trans rfl
            have y3 : wq.cell? ⟨w.heap.size + 1, 3, none⟩ = some (.int .u32 0) := (row_cell R2.out 3).trans rfl
            have y4 : wq.cell? ⟨w.heap.size + 1, 4, none⟩ = some (.int .i64 (X11 : Int)) := (row_cell R2.out 4).trans rfl
            obtain ⟨A7, c7, e7, hE7, hfar7⟩ := entsOut (RO.out.kept (set5_grown wq w.heap.size (.int .i64 4) (.int .i64 (X5 : Int)) (.slice A1 k c1) (.int .u32 0) (.int .i64 (X11 : Int))) (.inr (own_ne RO.out R1.out (by decide)))) HLEN.out
            cases e7
            have HE7 := Lib.hid hE7
            have HUR := Lib.hid (unp_yes HN.out)
            clear hE7
            go_wp2_with fail
            refine bodyPost_ret (v := .tuple #[.agg #[.int .i64 4, .int .i64 (X5 : Int), .slice A1 k c1, .int .u32 0, .int .i64 (X11 : Int)], .int .i64 0]) ?_ rfl ?_
            · simp [results, Tryd.results15, go_sem, z0, z1, z2, z3, z4]
            · refine ⟨A1, c1, ?_, ?_, hfar7, set5_below (b := w.heap.size) (.int .i64 4) (.int .i64 (X5 : Int)) (.slice A1 k c1) (.int .u32 0) (.int .i64 (X11 : Int)) HBP.out (Nat.le_refl _)⟩
              · rw [HUR.out.1, HUR.out.2.1, HRV.out]
              · rw [HUR.out.1]; exact HE7.out
set_option maxRecDepth 100000 in
set_option maxHeartbeats 8000000 in
theorem refUnpack_e (b : List UInt8) (hb : b.length = 256) (hk : saysK b ≠ 1 ∧ saysK b ≠ 2 ∧ saysK b ≠ 4) (B : Nat) (A : Option Addr) (c : Nat) (w : World) (hB : B ≤ w.heap.size) (hA : Sl w B A (b.map u8v)) :
    Calls Tryd.prog 15 #[.slice A 256 c] w (RUnp b w) := by
  have HL := Lib.hid hb
  have HA := Lib.hid hA
  have HK := Lib.hid hk
  have HSM := Lib.hid (says_sum b)
  have hX5 : getX b 5 4 < 4294967296 := getX_small b 5 4
  have hX9 : getX b 9 2 < 65536 := getX_small b 9 2
  have hX11 : getX b 11 4 < 4294967296 := getX_small b 11 4
  have HNUM := Lib.hid (fun (p q : Int) (hq : q ≤ 4) W (hW : Below w.heap.size w W) => number_any b hb B A c p q hq W (hA.below_le hW hB))
  obtain ⟨X5, h5⟩ : ∃ x, getX b 5 4 = x := ⟨_, rfl⟩
  obtain ⟨L, h9⟩ : ∃ x, getX b 9 2 = x := ⟨_, rfl⟩
  obtain ⟨X11, h11⟩ : ∃ x, getX b 11 4 = x := ⟨_, rfl⟩
  rw [h5] at hX5
  rw [h9] at hX9
  rw [h11] at hX11
  have H5 := Lib.hid h5
  have H9 := Lib.hid h9
  have H11 := Lib.hid h11
  obtain ⟨K, h4⟩ : ∃ x : Int, ((getX b 4 1 : Nat) : Int) = x := ⟨_, rfl⟩
  have H4 := Lib.hid h4
  have k1 : (K == 1) = false := by rw [← h4]; simpa [saysK] using hk.1
  have k2 : (K == 2) = false := by rw [← h4]; simpa [saysK] using hk.2.1
  have k4 : (K == 4) = false := by rw [← h4]; simpa [saysK] using hk.2.2
  have HSK : Hid (saysK b = K) := Lib.hid h4
  have HU0 : Hid (UU b w (.int .u32 0) (.int .i64 0) 0 ((w.alloc (.cells #[.int .i64 0, .int .i64 0, .slice none 0 0, .int .u32 0, .int .i64 0] 25)).alloc (.cells #[.int .i64 K, .int .i64 (X5 : Int), .slice none 0 0, .int .u32 0, .int .i64 0] 25))) := Lib.hid (by
    have n0 := row_new w (.cells #[.int .i64 0, .int .i64 0, .slice none 0 0, .int .u32 0, .int .i64 0] 25)
    have n1 := row_new (w.alloc (.cells #[.int .i64 0, .int .i64 0, .slice none 0 0, .int .u32 0, .int .i64 0] 25)) (.cells #[.int .i64 K, .int .i64 (X5 : Int), .slice none 0 0, .int .u32 0, .int .i64 0] 25)
    rw [World.size_alloc] at n1
    refine ⟨⟨.slice none 0 0, ?_, World.ownsRow_nil _ _ _ _⟩, row_alloc n0 _, (below_box _).alloc (by simp) _⟩
    rw [HSK.out, H5.out]
    exact n1)
  obtain ⟨i0, hi0, hz0, hz1, hz2⟩ := info_parts info_theirs
  clear hA hb hk h5 h9 h11 h4
  go_enter Tryd.func15, Tryd.ntmps15
  go_wp2_with fail
  refine (HNUM.out 4 1 (by decide) _ (below_box _)).mono ?_
  rintro e w' ⟨rfl, rfl⟩
  rw [H4.out]
  go_wp2_with fail
  refine (HNUM.out 5 4 (by decide) _ (below_box _)).mono ?_
  rintro e w' ⟨rfl, rfl⟩
  rw [H5.out]
  go_wp2_with fail
  refine (HNUM.out 9 2 (by decide) _ (HU0.out.below)).mono ?_
  rintro e w' ⟨rfl, rfl⟩
  rw [H9.out]
  go_wp2_with fail
  go_loopw [6, 7] (fun p i wr => ∃ k : Nat, k ≤ min L 61 ∧ i = .int .i64 k ∧ p = .int .i64 ((11 + 4 * k : Nat) : Int) ∧ UU b w (.int .u32 0) (.int .i64 0) k wr) (fun _ i _ => min L 61 - (intOf i).toNat)
  case atStart => exact ⟨0, Nat.zero_le _, rfl, rfl, HU0.out⟩
  case round =>
    obtain ⟨k, hk, rfl, rfl, ⟨⟨v, hv, ho⟩, hr, hb⟩⟩ := hrel
    rw [HSK.out, H5.out] at hv
    have sB := hb.size
    have Q1 := Lib.hid hr
    have Q2 := Lib.hid hv
    have HO := Lib.hid ho
    have HB := Lib.hid hb
    have b0 : wr.cell? ⟨w.heap.size + 1, 0, none⟩ = some (.int .i64 K) := (row_cell hv 0).trans rfl
    have b2 : wr.cell? ⟨w.heap.size + 1, 2, none⟩ = some v := (row_cell hv 2).trans rfl
    have f2 : wr.frozen? ⟨w.heap.size + 1, 2, none⟩ = false := row_free hv 2
    have hlR := row_lt hv
    clear hr hv ho hb HU0
    by_cases hlt : k < min L 61
    · have g1 : decide ((k : Int) < (L : Int)) = true := by simp; omega
      have g1' : decide (k < L) = true := by simp; omega
      have g2 : decide ((k : Int) < 61) = true := by simp; omega
      have g2' : decide (k < 61) = true := by simp; omega
      have s4 : IntKind.i64.wrap (((11 + 4 * k : Nat) : Int) + 4) = ((11 + 4 * k + 4 : Nat) : Int) := by rw [IntWalk.i64_in _ (by omega)]; simp
      obtain ⟨Y, hY⟩ : ∃ y, getX b ((11 + 4 * k : Nat) : Int) 4 = y := ⟨_, rfl⟩
      have HY := Lib.hid hY
      have HE : Hid (saysEnt b (saysK b) k = ⟨(Y : Int), false⟩) := Lib.hid (by rw [HSK.out]; unfold saysEnt; rw [if_neg (by intro h; rw [h] at k1; cases k1), hY])
      clear hY
      go_wp2_with fail
      refine (HNUM.out ((11 + 4 * k : Nat) : Int) 4 (by decide) _ HB.out).mono ?_
      rintro e w' ⟨rfl, rfl⟩
      rw [HY.out]
      have hO2 := (HO.out.alloc (.cells #[.int .i64 (Y : Int), .bool false] 69)).alloc (.cells #[.int .i64 (Y : Int), .bool false] 69)
      have hbx : ((wr.alloc (.cells #[.int .i64 (Y : Int), .bool false] 69)).alloc (.cells #[.int .i64 (Y : Int), .bool false] 69)).heap[w.heap.size + 1]? = _ := row_alloc (row_alloc Q2.out _) _
      have hbr : ((wr.alloc (.cells #[.int .i64 (Y : Int), .bool false] 69)).alloc (.cells #[.int .i64 (Y : Int), .bool false] 69)).heap[w.heap.size]? = _ := row_alloc (row_alloc Q1.out _) _
      have HO2 := Lib.hid hO2
      have HBX := Lib.hid hbx
      have HBR := Lib.hid hbr
      have HB2 := Lib.hid ((HB.out.alloc sB (.cells #[.int .i64 (Y : Int), .bool false] 69)).alloc (by simp; omega) (.cells #[.int .i64 (Y : Int), .bool false] 69))
      have hsz2 : (wr.alloc (.cells #[.int .i64 (Y : Int), .bool false] 69)).heap.size = wr.heap.size + 1 := by simp
      clear hO2 hbx hbr
      go_wp2_with (at_builtin; go_loud (refine wpList_append_lies _ rfl _ _ 22 rfl w.heap.size 69 i0 _ 2 16 under_theirs hi0 hz0 hz1 hz2 rfl (by decide) v k (ecells ((List.range k).map (saysEnt b (saysK b)))) rfl HO2.out ⟨wr.heap.size + 1, 0, none⟩ 1 1 (ecell ⟨(Y : Int), false⟩) rfl rfl (World.news_of_block (cs := #[.int .i64 (Y : Int), .bool false]) (t := 69) (fr := (0, 0)) (by rw [← hsz2]; exact row_new (wr.alloc (.cells #[.int .i64 (Y : Int), .bool false] 69)) _)) (by simp [ecell, Value.oneCell']) (by omega) (by unfold maxLen; omega) (by omega) (by simp; omega) _ rfl ?_); intro gg cap w2 h1 h2 hat hlt2
                   have hnb := own_ne HO2.out HBX.out (by decide)
                   have HNX := Lib.hid (UU.next (sum := .int .u32 0) (start := .int .i64 0) HE.out HBR.out (by rw [HSK.out, H5.out]; exact HBX.out) HO2.out HB2.out h1 h2)
                   have j0 : w2.cell? ⟨w.heap.size + 1, 2, none⟩ = some v := (World.cell?_of_block (h2.block (w.heap.size + 1) (row_lt HBX.out) (Ne.symm hnb))).trans ((row_cell HBX.out 2).trans rfl)
                   have j1 : w2.frozen? ⟨w.heap.size + 1, 2, none⟩ = false := (World.frozen?_of_block (h2.block (w.heap.size + 1) (row_lt HBX.out) (Ne.symm hnb))).trans (row_free HBX.out 2)
                   clear h1 h2 hnb hat)
      go_roundw
      case rel => exact ⟨k + 1, by omega, by go_num, by go_num, HNX.out⟩
      case measure => simp [intOf]; omega
    · have hkm : k = min L 61 := by omega
      have hE : (says b).ents = (List.range k).map (saysEnt b (saysK b)) := by rw [hkm, ← H9.out]; rfl
      rw [← hE] at HO
      have HLEN : Hid ((says b).ents.length = k) := Lib.hid (by rw [hE]; simp)
      have HRV : Hid (∀ A' c', recV (says b) A' c' = .agg #[.int .i64 K, .int .i64 (X5 : Int), .slice A' k c', .int .u32 0, .int .i64 0]) := Lib.hid (fun A' c' => by
        unfold recV
        rw [HLEN.out]
        have e0 : (says b).kind = K := HSK.out
        have e1 : (says b).seq = (X5 : Int) := by rw [← H5.out]; rfl
        have e2 : (says b).sum = 0 := by unfold says; simp only; rw [HSK.out]; rw [if_neg (by intro h; rw [h] at k2; cases k2)]
        have e3 : (says b).start = 0 := by unfold says; simp only; rw [HSK.out]; rw [if_neg (by intro h; rw [h] at k4; cases k4)]
        rw [e0, e1, e2, e3]; rfl)
      have hk61 : k ≤ 61 := by omega
      have HKM := Lib.hid hkm
      have f3 : wr.frozen? ⟨w.heap.size + 1, 3, none⟩ = false := row_free Q2.out 3
      have f4 : wr.frozen? ⟨w.heap.size + 1, 4, none⟩ = false := row_free Q2.out 4
      have b1 : wr.cell? ⟨w.heap.size + 1, 1, none⟩ = some (.int .i64 (X5 : Int)) := (row_cell Q2.out 1).trans rfl
      have b3 : wr.cell? ⟨w.heap.size + 1, 3, none⟩ = some (.int .u32 0) := (row_cell Q2.out 3).trans rfl
      have b4 : wr.cell? ⟨w.heap.size + 1, 4, none⟩ = some (.int .i64 0) := (row_cell Q2.out 4).trans rfl
      have P1 := Q1
      have P2 := Q2
      have PO := HO
      have PB := HB
      clear hkm hE
      obtain ⟨A1, c1, rfl, hE1, hfar1⟩ := entsOut PO.out HLEN.out
      have HE1 := Lib.hid hE1
      clear hE1
      have HPK := Lib.hid (refPack_any (says b) HSM.out wr.heap.size A1 c1 wr (Nat.le_refl _) HE1.out (by rw [HLEN.out]; omega))
      rw [HRV.out] at HPK
      have e0 : wr.cell? ⟨w.heap.size + 1, 0, none⟩ = some (.int .i64 K) := (row_cell P2.out 0).trans rfl
      have e1 : wr.cell? ⟨w.heap.size + 1, 1, none⟩ = some (.int .i64 (X5 : Int)) := (row_cell P2.out 1).trans rfl
      have e2 : wr.cell? ⟨w.heap.size + 1, 2, none⟩ = some (.slice A1 k c1) := (row_cell P2.out 2).trans rfl
      have e3 : wr.cell? ⟨w.heap.size + 1, 3, none⟩ = some (.int .u32 0) := (row_cell P2.out 3).trans rfl
      have e4 : wr.cell? ⟨w.heap.size + 1, 4, none⟩ = some (.int .i64 0) := (row_cell P2.out 4).trans rfl
      by_cases hL : L ≤ 61
      · have g1 : decide ((k : Int) < (L : Int)) = false := by have := HKM.out; simp; omega
        have g1' : decide (k < L) = false := by have := HKM.out; simp; omega
        clear hL
        go_wp2_with fail
        generalize wr = WT at *
        refine HPK.out.mono ?_
        rintro e wp ⟨hyes, hno, hbp⟩
        have hsz := PB.out.size
        have HBP := Lib.hid (below_up PB.out hbp hsz)
        have R1 := Lib.hid (row_below P1.out hbp (row_lt P1.out))
        have R2 := Lib.hid (row_below P2.out hbp (row_lt P2.out))
        have RO := Lib.hid (owns_below PO.out hbp)
        have hsp : w.heap.size ≤ wp.heap.size := HBP.out.size
        have HAP := Lib.hid (HA.out.below_le HBP.out hB)
        clear hbp e0 e1 e2 e3 e4 b0 b2 f2 f3 f4 b1 b3 b4
        have z0 : wp.cell? ⟨w.heap.size, 0, none⟩ = some (.int .i64 0) := (row_cell R1.out 0).trans rfl
        have z1 : wp.cell? ⟨w.heap.size, 1, none⟩ = some (.int .i64 0) := (row_cell R1.out 1).trans rfl
        have z2 : wp.cell? ⟨w.heap.size, 2, none⟩ = some (.slice none 0 0) := (row_cell R1.out 2).trans rfl
        have z3 : wp.cell? ⟨w.heap.size, 3, none⟩ = some (.int .u32 0) := (row_cell R1.out 3).trans rfl
        have z4 : wp.cell? ⟨w.heap.size, 4, none⟩ = some (.int .i64 0) := (row_cell R1.out 4).trans rfl
        have zf : ∀ i, wp.frozen? ⟨w.heap.size, i, none⟩ = false := fun i => row_free R1.out i
        cases hm : recMay (says b) with
        | false =>
          obtain rfl := hno hm
          have HN := Lib.hid (show isRec b = false by unfold isRec; rw [hm]; simp)
          clear hyes hno hm
          go_wp2_with fail
          refine bodyPost_ret (v := .tuple #[nulV, .int .i64 117]) ?_ rfl (RUnp.no HN.out (set5_below (b := w.heap.size) (.int .i64 0) (.int .i64 0) (.slice none 0 0) (.int .u32 0) (.int .i64 0) HBP.out (Nat.le_refl _)))
          simp [results, Tryd.results15, go_sem, nulV, z0, z1, z2, z3, z4]
        | true =>
          obtain ⟨v6, rfl, hO6⟩ := hyes hm
          obtain ⟨A6, c6, e6, hS6, _⟩ := hO6.sl
          have HRL := Lib.hid (recBytes_len (recMay_iff.1 hm).2.1)
          rw [HRL.out] at e6
          subst e6
          have HS6 := Lib.hid hS6
          clear hO6 hS6 hyes hno
          cases hq : (b == recBytes (says b)) with
          | false =>
            have HN := Lib.hid (show isRec b = false by unfold isRec; rw [show (recBytes (says b) == b) = false from by rw [beq_eq_false_iff_ne] at hq ⊢; exact fun e => hq e.symm]; simp)
            have HSS := Lib.hid (Same_any 256 256 b (recBytes (says b)) HL.out HRL.out B wp.heap.size A A6 c c6 wp HAP.out HS6.out (by decide) false hq)
            clear hq hm
            go_wp2_with fail
            refine HSS.out.mono ?_
            rintro e w' ⟨rfl, nd, rfl⟩
            have R1 := Lib.hid (show (wp.drewN nd).heap[w.heap.size]? = _ from R1.out)
            have R2 := Lib.hid (show (wp.drewN nd).heap[w.heap.size + 1]? = _ from R2.out)
            have RO := Lib.hid (owns_below RO.out (below_drewN (Below.refl _ _) nd))
            have HBP := Lib.hid (below_drewN HBP.out nd)
            clear z0 z1 z2 z3 z4 zf hsp HSS HAP HS6
            generalize wp.drewN nd = wq at *
            have z0 : wq.cell? ⟨w.heap.size, 0, none⟩ = some (.int .i64 0) := (row_cell R1.out 0).trans rfl
            have z1 : wq.cell? ⟨w.heap.size, 1, none⟩ = some (.int .i64 0) := (row_cell R1.out 1).trans rfl
            have z2 : wq.cell? ⟨w.heap.size, 2, none⟩ = some (.slice none 0 0) := (row_cell R1.out 2).trans rfl
            have z3 : wq.cell? ⟨w.heap.size, 3, none⟩ = some (.int .u32 0) := (row_cell R1.out 3).trans rfl
            have z4 : wq.cell? ⟨w.heap.size, 4, none⟩ = some (.int .i64 0) := (row_cell R1.out 4).trans rfl
            have zf : ∀ i, wq.frozen? ⟨w.heap.size, i, none⟩ = false := fun i => row_free R1.out i
            go_wp2_with fail
            refine bodyPost_ret (v := .tuple #[nulV, .int .i64 117]) ?_ rfl (RUnp.no HN.out (set5_below (b := w.heap.size) (.int .i64 0) (.int .i64 0) (.slice none 0 0) (.int .u32 0) (.int .i64 0) HBP.out (Nat.le_refl _)))
            simp [results, Tryd.results15, go_sem, nulV, z0, z1, z2, z3, z4]
          | true =>
            have HN := Lib.hid (show isRec b = true by unfold isRec; rw [hm, show (recBytes (says b) == b) = true from by rw [beq_iff_eq] at hq ⊢; exact hq.symm, HL.out]; rfl)
            have HSS := Lib.hid (Same_any 256 256 b (recBytes (says b)) HL.out HRL.out B wp.heap.size A A6 c c6 wp HAP.out HS6.out (by decide) true hq)
            clear hq hm
            go_wp2_with fail
            refine HSS.out.mono ?_
            rintro e w' ⟨rfl, nd, rfl⟩
            have R1 := Lib.hid (show (wp.drewN nd).heap[w.heap.size]? = _ from R1.out)
            have R2 := Lib.hid (show (wp.drewN nd).heap[w.heap.size + 1]? = _ from R2.out)
            have RO := Lib.hid (owns_below RO.out (below_drewN (Below.refl _ _) nd))
            have HBP := Lib.hid (below_drewN HBP.out nd)
            clear z0 z1 z2 z3 z4 zf hsp HSS HAP HS6
            generalize wp.drewN nd = wq at *
            have z0 : wq.cell? ⟨w.heap.size, 0, none⟩ = some (.int .i64 0) := (row_cell R1.out 0).trans rfl
            have z1 : wq.cell? ⟨w.heap.size, 1, none⟩ = some (.int .i64 0) := (row_cell R1.out 1).trans rfl
            have z2 : wq.cell? ⟨w.heap.size, 2, none⟩ = some (.slice none 0 0) := (row_cell R1.out 2).trans rfl
            have z3 : wq.cell? ⟨w.heap.size, 3, none⟩ = some (.int .u32 0) := (row_cell R1.out 3).trans rfl
            have z4 : wq.cell? ⟨w.heap.size, 4, none⟩ = some (.int .i64 0) := (row_cell R1.out 4).trans rfl
            have zf : ∀ i, wq.frozen? ⟨w.heap.size, i, none⟩ = false := fun i => row_free R1.out i
            have y0 : wq.cell? ⟨w.heap.size + 1, 0, none⟩ = some (.int .i64 K) := (row_cell R2.out 0).trans rfl
            have y1 : wq.cell? ⟨w.heap.size + 1, 1, none⟩ = some (.int .i64 (X5 : Int)) := (row_cell R2.out 1).trans rfl
            have y2 : wq.cell? ⟨w.heap.size + 1, 2, none⟩ = some (.slice A1 k c1) := (row_cell R2.out 2).trans rfl
            have y3 : wq.cell? ⟨w.heap.size + 1, 3, none⟩ = some (.int .u32 0) := (row_cell R2.out 3).trans rfl
            have y4 : wq.cell? ⟨w.heap.size + 1, 4, none⟩ = some (.int .i64 0) := (row_cell R2.out 4).trans rfl
            obtain ⟨A7, c7, e7, hE7, hfar7⟩ := entsOut (RO.out.kept (set5_grown wq w.heap.size (.int .i64 K) (.int .i64 (X5 : Int)) (.slice A1 k c1) (.int .u32 0) (.int .i64 0)) (.inr (own_ne RO.out R1.out (by decide)))) HLEN.out
            cases e7
            have HE7 := Lib.hid hE7
            have HUR := Lib.hid (unp_yes HN.out)
            clear hE7
            go_wp2_with fail
            refine bodyPost_ret (v := .tuple #[.agg #[.int .i64 K, .int .i64 (X5 : Int), .slice A1 k c1, .int .u32 0, .int .i64 0], .int .i64 0]) ?_ rfl ?_
            · simp [results, Tryd.results15, go_sem, z0, z1, z2, z3, z4]
            · refine ⟨A1, c1, ?_, ?_, hfar7, set5_below (b := w.heap.size) (.int .i64 K) (.int .i64 (X5 : Int)) (.slice A1 k c1) (.int .u32 0) (.int .i64 0) HBP.out (Nat.le_refl _)⟩
              · rw [HUR.out.1, HUR.out.2.1, HRV.out]
              · rw [HUR.out.1]; exact HE7.out
      · have g1 : decide ((k : Int) < (L : Int)) = true := by have := HKM.out; simp; omega
        have g1' : decide (k < L) = true := by have := HKM.out; simp; omega
        have g2 : decide ((k : Int) < 61) = false := by have := HKM.out; simp; omega
        have g2' : decide (k < 61) = false := by have := HKM.out; simp; omega
        clear hL
        go_wp2_with fail
        generalize wr = WT at *
        refine HPK.out.mono ?_
        rintro e wp ⟨hyes, hno, hbp⟩
        have hsz := PB.out.size
        have HBP := Lib.hid (below_up PB.out hbp hsz)
        have R1 := Lib.hid (row_below P1.out hbp (row_lt P1.out))
        have R2 := Lib.hid (row_below P2.out hbp (row_lt P2.out))
        have RO := Lib.hid (owns_below PO.out hbp)
        have hsp : w.heap.size ≤ wp.heap.size := HBP.out.size
        have HAP := Lib.hid (HA.out.below_le HBP.out hB)
        clear hbp e0 e1 e2 e3 e4 b0 b2 f2 f3 f4 b1 b3 b4
        have z0 : wp.cell? ⟨w.heap.size, 0, none⟩ = some (.int .i64 0) := (row_cell R1.out 0).trans rfl
        have z1 : wp.cell? ⟨w.heap.size, 1, none⟩ = some (.int .i64 0) := (row_cell R1.out 1).trans rfl
        have z2 : wp.cell? ⟨w.heap.size, 2, none⟩ = some (.slice none 0 0) := (row_cell R1.out 2).trans rfl
        have z3 : wp.cell? ⟨w.heap.size, 3, none⟩ = some (.int .u32 0) := (row_cell R1.out 3).trans rfl
        have z4 : wp.cell? ⟨w.heap.size, 4, none⟩ = some (.int .i64 0) := (row_cell R1.out 4).trans rfl
        have zf : ∀ i, wp.frozen? ⟨w.heap.size, i, none⟩ = false := fun i => row_free R1.out i
        cases hm : recMay (says b) with
        | false =>
          obtain rfl := hno hm
          have HN := Lib.hid (show isRec b = false by unfold isRec; rw [hm]; simp)
          clear hyes hno hm
          go_wp2_with fail
          refine bodyPost_ret (v := .tuple #[nulV, .int .i64 117]) ?_ rfl (RUnp.no HN.out (set5_below (b := w.heap.size) (.int .i64 0) (.int .i64 0) (.slice none 0 0) (.int .u32 0) (.int .i64 0) HBP.out (Nat.le_refl _)))
          simp [results, Tryd.results15, go_sem, nulV, z0, z1, z2, z3, z4]
        | true =>
          obtain ⟨v6, rfl, hO6⟩ := hyes hm
          obtain ⟨A6, c6, e6, hS6, _⟩ := hO6.sl
          have HRL := Lib.hid (recBytes_len (recMay_iff.1 hm).2.1)
          rw [HRL.out] at e6
          subst e6
          have HS6 := Lib.hid hS6
          clear hO6 hS6 hyes hno
          cases hq : (b == recBytes (says b)) with
          | false =>
            have HN := Lib.hid (show isRec b = false by unfold isRec; rw [show (recBytes (says b) == b) = false from by rw [beq_eq_false_iff_ne] at hq ⊢; exact fun e => hq e.symm]; simp)
            have HSS := Lib.hid (Same_any 256 256 b (recBytes (says b)) HL.out HRL.out B wp.heap.size A A6 c c6 wp HAP.out HS6.out (by decide) false hq)
            clear hq hm
            go_wp2_with fail
            refine HSS.out.mono ?_
            rintro e w' ⟨rfl, nd, rfl⟩
            have R1 := Lib.hid (show (wp.drewN nd).heap[w.heap.size]? = _ from R1.out)
            have R2 := Lib.hid (show (wp.drewN nd).heap[w.heap.size + 1]? = _ from R2.out)
            have RO := Lib.hid (owns_below RO.out (below_drewN (Below.refl _ _) nd))
            have HBP := Lib.hid (below_drewN HBP.out nd)
            clear z0 z1 z2 z3 z4 zf hsp HSS HAP HS6
            generalize wp.drewN nd = wq at *
            have z0 : wq.cell? ⟨w.heap.size, 0, none⟩ = some (.int .i64 0) := (row_cell R1.out 0).trans rfl
            have z1 : wq.cell? ⟨w.heap.size, 1, none⟩ = some (.int .i64 0) := (row_cell R1.out 1).trans rfl
            have z2 : wq.cell? ⟨w.heap.size, 2, none⟩ = some (.slice none 0 0) := (row_cell R1.out 2).trans rfl
            have z3 : wq.cell? ⟨w.heap.size, 3, none⟩ = some (.int .u32 0) := (row_cell R1.out 3).trans rfl
            have z4 : wq.cell? ⟨w.heap.size, 4, none⟩ = some (.int .i64 0) := (row_cell R1.out 4).trans rfl
            have zf : ∀ i, wq.frozen? ⟨w.heap.size, i, none⟩ = false := fun i => row_free R1.out i
            go_wp2_with fail
            refine bodyPost_ret (v := .tuple #[nulV, .int .i64 117]) ?_ rfl (RUnp.no HN.out (set5_below (b := w.heap.size) (.int .i64 0) (.int .i64 0) (.slice none 0 0) (.int .u32 0) (.int .i64 0) HBP.out (Nat.le_refl _)))
            simp [results, Tryd.results15, go_sem, nulV, z0, z1, z2, z3, z4]
          | true =>
            have HN := Lib.hid (show isRec b = true by unfold isRec; rw [hm, show (recBytes (says b) == b) = true from by rw [beq_iff_eq] at hq ⊢; exact hq.symm, HL.out]; rfl)
            have HSS := Lib.hid (Same_any 256 256 b (recBytes (says b)) HL.out HRL.out B wp.heap.size A A6 c c6 wp HAP.out HS6.out (by decide) true hq)
            clear hq hm
            go_wp2_with fail
            refine HSS.out.mono ?_
            rintro e w' ⟨rfl, nd, rfl⟩
            have R1 := Lib.hid (show (wp.drewN nd).heap[w.heap.size]? = _ from R1.out)
            have R2 := Lib.hid (show (wp.drewN nd).heap[w.heap.size + 1]? = _ from R2.out)
            have RO := Lib.hid (owns_below RO.out (below_drewN (Below.refl _ _) nd))
            have HBP := Lib.hid (below_drewN HBP.out nd)
            clear z0 z1 z2 z3 z4 zf hsp HSS HAP HS6
            generalize wp.drewN nd = wq at *
            have z0 : wq.cell? ⟨w.heap.size, 0, none⟩ = some (.int .i64 0) := (row_cell R1.out 0).trans rfl
            have z1 : wq.cell? ⟨w.heap.size, 1, none⟩ = some (.int .i64 0) := (row_cell R1.out 1).trans rfl
            have z2 : wq.cell? ⟨w.heap.size, 2, none⟩ = some (.slice none 0 0) := (row_cell R1.out 2).trans rfl
            have z3 : wq.cell? ⟨w.heap.size, 3, none⟩ = some (.int .u32 0) := (row_cell R1.out 3).trans rfl
            have z4 : wq.cell? ⟨w.heap.size, 4, none⟩ = some (.int .i64 0) := (row_cell R1.out 4).trans rfl
            have zf : ∀ i, wq.frozen? ⟨w.heap.size, i, none⟩ = false := fun i => row_free R1.out i
            have y0 : wq.cell? ⟨w.heap.size + 1, 0, none⟩ = some (.int .i64 K) := (row_cell R2.out 0).trans rfl
            have y1 : wq.cell? ⟨w.heap.size + 1, 1, none⟩ = some (.int .i64 (X5 : Int)) := (row_cell R2.out 1).trans rfl
            have y2 : wq.cell? ⟨w.heap.size + 1, 2, none⟩ = some (.slice A1 k c1) := (row_cell R2.out 2).trans rfl
            have y3 : wq.cell? ⟨w.heap.size + 1, 3, none⟩ = some (.int .u32 0) := (row_cell R2.out 3).trans rfl
            have y4 : wq.cell? ⟨w.heap.size + 1, 4, none⟩ = some (.int .i64 0) := (row_cell R2.out 4).trans rfl
            obtain ⟨A7, c7, e7, hE7, hfar7⟩ := entsOut (RO.out.kept (set5_grown wq w.heap.size (.int .i64 K) (.int .i64 (X5 : Int)) (.slice A1 k c1) (.int .u32 0) (.int .i64 0)) (.inr (own_ne RO.out R1.out (by decide)))) HLEN.out
            cases e7
            have HE7 := Lib.hid hE7
            have HUR := Lib.hid (unp_yes HN.out)
            clear hE7
            go_wp2_with fail
            refine bodyPost_ret (v := .tuple #[.agg #[.int .i64 K, .int .i64 (X5 : Int), .slice A1 k c1, .int .u32 0, .int .i64 0], .int .i64 0]) ?_ rfl ?_
            · simp [results, Tryd.results15, go_sem, z0, z1, z2, z3, z4]
            · refine ⟨A1, c1, ?_, ?_, hfar7, set5_below (b := w.heap.size) (.int .i64 K) (.int .i64 (X5 : Int)) (.slice A1 k c1) (.int .u32 0) (.int .i64 0) HBP.out (Nat.le_refl _)⟩
              · rw [HUR.out.1, HUR.out.2.1, HRV.out]
              · rw [HUR.out.1]; exact HE7.out
theorem refUnpack_any (n : Nat) (b : List UInt8) (hn : b.length = n) (B : Nat) (A : Option Addr) (c : Nat) (w : World) (hB : B ≤ w.heap.size) (hA : Sl w B A (b.map u8v)) :
    Calls Tryd.prog 15 #[.slice A n c] w (RUnp b w) := by
  by_cases h : n = 256
  · subst h
    by_cases h1 : saysK b = 1
    · exact refUnpack_1 b hn h1 B A c w hB hA
    by_cases h2 : saysK b = 2
    · exact refUnpack_2 b hn h2 B A c w hB hA
    by_cases h4 : saysK b = 4
    · exact refUnpack_4 b hn h4 B A c w hB hA
    exact refUnpack_e b hn ⟨h1, h2, h4⟩ B A c w hB hA
  · exact refUnpack_len n b hn h A c w
end Go.Proofs.YtgegmoejhnjhjaaDoor.JRUnp
