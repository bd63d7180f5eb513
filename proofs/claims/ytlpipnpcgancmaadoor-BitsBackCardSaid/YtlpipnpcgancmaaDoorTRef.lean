/- The document's answers: bytes, New, Check, Test, Turn. -/
import Derived.Test.YtlpipnpcgancmaaDoorTSame
import Derived.Test.YtlpipnpcgancmaaDoorTTurnF
import Derived.Test.YtlpipnpcgancmaaDoorWRefSeal
namespace Go.Proofs.YtlpipnpcgancmaaDoor.TRef
open Go.RowKit WMem WPlain WAppend WCrc WSeal WAny WRefSeal TPlain TBits TSet TWalk TOrd TCut TTurn TFace TTurnF TSame

theorem below_drew {B : Nat} {a w : World} (h : Below B a w) : Below B a w.drew := ⟨h.os, h.tape, h.output, h.size, h.block⟩
theorem or_go (x : UInt8) (s : Nat) (hs : s < 8) : bits BinOp.or IntKind.u8 (x.toNat : Int) (IntKind.u8.wrap (2 ^ s)) = ((setB x s).toNat : Int) := by
  have hx := byte_lt x
  have h2 : 2 ^ s < 256 := Nat.lt_of_le_of_lt (Nat.pow_le_pow_right (by decide) (show s ≤ 7 by omega)) (by decide)
  have h0 : IntKind.u8.wrap (2 ^ s) = (2 ^ s : Int) := by
    rw [show (2 : Int) ^ s = ((2 ^ s : Nat) : Int) by push_cast; rfl, IntKind.wrap_u8']
    generalize 2 ^ s = m at h2 ⊢
    omega
  rw [h0]
  show IntKind.u8.wrap ((BitVec.ofInt 8 (x.toNat : Int) ||| BitVec.ofInt 8 (2 ^ s)).toNat : Int) = _
  have h : (BitVec.ofInt 8 (x.toNat : Int) ||| BitVec.ofInt 8 (2 ^ s)).toNat = x.toNat ||| 2 ^ s := by
    rw [BitVec.toNat_or]
    have h1 : (BitVec.ofInt 8 (x.toNat : Int)).toNat = x.toNat := by simp
    have h3 : (BitVec.ofInt 8 (2 ^ s)).toNat = 2 ^ s := by
      rw [show (2 : Int) ^ s = ((2 ^ s : Nat) : Int) by push_cast; rfl]
      simp only [BitVec.ofInt_natCast, BitVec.toNat_ofNat]
      exact Nat.mod_eq_of_lt h2
    rw [h1, h3]
  have h4 : x.toNat ||| 2 ^ s < 256 := Nat.or_lt_two_pow (n := 8) hx h2
  rw [h, IntKind.wrap_u8']
  unfold setB
  simp only [UInt8.toNat_ofNat']
  omega
def bv (P : Nat → Bool) (n : Nat) : List Value := (List.range n).map fun i => .bool (P i)
theorem bv_len (P : Nat → Bool) (n : Nat) : (bv P n).length = n := by simp [bv]
theorem bv_at (P : Nat → Bool) {n i : Nat} (hi : i < n) : (bv P n)[i]? = some (.bool (P i)) := by
  simp [bv, List.getElem?_map, List.getElem?_range hi]
set_option maxHeartbeats 1000000 in
set_option maxRecDepth 100000 in
theorem refBytes_any (P : Nat → Bool) (z : List UInt8) (hz : lay P 2016 = z) (B : Nat) (A : Option Addr) (c seed : Nat) (w : World) (hs : seed < 4294967296) (hB : B ≤ w.heap.size) (hA : Sl w B A (bv P 2016)) :
    Calls Tryd.prog 30 #[.slice A 2016 c, .int .u32 seed] w fun e w' => ∃ g, e = .returned (.slice (some ⟨g, 0, none⟩) 256 256) ∧ w.heap.size ≤ g ∧ (∃ rest, Row w' g (sealL z seed) rest) ∧ Below w.heap.size w w' := by
  have HE := Lib.hid hz
  clear hz
  have HZ := Lib.hid (zrow_row w)
  have HA := Lib.hid hA
  have HB := Lib.hid hB
  have hmk := Mk.make256
  clear hA hB
  go_enter Tryd.func30, Tryd.ntmps30
  go_wp2
  go_loopw [6] (fun i wr => ∃ k : Nat, k ≤ 2016 ∧ i = .int .i64 k ∧ Row wr w.heap.size (lay P k) [] ∧ Below w.heap.size w wr) (fun i _ => 2016 - (intOf i).toNat)
  case atStart => exact ⟨0, Nat.zero_le _, rfl, HZ.out, (Below.refl _ _).alloc (Nat.le_refl _) _⟩
  case round =>
    obtain ⟨k, hk, rfl, hR, hb⟩ := hrel
    have HR := Lib.hid hR
    have HG := Lib.hid hb
    clear hR hb
    by_cases hlt : k < 2016
    · obtain ⟨a, rfl, hab, hcp⟩ := HA.out k (.bool (P k)) (bv_at P hlt)
      have hcp2 : wr.cell? (a.add k) = some (.bool (P k)) := (HG.out.cell (p := a.add k) (by have := HB.out; rw [addr_add_block]; omega)).trans hcp
      clear hcp
      cases hP : P k with
      | false =>
        rw [hP] at hcp2
        have HN : Hid (lay P (k + 1) = lay P k) := Lib.hid (by simp only [lay, hP]; rfl)
        clear hP
        go_wp2
        go_roundw
        case rel => exact ⟨k + 1, by omega, by go_num, by rw [HN.out]; exact HR.out, HG.out⟩
        case measure => simp [intOf]; omega
      | true =>
        rw [hP] at hcp2
        have hlen : (lay P k).length = 256 := lay_len P k
        have hi2 : k / 8 < (lay P k).length := by omega
        have hc := HR.out.cell (i := k / 8) hi2
        have hf := HR.out.free (k / 8)
        obtain ⟨x, hxe⟩ : ∃ x, (lay P k)[k / 8]'hi2 = x := ⟨_, rfl⟩
        rw [hxe] at hc
        have HX : Hid ((lay P k).getD (k / 8) 0 = x) := Lib.hid (by rw [← hxe]; simp [hi2])
        have hx := byte_lt x
        have HLEN := Lib.hid hlen
        clear hxe
        obtain ⟨j, hj⟩ : ∃ j, k / 8 = j := ⟨_, rfl⟩
        obtain ⟨s, hs2⟩ : ∃ s, k % 8 = s := ⟨_, rfl⟩
        have hs8 : s < 8 := by omega
        have hsI : (s : Int) < 8 := by omega
        have hjI : (j : Int) < 256 := by omega
        have hj0 : (0 : Int) ≤ (j : Int) := by omega
        have hq1 : IntKind.i64.wrap ((k : Int) / 8) = (j : Int) := by rw [IntKind.wrap_i64]; omega
        have hq2 : IntKind.i64.wrap ((k : Int) % 8) = (s : Int) := by rw [IntKind.wrap_i64]; omega
        have hq3 : (k : Int).tmod 8 = (s : Int) := by rw [Int.tmod_eq_emod_of_nonneg (by omega)]; omega
        have hv := or_go x s hs8
        obtain ⟨y, hy⟩ : ∃ y, setB x s = y := ⟨_, rfl⟩
        rw [hy] at hv
        rw [hj] at hc hf HX
        have HN : Hid (lay P (k + 1) = (lay P k).set j y) := Lib.hid (by
          simp only [lay, hP, if_true]
          unfold lay1
          rw [hj, hs2, HX.out, hy])
        clear hy hj hs2 hlen hi2 hP
        go_wp2
        go_still_tail 13, (by kernel_rfl)
        change wpList _ _ _ _ _ wr.drew
        go_wp2
        go_roundw
        case rel => exact ⟨k + 1, by omega, by go_num, by rw [HN.out]; exact HR.out.set (by have := HLEN.out; omega) y, below_drew (HG.out.setCell (Nat.le_refl _) _)⟩
        case measure => simp [intOf]; omega
    · obtain rfl : k = 2016 := by omega
      have hzl : z.length = 256 := by rw [← HE.out]; exact lay_len P 2016
      have HR : Hid (Row wr w.heap.size z []) := Lib.hid (by rw [← HE.out]; exact HR.out)
      have HO : Hid (Own wr w.heap.size (.slice (some ⟨w.heap.size, 0, none⟩) 256 256) z) := Lib.hid (.inr ⟨w.heap.size, 256, [], by rw [hzl], Nat.le_refl _, by omega, HR.out⟩)
      have HL := Lib.hid hzl
      clear hzl
      go_wp2_with (go_at_call 45; refine (refSeal_any z w.heap.size _ seed _ hs (by have := HL.out; omega) HO.out).mono ?_; rintro e w2 ⟨rfl, hO2, hG2⟩
                   have HO2 := Lib.hid hO2
                   have HG2 := Lib.hid hG2
                   clear hO2 hG2)
      go_ret
      have hO2 := HO2.out
      rcases hO2 with ⟨h, _⟩ | ⟨g, c2, rest, h, hg, hc, hR⟩
      · cases h
      · injection h with h1 h2 h3
        injection h1 with h1
        injection h1 with h1
        subst h1
        subst h3
        exact ⟨w.heap.size, rfl, Nat.le_refl _, ⟨rest, hR⟩, HG.out.grown HG2.out HG.out.size (by intro i hi; simp [Value.ownBlock] at hi; omega)⟩

theorem bv_congr {P Q : Nat → Bool} {n : Nat} (h : ∀ j, j < n → P j = Q j) : bv P n = bv Q n := by
  unfold bv
  apply List.map_congr_left
  intro j hj
  rw [h j (by simpa using hj)]
theorem bv_set {P Q : Nat → Bool} {n k : Nat} (b : Bool) (hk : k < n) (h1 : Q k = b) (h2 : ∀ j, j < n → j ≠ k → Q j = P j) : (bv P n).set k (.bool b) = bv Q n := by
  apply List.ext_getElem?
  intro i
  by_cases hi : i < n
  · by_cases e : i = k
    · subst e
      rw [List.getElem?_set_self (by rw [bv_len]; exact hi), bv_at Q hi, h1]
    · rw [List.getElem?_set_ne (by omega), bv_at P hi, bv_at Q hi, h2 i hi e]
  · rw [List.getElem?_eq_none (by rw [List.length_set, bv_len]; omega), List.getElem?_eq_none (by rw [bv_len]; omega)]
theorem bv_snoc (P : Nat → Bool) (n : Nat) : bv P (n + 1) = bv P n ++ [.bool (P n)] := by simp [bv, List.range_succ]
def brow (n : Nat) : Array Value := (bv (fun _ => false) n).toArray
theorem made_bools (n : Nat) (hn : n ≤ 4096) (w : World) : (Instr.makeSlice 48 (.int .i64 (n : Int)) (.int .i64 (n : Int))).run Tryd.prog w = .ok (.slice (some ⟨w.heap.size, 0, none⟩) n n) (w.alloc (.cells (brow n) 4)) := by
  obtain ⟨i, h1, h2, h3, h4⟩ := info_parts (P := Tryd.prog) (e := 4) (z := .bool false) (size := 1) (bytes := 1) (by kernel_rfl)
  have h := run_make (P := Tryd.prog) w 48 4 i (.bool false) (by kernel_rfl) h1 h2 .i64 .i64 n n (by omega) (by omega) (by rw [h4]; omega) (by omega)
  have hb : brow n = madeCells #[Value.bool false] n := by
    rw [Mk.made_one]
    unfold brow
    congr 1
    apply List.ext_getElem?
    intro j
    by_cases hj : j < n
    · rw [bv_at _ hj, List.getElem?_replicate, if_pos hj]
    · rw [List.getElem?_eq_none (by rw [bv_len]; omega), List.getElem?_eq_none (by rw [List.length_replicate]; omega)]
  rw [h]
  simp only [Int.toNat_natCast, h3, Nat.mul_one]
  rw [hb]
  rfl
theorem make_bools (w : World) : (Instr.makeSlice 48 (.int .i64 2016) (.int .i64 2016)).run Tryd.prog w = .ok (.slice (some ⟨w.heap.size, 0, none⟩) 2016 2016) (w.alloc (.cells (brow 2016) 4)) := made_bools 2016 (by decide) w
theorem newB_lay (n seed : Nat) (hn : n ≤ 2016) : sealL (lay (fun i => decide (n ≤ i)) 2016) seed = newB n seed := by
  unfold newB
  refine seal_same (lay_len _ _) (by rw [flips_len, List.length_replicate]) (fun i hi => ?_) seed
  rw [fr_lay _ hi 2016 (Nat.le_refl _), fr_flips (List.length_replicate ..) hi (2016 - n) (by omega), fr_blank hi]
  have e1 : decide (i < 2016) = true := by simpa using hi
  have e2 : decide (n ≤ i ∧ i < n + (2016 - n)) = decide (n ≤ i) := by rw [Bool.eq_iff_iff]; simp only [decide_eq_true_eq]; omega
  rw [e1, e2]
  cases decide (n ≤ i) <;> rfl
set_option maxHeartbeats 1000000 in
set_option maxRecDepth 100000 in
theorem refNew_no (n : Int) (seed : Nat) (w : World) (h : sizeB n = false) :
    Calls Tryd.prog 13 #[.int .i64 n, .int .u32 seed] w fun e w' => e = .returned (.tuple #[.slice none 0 0, .int .i64 22]) ∧ Below w.heap.size w w' := by
  have h2 : ¬ (0 ≤ n ∧ n ≤ 2016) := by simpa [sizeB] using h
  clear h
  by_cases h0 : n < 0
  · have d0 : decide (n < 0) = true := by simpa using h0
    clear h2 h0
    go_enter Tryd.func13, Tryd.ntmps13
    go_wp2
    go_ret2
    exact ⟨rfl, Below.refl _ _⟩
  · have d0 : decide (n < 0) = false := by simp; omega
    have d1 : decide ((2016 : Int) < n) = true := by simp; omega
    clear h2 h0
    go_enter Tryd.func13, Tryd.ntmps13
    go_wp2
    go_ret2
    exact ⟨rfl, Below.refl _ _⟩
set_option maxHeartbeats 1000000 in
set_option maxRecDepth 100000 in
theorem refNew_yes (n seed : Nat) (w : World) (hn : n ≤ 2016) (hs : seed < 4294967296) :
    Calls Tryd.prog 13 #[.int .i64 n, .int .u32 seed] w fun e w' => ∃ g cap rest, e = .returned (.tuple #[.slice (some ⟨g, 0, none⟩) 256 cap, .int .i64 0]) ∧ w.heap.size ≤ g ∧ 256 ≤ cap ∧ Row w' g (newB n seed) rest ∧ Below w.heap.size w w' := by
  have hmk := make_bools
  have HZ : Hid (RowV (w.alloc (.cells (brow 2016) 4)) w.heap.size 4 (bv (fun _ => false) 2016)) := Lib.hid (row_new w _)
  have HN := Lib.hid (newB_lay n seed hn)
  have d0 : decide ((n : Int) < 0) = false := by simp
  have d1 : decide ((2016 : Int) < (n : Int)) = false := by simp; omega
  go_enter Tryd.func13, Tryd.ntmps13
  go_wp2
  go_loopw [7] (fun i wr => ∃ k : Nat, n ≤ k ∧ k ≤ 2016 ∧ i = .int .i64 k ∧ RowV wr w.heap.size 4 (bv (fun j => decide (n ≤ j ∧ j < k)) 2016) ∧ Below w.heap.size w wr) (fun i _ => 2016 - (intOf i).toNat)
  case atStart =>
    refine ⟨n, Nat.le_refl _, hn, rfl, ?_, (Below.refl _ _).alloc (Nat.le_refl _) _⟩
    rw [bv_congr (Q := fun _ => false) (fun j _ => decide_eq_false (by omega))]
    exact HZ.out
  case round =>
    obtain ⟨k, hnk, hk, rfl, hR, hb⟩ := hrel
    have HR := Lib.hid hR
    have HG := Lib.hid hb
    clear hR hb
    by_cases hlt : k < 2016
    · obtain ⟨x, hx⟩ : ∃ x, (bv (fun j => decide (n ≤ j ∧ j < k)) 2016)[k]? = some x := ⟨_, bv_at _ hlt⟩
      have hc : wr.cell? ⟨w.heap.size, k, none⟩ = some x := (row_cell HR.out k).trans (by rw [List.getElem?_toArray]; exact hx)
      have hf := row_free HR.out k
      have HS : Hid (RowV (wr.setCell ⟨w.heap.size, k, none⟩ (.bool true)) w.heap.size 4 (bv (fun j => decide (n ≤ j ∧ j < k + 1)) 2016)) := Lib.hid (by
        have := HR.out.set k (.bool true)
        rw [bv_set (Q := fun j => decide (n ≤ j ∧ j < k + 1)) true hlt (by simp [hnk]) (fun j _ hj => by rw [Bool.eq_iff_iff]; simp only [decide_eq_true_eq]; omega)] at this
        exact this)
      clear hx
      go_wp2
      go_roundw
      case rel => exact ⟨k + 1, by omega, by omega, by go_num, HS.out, HG.out.setCell (Nat.le_refl _) _⟩
      case measure => simp [intOf]; omega
    · obtain rfl : k = 2016 := by omega
      have HP : Hid (Sl wr wr.heap.size (some ⟨w.heap.size, 0, none⟩) (bv (fun i => decide (n ≤ i)) 2016)) := Lib.hid (by
        have := HR.out.sl HR.out.lt
        rw [bv_congr (Q := fun i => decide (n ≤ i)) (fun j hj => by rw [Bool.eq_iff_iff]; simp only [decide_eq_true_eq]; omega)] at this
        exact this)
      go_wp2_with (go_at_call 30; refine (refBytes_any (fun i => decide (n ≤ i)) _ rfl _ _ _ seed _ hs (Nat.le_refl _) HP.out).mono ?_; rintro e w2 ⟨g, rfl, hg, ⟨rest, hR2⟩, hb2⟩
                   have HR2 := Lib.hid hR2
                   have HG2 := Lib.hid hb2
                   clear hR2 hb2)
      go_ret2
      exact ⟨g, 256, rest, rfl, by have := HG.out.size; omega, Nat.le_refl _, by rw [← HN.out]; exact HR2.out, HG.out.trans (HG2.out.mono HG.out.size)⟩
end Go.Proofs.YtlpipnpcgancmaaDoor.TRef
