/- Fields as numbers; the program's block of numbers, sealed. -/
import Derived.Test.YtoaallnmihhjlaaDoorWWide
import Derived.Test.YtoaallnmihhjlaaDoorWAny
namespace Go.Proofs.YtoaallnmihhjlaaDoor.SNums
open Go.RowKit WMem WPlain WGive WGet WPut WAppend WHelp WList WPack WUnpack WFace WFace2 WSeal WAny WWide WCrc

def nums (l : List Nat) : List UInt64 := l.map UInt64.ofNat
theorem nums_len (l : List Nat) : (nums l).length = l.length := by simp [nums]
/-- what lies in the row when k fields are written -/
def filled (l : List Nat) (k : Nat) : List Value := ((nums l).take k).map u64v ++ List.replicate (l.length - k) (Value.int .u64 0)
theorem filled_zero (l : List Nat) : filled l 0 = List.replicate l.length (Value.int .u64 0) := by simp [filled]
theorem filled_all (l : List Nat) : filled l l.length = (nums l).map u64v := by
  rw [filled, List.take_of_length_le (by rw [nums_len]; exact Nat.le_refl _)]; simp
theorem filled_len (l : List Nat) (k : Nat) (h : k ≤ l.length) : (filled l k).length = l.length := by simp [filled, nums_len]; omega
theorem filled_next (l : List Nat) (k : Nat) (h : k < l.length) (hx : l[k] < 18446744073709551616) : (filled l k).set k (Value.int .u64 (l[k] : Nat)) = filled l (k + 1) := by
  have e : u64v ((nums l)[k]'(by rw [nums_len]; exact h)) = Value.int .u64 (l[k] : Nat) := by
    simp only [nums, List.getElem_map, u64v, UInt64.toNat_ofNat']
    rw [Nat.mod_eq_of_lt hx]
  rw [← e]
  unfold filled
  have hl : (((nums l).take k).map u64v).length = k := by simp [nums_len]; omega
  rw [List.set_append_right _ _ (by omega), hl, Nat.sub_self]
  rw [show l.length - k = (l.length - (k + 1)) + 1 by omega, List.replicate_succ, List.set_cons_zero]
  rw [List.take_succ_eq_append_getElem (by rw [nums_len]; exact h), List.map_append, List.append_assoc]
  rfl

set_option maxHeartbeats 1000000 in
theorem numbers_any (l : List Nat) (B : Nat) (A : Option Addr) (c : Nat) (w : World) (hB : B ≤ w.heap.size) (hl : l.length ≤ 1000000) (hx : ∀ x ∈ l, x < 9223372036854775808) (hA : Sl w B A (l.map natv)) :
    Calls Tryd.prog 25 #[.slice A l.length c] w fun e w' =>
      e = .returned (.slice (some ⟨w.heap.size, 0, none⟩) l.length l.length) ∧ RowV w' w.heap.size 56 ((nums l).map u64v) ∧ Below w.heap.size w w' ∧ w.heap.size < w'.heap.size := by
  have hmk := make_nums l.length (by omega)
  have HA := Lib.hid hA
  have HX := Lib.hid hx
  clear hA hx
  go_enter Tryd.func25, Tryd.ntmps25
  go_wp2
  clear hmk
  go_loopw [11] (fun i wr => ∃ k : Nat, k ≤ l.length ∧ i = .int .i64 k ∧ RowV wr w.heap.size 56 (filled l k) ∧ Below w.heap.size w wr) (fun i _ => l.length - (intOf i).toNat)
  case atStart => exact ⟨0, Nat.zero_le _, rfl, by rw [filled_zero]; exact row_new _ _, (Below.refl _ _).alloc (Nat.le_refl _) _⟩
  case round =>
    obtain ⟨k, hk, rfl, hR, hb⟩ := hrel
    have HR := Lib.hid hR
    have HB := Lib.hid hb
    clear hR hb
    by_cases hlt : k < l.length
    · obtain ⟨a', rfl, hab', hc'⟩ := (HA.out.below_le HB.out hB).nat hlt
      have hx := HX.out l[k] (List.getElem_mem hlt)
      have HP := Lib.hid (filled_next l k hlt (by omega))
      have hcx := HR.out.cell (i := k) (by rw [filled_len l k hk]; exact hlt)
      have hfx := HR.out.free k
      generalize (filled l k)[k]'(by rw [filled_len l k hk]; exact hlt) = old at hcx
      generalize l[k] = n at *
      generalize filled l k = pt at *
      go_wp2
      go_roundw
      case rel =>
        refine ⟨k + 1, by omega, by go_num, by rw [← HP.out]; exact HR.out.set k _, HB.out.setCell (Nat.le_refl _) _⟩
      case measure => simp [intOf]; omega
    · obtain rfl : k = l.length := by omega
      go_wp2
      go_ret
      exact ⟨rfl, by rw [← filled_all]; exact HR.out, HB.out, HR.out.lt⟩

/-- a block of numbers, sealed -/
def blockOf (xs : List UInt64) (ws : List Int) (seed : Nat) : List UInt8 := sealL (bytesOf_ xs ws 256) seed
theorem blockOf_len (xs : List UInt64) (ws : List Int) (seed : Nat) (h : packs xs ws 256) : (blockOf xs ws seed).length = 256 := by
  unfold blockOf
  rw [sealL_len, bytesOf_len ws xs 256 h]; rfl
set_option maxHeartbeats 1000000 in
theorem block_ok (len len' : Nat) (xs : List UInt64) (hlen : xs.length = len) (ws : List Int) (hlen' : ws.length = len') (seed : Nat) (hs : seed < 4294967296) (B : Nat) (A A' : Option Addr) (c c' : Nat) (w : World) (hB : B ≤ w.heap.size) (h : packs xs ws 256) (hx : fit (nats ws) xs)
    (hA : Sl w B A (xs.map u64v)) (hA' : Sl w B A' (ws.map i64v)) (hT : Tab w) :
    Calls Tryd.prog 26 #[.slice A len c, .slice A' len' c', .int .u32 seed] w fun e w' =>
      ∃ g, e = .returned (.tuple #[.slice (some ⟨g, 0, none⟩) 256 256, .int .i64 0]) ∧ w.heap.size ≤ g ∧ Row w' g (blockOf xs ws seed) [] ∧ Below w.heap.size w w' := by
  subst hlen
  subst hlen'
  have HP := Lib.hid (PackW_ok ws B A A' c c' w xs 256 hB h hx hA hA')
  have hbl := bytesOf_len ws xs 256 h
  have hbl' : (bytesOf_ xs ws 256).length = 256 := hbl
  have HBL := Lib.hid hbl'
  have HT := Lib.hid hT
  have hTl := Tab.lt hT
  clear hA hA' hT h hx hbl hbl'
  go_enter Tryd.func26, Tryd.ntmps26
  go_wp2_with fail
  refine HP.out.mono ?_
  rintro e w1 ⟨g, rfl, hg, hR, hb⟩
  have HS := Lib.hid (Seal_ok (bytesOf_ xs ws 256) [] g 256 seed w1 hs (by rw [HBL.out]; omega) (by rw [HBL.out]; omega) (by rw [HBL.out]; exact Nat.le_refl _) hR (Tab.below HT.out hb hTl))
  rw [HBL.out] at HS
  have HB := Lib.hid hb
  have HG := Lib.hid hg
  clear hb hR hg
  go_wp2_with fail
  refine HS.out.mono ?_
  rintro e w2 ⟨rfl, hR2, hg2⟩
  have HR2 := Lib.hid hR2
  have HG2 := Lib.hid hg2
  clear hR2 hg2
  go_wp2
  go_ret2
  refine ⟨g, rfl, HG.out, ?_, ?_⟩
  · have := HR2.out
    unfold blockOf sealL
    rw [if_pos (by rw [HBL.out]; omega), HBL.out]
    exact this
  · exact HB.out.grown HG2.out HB.out.size (by intro k hk; injection hk with hk; subst hk; exact HG.out)
end Go.Proofs.YtoaallnmihhjlaaDoor.SNums
