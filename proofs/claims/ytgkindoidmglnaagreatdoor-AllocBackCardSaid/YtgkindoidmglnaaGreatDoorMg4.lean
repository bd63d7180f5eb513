/- The walk that cuts a row of free bits into chunks: cut, buddiesOf, Orders. -/
import Derived.Test.YtgkindoidmglnaaGreatDoorMg3
import Derived.RegionTactic
import Derived.ChangeAlike
import Derived.StillTailTactics
import Derived.Test.YtgkindoidmglnaaGreatDoorMg1
namespace Go.Proofs.YtgkindoidmglnaaGreatDoor.TCut
open Go.RowKit WMem WPlain TPlain TBits TSet TWalk TOrd

theorem grown_drew {a w : World} {row : Option Nat} (h : a.grownBy w row) : a.grownBy w.drew row := ⟨h.os, h.tape, h.output, h.size, h.block⟩
/-- the cells of the buddies that begin ahead of p -/
def bcells (F : Nat → Bool) (p : Nat) : List Value := vals (fun k => cnt F k p) 11 ++ vals (fun k => fst F k p) 11
theorem bcells_len (F : Nat → Bool) (p : Nat) : (bcells F p).length = 22 := by simp [bcells, vals_len]
theorem bcells_cnt (F : Nat → Bool) (p : Nat) {k : Nat} (hk : k < 11) : (bcells F p)[k]? = some (.int .i64 (cnt F k p : Nat)) := by
  unfold bcells
  rw [List.getElem?_append_left (by rw [vals_len]; exact hk)]
  exact vals_at _ hk
theorem bcells_fst (F : Nat → Bool) (p : Nat) {k : Nat} (hk : k < 11) : (bcells F p)[11 + k]? = some (.int .i64 (fst F k p : Nat)) := by
  unfold bcells
  rw [List.getElem?_append_right (by rw [vals_len]; omega), vals_len, show 11 + k - 11 = k by omega]
  exact vals_at _ hk
theorem cells_ext {xs : List Value} {F : Nat → Bool} {p : Nat} (hl : xs.length = 22) (h1 : ∀ k, k < 11 → xs[k]? = some (.int .i64 (cnt F k p : Nat))) (h2 : ∀ k, k < 11 → xs[11 + k]? = some (.int .i64 (fst F k p : Nat))) : xs = bcells F p := by
  apply List.ext_getElem?
  intro i
  by_cases hi : i < 11
  · rw [h1 i hi, bcells_cnt F p hi]
  · by_cases hj : i < 22
    · obtain ⟨k, rfl⟩ : ∃ k, i = 11 + k := ⟨i - 11, by omega⟩
      rw [h2 k (by omega), bcells_fst F p (by omega)]
    · rw [List.getElem?_eq_none (by omega), List.getElem?_eq_none (by rw [bcells_len]; omega)]
theorem cells_start (F : Nat → Bool) : bcells F 0 = [.int .i64 0, .int .i64 0, .int .i64 0, .int .i64 0, .int .i64 0, .int .i64 0, .int .i64 0, .int .i64 0, .int .i64 0, .int .i64 0, .int .i64 0, .int .i64 0, .int .i64 0, .int .i64 0, .int .i64 0, .int .i64 0, .int .i64 0, .int .i64 0, .int .i64 0, .int .i64 0, .int .i64 0, .int .i64 0] := rfl
theorem cells_first {F : Nat → Bool} {p k : Nat} (h : Here F p k) (h0 : cnt F k p = 0) : ((bcells F p).set (11 + k) (.int .i64 (p : Nat))).set k (.int .i64 1) = bcells F (p + 2 ^ k) := by
  have hk := h.le
  refine cells_ext (by simp [bcells_len]) (fun j hj => ?_) (fun j hj => ?_)
  · by_cases e : j = k
    · subst e
      rw [List.getElem?_set_self (by simp [bcells_len]; omega), h.cnt_at.1, h0]; rfl
    · rw [List.getElem?_set_ne (by omega), List.getElem?_set_ne (by omega), bcells_cnt F p hj, (h.cnt_else (by omega) e).1]
  · by_cases e : j = k
    · subst e
      rw [List.getElem?_set_ne (by omega), List.getElem?_set_self (by simp [bcells_len]; omega), h.cnt_at.2, if_pos h0]
    · rw [List.getElem?_set_ne (by omega), List.getElem?_set_ne (by omega), bcells_fst F p hj, (h.cnt_else (by omega) e).2]
theorem cells_more {F : Nat → Bool} {p k : Nat} (h : Here F p k) (h0 : cnt F k p ≠ 0) : (bcells F p).set k (.int .i64 ((cnt F k p : Nat) + 1)) = bcells F (p + 2 ^ k) := by
  have hk := h.le
  refine cells_ext (by simp [bcells_len]) (fun j hj => ?_) (fun j hj => ?_)
  · by_cases e : j = k
    · subst e
      rw [List.getElem?_set_self (by simp [bcells_len]; omega), h.cnt_at.1]; rfl
    · rw [List.getElem?_set_ne (by omega), bcells_cnt F p hj, (h.cnt_else (by omega) e).1]
  · rw [List.getElem?_set_ne (by omega), bcells_fst F p hj]
    by_cases e : j = k
    · subst e
      rw [h.cnt_at.2, if_neg h0]
    · rw [(h.cnt_else (by omega) e).2]
theorem cells_skip {F : Nat → Bool} {p : Nat} (h : F p = false) : bcells F (p + 1) = bcells F p := by
  refine (cells_ext (bcells_len _ _) (fun j hj => ?_) (fun j hj => ?_)).symm
  · rw [bcells_cnt F p hj, (cnt_skip h).1]
  · rw [bcells_fst F p hj, (cnt_skip h).2]
theorem cnt_le (F : Nat → Bool) (k p : Nat) : cnt F k p ≤ p := by
  induction p with
  | zero => exact Nat.le_refl _
  | succ p ih =>
    simp only [cnt]
    split <;> omega
set_option maxHeartbeats 400000 in
set_option maxRecDepth 100000 in
theorem cut_any (F : Nat → Bool) (p0 e g : Nat) (w : World) (hpe : p0 ≤ e) (he : e ≤ 2016) (hc : Cut F p0) (hf : ∀ i, p0 ≤ i → i < e → F i = true) (hfe : F e = false) (hR : RowV w g 168 (bcells F p0)) :
    Calls Tryz.prog 127 #[.pointer (some ⟨g, 0, none⟩), .int .i64 p0, .int .i64 e] w fun e' w' => e' = .returned (.tuple #[]) ∧ RowV w' g 168 (bcells F e) ∧ w.grownBy w' (some g) ∧ Cut F e := by
  have HF := Lib.hid hf
  have HE := Lib.hid hfe
  have HR0 := Lib.hid hR
  have HC0 := Lib.hid hc
  clear hf hfe hR hc
  go_enter Tryz.func127, Tryz.ntmps127
  go_wp2
  go_loopw [1] (fun v wr => ∃ p : Nat, p0 ≤ p ∧ p ≤ e ∧ v = .int .i64 p ∧ Cut F p ∧ RowV wr g 168 (bcells F p) ∧ w.grownBy wr (some g)) (fun v _ => e - (intOf v).toNat)
  case atStart => exact ⟨p0, Nat.le_refl _, hpe, rfl, HC0.out, HR0.out, grown_refl _ _⟩
  case round =>
    obtain ⟨p, hp0, hp, rfl, hc, hR, hG⟩ := hrel
    have HC := Lib.hid hc
    have HR := Lib.hid hR
    have HG := Lib.hid hG
    clear hc hR hG
    by_cases hlt : p < e
    · go_wp2_with fail
      refine (orderAt_any p e _ hlt he).mono ?_
      rintro e' w' ⟨k, rfl, hord, rfl⟩
      have hh : Here F p k := here_of HC.out (fun i h1 h2 => HF.out i (by omega) h2) HE.out hlt hord
      have hk := hh.le
      have hcell : wr.cell? ⟨g, k, none⟩ = some (.int .i64 (cnt F k p : Nat)) := (row_cell HR.out k).trans (by rw [List.getElem?_toArray]; exact bcells_cnt F p (by omega))
      have hfrk := row_free HR.out k
      have hfrj := row_free HR.out (11 + k)
      have hcl := cnt_le F k p
      have hkk := hh.free
      have HH := Lib.hid hh
      have HO := Lib.hid hord
      clear hord hh hkk
      obtain ⟨z, hz⟩ : ∃ z, cnt F k p = z := ⟨_, rfl⟩
      rw [hz] at hcell hcl
      have HZ := Lib.hid hz
      clear hz
      have hp2 : 2 ^ k ≤ e - p := HO.out.2.2.1
      have hpp := two_pow_pos k
      obtain ⟨q, hq⟩ : ∃ q, 2 ^ k = q := ⟨_, rfl⟩
      have hw : wrap64 (2 ^ k) = (q : Int) := by
        have e1 : (2 ^ k : Int) = (q : Int) := by rw [← hq]; push_cast; rfl
        rw [e1, IntWalk.wrap64_in _ ⟨by omega, by omega⟩]
      rw [hq] at hp2 hpp
      have HQ := Lib.hid hq
      clear hq
      have hki : (k : Int) < 11 := by omega
      by_cases h0 : z = 0
      · subst h0
        have hcellj : wr.cell? ⟨g, 11 + k, none⟩ = some (.int .i64 (fst F k p : Nat)) := (row_cell HR.out _).trans (by rw [List.getElem?_toArray]; exact bcells_fst F p (by omega))
        obtain ⟨y, hy⟩ : ∃ y, fst F k p = y := ⟨_, rfl⟩
        rw [hy] at hcellj
        clear hy
        go_wp2
        have HR1 := Lib.hid (HR.out.set (11 + k) (.int .i64 p))
        have HG1 := Lib.hid (grown_set HG.out (11 + k) (.int .i64 p))
        obtain ⟨w1, hw1⟩ : ∃ w1, w1 = wr.setCell ⟨g, 11 + k, none⟩ (.int .i64 p) := ⟨_, rfl⟩
        have hcell1 : w1.cell? ⟨g, k, none⟩ = some (.int .i64 0) := by
          rw [hw1]
          exact (row_cell HR1.out k).trans (by rw [List.getElem?_toArray, List.getElem?_set_ne (by omega), bcells_cnt F p (by omega), HZ.out]; rfl)
        rw [← hw1] at HR1 HG1 ⊢
        clear hw1 hcell hfrk hfrj hcellj
        have hfrk := row_free HR1.out k
        go_still_tail 10, (by kernel_rfl)
        change wpList _ _ _ _ _ w1.drew
        have HR2 : Hid (RowV (w1.setCell ⟨g, k, none⟩ (.int .i64 1)) g 168 (bcells F (p + q))) := Lib.hid (by
          rw [← HQ.out, ← cells_first HH.out HZ.out]
          exact HR1.out.set k (.int .i64 1))
        have HG2 := Lib.hid (grown_set HG1.out k (.int .i64 1))
        go_wp2
        go_roundw
        case rel =>
          refine ⟨p + q, by omega, by omega, by go_num, ?_, HR2.out, grown_drew HG2.out⟩
          rw [← HQ.out]
          exact HH.out.after
        case measure => simp [intOf]; omega
      · have hd : ((z : Int) == 0) = false := by rw [beq_eq_false_iff_ne]; omega
        have H0 := Lib.hid h0
        clear h0
        go_wp2
        go_still_tail 10, (by kernel_rfl)
        change wpList _ _ _ _ _ wr.drew
        have HR2 : Hid (RowV (wr.setCell ⟨g, k, none⟩ (.int .i64 ((z : Nat) + 1))) g 168 (bcells F (p + q))) := Lib.hid (by
          have := HR.out.set k (.int .i64 ((cnt F k p : Nat) + 1))
          rw [cells_more HH.out (by rw [HZ.out]; exact H0.out), HQ.out, HZ.out] at this
          exact this)
        have HG2 := Lib.hid (grown_set HG.out k (.int .i64 ((z : Nat) + 1)))
        go_wp2
        go_roundw
        case rel =>
          refine ⟨p + q, by omega, by omega, by go_num, ?_, HR2.out, grown_drew HG2.out⟩
          rw [← HQ.out]
          exact HH.out.after
        case measure => simp [intOf]; omega
    · obtain rfl : p = e := by omega
      go_wp2
      go_end0
      exact ⟨rfl, HR.out, HG.out, HC.out⟩
end Go.Proofs.YtgkindoidmglnaaGreatDoor.TCut
/- Bits that are turned: turn. -/
namespace Go.Proofs.YtgkindoidmglnaaGreatDoor.TTurn
open Go.RowKit WMem WPlain TPlain TBits TSet TWalk TOrd TCut

def flipB (x : UInt8) (s : Nat) : UInt8 := UInt8.ofNat (x.toNat ^^^ 2 ^ s)
/-- one bit turned; n bits from a on -/
def flip (l : List UInt8) (i : Nat) : List UInt8 := l.set (i / 8) (flipB (l.getD (i / 8) 0) (i % 8))
def flips (l : List UInt8) (a : Nat) : Nat → List UInt8
  | 0 => l
  | n + 1 => flip (flips l a n) (a + n)
theorem flip_len (l : List UInt8) (i : Nat) : (flip l i).length = l.length := by simp [flip]
theorem flips_len (l : List UInt8) (a n : Nat) : (flips l a n).length = l.length := by
  induction n with
  | zero => rfl
  | succ n ih => simp only [flips]; rw [flip_len, ih]
theorem xor_go (x : UInt8) (s : Nat) (hs : s < 8) : bits BinOp.xor IntKind.u8 (x.toNat : Int) (IntKind.u8.wrap (2 ^ s)) = ((flipB x s).toNat : Int) := by
  have hx := byte_lt x
  have h2 : 2 ^ s < 256 := Nat.lt_of_le_of_lt (Nat.pow_le_pow_right (by decide) (show s ≤ 7 by omega)) (by decide)
  have h0 : IntKind.u8.wrap (2 ^ s) = (2 ^ s : Int) := by
    rw [show (2 : Int) ^ s = ((2 ^ s : Nat) : Int) by push_cast; rfl, IntKind.wrap_u8']
    generalize 2 ^ s = m at h2 ⊢
    omega
  rw [h0]
  show IntKind.u8.wrap ((BitVec.ofInt 8 (x.toNat : Int) ^^^ BitVec.ofInt 8 (2 ^ s)).toNat : Int) = _
  have h : (BitVec.ofInt 8 (x.toNat : Int) ^^^ BitVec.ofInt 8 (2 ^ s)).toNat = x.toNat ^^^ 2 ^ s := by
    rw [BitVec.toNat_xor]
    have h1 : (BitVec.ofInt 8 (x.toNat : Int)).toNat = x.toNat := by simp
    have h3 : (BitVec.ofInt 8 (2 ^ s)).toNat = 2 ^ s := by
      rw [show (2 : Int) ^ s = ((2 ^ s : Nat) : Int) by push_cast; rfl]
      simp only [BitVec.ofInt_natCast, BitVec.toNat_ofNat]
      exact Nat.mod_eq_of_lt h2
    rw [h1, h3]
  have h4 : x.toNat ^^^ 2 ^ s < 256 := Nat.xor_lt_two_pow (n := 8) hx h2
  rw [h, IntKind.wrap_u8']
  unfold flipB
  simp only [UInt8.toNat_ofNat']
  omega
set_option maxHeartbeats 400000 in
set_option maxRecDepth 100000 in
theorem turn_any (l : List UInt8) (rest : List Value) (g c a n : Nat) (w : World) (hl : l.length = 256) (hn : a + n ≤ 2016) (hR : Row w g l rest) :
    Calls Tryz.prog 128 #[.slice (some ⟨g, 0, none⟩) 256 c, .int .i64 a, .int .i64 n] w fun e w' => e = .returned (.tuple #[]) ∧ Row w' g (flips l a n) rest ∧ w.grownBy w' (some g) := by
  have HR0 := Lib.hid hR
  have HL := Lib.hid hl
  clear hR hl
  go_enter Tryz.func128, Tryz.ntmps128
  go_wp2
  go_loopw [9] (fun i wr => ∃ k : Nat, k ≤ n ∧ i = .int .i64 k ∧ Row wr g (flips l a k) rest ∧ w.grownBy wr (some g)) (fun i _ => n - (intOf i).toNat)
  case atStart => exact ⟨0, Nat.zero_le _, rfl, HR0.out, grown_refl _ _⟩
  case round =>
    obtain ⟨k, hk, rfl, hR, hG⟩ := hrel
    have HR := Lib.hid hR
    have HG := Lib.hid hG
    clear hR hG
    by_cases hlt : k < n
    · have hlen : (flips l a k).length = 256 := (flips_len l a k).trans HL.out
      obtain ⟨i, hi⟩ : ∃ i, a + k = i := ⟨_, rfl⟩
      have hiI : wrap64 ((a : Int) + (k : Int)) = (i : Int) := by rw [IntWalk.wrap64_in _ ⟨by omega, by omega⟩]; omega
      have hiI2 : (a : Int) + (k : Int) = (i : Int) := by omega
      have hi2 : i / 8 < (flips l a k).length := by omega
      have hc := HR.out.cell (i := i / 8) hi2
      have hf := HR.out.free (i / 8)
      obtain ⟨x, hxe⟩ : ∃ x, (flips l a k)[i / 8]'hi2 = x := ⟨_, rfl⟩
      rw [hxe] at hc
      have HX : Hid ((flips l a k).getD (i / 8) 0 = x) := Lib.hid (by rw [← hxe]; simp [hi2])
      have hx := byte_lt x
      clear hxe
      obtain ⟨j, hj⟩ : ∃ j, i / 8 = j := ⟨_, rfl⟩
      obtain ⟨s, hs⟩ : ∃ s, i % 8 = s := ⟨_, rfl⟩
      have hs8 : s < 8 := by omega
      have hsI : (s : Int) < 8 := by omega
      have hjI : (j : Int) < 256 := by omega
      have hj0 : (0 : Int) ≤ (j : Int) := by omega
      have hq1 : IntKind.i64.wrap ((i : Int) / 8) = (j : Int) := by rw [IntKind.wrap_i64]; omega
      have hq2 : IntKind.i64.wrap ((i : Int) % 8) = (s : Int) := by rw [IntKind.wrap_i64]; omega
      have hq3 : (i : Int).tmod 8 = (s : Int) := by rw [Int.tmod_eq_emod_of_nonneg (by omega)]; omega
      rw [hj] at hc hf HX
      have hv := xor_go x s hs8
      obtain ⟨y, hy⟩ : ∃ y, flipB x s = y := ⟨_, rfl⟩
      rw [hy] at hv
      have HY := Lib.hid hy
      clear hy
      have HJ := Lib.hid hj
      have HS := Lib.hid hs
      clear hj hs
      have HLEN := Lib.hid hlen
      have HI := Lib.hid hi
      clear hlen hi hi2
      go_wp2
      go_still_tail 10, (by kernel_rfl)
      change wpList _ _ _ _ _ wr.drew
      go_wp2
      go_roundw
      case rel =>
        refine ⟨k + 1, by omega, by go_num, ?_, grown_drew (grown_set HG.out _ _)⟩
        have h1 : flips l a (k + 1) = (flips l a k).set j y := by
          show flip (flips l a k) (a + k) = _
          rw [HI.out]
          unfold flip
          rw [HJ.out, HS.out, HX.out, HY.out]
        rw [h1]
        exact HR.out.set (by have := HLEN.out; omega) y
      case measure => simp [intOf]; omega
    · obtain rfl : k = n := by omega
      go_wp2
      go_end0
      exact ⟨rfl, HR.out, HG.out⟩
end Go.Proofs.YtgkindoidmglnaaGreatDoor.TTurn
