/- A disk that a script was done to. -/
import Derived.Test.YtkemakemolohdaaLAwake
namespace Go.Proofs.Ytkemakemolohdaa.LMade
open Go.RowKit WMem WPlain WAppend Ext Map DPlain DMem Mk DBase DRead DPend DWrite DFlush DPending DCopy RNew RRead RWrite RFlush DLaw LStep LStepP LAlike LAwake

/-- the slice that begins at A reads as a script; it and its own slices lie below block B -/
def OpsIn (w : World) (B : Nat) (A : Option Addr) (ops : List OpV) : Prop :=
  ∀ (i : Nat) (hi : i < ops.length), ∃ a K c, A = some a ∧ a.block < B ∧ w.cell? (a.add (i * 4)) = some (.int .i64 ops[i].what) ∧ w.cell? (a.add (i * 4 + 1)) = some (.int .i64 ops[i].block) ∧ w.cell? (a.add (i * 4 + 2)) = some (.int .i64 ops[i].fill) ∧
    w.cell? (a.add (i * 4 + 3)) = some (.slice K ops[i].keep.length c) ∧ Sl w B K (ops[i].keep.map boolv)
theorem OpsIn.below {w w' : World} {B B' : Nat} {A : Option Addr} {ops : List OpV} (h : OpsIn w B A ops) (hb : Below B' w w') (hB : B ≤ B') : OpsIn w' B A ops := fun i hi => by
  obtain ⟨a, K, c, hA, hab, h1, h2, h3, h4, h5⟩ := h i hi
  have hk : ∀ n, w'.cell? (a.add n) = w.cell? (a.add n) := fun n => hb.cell (by rw [addr_add_block]; omega)
  exact ⟨a, K, c, hA, hab, (hk _).trans h1, (hk _).trans h2, (hk _).trans h3, (hk _).trans h4, h5.below_le hb hB⟩

theorem addr_field (a : Addr) (n j : Nat) (hj : j ≠ 0) : (⟨(a.add n).block, (a.add n).off + j, none⟩ : Addr) = a.add (n + j) := by
  rw [← addr_add_add a n j]
  generalize a.add n = x
  unfold Addr.add
  rw [if_neg hj]
def cut (n k : Nat) : Nat := if n < k then n else k

set_option maxHeartbeats 4000000 in
set_option maxRecDepth 100000 in
theorem made_any (blocks : Int) (ops : List OpV) (B : Nat) (A : Option Addr) (c : Nat) (w : World) (hA : OpsIn w B A ops) (hB : B ≤ w.heap.size) (hl : ops.length ≤ 140737488355328) :
    Calls Try.prog 24 #[.int .i64 blocks, .slice A ops.length c] w fun e w' => ∃ g S, e = .returned (.pointer (some ⟨g, 0, none⟩)) ∧ Own w w' S g (runs (St.new (128 + low127 blocks)) ops (cut ops.length 500)) := by
  have hand := and127 blocks
  have h127 := low127_lt blocks
  have HA := Lib.hid hA
  clear hA
  generalize low127 blocks = q at *
  go_enter Try.func24, Try.ntmps24
  go_wp2_with fail
  refine (New_yes (128 + q) w (by omega) (by omega)).mono ?_
  rintro e w1 ⟨d, rfl, hd, hb1⟩
  have hs1 := hb1.size
  have HD := Lib.hid hd
  have HB1 := Lib.hid hb1
  clear hd hb1
  go_wp2_with fail
  refine (RNew_yes (128 + q) w1 (by omega) (by omega)).mono ?_
  rintro e w2 ⟨r, rfl, hr, hb2⟩
  have hs2 := hb2.size
  have HT : Hid (Two w2 w.heap.size (Made w w1) (Made w1 w2) d r (St.new (128 + q))) := ⟨HD.out.below hb2, hr, fun k h1 h2 => by have := h1.2; have := h2.1; omega, fun k hk => hk.1, fun k hk => by have := hk.1; omega⟩
  have HB2 : Hid (Below w.heap.size w w2) := HB1.out.trans (hb2.mono hs1)
  clear hr hb2
  go_wp2
  go_loopw [9] (fun i wr => ∃ (k : Nat) (S R : Nat → Prop), k ≤ ops.length ∧ k ≤ 500 ∧ i = .int .i64 k ∧ Two wr w.heap.size S R d r (runs (St.new (128 + q)) ops k) ∧ Below w.heap.size w wr) (fun i _ => ops.length - (intOf i).toNat)
  case atStart => exact ⟨0, _, _, Nat.zero_le _, Nat.zero_le _, rfl, by rw [runs_zero]; exact HT.out, HB2.out⟩
  case round =>
    obtain ⟨k, S, R, hk, hk5, rfl, ht, hb⟩ := hrel
    have HTr := Lib.hid ht
    have HBr := Lib.hid hb
    have hsr := hb.size
    clear ht hb
    by_cases hlt : k < ops.length ∧ k < 500
    · obtain ⟨hlt1, hlt2⟩ := hlt
      obtain ⟨a, K, ck, rfl, hab, p0, p1, p2, p3, hK⟩ := HA.out k hlt1
      have hkc : ∀ n, wr.cell? (a.add n) = w.cell? (a.add n) := fun n => HBr.out.cell (by rw [addr_add_block]; omega)
      have r0 := (hkc _).trans p0
      have r1 : wr.cell? ⟨(a.add (k * 4)).block, (a.add (k * 4)).off + 1, none⟩ = _ := (congrArg wr.cell? (addr_field a (k * 4) 1 (by decide))).trans ((hkc _).trans p1)
      have r2 : wr.cell? ⟨(a.add (k * 4)).block, (a.add (k * 4)).off + 2, none⟩ = _ := (congrArg wr.cell? (addr_field a (k * 4) 2 (by decide))).trans ((hkc _).trans p2)
      have r3 : wr.cell? ⟨(a.add (k * 4)).block, (a.add (k * 4)).off + 3, none⟩ = _ := (congrArg wr.cell? (addr_field a (k * 4) 3 (by decide))).trans ((hkc _).trans p3)
      have HK : Hid (Sl wr w.heap.size K (ops[k].keep.map boolv)) := (hK.below_le HBr.out hB).up hB
      have hk0 : (0 : Int) ≤ (k : Int) := Int.natCast_nonneg _
      have hk1 : (k : Int) < (ops.length : Int) := by omega
      have hk2 : (k : Int) < 500 := by omega
      have HRS := Lib.hid (runs_succ (St.new (128 + q)) ops hlt1)
      have HC := Lib.hid (runs_count (St.new (128 + q)) ops k)
      clear hkc p0 p1 p2 p3 hK
      generalize ops[k] = o at *
      go_wp2_with fail
      refine (step_any w.heap.size S R d r (runs (St.new (128 + q)) ops k) o K ck wr HTr.out HK.out hsr (by have h0 : (St.new (128 + q)).N = 0 := rfl; have h1 := HC.out; rw [h0] at h1; omega)).mono ?_
      rintro e w3 ⟨rfl, S', R', ht3, hb3⟩
      have HT3 := Lib.hid ht3
      have HB3 := Lib.hid hb3
      clear ht3 hb3
      go_wp2
      go_roundw
      case rel => exact ⟨k + 1, S', R', by omega, by omega, by go_num, by rw [HRS.out]; exact HT3.out, HBr.out.trans HB3.out⟩
      case measure => simp [intOf]; omega
    · have hcut : cut ops.length 500 = k := by unfold cut; split <;> omega
      have HC := Lib.hid hcut
      clear hcut
      by_cases e : k < ops.length
      · have hd1 : decide ((k : Int) < 500) = false := by simp; omega
        have hk1 : (k : Int) < (ops.length : Int) := by omega
        clear hlt
        go_wp2
        go_ret
        exact ⟨d, S, rfl, by rw [HC.out]; exact ⟨HTr.out.dev, HTr.out.newS, HBr.out⟩⟩
      · have hd1 : decide ((k : Int) < (ops.length : Int)) = false := by simp; omega
        clear hlt
        go_wp2
        go_ret
        exact ⟨d, S, rfl, by rw [HC.out]; exact ⟨HTr.out.dev, HTr.out.newS, HBr.out⟩⟩
end Go.Proofs.Ytkemakemolohdaa.LMade
