/- mayBe: may a record be? -/
import Derived.Test.YtkkcipjlinfieaaDoorJMay
namespace Go.Proofs.YtkkcipjlinfieaaDoor.JMayBe
open Go.RowKit WMem WPlain JPlain JMem JMay

theorem recMay_eq (kind seq : Int) (l : List Ent) (sum : Nat) (start : Int) : recMay ⟨kind, seq, l, sum, start⟩ = (inB 1 2147483647 seq && hasOk kind l.length && l.all blkOk && restOk ⟨kind, seq, l, sum, start⟩) := rfl
theorem rest_1 (seq : Int) (l : List Ent) (sum : Nat) (start : Int) : restOk ⟨1, seq, l, sum, start⟩ = (((sum : Int) == 0) && (start == 0)) := by
  have : restOk ⟨1, seq, l, sum, start⟩ = decide (sum = 0 ∧ start = 0) := rfl
  rw [this, Bool.eq_iff_iff]
  simp
theorem rest_3 (seq : Int) (l : List Ent) (sum : Nat) (start : Int) : restOk ⟨3, seq, l, sum, start⟩ = ((((sum : Int) == 0) && (start == 0)) && !l.any (·.esc)) := by
  have : restOk ⟨3, seq, l, sum, start⟩ = (decide (sum = 0 ∧ start = 0) && !l.any (·.esc)) := rfl
  rw [this]
  congr 1
  rw [Bool.eq_iff_iff]
  simp
theorem rest_2 (seq : Int) (l : List Ent) (sum : Nat) (start : Int) : restOk ⟨2, seq, l, sum, start⟩ = (start == 0) := by
  have : restOk ⟨2, seq, l, sum, start⟩ = decide (start = 0) := rfl
  rw [this, Bool.eq_iff_iff]
  simp
theorem rest_4 (seq : Int) (l : List Ent) (sum : Nat) (start : Int) : restOk ⟨4, seq, l, sum, start⟩ = (((sum : Int) == 0) && inB 0 511 start) := by
  have : restOk ⟨4, seq, l, sum, start⟩ = decide (sum = 0 ∧ 0 ≤ start ∧ start ≤ 511) := rfl
  rw [this, Bool.eq_iff_iff]
  simp [inB]
set_option maxHeartbeats 2000000 in
theorem mayBe_l (kind seq : Int) (l : List Ent) (sum : Nat) (start : Int) (q : Bool) (hq : recMay ⟨kind, seq, l, sum, start⟩ = q) (B : Nat) (A : Option Addr) (c : Nat) (w : World) (hB : B ≤ w.heap.size) (hA : Ents w B A l) (hl : l.length ≤ 140737488355328) :
    Calls Tryd.prog 29 #[.agg #[.int .i64 kind, .int .i64 seq, .slice A l.length c, .int .u32 (sum : Int), .int .i64 start]] w fun e w' => e = .returned (.bool q) ∧ Below w.heap.size w w' := by
  have HA := Lib.hid hA
  clear hA
  have HX := Lib.hid (Boxed.start w [.int .i64 kind, .int .i64 seq, .slice A l.length c, .int .u32 (sum : Int), .int .i64 start] 38)
  rw [recMay_eq] at hq
  cases q1 : inB 1 2147483647 seq with
  | false =>
    rw [q1] at hq
    obtain rfl : false = q := hq
    go_enter Tryd.func29, Tryd.ntmps29
    go_wp2_with (go_at_call 51; refine (within_q _ _ _ _ q1 _).mono ?_; rintro e w' ⟨rfl, rfl⟩)
    go_ret
    exact ⟨rfl, below_box _⟩
  | true =>
    cases q2 : hasOk kind l.length with
    | false =>
      rw [q1, q2] at hq
      obtain rfl : false = q := hq
      go_enter Tryd.func29, Tryd.ntmps29
      go_wp2_with (first
        | (go_at_call 51; refine (within_q _ _ _ _ q1 _).mono ?_; rintro e w' ⟨rfl, rfl⟩)
        | (go_at_call 48; refine (mayHave_any _ _ _).mono ?_; rintro e w' ⟨rfl, rfl⟩; rw [q2]))
      go_ret
      exact ⟨rfl, below_box _⟩
    | true =>
      have hB1 : Ents (w.alloc (.cells #[.int .i64 kind, .int .i64 seq, .slice A l.length c, .int .u32 (sum : Int), .int .i64 start] 38)) B A l := HA.out.alloc hB _
      have HA1 := Lib.hid hB1
      have HAB := Lib.hid (show B ≤ (w.alloc (.cells #[.int .i64 kind, .int .i64 seq, .slice A l.length c, .int .u32 (sum : Int), .int .i64 start] 38)).heap.size by simp; omega)
      clear hB1
      cases q3 : l.all blkOk with
      | false =>
        rw [q1, q2, q3] at hq
        obtain rfl : false = q := hq
        go_enter Tryd.func29, Tryd.ntmps29
        go_wp2_with (first
          | (go_at_call 51; refine (within_q _ _ _ _ q1 _).mono ?_; rintro e w' ⟨rfl, rfl⟩)
          | (go_at_call 48; refine (mayHave_any _ _ _).mono ?_; rintro e w' ⟨rfl, rfl⟩; rw [q2])
          | (go_at_call 52; refine (mayName_any l false q3 B A c _ HAB.out HA1.out hl).mono ?_; rintro e w1 ⟨rfl, hb1⟩; have HY := Lib.hid (HX.out.go hb1); clear hb1))
        go_ret
        exact ⟨rfl, HY.out.below⟩
      | true =>
        rw [q1, q2, q3] at hq
        obtain rfl : restOk ⟨kind, seq, l, sum, start⟩ = q := hq
        have hk : kind = 1 ∨ kind = 3 ∨ kind = 2 ∨ kind = 4 := by rcases hasOk_cases q2 with h | h | h | h <;> omega
        rcases hk with rfl | rfl | rfl | rfl
        · have HR := Lib.hid (rest_1 seq l sum start)
          generalize restOk ⟨1, seq, l, sum, start⟩ = q at *
          cases d1 : ((sum : Int) == 0) with
          | false =>
            rw [d1] at HR
            go_enter Tryd.func29, Tryd.ntmps29
            go_wp2_with (first
            | (go_at_call 51; refine (within_q _ _ _ _ q1 _).mono ?_; rintro e w' ⟨rfl, rfl⟩)
            | (go_at_call 48; refine (mayHave_any _ _ _).mono ?_; rintro e w' ⟨rfl, rfl⟩; rw [q2])
            | (go_at_call 52; refine (mayName_any l true q3 B A c _ HAB.out HA1.out hl).mono ?_; rintro e w1 ⟨rfl, hb1⟩; have HY := Lib.hid (HX.out.go hb1); obtain ⟨c0, c1, c2, c3, c4⟩ := HY.out.five; clear hb1))
            go_ret
            exact ⟨ret_b HR.out.symm, HY.out.below⟩
          | true =>
            rw [d1] at HR
            go_enter Tryd.func29, Tryd.ntmps29
            go_wp2_with (first
            | (go_at_call 51; refine (within_q _ _ _ _ q1 _).mono ?_; rintro e w' ⟨rfl, rfl⟩)
            | (go_at_call 48; refine (mayHave_any _ _ _).mono ?_; rintro e w' ⟨rfl, rfl⟩; rw [q2])
            | (go_at_call 52; refine (mayName_any l true q3 B A c _ HAB.out HA1.out hl).mono ?_; rintro e w1 ⟨rfl, hb1⟩; have HY := Lib.hid (HX.out.go hb1); obtain ⟨c0, c1, c2, c3, c4⟩ := HY.out.five; clear hb1))
            go_ret
            exact ⟨ret_b HR.out.symm, HY.out.below⟩
        · have HR := Lib.hid (rest_3 seq l sum start)
          generalize restOk ⟨3, seq, l, sum, start⟩ = q at *
          cases d1 : ((sum : Int) == 0) with
          | false =>
            rw [d1] at HR
            go_enter Tryd.func29, Tryd.ntmps29
            go_wp2_with (first
            | (go_at_call 51; refine (within_q _ _ _ _ q1 _).mono ?_; rintro e w' ⟨rfl, rfl⟩)
            | (go_at_call 48; refine (mayHave_any _ _ _).mono ?_; rintro e w' ⟨rfl, rfl⟩; rw [q2])
            | (go_at_call 52; refine (mayName_any l true q3 B A c _ HAB.out HA1.out hl).mono ?_; rintro e w1 ⟨rfl, hb1⟩; have HY := Lib.hid (HX.out.go hb1); obtain ⟨c0, c1, c2, c3, c4⟩ := HY.out.five; clear hb1))
            go_ret
            exact ⟨ret_b HR.out.symm, HY.out.below⟩
          | true =>
            rw [d1] at HR
            cases d2 : (start == 0) with
            | false =>
              rw [d2] at HR
              go_enter Tryd.func29, Tryd.ntmps29
              go_wp2_with (first
            | (go_at_call 51; refine (within_q _ _ _ _ q1 _).mono ?_; rintro e w' ⟨rfl, rfl⟩)
            | (go_at_call 48; refine (mayHave_any _ _ _).mono ?_; rintro e w' ⟨rfl, rfl⟩; rw [q2])
            | (go_at_call 52; refine (mayName_any l true q3 B A c _ HAB.out HA1.out hl).mono ?_; rintro e w1 ⟨rfl, hb1⟩; have HY := Lib.hid (HX.out.go hb1); obtain ⟨c0, c1, c2, c3, c4⟩ := HY.out.five; clear hb1))
              go_ret
              exact ⟨ret_b HR.out.symm, HY.out.below⟩
            | true =>
              rw [d2] at HR
              obtain ⟨z, hz⟩ : ∃ z, l.any (·.esc) = z := ⟨_, rfl⟩
              have HQ : Hid ((!z) = q) := Lib.hid (by rw [HR.out, hz]; rfl)
              clear HR
              go_enter Tryd.func29, Tryd.ntmps29
              go_wp2_with (first
            | (go_at_call 51; refine (within_q _ _ _ _ q1 _).mono ?_; rintro e w' ⟨rfl, rfl⟩)
            | (go_at_call 48; refine (mayHave_any _ _ _).mono ?_; rintro e w' ⟨rfl, rfl⟩; rw [q2])
            | (go_at_call 52; refine (mayName_any l true q3 B A c _ HAB.out HA1.out hl).mono ?_; rintro e w1 ⟨rfl, hb1⟩; have HY := Lib.hid (HX.out.go hb1); obtain ⟨c0, c1, c2, c3, c4⟩ := HY.out.five; clear hb1)
            | (go_at_call 53; refine (containsEsc_any l z hz B A c _ (Nat.le_trans hB HY.out.below.size) (HA.out.below HY.out.below hB) hl).mono ?_; rintro e w2 ⟨rfl, hb2⟩; have HZ := Lib.hid (HY.out.go hb2); clear hb2))
              go_ret
              exact ⟨ret_b HQ.out, HZ.out.below⟩
        · have HR := Lib.hid (rest_2 seq l sum start)
          generalize restOk ⟨2, seq, l, sum, start⟩ = q at *
          go_enter Tryd.func29, Tryd.ntmps29
          go_wp2_with (first
            | (go_at_call 51; refine (within_q _ _ _ _ q1 _).mono ?_; rintro e w' ⟨rfl, rfl⟩)
            | (go_at_call 48; refine (mayHave_any _ _ _).mono ?_; rintro e w' ⟨rfl, rfl⟩; rw [q2])
            | (go_at_call 52; refine (mayName_any l true q3 B A c _ HAB.out HA1.out hl).mono ?_; rintro e w1 ⟨rfl, hb1⟩; have HY := Lib.hid (HX.out.go hb1); obtain ⟨c0, c1, c2, c3, c4⟩ := HY.out.five; clear hb1))
          go_ret
          exact ⟨ret_b HR.out.symm, HY.out.below⟩
        · have HR := Lib.hid (rest_4 seq l sum start)
          generalize restOk ⟨4, seq, l, sum, start⟩ = q at *
          cases d1 : ((sum : Int) == 0) with
          | false =>
            rw [d1] at HR
            go_enter Tryd.func29, Tryd.ntmps29
            go_wp2_with (first
            | (go_at_call 51; refine (within_q _ _ _ _ q1 _).mono ?_; rintro e w' ⟨rfl, rfl⟩)
            | (go_at_call 48; refine (mayHave_any _ _ _).mono ?_; rintro e w' ⟨rfl, rfl⟩; rw [q2])
            | (go_at_call 52; refine (mayName_any l true q3 B A c _ HAB.out HA1.out hl).mono ?_; rintro e w1 ⟨rfl, hb1⟩; have HY := Lib.hid (HX.out.go hb1); obtain ⟨c0, c1, c2, c3, c4⟩ := HY.out.five; clear hb1))
            go_ret
            exact ⟨ret_b HR.out.symm, HY.out.below⟩
          | true =>
            rw [d1] at HR
            go_enter Tryd.func29, Tryd.ntmps29
            go_wp2_with (first
            | (go_at_call 51; refine (within_any _ _ _ _).mono ?_; rintro e w' ⟨rfl, rfl⟩; try rw [q1])
            | (go_at_call 48; refine (mayHave_any _ _ _).mono ?_; rintro e w' ⟨rfl, rfl⟩; rw [q2])
            | (go_at_call 52; refine (mayName_any l true q3 B A c _ HAB.out HA1.out hl).mono ?_; rintro e w1 ⟨rfl, hb1⟩; have HY := Lib.hid (HX.out.go hb1); obtain ⟨c0, c1, c2, c3, c4⟩ := HY.out.five; clear hb1))
            go_ret
            exact ⟨ret_b HR.out.symm, HY.out.below⟩
theorem mayBe_any (r : Rec) (q : Bool) (hq : recMay r = q) (B : Nat) (A : Option Addr) (c : Nat) (w : World) (hB : B ≤ w.heap.size) (hA : Ents w B A r.ents) (hl : r.ents.length ≤ 140737488355328) :
    Calls Tryd.prog 29 #[recV r A c] w fun e w' => e = .returned (.bool q) ∧ Below w.heap.size w w' :=
  mayBe_l r.kind r.seq r.ents r.sum r.start q hq B A c w hB hA hl
end Go.Proofs.YtkkcipjlinfieaaDoor.JMayBe
