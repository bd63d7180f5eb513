/- May a record be? The program's answer. -/
import Derived.Test.YtmlgchmladkfpaaGreatDoorMg24
import Derived.WalkKit
import Derived.WalkSpells
import Derived.WalkLawsBesides
import Derived.Handy
import Derived.Outline
import Derived.RegionTactic
import Derived.BigRegion
import Derived.Deep.QuietTactic
import Derived.BigQuiet
import Derived.Deep.RegionHeld3
namespace Go.Proofs.YtmlgchmladkfpaaGreatDoor.JMay
open Go.RowKit WMem WPlain JPlain JMem

def inB (a b x : Int) : Bool := decide (a ≤ x ∧ x ≤ b)
theorem ret_b {q q' : Bool} (h : q = q') : Ending.returned (.bool q) = Ending.returned (.bool q') := by rw [h]
theorem within_any (a b x : Int) (w : World) : Calls Tryz.prog 168 #[.int .i64 a, .int .i64 b, .int .i64 x] w fun e w' => e = .returned (.bool (inB a b x)) ∧ w = w' := by
  by_cases h1 : a ≤ x
  · have d1 : decide (a ≤ x) = true := by simpa using h1
    have HQ := Lib.hid (show inB a b x = decide (x ≤ b) by simp [inB, h1])
    go_enter Tryz.func168, Tryz.ntmps168
    go_wp2
    go_ret
    exact ⟨ret_b HQ.out.symm, rfl⟩
  · have d1 : decide (a ≤ x) = false := by simpa using h1
    have HQ := Lib.hid (show inB a b x = false by simp [inB, h1])
    go_enter Tryz.func168, Tryz.ntmps168
    go_wp2
    go_ret
    exact ⟨ret_b HQ.out.symm, rfl⟩
theorem within_q (a b x : Int) (q : Bool) (h : inB a b x = q) (w : World) : Calls Tryz.prog 168 #[.int .i64 a, .int .i64 b, .int .i64 x] w fun e w' => e = .returned (.bool q) ∧ w = w' := by
  subst h
  exact within_any a b x w
theorem hasOk_int (kind : Int) (n : Nat) : hasOk kind n = if kind = 1 then inB 1 48 n else if kind = 3 then inB 1 60 n else decide ((kind = 2 ∨ kind = 4) ∧ (n : Int) = 0) := by
  unfold hasOk inB
  split
  · exact decide_eq_decide.2 (by omega)
  · split
    · exact decide_eq_decide.2 (by omega)
    · exact decide_eq_decide.2 (by omega)
theorem mayHave_any (kind : Int) (n : Nat) (w : World) : Calls Tryz.prog 169 #[.int .i64 kind, .int .i64 (n : Int)] w fun e w' => e = .returned (.bool (hasOk kind n)) ∧ w = w' := by
  rw [hasOk_int]
  by_cases k1 : kind = 1
  · subst k1
    go_enter Tryz.func169, Tryz.ntmps169
    go_wp2_with (go_at_call 168; refine (within_any _ _ _ _).mono ?_; rintro e w' ⟨rfl, rfl⟩)
    go_ret
    exact ⟨rfl, rfl⟩
  · have d1 : (kind == 1) = false := by simpa using k1
    rw [if_neg k1]
    by_cases k3 : kind = 3
    · subst k3
      clear d1
      go_enter Tryz.func169, Tryz.ntmps169
      go_wp2_with (go_at_call 168; refine (within_any _ _ _ _).mono ?_; rintro e w' ⟨rfl, rfl⟩)
      go_ret
      exact ⟨rfl, rfl⟩
    · have d3 : (kind == 3) = false := by simpa using k3
      rw [if_neg k3]
      by_cases k2 : kind = 2
      · subst k2
        obtain ⟨q, hq⟩ : ∃ q, q = decide (((2 : Int) = 2 ∨ (2 : Int) = 4) ∧ (n : Int) = 0) := ⟨_, rfl⟩
        have HQ : Hid (((n : Int) == 0) = q) := Lib.hid (by rw [hq, Bool.eq_iff_iff]; simp)
        rw [← hq]
        clear hq
        clear d1 d3 k1 k3
        go_enter Tryz.func169, Tryz.ntmps169
        go_wp2
        go_ret
        exact ⟨ret_b HQ.out, rfl⟩
      · have d2 : (kind == 2) = false := by simpa using k2
        by_cases k4 : kind = 4
        · subst k4
          obtain ⟨q, hq⟩ : ∃ q, q = decide (((4 : Int) = 2 ∨ (4 : Int) = 4) ∧ (n : Int) = 0) := ⟨_, rfl⟩
          have HQ : Hid (((n : Int) == 0) = q) := Lib.hid (by rw [hq, Bool.eq_iff_iff]; simp)
          rw [← hq]
          clear hq
          clear d1 d3 k1 k3 d2 k2
          go_enter Tryz.func169, Tryz.ntmps169
          go_wp2
          go_ret
          exact ⟨ret_b HQ.out, rfl⟩
        · have d4 : (kind == 4) = false := by simpa using k4
          have HQ := Lib.hid (show decide ((kind = 2 ∨ kind = 4) ∧ (n : Int) = 0) = false by simp [k2, k4])
          clear k1 k3 k2 k4
          go_enter Tryz.func169, Tryz.ntmps169
          go_wp2
          go_ret
          exact ⟨by rw [HQ.out]; rfl, rfl⟩
theorem isBlock_any (x : Int) (w : World) : Calls Tryz.prog 202 #[.int .i64 x] w fun e w' => e = .returned (.bool (inB 0 4095 x)) ∧ w = w' := by
  go_enter Tryz.func202, Tryz.ntmps202
  go_wp2_with (go_at_call 168; refine (within_any _ _ _ _).mono ?_; rintro e w' ⟨rfl, rfl⟩)
  go_ret
  exact ⟨rfl, rfl⟩
theorem isEscaped_any (b : Int) (q : Bool) (w : World) : Calls Tryz.prog 172 #[.agg #[.int .i64 b, .bool q]] w fun e w' => e = .returned (.bool q) ∧ Below w.heap.size w w' := by
  go_enter Tryz.func172, Tryz.ntmps172
  go_wp2
  go_ret
  exact ⟨rfl, below_box _⟩
theorem noName_any (b : Int) (q : Bool) (w : World) : Calls Tryz.prog 201 #[.agg #[.int .i64 b, .bool q]] w fun e w' => e = .returned (.bool (!inB 0 4095 b)) ∧ Below w.heap.size w w' := by
  go_enter Tryz.func201, Tryz.ntmps201
  go_wp2_with (go_at_call 202; refine (isBlock_any _ _).mono ?_; rintro e w' ⟨rfl, rfl⟩)
  go_ret
  exact ⟨rfl, below_box _⟩

theorem any_none {l : List Ent} {f : Ent → Bool} {k : Nat} (hk : k < l.length) (h : ∀ x ∈ l.take k, f x = false) (hx : f l[k] = false) : ∀ x ∈ l.take (k + 1), f x = false := by
  intro y hy
  rw [List.take_succ_eq_append_getElem hk] at hy
  rcases List.mem_append.1 hy with hy | hy
  · exact h y hy
  · rw [List.mem_singleton.1 hy]; exact hx
theorem any_yes {l : List Ent} {f : Ent → Bool} {k : Nat} (hk : k < l.length) (hx : f l[k] = true) : l.any f = true := List.any_eq_true.2 ⟨_, List.getElem_mem hk, hx⟩
theorem any_no {l : List Ent} {f : Ent → Bool} (h : ∀ x ∈ l.take l.length, f x = false) : l.any f = false := by
  rw [List.take_length] at h
  rw [List.any_eq_false]
  intro x hx
  simp [h x hx]
/-- whether an index that was found is one -/
def foundAt (q : Bool) (n : Int) : Prop := decide (0 ≤ n) = q

set_option maxHeartbeats 1000000 in
theorem indexEsc_any (l : List Ent) (B : Nat) (A : Option Addr) (c : Nat) (w : World) (hB : B ≤ w.heap.size) (hA : Ents w B A l) (hl : l.length ≤ 140737488355328) :
    Calls Tryz.prog 203 #[.slice A l.length c, .func (.func 172) #[] #[]] w fun e w' => ∃ n : Int, e = .returned (.int .i64 n) ∧ foundAt (l.any (·.esc)) n ∧ Below w.heap.size w w' := by
  have HA := Lib.hid hA
  clear hA
  go_enter Tryz.func203, Tryz.ntmps203
  go_wp2
  go_loopw [8] (fun i wr => ∃ k : Nat, k ≤ l.length ∧ i = .int .i64 k ∧ Below w.heap.size w wr ∧ Hid (∀ x ∈ l.take k, x.esc = false)) (fun i _ => l.length - (intOf i).toNat)
  case atStart => exact ⟨0, Nat.zero_le _, rfl, Below.refl _ _, Lib.hid (by simp)⟩
  case round =>
    obtain ⟨k, hk, rfl, hb, HK⟩ := hrel
    have HB := Lib.hid hb
    have sB := hb.size
    clear hb
    by_cases hlt : k < l.length
    · obtain ⟨a, rfl, _, c0, c1⟩ := (HA.out.below HB.out hB).at_ hlt
      have HN := Lib.hid (fun h => any_none (f := (·.esc)) hlt HK.out h)
      have HY := Lib.hid (fun h => any_yes (f := (·.esc)) hlt h)
      generalize hx : l[k] = x at *
      obtain ⟨b, q⟩ := x
      cases q with
      | false =>
        have HNN := Lib.hid (HN.out rfl)
        go_wp2_with fail
        refine (isEscaped_any b false _).mono ?_
        rintro e w1 ⟨rfl, hb1⟩
        have HB1 := Lib.hid (below_up HB.out hb1 sB)
        clear hb1
        go_wp2
        go_roundw
        case rel => exact ⟨k + 1, by omega, by go_num, HB1.out, HNN⟩
        case measure => simp [intOf]; omega
      | true =>
        have HYY := Lib.hid (HY.out rfl)
        go_wp2_with fail
        refine (isEscaped_any b true _).mono ?_
        rintro e w1 ⟨rfl, hb1⟩
        have HB1 := Lib.hid (below_up HB.out hb1 sB)
        clear hb1
        go_wp2
        go_ret
        exact ⟨_, rfl, by unfold foundAt; rw [HYY.out]; simp, HB1.out⟩
    · obtain rfl : k = l.length := by omega
      have HF := Lib.hid (any_no (f := (·.esc)) HK.out)
      go_wp2
      go_ret
      exact ⟨_, rfl, by unfold foundAt; rw [HF.out]; rfl, HB.out⟩
set_option maxHeartbeats 1000000 in
theorem indexName_any (l : List Ent) (B : Nat) (A : Option Addr) (c : Nat) (w : World) (hB : B ≤ w.heap.size) (hA : Ents w B A l) (hl : l.length ≤ 140737488355328) :
    Calls Tryz.prog 203 #[.slice A l.length c, .func (.func 201) #[] #[]] w fun e w' => ∃ n : Int, e = .returned (.int .i64 n) ∧ foundAt (l.any (fun x => !inB 0 4095 x.blk)) n ∧ Below w.heap.size w w' := by
  have HA := Lib.hid hA
  clear hA
  go_enter Tryz.func203, Tryz.ntmps203
  go_wp2
  go_loopw [8] (fun i wr => ∃ k : Nat, k ≤ l.length ∧ i = .int .i64 k ∧ Below w.heap.size w wr ∧ Hid (∀ x ∈ l.take k, (!inB 0 4095 x.blk) = false)) (fun i _ => l.length - (intOf i).toNat)
  case atStart => exact ⟨0, Nat.zero_le _, rfl, Below.refl _ _, Lib.hid (by simp)⟩
  case round =>
    obtain ⟨k, hk, rfl, hb, HK⟩ := hrel
    have HB := Lib.hid hb
    have sB := hb.size
    clear hb
    by_cases hlt : k < l.length
    · obtain ⟨a, rfl, _, c0, c1⟩ := (HA.out.below HB.out hB).at_ hlt
      have HN := Lib.hid (fun h => any_none (f := fun x => !inB 0 4095 x.blk) hlt HK.out h)
      have HY := Lib.hid (fun h => any_yes (f := fun x => !inB 0 4095 x.blk) hlt h)
      generalize hx : l[k] = x at *
      obtain ⟨b, q⟩ := x
      cases hq : inB 0 4095 b with
      | true =>
        have HNN := Lib.hid (HN.out (by simp only [hq]; rfl))
        go_wp2_with fail
        refine (noName_any b q _).mono ?_
        rintro e w1 ⟨rfl, hb1⟩
        rw [hq]
        have HB1 := Lib.hid (below_up HB.out hb1 sB)
        clear hb1
        go_wp2
        go_roundw
        case rel => exact ⟨k + 1, by omega, by go_num, HB1.out, HNN⟩
        case measure => simp [intOf]; omega
      | false =>
        have HYY := Lib.hid (HY.out (by simp only [hq]; rfl))
        go_wp2_with fail
        refine (noName_any b q _).mono ?_
        rintro e w1 ⟨rfl, hb1⟩
        rw [hq]
        have HB1 := Lib.hid (below_up HB.out hb1 sB)
        clear hb1
        go_wp2
        go_ret
        exact ⟨_, rfl, by unfold foundAt; rw [HYY.out]; simp, HB1.out⟩
    · obtain rfl : k = l.length := by omega
      have HF := Lib.hid (any_no (f := fun x => !inB 0 4095 x.blk) HK.out)
      go_wp2
      go_ret
      exact ⟨_, rfl, by unfold foundAt; rw [HF.out]; rfl, HB.out⟩
theorem containsEsc_any (l : List Ent) (q : Bool) (hq : l.any (·.esc) = q) (B : Nat) (A : Option Addr) (c : Nat) (w : World) (hB : B ≤ w.heap.size) (hA : Ents w B A l) (hl : l.length ≤ 140737488355328) :
    Calls Tryz.prog 171 #[.slice A l.length c, .func (.func 172) #[] #[]] w fun e w' => e = .returned (.bool q) ∧ Below w.heap.size w w' := by
  subst hq
  have HI := Lib.hid (indexEsc_any l B A c w hB hA hl)
  clear hA
  go_enter Tryz.func171, Tryz.ntmps171
  go_wp2_with fail
  refine HI.out.mono ?_
  rintro e w1 ⟨n, rfl, hn, hb⟩
  have HN := Lib.hid hn
  clear hn
  go_wp2
  go_ret
  exact ⟨ret_b HN.out, hb⟩
theorem containsName_any (l : List Ent) (q : Bool) (hq : l.any (fun x => !inB 0 4095 x.blk) = q) (B : Nat) (A : Option Addr) (c : Nat) (w : World) (hB : B ≤ w.heap.size) (hA : Ents w B A l) (hl : l.length ≤ 140737488355328) :
    Calls Tryz.prog 171 #[.slice A l.length c, .func (.func 201) #[] #[]] w fun e w' => e = .returned (.bool q) ∧ Below w.heap.size w w' := by
  subst hq
  have HI := Lib.hid (indexName_any l B A c w hB hA hl)
  clear hA
  go_enter Tryz.func171, Tryz.ntmps171
  go_wp2_with fail
  refine HI.out.mono ?_
  rintro e w1 ⟨n, rfl, hn, hb⟩
  have HN := Lib.hid hn
  clear hn
  go_wp2
  go_ret
  exact ⟨ret_b HN.out, hb⟩
theorem mayName_any (l : List Ent) (q : Bool) (hq : l.all blkOk = q) (B : Nat) (A : Option Addr) (c : Nat) (w : World) (hB : B ≤ w.heap.size) (hA : Ents w B A l) (hl : l.length ≤ 140737488355328) :
    Calls Tryz.prog 170 #[.slice A l.length c] w fun e w' => e = .returned (.bool q) ∧ Below w.heap.size w w' := by
  have HI := Lib.hid (containsName_any l (!q) (by subst hq; rw [List.all_eq_not_any_not, Bool.not_not]; rfl) B A c w hB hA hl)
  clear hA hq
  go_enter Tryz.func170, Tryz.ntmps170
  go_wp2_with fail
  refine HI.out.mono ?_
  rintro e w1 ⟨rfl, hb⟩
  go_wp2
  go_ret
  exact ⟨by simp, hb⟩
end Go.Proofs.YtmlgchmladkfpaaGreatDoor.JMay
/- mayBe: may a record be? -/
namespace Go.Proofs.YtmlgchmladkfpaaGreatDoor.JMayBe
open Go.RowKit WMem WPlain JPlain JMem JMay

theorem recMay_eq (kind seq : Int) (l : List Ent) (sum : Nat) (start : Int) : recMay ⟨kind, seq, l, sum, start⟩ = (inB 1 2147483647 seq && hasOk kind l.length && l.all blkOk && restOk ⟨kind, seq, l, sum, start⟩) := rfl
theorem rest_1 (seq : Int) (l : List Ent) (sum : Nat) (start : Int) : restOk ⟨1, seq, l, sum, start⟩ = (((sum : Int) == 0) && (start == 0)) := by
  have : restOk ⟨1, seq, l, sum, start⟩ = decide (sum = 0 ∧ start = 0) := rfl
  rw [this, Bool.eq_iff_iff]
  simp
theorem rest_3 (seq : Int) (l : List Ent) (sum : Nat) (start : Int) : restOk ⟨3, seq, l, sum, start⟩ = ((((sum : Int) == 0) && (start == 0)) && !l.any (·.esc)) := by
  have : restOk ⟨3, seq, l, sum, start⟩ = (decide (sum = 0 ∧ start = 0) && !l.any (·.esc)) := rfl
  rw [this]
  congr 1
  rw [Bool.eq_iff_iff]
  simp
theorem rest_2 (seq : Int) (l : List Ent) (sum : Nat) (start : Int) : restOk ⟨2, seq, l, sum, start⟩ = (start == 0) := by
  have : restOk ⟨2, seq, l, sum, start⟩ = decide (start = 0) := rfl
  rw [this, Bool.eq_iff_iff]
  simp
theorem rest_4 (seq : Int) (l : List Ent) (sum : Nat) (start : Int) : restOk ⟨4, seq, l, sum, start⟩ = (((sum : Int) == 0) && inB 0 511 start) := by
  have : restOk ⟨4, seq, l, sum, start⟩ = decide (sum = 0 ∧ 0 ≤ start ∧ start ≤ 511) := rfl
  rw [this, Bool.eq_iff_iff]
  simp [inB]
set_option maxHeartbeats 2000000 in
theorem mayBe_l (kind seq : Int) (l : List Ent) (sum : Nat) (start : Int) (q : Bool) (hq : recMay ⟨kind, seq, l, sum, start⟩ = q) (B : Nat) (A : Option Addr) (c : Nat) (w : World) (hB : B ≤ w.heap.size) (hA : Ents w B A l) (hl : l.length ≤ 140737488355328) :
    Calls Tryz.prog 127 #[.agg #[.int .i64 kind, .int .i64 seq, .slice A l.length c, .int .u32 (sum : Int), .int .i64 start]] w fun e w' => e = .returned (.bool q) ∧ Below w.heap.size w w' := by
  have HA := Lib.hid hA
  clear hA
  have HX := Lib.hid (Boxed.start w [.int .i64 kind, .int .i64 seq, .slice A l.length c, .int .u32 (sum : Int), .int .i64 start] 154)
  rw [recMay_eq] at hq
  cases q1 : inB 1 2147483647 seq with
  | false =>
    rw [q1] at hq
    obtain rfl : false = q := hq
    go_enter Tryz.func127, Tryz.ntmps127
    go_wp2_with (go_at_call 168; refine (within_q _ _ _ _ q1 _).mono ?_; rintro e w' ⟨rfl, rfl⟩)
    go_ret
    exact ⟨rfl, below_box _⟩
  | true =>
    cases q2 : hasOk kind l.length with
    | false =>
      rw [q1, q2] at hq
      obtain rfl : false = q := hq
      go_enter Tryz.func127, Tryz.ntmps127
      go_wp2_with (first
        | (go_at_call 168; refine (within_q _ _ _ _ q1 _).mono ?_; rintro e w' ⟨rfl, rfl⟩)
        | (go_at_call 169; refine (mayHave_any _ _ _).mono ?_; rintro e w' ⟨rfl, rfl⟩; rw [q2]))
      go_ret
      exact ⟨rfl, below_box _⟩
    | true =>
      have hB1 : Ents (w.alloc (.cells #[.int .i64 kind, .int .i64 seq, .slice A l.length c, .int .u32 (sum : Int), .int .i64 start] 154)) B A l := HA.out.alloc hB _
      have HA1 := Lib.hid hB1
      have HAB := Lib.hid (show B ≤ (w.alloc (.cells #[.int .i64 kind, .int .i64 seq, .slice A l.length c, .int .u32 (sum : Int), .int .i64 start] 154)).heap.size by simp; omega)
      clear hB1
      cases q3 : l.all blkOk with
      | false =>
        rw [q1, q2, q3] at hq
        obtain rfl : false = q := hq
        go_enter Tryz.func127, Tryz.ntmps127
        go_wp2_with (first
          | (go_at_call 168; refine (within_q _ _ _ _ q1 _).mono ?_; rintro e w' ⟨rfl, rfl⟩)
          | (go_at_call 169; refine (mayHave_any _ _ _).mono ?_; rintro e w' ⟨rfl, rfl⟩; rw [q2])
          | (go_at_call 170; refine (mayName_any l false q3 B A c _ HAB.out HA1.out hl).mono ?_; rintro e w1 ⟨rfl, hb1⟩; have HY := Lib.hid (HX.out.go hb1); clear hb1))
        go_ret
        exact ⟨rfl, HY.out.below⟩
      | true =>
        rw [q1, q2, q3] at hq
        obtain rfl : restOk ⟨kind, seq, l, sum, start⟩ = q := hq
        have hk : kind = 1 ∨ kind = 3 ∨ kind = 2 ∨ kind = 4 := by rcases hasOk_cases q2 with h | h | h | h <;> omega
        rcases hk with rfl | rfl | rfl | rfl
        · have HR := Lib.hid (rest_1 seq l sum start)
          generalize restOk ⟨1, seq, l, sum, start⟩ = q at *
          cases d1 : ((sum : Int) == 0) with
          | false =>
            rw [d1] at HR
            go_enter Tryz.func127, Tryz.ntmps127
            go_wp2_with (first
            | (go_at_call 168; refine (within_q _ _ _ _ q1 _).mono ?_; rintro e w' ⟨rfl, rfl⟩)
            | (go_at_call 169; refine (mayHave_any _ _ _).mono ?_; rintro e w' ⟨rfl, rfl⟩; rw [q2])
            | (go_at_call 170; refine (mayName_any l true q3 B A c _ HAB.out HA1.out hl).mono ?_; rintro e w1 ⟨rfl, hb1⟩; have HY := Lib.hid (HX.out.go hb1); obtain ⟨c0, c1, c2, c3, c4⟩ := HY.out.five; clear hb1))
            go_ret
            exact ⟨ret_b HR.out.symm, HY.out.below⟩
          | true =>
            rw [d1] at HR
            go_enter Tryz.func127, Tryz.ntmps127
            go_wp2_with (first
            | (go_at_call 168; refine (within_q _ _ _ _ q1 _).mono ?_; rintro e w' ⟨rfl, rfl⟩)
            | (go_at_call 169; refine (mayHave_any _ _ _).mono ?_; rintro e w' ⟨rfl, rfl⟩; rw [q2])
            | (go_at_call 170; refine (mayName_any l true q3 B A c _ HAB.out HA1.out hl).mono ?_; rintro e w1 ⟨rfl, hb1⟩; have HY := Lib.hid (HX.out.go hb1); obtain ⟨c0, c1, c2, c3, c4⟩ := HY.out.five; clear hb1))
            go_ret
            exact ⟨ret_b HR.out.symm, HY.out.below⟩
        · have HR := Lib.hid (rest_3 seq l sum start)
          generalize restOk ⟨3, seq, l, sum, start⟩ = q at *
          cases d1 : ((sum : Int) == 0) with
          | false =>
            rw [d1] at HR
            go_enter Tryz.func127, Tryz.ntmps127
            go_wp2_with (first
            | (go_at_call 168; refine (within_q _ _ _ _ q1 _).mono ?_; rintro e w' ⟨rfl, rfl⟩)
            | (go_at_call 169; refine (mayHave_any _ _ _).mono ?_; rintro e w' ⟨rfl, rfl⟩; rw [q2])
            | (go_at_call 170; refine (mayName_any l true q3 B A c _ HAB.out HA1.out hl).mono ?_; rintro e w1 ⟨rfl, hb1⟩; have HY := Lib.hid (HX.out.go hb1); obtain ⟨c0, c1, c2, c3, c4⟩ := HY.out.five; clear hb1))
            go_ret
            exact ⟨ret_b HR.out.symm, HY.out.below⟩
          | true =>
            rw [d1] at HR
            cases d2 : (start == 0) with
            | false =>
              rw [d2] at HR
              go_enter Tryz.func127, Tryz.ntmps127
              go_wp2_with (first
            | (go_at_call 168; refine (within_q _ _ _ _ q1 _).mono ?_; rintro e w' ⟨rfl, rfl⟩)
            | (go_at_call 169; refine (mayHave_any _ _ _).mono ?_; rintro e w' ⟨rfl, rfl⟩; rw [q2])
            | (go_at_call 170; refine (mayName_any l true q3 B A c _ HAB.out HA1.out hl).mono ?_; rintro e w1 ⟨rfl, hb1⟩; have HY := Lib.hid (HX.out.go hb1); obtain ⟨c0, c1, c2, c3, c4⟩ := HY.out.five; clear hb1))
              go_ret
              exact ⟨ret_b HR.out.symm, HY.out.below⟩
            | true =>
              rw [d2] at HR
              obtain ⟨z, hz⟩ : ∃ z, l.any (·.esc) = z := ⟨_, rfl⟩
              have HQ : Hid ((!z) = q) := Lib.hid (by rw [HR.out, hz]; rfl)
              clear HR
              go_enter Tryz.func127, Tryz.ntmps127
              go_wp2_with (first
            | (go_at_call 168; refine (within_q _ _ _ _ q1 _).mono ?_; rintro e w' ⟨rfl, rfl⟩)
            | (go_at_call 169; refine (mayHave_any _ _ _).mono ?_; rintro e w' ⟨rfl, rfl⟩; rw [q2])
            | (go_at_call 170; refine (mayName_any l true q3 B A c _ HAB.out HA1.out hl).mono ?_; rintro e w1 ⟨rfl, hb1⟩; have HY := Lib.hid (HX.out.go hb1); obtain ⟨c0, c1, c2, c3, c4⟩ := HY.out.five; clear hb1)
            | (go_at_call 171; refine (containsEsc_any l z hz B A c _ (Nat.le_trans hB HY.out.below.size) (HA.out.below HY.out.below hB) hl).mono ?_; rintro e w2 ⟨rfl, hb2⟩; have HZ := Lib.hid (HY.out.go hb2); clear hb2))
              go_ret
              exact ⟨ret_b HQ.out, HZ.out.below⟩
        · have HR := Lib.hid (rest_2 seq l sum start)
          generalize restOk ⟨2, seq, l, sum, start⟩ = q at *
          go_enter Tryz.func127, Tryz.ntmps127
          go_wp2_with (first
            | (go_at_call 168; refine (within_q _ _ _ _ q1 _).mono ?_; rintro e w' ⟨rfl, rfl⟩)
            | (go_at_call 169; refine (mayHave_any _ _ _).mono ?_; rintro e w' ⟨rfl, rfl⟩; rw [q2])
            | (go_at_call 170; refine (mayName_any l true q3 B A c _ HAB.out HA1.out hl).mono ?_; rintro e w1 ⟨rfl, hb1⟩; have HY := Lib.hid (HX.out.go hb1); obtain ⟨c0, c1, c2, c3, c4⟩ := HY.out.five; clear hb1))
          go_ret
          exact ⟨ret_b HR.out.symm, HY.out.below⟩
        · have HR := Lib.hid (rest_4 seq l sum start)
          generalize restOk ⟨4, seq, l, sum, start⟩ = q at *
          cases d1 : ((sum : Int) == 0) with
          | false =>
            rw [d1] at HR
            go_enter Tryz.func127, Tryz.ntmps127
            go_wp2_with (first
            | (go_at_call 168; refine (within_q _ _ _ _ q1 _).mono ?_; rintro e w' ⟨rfl, rfl⟩)
            | (go_at_call 169; refine (mayHave_any _ _ _).mono ?_; rintro e w' ⟨rfl, rfl⟩; rw [q2])
            | (go_at_call 170; refine (mayName_any l true q3 B A c _ HAB.out HA1.out hl).mono ?_; rintro e w1 ⟨rfl, hb1⟩; have HY := Lib.hid (HX.out.go hb1); obtain ⟨c0, c1, c2, c3, c4⟩ := HY.out.five; clear hb1))
            go_ret
            exact ⟨ret_b HR.out.symm, HY.out.below⟩
          | true =>
            rw [d1] at HR
            go_enter Tryz.func127, Tryz.ntmps127
            go_wp2_with (first
            | (go_at_call 168; refine (within_any _ _ _ _).mono ?_; rintro e w' ⟨rfl, rfl⟩; try rw [q1])
            | (go_at_call 169; refine (mayHave_any _ _ _).mono ?_; rintro e w' ⟨rfl, rfl⟩; rw [q2])
            | (go_at_call 170; refine (mayName_any l true q3 B A c _ HAB.out HA1.out hl).mono ?_; rintro e w1 ⟨rfl, hb1⟩; have HY := Lib.hid (HX.out.go hb1); obtain ⟨c0, c1, c2, c3, c4⟩ := HY.out.five; clear hb1))
            go_ret
            exact ⟨ret_b HR.out.symm, HY.out.below⟩
theorem mayBe_any (r : Rec) (q : Bool) (hq : recMay r = q) (B : Nat) (A : Option Addr) (c : Nat) (w : World) (hB : B ≤ w.heap.size) (hA : Ents w B A r.ents) (hl : r.ents.length ≤ 140737488355328) :
    Calls Tryz.prog 127 #[recV r A c] w fun e w' => e = .returned (.bool q) ∧ Below w.heap.size w w' :=
  mayBe_l r.kind r.seq r.ents r.sum r.start q hq B A c w hB hA hl
end Go.Proofs.YtmlgchmladkfpaaGreatDoor.JMayBe
