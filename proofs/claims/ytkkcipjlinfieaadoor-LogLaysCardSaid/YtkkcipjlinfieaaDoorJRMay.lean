/- The document's may: may a record be? -/
import Derived.Test.YtkkcipjlinfieaaDoorJMayBe
namespace Go.Proofs.YtkkcipjlinfieaaDoor.JRMay
open Go.RowKit WMem WPlain JPlain JMem JMay JMayBe

theorem all_bad {l : List Ent} {k : Nat} (hk : k < l.length) (h : blkOk l[k] = false) : l.all blkOk = false := by
  rw [Bool.eq_false_iff]
  intro ha
  have := List.all_eq_true.1 ha l[k] (List.getElem_mem hk)
  rw [h] at this
  cases this
theorem esc_bad {l : List Ent} {k : Nat} (hk : k < l.length) (h : l[k].esc = true) : l.any (·.esc) = true := List.any_eq_true.2 ⟨_, List.getElem_mem hk, h⟩
theorem take_all {l : List Ent} {f : Ent → Prop} {k : Nat} (hk : k < l.length) (h : ∀ x ∈ l.take k, f x) (hx : f l[k]) : ∀ x ∈ l.take (k + 1), f x := by
  intro y hy
  rw [List.take_succ_eq_append_getElem hk] at hy
  rcases List.mem_append.1 hy with hy | hy
  · exact h y hy
  · rw [List.mem_singleton.1 hy]; exact hx
theorem blk_no {b : Int} {q : Bool} (h : b < 0 ∨ 4096 ≤ b) : blkOk ⟨b, q⟩ = false := by
  rw [Bool.eq_false_iff]
  intro h'
  have := blkOk_iff.1 h'
  simp only at this
  omega
theorem blk_yes {b : Int} {q : Bool} (h1 : ¬ b < 0) (h2 : ¬ 4096 ≤ b) : blkOk ⟨b, q⟩ = true := blkOk_iff.2 ⟨by simp only; omega, by simp only; omega⟩
theorem seq_no {s : Int} (h : s < 1 ∨ 2147483647 < s) : seqOk s = false := by
  rw [Bool.eq_false_iff]
  intro h'
  have := seqOk_iff.1 h'
  omega
theorem may_seq {r : Rec} (h : seqOk r.seq = false) : recMay r = false := by unfold recMay; rw [h]; rfl
theorem may_has {r : Rec} (h : hasOk r.kind r.ents.length = false) : recMay r = false := by unfold recMay; rw [h]; simp
theorem may_all {r : Rec} (h : r.ents.all blkOk = false) : recMay r = false := by unfold recMay; rw [h]; simp
theorem may_rest {r : Rec} (h : restOk r = false) : recMay r = false := by unfold recMay; rw [h]; simp
theorem may_yes {r : Rec} (h1 : seqOk r.seq = true) (h2 : hasOk r.kind r.ents.length = true) (h3 : ∀ x ∈ r.ents, blkOk x = true) (h4 : restOk r = true) : recMay r = true := recMay_iff.2 ⟨h1, h2, h3, h4⟩
theorem seq_yes {s : Int} (h1 : ¬ s < 1) (h2 : ¬ 2147483647 < s) : seqOk s = true := seqOk_iff.2 ⟨by omega, by omega⟩

set_option maxRecDepth 100000 in
set_option maxHeartbeats 4000000 in
theorem may_1 (seq : Int) (l : List Ent) (sum : Nat) (start : Int) (B : Nat) (A : Option Addr) (c : Nat) (w : World) (hB : B ≤ w.heap.size) (hA : Ents w B A l) (hl : l.length ≤ 140737488355328) :
    Calls Tryd.prog 41 #[.agg #[.int .i64 1, .int .i64 seq, .slice A l.length c, .int .u32 (sum : Int), .int .i64 start]] w fun e w' => e = .returned (.bool (recMay ⟨1, seq, l, sum, start⟩)) ∧ Below w.heap.size w w' := by
  have HA := Lib.hid (hA.alloc hB (.cells #[.int .i64 1, .int .i64 seq, .slice A l.length c, .int .u32 (sum : Int), .int .i64 start] 61))
  clear hA
  obtain ⟨n, hn⟩ : ∃ n, l.length = n := ⟨_, rfl⟩
  rw [hn] at hl HA ⊢
  have HN := Lib.hid hn
  clear hn
  by_cases s1 : seq < 1
  · have d1 : decide (seq < 1) = true := by simpa using s1
    have HQ := Lib.hid (may_seq (r := ⟨1, seq, l, sum, start⟩) (seq_no (.inl s1)))
    generalize recMay ⟨1, seq, l, sum, start⟩ = q at *
    clear s1
    go_enter Tryd.func41, Tryd.ntmps41
    go_wp2
    go_ret
    exact ⟨ret_b (HQ.out).symm, below_box _⟩
  have d1 : decide (seq < 1) = false := by simpa using s1
  by_cases s2 : 2147483647 < seq
  · have d2 : decide (2147483647 < seq) = true := by simpa using s2
    have HQ := Lib.hid (may_seq (r := ⟨1, seq, l, sum, start⟩) (seq_no (.inr s2)))
    generalize recMay ⟨1, seq, l, sum, start⟩ = q at *
    clear s1 s2
    go_enter Tryd.func41, Tryd.ntmps41
    go_wp2
    go_ret
    exact ⟨ret_b (HQ.out).symm, below_box _⟩
  have d2 : decide (2147483647 < seq) = false := by simpa using s2
  have HSQ := Lib.hid (seq_yes s1 s2)
  clear s1 s2
  by_cases s3 : 48 < n
  · have d3 : decide ((48 : Int) < (n : Int)) = true := by simp; omega
    have d3' : decide (48 < n) = true := by simp; omega
    have HQ := Lib.hid (may_has (r := ⟨1, seq, l, sum, start⟩) (by simp only [HN.out]; unfold hasOk; simp; omega))
    generalize recMay ⟨1, seq, l, sum, start⟩ = q at *
    go_enter Tryd.func41, Tryd.ntmps41
    go_wp2
    go_ret
    exact ⟨ret_b (HQ.out).symm, below_box _⟩
  have d3 : decide ((48 : Int) < (n : Int)) = false := by simp; omega
  have d3' : decide (48 < n) = false := by simp; omega
  by_cases s4 : n = 0
  · have d4 : ((n : Int) == 0) = true := by simp; omega
    have HQ := Lib.hid (may_has (r := ⟨1, seq, l, sum, start⟩) (by simp only [HN.out]; unfold hasOk; simp; omega))
    generalize recMay ⟨1, seq, l, sum, start⟩ = q at *
    go_enter Tryd.func41, Tryd.ntmps41
    go_wp2
    go_ret
    exact ⟨ret_b (HQ.out).symm, below_box _⟩
  have d4 : ((n : Int) == 0) = false := by rw [beq_eq_false_iff_ne]; omega
  have d4' : (n == 0) = false := by rw [beq_eq_false_iff_ne]; omega
  have HHS : Hid (hasOk 1 l.length = true) := Lib.hid (by rw [HN.out]; unfold hasOk; simp; omega)
  go_enter Tryd.func41, Tryd.ntmps41
  go_wp2
  go_loopw [4] (fun i wr => ∃ k : Nat, k ≤ n ∧ i = .int .i64 k ∧ wr = (w.alloc (.cells #[.int .i64 1, .int .i64 seq, .slice A n c, .int .u32 (sum : Int), .int .i64 start] 61)) ∧ Hid (∀ x ∈ l.take k, blkOk x = true)) (fun i _ => n - (intOf i).toNat)
  case atStart => exact ⟨0, Nat.zero_le _, rfl, rfl, Lib.hid (by simp)⟩
  case round =>
    obtain ⟨k, hk, rfl, rfl, HK⟩ := hrel
    by_cases hlt : k < n
    · have hlt' : k < l.length := by rw [HN.out]; exact hlt
      obtain ⟨a, rfl, hab, c0, c1⟩ := HA.out.at_ hlt'
      have HT := Lib.hid (fun h => take_all (f := fun x => blkOk x = true) hlt' HK.out h)
      have HBD := Lib.hid (fun h => all_bad hlt' h)
      have HED := Lib.hid (fun h => esc_bad hlt' h)
      generalize hx : l[k] = x at *
      clear hx
      obtain ⟨b, q⟩ := x
      simp only at HED c0 c1
      by_cases t1 : b < 0
      · have e1 : decide (b < 0) = true := by simpa using t1
        have HQ := Lib.hid (may_all (r := ⟨1, seq, l, sum, start⟩) (HBD.out (blk_no (.inl t1))))
        clear t1
        go_wp2
        go_ret
        exact ⟨ret_b (HQ.out).symm, below_box _⟩
      have e1 : decide (b < 0) = false := by simpa using t1
      by_cases t2 : 4096 ≤ b
      · have e2 : decide (4096 ≤ b) = true := by simpa using t2
        have HQ := Lib.hid (may_all (r := ⟨1, seq, l, sum, start⟩) (HBD.out (blk_no (.inr t2))))
        clear t1 t2
        go_wp2
        go_ret
        exact ⟨ret_b (HQ.out).symm, below_box _⟩
      have e2 : decide (4096 ≤ b) = false := by simpa using t2
      have HBY := Lib.hid (blk_yes (q := q) t1 t2)
      clear t1 t2
      go_wp2
      go_roundw
      case rel => exact ⟨k + 1, by omega, by go_num, by first | trivial | rfl, Lib.hid (HT.out HBY.out)⟩
      case measure => simp [intOf]; omega
    · obtain rfl : k = n := by omega
      have HKK : Hid (∀ x ∈ l, blkOk x = true) := Lib.hid (by have := HK.out; rw [← HN.out, List.take_length] at this; exact this)
      by_cases u1 : sum = 0
      · have g1 : ((sum : Int) == 0) = true := by simp; omega
        by_cases u2 : start = 0
        · subst u2
          have HQ := Lib.hid (may_yes (r := ⟨1, seq, l, sum, 0⟩) HSQ.out HHS.out (fun x hx => HKK.out x hx) (by rw [rest_1]; simp [u1]))
          go_wp2
          go_ret
          exact ⟨ret_b (HQ.out).symm, below_box _⟩
        · have g2 : (start == 0) = false := by simpa using u2
          have HQ := Lib.hid (may_rest (r := ⟨1, seq, l, sum, start⟩) (by rw [rest_1, g2]; simp))
          go_wp2
          go_ret
          exact ⟨ret_b (HQ.out).symm, below_box _⟩
      · have g1 : ((sum : Int) == 0) = false := by rw [beq_eq_false_iff_ne]; omega
        have g1' : (sum == 0) = false := by rw [beq_eq_false_iff_ne]; omega
        have HQ := Lib.hid (may_rest (r := ⟨1, seq, l, sum, start⟩) (by rw [rest_1, g1]; simp))
        go_wp2
        go_ret
        exact ⟨ret_b (HQ.out).symm, below_box _⟩
set_option maxRecDepth 100000 in
set_option maxHeartbeats 4000000 in
theorem may_3 (seq : Int) (l : List Ent) (sum : Nat) (start : Int) (B : Nat) (A : Option Addr) (c : Nat) (w : World) (hB : B ≤ w.heap.size) (hA : Ents w B A l) (hl : l.length ≤ 140737488355328) :
    Calls Tryd.prog 41 #[.agg #[.int .i64 3, .int .i64 seq, .slice A l.length c, .int .u32 (sum : Int), .int .i64 start]] w fun e w' => e = .returned (.bool (recMay ⟨3, seq, l, sum, start⟩)) ∧ Below w.heap.size w w' := by
  have HA := Lib.hid (hA.alloc hB (.cells #[.int .i64 3, .int .i64 seq, .slice A l.length c, .int .u32 (sum : Int), .int .i64 start] 61))
  clear hA
  obtain ⟨n, hn⟩ : ∃ n, l.length = n := ⟨_, rfl⟩
  rw [hn] at hl HA ⊢
  have HN := Lib.hid hn
  clear hn
  by_cases s1 : seq < 1
  · have d1 : decide (seq < 1) = true := by simpa using s1
    have HQ := Lib.hid (may_seq (r := ⟨3, seq, l, sum, start⟩) (seq_no (.inl s1)))
    generalize recMay ⟨3, seq, l, sum, start⟩ = q at *
    clear s1
    go_enter Tryd.func41, Tryd.ntmps41
    go_wp2
    go_ret
    exact ⟨ret_b (HQ.out).symm, below_box _⟩
  have d1 : decide (seq < 1) = false := by simpa using s1
  by_cases s2 : 2147483647 < seq
  · have d2 : decide (2147483647 < seq) = true := by simpa using s2
    have HQ := Lib.hid (may_seq (r := ⟨3, seq, l, sum, start⟩) (seq_no (.inr s2)))
    generalize recMay ⟨3, seq, l, sum, start⟩ = q at *
    clear s1 s2
    go_enter Tryd.func41, Tryd.ntmps41
    go_wp2
    go_ret
    exact ⟨ret_b (HQ.out).symm, below_box _⟩
  have d2 : decide (2147483647 < seq) = false := by simpa using s2
  have HSQ := Lib.hid (seq_yes s1 s2)
  clear s1 s2
  by_cases s3 : 60 < n
  · have d3 : decide ((60 : Int) < (n : Int)) = true := by simp; omega
    have d3' : decide (60 < n) = true := by simp; omega
    have HQ := Lib.hid (may_has (r := ⟨3, seq, l, sum, start⟩) (by simp only [HN.out]; unfold hasOk; simp; omega))
    generalize recMay ⟨3, seq, l, sum, start⟩ = q at *
    go_enter Tryd.func41, Tryd.ntmps41
    go_wp2
    go_ret
    exact ⟨ret_b (HQ.out).symm, below_box _⟩
  have d3 : decide ((60 : Int) < (n : Int)) = false := by simp; omega
  have d3' : decide (60 < n) = false := by simp; omega
  by_cases s4 : n = 0
  · have d4 : ((n : Int) == 0) = true := by simp; omega
    have HQ := Lib.hid (may_has (r := ⟨3, seq, l, sum, start⟩) (by simp only [HN.out]; unfold hasOk; simp; omega))
    generalize recMay ⟨3, seq, l, sum, start⟩ = q at *
    go_enter Tryd.func41, Tryd.ntmps41
    go_wp2
    go_ret
    exact ⟨ret_b (HQ.out).symm, below_box _⟩
  have d4 : ((n : Int) == 0) = false := by rw [beq_eq_false_iff_ne]; omega
  have d4' : (n == 0) = false := by rw [beq_eq_false_iff_ne]; omega
  have HHS : Hid (hasOk 3 l.length = true) := Lib.hid (by rw [HN.out]; unfold hasOk; simp; omega)
  go_enter Tryd.func41, Tryd.ntmps41
  go_wp2
  go_loopw [4] (fun i wr => ∃ k : Nat, k ≤ n ∧ i = .int .i64 k ∧ wr = (w.alloc (.cells #[.int .i64 3, .int .i64 seq, .slice A n c, .int .u32 (sum : Int), .int .i64 start] 61)) ∧ Hid (∀ x ∈ l.take k, blkOk x = true ∧ x.esc = false)) (fun i _ => n - (intOf i).toNat)
  case atStart => exact ⟨0, Nat.zero_le _, rfl, rfl, Lib.hid (by simp)⟩
  case round =>
    obtain ⟨k, hk, rfl, rfl, HK⟩ := hrel
    by_cases hlt : k < n
    · have hlt' : k < l.length := by rw [HN.out]; exact hlt
      obtain ⟨a, rfl, hab, c0, c1⟩ := HA.out.at_ hlt'
      have HT := Lib.hid (fun h => take_all (f := fun x => blkOk x = true ∧ x.esc = false) hlt' HK.out h)
      have HBD := Lib.hid (fun h => all_bad hlt' h)
      have HED := Lib.hid (fun h => esc_bad hlt' h)
      generalize hx : l[k] = x at *
      clear hx
      obtain ⟨b, q⟩ := x
      simp only at HED c0 c1
      by_cases t1 : b < 0
      · have e1 : decide (b < 0) = true := by simpa using t1
        have HQ := Lib.hid (may_all (r := ⟨3, seq, l, sum, start⟩) (HBD.out (blk_no (.inl t1))))
        clear t1
        go_wp2
        go_ret
        exact ⟨ret_b (HQ.out).symm, below_box _⟩
      have e1 : decide (b < 0) = false := by simpa using t1
      by_cases t2 : 4096 ≤ b
      · have e2 : decide (4096 ≤ b) = true := by simpa using t2
        have HQ := Lib.hid (may_all (r := ⟨3, seq, l, sum, start⟩) (HBD.out (blk_no (.inr t2))))
        clear t1 t2
        go_wp2
        go_ret
        exact ⟨ret_b (HQ.out).symm, below_box _⟩
      have e2 : decide (4096 ≤ b) = false := by simpa using t2
      have HBY := Lib.hid (blk_yes (q := q) t1 t2)
      clear t1 t2
      cases q with
      | true =>
        have HQ := Lib.hid (may_rest (r := ⟨3, seq, l, sum, start⟩) (by rw [rest_3, HED.out rfl]; simp))
        go_wp2
        go_ret
        exact ⟨ret_b (HQ.out).symm, below_box _⟩
      | false =>
        go_wp2
        go_roundw
        case rel => exact ⟨k + 1, by omega, by go_num, by first | trivial | rfl, Lib.hid (HT.out ⟨HBY.out, rfl⟩)⟩
        case measure => simp [intOf]; omega
    · obtain rfl : k = n := by omega
      have HKK : Hid (∀ x ∈ l, blkOk x = true ∧ x.esc = false) := Lib.hid (by have := HK.out; rw [← HN.out, List.take_length] at this; exact this)
      by_cases u1 : sum = 0
      · have g1 : ((sum : Int) == 0) = true := by simp; omega
        by_cases u2 : start = 0
        · subst u2
          have HQ := Lib.hid (may_yes (r := ⟨3, seq, l, sum, 0⟩) HSQ.out HHS.out (fun x hx => (HKK.out x hx).1) (by rw [rest_3]; rw [show l.any (·.esc) = false from by rw [List.any_eq_false]; intro x hx; simp [(HKK.out x hx).2]]; simp [u1]))
          go_wp2
          go_ret
          exact ⟨ret_b (HQ.out).symm, below_box _⟩
        · have g2 : (start == 0) = false := by simpa using u2
          have HQ := Lib.hid (may_rest (r := ⟨3, seq, l, sum, start⟩) (by rw [rest_3, g2]; simp))
          go_wp2
          go_ret
          exact ⟨ret_b (HQ.out).symm, below_box _⟩
      · have g1 : ((sum : Int) == 0) = false := by rw [beq_eq_false_iff_ne]; omega
        have g1' : (sum == 0) = false := by rw [beq_eq_false_iff_ne]; omega
        have HQ := Lib.hid (may_rest (r := ⟨3, seq, l, sum, start⟩) (by rw [rest_3, g1]; simp))
        go_wp2
        go_ret
        exact ⟨ret_b (HQ.out).symm, below_box _⟩
set_option maxRecDepth 100000 in
set_option maxHeartbeats 4000000 in
theorem may_2 (seq : Int) (l : List Ent) (sum : Nat) (start : Int) (B : Nat) (A : Option Addr) (c : Nat) (w : World) (hB : B ≤ w.heap.size) (hA : Ents w B A l) (hl : l.length ≤ 140737488355328) :
    Calls Tryd.prog 41 #[.agg #[.int .i64 2, .int .i64 seq, .slice A l.length c, .int .u32 (sum : Int), .int .i64 start]] w fun e w' => e = .returned (.bool (recMay ⟨2, seq, l, sum, start⟩)) ∧ Below w.heap.size w w' := by
  have HA := Lib.hid (hA.alloc hB (.cells #[.int .i64 2, .int .i64 seq, .slice A l.length c, .int .u32 (sum : Int), .int .i64 start] 61))
  clear hA
  obtain ⟨n, hn⟩ : ∃ n, l.length = n := ⟨_, rfl⟩
  rw [hn] at hl HA ⊢
  have HN := Lib.hid hn
  clear hn
  by_cases s1 : seq < 1
  · have d1 : decide (seq < 1) = true := by simpa using s1
    have HQ := Lib.hid (may_seq (r := ⟨2, seq, l, sum, start⟩) (seq_no (.inl s1)))
    generalize recMay ⟨2, seq, l, sum, start⟩ = q at *
    clear s1
    go_enter Tryd.func41, Tryd.ntmps41
    go_wp2
    go_ret
    exact ⟨ret_b (HQ.out).symm, below_box _⟩
  have d1 : decide (seq < 1) = false := by simpa using s1
  by_cases s2 : 2147483647 < seq
  · have d2 : decide (2147483647 < seq) = true := by simpa using s2
    have HQ := Lib.hid (may_seq (r := ⟨2, seq, l, sum, start⟩) (seq_no (.inr s2)))
    generalize recMay ⟨2, seq, l, sum, start⟩ = q at *
    clear s1 s2
    go_enter Tryd.func41, Tryd.ntmps41
    go_wp2
    go_ret
    exact ⟨ret_b (HQ.out).symm, below_box _⟩
  have d2 : decide (2147483647 < seq) = false := by simpa using s2
  have HSQ := Lib.hid (seq_yes s1 s2)
  clear s1 s2
  by_cases s3 : 0 < n
  · have d3 : decide ((0 : Int) < (n : Int)) = true := by simp; omega
    have d3' : decide (0 < n) = true := by simp; omega
    have HQ := Lib.hid (may_has (r := ⟨2, seq, l, sum, start⟩) (by simp only [HN.out]; unfold hasOk; simp; omega))
    generalize recMay ⟨2, seq, l, sum, start⟩ = q at *
    go_enter Tryd.func41, Tryd.ntmps41
    go_wp2
    go_ret
    exact ⟨ret_b (HQ.out).symm, below_box _⟩
  have d3 : decide ((0 : Int) < (n : Int)) = false := by simp; omega
  have d3' : decide (0 < n) = false := by simp; omega
  have HHS : Hid (hasOk 2 l.length = true) := Lib.hid (by rw [HN.out]; unfold hasOk; simp; omega)
  go_enter Tryd.func41, Tryd.ntmps41
  go_wp2
  go_loopw [4] (fun i wr => ∃ k : Nat, k ≤ n ∧ i = .int .i64 k ∧ wr = (w.alloc (.cells #[.int .i64 2, .int .i64 seq, .slice A n c, .int .u32 (sum : Int), .int .i64 start] 61)) ∧ Hid (∀ x ∈ l.take k, blkOk x = true)) (fun i _ => n - (intOf i).toNat)
  case atStart => exact ⟨0, Nat.zero_le _, rfl, rfl, Lib.hid (by simp)⟩
  case round =>
    obtain ⟨k, hk, rfl, rfl, HK⟩ := hrel
    by_cases hlt : k < n
    · exfalso; omega
    · obtain rfl : k = n := by omega
      have HKK : Hid (∀ x ∈ l, blkOk x = true) := Lib.hid (by have := HK.out; rw [← HN.out, List.take_length] at this; exact this)
      by_cases u2 : start = 0
      · subst u2
        have HQ := Lib.hid (may_yes (r := ⟨2, seq, l, sum, 0⟩) HSQ.out HHS.out (fun x hx => HKK.out x hx) (by rw [rest_2]; simp))
        go_wp2
        go_ret
        exact ⟨ret_b (HQ.out).symm, below_box _⟩
      · have g2 : (start == 0) = false := by simpa using u2
        have HQ := Lib.hid (may_rest (r := ⟨2, seq, l, sum, start⟩) (by rw [rest_2, g2]))
        go_wp2
        go_ret
        exact ⟨ret_b (HQ.out).symm, below_box _⟩
set_option maxRecDepth 100000 in
set_option maxHeartbeats 4000000 in
theorem may_4 (seq : Int) (l : List Ent) (sum : Nat) (start : Int) (B : Nat) (A : Option Addr) (c : Nat) (w : World) (hB : B ≤ w.heap.size) (hA : Ents w B A l) (hl : l.length ≤ 140737488355328) :
    Calls Tryd.prog 41 #[.agg #[.int .i64 4, .int .i64 seq, .slice A l.length c, .int .u32 (sum : Int), .int .i64 start]] w fun e w' => e = .returned (.bool (recMay ⟨4, seq, l, sum, start⟩)) ∧ Below w.heap.size w w' := by
  have HA := Lib.hid (hA.alloc hB (.cells #[.int .i64 4, .int .i64 seq, .slice A l.length c, .int .u32 (sum : Int), .int .i64 start] 61))
  clear hA
  obtain ⟨n, hn⟩ : ∃ n, l.length = n := ⟨_, rfl⟩
  rw [hn] at hl HA ⊢
  have HN := Lib.hid hn
  clear hn
  by_cases s1 : seq < 1
  · have d1 : decide (seq < 1) = true := by simpa using s1
    have HQ := Lib.hid (may_seq (r := ⟨4, seq, l, sum, start⟩) (seq_no (.inl s1)))
    generalize recMay ⟨4, seq, l, sum, start⟩ = q at *
    clear s1
    go_enter Tryd.func41, Tryd.ntmps41
    go_wp2
    go_ret
    exact ⟨ret_b (HQ.out).symm, below_box _⟩
  have d1 : decide (seq < 1) = false := by simpa using s1
  by_cases s2 : 2147483647 < seq
  · have d2 : decide (2147483647 < seq) = true := by simpa using s2
    have HQ := Lib.hid (may_seq (r := ⟨4, seq, l, sum, start⟩) (seq_no (.inr s2)))
    generalize recMay ⟨4, seq, l, sum, start⟩ = q at *
    clear s1 s2
    go_enter Tryd.func41, Tryd.ntmps41
    go_wp2
    go_ret
    exact ⟨ret_b (HQ.out).symm, below_box _⟩
  have d2 : decide (2147483647 < seq) = false := by simpa using s2
  have HSQ := Lib.hid (seq_yes s1 s2)
  clear s1 s2
  by_cases s3 : 0 < n
  · have d3 : decide ((0 : Int) < (n : Int)) = true := by simp; omega
    have d3' : decide (0 < n) = true := by simp; omega
    have HQ := Lib.hid (may_has (r := ⟨4, seq, l, sum, start⟩) (by simp only [HN.out]; unfold hasOk; simp; omega))
    generalize recMay ⟨4, seq, l, sum, start⟩ = q at *
    go_enter Tryd.func41, Tryd.ntmps41
    go_wp2
    go_ret
    exact ⟨ret_b (HQ.out).symm, below_box _⟩
  have d3 : decide ((0 : Int) < (n : Int)) = false := by simp; omega
  have d3' : decide (0 < n) = false := by simp; omega
  have HHS : Hid (hasOk 4 l.length = true) := Lib.hid (by rw [HN.out]; unfold hasOk; simp; omega)
  go_enter Tryd.func41, Tryd.ntmps41
  go_wp2
  go_loopw [4] (fun i wr => ∃ k : Nat, k ≤ n ∧ i = .int .i64 k ∧ wr = (w.alloc (.cells #[.int .i64 4, .int .i64 seq, .slice A n c, .int .u32 (sum : Int), .int .i64 start] 61)) ∧ Hid (∀ x ∈ l.take k, blkOk x = true)) (fun i _ => n - (intOf i).toNat)
  case atStart => exact ⟨0, Nat.zero_le _, rfl, rfl, Lib.hid (by simp)⟩
  case round =>
    obtain ⟨k, hk, rfl, rfl, HK⟩ := hrel
    by_cases hlt : k < n
    · exfalso; omega
    · obtain rfl : k = n := by omega
      have HKK : Hid (∀ x ∈ l, blkOk x = true) := Lib.hid (by have := HK.out; rw [← HN.out, List.take_length] at this; exact this)
      by_cases u1 : sum = 0
      · have g1 : ((sum : Int) == 0) = true := by simp; omega
        by_cases u2 : 0 ≤ start
        · have g2 : decide (0 ≤ start) = true := by simpa using u2
          by_cases u3 : start < 512
          · have g3 : decide (start < 512) = true := by simpa using u3
            have HQ := Lib.hid (may_yes (r := ⟨4, seq, l, sum, start⟩) HSQ.out HHS.out (fun x hx => HKK.out x hx) (by rw [rest_4, g1, Bool.true_and]; unfold inB; simp; omega))
            go_wp2
            go_ret
            exact ⟨ret_b (HQ.out).symm, below_box _⟩
          · have g3 : decide (start < 512) = false := by simpa using u3
            have HQ := Lib.hid (may_rest (r := ⟨4, seq, l, sum, start⟩) (by rw [rest_4, g1, Bool.true_and]; unfold inB; simp; omega))
            clear u1
            go_wp2
            go_ret
            exact ⟨ret_b (HQ.out).symm, below_box _⟩
        · have g2 : decide (0 ≤ start) = false := by simpa using u2
          have HQ := Lib.hid (may_rest (r := ⟨4, seq, l, sum, start⟩) (by rw [rest_4, g1, Bool.true_and]; unfold inB; simp; omega))
          clear u1
          go_wp2
          go_ret
          exact ⟨ret_b (HQ.out).symm, below_box _⟩
      · have g1 : ((sum : Int) == 0) = false := by rw [beq_eq_false_iff_ne]; omega
        have g1' : (sum == 0) = false := by rw [beq_eq_false_iff_ne]; omega
        have HQ := Lib.hid (may_rest (r := ⟨4, seq, l, sum, start⟩) (by rw [rest_4, g1]; simp))
        go_wp2
        go_ret
        exact ⟨ret_b (HQ.out).symm, below_box _⟩
set_option maxHeartbeats 1000000 in
theorem may_else (kind seq : Int) (h1 : kind ≠ 1) (h2 : kind ≠ 2) (h3 : kind ≠ 3) (h4 : kind ≠ 4) (l : List Ent) (sum : Nat) (start : Int) (A : Option Addr) (c : Nat) (w : World) :
    Calls Tryd.prog 41 #[.agg #[.int .i64 kind, .int .i64 seq, .slice A l.length c, .int .u32 (sum : Int), .int .i64 start]] w fun e w' => e = .returned (.bool (recMay ⟨kind, seq, l, sum, start⟩)) ∧ Below w.heap.size w w' := by
  have HQ := Lib.hid (may_has (r := ⟨kind, seq, l, sum, start⟩) (by
    rw [Bool.eq_false_iff]
    intro h
    rcases hasOk_cases h with e | e | e | e <;> simp only at e <;> omega))
  generalize recMay ⟨kind, seq, l, sum, start⟩ = q at *
  have k1 : (kind == 1) = false := by simpa using h1
  have k2 : (kind == 2) = false := by simpa using h2
  have k3 : (kind == 3) = false := by simpa using h3
  have k4 : (kind == 4) = false := by simpa using h4
  clear h1 h2 h3 h4
  go_enter Tryd.func41, Tryd.ntmps41
  go_wp2
  go_ret
  exact ⟨ret_b (HQ.out).symm, below_box _⟩
theorem refMay_any (r : Rec) (B : Nat) (A : Option Addr) (c : Nat) (w : World) (hB : B ≤ w.heap.size) (hA : Ents w B A r.ents) (hl : r.ents.length ≤ 140737488355328) :
    Calls Tryd.prog 41 #[recV r A c] w fun e w' => e = .returned (.bool (recMay r)) ∧ Below w.heap.size w w' := by
  obtain ⟨kind, seq, l, sum, start⟩ := r
  by_cases h1 : kind = 1
  · subst h1; exact may_1 seq l sum start B A c w hB hA hl
  by_cases h2 : kind = 2
  · subst h2; exact may_2 seq l sum start B A c w hB hA hl
  by_cases h3 : kind = 3
  · subst h3; exact may_3 seq l sum start B A c w hB hA hl
  by_cases h4 : kind = 4
  · subst h4; exact may_4 seq l sum start B A c w hB hA hl
  exact may_else kind seq h1 h2 h3 h4 l sum start A c w
end Go.Proofs.YtkkcipjlinfieaaDoor.JRMay
