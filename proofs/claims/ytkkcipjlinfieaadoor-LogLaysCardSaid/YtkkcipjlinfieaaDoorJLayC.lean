/- slices.Chunk of writes, and of numbers: part by part, in order. -/
import Derived.Test.YtkkcipjlinfieaaDoorJChunk
import Derived.Test.YtkkcipjlinfieaaDoorJLayM
namespace Go.Proofs.YtkkcipjlinfieaaDoor.JLayC
open Go.RowKit Go.Shelf WMem JMem JChunk JNeed JLayM

attribute [local go_sem] Oper.semAt_some

/-- a part, as it is told -/
def partV (A : Option Addr) (len sz es x : Nat) : Array Value :=
  #[.slice (A.map fun a => a.add (min x (rowsN len sz - 1) * sz * es)) (min sz (len - min x (rowsN len sz - 1) * sz)) (min sz (len - min x (rowsN len sz - 1) * sz))]

set_option maxRecDepth 100000 in
set_option maxHeartbeats 4000000 in
theorem chunkW_in (n : Nat) (hn : 1 ≤ n) (lo Bs Bn len sz c : Nat) (A : Option Addr) (hs1 : 1 ≤ sz) (hs2 : sz ≤ 1000) (hl : len ≤ 4096) (hc : len ≤ c) (hA : len = 0 ∨ ∃ a, A = some a) (J Jx : List Nat → World → Prop)
    (hY : ∀ pre x W, J pre W → pre.length < rowsN len sz → YieldAt Fence.wide (n - 1) Tryd.prog lo (partV A len sz 2 x) W fun e W' =>
      (e = .returned (.bool true) ∧ J (pre ++ [x]) W' ∧ CKeep (two Bs Bn) W W') ∨ (e = .returned (.bool false) ∧ Jx (pre ++ [x]) W'))
    (W : World) (hJ : AbidesFrom W.heap.size J) (hBs : W.heap[Bs]? = some (.cells #[.slice A len c] 22 (0, 0))) (hBn : W.heap[Bn]? = some (.cells #[.int .i64 (sz : Int)] 3 (0, 0))) (h0 : J [] W) :
    CallsIn Fence.wide n Tryd.prog 36 #[.func (.yield lo) #[] #[], .pointer (some ⟨Bs, 0, none⟩), .pointer (some ⟨Bn, 0, none⟩)] W fun e W' => (∃ v, e = .returned v) ∧
      ((∃ ys, ys = List.range (rowsN len sz) ∧ J ys W') ∨ (∃ pre, (∃ k, k ≤ rowsN len sz ∧ pre = List.range k) ∧ Jx pre W')) := by
  obtain ⟨hN1, hN2⟩ := rowsN_mul len sz (by omega)
  have HN1 := Lib.hid hN1
  have HN2 := Lib.hid hN2
  obtain ⟨N, hN⟩ : ∃ N, rowsN len sz = N := ⟨_, rfl⟩
  have HNN := Lib.hid hN
  rw [hN] at HN1 HN2 hY
  rw [hN]
  clear hN1 hN2 hN
  refine callsIn_of_wp Tryd.func36 rfl trivial ?_ rfl
  simp only [Tryd.ntmps36, List.size_toArray, List.length_cons, List.length_nil, Nat.reduceAdd, Nat.reduceSub, Array.replicate_succ, Array.replicate_zero, List.push_toArray, List.append_toArray, List.nil_append, List.cons_append]
  gi_wp2
  gi_loopw [4] (fun i wr => ∃ k : Nat, k ≤ N ∧ i = .int .i64 ((k * sz : Nat) : Int) ∧ J (List.range k) wr ∧ CKeep (two Bs Bn) W wr)
    (fun i _ => len - (intOf i).toNat)
  case atStart => exact ⟨0, Nat.zero_le _, by simp, h0, CKeep.refl _ _⟩
  case round =>
    obtain ⟨k, hk, rfl, hJ0, hnx⟩ := hrel
    have hs := hnx.cell (.inl rfl) hBs
    have hn := hnx.cell (.inr rfl) hBn
    have c0 : wr.cell? ⟨Bs, 0, none⟩ = some (.slice A len c) := (row_cell hs 0).trans rfl
    have c1 : wr.cell? ⟨Bn, 0, none⟩ = some (.int .i64 (sz : Int)) := (row_cell hn 0).trans rfl
    clear hs hn
    obtain ⟨i, hi⟩ : ∃ i, k * sz = i := ⟨_, rfl⟩
    have HI := Lib.hid hi
    rw [hi]
    by_cases hlt : i < len
    · have hkN : k < N := by
        rcases Nat.lt_or_ge k N with h | h
        · exact h
        · have h1 := Nat.mul_le_mul_right sz h
          have h2 := HN1.out
          omega
      obtain ⟨a, rfl⟩ : ∃ a, A = some a := by rcases hA with h | h; omega; exact h
      obtain ⟨m, hm⟩ : ∃ m, min sz (len - i) = m := ⟨_, rfl⟩
      have HM := Lib.hid hm
      have hm1 : 1 ≤ m := by omega
      have hm2 : i + m ≤ len := by omega
      have hm3 : m ≤ sz := by omega
      have g1 : decide ((i : Int) < (len : Int)) = true := by simp; omega
      have s1 : IntKind.i64.wrap ((i : Int) + (m : Int)) = ((i + m : Nat) : Int) := by rw [IntWalk.i64_in _ (by omega)]; simp
      have s2 : IntKind.i64.wrap ((i : Int) + (sz : Int)) = ((i + sz : Nat) : Int) := by rw [IntWalk.i64_in _ (by omega)]; simp
      have HK : Hid (∀ v, v = partV (some a) len sz 2 k → YieldAt Fence.wide (n - 1) Tryd.prog lo v wr.drew fun e W' =>
          (e = .returned (.bool true) ∧ J (List.range (k + 1)) W' ∧ CKeep (two Bs Bn) W W') ∨ (e = .returned (.bool false) ∧ Jx (List.range (k + 1)) W')) := Lib.hid (by
        rintro v rfl
        rw [List.range_succ]
        have h1 := hY (List.range k) k wr.drew (hJ _ _ _ none hJ0 ⟨rfl, rfl, rfl, Nat.le_refl _, fun _ _ _ => rfl⟩ (fun r h => by cases h)) (by rw [List.length_range]; exact hkN)
        refine h1.mono fun e W' h => ?_
        rcases h with ⟨h2, h3, h4⟩ | h2
        · exact .inl ⟨h2, h3, hnx.trans (fun i o hi ho hc => h4 i o hi ho hc)⟩
        · exact .inr h2)
      have HV : Hid (#[.slice (some (a.add (i * 2))) m m] = partV (some a) len sz 2 k) := Lib.hid (by unfold partV; rw [HNN.out, Nat.min_eq_left (by omega), HI.out, HM.out]; rfl)
      have HBn := Lib.hid hBn
      have HNX := Lib.hid hnx
      clear hY hJ h0 hJ0 hBs hBn hnx hi hm
      obtain ⟨r, hr⟩ : ∃ r, len - i = r := ⟨_, rfl⟩
      have HR := Lib.hid hr
      have hri : ((len : Int) - (i : Int)) = (r : Int) := by omega
      by_cases hlast : r < sz
      · have hrm : r = m := by have := HM.out; omega
        subst hrm
        have d2 : (r : Int) < (sz : Int) := by omega
        gi_wp2
        gi_region
        obtain ⟨fn, tmps, assign, body, hy, hR⟩ := HK.out #[.slice (some (a.add (i * 2))) r r] HV.out
        gi_wp2
        refine hR.mono ?_
        rintro e W3 (⟨rfl, hJ3, hk3⟩ | ⟨rfl, hJx3⟩)
        · have HK3 := Lib.hid hk3
          have c1 : W3.cell? ⟨Bn, 0, none⟩ = some (.int .i64 (sz : Int)) := (row_cell (hk3.cell (.inr rfl) HBn.out) 0).trans rfl
          clear hk3
          gi_wp2
          go_roundw
          case rel => exact ⟨k + 1, by omega, by rw [Nat.add_mul, Nat.one_mul, HI.out]; go_num, hJ3, HK3.out⟩
          case measure => simp [intOf]; omega
        · gi_wp2
          refine bodyPost_ret (results_none rfl _ _ _) rfl ?_
          exact ⟨⟨_, rfl⟩, .inr ⟨_, ⟨k + 1, by omega, rfl⟩, hJx3⟩⟩
      · have hrm : sz = m := by have := HM.out; omega
        subst hrm
        have d2 : ¬ (r : Int) < (sz : Int) := by omega
        gi_wp2
        gi_region
        obtain ⟨fn, tmps, assign, body, hy, hR⟩ := HK.out #[.slice (some (a.add (i * 2))) sz sz] HV.out
        gi_wp2
        refine hR.mono ?_
        rintro e W3 (⟨rfl, hJ3, hk3⟩ | ⟨rfl, hJx3⟩)
        · have HK3 := Lib.hid hk3
          have c1 : W3.cell? ⟨Bn, 0, none⟩ = some (.int .i64 (sz : Int)) := (row_cell (hk3.cell (.inr rfl) HBn.out) 0).trans rfl
          clear hk3
          gi_wp2
          go_roundw
          case rel => exact ⟨k + 1, by omega, by rw [Nat.add_mul, Nat.one_mul, HI.out]; go_num, hJ3, HK3.out⟩
          case measure => simp [intOf]; omega
        · gi_wp2
          refine bodyPost_ret (results_none rfl _ _ _) rfl ?_
          exact ⟨⟨_, rfl⟩, .inr ⟨_, ⟨k + 1, by omega, rfl⟩, hJx3⟩⟩
    · have hkN : k = N := by
        rcases Nat.lt_or_ge k N with h | h
        · have := HN2.out k h
          omega
        · omega
      have g1 : decide ((i : Int) < (len : Int)) = false := by simp; omega
      subst hkN
      gi_wp2
      go_end0
      exact ⟨⟨_, rfl⟩, .inl ⟨_, rfl, hJ0⟩⟩
/-- the iterator tells the parts, in order; or the first of them -/
theorem chunkW_stops (n : Nat) (hn : 1 ≤ n) (Bs Bn len sz c : Nat) (A : Option Addr) (hs1 : 1 ≤ sz) (hs2 : sz ≤ 1000) (hl : len ≤ 4096) (hc : len ≤ c) (hA : len = 0 ∨ ∃ a, A = some a) (w : World) (hBs : w.heap[Bs]? = some (.cells #[.slice A len c] 22 (0, 0))) (hBn : w.heap[Bn]? = some (.cells #[.int .i64 (sz : Int)] 3 (0, 0))) :
    SeqStopsK Fence.wide n Tryd.prog 36 #[.pointer (some ⟨Bs, 0, none⟩), .pointer (some ⟨Bn, 0, none⟩)] (partV A len sz 2) (CKeep (two Bs Bn)) (fun ys => ys = List.range (rowsN len sz)) (fun pre => ∃ k, k ≤ rowsN len sz ∧ pre = List.range k) (rowsN len sz) w :=
  fun lo J Jx W hW hJ _ hY h0 => chunkW_in n hn lo Bs Bn len sz c A hs1 hs2 hl hc hA J Jx hY W hJ (row_below hBs hW (row_lt hBs)) (row_below hBn hW (row_lt hBn)) h0
set_option maxHeartbeats 1000000 in
theorem chunkW_make (n : Nat) (A : Option Addr) (m c sz : Nat) (hs1 : 1 ≤ sz) (w : World) :
    CallsIn Fence.wide n Tryd.prog 15 #[.slice A m c, .int .i64 (sz : Int)] w fun e w' => e = .returned (.func (.func 36) #[] #[.pointer (some ⟨w.heap.size, 0, none⟩), .pointer (some ⟨w.heap.size + 1, 0, none⟩)]) ∧
      w' = (w.alloc (.cells #[.slice A m c] 22)).alloc (.cells #[.int .i64 (sz : Int)] 3) := by
  have hs : ¬ ((sz : Int) < 1) := by omega
  have hs' : decide ((sz : Int) < 1) = false := by simp; omega
  refine callsIn_of_wp Tryd.func15 rfl trivial ?_ rfl
  simp only [Tryd.ntmps15, List.size_toArray, List.length_cons, List.length_nil, Nat.reduceAdd, Nat.reduceSub, Array.replicate_succ, Array.replicate_zero, List.push_toArray, List.append_toArray, List.nil_append, List.cons_append]
  gi_wp2
  go_ret
  exact ⟨rfl, rfl⟩

set_option maxRecDepth 100000 in
set_option maxHeartbeats 4000000 in
theorem chunkI_in (n : Nat) (hn : 1 ≤ n) (lo Bs Bn len sz c : Nat) (A : Option Addr) (hs1 : 1 ≤ sz) (hs2 : sz ≤ 1000) (hl : len ≤ 4096) (hc : len ≤ c) (hA : len = 0 ∨ ∃ a, A = some a) (J Jx : List Nat → World → Prop)
    (hY : ∀ pre x W, J pre W → pre.length < rowsN len sz → YieldAt Fence.wide (n - 1) Tryd.prog lo (partV A len sz 1 x) W fun e W' =>
      (e = .returned (.bool true) ∧ J (pre ++ [x]) W' ∧ CKeep (two Bs Bn) W W') ∨ (e = .returned (.bool false) ∧ Jx (pre ++ [x]) W'))
    (W : World) (hJ : AbidesFrom W.heap.size J) (hBs : W.heap[Bs]? = some (.cells #[.slice A len c] 23 (0, 0))) (hBn : W.heap[Bn]? = some (.cells #[.int .i64 (sz : Int)] 3 (0, 0))) (h0 : J [] W) :
    CallsIn Fence.wide n Tryd.prog 37 #[.func (.yield lo) #[] #[], .pointer (some ⟨Bs, 0, none⟩), .pointer (some ⟨Bn, 0, none⟩)] W fun e W' => (∃ v, e = .returned v) ∧
      ((∃ ys, ys = List.range (rowsN len sz) ∧ J ys W') ∨ (∃ pre, (∃ k, k ≤ rowsN len sz ∧ pre = List.range k) ∧ Jx pre W')) := by
  obtain ⟨hN1, hN2⟩ := rowsN_mul len sz (by omega)
  have HN1 := Lib.hid hN1
  have HN2 := Lib.hid hN2
  obtain ⟨N, hN⟩ : ∃ N, rowsN len sz = N := ⟨_, rfl⟩
  have HNN := Lib.hid hN
  rw [hN] at HN1 HN2 hY
  rw [hN]
  clear hN1 hN2 hN
  refine callsIn_of_wp Tryd.func37 rfl trivial ?_ rfl
  simp only [Tryd.ntmps37, List.size_toArray, List.length_cons, List.length_nil, Nat.reduceAdd, Nat.reduceSub, Array.replicate_succ, Array.replicate_zero, List.push_toArray, List.append_toArray, List.nil_append, List.cons_append]
  gi_wp2
  gi_loopw [4] (fun i wr => ∃ k : Nat, k ≤ N ∧ i = .int .i64 ((k * sz : Nat) : Int) ∧ J (List.range k) wr ∧ CKeep (two Bs Bn) W wr)
    (fun i _ => len - (intOf i).toNat)
  case atStart => exact ⟨0, Nat.zero_le _, by simp, h0, CKeep.refl _ _⟩
  case round =>
    obtain ⟨k, hk, rfl, hJ0, hnx⟩ := hrel
    have hs := hnx.cell (.inl rfl) hBs
    have hn := hnx.cell (.inr rfl) hBn
    have c0 : wr.cell? ⟨Bs, 0, none⟩ = some (.slice A len c) := (row_cell hs 0).trans rfl
    have c1 : wr.cell? ⟨Bn, 0, none⟩ = some (.int .i64 (sz : Int)) := (row_cell hn 0).trans rfl
    clear hs hn
    obtain ⟨i, hi⟩ : ∃ i, k * sz = i := ⟨_, rfl⟩
    have HI := Lib.hid hi
    rw [hi]
    by_cases hlt : i < len
    · have hkN : k < N := by
        rcases Nat.lt_or_ge k N with h | h
        · exact h
        · have h1 := Nat.mul_le_mul_right sz h
          have h2 := HN1.out
          omega
      obtain ⟨a, rfl⟩ : ∃ a, A = some a := by rcases hA with h | h; omega; exact h
      obtain ⟨m, hm⟩ : ∃ m, min sz (len - i) = m := ⟨_, rfl⟩
      have HM := Lib.hid hm
      have hm1 : 1 ≤ m := by omega
      have hm2 : i + m ≤ len := by omega
      have hm3 : m ≤ sz := by omega
      have g1 : decide ((i : Int) < (len : Int)) = true := by simp; omega
      have s1 : IntKind.i64.wrap ((i : Int) + (m : Int)) = ((i + m : Nat) : Int) := by rw [IntWalk.i64_in _ (by omega)]; simp
      have s2 : IntKind.i64.wrap ((i : Int) + (sz : Int)) = ((i + sz : Nat) : Int) := by rw [IntWalk.i64_in _ (by omega)]; simp
      have HK : Hid (∀ v, v = partV (some a) len sz 1 k → YieldAt Fence.wide (n - 1) Tryd.prog lo v wr.drew fun e W' =>
          (e = .returned (.bool true) ∧ J (List.range (k + 1)) W' ∧ CKeep (two Bs Bn) W W') ∨ (e = .returned (.bool false) ∧ Jx (List.range (k + 1)) W')) := Lib.hid (by
        rintro v rfl
        rw [List.range_succ]
        have h1 := hY (List.range k) k wr.drew (hJ _ _ _ none hJ0 ⟨rfl, rfl, rfl, Nat.le_refl _, fun _ _ _ => rfl⟩ (fun r h => by cases h)) (by rw [List.length_range]; exact hkN)
        refine h1.mono fun e W' h => ?_
        rcases h with ⟨h2, h3, h4⟩ | h2
        · exact .inl ⟨h2, h3, hnx.trans (fun i o hi ho hc => h4 i o hi ho hc)⟩
        · exact .inr h2)
      have HV : Hid (#[.slice (some (a.add i)) m m] = partV (some a) len sz 1 k) := Lib.hid (by unfold partV; rw [HNN.out, Nat.min_eq_left (by omega), HI.out, HM.out, Nat.mul_one]; rfl)
      have HBn := Lib.hid hBn
      have HNX := Lib.hid hnx
      clear hY hJ h0 hJ0 hBs hBn hnx hi hm
      obtain ⟨r, hr⟩ : ∃ r, len - i = r := ⟨_, rfl⟩
      have HR := Lib.hid hr
      have hri : ((len : Int) - (i : Int)) = (r : Int) := by omega
      by_cases hlast : r < sz
      · have hrm : r = m := by have := HM.out; omega
        subst hrm
        have d2 : (r : Int) < (sz : Int) := by omega
        gi_wp2
        gi_region
        obtain ⟨fn, tmps, assign, body, hy, hR⟩ := HK.out #[.slice (some (a.add i)) r r] HV.out
        gi_wp2
        refine hR.mono ?_
        rintro e W3 (⟨rfl, hJ3, hk3⟩ | ⟨rfl, hJx3⟩)
        · have HK3 := Lib.hid hk3
          have c1 : W3.cell? ⟨Bn, 0, none⟩ = some (.int .i64 (sz : Int)) := (row_cell (hk3.cell (.inr rfl) HBn.out) 0).trans rfl
          clear hk3
          gi_wp2
          go_roundw
          case rel => exact ⟨k + 1, by omega, by rw [Nat.add_mul, Nat.one_mul, HI.out]; go_num, hJ3, HK3.out⟩
          case measure => simp [intOf]; omega
        · gi_wp2
          refine bodyPost_ret (results_none rfl _ _ _) rfl ?_
          exact ⟨⟨_, rfl⟩, .inr ⟨_, ⟨k + 1, by omega, rfl⟩, hJx3⟩⟩
      · have hrm : sz = m := by have := HM.out; omega
        subst hrm
        have d2 : ¬ (r : Int) < (sz : Int) := by omega
        gi_wp2
        gi_region
        obtain ⟨fn, tmps, assign, body, hy, hR⟩ := HK.out #[.slice (some (a.add i)) sz sz] HV.out
        gi_wp2
        refine hR.mono ?_
        rintro e W3 (⟨rfl, hJ3, hk3⟩ | ⟨rfl, hJx3⟩)
        · have HK3 := Lib.hid hk3
          have c1 : W3.cell? ⟨Bn, 0, none⟩ = some (.int .i64 (sz : Int)) := (row_cell (hk3.cell (.inr rfl) HBn.out) 0).trans rfl
          clear hk3
          gi_wp2
          go_roundw
          case rel => exact ⟨k + 1, by omega, by rw [Nat.add_mul, Nat.one_mul, HI.out]; go_num, hJ3, HK3.out⟩
          case measure => simp [intOf]; omega
        · gi_wp2
          refine bodyPost_ret (results_none rfl _ _ _) rfl ?_
          exact ⟨⟨_, rfl⟩, .inr ⟨_, ⟨k + 1, by omega, rfl⟩, hJx3⟩⟩
    · have hkN : k = N := by
        rcases Nat.lt_or_ge k N with h | h
        · have := HN2.out k h
          omega
        · omega
      have g1 : decide ((i : Int) < (len : Int)) = false := by simp; omega
      subst hkN
      gi_wp2
      go_end0
      exact ⟨⟨_, rfl⟩, .inl ⟨_, rfl, hJ0⟩⟩
/-- the iterator tells the parts, in order; or the first of them -/
theorem chunkI_stops (n : Nat) (hn : 1 ≤ n) (Bs Bn len sz c : Nat) (A : Option Addr) (hs1 : 1 ≤ sz) (hs2 : sz ≤ 1000) (hl : len ≤ 4096) (hc : len ≤ c) (hA : len = 0 ∨ ∃ a, A = some a) (w : World) (hBs : w.heap[Bs]? = some (.cells #[.slice A len c] 23 (0, 0))) (hBn : w.heap[Bn]? = some (.cells #[.int .i64 (sz : Int)] 3 (0, 0))) :
    SeqStopsK Fence.wide n Tryd.prog 37 #[.pointer (some ⟨Bs, 0, none⟩), .pointer (some ⟨Bn, 0, none⟩)] (partV A len sz 1) (CKeep (two Bs Bn)) (fun ys => ys = List.range (rowsN len sz)) (fun pre => ∃ k, k ≤ rowsN len sz ∧ pre = List.range k) (rowsN len sz) w :=
  fun lo J Jx W hW hJ _ hY h0 => chunkI_in n hn lo Bs Bn len sz c A hs1 hs2 hl hc hA J Jx hY W hJ (row_below hBs hW (row_lt hBs)) (row_below hBn hW (row_lt hBn)) h0
set_option maxHeartbeats 1000000 in
theorem chunkI_make (n : Nat) (A : Option Addr) (m c sz : Nat) (hs1 : 1 ≤ sz) (w : World) :
    CallsIn Fence.wide n Tryd.prog 17 #[.slice A m c, .int .i64 (sz : Int)] w fun e w' => e = .returned (.func (.func 37) #[] #[.pointer (some ⟨w.heap.size, 0, none⟩), .pointer (some ⟨w.heap.size + 1, 0, none⟩)]) ∧
      w' = (w.alloc (.cells #[.slice A m c] 23)).alloc (.cells #[.int .i64 (sz : Int)] 3) := by
  have hs : ¬ ((sz : Int) < 1) := by omega
  have hs' : decide ((sz : Int) < 1) = false := by simp; omega
  refine callsIn_of_wp Tryd.func17 rfl trivial ?_ rfl
  simp only [Tryd.ntmps17, List.size_toArray, List.length_cons, List.length_nil, Nat.reduceAdd, Nat.reduceSub, Array.replicate_succ, Array.replicate_zero, List.push_toArray, List.append_toArray, List.nil_append, List.cons_append]
  gi_wp2
  go_ret
  exact ⟨rfl, rfl⟩
end Go.Proofs.YtkkcipjlinfieaaDoor.JLayC
