/- The variadic helper tell: numbers into the variables that are pointed at. And read: the numbers with which a block begins. -/
import Derived.Test.YtoaallnmihhjlaaDoorWWide
import Derived.Test.YtoaallnmihhjlaaDoorSNums
import Derived.Deep.RegionHeld
namespace Go.Proofs.YtoaallnmihhjlaaDoor.STell
open Go.RowKit WMem WPlain WGive WGet WPut WAppend WHelp WList WPack WUnpack WFace WFace2 WWide

def ptrv (a : Addr) : Value := .pointer (some a)
/-- the variables that are told, in order -/
def tells : List Addr → List UInt64 → World → World
  | p :: ps, x :: xs, w => tells ps xs (w.setCell p (.int .i64 (x.toNat : Int)))
  | _, _, w => w
theorem tells_snoc : ∀ (ps : List Addr) (xs : List UInt64) (p : Addr) (x : UInt64) (w : World), ps.length = xs.length → tells (ps ++ [p]) (xs ++ [x]) w = (tells ps xs w).setCell p (.int .i64 (x.toNat : Int))
  | [], [], p, x, w, _ => rfl
  | q :: ps, y :: xs, p, x, w, h => by
    simp only [List.cons_append, tells]
    exact tells_snoc ps xs p x _ (by simpa using h)
theorem tells_far : ∀ (ps : List Addr) (xs : List UInt64) (w : World) (q : Addr), (∀ p ∈ ps, p.block ≠ q.block) → (tells ps xs w).cell? q = w.cell? q
  | [], _, _, _, _ => by simp [tells]
  | _ :: _, [], _, _, _ => by simp [tells]
  | p :: ps, x :: xs, w, q, h => by
    simp only [tells]
    rw [tells_far ps xs _ q (fun r hr => h r (List.mem_cons_of_mem _ hr))]
    exact World.cell?_setCell_far _ _ _ _ (h p List.mem_cons_self)
theorem tells_some : ∀ (ps : List Addr) (xs : List UInt64) (w : World) (q : Addr), (∃ u, w.cell? q = some u) → ∃ u, (tells ps xs w).cell? q = some u
  | [], _, _, _, h => by simpa [tells] using h
  | _ :: _, [], _, _, h => by simpa [tells] using h
  | p :: ps, x :: xs, w, q, ⟨u, hu⟩ => by
    simp only [tells]
    exact tells_some ps xs _ q (cell?_setCell_some hu)
theorem tells_free : ∀ (ps : List Addr) (xs : List UInt64) (w : World) (q : Addr), (tells ps xs w).frozen? q = w.frozen? q
  | [], _, _, _ => by simp [tells]
  | _ :: _, [], _, _ => by simp [tells]
  | p :: ps, x :: xs, w, q => by
    simp only [tells]
    rw [tells_free ps xs _ q, World.frozen?_setCell]

set_option maxHeartbeats 1000000 in
theorem tell_any (xs : List UInt64) (ps : List Addr) (hn : xs.length = ps.length) (hx : ∀ x ∈ xs, x.toNat < 9223372036854775808) (B B' : Nat) (A A' : Option Addr) (c c' : Nat) (w : World) (hl : ps.length ≤ 1000000)
    (hA : Sl w B A (xs.map u64v)) (hA' : Sl w B' A' (ps.map ptrv)) (hs : ∀ p ∈ ps, (∃ u, w.cell? p = some u) ∧ w.frozen? p = false)
    (ha : ∀ p ∈ ps, ∀ a, A = some a → p.block ≠ a.block) (ha' : ∀ p ∈ ps, ∀ a, A' = some a → p.block ≠ a.block) :
    Calls Tryd.prog 32 #[.slice A ps.length c, .slice A' ps.length c'] w fun e w' => e = .returned (.tuple #[]) ∧ w' = tells ps xs w := by
  have HA := Lib.hid hA
  have HA' := Lib.hid hA'
  have HN := Lib.hid hn
  have HX := Lib.hid hx
  have HS := Lib.hid hs
  have H1 := Lib.hid ha
  have H2 := Lib.hid ha'
  clear hA hA' hn hx hs ha ha'
  go_enter Tryd.func32, Tryd.ntmps32
  go_wp2
  go_loopw [8] (fun i wr => ∃ k : Nat, k ≤ ps.length ∧ i = .int .i64 k ∧ Hid (wr = tells (ps.take k) (xs.take k) w)) (fun i _ => ps.length - (intOf i).toNat)
  case atStart => exact ⟨0, Nat.zero_le _, rfl, Lib.hid rfl⟩
  case round =>
    obtain ⟨k, hk, rfl, HW⟩ := hrel
    by_cases hlt : k < ps.length
    · have hltx : k < xs.length := by rw [HN.out]; exact hlt
      obtain ⟨a, rfl, _, hc⟩ := HA.out.u64 hltx
      obtain ⟨a', rfl, _, hc'⟩ := HA'.out k (ptrv ps[k]) (by rw [List.getElem?_map, List.getElem?_eq_getElem hlt]; rfl)
      have hmem : ∀ p ∈ ps.take k, p ∈ ps := fun p hp => List.mem_of_mem_take hp
      have q1 : wr.cell? (a.add k) = some (.int .u64 (xs[k].toNat : Int)) := by
        rw [HW.out, tells_far _ _ _ _ (fun p hp => by rw [addr_add_block]; exact H1.out p (hmem p hp) a rfl)]; exact hc
      have q2 : wr.cell? (a'.add k) = some (.pointer (some ps[k])) := by
        rw [HW.out, tells_far _ _ _ _ (fun p hp => by rw [addr_add_block]; exact H2.out p (hmem p hp) a' rfl)]; exact hc'
      obtain ⟨⟨u, hu⟩, hf⟩ := HS.out ps[k] (List.getElem_mem hlt)
      obtain ⟨u', q3⟩ := tells_some (ps.take k) (xs.take k) w ps[k] ⟨u, hu⟩
      rw [← HW.out] at q3
      have q4 : wr.frozen? ps[k] = false := by rw [HW.out, tells_free]; exact hf
      have hxb := HX.out xs[k] (List.getElem_mem hltx)
      have HNX : Hid (tells (ps.take (k + 1)) (xs.take (k + 1)) w = wr.setCell ps[k] (.int .i64 (xs[k].toNat : Int))) := Lib.hid (by
        rw [List.take_succ_eq_append_getElem hlt, List.take_succ_eq_append_getElem hltx, tells_snoc _ _ _ _ _ (by simp; omega), HW.out])
      clear hc hc' hmem hu hf
      generalize xs[k].toNat = x at *
      generalize ps[k] = p at *
      go_wp2
      go_roundw
      case rel => exact ⟨k + 1, by omega, by go_num, Lib.hid (by rw [HNX.out])⟩
      case measure => simp [intOf]; omega
    · obtain rfl : k = ps.length := by omega
      go_wp2
      go_end0
      refine ⟨rfl, ?_⟩
      have := HW.out
      rw [List.take_length, List.take_of_length_le (by rw [HN.out]; exact Nat.le_refl _)] at this
      exact this
end Go.Proofs.YtoaallnmihhjlaaDoor.STell
