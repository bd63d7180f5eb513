/- What a block says, if it is a super block: the numbers that are told of it. -/
import Derived.Test.YtoaallnmihhjlaaDoorSTell
import Derived.Test.YtoaallnmihhjlaaDoorSPlain
namespace Go.Proofs.YtoaallnmihhjlaaDoor.SSays
open Go.RowKit WMem WPlain WWide SNums SPlain STell

theorem tells_miss : ∀ (ps : List Addr) (xs : List UInt64) (w : World) (q : Addr), q ∉ ps → (tells ps xs w).cell? q = w.cell? q
  | [], _, _, _, _ => by simp [tells]
  | _ :: _, [], _, _, _ => by simp [tells]
  | p :: ps, x :: xs, w, q, h => by
    simp only [tells]
    rw [tells_miss ps xs _ q (fun hm => h (List.mem_cons_of_mem _ hm))]
    exact World.cell?_setCell_other _ _ _ _ (fun e => h (by rw [e]; exact List.mem_cons_self))
theorem tells_get : ∀ (ps : List Addr) (xs : List UInt64) (w : World) (k : Nat) (hk : k < ps.length) (hx : k < xs.length), ps.Nodup → (∃ u, w.cell? ps[k] = some u) → (tells ps xs w).cell? ps[k] = some (.int .i64 (xs[k].toNat : Int))
  | p :: ps, x :: xs, w, 0, _, _, hn, ⟨u, hu⟩ => by
    simp only [tells, List.getElem_cons_zero]
    rw [tells_miss ps xs _ p (List.nodup_cons.1 hn).1]
    exact World.cell?_setCell_same _ _ _ hu
  | p :: ps, x :: xs, w, k + 1, hk, hx, hn, ⟨u, hu⟩ => by
    simp only [tells, List.getElem_cons_succ]
    exact tells_get ps xs _ k (by simpa using hk) (by simpa using hx) (List.nodup_cons.1 hn).2 (cell?_setCell_some hu)
theorem tells_size : ∀ (ps : List Addr) (xs : List UInt64) (w : World), (tells ps xs w).heap.size = w.heap.size
  | [], _, _ => by simp [tells]
  | _ :: _, [], _ => by simp [tells]
  | p :: ps, x :: xs, w => by
    simp only [tells]
    rw [tells_size ps xs]
    simp [World.setCell]
theorem tells_below : ∀ (ps : List Addr) (xs : List UInt64) (B : Nat) (a w : World), Below B a w → (∀ p ∈ ps, B ≤ p.block) → Below B a (tells ps xs w)
  | [], _, _, _, _, h, _ => by simpa [tells] using h
  | _ :: _, [], _, _, _, h, _ => by simpa [tells] using h
  | p :: ps, x :: xs, B, a, w, h, hp => by
    simp only [tells]
    exact tells_below ps xs B a _ (h.setCell (hp p List.mem_cons_self) _) (fun q hq => hp q (List.mem_cons_of_mem _ hq))

theorem num8 {l : List UInt8} {k n : Nat} (hn : n ≤ 8) : ((UInt64.ofNat (num ((l.drop k).take n))).toNat : Int) = ((num ((l.drop k).take n) : Nat) : Int) := by
  rw [num_u64 _ (Nat.le_trans (List.length_take_le _ _) hn)]
theorem cut {l : List UInt8} {m k n : Nat} (h : k + n ≤ m) : ((l.take m).drop k).take n = (l.drop k).take n := by
  rw [List.drop_take, List.take_take, Nat.min_eq_left (by omega)]
theorem small_num {l : List UInt8} {n : Nat} (hn : l.length ≤ n) (h4 : n ≤ 4) : num l < 4294967296 := by
  have h := num_lt l
  have h3 : 2 ^ (8 * l.length) ≤ 2 ^ 32 := Nat.pow_le_pow_right (by omega) (by omega)
  omega
/-- what stands at a place of a block of numbers -/
theorem unp_at (ns : List Nat) (l : List UInt8) (m k : Nat) (hk : k < ns.length) (h8 : ns[k] ≤ 4) (hm : tot (ns.take k) + ns[k] ≤ m) :
    (((unp ns (l.take m))[k]'(by rw [unp_length]; exact hk)).toNat : Int) = ((num ((l.drop (tot (ns.take k))).take ns[k]) : Nat) : Int) ∧ ((unp ns (l.take m))[k]'(by rw [unp_length]; exact hk)).toNat < 4294967296 := by
  rw [unp_get ns _ k hk, cut hm]
  have h1 := num8 (l := l) (k := tot (ns.take k)) (n := ns[k]) (by omega)
  refine ⟨h1, ?_⟩
  have h2 := small_num (l := (l.drop (tot (ns.take k))).take ns[k]) (List.length_take_le _ _) h8
  omega
def supX (l : List UInt8) : List UInt64 := unp (nats supW) (l.take 39)
theorem supX_len (l : List UInt8) : (supX l).length = 11 := by unfold supX; rw [unp_length]; rfl
theorem supX_small (l : List UInt8) : ∀ x ∈ supX l, x.toNat < 4294967296 := by
  intro x hx
  obtain ⟨k, hk, rfl⟩ := List.getElem_of_mem hx
  have hk' : k < 11 := by rw [supX_len] at hk; exact hk
  match k, hk' with
  | 0, _ => exact (unp_at [4, 2, 4, 4, 4, 4, 4, 4, 4, 4, 1] l 39 0 (by decide) (by decide) (by decide)).2
  | 1, _ => exact (unp_at [4, 2, 4, 4, 4, 4, 4, 4, 4, 4, 1] l 39 1 (by decide) (by decide) (by decide)).2
  | 2, _ => exact (unp_at [4, 2, 4, 4, 4, 4, 4, 4, 4, 4, 1] l 39 2 (by decide) (by decide) (by decide)).2
  | 3, _ => exact (unp_at [4, 2, 4, 4, 4, 4, 4, 4, 4, 4, 1] l 39 3 (by decide) (by decide) (by decide)).2
  | 4, _ => exact (unp_at [4, 2, 4, 4, 4, 4, 4, 4, 4, 4, 1] l 39 4 (by decide) (by decide) (by decide)).2
  | 5, _ => exact (unp_at [4, 2, 4, 4, 4, 4, 4, 4, 4, 4, 1] l 39 5 (by decide) (by decide) (by decide)).2
  | 6, _ => exact (unp_at [4, 2, 4, 4, 4, 4, 4, 4, 4, 4, 1] l 39 6 (by decide) (by decide) (by decide)).2
  | 7, _ => exact (unp_at [4, 2, 4, 4, 4, 4, 4, 4, 4, 4, 1] l 39 7 (by decide) (by decide) (by decide)).2
  | 8, _ => exact (unp_at [4, 2, 4, 4, 4, 4, 4, 4, 4, 4, 1] l 39 8 (by decide) (by decide) (by decide)).2
  | 9, _ => exact (unp_at [4, 2, 4, 4, 4, 4, 4, 4, 4, 4, 1] l 39 9 (by decide) (by decide) (by decide)).2
  | 10, _ => exact (unp_at [4, 2, 4, 4, 4, 4, 4, 4, 4, 4, 1] l 39 10 (by decide) (by decide) (by decide)).2
theorem supX_at (l : List UInt8) :
    (((supX l)[2]'(by rw [supX_len]; decide)).toNat : Int) = f4 l 6 ∧ (((supX l)[3]'(by rw [supX_len]; decide)).toNat : Int) = f4 l 10 ∧ (((supX l)[4]'(by rw [supX_len]; decide)).toNat : Int) = f4 l 14 ∧
    (((supX l)[5]'(by rw [supX_len]; decide)).toNat : Int) = f4 l 18 ∧ (((supX l)[6]'(by rw [supX_len]; decide)).toNat : Int) = f4 l 22 ∧ (((supX l)[7]'(by rw [supX_len]; decide)).toNat : Int) = f4 l 26 ∧
    (((supX l)[8]'(by rw [supX_len]; decide)).toNat : Int) = f4 l 30 ∧ (((supX l)[9]'(by rw [supX_len]; decide)).toNat : Int) = f4 l 34 ∧ (((supX l)[10]'(by rw [supX_len]; decide)).toNat : Int) = f1 l 38 :=
  ⟨(unp_at [4, 2, 4, 4, 4, 4, 4, 4, 4, 4, 1] l 39 2 (by decide) (by decide) (by decide)).1, (unp_at [4, 2, 4, 4, 4, 4, 4, 4, 4, 4, 1] l 39 3 (by decide) (by decide) (by decide)).1,
   (unp_at [4, 2, 4, 4, 4, 4, 4, 4, 4, 4, 1] l 39 4 (by decide) (by decide) (by decide)).1, (unp_at [4, 2, 4, 4, 4, 4, 4, 4, 4, 4, 1] l 39 5 (by decide) (by decide) (by decide)).1,
   (unp_at [4, 2, 4, 4, 4, 4, 4, 4, 4, 4, 1] l 39 6 (by decide) (by decide) (by decide)).1, (unp_at [4, 2, 4, 4, 4, 4, 4, 4, 4, 4, 1] l 39 7 (by decide) (by decide) (by decide)).1,
   (unp_at [4, 2, 4, 4, 4, 4, 4, 4, 4, 4, 1] l 39 8 (by decide) (by decide) (by decide)).1, (unp_at [4, 2, 4, 4, 4, 4, 4, 4, 4, 4, 1] l 39 9 (by decide) (by decide) (by decide)).1,
   (unp_at [4, 2, 4, 4, 4, 4, 4, 4, 4, 4, 1] l 39 10 (by decide) (by decide) (by decide)).1⟩
end Go.Proofs.YtoaallnmihhjlaaDoor.SSays
