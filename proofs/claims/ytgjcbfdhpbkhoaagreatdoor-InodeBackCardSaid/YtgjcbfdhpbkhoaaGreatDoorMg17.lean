/- The variadic helper tell: numbers into the variables that are pointed at. And read: the numbers with which a block begins. -/
import Derived.Test.YtgjcbfdhpbkhoaaGreatDoorMg10
import Derived.Deep.RegionHeld
import Derived.Test.YtgjcbfdhpbkhoaaGreatDoorMg9
import Derived.Deep.QuietTactic
import Derived.BigQuiet
namespace Go.Proofs.YtgjcbfdhpbkhoaaGreatDoor.STell
open Go.RowKit WMem WPlain WGive WGet WPut WAppend WHelp WList WPack WUnpack WFace WFace2 WWide
def ptrv (a : Addr) : Value := .pointer (some a)
def tells : List Addr → List UInt64 → World → World
  | p :: ps, x :: xs, w => tells ps xs (w.setCell p (.int .i64 (x.toNat : Int)))
  | _, _, w => w
theorem tells_snoc : ∀ (ps : List Addr) (xs : List UInt64) (p : Addr) (x : UInt64) (w : World), ps.length = xs.length → tells (ps ++ [p]) (xs ++ [x]) w = (tells ps xs w).setCell p (.int .i64 (x.toNat : Int))
  | [], [], p, x, w, _ => rfl
  | q :: ps, y :: xs, p, x, w, h => by
    simp only [List.cons_append, tells]
    exact tells_snoc ps xs p x _ (by simpa using h)
theorem tells_far : ∀ (ps : List Addr) (xs : List UInt64) (w : World) (q : Addr), (∀ p ∈ ps, p.block ≠ q.block) → (tells ps xs w).cell? q = w.cell? q
  | [], _, _, _, _ => by simp [tells]
  | _ :: _, [], _, _, _ => by simp [tells]
  | p :: ps, x :: xs, w, q, h => by
    simp only [tells]
    rw [tells_far ps xs _ q (fun r hr => h r (List.mem_cons_of_mem _ hr))]
    exact World.cell?_setCell_far _ _ _ _ (h p List.mem_cons_self)
theorem tells_some : ∀ (ps : List Addr) (xs : List UInt64) (w : World) (q : Addr), (∃ u, w.cell? q = some u) → ∃ u, (tells ps xs w).cell? q = some u
  | [], _, _, _, h => by simpa [tells] using h
  | _ :: _, [], _, _, h => by simpa [tells] using h
  | p :: ps, x :: xs, w, q, ⟨u, hu⟩ => by
    simp only [tells]
    exact tells_some ps xs _ q (cell?_setCell_some hu)
theorem tells_free : ∀ (ps : List Addr) (xs : List UInt64) (w : World) (q : Addr), (tells ps xs w).frozen? q = w.frozen? q
  | [], _, _, _ => by simp [tells]
  | _ :: _, [], _, _ => by simp [tells]
  | p :: ps, x :: xs, w, q => by
    simp only [tells]
    rw [tells_free ps xs _ q, World.frozen?_setCell]
set_option maxHeartbeats 1000000 in
theorem tell_any (xs : List UInt64) (ps : List Addr) (hn : xs.length = ps.length) (hx : ∀ x ∈ xs, x.toNat < 9223372036854775808) (B B' : Nat) (A A' : Option Addr) (c c' : Nat) (w : World) (hl : ps.length ≤ 1000000)
    (hA : Sl w B A (xs.map u64v)) (hA' : Sl w B' A' (ps.map ptrv)) (hs : ∀ p ∈ ps, (∃ u, w.cell? p = some u) ∧ w.frozen? p = false)
    (ha : ∀ p ∈ ps, ∀ a, A = some a → p.block ≠ a.block) (ha' : ∀ p ∈ ps, ∀ a, A' = some a → p.block ≠ a.block) :
    Calls Tryz.prog 150 #[.slice A ps.length c, .slice A' ps.length c'] w fun e w' => e = .returned (.tuple #[]) ∧ w' = tells ps xs w := by
  have HA := Lib.hid hA
  have HA' := Lib.hid hA'
  have HN := Lib.hid hn
  have HX := Lib.hid hx
  have HS := Lib.hid hs
  have H1 := Lib.hid ha
  have H2 := Lib.hid ha'
  clear hA hA' hn hx hs ha ha'
  go_enter Tryz.func150, Tryz.ntmps150
  go_wp2
  go_loopw [8] (fun i wr => ∃ k : Nat, k ≤ ps.length ∧ i = .int .i64 k ∧ Hid (wr = tells (ps.take k) (xs.take k) w)) (fun i _ => ps.length - (intOf i).toNat)
  case atStart => exact ⟨0, Nat.zero_le _, rfl, Lib.hid rfl⟩
  case round =>
    obtain ⟨k, hk, rfl, HW⟩ := hrel
    by_cases hlt : k < ps.length
    · have hltx : k < xs.length := by rw [HN.out]; exact hlt
      obtain ⟨a, rfl, _, hc⟩ := HA.out.u64 hltx
      obtain ⟨a', rfl, _, hc'⟩ := HA'.out k (ptrv ps[k]) (by rw [List.getElem?_map, List.getElem?_eq_getElem hlt]; rfl)
      have hmem : ∀ p ∈ ps.take k, p ∈ ps := fun p hp => List.mem_of_mem_take hp
      have q1 : wr.cell? (a.add k) = some (.int .u64 (xs[k].toNat : Int)) := by
        rw [HW.out, tells_far _ _ _ _ (fun p hp => by rw [addr_add_block]; exact H1.out p (hmem p hp) a rfl)]; exact hc
      have q2 : wr.cell? (a'.add k) = some (.pointer (some ps[k])) := by
        rw [HW.out, tells_far _ _ _ _ (fun p hp => by rw [addr_add_block]; exact H2.out p (hmem p hp) a' rfl)]; exact hc'
      obtain ⟨⟨u, hu⟩, hf⟩ := HS.out ps[k] (List.getElem_mem hlt)
      obtain ⟨u', q3⟩ := tells_some (ps.take k) (xs.take k) w ps[k] ⟨u, hu⟩
      rw [← HW.out] at q3
      have q4 : wr.frozen? ps[k] = false := by rw [HW.out, tells_free]; exact hf
      have hxb := HX.out xs[k] (List.getElem_mem hltx)
      have HNX : Hid (tells (ps.take (k + 1)) (xs.take (k + 1)) w = wr.setCell ps[k] (.int .i64 (xs[k].toNat : Int))) := Lib.hid (by
        rw [List.take_succ_eq_append_getElem hlt, List.take_succ_eq_append_getElem hltx, tells_snoc _ _ _ _ _ (by simp; omega), HW.out])
      clear hc hc' hmem hu hf
      generalize xs[k].toNat = x at *
      generalize ps[k] = p at *
      go_wp2
      go_roundw
      case rel => exact ⟨k + 1, by omega, by go_num, Lib.hid (by rw [HNX.out])⟩
      case measure => simp [intOf]; omega
    · obtain rfl : k = ps.length := by omega
      go_wp2
      go_end0
      refine ⟨rfl, ?_⟩
      have := HW.out
      rw [List.take_length, List.take_of_length_le (by rw [HN.out]; exact Nat.le_refl _)] at this
      exact this
end Go.Proofs.YtgjcbfdhpbkhoaaGreatDoor.STell
/- What a block says, if it is a super block: the numbers that are told of it. -/
namespace Go.Proofs.YtgjcbfdhpbkhoaaGreatDoor.SSays
open Go.RowKit WMem WPlain WWide SNums SPlain STell
theorem tells_miss : ∀ (ps : List Addr) (xs : List UInt64) (w : World) (q : Addr), q ∉ ps → (tells ps xs w).cell? q = w.cell? q
  | [], _, _, _, _ => by simp [tells]
  | _ :: _, [], _, _, _ => by simp [tells]
  | p :: ps, x :: xs, w, q, h => by
    simp only [tells]
    rw [tells_miss ps xs _ q (fun hm => h (List.mem_cons_of_mem _ hm))]
    exact World.cell?_setCell_other _ _ _ _ (fun e => h (by rw [e]; exact List.mem_cons_self))
theorem tells_get : ∀ (ps : List Addr) (xs : List UInt64) (w : World) (k : Nat) (hk : k < ps.length) (hx : k < xs.length), ps.Nodup → (∃ u, w.cell? ps[k] = some u) → (tells ps xs w).cell? ps[k] = some (.int .i64 (xs[k].toNat : Int))
  | p :: ps, x :: xs, w, 0, _, _, hn, ⟨u, hu⟩ => by
    simp only [tells, List.getElem_cons_zero]
    rw [tells_miss ps xs _ p (List.nodup_cons.1 hn).1]
    exact World.cell?_setCell_same _ _ _ hu
  | p :: ps, x :: xs, w, k + 1, hk, hx, hn, ⟨u, hu⟩ => by
    simp only [tells, List.getElem_cons_succ]
    exact tells_get ps xs _ k (by simpa using hk) (by simpa using hx) (List.nodup_cons.1 hn).2 (cell?_setCell_some hu)
theorem tells_size : ∀ (ps : List Addr) (xs : List UInt64) (w : World), (tells ps xs w).heap.size = w.heap.size
  | [], _, _ => by simp [tells]
  | _ :: _, [], _ => by simp [tells]
  | p :: ps, x :: xs, w => by
    simp only [tells]
    rw [tells_size ps xs]
    simp [World.setCell]
theorem tells_below : ∀ (ps : List Addr) (xs : List UInt64) (B : Nat) (a w : World), Below B a w → (∀ p ∈ ps, B ≤ p.block) → Below B a (tells ps xs w)
  | [], _, _, _, _, h, _ => by simpa [tells] using h
  | _ :: _, [], _, _, _, h, _ => by simpa [tells] using h
  | p :: ps, x :: xs, B, a, w, h, hp => by
    simp only [tells]
    exact tells_below ps xs B a _ (h.setCell (hp p List.mem_cons_self) _) (fun q hq => hp q (List.mem_cons_of_mem _ hq))
theorem num8 {l : List UInt8} {k n : Nat} (hn : n ≤ 8) : ((UInt64.ofNat (num ((l.drop k).take n))).toNat : Int) = ((num ((l.drop k).take n) : Nat) : Int) := by
  rw [num_u64 _ (Nat.le_trans (List.length_take_le _ _) hn)]
theorem cut {l : List UInt8} {m k n : Nat} (h : k + n ≤ m) : ((l.take m).drop k).take n = (l.drop k).take n := by
  rw [List.drop_take, List.take_take, Nat.min_eq_left (by omega)]
theorem small_num {l : List UInt8} {n : Nat} (hn : l.length ≤ n) (h4 : n ≤ 4) : num l < 4294967296 := by
  have h := num_lt l
  have h3 : 2 ^ (8 * l.length) ≤ 2 ^ 32 := Nat.pow_le_pow_right (by omega) (by omega)
  omega
theorem unp_at (ns : List Nat) (l : List UInt8) (m k : Nat) (hk : k < ns.length) (h8 : ns[k] ≤ 4) (hm : tot (ns.take k) + ns[k] ≤ m) :
    (((unp ns (l.take m))[k]'(by rw [unp_length]; exact hk)).toNat : Int) = ((num ((l.drop (tot (ns.take k))).take ns[k]) : Nat) : Int) ∧ ((unp ns (l.take m))[k]'(by rw [unp_length]; exact hk)).toNat < 4294967296 := by
  rw [unp_get ns _ k hk, cut hm]
  have h1 := num8 (l := l) (k := tot (ns.take k)) (n := ns[k]) (by omega)
  refine ⟨h1, ?_⟩
  have h2 := small_num (l := (l.drop (tot (ns.take k))).take ns[k]) (List.length_take_le _ _) h8
  omega
def supX (l : List UInt8) : List UInt64 := unp (nats supW) (l.take 39)
theorem supX_len (l : List UInt8) : (supX l).length = 11 := by unfold supX; rw [unp_length]; rfl
theorem supX_small (l : List UInt8) : ∀ x ∈ supX l, x.toNat < 4294967296 := by
  intro x hx
  obtain ⟨k, hk, rfl⟩ := List.getElem_of_mem hx
  have hk' : k < 11 := by rw [supX_len] at hk; exact hk
  match k, hk' with
  | 0, _ => exact (unp_at [4, 2, 4, 4, 4, 4, 4, 4, 4, 4, 1] l 39 0 (by decide) (by decide) (by decide)).2
  | 1, _ => exact (unp_at [4, 2, 4, 4, 4, 4, 4, 4, 4, 4, 1] l 39 1 (by decide) (by decide) (by decide)).2
  | 2, _ => exact (unp_at [4, 2, 4, 4, 4, 4, 4, 4, 4, 4, 1] l 39 2 (by decide) (by decide) (by decide)).2
  | 3, _ => exact (unp_at [4, 2, 4, 4, 4, 4, 4, 4, 4, 4, 1] l 39 3 (by decide) (by decide) (by decide)).2
  | 4, _ => exact (unp_at [4, 2, 4, 4, 4, 4, 4, 4, 4, 4, 1] l 39 4 (by decide) (by decide) (by decide)).2
  | 5, _ => exact (unp_at [4, 2, 4, 4, 4, 4, 4, 4, 4, 4, 1] l 39 5 (by decide) (by decide) (by decide)).2
  | 6, _ => exact (unp_at [4, 2, 4, 4, 4, 4, 4, 4, 4, 4, 1] l 39 6 (by decide) (by decide) (by decide)).2
  | 7, _ => exact (unp_at [4, 2, 4, 4, 4, 4, 4, 4, 4, 4, 1] l 39 7 (by decide) (by decide) (by decide)).2
  | 8, _ => exact (unp_at [4, 2, 4, 4, 4, 4, 4, 4, 4, 4, 1] l 39 8 (by decide) (by decide) (by decide)).2
  | 9, _ => exact (unp_at [4, 2, 4, 4, 4, 4, 4, 4, 4, 4, 1] l 39 9 (by decide) (by decide) (by decide)).2
  | 10, _ => exact (unp_at [4, 2, 4, 4, 4, 4, 4, 4, 4, 4, 1] l 39 10 (by decide) (by decide) (by decide)).2
theorem supX_at (l : List UInt8) :
    (((supX l)[2]'(by rw [supX_len]; decide)).toNat : Int) = f4 l 6 ∧ (((supX l)[3]'(by rw [supX_len]; decide)).toNat : Int) = f4 l 10 ∧ (((supX l)[4]'(by rw [supX_len]; decide)).toNat : Int) = f4 l 14 ∧
    (((supX l)[5]'(by rw [supX_len]; decide)).toNat : Int) = f4 l 18 ∧ (((supX l)[6]'(by rw [supX_len]; decide)).toNat : Int) = f4 l 22 ∧ (((supX l)[7]'(by rw [supX_len]; decide)).toNat : Int) = f4 l 26 ∧
    (((supX l)[8]'(by rw [supX_len]; decide)).toNat : Int) = f4 l 30 ∧ (((supX l)[9]'(by rw [supX_len]; decide)).toNat : Int) = f4 l 34 ∧ (((supX l)[10]'(by rw [supX_len]; decide)).toNat : Int) = f1 l 38 :=
  ⟨(unp_at [4, 2, 4, 4, 4, 4, 4, 4, 4, 4, 1] l 39 2 (by decide) (by decide) (by decide)).1, (unp_at [4, 2, 4, 4, 4, 4, 4, 4, 4, 4, 1] l 39 3 (by decide) (by decide) (by decide)).1,
   (unp_at [4, 2, 4, 4, 4, 4, 4, 4, 4, 4, 1] l 39 4 (by decide) (by decide) (by decide)).1, (unp_at [4, 2, 4, 4, 4, 4, 4, 4, 4, 4, 1] l 39 5 (by decide) (by decide) (by decide)).1,
   (unp_at [4, 2, 4, 4, 4, 4, 4, 4, 4, 4, 1] l 39 6 (by decide) (by decide) (by decide)).1, (unp_at [4, 2, 4, 4, 4, 4, 4, 4, 4, 4, 1] l 39 7 (by decide) (by decide) (by decide)).1,
   (unp_at [4, 2, 4, 4, 4, 4, 4, 4, 4, 4, 1] l 39 8 (by decide) (by decide) (by decide)).1, (unp_at [4, 2, 4, 4, 4, 4, 4, 4, 4, 4, 1] l 39 9 (by decide) (by decide) (by decide)).1,
   (unp_at [4, 2, 4, 4, 4, 4, 4, 4, 4, 4, 1] l 39 10 (by decide) (by decide) (by decide)).1⟩
end Go.Proofs.YtgjcbfdhpbkhoaaGreatDoor.SSays
/- The groups' block, in plain mathematics. -/
namespace Go.Proofs.YtgjcbfdhpbkhoaaGreatDoor.QPlain
open Go.RowKit WMem WPlain WPack WWide WAny SNums GPlain SPlain SSays
structure Grp where
  fb : Int
  fi : Int
  dirs : Int
  deriving DecidableEq
def oneMay (x : Grp) : Bool := allIn 0 65535 [x.fb, x.fi, x.dirs]
def grpMay (l : List Grp) : Bool := inB 1 14 l.length && l.all oneMay
def three (x : Grp) : List Nat := [x.fb.toNat, x.fi.toNat, x.dirs.toNat]
def grpN (l : List Grp) : List Nat := l.flatMap three
def grpW (n : Nat) : List Int := List.replicate (3 * n) 4
def grpBytes (l : List Grp) : List UInt8 := blockOf (nums (grpN l)) (grpW l.length) 1
theorem grpN_len (l : List Grp) : (grpN l).length = 3 * l.length := by
  induction l with
  | nil => rfl
  | cons x l ih =>
    simp only [grpN, List.flatMap_cons, List.length_append, List.length_cons]
    unfold grpN at ih
    rw [ih]
    simp [three]
    omega
theorem grpN_snoc (l : List Grp) (x : Grp) : grpN (l ++ [x]) = grpN l ++ three x := by simp [grpN]
theorem grpN_take_succ (l : List Grp) (k : Nat) (h : k < l.length) : grpN (l.take (k + 1)) = grpN (l.take k) ++ three l[k] := by
  rw [List.take_succ_eq_append_getElem h, grpN_snoc]
theorem grp_ns (n : Nat) : nats (grpW n) = List.replicate (3 * n) 4 := by simp [nats, grpW]
theorem grp_fine (n : Nat) : fineI (grpW n) := by
  intro x hx
  have := List.eq_of_mem_replicate hx
  omega
theorem tot_fours (m : Nat) : tot (List.replicate m 4) = 4 * m := by
  unfold tot
  rw [List.sum_replicate_nat]
  omega
theorem grp_tot (n : Nat) : tot (nats (grpW n)) = 12 * n := by rw [grp_ns, tot_fours]; omega
theorem grp_packs (l : List Grp) (h : l.length ≤ 14) : packs (nums (grpN l)) (grpW l.length) 256 :=
  ⟨by rw [nums_len, grpN_len]; simp [grpW], grp_fine _, by rw [grp_tot]; omega, by decide⟩
theorem oneMay_iff {x : Grp} : oneMay x = true ↔ (0 ≤ x.fb ∧ x.fb ≤ 65535) ∧ (0 ≤ x.fi ∧ x.fi ≤ 65535) ∧ (0 ≤ x.dirs ∧ x.dirs ≤ 65535) := by
  simp only [oneMay, allIn, List.all_cons, List.all_nil, Bool.and_eq_true, inB_true, Bool.and_true]
theorem grpMay_iff {l : List Grp} : grpMay l = true ↔ (1 ≤ l.length ∧ l.length ≤ 14) ∧ ∀ x ∈ l, oneMay x = true := by
  simp only [grpMay, Bool.and_eq_true, inB_true, List.all_eq_true]
  constructor
  · rintro ⟨h1, h2⟩; exact ⟨by omega, h2⟩
  · rintro ⟨h1, h2⟩; exact ⟨by omega, h2⟩
theorem grp_small (l : List Grp) (h : ∀ x ∈ l, oneMay x = true) : ∀ y ∈ grpN l, y < 65536 := by
  intro y hy
  obtain ⟨x, hx, hyx⟩ := List.mem_flatMap.1 hy
  have := oneMay_iff.1 (h x hx)
  simp only [three, List.mem_cons, List.not_mem_nil, or_false] at hyx
  rcases hyx with e | e | e <;> omega
theorem grp_fit (l : List Grp) (h : ∀ x ∈ l, oneMay x = true) : fit (nats (grpW l.length)) (nums (grpN l)) := by
  refine fit_of_get _ _ (by rw [nums_len, grpN_len, grp_ns]; simp) fun k hk => ?_
  have hk' : k < (grpN l).length := by rw [grpN_len]; rw [grp_ns] at hk; simpa using hk
  have hs := grp_small l h _ (List.getElem_mem hk')
  simp only [nums, List.getElem_map, grp_ns, List.getElem_replicate]
  rw [ofNat_small (by omega)]
  have : (2 : Nat) ^ (8 * 4) = 4294967296 := by decide
  omega
theorem grpBytes_len (l : List Grp) (h : l.length ≤ 14) : (grpBytes l).length = 256 := blockOf_len _ _ _ (grp_packs l h)
def saysOne (b : List UInt8) (i : Nat) : Grp := ⟨f4 b (12 * i), f4 b (12 * i + 4), f4 b (12 * i + 8)⟩
def grpSays (b : List UInt8) (n : Nat) : List Grp := (List.range n).map (saysOne b)
theorem grpSays_len (b : List UInt8) (n : Nat) : (grpSays b n).length = n := by simp [grpSays]
def grpGood (b : List UInt8) (n : Nat) : Bool := grpMay (grpSays b n) && (grpBytes (grpSays b n) == b)
def grpX (b : List UInt8) (n : Nat) : List UInt64 := unp (nats (grpW n)) (b.take (12 * n))
theorem grpX_len (b : List UInt8) (n : Nat) : (grpX b n).length = 3 * n := by unfold grpX; rw [unp_length, grp_ns]; simp
theorem grpX_at (b : List UInt8) (n k : Nat) (hk : k < 3 * n) : (((grpX b n)[k]'(by rw [grpX_len]; exact hk)).toNat : Int) = f4 b (4 * k) ∧ ((grpX b n)[k]'(by rw [grpX_len]; exact hk)).toNat < 4294967296 := by
  have h1 : (nats (grpW n)).length = 3 * n := by rw [grp_ns]; simp
  have h2 : ∀ (hk' : k < (nats (grpW n)).length), (nats (grpW n))[k] = 4 := fun hk' => by simp only [grp_ns, List.getElem_replicate]
  have h3 : tot ((nats (grpW n)).take k) = 4 * k := by rw [grp_ns, List.take_replicate, Nat.min_eq_left (by omega), tot_fours]
  have h := unp_at (nats (grpW n)) b (12 * n) k (by omega) (by rw [h2]; decide) (by rw [h2, h3]; omega)
  refine ⟨?_, h.2⟩
  have h4 := h.1
  rw [h3, h2] at h4
  exact h4
end Go.Proofs.YtgjcbfdhpbkhoaaGreatDoor.QPlain
/- A slice that reads as groups; the statements' own sameGroups. -/
namespace Go.Proofs.YtgjcbfdhpbkhoaaGreatDoor.QMem
open Go.RowKit WMem WPlain QPlain
theorem addr_field (a : Addr) (n j : Nat) (hj : j ≠ 0) : (⟨(a.add n).block, (a.add n).off + j, none⟩ : Addr) = a.add (n + j) := by
  rw [← addr_add_add a n j]
  generalize a.add n = x
  unfold Addr.add
  rw [if_neg hj]
def Grps (w : World) (B : Nat) (A : Option Addr) (l : List Grp) : Prop :=
  ∀ (i : Nat) (hi : i < l.length), ∃ a, A = some a ∧ a.block < B ∧ w.cell? (a.add (i * 3)) = some (.int .i64 l[i].fb) ∧ w.cell? (a.add (i * 3 + 1)) = some (.int .i64 l[i].fi) ∧ w.cell? (a.add (i * 3 + 2)) = some (.int .i64 l[i].dirs)
section
variable {w w' : World} {B B' : Nat} {A : Option Addr} {l : List Grp}
theorem Grps.keep (h : Grps w B A l) (hk : ∀ p : Addr, p.block < B → w'.cell? p = w.cell? p) : Grps w' B A l := fun i hi => by
  obtain ⟨a, hA, hab, h1, h2, h3⟩ := h i hi
  have hk' : ∀ n, w'.cell? (a.add n) = w.cell? (a.add n) := fun n => hk _ (by rw [addr_add_block]; omega)
  exact ⟨a, hA, hab, (hk' _).trans h1, (hk' _).trans h2, (hk' _).trans h3⟩
theorem Grps.below (h : Grps w B A l) (hb : Below B' w w') (hB : B ≤ B') : Grps w' B A l := h.keep fun _ hp => hb.cell (by omega)
theorem Grps.up (h : Grps w B A l) (hB : B ≤ B') : Grps w B' A l := fun i hi => by
  obtain ⟨a, hA, hab, h1⟩ := h i hi
  exact ⟨a, hA, by omega, h1⟩
theorem Grps.drewN (h : Grps w B A l) (n : Nat) : Grps (w.drewN n) B A l := h
theorem Grps.at_ (h : Grps w B A l) {k : Nat} (hk : k < l.length) : ∃ a, A = some a ∧ a.block < B ∧ w.cell? (a.add (k * 3)) = some (.int .i64 l[k].fb) ∧
    w.cell? ⟨(a.add (k * 3)).block, (a.add (k * 3)).off + 1, none⟩ = some (.int .i64 l[k].fi) ∧ w.cell? ⟨(a.add (k * 3)).block, (a.add (k * 3)).off + 2, none⟩ = some (.int .i64 l[k].dirs) := by
  obtain ⟨a, hA, hab, h1, h2, h3⟩ := h k hk
  exact ⟨a, hA, hab, h1, (congrArg w.cell? (addr_field a (k * 3) 1 (by decide))).trans h2, (congrArg w.cell? (addr_field a (k * 3) 2 (by decide))).trans h3⟩
end
end Go.Proofs.YtgjcbfdhpbkhoaaGreatDoor.QMem
