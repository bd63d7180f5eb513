/- Records of the journal in plain mathematics: which may be, their blocks, what a block says. -/
import Derived.Test.YtkkcipjlinfieaaDoorSNums
import Derived.Test.YtkkcipjlinfieaaDoorWTurn
namespace Go.Proofs.YtkkcipjlinfieaaDoor.JPlain
open Go.RowKit WMem WPlain WPack WWide WAny WTurn SNums

structure Ent where
  blk : Int
  esc : Bool
  deriving DecidableEq
structure Rec where
  kind : Int
  seq : Int
  ents : List Ent
  sum : Nat
  start : Int
  deriving DecidableEq

def nul : Rec := ⟨0, 0, [], 0, 0⟩
def hasOk (kind : Int) (n : Nat) : Bool := if kind = 1 then decide (1 ≤ n ∧ n ≤ 48) else if kind = 3 then decide (1 ≤ n ∧ n ≤ 60) else decide ((kind = 2 ∨ kind = 4) ∧ n = 0)
def blkOk (x : Ent) : Bool := decide (0 ≤ x.blk ∧ x.blk ≤ 4095)
def seqOk (s : Int) : Bool := decide (1 ≤ s ∧ s ≤ 2147483647)
def restOk (r : Rec) : Bool :=
  if r.kind = 1 then decide (r.sum = 0 ∧ r.start = 0) else if r.kind = 3 then decide (r.sum = 0 ∧ r.start = 0) && !r.ents.any (·.esc) else if r.kind = 2 then decide (r.start = 0) else
    if r.kind = 4 then decide (r.sum = 0 ∧ 0 ≤ r.start ∧ r.start ≤ 511) else false
def recMay (r : Rec) : Bool := seqOk r.seq && hasOk r.kind r.ents.length && r.ents.all blkOk && restOk r

theorem hasOk_cases {kind : Int} {n : Nat} (h : hasOk kind n = true) : (kind = 1 ∧ 1 ≤ n ∧ n ≤ 48) ∨ (kind = 3 ∧ 1 ≤ n ∧ n ≤ 60) ∨ (kind = 2 ∧ n = 0) ∨ (kind = 4 ∧ n = 0) := by
  unfold hasOk at h
  split at h
  · simp at h; omega
  · split at h
    · simp at h; omega
    · simp at h; omega
theorem recMay_iff {r : Rec} : recMay r = true ↔ seqOk r.seq = true ∧ hasOk r.kind r.ents.length = true ∧ (∀ x ∈ r.ents, blkOk x = true) ∧ restOk r = true := by
  simp only [recMay, Bool.and_eq_true, List.all_eq_true, and_assoc]

/-! the numbers of a record -/
def ent2 (x : Ent) : List Nat := [x.blk.toNat, if x.esc then 1 else 0]
def bodyN (r : Rec) : List Nat := if r.kind = 1 then r.ents.flatMap ent2 else if r.kind = 3 then r.ents.map (·.blk.toNat) else if r.kind = 2 then [r.sum] else [r.start.toNat]
def alt (i : Nat) : Int := if i % 2 = 0 then 4 else 1
def bodyW (kind : Int) (n : Nat) : List Int := if kind = 1 then (List.range (2 * n)).map alt else if kind = 3 then List.replicate n 4 else [4]
def headN (r : Rec) : List Nat := [1213813321, r.kind.toNat, r.seq.toNat, r.ents.length]
def headW : List Int := [4, 1, 4, 2]
def recN (r : Rec) : List Nat := headN r ++ bodyN r
def recW (kind : Int) (n : Nat) : List Int := headW ++ bodyW kind n
def recBytes (r : Rec) : List UInt8 := blockOf (nums (recN r)) (recW r.kind r.ents.length) r.seq.toNat

theorem ent2s_len (l : List Ent) : (l.flatMap ent2).length = 2 * l.length := by
  induction l with
  | nil => rfl
  | cons x l ih => simp only [List.flatMap_cons, List.length_append, List.length_cons, ih]; simp [ent2]; omega
theorem bodyN_len {r : Rec} (h : hasOk r.kind r.ents.length = true) : (bodyN r).length = (bodyW r.kind r.ents.length).length := by
  unfold bodyN bodyW
  rcases hasOk_cases h with ⟨e, _⟩ | ⟨e, _⟩ | ⟨e, _⟩ | ⟨e, _⟩
  · rw [e]
    simp only [if_true]
    rw [ent2s_len]
    simp
  all_goals simp [e]
theorem recN_len {r : Rec} (h : hasOk r.kind r.ents.length = true) : (recN r).length = (recW r.kind r.ents.length).length := by
  simp only [recN, recW, List.length_append, bodyN_len h]; rfl
theorem bodyW_fine (kind : Int) (n : Nat) : fineI (bodyW kind n) := by
  intro x hx
  unfold bodyW at hx
  split at hx
  · obtain ⟨i, _, rfl⟩ := List.mem_map.1 hx
    unfold alt; split <;> omega
  · split at hx
    · have := List.eq_of_mem_replicate hx; omega
    · simp at hx; omega
theorem headW_fine : fineI headW := by
  intro x hx
  simp [headW] at hx
  omega
theorem recW_fine (kind : Int) (n : Nat) : fineI (recW kind n) := by
  intro x hx
  rcases List.mem_append.1 hx with h | h
  · exact headW_fine x h
  · exact bodyW_fine kind n x h
theorem alt_tot : ∀ n, tot (nats ((List.range (2 * n)).map alt)) = 5 * n
  | 0 => rfl
  | n + 1 => by
    have ih := alt_tot n
    rw [show 2 * (n + 1) = 2 * n + 1 + 1 by omega, List.range_succ, List.range_succ]
    simp only [nats, tot, List.map_append, List.sum_append, List.map_cons, List.map_nil, List.sum_cons, List.sum_nil] at ih ⊢
    rw [ih]
    have e1 : alt (2 * n) = 4 := by unfold alt; rw [if_pos (by omega)]
    have e2 : alt (2 * n + 1) = 1 := by unfold alt; rw [if_neg (by omega)]
    rw [e1, e2]
    simp
    omega
theorem nats_append (a b : List Int) : nats (a ++ b) = nats a ++ nats b := by simp [nats]
theorem tot_append (a b : List Nat) : tot (a ++ b) = tot a + tot b := by simp [tot]
def bodyT (kind : Int) (n : Nat) : Nat := if kind = 1 then 5 * n else if kind = 3 then 4 * n else 4
theorem fours_tot (n : Nat) : tot (nats (List.replicate n (4 : Int))) = 4 * n := by
  have e : nats (List.replicate n (4 : Int)) = List.replicate n 4 := by simp [nats]
  rw [e]
  unfold tot
  rw [List.sum_replicate_nat]
  omega
theorem bodyW_tot (kind : Int) (n : Nat) : tot (nats (bodyW kind n)) = bodyT kind n := by
  unfold bodyW bodyT
  split
  · exact alt_tot n
  · split
    · exact fours_tot n
    · rfl
theorem recW_tot (kind : Int) (n : Nat) : tot (nats (recW kind n)) = 11 + bodyT kind n := by
  rw [recW, nats_append, tot_append, bodyW_tot]; rfl
theorem bodyT_le {kind : Int} {n : Nat} (h : hasOk kind n = true) : bodyT kind n ≤ 240 := by
  unfold bodyT
  rcases hasOk_cases h with ⟨e, _⟩ | ⟨e, _⟩ | ⟨e, _⟩ | ⟨e, _⟩ <;> simp [e] <;> omega
theorem rec_packs {r : Rec} (h : hasOk r.kind r.ents.length = true) : packs (nums (recN r)) (recW r.kind r.ents.length) 256 :=
  ⟨by rw [nums_len, recN_len h], recW_fine _ _, by rw [recW_tot]; have := bodyT_le h; omega, by decide⟩
theorem recBytes_len {r : Rec} (h : hasOk r.kind r.ents.length = true) : (recBytes r).length = 256 := blockOf_len _ _ _ (rec_packs h)

/-- at even places blocks, at odd ones whether they are escaped -/
theorem ent2s_get (l : List Ent) : ∀ (i : Nat) (hi : i < l.length), (l.flatMap ent2)[2 * i]? = some l[i].blk.toNat ∧ (l.flatMap ent2)[2 * i + 1]? = some (if l[i].esc then 1 else 0) := by
  induction l with
  | nil => intro i hi; cases hi
  | cons x l ih =>
    intro i hi
    have e : (x :: l).flatMap ent2 = ent2 x ++ l.flatMap ent2 := rfl
    match i with
    | 0 => simp [e, ent2]
    | i + 1 =>
      have h := ih i (by simpa using hi)
      have g : ∀ k, ((x :: l).flatMap ent2)[2 * (i + 1) + k]? = (l.flatMap ent2)[2 * i + k]? := fun k => by
        rw [e, List.getElem?_append_right (by simp [ent2]; omega)]
        congr 1
        simp [ent2]
        omega
      have g0 := g 0
      simp only [Nat.add_zero] at g0
      rw [g0, g 1]
      simpa using h
theorem blkOk_iff {x : Ent} : blkOk x = true ↔ 0 ≤ x.blk ∧ x.blk ≤ 4095 := by simp [blkOk]
theorem seqOk_iff {s : Int} : seqOk s = true ↔ 1 ≤ s ∧ s ≤ 2147483647 := by simp [seqOk]
theorem ofNat_of {x : Nat} (h : x < 18446744073709551616) : (UInt64.ofNat x).toNat = x := by
  simp only [UInt64.toNat_ofNat']
  exact Nat.mod_eq_of_lt h
/-- each number of a record goes into its width -/
theorem rec_in {r : Rec} (h : recMay r = true) (hs : r.sum < 4294967296) : ∀ (k : Nat) (hk : k < (recN r).length) (hw : k < (nats (recW r.kind r.ents.length)).length), (recN r)[k] < 2 ^ (8 * (nats (recW r.kind r.ents.length))[k]) := by
  obtain ⟨h1, h2, h3, h4⟩ := recMay_iff.1 h
  have q1 := seqOk_iff.1 h1
  intro k hk hw
  have two : (2 : Nat) ^ (8 * 4) = 4294967296 := by decide
  have one : (2 : Nat) ^ (8 * 1) = 256 := by decide
  have tw : (2 : Nat) ^ (8 * 2) = 65536 := by decide
  have hkind : r.kind.toNat < 256 ∧ r.ents.length < 65536 := by rcases hasOk_cases h2 with ⟨e, _⟩ | ⟨e, _⟩ | ⟨e, _⟩ | ⟨e, _⟩ <;> omega
  have hsplit : ∀ j, k = 4 + j → (recN r)[k]? = (bodyN r)[j]? ∧ (nats (recW r.kind r.ents.length))[k]? = (nats (bodyW r.kind r.ents.length))[j]? := fun j e => by
    subst e
    constructor
    · rw [recN, List.getElem?_append_right (by simp [headN])]; simp [headN]
    · rw [recW, nats_append, List.getElem?_append_right (by simp [headW, nats])]; simp [headW, nats]
  by_cases h0 : k < 4
  · have e1 : (recN r)[k]? = (headN r)[k]? := by rw [recN, List.getElem?_append_left (by simpa [headN] using h0)]
    have e2 : (nats (recW r.kind r.ents.length))[k]? = (nats headW)[k]? := by rw [recW, nats_append, List.getElem?_append_left (by simpa [headW, nats] using h0)]
    rw [List.getElem?_eq_getElem hk] at e1
    rw [List.getElem?_eq_getElem hw] at e2
    generalize (recN r)[k] = x at *
    generalize (nats (recW r.kind r.ents.length))[k] = y at *
    clear hk hw hsplit
    match k, h0 with
    | 0, _ => simp [headN, headW, nats] at e1 e2; rw [e1, e2]; decide
    | 1, _ => simp [headN, headW, nats] at e1 e2; rw [e1, e2]; omega
    | 2, _ => simp [headN, headW, nats] at e1 e2; rw [e1, e2]; omega
    | 3, _ => simp [headN, headW, nats] at e1 e2; rw [e1, e2]; omega
  · obtain ⟨j, hj⟩ : ∃ j, k = 4 + j := ⟨k - 4, by omega⟩
    obtain ⟨e1, e2⟩ := hsplit j hj
    rw [List.getElem?_eq_getElem hk] at e1
    rw [List.getElem?_eq_getElem hw] at e2
    generalize (recN r)[k] = x at *
    generalize (nats (recW r.kind r.ents.length))[k] = y at *
    unfold bodyN at e1
    unfold bodyW at e2
    unfold restOk at h4
    rcases hasOk_cases h2 with ⟨e, hn⟩ | ⟨e, hn⟩ | ⟨e, hn⟩ | ⟨e, hn⟩
    · simp only [e, if_true] at e1 e2
      have hj2 : j < 2 * r.ents.length := by
        have := (List.getElem?_eq_some_iff.1 e1.symm).1
        rwa [ent2s_len] at this
      simp only [nats, List.map_map, List.getElem?_map, List.getElem?_range hj2, Option.map_some, Function.comp, Option.some.injEq] at e2
      obtain ⟨g0, g1⟩ := ent2s_get r.ents (j / 2) (by omega)
      have hb := blkOk_iff.1 (h3 r.ents[j / 2] (List.getElem_mem (by omega)))
      by_cases hp : j % 2 = 0
      · rw [show 2 * (j / 2) = j by omega] at g0
        rw [g0] at e1
        have e3 : alt j = 4 := by unfold alt; rw [if_pos hp]
        rw [e3] at e2
        injection e1 with e1
        subst e1
        subst e2
        show _ < 2 ^ (8 * 4)
        omega
      · rw [show 2 * (j / 2) + 1 = j by omega] at g1
        rw [g1] at e1
        have e3 : alt j = 1 := by unfold alt; rw [if_neg hp]
        rw [e3] at e2
        injection e1 with e1
        subst e1
        subst e2
        show _ < 2 ^ (8 * 1)
        split <;> omega
    · simp only [e, show ¬ ((3 : Int) = 1) by decide, if_true, if_false] at e1 e2
      have hj2 : j < r.ents.length := by
        have := (List.getElem?_eq_some_iff.1 e1.symm).1
        simpa using this
      simp only [nats, List.map_replicate, List.getElem?_replicate, if_pos hj2, Option.some.injEq] at e2
      have hb := blkOk_iff.1 (h3 r.ents[j] (List.getElem_mem hj2))
      rw [List.getElem?_map, List.getElem?_eq_getElem hj2] at e1
      simp only [Option.map_some, Option.some.injEq] at e1
      subst e1
      subst e2
      show _ < 2 ^ (8 * 4)
      omega
    · simp only [e, show ¬ ((2 : Int) = 1) by decide, show ¬ ((2 : Int) = 3) by decide, if_true, if_false] at e1 e2
      match j with
      | 0 =>
        simp [nats] at e1 e2
        subst e1
        subst e2
        omega
      | j + 1 => simp at e1
    · simp only [e, show ¬ ((4 : Int) = 1) by decide, show ¬ ((4 : Int) = 3) by decide, show ¬ ((4 : Int) = 2) by decide, if_true, if_false] at e1 e2 h4
      have h5 := of_decide_eq_true h4
      match j with
      | 0 =>
        simp [nats] at e1 e2
        subst e1
        subst e2
        omega
      | j + 1 => simp at e1
theorem rec_fit {r : Rec} (h : recMay r = true) (hs : r.sum < 4294967296) : fit (nats (recW r.kind r.ents.length)) (nums (recN r)) := by
  have hl := recN_len (recMay_iff.1 h).2.1
  refine fit_of_get _ _ (by rw [nums_len, nats_len, hl]) fun k hk => ?_
  have hk' : k < (recN r).length := by rw [nats_len] at hk; omega
  have hi := rec_in h hs k hk' hk
  simp only [nums, List.getElem_map]
  have hb : (nats (recW r.kind r.ents.length))[k] ≤ 8 := (fine_get (nats_fine _ (recW_fine _ _)) hk).2
  have : (2 : Nat) ^ (8 * (nats (recW r.kind r.ents.length))[k]) ≤ 2 ^ 64 := Nat.pow_le_pow_right (by decide) (by omega)
  rw [ofNat_of (Nat.lt_of_lt_of_le hi this)]
  exact hi

/-! what a block says -/
def saysEnt (b : List UInt8) (kind : Int) (i : Nat) : Ent := if kind = 1 then ⟨(getX b ((11 + 5 * i : Nat) : Int) 4 : Nat), getX b ((11 + 5 * i + 4 : Nat) : Int) 1 == 1⟩ else ⟨(getX b ((11 + 4 * i : Nat) : Int) 4 : Nat), false⟩
def saysK (b : List UInt8) : Int := (getX b 4 1 : Nat)
def saysL (b : List UInt8) : Nat := getX b 9 2
def says (b : List UInt8) : Rec :=
  ⟨saysK b, (getX b 5 4 : Nat), (List.range (min (saysL b) 61)).map (saysEnt b (saysK b)), if saysK b = 2 then getX b 11 4 else 0, if saysK b = 4 then (getX b 11 4 : Nat) else 0⟩
def isRec (b : List UInt8) : Bool := decide (b.length = 256) && recMay (says b) && (recBytes (says b) == b)
def unpR (b : List UInt8) : Rec := if isRec b = true then says b else nul
def unpE (b : List UInt8) : Int := if isRec b = true then 0 else 117

/-- a block says the numbers of which it was made -/
theorem block_says (xs : List UInt64) (ws : List Int) (seed : Nat) (h : packs xs ws 256) (hx : fit (nats ws) xs) (ht : tot (nats ws) ≤ 252) :
    unp (nats ws) ((blockOf xs ws seed).take (tot (nats ws))) = xs := by
  have hl := bytesOf_len ws xs 256 h
  have hl' : (bytesOf_ xs ws 256).length = 256 := hl
  have hp : (blockOf xs ws seed).take (tot (nats ws)) = (bytesOf_ xs ws 256).take (tot (nats ws)) := by
    unfold blockOf sealL
    rw [if_pos (by omega), hl']
    have := patch_apart (bytesOf_ xs ws 256) (256 - 4) (dig 4 (crc seed ((bytesOf_ xs ws 256).take (256 - 4)))) (by rw [dig_length]; omega) 0 (tot (nats ws)) (.inl (by omega))
    simpa using this
  rw [hp]
  have hn : (nats ws).length = xs.length := by rw [nats_len]; exact h.1.symm
  have hq : (bytesOf_ xs ws 256).take (tot (nats ws)) = packed (nats ws) xs := by
    have t1 : (nats ws).take (nats ws).length = nats ws := List.take_length
    have t2 : xs.take (nats ws).length = xs := by rw [hn, List.take_length]
    unfold bytesOf_ WPack.part
    rw [t1, t2]
    exact List.take_left' (packed_length (nats ws) xs hn)
  rw [hq]
  exact unp_packed (nats ws) xs hn hx
/-- a number of a row of numbers, and the same read by its place -/
theorem unp_place (ns : List Nat) (hf : fine ns) (b : List UInt8) (m k : Nat) (hk : k < ns.length) (hm : tot ns ≤ m) (hb : m ≤ b.length) (p n : Nat) (hp : tot (ns.take k) = p) (hn : ns[k] = n) :
    ((unp ns (b.take m))[k]'(by rw [unp_length]; exact hk)).toNat = getX b (p : Int) (n : Int) := by
  have h1 := fine_get hf hk
  have h2 := tot_take_succ ns k hk
  have h3 := tot_take_le ns (k + 1)
  rw [unp_get ns _ k hk, hp, hn]
  rw [hn] at h1 h2
  have hcut : ((b.take m).drop p).take n = (b.drop p).take n := by
    rw [List.drop_take, List.take_take, Nat.min_eq_left (by omega)]
  rw [hcut, num_u64 _ (Nat.le_trans (List.length_take_le _ _) h1.2)]
  unfold getX
  rw [if_pos ⟨by omega, by omega, by omega, by omega⟩]
  simp
theorem recs_at {r : Rec} (h : recMay r = true) (hs : r.sum < 4294967296) (k : Nat) (x p n : Nat) (hx : (recN r)[k]? = some x) (hn : (nats (recW r.kind r.ents.length))[k]? = some n) (hp : tot ((nats (recW r.kind r.ents.length)).take k) = p) :
    getX (recBytes r) (p : Int) (n : Int) = x := by
  have h2 := (recMay_iff.1 h).2.1
  have hl := recBytes_len h2
  have ht : tot (nats (recW r.kind r.ents.length)) ≤ 252 := by rw [recW_tot]; have := bodyT_le h2; omega
  have hb := block_says (nums (recN r)) (recW r.kind r.ents.length) r.seq.toNat (rec_packs h2) (rec_fit h hs) ht
  obtain ⟨hk, hn'⟩ := List.getElem?_eq_some_iff.1 hn
  obtain ⟨hk', hx'⟩ := List.getElem?_eq_some_iff.1 hx
  have hu := unp_place (nats (recW r.kind r.ents.length)) (nats_fine _ (recW_fine _ _)) (recBytes r) _ k hk (Nat.le_refl _) (by omega) p n hp hn'
  rw [← hu]
  have e : (unp (nats (recW r.kind r.ents.length)) ((recBytes r).take (tot (nats (recW r.kind r.ents.length)))))[k]? = (nums (recN r))[k]? := by
    rw [show (unp (nats (recW r.kind r.ents.length)) ((recBytes r).take (tot (nats (recW r.kind r.ents.length))))) = nums (recN r) from hb]
  rw [List.getElem?_eq_getElem (by rw [unp_length]; exact hk), List.getElem?_eq_getElem (by rw [nums_len]; exact hk')] at e
  injection e with e
  rw [e]
  simp only [nums, List.getElem_map]
  rw [hx']
  have hi := rec_in h hs k hk' hk
  rw [hx', hn'] at hi
  have hb8 : n ≤ 8 := by have := (fine_get (nats_fine _ (recW_fine r.kind r.ents.length)) hk).2; omega
  have : (2 : Nat) ^ (8 * n) ≤ 2 ^ 64 := Nat.pow_le_pow_right (by decide) (by omega)
  exact ofNat_of (Nat.lt_of_lt_of_le hi this)
end Go.Proofs.YtkkcipjlinfieaaDoor.JPlain
