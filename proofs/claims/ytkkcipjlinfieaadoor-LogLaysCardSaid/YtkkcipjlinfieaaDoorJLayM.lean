/- A transaction's blocks in plain mathematics; writes and rows of blocks in memory. -/
import Derived.Test.YtkkcipjlinfieaaDoorJPackFace
import Derived.Test.YtkkcipjlinfieaaDoorJTold
import Derived.Test.YtkkcipjlinfieaaDoorJEscape
import Derived.Test.YtkkcipjlinfieaaDoorJNeed
namespace Go.Proofs.YtkkcipjlinfieaaDoor.JLayM
open Go.RowKit WMem WPlain WList WPack WHelp WAppend WWide WAny WCrc WSeal SNums JPlain JMem JMay JBody JPack JTold JEscape JNeed

/-- what is written: a block's number, and its bytes -/
structure Wr where
  blk : Int
  data : List UInt8
instance : Inhabited Wr := ⟨⟨0, []⟩⟩
def entW (x : Wr) : Ent := ⟨x.blk, marked x.data⟩
def entR (n : Int) : Ent := ⟨n, false⟩
def escW (x : Wr) : List UInt8 := escL x.data
def descR (seq : Int) (ws : List Wr) : Rec := ⟨1, seq, ws.map entW, 0, 0⟩
def revR (seq : Int) (rs : List Int) : Rec := ⟨3, seq, rs.map entR, 0, 0⟩
def commR (seq : Int) (sum : Nat) : Rec := ⟨2, seq, [], sum, 0⟩
def part {α : Type} (l : List α) (sz i : Nat) : List α := (l.drop (i * sz)).take sz
theorem part_len {α : Type} (l : List α) (sz i : Nat) : (part l sz i).length = min sz (l.length - i * sz) := by simp [part]
def layD (seq : Int) (c : List Wr) : List (List UInt8) := recBytes (descR seq c) :: c.map escW
def frontW (seq : Int) (ws : List Wr) (n : Nat) : List (List UInt8) := (List.range n).flatMap fun i => layD seq (part ws 48 i)
def frontR (seq : Int) (rs : List Int) (n : Nat) : List (List UInt8) := (List.range n).map fun i => recBytes (revR seq (part rs 60 i))
def front (seq : Int) (ws : List Wr) (rs : List Int) : List (List UInt8) := frontW seq ws (rowsN ws.length 48) ++ frontR seq rs (rowsN rs.length 60)
def sumB (seq : Nat) (L : List (List UInt8)) : Nat := L.foldl crc seq
def lay (seq : Int) (ws : List Wr) (rs : List Int) : List (List UInt8) := front seq ws rs ++ [recBytes (commR seq (sumB seq.toNat (front seq ws rs)))]
def all256 (ws : List Wr) : Bool := ws.all fun x => x.data.length == 256
def okW (seq : Int) (ws : List Wr) : Bool := (List.range (rowsN ws.length 48)).all fun i => recMay (descR seq (part ws 48 i))
def okR (seq : Int) (rs : List Int) : Bool := (List.range (rowsN rs.length 60)).all fun i => recMay (revR seq (part rs 60 i))
def layOk (seq : Int) (ws : List Wr) (rs : List Int) : Bool := decide (ws.length ≤ 4096) && decide (rs.length ≤ 4096) && all256 ws && okW seq ws && okR seq rs && seqOk seq

theorem frontW_succ (seq : Int) (ws : List Wr) (n : Nat) : frontW seq ws (n + 1) = frontW seq ws n ++ layD seq (part ws 48 n) := by
  unfold frontW
  rw [List.range_succ, List.flatMap_append]
  simp
theorem frontR_succ (seq : Int) (rs : List Int) (n : Nat) : frontR seq rs (n + 1) = frontR seq rs n ++ [recBytes (revR seq (part rs 60 n))] := by
  unfold frontR
  rw [List.range_succ, List.map_append]
  rfl
theorem sumB_snoc (s : Nat) (L : List (List UInt8)) (b : List UInt8) : sumB s (L ++ [b]) = crc (sumB s L) b := by simp [sumB]
theorem rowsN_mul (n sz : Nat) (h : 0 < sz) : n ≤ rowsN n sz * sz ∧ (∀ i, i < rowsN n sz → i * sz < n) := by
  have h1 := Nat.div_add_mod n sz
  have h2 := Nat.mod_lt n h
  unfold rowsN
  constructor
  · split
    · rw [Nat.add_zero, Nat.mul_comm]; omega
    · rw [Nat.add_mul, Nat.one_mul, Nat.mul_comm (n / sz)]; omega
  · intro i hi
    have hi' : i ≤ n / sz := by split at hi <;> omega
    by_cases h0 : n % sz = 0
    · rw [if_pos h0] at hi
      have := Nat.mul_le_mul_right sz (show i + 1 ≤ n / sz by omega)
      rw [Nat.add_mul, Nat.one_mul, Nat.mul_comm (n / sz)] at this
      omega
    · have := Nat.mul_le_mul_right sz hi'
      rw [Nat.mul_comm (n / sz)] at this
      omega

/-- the slice that begins at A reads as writes, their bytes too; all lies below block B -/
def Wrs (w : World) (B : Nat) (A : Option Addr) (l : List Wr) : Prop :=
  ∀ (i : Nat) (hi : i < l.length), ∃ a K c, A = some a ∧ a.block < B ∧ w.cell? (a.add (i * 2)) = some (.int .i64 l[i].blk) ∧ w.cell? (a.add (i * 2 + 1)) = some (.slice K l[i].data.length c) ∧ Sl w B K (l[i].data.map u8v)
section
variable {w w' : World} {B B' : Nat} {A : Option Addr} {l : List Wr}
theorem Wrs.below (h : Wrs w B A l) (hb : Below B' w w') (hB : B ≤ B') : Wrs w' B A l := fun i hi => by
  obtain ⟨a, K, c, hA, hab, h1, h2, h3⟩ := h i hi
  have hk : ∀ n, w'.cell? (a.add n) = w.cell? (a.add n) := fun n => hb.cell (by rw [addr_add_block]; omega)
  exact ⟨a, K, c, hA, hab, (hk _).trans h1, (hk _).trans h2, h3.below_le hb hB⟩
theorem Wrs.at_ (h : Wrs w B A l) {k : Nat} (hk : k < l.length) : ∃ a K c, A = some a ∧ a.block < B ∧ w.cell? (a.add (k * 2)) = some (.int .i64 l[k].blk) ∧
    w.cell? ⟨(a.add (k * 2)).block, (a.add (k * 2)).off + 1, none⟩ = some (.slice K l[k].data.length c) ∧ Sl w B K (l[k].data.map u8v) := by
  obtain ⟨a, K, c, hA, hab, h1, h2, h3⟩ := h k hk
  exact ⟨a, K, c, hA, hab, h1, (congrArg w.cell? (addr_field a (k * 2) 1 (by decide))).trans h2, h3⟩
theorem Wrs.part {a : Addr} (h : Wrs w B (some a) l) (sz i : Nat) : Wrs w B (some (a.add (i * sz * 2))) (JLayM.part l sz i) := fun j hj => by
  have hj' : i * sz + j < l.length := by rw [part_len] at hj; omega
  obtain ⟨a', K, c, hA, hab, h1, h2, h3⟩ := h (i * sz + j) hj'
  injection hA with hA
  subst hA
  have e : (JLayM.part l sz i)[j] = l[i * sz + j] := by simp [JLayM.part]
  rw [e]
  refine ⟨_, K, c, rfl, by rw [addr_add_block]; exact hab, ?_, ?_, h3⟩
  · rw [addr_add_add, show i * sz * 2 + j * 2 = (i * sz + j) * 2 by omega]; exact h1
  · rw [addr_add_add, show i * sz * 2 + (j * 2 + 1) = (i * sz + j) * 2 + 1 by omega]; exact h2
end

/-- a row of one's own, of blocks of one's own -/
def Blks (w : World) (base : Nat) (v : Value) (n : Nat) (L : List (List UInt8)) : Prop :=
  ∃ vs : List Value, w.ownsRow base 31 1 v n vs ∧ L.length = n ∧ vs.length = n ∧ (∀ u ∈ vs, u.oneCell' = true) ∧ ∀ (i : Nat) (h : i < L.length), ∃ u, vs[i]? = some u ∧ WAny.Own w base u L[i]
section
variable {w w' : World} {base n : Nat} {v : Value} {L : List (List UInt8)}
theorem Blks.nil (w : World) (base : Nat) : Blks w base (.slice none 0 0) 0 [] := ⟨[], World.ownsRow_nil _ _ _ _, rfl, rfl, by simp, fun i h => by cases h⟩
theorem Blks.kept {row : Option Nat} (h : Blks w base v n L) (hg : w.grownBy w' row) (h1 : v.ownBlock = none ∨ v.ownBlock ≠ row) (h2 : ∀ k cs, row = some k → w.heap[k]? ≠ some (.cells cs 5 (0, 0))) : Blks w' base v n L := by
  obtain ⟨vs, a1, a2, a3, a4, a5⟩ := h
  refine ⟨vs, a1.kept hg h1, a2, a3, a4, fun i hi => ?_⟩
  obtain ⟨u, hu, hO⟩ := a5 i hi
  refine ⟨u, hu, ?_⟩
  rcases hO with hO | ⟨g, c, rest, e1, e2, e3, e4⟩
  · exact .inl hO
  · exact .inr ⟨g, c, rest, e1, e2, e3, e4.grown hg (fun e => h2 g _ e.symm e4)⟩
theorem Blks.below (h : Blks w base v n L) (hb : Below w.heap.size w w') : Blks w' base v n L :=
  h.kept (below_grown hb none) (by cases v.ownBlock <;> simp) (fun k cs e => by cases e)
theorem Blks.alloc (h : Blks w base v n L) (o : Obj) : Blks (w.alloc o) base v n L := h.below (below_box o)
theorem Blks.snoc {v' u : Value} {b : List UInt8} {vs : List Value} (h : Blks w base v n L) (hO : WAny.Own w base u b) (hu : u.oneCell' = true)
    (hvs : w.ownsRow base 31 1 v n vs) (hown : w'.ownsRow base 31 1 v' (n + 1) (vs ++ [u])) (hg : w.grownBy w' v.ownBlock) (hsame : ∀ i (h : i < L.length), ∃ u, vs[i]? = some u ∧ WAny.Own w base u L[i]) (hlen : vs.length = n) (hone : ∀ u ∈ vs, u.oneCell' = true) : Blks w' base v' (n + 1) (L ++ [b]) := by
  have hne : ∀ (k : Nat) (cs : Array Value), v.ownBlock = some k → w.heap[k]? ≠ some (.cells cs 5 (0, 0)) := fun k cs e hk => own_ne hvs hk (by decide) e
  have keepO : ∀ {x : Value} {y : List UInt8}, WAny.Own w base x y → WAny.Own w' base x y := fun {x y} hO => by
    rcases hO with hO | ⟨g, c, rest, e1, e2, e3, e4⟩
    · exact .inl hO
    · exact .inr ⟨g, c, rest, e1, e2, e3, e4.grown hg (fun e => hne g _ e.symm e4)⟩
  have hL : L.length = n := by obtain ⟨_, _, a2, _⟩ := h; exact a2
  refine ⟨vs ++ [u], hown, by simp [hL], by simp [hlen], fun z hz => ?_, fun i hi => ?_⟩
  · rcases List.mem_append.1 hz with hz | hz
    · exact hone z hz
    · rw [List.mem_singleton.1 hz]; exact hu
  · by_cases hlt : i < L.length
    · obtain ⟨z, hz, hO'⟩ := hsame i hlt
      refine ⟨z, ?_, ?_⟩
      · rw [List.getElem?_append_left (by omega)]; exact hz
      · rw [List.getElem_append_left hlt]; exact keepO hO'
    · obtain rfl : i = L.length := by simp at hi; omega
      refine ⟨u, ?_, ?_⟩
      · rw [List.getElem?_append_right (by omega), hlen, hL]; simp
      · rw [List.getElem_append_right (Nat.le_refl _)]; simp; exact keepO hO
theorem Blks.len (h : Blks w base v n L) : L.length = n := by obtain ⟨_, _, a2, _⟩ := h; exact a2
end
theorem elemS : Elem Tryd.prog 25 31 24 := ⟨by kernel_rfl, by
  obtain ⟨i, h1, h2, h3, h4⟩ := info_parts (P := Tryd.prog) (e := 31) (z := .slice none 0 0) (size := 1) (bytes := 24) (by kernel_rfl)
  exact ⟨i, _, h1, h2, h3, h4, rfl⟩⟩
theorem own_one {w : World} {base : Nat} {v : Value} {l : List UInt8} (h : WAny.Own w base v l) : v.oneCell' = true := by
  rcases h with ⟨rfl, _⟩ | ⟨g, c, rest, rfl, _⟩ <;> simp [Value.oneCell']
end Go.Proofs.YtkkcipjlinfieaaDoor.JLayM
