/- A transaction's blocks in plain mathematics; writes and rows of blocks in memory. -/
import Derived.Test.YtmlgchmladkfpaaGreatDoorMg29
import Derived.Test.YtmlgchmladkfpaaGreatDoorMg31
import Derived.Test.YtmlgchmladkfpaaGreatDoorMg24
import Derived.Test.YtmlgchmladkfpaaGreatDoorMg4
import Derived.Test.YtmlgchmladkfpaaGreatDoorMg30
import Derived.Test.YtmlgchmladkfpaaGreatDoorMg23
import Derived.Deep.AppendLies
namespace Go.Proofs.YtmlgchmladkfpaaGreatDoor.JLayM
open Go.RowKit WMem WPlain WList WPack WHelp WAppend WWide WAny WCrc WSeal SNums JPlain JMem JMay JBody JPack JTold JEscape JNeed

/-- what is written: a block's number, and its bytes -/
structure Wr where
  blk : Int
  data : List UInt8
instance : Inhabited Wr := ⟨⟨0, []⟩⟩
def entW (x : Wr) : Ent := ⟨x.blk, marked x.data⟩
def entR (n : Int) : Ent := ⟨n, false⟩
def escW (x : Wr) : List UInt8 := escL x.data
def descR (seq : Int) (ws : List Wr) : Rec := ⟨1, seq, ws.map entW, 0, 0⟩
def revR (seq : Int) (rs : List Int) : Rec := ⟨3, seq, rs.map entR, 0, 0⟩
def commR (seq : Int) (sum : Nat) : Rec := ⟨2, seq, [], sum, 0⟩
def part {α : Type} (l : List α) (sz i : Nat) : List α := (l.drop (i * sz)).take sz
theorem part_len {α : Type} (l : List α) (sz i : Nat) : (part l sz i).length = min sz (l.length - i * sz) := by simp [part]
def layD (seq : Int) (c : List Wr) : List (List UInt8) := recBytes (descR seq c) :: c.map escW
def frontW (seq : Int) (ws : List Wr) (n : Nat) : List (List UInt8) := (List.range n).flatMap fun i => layD seq (part ws 48 i)
def frontR (seq : Int) (rs : List Int) (n : Nat) : List (List UInt8) := (List.range n).map fun i => recBytes (revR seq (part rs 60 i))
def front (seq : Int) (ws : List Wr) (rs : List Int) : List (List UInt8) := frontW seq ws (rowsN ws.length 48) ++ frontR seq rs (rowsN rs.length 60)
def sumB (seq : Nat) (L : List (List UInt8)) : Nat := L.foldl crc seq
def lay (seq : Int) (ws : List Wr) (rs : List Int) : List (List UInt8) := front seq ws rs ++ [recBytes (commR seq (sumB seq.toNat (front seq ws rs)))]
def all256 (ws : List Wr) : Bool := ws.all fun x => x.data.length == 256
def okW (seq : Int) (ws : List Wr) : Bool := (List.range (rowsN ws.length 48)).all fun i => recMay (descR seq (part ws 48 i))
def okR (seq : Int) (rs : List Int) : Bool := (List.range (rowsN rs.length 60)).all fun i => recMay (revR seq (part rs 60 i))
def layOk (seq : Int) (ws : List Wr) (rs : List Int) : Bool := decide (ws.length ≤ 4096) && decide (rs.length ≤ 4096) && all256 ws && okW seq ws && okR seq rs && seqOk seq

theorem frontW_succ (seq : Int) (ws : List Wr) (n : Nat) : frontW seq ws (n + 1) = frontW seq ws n ++ layD seq (part ws 48 n) := by
  unfold frontW
  rw [List.range_succ, List.flatMap_append]
  simp
theorem frontR_succ (seq : Int) (rs : List Int) (n : Nat) : frontR seq rs (n + 1) = frontR seq rs n ++ [recBytes (revR seq (part rs 60 n))] := by
  unfold frontR
  rw [List.range_succ, List.map_append]
  rfl
theorem sumB_snoc (s : Nat) (L : List (List UInt8)) (b : List UInt8) : sumB s (L ++ [b]) = crc (sumB s L) b := by simp [sumB]
theorem rowsN_mul (n sz : Nat) (h : 0 < sz) : n ≤ rowsN n sz * sz ∧ (∀ i, i < rowsN n sz → i * sz < n) := by
  have h1 := Nat.div_add_mod n sz
  have h2 := Nat.mod_lt n h
  unfold rowsN
  constructor
  · split
    · rw [Nat.add_zero, Nat.mul_comm]; omega
    · rw [Nat.add_mul, Nat.one_mul, Nat.mul_comm (n / sz)]; omega
  · intro i hi
    have hi' : i ≤ n / sz := by split at hi <;> omega
    by_cases h0 : n % sz = 0
    · rw [if_pos h0] at hi
      have := Nat.mul_le_mul_right sz (show i + 1 ≤ n / sz by omega)
      rw [Nat.add_mul, Nat.one_mul, Nat.mul_comm (n / sz)] at this
      omega
    · have := Nat.mul_le_mul_right sz hi'
      rw [Nat.mul_comm (n / sz)] at this
      omega

/-- the slice that begins at A reads as writes, their bytes too; all lies below block B -/
def Wrs (w : World) (B : Nat) (A : Option Addr) (l : List Wr) : Prop :=
  ∀ (i : Nat) (hi : i < l.length), ∃ a K c, A = some a ∧ a.block < B ∧ w.cell? (a.add (i * 2)) = some (.int .i64 l[i].blk) ∧ w.cell? (a.add (i * 2 + 1)) = some (.slice K l[i].data.length c) ∧ Sl w B K (l[i].data.map u8v)
section
variable {w w' : World} {B B' : Nat} {A : Option Addr} {l : List Wr}
theorem Wrs.below (h : Wrs w B A l) (hb : Below B' w w') (hB : B ≤ B') : Wrs w' B A l := fun i hi => by
  obtain ⟨a, K, c, hA, hab, h1, h2, h3⟩ := h i hi
  have hk : ∀ n, w'.cell? (a.add n) = w.cell? (a.add n) := fun n => hb.cell (by rw [addr_add_block]; omega)
  exact ⟨a, K, c, hA, hab, (hk _).trans h1, (hk _).trans h2, h3.below_le hb hB⟩
theorem Wrs.at_ (h : Wrs w B A l) {k : Nat} (hk : k < l.length) : ∃ a K c, A = some a ∧ a.block < B ∧ w.cell? (a.add (k * 2)) = some (.int .i64 l[k].blk) ∧
    w.cell? ⟨(a.add (k * 2)).block, (a.add (k * 2)).off + 1, none⟩ = some (.slice K l[k].data.length c) ∧ Sl w B K (l[k].data.map u8v) := by
  obtain ⟨a, K, c, hA, hab, h1, h2, h3⟩ := h k hk
  exact ⟨a, K, c, hA, hab, h1, (congrArg w.cell? (addr_field a (k * 2) 1 (by decide))).trans h2, h3⟩
theorem Wrs.part {a : Addr} (h : Wrs w B (some a) l) (sz i : Nat) : Wrs w B (some (a.add (i * sz * 2))) (JLayM.part l sz i) := fun j hj => by
  have hj' : i * sz + j < l.length := by rw [part_len] at hj; omega
  obtain ⟨a', K, c, hA, hab, h1, h2, h3⟩ := h (i * sz + j) hj'
  injection hA with hA
  subst hA
  have e : (JLayM.part l sz i)[j] = l[i * sz + j] := by simp [JLayM.part]
  rw [e]
  refine ⟨_, K, c, rfl, by rw [addr_add_block]; exact hab, ?_, ?_, h3⟩
  · rw [addr_add_add, show i * sz * 2 + j * 2 = (i * sz + j) * 2 by omega]; exact h1
  · rw [addr_add_add, show i * sz * 2 + (j * 2 + 1) = (i * sz + j) * 2 + 1 by omega]; exact h2
end

/-- a row of one's own, of blocks of one's own -/
def Blks (w : World) (base : Nat) (v : Value) (n : Nat) (L : List (List UInt8)) : Prop :=
  ∃ vs : List Value, w.ownsRow base 43 1 v n vs ∧ L.length = n ∧ vs.length = n ∧ (∀ u ∈ vs, u.oneCell' = true) ∧ ∀ (i : Nat) (h : i < L.length), ∃ u, vs[i]? = some u ∧ WAny.Own w base u L[i]
section
variable {w w' : World} {base n : Nat} {v : Value} {L : List (List UInt8)}
theorem Blks.nil (w : World) (base : Nat) : Blks w base (.slice none 0 0) 0 [] := ⟨[], World.ownsRow_nil _ _ _ _, rfl, rfl, by simp, fun i h => by cases h⟩
theorem Blks.kept {row : Option Nat} (h : Blks w base v n L) (hg : w.grownBy w' row) (h1 : v.ownBlock = none ∨ v.ownBlock ≠ row) (h2 : ∀ k cs, row = some k → w.heap[k]? ≠ some (.cells cs 5 (0, 0))) : Blks w' base v n L := by
  obtain ⟨vs, a1, a2, a3, a4, a5⟩ := h
  refine ⟨vs, a1.kept hg h1, a2, a3, a4, fun i hi => ?_⟩
  obtain ⟨u, hu, hO⟩ := a5 i hi
  refine ⟨u, hu, ?_⟩
  rcases hO with hO | ⟨g, c, rest, e1, e2, e3, e4⟩
  · exact .inl hO
  · exact .inr ⟨g, c, rest, e1, e2, e3, e4.grown hg (fun e => h2 g _ e.symm e4)⟩
theorem Blks.below (h : Blks w base v n L) (hb : Below w.heap.size w w') : Blks w' base v n L :=
  h.kept (below_grown hb none) (by cases v.ownBlock <;> simp) (fun k cs e => by cases e)
theorem Blks.alloc (h : Blks w base v n L) (o : Obj) : Blks (w.alloc o) base v n L := h.below (below_box o)
theorem Blks.snoc {v' u : Value} {b : List UInt8} {vs : List Value} (h : Blks w base v n L) (hO : WAny.Own w base u b) (hu : u.oneCell' = true)
    (hvs : w.ownsRow base 43 1 v n vs) (hown : w'.ownsRow base 43 1 v' (n + 1) (vs ++ [u])) (hg : w.grownBy w' v.ownBlock) (hsame : ∀ i (h : i < L.length), ∃ u, vs[i]? = some u ∧ WAny.Own w base u L[i]) (hlen : vs.length = n) (hone : ∀ u ∈ vs, u.oneCell' = true) : Blks w' base v' (n + 1) (L ++ [b]) := by
  have hne : ∀ (k : Nat) (cs : Array Value), v.ownBlock = some k → w.heap[k]? ≠ some (.cells cs 5 (0, 0)) := fun k cs e hk => own_ne hvs hk (by decide) e
  have keepO : ∀ {x : Value} {y : List UInt8}, WAny.Own w base x y → WAny.Own w' base x y := fun {x y} hO => by
    rcases hO with hO | ⟨g, c, rest, e1, e2, e3, e4⟩
    · exact .inl hO
    · exact .inr ⟨g, c, rest, e1, e2, e3, e4.grown hg (fun e => hne g _ e.symm e4)⟩
  have hL : L.length = n := by obtain ⟨_, _, a2, _⟩ := h; exact a2
  refine ⟨vs ++ [u], hown, by simp [hL], by simp [hlen], fun z hz => ?_, fun i hi => ?_⟩
  · rcases List.mem_append.1 hz with hz | hz
    · exact hone z hz
    · rw [List.mem_singleton.1 hz]; exact hu
  · by_cases hlt : i < L.length
    · obtain ⟨z, hz, hO'⟩ := hsame i hlt
      refine ⟨z, ?_, ?_⟩
      · rw [List.getElem?_append_left (by omega)]; exact hz
      · rw [List.getElem_append_left hlt]; exact keepO hO'
    · obtain rfl : i = L.length := by simp at hi; omega
      refine ⟨u, ?_, ?_⟩
      · rw [List.getElem?_append_right (by omega), hlen, hL]; simp
      · rw [List.getElem_append_right (Nat.le_refl _)]; simp; exact keepO hO
theorem Blks.len (h : Blks w base v n L) : L.length = n := by obtain ⟨_, _, a2, _⟩ := h; exact a2
end
theorem elemS : Elem Tryz.prog 78 43 24 := ⟨by kernel_rfl, by
  obtain ⟨i, h1, h2, h3, h4⟩ := info_parts (P := Tryz.prog) (e := 43) (z := .slice none 0 0) (size := 1) (bytes := 24) (by kernel_rfl)
  exact ⟨i, _, h1, h2, h3, h4, rfl⟩⟩
theorem own_one {w : World} {base : Nat} {v : Value} {l : List UInt8} (h : WAny.Own w base v l) : v.oneCell' = true := by
  rcases h with ⟨rfl, _⟩ | ⟨g, c, rest, rfl, _⟩ <;> simp [Value.oneCell']
end Go.Proofs.YtmlgchmladkfpaaGreatDoor.JLayM
/- What a journal is, in plain mathematics: what is left to do, and what each call does to it and to its store. -/
namespace Go.Proofs.YtmlgchmladkfpaaGreatDoor.NPlain
open DPlain EPlain JPlain JNeed JLayM

/-- what comes with a flush -/
inductive Come where
  | empty
  | fin
  | part
  | laid (k : Nat) (bs : List Nat)
/-- what is left to do -/
inductive Thing where
  | home (n : Nat)
  | put (p : Nat) (l : Bk)
  | flush (cs : List Come)
  | head
structure Jr where
  ring : Nat
  seq : Nat
  tail : Nat
  used : Nat
  live : Nat → Bool
  cred : Nat → Option Nat
  handles : Nat
  commits : Nat
  wanted : Bool
  clean : Bool
  left : List Thing
namespace Jr
def new (ring seq at_ : Nat) : Jr := ⟨ring, seq, at_, 0, fun _ => false, fun _ => none, 0, 0, false, false, []⟩
def cap (j : Jr) : Nat := j.ring * 3 / 4 - 4
/-- the credits of the first k handles that are open -/
def sumTo (f : Nat → Option Nat) : Nat → Nat
  | 0 => 0
  | k + 1 => sumTo f k + (f (k + 1)).getD 0
def promised (j : Jr) : Nat := sumTo j.cred j.handles
def start (j : Jr) (c : Nat) : Jr := { j with handles := j.handles + 1, cred := fun h => if h = j.handles + 1 then some c else j.cred h }
def stop (j : Jr) (h : Nat) : Jr := { j with cred := fun k => if k = h then none else j.cred k }
def ask (j : Jr) (c : Bool) : Jr := { j with wanted := true, clean := j.clean || c }
def behind (j : Jr) : Nat := (j.tail + j.used) % j.ring
def emptied (j : Jr) : Jr := { j with tail := j.behind, used := 0, live := fun _ => false }
def fin (j : Jr) : Jr := { j with wanted := false, clean := false }
def laid (j : Jr) (k : Nat) (bs : List Nat) : Jr := { j with seq := j.seq + 1, used := j.used + k, live := fun n => j.live n || decide (n ∈ bs) }
def headRec (j : Jr) : Rec := ⟨4, j.seq, [], 0, j.behind⟩
end Jr
/-- what a checkpoint leaves to do -/
def checkpoint (s : Sto) (behind : List Come) : List Thing := (numsOf s.wai s.N).map .home ++ [.flush [], .head, .flush (.empty :: behind)]
/-- the end of the commit itself -/
def endPart (j : Jr) (s : Sto) : Jr × Sto :=
  let j1 := { j with commits := j.commits + 1 }
  let s1 := s.release
  if j.clean && (decide (0 < j.used) || decide (0 < (numsOf s1.wai s1.N).length)) then ({ j1 with left := checkpoint s1 [.fin] }, s1) else (j1.fin, s1)
def come (j : Jr) (s : Sto) : Come → Jr × Sto
  | .empty => (j.emptied, s)
  | .fin => (j.fin, s)
  | .part => endPart j s
  | .laid k bs => (j.laid k bs, s)
def comes (j : Jr) (s : Sto) : List Come → Jr × Sto
  | [] => (j, s)
  | c :: r => comes (come j s c).1 (come j s c).2 r
def dwrite (s : Sto) (k : Nat) (l : Bk) : Sto := { s with d := s.d.write k l }
def dflush (s : Sto) : Sto := { s with d := s.d.flush }
/-- the thing itself (where a block is brought home, it waits) -/
def run (j : Jr) (s : Sto) : Thing → Jr × Sto
  | .home n => (j, s.home n ((s.wai n).getD []))
  | .put p l => (j, dwrite s (3 + p % j.ring) l)
  | .flush cs => comes j (dflush s) cs
  | .head => (j, dwrite s 2 (recBytes j.headRec))
def next (j : Jr) (s : Sto) : Jr × Sto :=
  match j.left with
  | [] => (j, s)
  | t :: r => run { j with left := r } s t
def wrsOf (l : List (Nat × Bk)) : List Wr := l.map fun x => ⟨x.1, x.2⟩
/-- the blocks that are revoked -/
def revoked (j : Jr) (s : Sto) : List Nat := (List.range s.N).filter fun n => j.live n && s.now.hld n && !(s.now.chg n).isSome
def puts (at_ : Nat) : List Bk → List Thing
  | [] => []
  | b :: r => .put at_ b :: puts (at_ + 1) r
/-- the things of a commit, of blocks that are given -/
def layLeft (at_ : Nat) (bl : List Bk) (bs : List Nat) : List Thing :=
  puts at_ bl.dropLast ++ [.flush []] ++ puts (at_ + (bl.length - 1)) (bl.drop (bl.length - 1)) ++ [.flush [.laid bl.length bs, .part]]
def layAll (j : Jr) (s : Sto) (rv : List Nat) : Jr × Sto :=
  let ws := wrs s.now.chg s.N
  ({ j with left := layLeft (j.tail + j.used) (lay j.seq (wrsOf ws) (rv.map fun n : Nat => (n : Int))) (ws.map (·.1)) }, s.commit)
def begin_ (j : Jr) (s : Sto) : Int × Jr × Sto :=
  let c := (numsOf s.now.chg s.N).length
  let rv := revoked j s
  let need := needN c rv.length
  if c = 0 ∧ rv.length = 0 then (0, endPart j s)
  else if j.ring < need then (202, j.fin, s)
  else if j.ring - j.used < need then (0, { j with left := checkpoint s [] }, s)
  else (0, layAll j s rv)
def may (j : Jr) : Bool := j.wanted && decide (∀ h, h ≤ j.handles → j.cred h = none)
def step (j : Jr) (s : Sto) : Int × Jr × Sto :=
  if may j then
    match j.left with
    | [] =>
      let r := begin_ j s
      if r.1 = 0 then (0, next r.2.1 r.2.2) else r
    | _ :: _ => (0, next j s)
  else (201, j, s)
end Go.Proofs.YtmlgchmladkfpaaGreatDoor.NPlain
/- slices.Chunk of writes, and of numbers: part by part, in order. -/
namespace Go.Proofs.YtmlgchmladkfpaaGreatDoor.JLayC
open Go.RowKit Go.Shelf WMem JMem JChunk JNeed JLayM

attribute [local go_sem] Oper.semAt_some

/-- a part, as it is told -/
def partV (A : Option Addr) (len sz es x : Nat) : Array Value :=
  #[.slice (A.map fun a => a.add (min x (rowsN len sz - 1) * sz * es)) (min sz (len - min x (rowsN len sz - 1) * sz)) (min sz (len - min x (rowsN len sz - 1) * sz))]

set_option maxRecDepth 100000 in
set_option maxHeartbeats 4000000 in
theorem chunkW_in (n : Nat) (hn : 1 ≤ n) (lo Bs Bn len sz c : Nat) (A : Option Addr) (hs1 : 1 ≤ sz) (hs2 : sz ≤ 1000) (hl : len ≤ 4096) (hc : len ≤ c) (hA : len = 0 ∨ ∃ a, A = some a) (J Jx : List Nat → World → Prop)
    (hY : ∀ pre x W, J pre W → pre.length < rowsN len sz → YieldAt Fence.wide (n - 1) Tryz.prog lo (partV A len sz 2 x) W fun e W' =>
      (e = .returned (.bool true) ∧ J (pre ++ [x]) W' ∧ CKeep (two Bs Bn) W W') ∨ (e = .returned (.bool false) ∧ Jx (pre ++ [x]) W'))
    (W : World) (hJ : AbidesFrom W.heap.size J) (hBs : W.heap[Bs]? = some (.cells #[.slice A len c] 51 (0, 0))) (hBn : W.heap[Bn]? = some (.cells #[.int .i64 (sz : Int)] 3 (0, 0))) (h0 : J [] W) :
    CallsIn Fence.wide n Tryz.prog 186 #[.func (.yield lo) #[] #[], .pointer (some ⟨Bs, 0, none⟩), .pointer (some ⟨Bn, 0, none⟩)] W fun e W' => (∃ v, e = .returned v) ∧
      ((∃ ys, ys = List.range (rowsN len sz) ∧ J ys W') ∨ (∃ pre, (∃ k, k ≤ rowsN len sz ∧ pre = List.range k) ∧ Jx pre W')) := by
  obtain ⟨hN1, hN2⟩ := rowsN_mul len sz (by omega)
  have HN1 := Lib.hid hN1
  have HN2 := Lib.hid hN2
  obtain ⟨N, hN⟩ : ∃ N, rowsN len sz = N := ⟨_, rfl⟩
  have HNN := Lib.hid hN
  rw [hN] at HN1 HN2 hY
  rw [hN]
  clear hN1 hN2 hN
  refine callsIn_of_wp Tryz.func186 rfl trivial ?_ rfl
  simp only [Tryz.ntmps186, List.size_toArray, List.length_cons, List.length_nil, Nat.reduceAdd, Nat.reduceSub, Array.replicate_succ, Array.replicate_zero, List.push_toArray, List.append_toArray, List.nil_append, List.cons_append]
  gi_wp2
  gi_loopw [4] (fun i wr => ∃ k : Nat, k ≤ N ∧ i = .int .i64 ((k * sz : Nat) : Int) ∧ J (List.range k) wr ∧ CKeep (two Bs Bn) W wr)
    (fun i _ => len - (intOf i).toNat)
  case atStart => exact ⟨0, Nat.zero_le _, by simp, h0, CKeep.refl _ _⟩
  case round =>
    obtain ⟨k, hk, rfl, hJ0, hnx⟩ := hrel
    have hs := hnx.cell (.inl rfl) hBs
    have hn := hnx.cell (.inr rfl) hBn
    have c0 : wr.cell? ⟨Bs, 0, none⟩ = some (.slice A len c) := (row_cell hs 0).trans rfl
    have c1 : wr.cell? ⟨Bn, 0, none⟩ = some (.int .i64 (sz : Int)) := (row_cell hn 0).trans rfl
    clear hs hn
    obtain ⟨i, hi⟩ : ∃ i, k * sz = i := ⟨_, rfl⟩
    have HI := Lib.hid hi
    rw [hi]
    by_cases hlt : i < len
    · have hkN : k < N := by
        rcases Nat.lt_or_ge k N with h | h
        · exact h
        · have h1 := Nat.mul_le_mul_right sz h
          have h2 := HN1.out
          omega
      obtain ⟨a, rfl⟩ : ∃ a, A = some a := by rcases hA with h | h; omega; exact h
      obtain ⟨m, hm⟩ : ∃ m, min sz (len - i) = m := ⟨_, rfl⟩
      have HM := Lib.hid hm
      have hm1 : 1 ≤ m := by omega
      have hm2 : i + m ≤ len := by omega
      have hm3 : m ≤ sz := by omega
      have g1 : decide ((i : Int) < (len : Int)) = true := by simp; omega
      have s1 : IntKind.i64.wrap ((i : Int) + (m : Int)) = ((i + m : Nat) : Int) := by rw [IntWalk.i64_in _ (by omega)]; simp
      have s2 : IntKind.i64.wrap ((i : Int) + (sz : Int)) = ((i + sz : Nat) : Int) := by rw [IntWalk.i64_in _ (by omega)]; simp
      have HK : Hid (∀ v, v = partV (some a) len sz 2 k → YieldAt Fence.wide (n - 1) Tryz.prog lo v wr.drew fun e W' =>
          (e = .returned (.bool true) ∧ J (List.range (k + 1)) W' ∧ CKeep (two Bs Bn) W W') ∨ (e = .returned (.bool false) ∧ Jx (List.range (k + 1)) W')) := Lib.hid (by
        rintro v rfl
        rw [List.range_succ]
        have h1 := hY (List.range k) k wr.drew (hJ _ _ _ none hJ0 ⟨rfl, rfl, rfl, Nat.le_refl _, fun _ _ _ => rfl⟩ (fun r h => by cases h)) (by rw [List.length_range]; exact hkN)
        refine h1.mono fun e W' h => ?_
        rcases h with ⟨h2, h3, h4⟩ | h2
        · exact .inl ⟨h2, h3, hnx.trans (fun i o hi ho hc => h4 i o hi ho hc)⟩
        · exact .inr h2)
      have HV : Hid (#[.slice (some (a.add (i * 2))) m m] = partV (some a) len sz 2 k) := Lib.hid (by unfold partV; rw [HNN.out, Nat.min_eq_left (by omega), HI.out, HM.out]; rfl)
      have HBn := Lib.hid hBn
      have HNX := Lib.hid hnx
      clear hY hJ h0 hJ0 hBs hBn hnx hi hm
      obtain ⟨r, hr⟩ : ∃ r, len - i = r := ⟨_, rfl⟩
      have HR := Lib.hid hr
      have hri : ((len : Int) - (i : Int)) = (r : Int) := by omega
      by_cases hlast : r < sz
      · have hrm : r = m := by have := HM.out; omega
        subst hrm
        have d2 : (r : Int) < (sz : Int) := by omega
        gi_wp2
        gi_region
        obtain ⟨fn, tmps, assign, body, hy, hR⟩ := HK.out #[.slice (some (a.add (i * 2))) r r] HV.out
        gi_wp2
        refine hR.mono ?_
        rintro e W3 (⟨rfl, hJ3, hk3⟩ | ⟨rfl, hJx3⟩)
        · have HK3 := Lib.hid hk3
          have c1 : W3.cell? ⟨Bn, 0, none⟩ = some (.int .i64 (sz : Int)) := (row_cell (hk3.cell (.inr rfl) HBn.out) 0).trans rfl
          clear hk3
          gi_wp2
          go_roundw
          case rel => exact ⟨k + 1, by omega, by rw [Nat.add_mul, Nat.one_mul, HI.out]; go_num, hJ3, HK3.out⟩
          case measure => simp [intOf]; omega
        · gi_wp2
          refine bodyPost_ret (results_none rfl _ _ _) rfl ?_
          exact ⟨⟨_, rfl⟩, .inr ⟨_, ⟨k + 1, by omega, rfl⟩, hJx3⟩⟩
      · have hrm : sz = m := by have := HM.out; omega
        subst hrm
        have d2 : ¬ (r : Int) < (sz : Int) := by omega
        gi_wp2
        gi_region
        obtain ⟨fn, tmps, assign, body, hy, hR⟩ := HK.out #[.slice (some (a.add (i * 2))) sz sz] HV.out
        gi_wp2
        refine hR.mono ?_
        rintro e W3 (⟨rfl, hJ3, hk3⟩ | ⟨rfl, hJx3⟩)
        · have HK3 := Lib.hid hk3
          have c1 : W3.cell? ⟨Bn, 0, none⟩ = some (.int .i64 (sz : Int)) := (row_cell (hk3.cell (.inr rfl) HBn.out) 0).trans rfl
          clear hk3
          gi_wp2
          go_roundw
          case rel => exact ⟨k + 1, by omega, by rw [Nat.add_mul, Nat.one_mul, HI.out]; go_num, hJ3, HK3.out⟩
          case measure => simp [intOf]; omega
        · gi_wp2
          refine bodyPost_ret (results_none rfl _ _ _) rfl ?_
          exact ⟨⟨_, rfl⟩, .inr ⟨_, ⟨k + 1, by omega, rfl⟩, hJx3⟩⟩
    · have hkN : k = N := by
        rcases Nat.lt_or_ge k N with h | h
        · have := HN2.out k h
          omega
        · omega
      have g1 : decide ((i : Int) < (len : Int)) = false := by simp; omega
      subst hkN
      gi_wp2
      go_end0
      exact ⟨⟨_, rfl⟩, .inl ⟨_, rfl, hJ0⟩⟩
/-- the iterator tells the parts, in order; or the first of them -/
theorem chunkW_stops (n : Nat) (hn : 1 ≤ n) (Bs Bn len sz c : Nat) (A : Option Addr) (hs1 : 1 ≤ sz) (hs2 : sz ≤ 1000) (hl : len ≤ 4096) (hc : len ≤ c) (hA : len = 0 ∨ ∃ a, A = some a) (w : World) (hBs : w.heap[Bs]? = some (.cells #[.slice A len c] 51 (0, 0))) (hBn : w.heap[Bn]? = some (.cells #[.int .i64 (sz : Int)] 3 (0, 0))) :
    SeqStopsK Fence.wide n Tryz.prog 186 #[.pointer (some ⟨Bs, 0, none⟩), .pointer (some ⟨Bn, 0, none⟩)] (partV A len sz 2) (CKeep (two Bs Bn)) (fun ys => ys = List.range (rowsN len sz)) (fun pre => ∃ k, k ≤ rowsN len sz ∧ pre = List.range k) (rowsN len sz) w :=
  fun lo J Jx W hW hJ _ hY h0 => chunkW_in n hn lo Bs Bn len sz c A hs1 hs2 hl hc hA J Jx hY W hJ (row_below hBs hW (row_lt hBs)) (row_below hBn hW (row_lt hBn)) h0
set_option maxHeartbeats 1000000 in
theorem chunkW_make (n : Nat) (A : Option Addr) (m c sz : Nat) (hs1 : 1 ≤ sz) (w : World) :
    CallsIn Fence.wide n Tryz.prog 146 #[.slice A m c, .int .i64 (sz : Int)] w fun e w' => e = .returned (.func (.func 186) #[] #[.pointer (some ⟨w.heap.size, 0, none⟩), .pointer (some ⟨w.heap.size + 1, 0, none⟩)]) ∧
      w' = (w.alloc (.cells #[.slice A m c] 51)).alloc (.cells #[.int .i64 (sz : Int)] 3) := by
  have hs : ¬ ((sz : Int) < 1) := by omega
  have hs' : decide ((sz : Int) < 1) = false := by simp; omega
  refine callsIn_of_wp Tryz.func146 rfl trivial ?_ rfl
  simp only [Tryz.ntmps146, List.size_toArray, List.length_cons, List.length_nil, Nat.reduceAdd, Nat.reduceSub, Array.replicate_succ, Array.replicate_zero, List.push_toArray, List.append_toArray, List.nil_append, List.cons_append]
  gi_wp2
  go_ret
  exact ⟨rfl, rfl⟩

set_option maxRecDepth 100000 in
set_option maxHeartbeats 4000000 in
theorem chunkI_in (n : Nat) (hn : 1 ≤ n) (lo Bs Bn len sz c : Nat) (A : Option Addr) (hs1 : 1 ≤ sz) (hs2 : sz ≤ 1000) (hl : len ≤ 4096) (hc : len ≤ c) (hA : len = 0 ∨ ∃ a, A = some a) (J Jx : List Nat → World → Prop)
    (hY : ∀ pre x W, J pre W → pre.length < rowsN len sz → YieldAt Fence.wide (n - 1) Tryz.prog lo (partV A len sz 1 x) W fun e W' =>
      (e = .returned (.bool true) ∧ J (pre ++ [x]) W' ∧ CKeep (two Bs Bn) W W') ∨ (e = .returned (.bool false) ∧ Jx (pre ++ [x]) W'))
    (W : World) (hJ : AbidesFrom W.heap.size J) (hBs : W.heap[Bs]? = some (.cells #[.slice A len c] 55 (0, 0))) (hBn : W.heap[Bn]? = some (.cells #[.int .i64 (sz : Int)] 3 (0, 0))) (h0 : J [] W) :
    CallsIn Fence.wide n Tryz.prog 188 #[.func (.yield lo) #[] #[], .pointer (some ⟨Bs, 0, none⟩), .pointer (some ⟨Bn, 0, none⟩)] W fun e W' => (∃ v, e = .returned v) ∧
      ((∃ ys, ys = List.range (rowsN len sz) ∧ J ys W') ∨ (∃ pre, (∃ k, k ≤ rowsN len sz ∧ pre = List.range k) ∧ Jx pre W')) := by
  obtain ⟨hN1, hN2⟩ := rowsN_mul len sz (by omega)
  have HN1 := Lib.hid hN1
  have HN2 := Lib.hid hN2
  obtain ⟨N, hN⟩ : ∃ N, rowsN len sz = N := ⟨_, rfl⟩
  have HNN := Lib.hid hN
  rw [hN] at HN1 HN2 hY
  rw [hN]
  clear hN1 hN2 hN
  refine callsIn_of_wp Tryz.func188 rfl trivial ?_ rfl
  simp only [Tryz.ntmps188, List.size_toArray, List.length_cons, List.length_nil, Nat.reduceAdd, Nat.reduceSub, Array.replicate_succ, Array.replicate_zero, List.push_toArray, List.append_toArray, List.nil_append, List.cons_append]
  gi_wp2
  gi_loopw [4] (fun i wr => ∃ k : Nat, k ≤ N ∧ i = .int .i64 ((k * sz : Nat) : Int) ∧ J (List.range k) wr ∧ CKeep (two Bs Bn) W wr)
    (fun i _ => len - (intOf i).toNat)
  case atStart => exact ⟨0, Nat.zero_le _, by simp, h0, CKeep.refl _ _⟩
  case round =>
    obtain ⟨k, hk, rfl, hJ0, hnx⟩ := hrel
    have hs := hnx.cell (.inl rfl) hBs
    have hn := hnx.cell (.inr rfl) hBn
    have c0 : wr.cell? ⟨Bs, 0, none⟩ = some (.slice A len c) := (row_cell hs 0).trans rfl
    have c1 : wr.cell? ⟨Bn, 0, none⟩ = some (.int .i64 (sz : Int)) := (row_cell hn 0).trans rfl
    clear hs hn
    obtain ⟨i, hi⟩ : ∃ i, k * sz = i := ⟨_, rfl⟩
    have HI := Lib.hid hi
    rw [hi]
    by_cases hlt : i < len
    · have hkN : k < N := by
        rcases Nat.lt_or_ge k N with h | h
        · exact h
        · have h1 := Nat.mul_le_mul_right sz h
          have h2 := HN1.out
          omega
      obtain ⟨a, rfl⟩ : ∃ a, A = some a := by rcases hA with h | h; omega; exact h
      obtain ⟨m, hm⟩ : ∃ m, min sz (len - i) = m := ⟨_, rfl⟩
      have HM := Lib.hid hm
      have hm1 : 1 ≤ m := by omega
      have hm2 : i + m ≤ len := by omega
      have hm3 : m ≤ sz := by omega
      have g1 : decide ((i : Int) < (len : Int)) = true := by simp; omega
      have s1 : IntKind.i64.wrap ((i : Int) + (m : Int)) = ((i + m : Nat) : Int) := by rw [IntWalk.i64_in _ (by omega)]; simp
      have s2 : IntKind.i64.wrap ((i : Int) + (sz : Int)) = ((i + sz : Nat) : Int) := by rw [IntWalk.i64_in _ (by omega)]; simp
      have HK : Hid (∀ v, v = partV (some a) len sz 1 k → YieldAt Fence.wide (n - 1) Tryz.prog lo v wr.drew fun e W' =>
          (e = .returned (.bool true) ∧ J (List.range (k + 1)) W' ∧ CKeep (two Bs Bn) W W') ∨ (e = .returned (.bool false) ∧ Jx (List.range (k + 1)) W')) := Lib.hid (by
        rintro v rfl
        rw [List.range_succ]
        have h1 := hY (List.range k) k wr.drew (hJ _ _ _ none hJ0 ⟨rfl, rfl, rfl, Nat.le_refl _, fun _ _ _ => rfl⟩ (fun r h => by cases h)) (by rw [List.length_range]; exact hkN)
        refine h1.mono fun e W' h => ?_
        rcases h with ⟨h2, h3, h4⟩ | h2
        · exact .inl ⟨h2, h3, hnx.trans (fun i o hi ho hc => h4 i o hi ho hc)⟩
        · exact .inr h2)
      have HV : Hid (#[.slice (some (a.add i)) m m] = partV (some a) len sz 1 k) := Lib.hid (by unfold partV; rw [HNN.out, Nat.min_eq_left (by omega), HI.out, HM.out, Nat.mul_one]; rfl)
      have HBn := Lib.hid hBn
      have HNX := Lib.hid hnx
      clear hY hJ h0 hJ0 hBs hBn hnx hi hm
      obtain ⟨r, hr⟩ : ∃ r, len - i = r := ⟨_, rfl⟩
      have HR := Lib.hid hr
      have hri : ((len : Int) - (i : Int)) = (r : Int) := by omega
      by_cases hlast : r < sz
      · have hrm : r = m := by have := HM.out; omega
        subst hrm
        have d2 : (r : Int) < (sz : Int) := by omega
        gi_wp2
        gi_region
        obtain ⟨fn, tmps, assign, body, hy, hR⟩ := HK.out #[.slice (some (a.add i)) r r] HV.out
        gi_wp2
        refine hR.mono ?_
        rintro e W3 (⟨rfl, hJ3, hk3⟩ | ⟨rfl, hJx3⟩)
        · have HK3 := Lib.hid hk3
          have c1 : W3.cell? ⟨Bn, 0, none⟩ = some (.int .i64 (sz : Int)) := (row_cell (hk3.cell (.inr rfl) HBn.out) 0).trans rfl
          clear hk3
          gi_wp2
          go_roundw
          case rel => exact ⟨k + 1, by omega, by rw [Nat.add_mul, Nat.one_mul, HI.out]; go_num, hJ3, HK3.out⟩
          case measure => simp [intOf]; omega
        · gi_wp2
          refine bodyPost_ret (results_none rfl _ _ _) rfl ?_
          exact ⟨⟨_, rfl⟩, .inr ⟨_, ⟨k + 1, by omega, rfl⟩, hJx3⟩⟩
      · have hrm : sz = m := by have := HM.out; omega
        subst hrm
        have d2 : ¬ (r : Int) < (sz : Int) := by omega
        gi_wp2
        gi_region
        obtain ⟨fn, tmps, assign, body, hy, hR⟩ := HK.out #[.slice (some (a.add i)) sz sz] HV.out
        gi_wp2
        refine hR.mono ?_
        rintro e W3 (⟨rfl, hJ3, hk3⟩ | ⟨rfl, hJx3⟩)
        · have HK3 := Lib.hid hk3
          have c1 : W3.cell? ⟨Bn, 0, none⟩ = some (.int .i64 (sz : Int)) := (row_cell (hk3.cell (.inr rfl) HBn.out) 0).trans rfl
          clear hk3
          gi_wp2
          go_roundw
          case rel => exact ⟨k + 1, by omega, by rw [Nat.add_mul, Nat.one_mul, HI.out]; go_num, hJ3, HK3.out⟩
          case measure => simp [intOf]; omega
        · gi_wp2
          refine bodyPost_ret (results_none rfl _ _ _) rfl ?_
          exact ⟨⟨_, rfl⟩, .inr ⟨_, ⟨k + 1, by omega, rfl⟩, hJx3⟩⟩
    · have hkN : k = N := by
        rcases Nat.lt_or_ge k N with h | h
        · have := HN2.out k h
          omega
        · omega
      have g1 : decide ((i : Int) < (len : Int)) = false := by simp; omega
      subst hkN
      gi_wp2
      go_end0
      exact ⟨⟨_, rfl⟩, .inl ⟨_, rfl, hJ0⟩⟩
/-- the iterator tells the parts, in order; or the first of them -/
theorem chunkI_stops (n : Nat) (hn : 1 ≤ n) (Bs Bn len sz c : Nat) (A : Option Addr) (hs1 : 1 ≤ sz) (hs2 : sz ≤ 1000) (hl : len ≤ 4096) (hc : len ≤ c) (hA : len = 0 ∨ ∃ a, A = some a) (w : World) (hBs : w.heap[Bs]? = some (.cells #[.slice A len c] 55 (0, 0))) (hBn : w.heap[Bn]? = some (.cells #[.int .i64 (sz : Int)] 3 (0, 0))) :
    SeqStopsK Fence.wide n Tryz.prog 188 #[.pointer (some ⟨Bs, 0, none⟩), .pointer (some ⟨Bn, 0, none⟩)] (partV A len sz 1) (CKeep (two Bs Bn)) (fun ys => ys = List.range (rowsN len sz)) (fun pre => ∃ k, k ≤ rowsN len sz ∧ pre = List.range k) (rowsN len sz) w :=
  fun lo J Jx W hW hJ _ hY h0 => chunkI_in n hn lo Bs Bn len sz c A hs1 hs2 hl hc hA J Jx hY W hJ (row_below hBs hW (row_lt hBs)) (row_below hBn hW (row_lt hBn)) h0
set_option maxHeartbeats 1000000 in
theorem chunkI_make (n : Nat) (A : Option Addr) (m c sz : Nat) (hs1 : 1 ≤ sz) (w : World) :
    CallsIn Fence.wide n Tryz.prog 148 #[.slice A m c, .int .i64 (sz : Int)] w fun e w' => e = .returned (.func (.func 188) #[] #[.pointer (some ⟨w.heap.size, 0, none⟩), .pointer (some ⟨w.heap.size + 1, 0, none⟩)]) ∧
      w' = (w.alloc (.cells #[.slice A m c] 55)).alloc (.cells #[.int .i64 (sz : Int)] 3) := by
  have hs : ¬ ((sz : Int) < 1) := by omega
  have hs' : decide ((sz : Int) < 1) = false := by simp; omega
  refine callsIn_of_wp Tryz.func148 rfl trivial ?_ rfl
  simp only [Tryz.ntmps148, List.size_toArray, List.length_cons, List.length_nil, Nat.reduceAdd, Nat.reduceSub, Array.replicate_succ, Array.replicate_zero, List.push_toArray, List.append_toArray, List.nil_append, List.cons_append]
  gi_wp2
  go_ret
  exact ⟨rfl, rfl⟩
end Go.Proofs.YtmlgchmladkfpaaGreatDoor.JLayC
/- What Lay calls: which writes are no blocks, their entries and copies, revoked blocks' entries, the sum. -/
namespace Go.Proofs.YtmlgchmladkfpaaGreatDoor.JLayF
open Go.RowKit WMem WPlain WList WPack WHelp WAppend WWide WAny WCrc WSeal SNums JPlain JMem JMay JBody JPack JTold JEscape JNeed JLayM

theorem isNoBlock_any (b : Int) (K : Option Addr) (n c : Nat) (w : World) : Calls Tryz.prog 145 #[.agg #[.int .i64 b, .slice K n c]] w fun e w' => e = .returned (.bool ((n : Int) != 256)) ∧ Below w.heap.size w w' := by
  go_enter Tryz.func145, Tryz.ntmps145
  go_wp2
  go_ret
  exact ⟨rfl, below_box _⟩
theorem ne_no {n : Nat} {q : Bool} (h : (n == 256) = q) : ((n : Int) != 256) = !q := by
  subst h
  rw [Bool.eq_iff_iff]
  simp
  omega
set_option maxHeartbeats 1000000 in
theorem indexW_any (l : List Wr) (B : Nat) (A : Option Addr) (c : Nat) (w : World) (hB : B ≤ w.heap.size) (hA : Wrs w B A l) (hl : l.length ≤ 4096) :
    Calls Tryz.prog 125 #[.slice A l.length c, .func (.func 145) #[] #[]] w fun e w' => ∃ n : Int, e = .returned (.int .i64 n) ∧ foundAt (!all256 l) n ∧ Below w.heap.size w w' := by
  have HA := Lib.hid hA
  clear hA
  go_enter Tryz.func125, Tryz.ntmps125
  go_wp2
  go_loopw [8] (fun i wr => ∃ k : Nat, k ≤ l.length ∧ i = .int .i64 k ∧ Below w.heap.size w wr ∧ Hid (∀ x ∈ l.take k, (x.data.length == 256) = true)) (fun i _ => l.length - (intOf i).toNat)
  case atStart => exact ⟨0, Nat.zero_le _, rfl, Below.refl _ _, Lib.hid (by simp)⟩
  case round =>
    obtain ⟨k, hk, rfl, hb, HK⟩ := hrel
    have HB := Lib.hid hb
    have sB := hb.size
    clear hb
    by_cases hlt : k < l.length
    · obtain ⟨a, K, c', rfl, _, c0, c1, _⟩ := (HA.out.below HB.out hB).at_ hlt
      have HT := Lib.hid (fun (h : (l[k].data.length == 256) = true) => show ∀ x ∈ l.take (k + 1), (x.data.length == 256) = true from fun y hy => by
        rw [List.take_succ_eq_append_getElem hlt] at hy
        rcases List.mem_append.1 hy with hy | hy
        · exact HK.out y hy
        · rw [List.mem_singleton.1 hy]; exact h)
      have HF := Lib.hid (fun (h : (l[k].data.length == 256) = false) => show all256 l = false from by
        rw [Bool.eq_false_iff]
        intro ha
        have := List.all_eq_true.1 ha l[k] (List.getElem_mem hlt)
        rw [h] at this
        cases this)
      generalize l[k].data.length = m at *
      generalize l[k].blk = b at *
      cases hq : (m == 256) with
      | true =>
        have HNN := Lib.hid (HT.out hq)
        have HQ := Lib.hid (ne_no hq)
        clear hq
        go_wp2_with fail
        refine (isNoBlock_any b K m c' _).mono ?_
        rintro e w1 ⟨rfl, hb1⟩
        rw [HQ.out]
        have HB1 := Lib.hid (below_up HB.out hb1 sB)
        clear hb1
        go_wp2
        go_roundw
        case rel => exact ⟨k + 1, by omega, by go_num, HB1.out, HNN⟩
        case measure => simp [intOf]; omega
      | false =>
        have HYY := Lib.hid (HF.out hq)
        have HQ := Lib.hid (ne_no hq)
        clear hq
        go_wp2_with fail
        refine (isNoBlock_any b K m c' _).mono ?_
        rintro e w1 ⟨rfl, hb1⟩
        rw [HQ.out]
        have HB1 := Lib.hid (below_up HB.out hb1 sB)
        clear hb1
        go_wp2
        go_ret
        exact ⟨_, rfl, by unfold foundAt; rw [HYY.out]; simp, HB1.out⟩
    · obtain rfl : k = l.length := by omega
      have HF : Hid (all256 l = true) := Lib.hid (by
        unfold all256
        rw [List.all_eq_true]
        have := HK.out
        rw [List.take_length] at this
        exact this)
      go_wp2
      go_ret
      exact ⟨_, rfl, by unfold foundAt; rw [HF.out]; rfl, HB.out⟩
theorem containsW_any (n : Nat) (l : List Wr) (hn : l.length = n) (q : Bool) (hq : (!all256 l) = q) (B : Nat) (A : Option Addr) (c : Nat) (w : World) (hB : B ≤ w.heap.size) (hA : Wrs w B A l) (hl : n ≤ 4096) :
    Calls Tryz.prog 95 #[.slice A n c, .func (.func 145) #[] #[]] w fun e w' => e = .returned (.bool q) ∧ Below w.heap.size w w' := by
  subst hq
  subst hn
  have HI := Lib.hid (indexW_any l B A c w hB hA hl)
  clear hA
  go_enter Tryz.func95, Tryz.ntmps95
  go_wp2_with fail
  refine HI.out.mono ?_
  rintro e w1 ⟨n, rfl, hn, hb⟩
  have HN := Lib.hid hn
  clear hn
  go_wp2
  go_ret
  exact ⟨ret_b HN.out, hb⟩

theorem own_ge {w : World} {base : Nat} {e : TypeId} {size n : Nat} {v : Value} {zs : List Value} (h : w.ownsRow base e size v n zs) : ∀ g, v.ownBlock = some g → base ≤ g := by
  rcases h.2 with ⟨rfl, _⟩ | ⟨k, cap, cur, rfl, hb, _⟩
  · intro g hg; simp [Value.ownBlock] at hg
  · intro g hg
    simp only [Value.ownBlock, Option.some.injEq] at hg
    omega
theorem Escape_at (n : Nat) (l : List UInt8) (hn : l.length = n) (B : Nat) (A : Option Addr) (c : Nat) (w : World) (hB : B ≤ w.heap.size) (hl : n ≤ 140737488351232) (hA : Sl w B A (l.map u8v)) :
    Calls Tryz.prog 187 #[.slice A n c] w fun e w' => ∃ v, e = .returned (.tuple #[v, .bool (marked l)]) ∧ WAny.Own w' w.heap.size v (escL l) ∧ Below w.heap.size w w' := by
  subst hn
  exact Escape_any l B A c w hB hl hA
theorem own_up {w : World} {B B' : Nat} {v : Value} {l : List UInt8} (h : WAny.Own w B v l) (hB : B' ≤ B) : WAny.Own w B' v l := by
  rcases h with h | ⟨g, c, rest, h1, h2, h3⟩
  · exact .inl h
  · exact .inr ⟨g, c, rest, h1, Nat.le_trans hB h2, h3⟩
theorem own_turn {w w' : World} {base : Nat} {v : Value} {l : List UInt8} {row : Option Nat} (h : WAny.Own w base v l) (hg : w.grownBy w' row) (hne : ∀ k cs, row = some k → w.heap[k]? ≠ some (.cells cs 5 (0, 0))) : WAny.Own w' base v l := by
  rcases h with hO | ⟨g, c, rest, e1, e2, e3, e4⟩
  · exact .inl hO
  · exact .inr ⟨g, c, rest, e1, e2, e3, e4.grown hg (fun e => hne g _ e.symm e4)⟩
theorem take_map {α β : Type} (f : α → β) (l : List α) (k : Nat) (h : k < l.length) : (l.take (k + 1)).map f = (l.take k).map f ++ [f l[k]] := by rw [List.take_succ_eq_append_getElem h, List.map_append]; rfl
set_option maxRecDepth 100000 in
set_option maxHeartbeats 4000000 in
theorem escaped_any (n : Nat) (l : List Wr) (hn : l.length = n) (B : Nat) (A : Option Addr) (c : Nat) (w : World) (hB : B ≤ w.heap.size) (hA : Wrs w B A l) (hl : n ≤ 4096) (h256 : ∀ x ∈ l, x.data.length = 256) :
    Calls Tryz.prog 147 #[.slice A n c] w fun e w' => ∃ v1 v2, e = .returned (.tuple #[v1, v2]) ∧ w'.ownsRow w.heap.size 223 2 v1 n (ecells (l.map entW)) ∧ Blks w' w.heap.size v2 n (l.map escW) ∧ Below w.heap.size w w' := by
  have HN := Lib.hid hn
  have HA := Lib.hid hA
  have H256 := Lib.hid h256
  obtain ⟨i0, hi0, hz0, hz1, hz2⟩ := info_parts infoE
  clear hA hn h256
  go_enter Tryz.func147, Tryz.ntmps147
  go_wp2
  go_loopw [4, 5, 12] (fun v u i wr => ∃ k : Nat, k ≤ n ∧ i = .int .i64 k ∧ wr.ownsRow w.heap.size 223 2 v k (ecells ((l.take k).map entW)) ∧ Blks wr w.heap.size u k ((l.take k).map escW) ∧ Below w.heap.size w wr) (fun _ _ i _ => n - (intOf i).toNat)
  case atStart => exact ⟨0, Nat.zero_le _, rfl, World.ownsRow_nil _ _ _ _, Blks.nil _ _, Below.refl _ _⟩
  case round =>
    obtain ⟨k, hk, rfl, ho, hu, hb⟩ := hrel
    have HO := Lib.hid ho
    have HU := Lib.hid hu
    have HB := Lib.hid hb
    have sB := hb.size
    clear ho hu hb
    by_cases hlt : k < n
    · have hlt' : k < l.length := by rw [HN.out]; exact hlt
      obtain ⟨a, K, c', rfl, hab, c0, c1, hS⟩ := (HA.out.below HB.out hB).at_ hlt'
      have hd := H256.out l[k] (List.getElem_mem hlt')
      have HTE := Lib.hid (take_map entW l k hlt')
      have HTC := Lib.hid (take_map escW l k hlt')
      rw [hd] at c1
      have HS := Lib.hid hS
      generalize hx : l[k] = x at *
      obtain ⟨b, dd⟩ := x
      simp only at hd c0 HS
      have HD := Lib.hid hd
      clear hx hS hd
      have HBA := Lib.hid (HB.out.alloc sB (.cells #[.int .i64 b, .slice K 256 c'] 115))
      go_wp2_with fail
      refine (Escape_at 256 dd HD.out B K c' _ (by simp; omega) (by decide) (HS.out.below_le (below_box (w := wr) _) (by omega))).mono ?_
      rintro e w1 ⟨v3, rfl, hO3, hb1⟩
      obtain ⟨A3, c3, e3, _, _⟩ := hO3.sl
      rw [escL_len, HD.out] at e3
      subst e3
      have hbx : w1.heap[wr.heap.size]? = some (.cells #[.int .i64 b, .slice K 256 c'] 115 (0, 0)) := row_below (row_new wr _) hb1 (by simp)
      have x0 : w1.cell? ⟨wr.heap.size, 0, none⟩ = some (.int .i64 b) := (row_cell hbx 0).trans rfl
      have HO1 := Lib.hid (owns_below (owns_below HO.out (below_box _)) hb1)
      have HU1 := Lib.hid (((HU.out.alloc _).below hb1))
      have HB1 := Lib.hid (below_up HBA.out hb1 HBA.out.size)
      have HO3 := Lib.hid (own_up hO3 (show w.heap.size ≤ (wr.alloc (.cells #[.int .i64 b, .slice K 256 c'] 115)).heap.size by simp; omega))
      have hs1 := HB1.out.size
      clear hbx hO3 hb1
      generalize hq : marked dd = q at *
      have HQ := Lib.hid hq
      clear hq
      have HOA := Lib.hid (HO1.out.alloc (.cells #[.int .i64 b, .bool q] 223))
      have HUA := Lib.hid (HU1.out.alloc (.cells #[.int .i64 b, .bool q] 223))
      have HO3A := Lib.hid (HO3.out.keep (below_box (w := w1) (.cells #[.int .i64 b, .bool q] 223)))
      have HBB := Lib.hid (HB1.out.alloc hs1 (.cells #[.int .i64 b, .bool q] 223))
      have hsa := HBB.out.size
      go_wp2_with (first
        | (at_builtin; (refine wpList_append_lies _ rfl (.tmp 22) (.tmp 27) 152 rfl w.heap.size 223 i0 _ 2 16 underE hi0 hz0 hz1 hz2 rfl (by decide) u4 k (ecells ((l.take k).map entW)) rfl HOA.out ⟨w1.heap.size, 0, none⟩ 1 1 (ecell ⟨b, q⟩) rfl rfl (World.news_of_block (cs := #[.int .i64 b, .bool q]) (t := 223) (fr := (0, 0)) (row_new w1 _)) (by simp [ecell, Value.oneCell']) (by omega) (by unfold maxLen; omega) (by omega) (by omega) _ rfl ?_); intro gg cap w2 h1 h2 hat hlt2
           have hnt : ∀ (j : Nat) (cs : Array Value), u4.ownBlock = some j → (w1.alloc (.cells #[.int .i64 b, .bool q] 223)).heap[j]? ≠ some (.cells cs 5 (0, 0)) := fun j cs e hk => own_ne HOA.out hk (by decide) e
           have HO2 := Lib.hid h1
           have hU2 : Blks w2 w.heap.size u5 k ((l.take k).map escW) := by
             obtain ⟨vs, a1, a2⟩ := HUA.out
             exact HUA.out.kept h2 (owns_apart a1 HOA.out (by decide)) hnt
           have HU2 := Lib.hid (hU2.alloc (.cells #[.slice A3 256 c3] 43))
           have HO32 := Lib.hid ((own_turn HO3A.out h2 hnt).keep (below_box (.cells #[.slice A3 256 c3] 43)))
           have HB2 := Lib.hid ((HBB.out.grown h2 hsa (fun j hj => own_ge HOA.out j hj)).alloc (HBB.out.grown h2 hsa (fun j hj => own_ge HOA.out j hj)).size (.cells #[.slice A3 256 c3] 43))
           have hs2 : w.heap.size ≤ w2.heap.size := (HBB.out.grown h2 hsa (fun j hj => own_ge HOA.out j hj)).size
           obtain ⟨vs, ha1, ha2, ha3, ha4, ha5⟩ := HU2.out
           have HA1 := Lib.hid ha1
           have HA5 := Lib.hid ha5
           clear h1 h2 hat hnt hU2 ha1 ha5)
        | (at_builtin; (refine wl_append rfl (.tmp 29) (.tmp 31) 78 rfl w.heap.size 43 24 elemS u5 k vs rfl HA1.out (w2.heap.size + 1) (some ⟨w2.heap.size, 0, none⟩) 1 1 [.slice A3 256 c3] rfl rfl (sl_new rfl [.slice A3 256 c3] _) (by simp [Value.oneCell']) (by omega) (by unfold maxLen; omega) (by simp; omega) ?_); intro v4 w3 h1 h2 h3
           have HU3 := Lib.hid (Blks.snoc HU2.out HO32.out (own_one HO32.out) HA1.out h1 h2 HA5.out ha3 ha4)
           have HO33 := Lib.hid ((HO2.out.alloc (.cells #[.slice A3 256 c3] 43)).kept h2 (owns_apart (HO2.out.alloc (.cells #[.slice A3 256 c3] 43)) HA1.out (by decide)))
           have HB3 := Lib.hid (HB2.out.grown h2 HB2.out.size (fun j hj => own_ge HA1.out j hj))
           clear h1 h2 h3))
      go_roundw
      case rel =>
        refine ⟨k + 1, by omega, by go_num, ?_, ?_, HB3.out⟩
        · rw [HTE.out, ecells_snoc, show entW ⟨b, dd⟩ = ⟨b, q⟩ from by unfold entW; rw [HQ.out]]; exact HO33.out
        · rw [HTC.out]; exact HU3.out
      case measure => simp [intOf]; omega
    · obtain rfl : k = n := by omega
      have HF1 : Hid (wr.ownsRow w.heap.size 223 2 u4 k (ecells (l.map entW))) := Lib.hid (by
        have h := HO.out
        rwa [← HN.out, List.take_length, HN.out] at h)
      have HF2 : Hid (Blks wr w.heap.size u5 k (l.map escW)) := Lib.hid (by
        have h := HU.out
        rwa [← HN.out, List.take_length, HN.out] at h)
      go_wp2
      go_ret2
      exact ⟨u4, u5, rfl, HF1.out, HF2.out, HB.out⟩
set_option maxRecDepth 100000 in
set_option maxHeartbeats 4000000 in
theorem named_any (n : Nat) (l : List Int) (hn : l.length = n) (B : Nat) (A : Option Addr) (c : Nat) (w : World) (hB : B ≤ w.heap.size) (hA : Sl w B A (l.map i64v)) (hl : n ≤ 4096) :
    Calls Tryz.prog 149 #[.slice A n c] w fun e w' => ∃ v1, e = .returned v1 ∧ w'.ownsRow w.heap.size 223 2 v1 n (ecells (l.map entR)) ∧ Below w.heap.size w w' := by
  have HN := Lib.hid hn
  have HA := Lib.hid hA
  obtain ⟨i0, hi0, hz0, hz1, hz2⟩ := info_parts infoE
  clear hA hn
  go_enter Tryz.func149, Tryz.ntmps149
  go_wp2
  go_loopw [3, 8] (fun v i wr => ∃ k : Nat, k ≤ n ∧ i = .int .i64 k ∧ wr.ownsRow w.heap.size 223 2 v k (ecells ((l.take k).map entR)) ∧ Below w.heap.size w wr) (fun _ i _ => n - (intOf i).toNat)
  case atStart => exact ⟨0, Nat.zero_le _, rfl, World.ownsRow_nil _ _ _ _, Below.refl _ _⟩
  case round =>
    obtain ⟨k, hk, rfl, ho, hb⟩ := hrel
    have HO := Lib.hid ho
    have HB := Lib.hid hb
    have sB := hb.size
    clear ho hb
    by_cases hlt : k < n
    · have hlt' : k < l.length := by rw [HN.out]; exact hlt
      obtain ⟨a, rfl, hab, c0⟩ := (HA.out.below_le HB.out hB).i64 hlt'
      have HTE := Lib.hid (take_map entR l k hlt')
      generalize l[k] = x at *
      have HOA := Lib.hid (HO.out.alloc (.cells #[.int .i64 x, .bool false] 223))
      have HBA := Lib.hid (HB.out.alloc sB (.cells #[.int .i64 x, .bool false] 223))
      have hsa := HBA.out.size
      go_wp2_with (at_builtin; go_loud (refine wpList_append_lies _ rfl _ _ 152 rfl w.heap.size 223 i0 _ 2 16 underE hi0 hz0 hz1 hz2 rfl (by decide) u3 k (ecells ((l.take k).map entR)) rfl HOA.out ⟨wr.heap.size, 0, none⟩ 1 1 (ecell ⟨x, false⟩) rfl rfl (World.news_of_block (cs := #[.int .i64 x, .bool false]) (t := 223) (fr := (0, 0)) (row_new wr _)) (by simp [ecell, Value.oneCell']) (by omega) (by unfold maxLen; omega) (by omega) (by omega) _ rfl ?_); intro gg cap w2 h1 h2 hat hlt2
                   have HO2 := Lib.hid h1
                   have HB2 := Lib.hid (HBA.out.grown h2 hsa (fun j hj => own_ge HOA.out j hj))
                   clear h1 h2 hat)
      go_roundw
      case rel =>
        refine ⟨k + 1, by omega, by go_num, ?_, HB2.out⟩
        rw [HTE.out, ecells_snoc]
        exact HO2.out
      case measure => simp [intOf]; omega
    · obtain rfl : k = n := by omega
      have HF1 : Hid (wr.ownsRow w.heap.size 223 2 u3 k (ecells (l.map entR))) := Lib.hid (by
        have h := HO.out
        rwa [← HN.out, List.take_length, HN.out] at h)
      go_wp2
      go_ret
      exact ⟨u3, rfl, HF1.out, HB.out⟩
theorem sumB_lt (s : Nat) (hs : s < 4294967296) (L : List (List UInt8)) : sumB s L < 4294967296 := by
  induction L generalizing s with
  | nil => exact hs
  | cons b L ih => exact ih _ (crc_lt s b)
theorem sumB_take (s : Nat) (L : List (List UInt8)) (k : Nat) (h : k < L.length) : sumB s (L.take (k + 1)) = crc (sumB s (L.take k)) L[k] := by
  rw [List.take_succ_eq_append_getElem h, sumB_snoc]
set_option maxRecDepth 100000 in
set_option maxHeartbeats 4000000 in
theorem sumOf_in (q : Int) (s : Nat) (sw : IntKind.u32.wrap q = (s : Int)) (hs : s < 4294967296) (n : Nat) (L : List (List UInt8)) (base : Nat) (v : Value) (w : World) (hU : Blks w base v n L) (hl : n ≤ 20000) (hsz : ∀ b ∈ L, b.length ≤ 140737488355328) (hT : Tab w) :
    Calls Tryz.prog 150 #[.int .i64 q, v] w fun e w' => e = .returned (.int .u32 (sumB s L : Nat)) ∧ w = w' := by
  have hL := hU.len
  obtain ⟨vs, a1, a2, a3, a4, a5⟩ := hU
  have HT := Lib.hid hT
  have HL := Lib.hid hL
  have HSZ := Lib.hid hsz
  have H5 := Lib.hid a5
  have H3 := Lib.hid a3
  obtain ⟨A, c, rfl, hcell⟩ : ∃ A c, v = .slice A n c ∧ ∀ (k : Nat) u, vs[k]? = some u → ∃ a, A = some a ∧ w.cell? (a.add k) = some u := by
    rcases a1.2 with ⟨rfl, hn⟩ | ⟨g, cap, cur, rfl, _, _⟩
    · exact ⟨none, 0, by rw [hn], fun k u hu => by
        rw [hn] at a3
        rw [List.eq_nil_of_length_eq_zero a3] at hu
        simp at hu⟩
    · have hc := a1.cells (g := g) rfl
      exact ⟨_, cap, rfl, fun k u hu => ⟨_, rfl, hc k u hu⟩⟩
  have HC := Lib.hid hcell
  clear a1 a2 a3 a4 a5 hT hsz hcell
  go_enter Tryz.func150, Tryz.ntmps150
  go_wp2
  go_loopw [5, 12] (fun x i wr => ∃ k : Nat, k ≤ n ∧ i = .int .i64 k ∧ x = .int .u32 (sumB s (L.take k) : Nat) ∧ wr = w) (fun _ i _ => n - (intOf i).toNat)
  case atStart => exact ⟨0, Nat.zero_le _, rfl, rfl, rfl⟩
  case round =>
    obtain ⟨k, hk, rfl, rfl, rfl⟩ := hrel
    by_cases hlt : k < n
    · have hlt' : k < L.length := by omega
      obtain ⟨u, hu, hO⟩ := H5.out k hlt'
      obtain ⟨a, rfl, c0⟩ := HC.out k u hu
      obtain ⟨Au, cu, rfl, hS, _⟩ := hO.sl
      have HS := Lib.hid hS
      have hb := HSZ.out L[k] (List.getElem_mem hlt')
      have HTK := Lib.hid (sumB_take s L k hlt')
      have hlt3 := sumB_lt s hs (L.take k)
      generalize sumB s (L.take k) = y at *
      generalize L[k] = b at *
      obtain ⟨m, hm⟩ : ∃ m, b.length = m := ⟨_, rfl⟩
      rw [hm] at c0 hb
      have HM := Lib.hid hm
      clear hm hS hO hu
      go_wp2_with fail
      refine (wire_crc_len m y b HM.out wr.heap.size Au cu wr hlt3 hb HS.out HT.out).mono ?_
      rintro e w' ⟨rfl, rfl⟩
      go_wp2
      go_roundw
      case rel => exact ⟨k + 1, by omega, by go_num, by rw [HTK.out], by first | trivial | rfl⟩
      case measure => simp [intOf]; omega
    · obtain rfl : k = n := by omega
      have HF : Hid (sumB s (L.take k) = sumB s L) := Lib.hid (by rw [← HL.out, List.take_length])
      go_wp2
      go_ret
      exact ⟨by rw [← HF.out]; rfl, by first | trivial | rfl⟩
end Go.Proofs.YtmlgchmladkfpaaGreatDoor.JLayF
/- Need of both, at any numbers that may come. -/
namespace Go.Proofs.YtmlgchmladkfpaaGreatDoor.JNeed2
open Go.RowKit WMem JNeed JLayM JPlain

set_option maxHeartbeats 1000000 in
theorem Need_wide (a b : Nat) (ha : a ≤ 140737488355328) (hb : b ≤ 140737488355328) (w : World) : Calls Tryz.prog 84 #[.int .i64 (a : Int), .int .i64 (b : Int)] w fun e w' => e = .returned (.int .i64 (needN a b : Nat)) ∧ Below w.heap.size w w' := by
  have h1 := rowsN_le a 48
  have h2 := rowsN_le b 60
  have HN := Lib.hid (need_up a b)
  have HA := Lib.hid (fun w => rows_any a 48 (by decide) (by decide) (by omega) w)
  have HB := Lib.hid (fun w => rows_any b 60 (by decide) (by decide) (by omega) w)
  generalize rowsN a 48 = x at *
  generalize rowsN b 60 = y at *
  generalize needN a b = N at *
  have m1 : ¬ ((a : Int) < 0) := by omega
  have m2 : ¬ ((b : Int) < 0) := by omega
  have m3 : max (a : Int) 0 = (a : Int) := by omega
  have m4 : max (b : Int) 0 = (b : Int) := by omega
  have s1 : IntKind.i64.wrap ((a : Int) + (x : Int)) = ((a + x : Nat) : Int) := by rw [IntWalk.i64_in _ (by omega)]; simp
  have s2 : IntKind.i64.wrap (((a + x : Nat) : Int) + (y : Int)) = ((a + x + y : Nat) : Int) := by rw [IntWalk.i64_in _ (by omega)]; simp
  have s3 : IntKind.i64.wrap (((a + x + y : Nat) : Int) + 1) = ((a + x + y + 1 : Nat) : Int) := by rw [IntWalk.i64_in _ (by omega)]; simp
  go_enter Tryz.func84, Tryz.ntmps84
  go_wp2_with fail
  refine (HA.out _).mono ?_
  rintro e w1 ⟨rfl, hb1⟩
  go_wp2_with fail
  refine (HB.out _).mono ?_
  rintro e w2 ⟨rfl, hb2⟩
  have HBB := Lib.hid (below_up hb1 hb2 hb1.size)
  clear hb1 hb2
  go_wp2
  go_ret
  exact ⟨ret_i HN.out.symm, HBB.out⟩
set_option maxHeartbeats 1000000 in
theorem Need_neg (a : Nat) (ha : a ≤ 140737488355328) (w : World) : Calls Tryz.prog 84 #[.int .i64 (a : Int), .int .i64 (-3)] w fun e w' => e = .returned (.int .i64 (needN a 0 : Nat)) ∧ Below w.heap.size w w' := by
  have h1 := rowsN_le a 48
  have h2 := rowsN_le 0 60
  have HN := Lib.hid (need_up a 0)
  have HA := Lib.hid (fun w => rows_any a 48 (by decide) (by decide) (by omega) w)
  have HB := Lib.hid (fun w => rows_any 0 60 (by decide) (by decide) (by omega) w)
  generalize rowsN a 48 = x at *
  generalize rowsN 0 60 = y at *
  generalize needN a 0 = N at *
  have m1 : ¬ ((a : Int) < 0) := by omega
  have m3 : max (a : Int) 0 = (a : Int) := by omega
  have s1 : IntKind.i64.wrap ((a : Int) + (x : Int)) = ((a + x : Nat) : Int) := by rw [IntWalk.i64_in _ (by omega)]; simp
  have s2 : IntKind.i64.wrap (((a + x : Nat) : Int) + (y : Int)) = ((a + x + y : Nat) : Int) := by rw [IntWalk.i64_in _ (by omega)]; simp
  have s3 : IntKind.i64.wrap (((a + x + y : Nat) : Int) + 1) = ((a + x + y + 1 : Nat) : Int) := by rw [IntWalk.i64_in _ (by omega)]; simp
  go_enter Tryz.func84, Tryz.ntmps84
  go_wp2_with fail
  refine (HA.out _).mono ?_
  rintro e w1 ⟨rfl, hb1⟩
  go_wp2_with fail
  refine (HB.out _).mono ?_
  rintro e w2 ⟨rfl, hb2⟩
  have HBB := Lib.hid (below_up hb1 hb2 hb1.size)
  clear hb1 hb2
  go_wp2
  go_ret
  exact ⟨ret_i HN.out.symm, HBB.out⟩
theorem need_val (a b x y r s : Nat) (hx : a / 48 = x) (hy : b / 60 = y) (hr : a % 48 = r) (hs : b % 60 = s) : needN a b = a + x + y + 1 + (if 0 < r then 1 else 0) + (if 0 < s then 1 else 0) := by
  subst hx hy hr hs
  show a + (a / 48 + (if a % 48 = 0 then 0 else 1)) + (b / 60 + (if b % 60 = 0 then 0 else 1)) + 1 = _
  by_cases h1 : a % 48 = 0 <;> by_cases h2 : b % 60 = 0
  · rw [if_pos h1, if_pos h2, if_neg (by omega), if_neg (by omega)]; omega
  · rw [if_pos h1, if_neg h2, if_neg (by omega), if_pos (by omega)]; omega
  · rw [if_neg h1, if_pos h2, if_pos (by omega), if_neg (by omega)]; omega
  · rw [if_neg h1, if_neg h2, if_pos (by omega), if_pos (by omega)]; omega
theorem ret_n {x : Int} {n : Nat} (h : x = (n : Int)) : Ending.returned (.int .i64 x) = .returned (.int .i64 (n : Int)) := by rw [h]
theorem part_all {α : Type} (l : List α) (sz : Nat) : (l.drop (rowsN l.length sz * sz)) = [] ∨ sz = 0 := by
  rcases Nat.eq_zero_or_pos sz with h | h
  · exact .inr h
  · exact .inl (List.drop_eq_nil_of_le (rowsN_mul l.length sz h).1)
theorem frontW_count (seq : Int) (ws : List Wr) (n : Nat) : (frontW seq ws n).length = n + min (48 * n) ws.length := by
  induction n with
  | zero => simp [frontW]
  | succ n ih =>
    rw [frontW_succ, List.length_append, ih]
    simp only [layD, List.length_cons, List.length_map, part_len]
    omega
theorem lay_len (seq : Int) (ws : List Wr) (rs : List Int) : (lay seq ws rs).length = needN ws.length rs.length := by
  have h := (rowsN_mul ws.length 48 (by decide)).1
  unfold lay front
  rw [List.length_append, List.length_append, frontW_count, need_up]
  simp only [frontR, List.length_map, List.length_range, List.length_singleton]
  omega
end Go.Proofs.YtmlgchmladkfpaaGreatDoor.JNeed2
