/- The two disks in memory: the document's and the program's; how they last while other blocks turn. -/
import Derived.Test.YtphfidenjihgeaaProg
import Derived.Test.YtphfidenjihgeaaWMem
import Derived.Test.YtphfidenjihgeaaExt
import Derived.Test.YtphfidenjihgeaaMap
import Derived.Test.YtphfidenjihgeaaDPlain
import Derived.KernelRfl
namespace Go.Proofs.Ytphfidenjihgeaa.DMem
open Go.RowKit WMem Ext Map DPlain

/-- v is a slice of 256 bytes of its own, in S: l -/
def IsBlk (w : World) (S : Nat → Prop) (v : Value) (l : List UInt8) : Prop := ∃ g c rest, v = .slice (some ⟨g, 0, none⟩) 256 c ∧ S g ∧ l.length = 256 ∧ 256 ≤ c ∧ Row w g l rest
/-- the elements of a row of blocks -/
def LOf (w : World) (S : Nat → Prop) (xs : List Value) (L : List (List UInt8)) : Prop :=
  xs.length = L.length ∧ ∀ (i : Nat) (h : i < L.length), ∃ v, xs[i]? = some v ∧ IsBlk w S v L[i]
/-- the elements of a row of writes: each a number and a block -/
def POf (w : World) (S : Nat → Prop) (ys : List Value) (P : List (Nat × List UInt8)) : Prop :=
  ys.length = P.length * 2 ∧ ∀ (i : Nat) (h : i < P.length), ∃ v, ys[i * 2]? = some (.int .i64 (P[i].1 : Int)) ∧ ys[i * 2 + 1]? = some v ∧ IsBlk w S v P[i].2
/-- a slice of its own in S -/
def OwnS (w : World) (S : Nat → Prop) (e : TypeId) (size : Nat) (v : Value) (n : Nat) (xs : List Value) : Prop := w.ownsRow 0 e size v n xs ∧ ∀ g, v.ownBlock = some g → S g
/-- what stands for good: a block that is not in the map holds noughts -/
def DoneOf (w : World) (S : Nat → Prop) (f : Int → Option Value) (L : List (List UInt8)) : Prop :=
  (∀ k v, f k = some v → ∃ (n : Nat) (h : n < L.length), k = (n : Int) ∧ IsBlk w S v L[n]) ∧ ∀ (n : Nat) (h : n < L.length), f n = none → L[n] = zeros
/-- of each block with pending writes what the last of them wrote -/
def LateOf (w : World) (S : Nat → Prop) (f : Int → Option Value) (P : List (Nat × List UInt8)) : Prop :=
  (∀ k v, f k = some v → ∃ (n : Nat) (l : List UInt8), k = (n : Int) ∧ lastOf P n = some l ∧ IsBlk w S v l) ∧ ∀ (n : Nat), f n = none → lastOf P n = none

structure DDx (w : World) (S : Nat → Prop) (b : Nat) (s : St) (m1 m2 n1 n2 : Nat) (f h : Int → Option Value) (Pv : Value) (ys : List Value) : Prop where
  here : S b
  block : w.heap[b]? = some (.cells #[.int .i64 (s.L.length : Int), .int .i64 (s.N : Int), .map (some m1), Pv, .map (some m2)] 85 (0, 0))
  in1 : S m1
  in2 : S m2
  apart : m1 ≠ m2
  done : MapIs w m1 n1 f
  late : MapIs w m2 n2 h
  rowP : OwnS w S 64 2 Pv s.P.length ys
  eachP : POf w S ys s.P
  doneOf : DoneOf w S f s.L
  lateOf : LateOf w S h s.P
  wf : s.Wf
  pos : 128 ≤ s.L.length
  most : s.L.length ≤ 4096
  there : There S w
/-- block b is the program's disk s -/
def DD (w : World) (S : Nat → Prop) (b : Nat) (s : St) : Prop := ∃ m1 m2 n1 n2 f h Pv ys, DDx w S b s m1 m2 n1 n2 f h Pv ys ∧ n1 + s.P.length ≤ s.N ∧ n2 ≤ s.P.length

section
variable {w w' : World} {S S' : Nat → Prop} {b : Nat} {s : St} {L : List (List UInt8)} {P : List (Nat × List UInt8)} {Lv Pv v : Value} {xs ys : List Value} {l : List UInt8} {f h : Int → Option Value} {m1 m2 n1 n2 : Nat}
theorem own_same {base : Nat} {e : TypeId} {size n : Nat} {v : Value} {zs : List Value} (h : w.ownsRow base e size v n zs) (hk : ∀ g, v.ownBlock = some g → w'.heap[g]? = w.heap[g]?) : w'.ownsRow base e size v n zs := by
  refine ⟨h.1, ?_⟩
  rcases h.2 with hn | ⟨g, cap, cur, rfl, hb, hgg, rest⟩
  · exact .inl hn
  · exact .inr ⟨g, cap, cur, rfl, hb, by rw [hk g rfl]; exact hgg, rest⟩
theorem own_base {base base' : Nat} {e : TypeId} {size n : Nat} {v : Value} {zs : List Value} (h : w.ownsRow base e size v n zs) (hb : ∀ g, v.ownBlock = some g → base' ≤ g) : w.ownsRow base' e size v n zs := by
  refine ⟨h.1, ?_⟩
  rcases h.2 with hn | ⟨g, cap, cur, rfl, _, r⟩
  · exact .inl hn
  · exact .inr ⟨g, cap, cur, rfl, hb g rfl, r⟩
theorem own_ge {base : Nat} {e : TypeId} {size n : Nat} {v : Value} {zs : List Value} (h : w.ownsRow base e size v n zs) : ∀ g, v.ownBlock = some g → base ≤ g := by
  intro g hg
  rcases h.2 with ⟨rfl, _⟩ | ⟨g', cap, cur, rfl, hb, r⟩
  · cases hg
  · simp [Value.ownBlock] at hg
    omega
theorem own_lt {base : Nat} {e : TypeId} {size n : Nat} {v : Value} {zs : List Value} (h : w.ownsRow base e size v n zs) : ∀ g, v.ownBlock = some g → g < w.heap.size := by
  intro g hg
  rcases h.2 with ⟨rfl, _⟩ | ⟨g', cap, cur, rfl, hb, hgg, r⟩
  · cases hg
  · simp [Value.ownBlock] at hg
    subst hg
    exact row_lt hgg
/-- rows of other elements lie in other blocks -/
theorem own_ne {base g : Nat} {e t : TypeId} {size n : Nat} {v : Value} {zs : List Value} {cs : Array Value} {fz : Nat × Nat} (h : w.ownsRow base e size v n zs) (hg : w.heap[g]? = some (.cells cs t fz)) (hne : e ≠ t) : v.ownBlock ≠ some g := by
  rcases h.2 with ⟨rfl, _⟩ | ⟨g', cap, cur, rfl, _, hh, _⟩
  · simp [Value.ownBlock]
  · intro he
    have : g' = g := by simpa [Value.ownBlock] using he
    subst this
    rw [hh] at hg
    injection hg with hg
    injection hg with _ ht
    exact hne ht
theorem OwnS.keep {e : TypeId} {size n : Nat} {zs : List Value} (h : OwnS w S e size v n zs) (hk : ∀ k, S k → w'.heap[k]? = w.heap[k]?) : OwnS w' S e size v n zs :=
  ⟨own_same h.1 fun g hg => hk g (h.2 g hg), h.2⟩
theorem OwnS.more {e : TypeId} {size n : Nat} {zs : List Value} (h : OwnS w S e size v n zs) (hs : ∀ k, S k → S' k) : OwnS w S' e size v n zs := ⟨h.1, fun g hg => hs g (h.2 g hg)⟩
theorem IsBlk.keep (h : IsBlk w S v l) (hk : ∀ k o, S k → w.heap[k]? = some (.cells o 5 (0, 0)) → w'.heap[k]? = w.heap[k]?) : IsBlk w' S v l := by
  obtain ⟨g, c, rest, h1, h2, h3, h4, h5⟩ := h
  exact ⟨g, c, rest, h1, h2, h3, h4, (hk g _ h2 h5).trans h5⟩
theorem IsBlk.more (h : IsBlk w S v l) (hs : ∀ k, S k → S' k) : IsBlk w S' v l := by
  obtain ⟨g, c, rest, h1, h2, h3⟩ := h
  exact ⟨g, c, rest, h1, hs g h2, h3⟩
theorem IsBlk.len (h : IsBlk w S v l) : l.length = 256 := by
  obtain ⟨g, c, rest, h1, h2, h3, h4, h5⟩ := h
  exact h3
theorem LOf.keep (h : LOf w S xs L) (hk : ∀ k o, S k → w.heap[k]? = some (.cells o 5 (0, 0)) → w'.heap[k]? = w.heap[k]?) : LOf w' S xs L :=
  ⟨h.1, fun i hi => by obtain ⟨v, h1, h2⟩ := h.2 i hi; exact ⟨v, h1, h2.keep hk⟩⟩
theorem POf.keep (h : POf w S ys P) (hk : ∀ k o, S k → w.heap[k]? = some (.cells o 5 (0, 0)) → w'.heap[k]? = w.heap[k]?) : POf w' S ys P :=
  ⟨h.1, fun i hi => by obtain ⟨v, h1, h2, h3⟩ := h.2 i hi; exact ⟨v, h1, h2, h3.keep hk⟩⟩
theorem LOf.more (h : LOf w S xs L) (hs : ∀ k, S k → S' k) : LOf w S' xs L :=
  ⟨h.1, fun i hi => by obtain ⟨v, h1, h2⟩ := h.2 i hi; exact ⟨v, h1, h2.more hs⟩⟩
theorem POf.more (h : POf w S ys P) (hs : ∀ k, S k → S' k) : POf w S' ys P :=
  ⟨h.1, fun i hi => by obtain ⟨v, h1, h2, h3⟩ := h.2 i hi; exact ⟨v, h1, h2, h3.more hs⟩⟩
theorem DoneOf.keep (h : DoneOf w S f L) (hk : ∀ k o, S k → w.heap[k]? = some (.cells o 5 (0, 0)) → w'.heap[k]? = w.heap[k]?) : DoneOf w' S f L :=
  ⟨fun k v hv => by obtain ⟨n, hn, h1, h2⟩ := h.1 k v hv; exact ⟨n, hn, h1, h2.keep hk⟩, h.2⟩
theorem DoneOf.more (h : DoneOf w S f L) (hs : ∀ k, S k → S' k) : DoneOf w S' f L :=
  ⟨fun k v hv => by obtain ⟨n, hn, h1, h2⟩ := h.1 k v hv; exact ⟨n, hn, h1, h2.more hs⟩, h.2⟩
theorem LateOf.keep (h : LateOf w S f P) (hk : ∀ k o, S k → w.heap[k]? = some (.cells o 5 (0, 0)) → w'.heap[k]? = w.heap[k]?) : LateOf w' S f P :=
  ⟨fun k v hv => by obtain ⟨n, l, h1, h2, h3⟩ := h.1 k v hv; exact ⟨n, l, h1, h2, h3.keep hk⟩, h.2⟩
theorem LateOf.more (h : LateOf w S f P) (hs : ∀ k, S k → S' k) : LateOf w S' f P :=
  ⟨fun k v hv => by obtain ⟨n, l, h1, h2, h3⟩ := h.1 k v hv; exact ⟨n, l, h1, h2, h3.more hs⟩, h.2⟩
theorem all_keep (hk : ∀ k, S k → w'.heap[k]? = w.heap[k]?) : ∀ k o, S k → w.heap[k]? = some (.cells o 5 (0, 0)) → w'.heap[k]? = w.heap[k]? := fun k _ hs _ => hk k hs

theorem DDx.keep (hd : DDx w S b s m1 m2 n1 n2 f h Pv ys) (hk : ∀ k, S k → w'.heap[k]? = w.heap[k]?) (hs : w.heap.size ≤ w'.heap.size) : DDx w' S b s m1 m2 n1 n2 f h Pv ys :=
  ⟨hd.here, (hk b hd.here).trans hd.block, hd.in1, hd.in2, hd.apart, hd.done.keep (hk _ hd.in1), hd.late.keep (hk _ hd.in2), hd.rowP.keep hk, hd.eachP.keep (all_keep hk), hd.doneOf.keep (all_keep hk), hd.lateOf.keep (all_keep hk), hd.wf, hd.pos, hd.most, hd.there.up hs⟩
theorem DD.keep (h : DD w S b s) (hk : ∀ k, S k → w'.heap[k]? = w.heap[k]?) (hs : w.heap.size ≤ w'.heap.size) : DD w' S b s := by
  obtain ⟨m1, m2, n1, n2, f, g, Pv, ys, h, h1⟩ := h
  exact ⟨m1, m2, n1, n2, f, g, Pv, ys, h.keep hk hs, h1⟩
theorem DD.there (h : DD w S b s) : There S w := by
  obtain ⟨m1, m2, n1, n2, f, g, Pv, ys, h, h1⟩ := h
  exact h.there
theorem DD.here (h : DD w S b s) : S b := by
  obtain ⟨m1, m2, n1, n2, f, g, Pv, ys, h, h1⟩ := h
  exact h.here
theorem DD.wf (h : DD w S b s) : s.Wf := by
  obtain ⟨m1, m2, n1, n2, f, g, Pv, ys, h, h1⟩ := h
  exact h.wf
theorem DD.len (h : DD w S b s) : 128 ≤ s.L.length ∧ s.L.length ≤ 4096 := by
  obtain ⟨m1, m2, n1, n2, f, g, Pv, ys, h, h1⟩ := h
  exact ⟨h.pos, h.most⟩
theorem DD.count (h : DD w S b s) : s.P.length ≤ s.N := by
  obtain ⟨m1, m2, n1, n2, f, g, Pv, ys, h, h1, h2⟩ := h
  omega
theorem DD.below (h : DD w S b s) (hb : Below w.heap.size w w') : DD w' S b s := h.keep (fun k hk => hb.block k (h.there k hk)) hb.size
theorem DD.ext (h : DD w S b s) (he : Ext S' w w') (hf : Far S' S) : DD w' S b s := h.keep (he.keeps hf h.there) he.size
theorem DD.drewN (h : DD w S b s) (n : Nat) : DD (w.drewN n) S b s := h.keep (fun _ _ => rfl) (Nat.le_refl _)
theorem DD.lt (h : DD w S b s) : b < w.heap.size := h.there b h.here

theorem DDx.c0 (hd : DDx w S b s m1 m2 n1 n2 f h Pv ys) : w.cell? ⟨b, 0, none⟩ = some (.int .i64 s.L.length) := by rw [row_cell hd.block]; rfl
theorem DDx.c1 (hd : DDx w S b s m1 m2 n1 n2 f h Pv ys) : w.cell? ⟨b, 1, none⟩ = some (.int .i64 s.N) := by rw [row_cell hd.block]; rfl
theorem DDx.c2 (hd : DDx w S b s m1 m2 n1 n2 f h Pv ys) : w.cell? ⟨b, 2, none⟩ = some (.map (some m1)) := by rw [row_cell hd.block]; rfl
theorem DDx.c3 (hd : DDx w S b s m1 m2 n1 n2 f h Pv ys) : w.cell? ⟨b, 3, none⟩ = some Pv := by rw [row_cell hd.block]; rfl
theorem DDx.c4 (hd : DDx w S b s m1 m2 n1 n2 f h Pv ys) : w.cell? ⟨b, 4, none⟩ = some (.map (some m2)) := by rw [row_cell hd.block]; rfl
theorem DD.c0 (h : DD w S b s) : w.cell? ⟨b, 0, none⟩ = some (.int .i64 s.L.length) := by
  obtain ⟨m1, m2, n1, n2, f, g, Pv, ys, h, h1⟩ := h
  exact h.c0
theorem DD.c1 (h : DD w S b s) : w.cell? ⟨b, 1, none⟩ = some (.int .i64 s.N) := by
  obtain ⟨m1, m2, n1, n2, f, g, Pv, ys, h, h1⟩ := h
  exact h.c1

/-- a row of one-cell elements: as a slice value, each element's cell -/
theorem own_cell1 {e : TypeId} {n : Nat} {zs : List Value} (h : OwnS w S e 1 v n zs) : ∃ A cap, v = .slice A n cap ∧ n ≤ cap ∧ ∀ (i : Nat) (u : Value), zs[i]? = some u → ∃ g, A = some ⟨g, 0, none⟩ ∧ S g ∧ w.cell? ⟨g, i, none⟩ = some u := by
  obtain ⟨⟨hl, h1 | ⟨g, cap, cur, rfl, hb, hgg, hnc, hm, hcs, ht⟩⟩, h2⟩ := h
  · obtain ⟨rfl, rfl⟩ := h1
    have : zs = [] := List.eq_nil_of_length_eq_zero (by simpa using hl)
    subst this
    exact ⟨none, 0, rfl, Nat.le_refl _, fun i u hu => by simp at hu⟩
  · refine ⟨_, cap, rfl, hnc, fun i u hu => ⟨g, rfl, h2 g rfl, ?_⟩⟩
    rw [row_cell hgg]
    rw [← ht, List.getElem?_take] at hu
    split at hu
    · simpa using hu
    · cases hu
/-- .. of elements of two cells -/
theorem own_cell2 {e : TypeId} {n : Nat} {zs : List Value} (h : OwnS w S e 2 v n zs) : ∃ A cap, v = .slice A n cap ∧ n ≤ cap ∧ ∀ (i : Nat) (u : Value), zs[i]? = some u → ∃ g, A = some ⟨g, 0, none⟩ ∧ S g ∧ w.cell? ⟨g, i, none⟩ = some u := by
  obtain ⟨⟨hl, h1 | ⟨g, cap, cur, rfl, hb, hgg, hnc, hm, hcs, ht⟩⟩, h2⟩ := h
  · obtain ⟨rfl, rfl⟩ := h1
    have : zs = [] := List.eq_nil_of_length_eq_zero (by simpa using hl)
    subst this
    exact ⟨none, 0, rfl, Nat.le_refl _, fun i u hu => by simp at hu⟩
  · refine ⟨_, cap, rfl, hnc, fun i u hu => ⟨g, rfl, h2 g rfl, ?_⟩⟩
    rw [row_cell hgg]
    rw [← ht, List.getElem?_take] at hu
    split at hu
    · simpa using hu
    · cases hu
/-- element i of the writes -/
theorem P_at {ys : List Value} {P : List (Nat × List UInt8)} (h : OwnS w S 64 2 v P.length ys) (hp : POf w S ys P) : ∃ A cap, v = .slice A P.length cap ∧ P.length ≤ cap ∧
    ∀ (i : Nat) (hi : i < P.length), ∃ g u, A = some ⟨g, 0, none⟩ ∧ S g ∧ w.cell? ⟨g, i * 2, none⟩ = some (.int .i64 (P[i].1 : Int)) ∧ w.cell? ⟨g, i * 2 + 1, none⟩ = some u ∧ IsBlk w S u P[i].2 := by
  obtain ⟨A, cap, hv, hc, hall⟩ := own_cell2 h
  refine ⟨A, cap, hv, hc, fun i hi => ?_⟩
  obtain ⟨u, h1, h2, h3⟩ := hp.2 i hi
  obtain ⟨g, hA, hg, hc1⟩ := hall _ _ h1
  obtain ⟨g', hA', _, hc2⟩ := hall _ _ h2
  rw [hA] at hA'
  injection hA' with hA'
  injection hA' with hA'
  subst hA'
  exact ⟨g, u, hA, hg, hc1, hc2, h3⟩
end
end Go.Proofs.Ytphfidenjihgeaa.DMem
