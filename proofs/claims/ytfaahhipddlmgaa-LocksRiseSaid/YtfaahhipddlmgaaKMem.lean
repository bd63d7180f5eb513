/- The program's table of locks in memory; how it lasts while other blocks turn. -/
import Derived.Test.YtfaahhipddlmgaaProg
import Derived.Test.YtfaahhipddlmgaaWMem
import Derived.Test.YtfaahhipddlmgaaExt
import Derived.Test.YtfaahhipddlmgaaKMap
import Derived.Test.YtfaahhipddlmgaaKPlain
import Derived.KernelRfl
namespace Go.Proofs.Ytfaahhipddlmgaa.KMem
open Go.RowKit WMem Ext KMap KPlain

/-- a claim as the two cells that it takes in a row -/
def clv (c : Cl) : List Value := [.int .i64 c.1, .bool c.2]
def cells (l : List Cl) : List Value := l.flatMap clv
theorem cells_len (l : List Cl) : (cells l).length = l.length * 2 := by
  induction l with
  | nil => rfl
  | cons c r ih => simp only [cells, List.flatMap_cons, List.length_append, List.length_cons] at ih ⊢; rw [ih]; simp [clv]; omega
theorem cells_cons (c : Cl) (r : List Cl) : cells (c :: r) = .int .i64 c.1 :: .bool c.2 :: cells r := rfl
theorem cells_append (l r : List Cl) : cells (l ++ r) = cells l ++ cells r := by simp [cells]
theorem cells_one (c : Cl) : cells [c] = [.int .i64 c.1, .bool c.2] := rfl
theorem cells_take : ∀ (l : List Cl) (i : Nat), (cells l).take (i * 2) = cells (l.take i)
  | [], i => by simp [cells]
  | c :: r, 0 => by simp [cells]
  | c :: r, i + 1 => by
    rw [show (i + 1) * 2 = i * 2 + 1 + 1 by omega, cells_cons, List.take_succ_cons, List.take_succ_cons, cells_take r i, List.take_succ_cons, cells_cons]
theorem cells_drop : ∀ (l : List Cl) (i : Nat), (cells l).drop (i * 2) = cells (l.drop i)
  | [], i => by simp [cells]
  | c :: r, 0 => by simp
  | c :: r, i + 1 => by
    rw [show (i + 1) * 2 = i * 2 + 1 + 1 by omega, cells_cons, List.drop_succ_cons, List.drop_succ_cons, cells_drop r i, List.drop_succ_cons]
theorem cells_get : ∀ (l : List Cl) (i : Nat), i < l.length → (cells l)[i * 2]? = some (.int .i64 (at_ l i).1) ∧ (cells l)[i * 2 + 1]? = some (.bool (at_ l i).2)
  | [], i, h => by cases h
  | c :: r, 0, _ => ⟨rfl, rfl⟩
  | c :: r, i + 1, h => by
    have h1 := cells_get r i (by simpa using h)
    rw [show (i + 1) * 2 = i * 2 + 1 + 1 by omega, show i * 2 + 1 + 1 + 1 = (i * 2 + 1) + 1 + 1 by omega, cells_cons]
    simpa [at_] using h1
theorem cells_flat (l : List Cl) : ∀ u ∈ cells l, u.oneCell' = true := by
  intro u hu
  obtain ⟨c, _, h⟩ := List.mem_flatMap.1 hu
  rcases List.mem_cons.1 h with rfl | h
  · rfl
  · rcases List.mem_cons.1 h with rfl | h
    · rfl
    · cases h

/-- a slice of its own in S -/
def OwnS (w : World) (S : Nat → Prop) (e : TypeId) (size : Nat) (v : Value) (n : Nat) (xs : List Value) : Prop := w.ownsRow 0 e size v n xs ∧ ∀ g, v.ownBlock = some g → S g

section
variable {w w' : World} {S S' : Nat → Prop} {v : Value}
theorem own_same {base : Nat} {e : TypeId} {size n : Nat} {v : Value} {zs : List Value} (h : w.ownsRow base e size v n zs) (hk : ∀ g, v.ownBlock = some g → w'.heap[g]? = w.heap[g]?) : w'.ownsRow base e size v n zs := by
  refine ⟨h.1, ?_⟩
  rcases h.2 with hn | ⟨g, cap, cur, rfl, hb, hgg, rest⟩
  · exact .inl hn
  · exact .inr ⟨g, cap, cur, rfl, hb, by rw [hk g rfl]; exact hgg, rest⟩
theorem own_base {base base' : Nat} {e : TypeId} {size n : Nat} {v : Value} {zs : List Value} (h : w.ownsRow base e size v n zs) (hb : ∀ g, v.ownBlock = some g → base' ≤ g) : w.ownsRow base' e size v n zs := by
  refine ⟨h.1, ?_⟩
  rcases h.2 with hn | ⟨g, cap, cur, rfl, _, r⟩
  · exact .inl hn
  · exact .inr ⟨g, cap, cur, rfl, hb g rfl, r⟩
theorem own_ge {base : Nat} {e : TypeId} {size n : Nat} {v : Value} {zs : List Value} (h : w.ownsRow base e size v n zs) : ∀ g, v.ownBlock = some g → base ≤ g := by
  intro g hg
  rcases h.2 with ⟨rfl, _⟩ | ⟨g', cap, cur, rfl, hb, r⟩
  · cases hg
  · simp [Value.ownBlock] at hg
    omega
theorem own_lt {base : Nat} {e : TypeId} {size n : Nat} {v : Value} {zs : List Value} (h : w.ownsRow base e size v n zs) : ∀ g, v.ownBlock = some g → g < w.heap.size := by
  intro g hg
  rcases h.2 with ⟨rfl, _⟩ | ⟨g', cap, cur, rfl, hb, hgg, r⟩
  · cases hg
  · simp [Value.ownBlock] at hg
    subst hg
    exact row_lt hgg
/-- rows of other elements lie in other blocks -/
theorem own_ne {base g : Nat} {e t : TypeId} {size n : Nat} {v : Value} {zs : List Value} {cs : Array Value} {fz : Nat × Nat} (h : w.ownsRow base e size v n zs) (hg : w.heap[g]? = some (.cells cs t fz)) (hne : e ≠ t) : v.ownBlock ≠ some g := by
  rcases h.2 with ⟨rfl, _⟩ | ⟨g', cap, cur, rfl, _, hh, _⟩
  · simp [Value.ownBlock]
  · intro he
    have : g' = g := by simpa [Value.ownBlock] using he
    subst this
    rw [hh] at hg
    injection hg with hg
    injection hg with _ ht
    exact hne ht
theorem OwnS.keep {e : TypeId} {size n : Nat} {zs : List Value} (h : OwnS w S e size v n zs) (hk : ∀ k, S k → w'.heap[k]? = w.heap[k]?) : OwnS w' S e size v n zs :=
  ⟨own_same h.1 fun g hg => hk g (h.2 g hg), h.2⟩
theorem OwnS.more {e : TypeId} {size n : Nat} {zs : List Value} (h : OwnS w S e size v n zs) (hs : ∀ k, S k → S' k) : OwnS w S' e size v n zs := ⟨h.1, fun g hg => hs g (h.2 g hg)⟩
end

/-- what the map holds at a key whose row is l: nothing where there are no claims, else a row of its own -/
def RowIs (w : World) (S : Nat → Prop) (o : Option Value) (l : List Cl) : Prop :=
  match o with
  | none => l = []
  | some v => l ≠ [] ∧ OwnS w S 63 2 v l.length (cells l)

structure Tabx (w : World) (S : Nat → Prop) (b : Nat) (R : Rw) (n m mb : Nat) (f : Int → Option Value) : Prop where
  here : S b
  block : w.heap[b]? = some (.cells #[.map (some mb)] 58 (0, 0))
  inm : S mb
  map : KMap.MapIs w mb m f
  rows : ∀ k, Fits k → RowIs w S (f k) (R k)
  apart : ∀ j k, Fits j → Fits k → j ≠ k → ∀ u v, f j = some u → f k = some v → u.ownBlock ≠ v.ownBlock
  there : There S w
  most : m ≤ n
  long : ∀ k, Fits k → (R k).length ≤ n
/-- block b is the program's table with the rows R; S: the blocks that are its own; n: a bound on how many claims there have been -/
def Tab (w : World) (S : Nat → Prop) (b : Nat) (R : Rw) (n : Nat) : Prop := ∃ m mb f, Tabx w S b R n m mb f

section
variable {w w' : World} {S S' : Nat → Prop} {b n m mb : Nat} {R R' : Rw} {f : Int → Option Value} {l : List Cl} {o : Option Value}
theorem RowIs.keep (h : RowIs w S o l) (hk : ∀ k, S k → w'.heap[k]? = w.heap[k]?) : RowIs w' S o l := by
  cases o with
  | none => exact h
  | some v => exact ⟨h.1, h.2.keep hk⟩
theorem RowIs.more (h : RowIs w S o l) (hs : ∀ k, S k → S' k) : RowIs w S' o l := by
  cases o with
  | none => exact h
  | some v => exact ⟨h.1, h.2.more hs⟩
theorem Tabx.keep (h : Tabx w S b R n m mb f) (hk : ∀ k, S k → w'.heap[k]? = w.heap[k]?) (hs : w.heap.size ≤ w'.heap.size) : Tabx w' S b R n m mb f :=
  ⟨h.here, (hk b h.here).trans h.block, h.inm, h.map.keep (hk _ h.inm), fun k hf => (h.rows k hf).keep hk, h.apart, h.there.up hs, h.most, h.long⟩
theorem Tab.keep (h : Tab w S b R n) (hk : ∀ k, S k → w'.heap[k]? = w.heap[k]?) (hs : w.heap.size ≤ w'.heap.size) : Tab w' S b R n := by
  obtain ⟨m, mb, f, h⟩ := h
  exact ⟨m, mb, f, h.keep hk hs⟩
theorem Tab.there (h : Tab w S b R n) : There S w := by
  obtain ⟨m, mb, f, h⟩ := h
  exact h.there
theorem Tab.here (h : Tab w S b R n) : S b := by
  obtain ⟨m, mb, f, h⟩ := h
  exact h.here
theorem Tab.lt (h : Tab w S b R n) : b < w.heap.size := h.there b h.here
theorem Tab.below (h : Tab w S b R n) (hb : Below w.heap.size w w') : Tab w' S b R n := h.keep (fun k hk => hb.block k (h.there k hk)) hb.size
theorem Tab.ext (h : Tab w S b R n) (he : Ext S' w w') (hf : Far S' S) : Tab w' S b R n := h.keep (he.keeps hf h.there) he.size
theorem Tabx.mono (h : Tabx w S b R n m mb f) {n' : Nat} (hn : n ≤ n') : Tabx w S b R n' m mb f :=
  ⟨h.here, h.block, h.inm, h.map, h.rows, h.apart, h.there, Nat.le_trans h.most hn, fun k hf => Nat.le_trans (h.long k hf) hn⟩
theorem Tab.mono (h : Tab w S b R n) {n' : Nat} (hn : n ≤ n') : Tab w S b R n' := by
  obtain ⟨m, mb, f, h⟩ := h
  exact ⟨m, mb, f, h.mono hn⟩
theorem Tab.same (h : Tab w S b R n) (hR : ∀ k, Fits k → R' k = R k) : Tab w S b R' n := by
  obtain ⟨m, mb, f, h⟩ := h
  exact ⟨m, mb, f, h.here, h.block, h.inm, h.map, fun k hf => by rw [hR k hf]; exact h.rows k hf, h.apart, h.there, h.most, fun k hf => by rw [hR k hf]; exact h.long k hf⟩
end
end Go.Proofs.Ytfaahhipddlmgaa.KMem
