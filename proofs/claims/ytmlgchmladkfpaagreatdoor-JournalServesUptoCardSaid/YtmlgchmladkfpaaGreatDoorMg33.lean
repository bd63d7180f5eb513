/- The program's journal in memory: its own block, its two maps, the things that are left, in blocks that are never written again. -/
import Derived.Test.YtmlgchmladkfpaaGreatDoorMg20
import Derived.Test.YtmlgchmladkfpaaGreatDoorMg32
import Derived.BigQuiet
import Derived.StillTailTactics
import Derived.Maps.RangeWalk
import Derived.Test.YtmlgchmladkfpaaGreatDoorMg17
import Derived.Test.YtmlgchmladkfpaaGreatDoorMg41
import Derived.Deep.RegionHeld3
namespace Go.Proofs.YtmlgchmladkfpaaGreatDoor.NMem
open Go.RowKit WMem WPlain Ext Map DPlain DMem EPlain EMem EFace JPlain NPlain

/-- a box in a block of K -/
def KBox (w : World) (K : Nat → Prop) (B : Nat) (v : Value) : Prop := K B ∧ w.cell? ⟨B, 0, none⟩ = some v
def ComeIs (w : World) (K : Nat → Prop) (jb : Nat) (v : Value) : Come → Prop
  | .empty => v = .func (.func 114) #[.pointer (some ⟨jb, 0, none⟩)] #[]
  | .fin => v = .func (.func 86) #[.pointer (some ⟨jb, 0, none⟩)] #[]
  | .part => v = .func (.func 85) #[.pointer (some ⟨jb, 0, none⟩)] #[]
  | .laid k bs => ∃ Bj Bb Bw A c A' c', v = .func (.func 117) #[] #[.pointer (some ⟨Bj, 0, none⟩), .pointer (some ⟨Bb, 0, none⟩), .pointer (some ⟨Bw, 0, none⟩)] ∧
      KBox w K Bj (.pointer (some ⟨jb, 0, none⟩)) ∧ KBox w K Bb (.slice A k c) ∧ KBox w K Bw (.slice A' bs.length c') ∧
      ∀ (i : Nat) (h : i < bs.length), ∃ a Au mu cu, A' = some a ∧ K a.block ∧ w.cell? (a.add (i * 2)) = some (.int .i64 (bs[i] : Int)) ∧ w.cell? (a.add (i * 2 + 1)) = some (.slice Au mu cu)
/-- a row of values in blocks of K -/
def KRow (w : World) (K : Nat → Prop) (A : Option Addr) (vs : List Value) : Prop := ∀ (i : Nat) v, vs[i]? = some v → ∃ a, A = some a ∧ K a.block ∧ w.cell? (a.add i) = some v
def ThingIs (w : World) (K : Nat → Prop) (jb : Nat) (v : Value) : Thing → Prop
  | .home n => ∃ Bj Bn, v = .func (.func 140) #[] #[.pointer (some ⟨Bj, 0, none⟩), .pointer (some ⟨Bn, 0, none⟩)] ∧ KBox w K Bj (.pointer (some ⟨jb, 0, none⟩)) ∧ KBox w K Bn (.int .i64 (n : Int))
  | .put p l => ∃ Bj Bp Bb u, v = .func (.func 151) #[] #[.pointer (some ⟨Bj, 0, none⟩), .pointer (some ⟨Bp, 0, none⟩), .pointer (some ⟨Bb, 0, none⟩)] ∧
      KBox w K Bj (.pointer (some ⟨jb, 0, none⟩)) ∧ KBox w K Bp (.int .i64 (p : Int)) ∧ KBox w K Bb u ∧ IsBlk w K u l
  | .flush cs => ∃ Bj Bc A c vs, v = .func (.func 142) #[] #[.pointer (some ⟨Bj, 0, none⟩), .pointer (some ⟨Bc, 0, none⟩)] ∧
      KBox w K Bj (.pointer (some ⟨jb, 0, none⟩)) ∧ KBox w K Bc (.slice A cs.length c) ∧ KRow w K A vs ∧ vs.length = cs.length ∧ ∀ (i : Nat) (h : i < cs.length), ∃ v, vs[i]? = some v ∧ ComeIs w K jb v cs[i]
  | .head => v = .func (.func 113) #[.pointer (some ⟨jb, 0, none⟩)] #[]
/-- things as values -/
def AreThings (w : World) (K : Nat → Prop) (jb : Nat) (vs : List Value) (l : List Thing) : Prop := vs.length = l.length ∧ ∀ (i : Nat) (h : i < l.length), ∃ v, vs[i]? = some v ∧ ThingIs w K jb v l[i]
def Things (w : World) (K : Nat → Prop) (jb : Nat) (A : Option Addr) (l : List Thing) : Prop := ∃ vs, KRow w K A vs ∧ AreThings w K jb vs l
def MapL (w : World) (b N : Nat) (h : Nat → Bool) : Prop :=
  ∃ g, MapIs w b N g ∧ (∀ k v, g k = some v → v = .agg #[] ∧ ∃ n : Nat, k = (n : Int) ∧ n < N ∧ h n = true) ∧ ∀ n : Nat, g (n : Int) = none → h n = false
def MapC (w : World) (b M : Nat) (f : Nat → Option Nat) : Prop :=
  ∃ g, MapIs w b M g ∧ (∀ k v, g k = some v → ∃ n c : Nat, k = (n : Int) ∧ 1 ≤ n ∧ n ≤ M ∧ f n = some c ∧ v = .int .i64 (c : Int)) ∧ ∀ n : Nat, g (n : Int) = none → f n = none
/-- all that is the journal's own -/
def Jown (K : Nat → Prop) (jb ml mc : Nat) : Nat → Prop := fun q => q = jb ∨ q = ml ∨ q = mc ∨ K q
def JAll (ρ : Ro) (D K : Nat → Prop) (jb ml mc : Nat) : Nat → Prop := fun q => All ρ D q ∨ Jown K jb ml mc q
def jcells (_jb b db : Nat) (ml mc : Nat) (j : Jr) (v : Value) : Array Value := #[.pointer (some ⟨b, 0, none⟩), .pointer (some ⟨db, 0, none⟩), .int .i64 (j.ring : Int), .int .i64 (j.seq : Int), .int .i64 (j.tail : Int), .int .i64 (j.used : Int), .map (some ml), .map (some mc), .int .i64 (j.handles : Int), .int .i64 (j.commits : Int), .bool j.wanted, .bool j.clean, v]
/-- the journal in memory, without what is left -/
structure JX (w : World) (K : Nat → Prop) (jb ml mc b db N : Nat) (j : Jr) (v : Value) : Prop where
  block : w.heap[jb]? = some (.cells (jcells jb b db ml mc j v) 105 (0, 0))
  live : MapL w ml N j.live
  cred : MapC w mc j.handles j.cred
  nk : ¬ K jb ∧ ¬ K ml ∧ ¬ K mc
  ne : ml ≠ mc
  there : There K w
/-- block jb is the journal j over the store s -/
structure JO (w : World) (ρ : Ro) (D K : Nat → Prop) (jb ml mc b db : Nat) (j : Jr) (s : Sto) : Prop where
  own : EFace.Own w ρ D b db s
  jx : ∃ A c, JX w K jb ml mc b db s.N j (.slice A j.left.length c) ∧ Things w K jb A j.left ∧ j.left.length ≤ c
  far : Far (Jown K jb ml mc) (All ρ D)
/-- what a call leaves -/
structure JGo (w w' : World) (ρ : Ro) (D K : Nat → Prop) (ρ' : Ro) (D' K' : Nat → Prop) (jb ml mc b db : Nat) (j' : Jr) (s' : Sto) : Prop where
  own : JO w' ρ' D' K' jb ml mc b db j' s'
  ext : Ext (JAll ρ D K jb ml mc) w w'
  new : In (JAll ρ' D' K' jb ml mc) (JAll ρ D K jb ml mc) w
  same : ∀ q, K q → w'.heap[q]? = w.heap[q]?
  more : ∀ q, K q → K' q
section
variable {w w' w'' : World} {K K' : Nat → Prop} {ρ ρ' ρ'' : Ro} {D D' D'' K'' : Nat → Prop} {jb ml mc b db N B M : Nat} {j j' j'' : Jr} {s s' s'' : Sto} {v : Value} {A : Option Addr} {vs : List Value}
theorem KBox.keep (h : KBox w K B v) (hk : ∀ q, K q → w'.heap[q]? = w.heap[q]?) (hs : ∀ q, K q → K' q) : KBox w' K' B v := ⟨hs _ h.1, (World.cell?_of_block (hk _ h.1)).trans h.2⟩
theorem kcell {a : Addr} (hk : ∀ q, K q → w'.heap[q]? = w.heap[q]?) (ha : K a.block) (n : Nat) : w'.cell? (a.add n) = w.cell? (a.add n) := World.cell?_of_block (hk _ (by rw [addr_add_block]; exact ha))
theorem KRow.keep (h : KRow w K A vs) (hk : ∀ q, K q → w'.heap[q]? = w.heap[q]?) (hs : ∀ q, K q → K' q) : KRow w' K' A vs := fun i v hv => by
  obtain ⟨a, rfl, h1, h2⟩ := h i v hv
  exact ⟨a, rfl, hs _ h1, (kcell hk h1 i).trans h2⟩
theorem ComeIs.keep {c : Come} (h : ComeIs w K jb v c) (hk : ∀ q, K q → w'.heap[q]? = w.heap[q]?) (hs : ∀ q, K q → K' q) : ComeIs w' K' jb v c := by
  cases c with
  | empty => exact h
  | fin => exact h
  | part => exact h
  | laid k bs =>
    obtain ⟨Bj, Bb, Bw, A, c, A', c', h1, h2, h3, h4, h5⟩ := h
    refine ⟨Bj, Bb, Bw, A, c, A', c', h1, h2.keep hk hs, h3.keep hk hs, h4.keep hk hs, fun i hi => ?_⟩
    obtain ⟨a, Au, mu, cu, e, g1, g2, g3⟩ := h5 i hi
    exact ⟨a, Au, mu, cu, e, hs _ g1, (kcell hk g1 _).trans g2, (kcell hk g1 _).trans g3⟩
theorem ThingIs.keep {t : Thing} (h : ThingIs w K jb v t) (hk : ∀ q, K q → w'.heap[q]? = w.heap[q]?) (hs : ∀ q, K q → K' q) : ThingIs w' K' jb v t := by
  cases t with
  | home n =>
    obtain ⟨Bj, Bn, h1, h2, h3⟩ := h
    exact ⟨Bj, Bn, h1, h2.keep hk hs, h3.keep hk hs⟩
  | put p l =>
    obtain ⟨Bj, Bp, Bb, u, h1, h2, h3, h4, h5⟩ := h
    exact ⟨Bj, Bp, Bb, u, h1, h2.keep hk hs, h3.keep hk hs, h4.keep hk hs, (IsBlk.keep h5 fun k _ hk' _ => hk k hk').more hs⟩
  | flush cs =>
    obtain ⟨Bj, Bc, A, c, vs, h1, h2, h3, h4, h5, h6⟩ := h
    refine ⟨Bj, Bc, A, c, vs, h1, h2.keep hk hs, h3.keep hk hs, h4.keep hk hs, h5, fun i hi => ?_⟩
    obtain ⟨v, hv, hc⟩ := h6 i hi
    exact ⟨v, hv, hc.keep hk hs⟩
  | head => exact h
theorem AreThings.keep {l : List Thing} (h : AreThings w K jb vs l) (hk : ∀ q, K q → w'.heap[q]? = w.heap[q]?) (hs : ∀ q, K q → K' q) : AreThings w' K' jb vs l :=
  ⟨h.1, fun i hi => by obtain ⟨v, hv, ht⟩ := h.2 i hi; exact ⟨v, hv, ht.keep hk hs⟩⟩
theorem Things.keep {l : List Thing} (h : Things w K jb A l) (hk : ∀ q, K q → w'.heap[q]? = w.heap[q]?) (hs : ∀ q, K q → K' q) : Things w' K' jb A l := by
  obtain ⟨vs, h1, h2⟩ := h
  exact ⟨vs, h1.keep hk hs, h2.keep hk hs⟩
theorem MapL.keep {h : Nat → Bool} (hx : MapL w B N h) (hb : w'.heap[B]? = w.heap[B]?) : MapL w' B N h := by
  obtain ⟨g, h1, h2⟩ := hx
  exact ⟨g, h1.keep hb, h2⟩
theorem MapC.keep {f : Nat → Option Nat} (hx : MapC w B M f) (hb : w'.heap[B]? = w.heap[B]?) : MapC w' B M f := by
  obtain ⟨g, h1, h2⟩ := hx
  exact ⟨g, h1.keep hb, h2⟩
theorem MapL.lt {h : Nat → Bool} (hx : MapL w B N h) : B < w.heap.size := by
  obtain ⟨g, h1, h2⟩ := hx
  exact h1.lt
theorem MapC.lt {f : Nat → Option Nat} (hx : MapC w B M f) : B < w.heap.size := by
  obtain ⟨g, h1, h2⟩ := hx
  exact h1.lt
theorem JX.keep (h : JX w K jb ml mc b db N j v) (hk : ∀ q, Jown K jb ml mc q → w'.heap[q]? = w.heap[q]?) (hs : w.heap.size ≤ w'.heap.size) : JX w' K jb ml mc b db N j v :=
  ⟨(hk jb (.inl rfl)).trans h.block, h.live.keep (hk ml (.inr (.inl rfl))), h.cred.keep (hk mc (.inr (.inr (.inl rfl)))), h.nk, h.ne, h.there.up hs⟩
theorem JX.lt (h : JX w K jb ml mc b db N j v) : jb < w.heap.size := row_lt h.block
theorem JX.own_there (h : JX w K jb ml mc b db N j v) : There (Jown K jb ml mc) w := fun q hq => by
  rcases hq with rfl | rfl | rfl | hq
  · exact h.lt
  · exact h.live.lt
  · exact h.cred.lt
  · exact h.there q hq
theorem JX.ne1 (h : JX w K jb ml mc b db N j v) : jb ≠ ml ∧ jb ≠ mc := by
  obtain ⟨g, h1, _⟩ := h.live
  obtain ⟨g', h2, _⟩ := h.cred
  exact ⟨h1.ne h.block, h2.ne h.block⟩
theorem JO.jthere (h : JO w ρ D K jb ml mc b db j s) : There (Jown K jb ml mc) w := by
  obtain ⟨A, c, hx, _⟩ := h.jx
  exact hx.own_there
theorem JO.there (h : JO w ρ D K jb ml mc b db j s) : There (JAll ρ D K jb ml mc) w := fun q hq => by
  rcases hq with hq | hq
  · exact h.own.there q hq
  · exact h.jthere q hq
theorem JO.keep (h : JO w ρ D K jb ml mc b db j s) (hk : ∀ q, JAll ρ D K jb ml mc q → w'.heap[q]? = w.heap[q]?) (hs : w.heap.size ≤ w'.heap.size) : JO w' ρ D K jb ml mc b db j s := by
  obtain ⟨A, c, hx, ht, hc⟩ := h.jx
  exact ⟨h.own.keep (fun q hq => hk q (.inl hq)) hs, ⟨A, c, hx.keep (fun q hq => hk q (.inr hq)) hs, ht.keep (fun q hq => hk q (.inr (.inr (.inr (.inr hq))))) (fun _ h => h), hc⟩, h.far⟩
theorem JO.below (h : JO w ρ D K jb ml mc b db j s) (hb : Below w.heap.size w w') : JO w' ρ D K jb ml mc b db j s := h.keep (fun q hq => hb.block q (h.there q hq)) hb.size
theorem JO.drewN (h : JO w ρ D K jb ml mc b db j s) (n : Nat) : JO (w.drewN n) ρ D K jb ml mc b db j s := h.keep (fun _ _ => rfl) (Nat.le_refl _)
theorem JGo.refl (h : JO w ρ D K jb ml mc b db j s) : JGo w w ρ D K ρ D K jb ml mc b db j s := ⟨h, Ext.refl _ _, In.refl _ _, fun _ _ => rfl, fun _ h => h⟩
theorem JGo.trans (h : JGo w w' ρ D K ρ' D' K' jb ml mc b db j' s') (h' : JGo w' w'' ρ' D' K' ρ'' D'' K'' jb ml mc b db j'' s'') : JGo w w'' ρ D K ρ'' D'' K'' jb ml mc b db j'' s'' :=
  ⟨h'.own, h.ext.trans h'.ext h.new, h.new.trans h'.new h.ext.size, fun q hq => (h'.same q (h.more q hq)).trans (h.same q hq), fun q hq => h'.more q (h.more q hq)⟩
theorem JGo.below (h : JGo w w' ρ D K ρ' D' K' jb ml mc b db j' s') (hb : Below w'.heap.size w' w'') : JGo w w'' ρ D K ρ' D' K' jb ml mc b db j' s' :=
  ⟨h.own.below hb, h.ext.trans (Ext.of_below hb _) (In.refl _ _), h.new, fun q hq => (hb.block q (h.own.jthere q (.inr (.inr (.inr (h.more q hq)))))).trans (h.same q hq), h.more⟩
theorem JGo.drewN (h : JGo w w' ρ D K ρ' D' K' jb ml mc b db j' s') (n : Nat) : JGo w (w'.drewN n) ρ D K ρ' D' K' jb ml mc b db j' s' := h.below (below_drewN (Below.refl _ _) n)
/-- the store has turned, and the journal has not -/
theorem JO.goes (h : JO w ρ D K jb ml mc b db j s) (g : Goes w w' ρ D ρ' D' b db s') (hN : s'.N = s.N) : JGo w w' ρ D K ρ' D' K jb ml mc b db j s' := by
  obtain ⟨A, c, hx, ht, hc⟩ := h.jx
  have hk : ∀ q, Jown K jb ml mc q → w'.heap[q]? = w.heap[q]? := fun q hq => g.ext.block q (h.jthere q hq) (h.far q hq)
  refine ⟨⟨g.own, ⟨A, c, by rw [hN]; exact hx.keep hk g.ext.size, ht.keep (fun q hq => hk q (.inr (.inr (.inr hq)))) (fun _ h => h), hc⟩, fun q h1 h2 => ?_⟩, g.ext.more (fun q _ hq => .inl hq), fun q hq => ?_, fun q hq => hk q (.inr (.inr (.inr hq))), fun _ h => h⟩
  · rcases g.new q h2 with h3 | h3
    · exact h.far q h1 h3
    · have := h.jthere q h1; omega
  · rcases hq with hq | hq
    · rcases g.new q hq with h3 | h3
      · exact .inl (.inl h3)
      · exact .inr h3
    · exact .inl (.inr hq)
/-- numbers of the journal have turned: its block is another one -/
theorem JX.turn {i : Nat} {u v' : Value} (h : JX w K jb ml mc b db N j v) (hb : (jcells jb b db ml mc j v).setIfInBounds i u = jcells jb b db ml mc j' v') (e1 : j'.live = j.live) (e2 : j'.cred = j.cred) (e3 : j'.handles = j.handles) : JX (w.setCell ⟨jb, i, none⟩ u) K jb ml mc b db N j' v' := by
  obtain ⟨n1, n2⟩ := h.ne1
  have hk : ∀ q, q ≠ jb → (w.setCell ⟨jb, i, none⟩ u).heap[q]? = w.heap[q]? := fun q hq => Below.heap_setCell w _ u q hq
  refine ⟨?_, by rw [e1]; exact h.live.keep (hk ml (Ne.symm n1)), by rw [e2, e3]; exact h.cred.keep (hk mc (Ne.symm n2)), h.nk, h.ne, h.there.up (by simp [World.setCell])⟩
  have := row_set h.block i u
  rw [hb] at this
  exact this
theorem JX.free (h : JX w K jb ml mc b db N j v) (i : Nat) : w.frozen? ⟨jb, i, none⟩ = false := row_free h.block i
theorem JX.cells (h : JX w K jb ml mc b db N j v) : w.cell? ⟨jb, 0, none⟩ = some (.pointer (some ⟨b, 0, none⟩)) ∧ w.cell? ⟨jb, 1, none⟩ = some (.pointer (some ⟨db, 0, none⟩)) ∧ w.cell? ⟨jb, 2, none⟩ = some (.int .i64 (j.ring : Int)) ∧ w.cell? ⟨jb, 3, none⟩ = some (.int .i64 (j.seq : Int)) ∧ w.cell? ⟨jb, 4, none⟩ = some (.int .i64 (j.tail : Int)) ∧ w.cell? ⟨jb, 5, none⟩ = some (.int .i64 (j.used : Int)) ∧
    w.cell? ⟨jb, 6, none⟩ = some (.map (some ml)) ∧ w.cell? ⟨jb, 7, none⟩ = some (.map (some mc)) ∧ w.cell? ⟨jb, 8, none⟩ = some (.int .i64 (j.handles : Int)) ∧ w.cell? ⟨jb, 9, none⟩ = some (.int .i64 (j.commits : Int)) ∧ w.cell? ⟨jb, 10, none⟩ = some (.bool j.wanted) ∧ w.cell? ⟨jb, 11, none⟩ = some (.bool j.clean) ∧ w.cell? ⟨jb, 12, none⟩ = some v := by
  refine ⟨?_, ?_, ?_, ?_, ?_, ?_, ?_, ?_, ?_, ?_, ?_, ?_, ?_⟩ <;> exact (row_cell h.block _).trans rfl
theorem JX.not_all (h : Far (Jown K jb ml mc) (All ρ D)) : ∀ q, All ρ D q → q ≠ jb ∧ q ≠ ml ∧ q ≠ mc := fun q hq => ⟨fun e => h q (.inl e) hq, fun e => h q (.inr (.inl e)) hq, fun e => h q (.inr (.inr (.inl e))) hq⟩
/-- only the journal's own three blocks have turned -/
theorem JO.turned {A : Option Addr} {c : Nat} {S : Nat → Prop} (h : JO w ρ D K jb ml mc b db j s) (he : Ext S w w') (hS : ∀ q, S q → q = jb ∨ q = ml ∨ q = mc) (hx : JX w' K jb ml mc b db s.N j' (.slice A j'.left.length c)) (ht : Things w' K jb A j'.left) (hc : j'.left.length ≤ c) : JGo w w' ρ D K ρ D K jb ml mc b db j' s := by
  have hSn : ∀ q, S q → Jown K jb ml mc q := fun q hq => by
    rcases hS q hq with e | e | e
    · exact .inl e
    · exact .inr (.inl e)
    · exact .inr (.inr (.inl e))
  refine ⟨⟨h.own.keep (fun q hq => he.block q (h.own.there q hq) (fun hs => h.far q (hSn q hs) hq)) he.size, ⟨A, c, hx, ht, hc⟩, h.far⟩, he.more (fun q _ hq => .inr (hSn q hq)), In.refl _ _, fun q hq => he.block q (h.jthere q (.inr (.inr (.inr hq)))) (fun hs => ?_), fun _ h => h⟩
  rcases hS q hs with rfl | rfl | rfl
  · exact hx.nk.1 hq
  · exact hx.nk.2.1 hq
  · exact hx.nk.2.2 hq
theorem Things.own3 {l : List Thing} {S : Nat → Prop} (h : Things w K jb A l) (ht : There K w) (nk : ¬ K jb ∧ ¬ K ml ∧ ¬ K mc) (he : Ext S w w') (hS : ∀ q, S q → q = jb ∨ q = ml ∨ q = mc) : Things w' K jb A l :=
  h.keep (fun q hq => he.block q (ht q hq) (fun hs => by
    rcases hS q hs with rfl | rfl | rfl
    · exact nk.1 hq
    · exact nk.2.1 hq
    · exact nk.2.2 hq)) (fun _ h => h)
end
end Go.Proofs.YtmlgchmladkfpaaGreatDoor.NMem
/- The journal's calls that ask and say: made, Cap, Commits, Place, Busy, May, Ask, Start, Stop. -/
namespace Go.Proofs.YtmlgchmladkfpaaGreatDoor.NFace
open Go.RowKit WMem WPlain Ext Map DPlain DMem EPlain EMem EFace JPlain NPlain NMem

theorem made_nil (w : World) : Calls Tryz.prog 50 #[.pointer none] w fun e w' => e = .returned (.bool false) ∧ w = w' := by
  go_enter Tryz.func50, Tryz.ntmps50
  go_wp2
  go_ret
  exact ⟨rfl, rfl⟩
theorem made_zero (jb : Nat) (w : World) (c0 : w.cell? ⟨jb, 0, none⟩ = some (.pointer none)) : Calls Tryz.prog 50 #[.pointer (some ⟨jb, 0, none⟩)] w fun e w' => e = .returned (.bool false) ∧ w = w' := by
  go_enter Tryz.func50, Tryz.ntmps50
  go_wp2
  go_ret
  exact ⟨rfl, rfl⟩
theorem made_yes (jb b : Nat) (w : World) (c0 : w.cell? ⟨jb, 0, none⟩ = some (.pointer (some ⟨b, 0, none⟩))) : Calls Tryz.prog 50 #[.pointer (some ⟨jb, 0, none⟩)] w fun e w' => e = .returned (.bool true) ∧ w = w' := by
  go_enter Tryz.func50, Tryz.ntmps50
  go_wp2
  go_ret
  exact ⟨rfl, rfl⟩

section
variable (p : Option Addr) (w : World) (hm : Calls Tryz.prog 50 #[.pointer p] w fun e w' => e = .returned (.bool false) ∧ w = w')
include hm
theorem Cap_no : Calls Tryz.prog 27 #[.pointer p] w fun e w' => e = .returned (.int .i64 0) ∧ w = w' := by
  have HM := Lib.hid hm
  clear hm
  go_enter Tryz.func27, Tryz.ntmps27
  go_wp2_with (go_at_call 50; refine HM.out.mono ?_; rintro e w' ⟨rfl, rfl⟩)
  go_ret
  exact ⟨rfl, rfl⟩
theorem Commits_no : Calls Tryz.prog 30 #[.pointer p] w fun e w' => e = .returned (.int .i64 0) ∧ w = w' := by
  have HM := Lib.hid hm
  clear hm
  go_enter Tryz.func30, Tryz.ntmps30
  go_wp2_with (go_at_call 50; refine HM.out.mono ?_; rintro e w' ⟨rfl, rfl⟩)
  go_ret
  exact ⟨rfl, rfl⟩
theorem Place_no : Calls Tryz.prog 45 #[.pointer p] w fun e w' => e = .returned (.tuple #[.int .i64 0, .int .i64 0, .int .i64 0]) ∧ w = w' := by
  have HM := Lib.hid hm
  clear hm
  go_enter Tryz.func45, Tryz.ntmps45
  go_wp2_with (go_at_call 50; refine HM.out.mono ?_; rintro e w' ⟨rfl, rfl⟩)
  go_ret3
  exact ⟨rfl, rfl⟩
theorem Busy_no : Calls Tryz.prog 20 #[.pointer p] w fun e w' => e = .returned (.bool false) ∧ w = w' := by
  have HM := Lib.hid hm
  clear hm
  go_enter Tryz.func20, Tryz.ntmps20
  go_wp2_with (go_at_call 50; refine HM.out.mono ?_; rintro e w' ⟨rfl, rfl⟩)
  go_ret
  exact ⟨rfl, rfl⟩
theorem May_no : Calls Tryz.prog 56 #[.pointer p] w fun e w' => e = .returned (.bool false) ∧ w = w' := by
  have HM := Lib.hid (Busy_no p w hm)
  clear hm
  go_enter Tryz.func56, Tryz.ntmps56
  go_wp2_with (go_at_call 20; refine HM.out.mono ?_; rintro e w' ⟨rfl, rfl⟩)
  go_ret
  exact ⟨rfl, rfl⟩
theorem Ask_no (c : Bool) : Calls Tryz.prog 19 #[.pointer p, .bool c] w fun e w' => e = .returned (.tuple #[]) ∧ w = w' := by
  have HM := Lib.hid hm
  clear hm
  go_enter Tryz.func19, Tryz.ntmps19
  go_wp2_with (go_at_call 50; refine HM.out.mono ?_; rintro e w' ⟨rfl, rfl⟩)
  go_end0
  exact ⟨rfl, rfl⟩
theorem Start_no (n : Int) : Calls Tryz.prog 15 #[.pointer p, .int .i64 n] w fun e w' => e = .returned (.tuple #[.int .i64 0, .int .i64 22]) ∧ w = w' := by
  have HM := Lib.hid hm
  clear hm
  go_enter Tryz.func15, Tryz.ntmps15
  go_wp2_with (go_at_call 50; refine HM.out.mono ?_; rintro e w' ⟨rfl, rfl⟩)
  go_ret2
  exact ⟨rfl, rfl⟩
theorem Stop_no (n : Int) : Calls Tryz.prog 18 #[.pointer p, .int .i64 n] w fun e w' => e = .returned (.int .i64 22) ∧ w = w' := by
  have HM := Lib.hid hm
  clear hm
  go_enter Tryz.func18, Tryz.ntmps18
  go_wp2_with (go_at_call 50; refine HM.out.mono ?_; rintro e w' ⟨rfl, rfl⟩)
  go_ret
  exact ⟨rfl, rfl⟩
theorem Step_no : Calls Tryz.prog 21 #[.pointer p] w fun e w' => e = .returned (.int .i64 201) ∧ w = w' := by
  have HM := Lib.hid (May_no p w hm)
  clear hm
  go_enter Tryz.func21, Tryz.ntmps21
  go_wp2_with (go_at_call 56; refine HM.out.mono ?_; rintro e w' ⟨rfl, rfl⟩)
  go_ret
  exact ⟨rfl, rfl⟩
end

/-- len(m), and whether it is empty -/
theorem MapIs.len2 {T E : TypeId} (hT : Tryz.prog.underlying T = some (.map 3 E)) {w : World} {b n : Nat} {f : Int → Option Value} (h : MapIs w b n f) : ∃ m : Nat, (∀ ty, (Builtin.len_ #[T] ty #[.map (some b)]).run Tryz.prog w = .ok (.int .i64 (m : Int)) w) ∧ m ≤ n ∧ (m = 0 → ∀ k, Fits k → f k = none) ∧ ((∀ k, Fits k → f k = none) → m = 0) := by
  obtain ⟨D, ho, hf⟩ := h
  obtain ⟨l, hl, hk⟩ := keys_of ho
  refine ⟨_, fun ty => ho.len hT ty, ho.size_le, fun h0 k hk2 => ?_, fun h0 => ?_⟩
  · rw [hl] at h0
    have : l = [] := List.eq_nil_of_length_eq_zero h0
    subst this
    have h1 := (hf k hk2).1
    rw [hl] at h1
    cases hfk : f k with
    | none => rfl
    | some v => rw [hfk] at h1; simp [Maps.has_eq] at h1
  · rw [hl]
    cases l with
    | nil => rfl
    | cons p r =>
      obtain ⟨a, fa, ha⟩ := hk p (by simp)
      have h1 := (hf a fa).1
      rw [h0 a fa, hl, has_of_mem (List.mem_cons_self) ha] at h1
      cases h1
theorem underC : Tryz.prog.underlying 103 = some (.map 3 3) := by kernel_rfl
theorem zeroC (w : World) : (zeroValue 3).run Tryz.prog w = .ok (.int .i64 0) w := by kernel_rfl
section
variable {w : World} {K : Nat → Prop} {ρ : Ro} {D : Nat → Prop} {jb ml mc b db : Nat} {j : Jr} {s : Sto} (h : JO w ρ D K jb ml mc b db j s)
include h
theorem Made_own : Calls Tryz.prog 50 #[.pointer (some ⟨jb, 0, none⟩)] w fun e w' => e = .returned (.bool true) ∧ w = w' := by
  obtain ⟨A, c, hx, _⟩ := h.jx
  exact made_yes jb b w hx.cells.1
theorem Cap_own (hr : 6 ≤ j.ring) (hr2 : j.ring ≤ 4096) : Calls Tryz.prog 27 #[.pointer (some ⟨jb, 0, none⟩)] w fun e w' => e = .returned (.int .i64 (j.cap : Nat)) ∧ w = w' := by
  have HM := Lib.hid (Made_own h)
  obtain ⟨A, c, hx, _⟩ := h.jx
  obtain ⟨c0, c1, c2, _⟩ := hx.cells
  have HC : Hid (j.cap = j.ring * 3 / 4 - 4) := Lib.hid rfl
  generalize j.cap = cp at *
  generalize j.ring = r at *
  clear hx h
  go_enter Tryz.func27, Tryz.ntmps27
  go_wp2_with (go_at_call 50; refine HM.out.mono ?_; rintro e w' ⟨rfl, rfl⟩)
  go_ret
  refine ⟨congrArg (fun x => Ending.returned (.int .i64 x)) ?_, rfl⟩
  rw [HC.out]
  omega
theorem Commits_own : Calls Tryz.prog 30 #[.pointer (some ⟨jb, 0, none⟩)] w fun e w' => e = .returned (.int .i64 (j.commits : Nat)) ∧ w = w' := by
  have HM := Lib.hid (Made_own h)
  obtain ⟨A, c, hx, _⟩ := h.jx
  obtain ⟨c0, c1, c2, c3, c4, c5, c6, c7, c8, c9, _⟩ := hx.cells
  clear hx h c0 c1 c2 c3 c4 c5 c6 c7 c8
  go_enter Tryz.func30, Tryz.ntmps30
  go_wp2_with (go_at_call 50; refine HM.out.mono ?_; rintro e w' ⟨rfl, rfl⟩)
  go_ret
  exact ⟨rfl, rfl⟩
theorem Place_own : Calls Tryz.prog 45 #[.pointer (some ⟨jb, 0, none⟩)] w fun e w' => e = .returned (.tuple #[.int .i64 (j.seq : Nat), .int .i64 (j.tail : Nat), .int .i64 (j.used : Nat)]) ∧ ∃ n, w' = w.drewN n := by
  have HM := Lib.hid (Made_own h)
  obtain ⟨A, c, hx, _⟩ := h.jx
  obtain ⟨c0, c1, c2, c3, c4, c5, _⟩ := hx.cells
  clear hx h c0 c1 c2
  go_enter Tryz.func45, Tryz.ntmps45
  go_wp2_with (go_at_call 50; refine HM.out.mono ?_; rintro e w' ⟨rfl, rfl⟩)
  go_quiet (fail)
  go_wp2
  go_ret3
  exact ⟨rfl, nq, rfl⟩
theorem Busy_own : Calls Tryz.prog 20 #[.pointer (some ⟨jb, 0, none⟩)] w fun e w' => e = .returned (.bool j.wanted) ∧ w = w' := by
  have HM := Lib.hid (Made_own h)
  obtain ⟨A, c, hx, _⟩ := h.jx
  obtain ⟨c0, c1, c2, c3, c4, c5, c6, c7, c8, c9, c10, _⟩ := hx.cells
  clear hx h c0 c1 c2 c3 c4 c5 c6 c7 c8 c9
  go_enter Tryz.func20, Tryz.ntmps20
  go_wp2_with (go_at_call 50; refine HM.out.mono ?_; rintro e w' ⟨rfl, rfl⟩)
  go_ret
  exact ⟨rfl, rfl⟩
theorem may_len (hh : j.handles ≤ 1073741824) : ∃ m : Nat, (∀ ty, (Builtin.len_ #[103] ty #[.map (some mc)]).run Tryz.prog w = .ok (.int .i64 (m : Int)) w) ∧ m ≤ j.handles ∧ may j = (j.wanted && decide (m = 0)) := by
  obtain ⟨A, c, hx, _⟩ := h.jx
  obtain ⟨g, h1, h2, h3⟩ := hx.cred
  obtain ⟨m, hr, hm, z1, z2⟩ := MapIs.len2 underC h1
  have hz : (m = 0) ↔ ∀ k, k ≤ j.handles → j.cred k = none := by
    constructor
    · intro h0 k hk
      exact h3 k (z1 h0 k ⟨by omega, by omega⟩)
    · intro h0
      refine z2 fun k _ => ?_
      cases hg : g k with
      | none => rfl
      | some v =>
        obtain ⟨n, c, e1, e2, e3, e4, _⟩ := h2 k v hg
        rw [h0 n e3] at e4
        cases e4
  refine ⟨m, hr, hm, ?_⟩
  unfold may
  congr 1
  rw [Bool.eq_iff_iff]
  simp only [decide_eq_true_eq]
  exact hz.symm
theorem May_own (hh : j.handles ≤ 1073741824) : Calls Tryz.prog 56 #[.pointer (some ⟨jb, 0, none⟩)] w fun e w' => e = .returned (.bool (may j)) ∧ w = w' := by
  obtain ⟨m, hl, hm, hmay⟩ := may_len h hh
  have HM := Lib.hid (Busy_own h)
  have HMM := Lib.hid hmay
  have HL := Lib.hid hl
  obtain ⟨A, c, hx, _⟩ := h.jx
  obtain ⟨c0, c1, c2, c3, c4, c5, c6, c7, _⟩ := hx.cells
  clear hx h c0 c1 c2 c3 c4 c5 c6 hmay hl
  generalize may j = q at *
  generalize j.wanted = wn at *
  cases wn with
  | false =>
    go_enter Tryz.func56, Tryz.ntmps56
    go_wp2_with (go_at_call 20; refine HM.out.mono ?_; rintro e w' ⟨rfl, rfl⟩)
    go_ret
    exact ⟨by rw [HMM.out]; rfl, rfl⟩
  | true =>
    have HQ : Hid (q = decide (m = 0)) := Lib.hid (by rw [HMM.out]; rfl)
    by_cases hz : m = 0
    · have hz1 : ((m : Int) == 0) = true := by simp; omega
      have HZ := Lib.hid hz
      clear hz
      go_enter Tryz.func56, Tryz.ntmps56
      have hlr := HL.out
      go_wp2_with (go_at_call 20; refine HM.out.mono ?_; rintro e w' ⟨rfl, rfl⟩)
      go_ret
      exact ⟨by rw [HQ.out]; simp [HZ.out], rfl⟩
    · have hz2 : ((m : Int) == 0) = false := by simp; omega
      go_enter Tryz.func56, Tryz.ntmps56
      have hlr := HL.out
      go_wp2_with (go_at_call 20; refine HM.out.mono ?_; rintro e w' ⟨rfl, rfl⟩)
      go_ret
      exact ⟨by rw [HQ.out]; simp [hz], rfl⟩
end
end Go.Proofs.YtmlgchmladkfpaaGreatDoor.NFace
/- The credits that are promised; Ask, Start, Stop. -/
namespace Go.Proofs.YtmlgchmladkfpaaGreatDoor.NCred
open Go.RowKit WMem WPlain Ext Map DPlain DMem EPlain EMem EFace JPlain NPlain NMem NFace EWrites
open Go.Maps (Keyed)
section
variable {b n : Nat} {f : Int → Option Value} (w : World) {ops : Array Oper} {rest : List Oper} {o : Oper} {a : Act} {Q : Exit → Act → World → Prop}
theorem wl_range2 {T E : TypeId} (hT : Tryz.prog.underlying T = some (.map 3 E)) (hg : o.guard = none) (m : Operand) (hop : o.op = Op.range T m) (b n : Nat) (f : Int → Option Value) (hm : a.eval m = .map (some b)) (h : MapIs w b n f)
    (hK : ∀ w' left cnt, RangeIs w' b w.heap.size n f left cnt → (∀ k : Int, Fits k → left (.int .i64 k) = (f k).isSome) → cnt ≤ n → w.grownBy w' none → w'.heap.size = w.heap.size + 1 → wpList Tryz.prog ops Q rest (a.put o.dst (.pointer (some ⟨w.heap.size, 0, none⟩))) w') :
    wpList Tryz.prog ops Q (o :: rest) a w := by
  obtain ⟨D, ho, hf⟩ := h
  exact wpList_range_own w hg m _ hop _ _ law hT Rv b n D hm ho fun w' h1 h2 h3 => hK w' _ _ ⟨D, h1, hf⟩ (fun k hk => (hf k hk).1) ho.size_le h2 h3
set_option maxRecDepth 100000 in
theorem wl_next2 (hg : o.guard = none) (it : Operand) (hop : o.op = Op.next it false) (b r n : Nat) (f : Int → Option Value) (left : Lit → Bool) (cnt : Nat) (hit : a.eval it = .pointer (some ⟨r, 0, none⟩)) (h : RangeIs w b r n f left cnt)
    (hDone : (∀ k : Int, left (.int .i64 k) = false) → wpList Tryz.prog ops Q rest (a.put o.dst (.tuple #[.bool false])) w)
    (hMore : ∀ (x : Int) (v : Value) (w' : World) (cnt' : Nat), Fits x → left (.int .i64 x) = true → f x = some v → RangeIs w' b r n f (fun z => left z && !z.sameKey (.int .i64 x)) cnt' → cnt' < cnt →
      w.grownBy w' (some r) → w'.heap.size = w.heap.size → (Instr.entry (.pointer (some ⟨r, 0, none⟩))).run Tryz.prog w' = .ok (.tuple #[.int .i64 x, v]) w' → wpList Tryz.prog ops Q rest (a.put o.dst (.tuple #[.bool true, .int .i64 x, v])) w') :
    wpList Tryz.prog ops Q (o :: rest) a w := by
  obtain ⟨D, hr, hf⟩ := h
  refine wpList_next_ranges w hg it hop _ law Rv (Value.int .i64) (fun v : Value => v) (fun key kl hkey => by obtain ⟨x, rfl, _⟩ := Maps.keyOf_int_inv (q := .i64) (by kernel_rfl) hkey; exact ⟨x, rfl⟩) (fun v y hv => ⟨v, rfl⟩) b r n D left cnt hit hr (fun _ hl => hDone fun k => hl _) ?_
  intro x v kl y w' cnt' hkey hlk hv hat hrg hlt hgr hsz hen
  obtain ⟨x', ex, rfl, hwx⟩ := Maps.keyOf_int_inv (q := .i64) (by kernel_rfl) hkey
  cases ex
  have hfx : Fits x := by have := bounds_i64 hwx; exact ⟨by omega, by omega⟩
  have hy : y = (.held v, []) := (Option.some.inj hv).symm
  subst hy
  have hfv : f x = some v := by
    have hh := (hf x hfx).1
    rw [Maps.has_true_of_atKey hat] at hh
    obtain ⟨u, hu⟩ := Option.isSome_iff_exists.1 hh.symm
    have h1 := (hf x hfx).2 u hu .nil
    rw [hat] at h1
    injection h1 with h1
    rw [hu, h1]
  exact hMore x v w' cnt' hfx hlk hfv ⟨D, hrg, hf⟩ hlt hgr hsz hen
end
open Jr (sumTo)
theorem sumTo_congr {f g : Nat → Option Nat} : ∀ k, (∀ n, 1 ≤ n → n ≤ k → f n = g n) → sumTo f k = sumTo g k
  | 0, _ => rfl
  | k + 1, h => by
    show sumTo f k + (f (k + 1)).getD 0 = sumTo g k + (g (k + 1)).getD 0
    rw [sumTo_congr k (fun n h1 h2 => h n h1 (by omega)), h (k + 1) (by omega) (Nat.le_refl _)]
theorem sumTo_take {f g : Nat → Option Nat} {n c : Nat} : ∀ k, 1 ≤ n → n ≤ k → f n = some c → g n = none → (∀ m, m ≠ n → g m = f m) → sumTo f k = sumTo g k + c
  | 0, h1, h2, _, _, _ => by omega
  | k + 1, h1, h2, hf, hg, ho => by
    show sumTo f k + (f (k + 1)).getD 0 = sumTo g k + (g (k + 1)).getD 0 + c
    by_cases e : n = k + 1
    · subst e
      rw [hf, hg, sumTo_congr k (fun m _ h => (ho m (by omega)).symm)]
      simp
    · rw [sumTo_take k h1 (by omega) hf hg ho, ho (k + 1) (by omega)]
      omega
theorem sumTo_none {f : Nat → Option Nat} : ∀ k, (∀ n, 1 ≤ n → n ≤ k → f n = none) → sumTo f k = 0
  | 0, _ => rfl
  | k + 1, h => by
    show sumTo f k + (f (k + 1)).getD 0 = 0
    rw [sumTo_none k (fun n h1 h2 => h n h1 (by omega)), h (k + 1) (by omega) (Nat.le_refl _)]
    rfl
theorem sumTo_le {f : Nat → Option Nat} (hf : ∀ n c, f n = some c → c ≤ 64) : ∀ k, sumTo f k ≤ 64 * k
  | 0 => Nat.le_refl _
  | k + 1 => by
    have h := sumTo_le hf k
    have : (f (k + 1)).getD 0 ≤ 64 := by
      cases e : f (k + 1) with
      | none => simp
      | some c => simpa using hf _ _ e
    show sumTo f k + (f (k + 1)).getD 0 ≤ 64 * (k + 1)
    omega
/-- what is still to come of a range over the credits -/
def still (f : Nat → Option Nat) (left : Lit → Bool) : Nat → Option Nat := fun n => if left (.int .i64 (n : Int)) then f n else none
set_option maxRecDepth 100000 in
set_option maxHeartbeats 1000000 in
theorem promised_at (jb mc M : Nat) (f : Nat → Option Nat) (w : World) (c7 : w.cell? ⟨jb, 7, none⟩ = some (.map (some mc))) (hC : MapC w mc M f) (hM : M ≤ 1073741824) (h64 : ∀ n c, f n = some c → c ≤ 64) :
    Calls Tryz.prog 51 #[.pointer (some ⟨jb, 0, none⟩)] w fun e w' => e = .returned (.int .i64 (sumTo f M : Nat)) ∧ Below w.heap.size w w' := by
  obtain ⟨g, h1, h2, h3⟩ := hC
  have H1 := Lib.hid h1
  have H2 := Lib.hid h2
  have H3 := Lib.hid h3
  have HS := Lib.hid (sumTo_le h64 M)
  have hle : sumTo f M ≤ 68719476736 := by have := HS.out; omega
  have ml := h1.lt
  obtain ⟨T, hTT⟩ : ∃ T, sumTo f M = T := ⟨_, rfl⟩
  have HT := Lib.hid hTT
  rw [hTT] at hle ⊢
  clear h1 h2 h3 h64 HS hTT
  go_enter Tryz.func51, Tryz.ntmps51
  go_wp2_with (at_range; refine wl_range2 _ underC rfl _ rfl mc M g rfl H1.out ?_; intro w0 left0 cnt0 hrg0 hl0 hc0 hg0 hs0)
  go_frame
  have HL0 := Lib.hid hl0
  have HR0 := Lib.hid hrg0
  have HB0 := Lib.hid (show Below w.heap.size w w0 from ⟨hg0.os, hg0.tape, hg0.output, hg0.size, fun k hk => hg0.block k hk (by simp)⟩)
  clear hl0 hrg0 hg0 hs0 hc0
  go_loopw [3] (fun t wr => ∃ (left : Lit → Bool) (cnt acc : Nat), t = .int .i64 acc ∧ acc + sumTo (still f left) M = T ∧ RangeIs wr mc w.heap.size M g left cnt ∧ Below w.heap.size w wr) (fun _ wr => wr.rangeLeft mc w.heap.size)
  case atStart =>
    refine ⟨left0, cnt0, 0, rfl, ?_, HR0.out, HB0.out⟩
    rw [Nat.zero_add, ← HT.out]
    refine sumTo_congr M fun n n1 n2 => ?_
    unfold still
    rw [HL0.out n ⟨by omega, by omega⟩]
    cases hg : g (n : Int) with
    | none => rw [H3.out n hg]; rfl
    | some v => rfl
  case round =>
    obtain ⟨left, cnt, acc, rfl, hacc, hrg, hb⟩ := hrel
    have HRG := Lib.hid hrg
    have HB := Lib.hid hb
    have HA := Lib.hid hacc
    have ha : acc ≤ T := by omega
    clear hrg hb hacc
    go_wp2_with (at_next; refine wl_next2 _ rfl _ rfl mc w.heap.size M g left cnt rfl HRG.out ?_ ?_)
    · intro hl
      have HLL := Lib.hid hl
      clear hl
      go_wp2
      go_ret
      refine ⟨congrArg (fun x : Nat => Ending.returned (.int .i64 (x : Int))) ?_, HB.out⟩
      have h0 := sumTo_none (f := still f left) M (fun n _ _ => by unfold still; rw [HLL.out]; rfl)
      have := HA.out
      omega
    · intro x v w1 cnt1 hfx hlx hfv hrg1 hlt hg1 hs1 hen
      obtain ⟨n, c, rfl, n1, n2, hfn, rfl⟩ := H2.out x v hfv
      have hsum := sumTo_take (f := still f left) (g := still f (fun z => left z && !z.sameKey (.int .i64 (n : Int)))) (n := n) (c := c) M n1 n2 (by unfold still; rw [hlx]; exact hfn) (by unfold still; simp [Lit.sameKey]) (fun m hm => by
        unfold still
        have : ((Lit.int .i64 (m : Int)).sameKey (.int .i64 (n : Int))) = false := by simp [Lit.sameKey]; omega
        simp [this])
      have HNS := Lib.hid hsum
      have hac : acc + c ≤ T := by have := HA.out; omega
      have HR1 := Lib.hid hrg1
      have HB1 := Lib.hid (show Below w.heap.size w w1 from HB.out.trans ⟨hg1.os, hg1.tape, hg1.output, hg1.size, fun k hk => hg1.block k (by have := HB.out.size; omega) (fun e => by injection e; omega)⟩)
      clear hrg1 hg1 hs1 hsum hfn hfv
      go_wp2
      go_roundw
      case rel => exact ⟨_, cnt1, acc + c, by go_num, by have h1 := HA.out; have h2 := HNS.out; omega, HR1.out, HB1.out⟩
      case measure => rw [HR1.out.left_eq, HRG.out.left_eq]; exact hlt
theorem ext_cell {a w : World} {jb : Nat} (h : Ext (fun x => x = jb) a w) (i : Nat) (u : Value) : Ext (fun x => x = jb) a (w.setCell ⟨jb, i, none⟩ u) := h.setCell (.inl rfl) u
theorem ext_map {w w' : World} {m : Nat} {S : Nat → Prop} (ht : w.mapTurned w' m) (hs : S m) : Ext S w w' := Ext.of_grown ht.grown (fun k e _ => by injection e with e; exact e ▸ hs)
theorem start_turn {w w2 : World} {K : Nat → Prop} {jb ml mc b db N : Nat} {j : Jr} {v : Value} {n : Nat} (hx : JX w K jb ml mc b db N j v) (g : Int → Option Value) (hg : MapIs w mc j.handles g ∧ (∀ k v, g k = some v → ∃ n c : Nat, k = (n : Int) ∧ 1 ≤ n ∧ n ≤ j.handles ∧ j.cred n = some c ∧ v = .int .i64 (c : Int)) ∧ ∀ n : Nat, g (n : Int) = none → j.cred n = none)
    (hm : MapIs w2 mc (j.handles + 1) (upd g (j.handles + 1 : Nat) (.int .i64 (n : Int)))) (ht : ((w.setCell ⟨jb, 8, none⟩ (.int .i64 (j.handles + 1 : Nat))).drew).mapTurned w2 mc) :
    JX w2 K jb ml mc b db N (j.start n) v ∧ Ext (fun x => x = jb ∨ x = mc) w w2 := by
  obtain ⟨n1, n2⟩ := hx.ne1
  have e1 : Ext (fun x => x = jb ∨ x = mc) w ((w.setCell ⟨jb, 8, none⟩ (.int .i64 (j.handles + 1 : Nat))).drew) := ((Ext.refl _ w).setCell (p := ⟨jb, 8, none⟩) (.inl (.inl rfl)) _).drew
  have e2 : Ext (fun x => x = jb ∨ x = mc) w w2 := e1.trans (ext_map ht (.inr rfl)) (fun _ h => .inl h)
  have hk : ∀ q, q ≠ mc → w2.heap[q]? = ((w.setCell ⟨jb, 8, none⟩ (.int .i64 (j.handles + 1 : Nat))).drew).heap[q]? := fun q hq => turned_far ht hq
  refine ⟨⟨?_, ?_, ⟨_, hm, fun k u hu => ?_, fun m hmn => ?_⟩, hx.nk, hx.ne, hx.there.up e2.size⟩, e2⟩
  · rw [hk jb n2]
    have := row_set hx.block 8 (.int .i64 (j.handles + 1 : Nat))
    exact this.trans rfl
  · exact hx.live.keep (e2.block ml hx.live.lt (fun hq => by rcases hq with e | e; exact n1 e.symm; exact hx.ne e))
  · unfold upd at hu
    split at hu
    · rename_i e
      injection hu with hu
      exact ⟨j.handles + 1, n, by omega, by omega, Nat.le_refl _, if_pos rfl, hu.symm⟩
    · obtain ⟨m, c, a1, a2, a3, a4, a5⟩ := hg.2.1 k u hu
      exact ⟨m, c, a1, a2, by show m ≤ j.handles + 1; omega, (if_neg (by omega)).trans a4, a5⟩
  · unfold upd at hmn
    split at hmn
    · cases hmn
    · rename_i e
      exact (if_neg (by omega)).trans (hg.2.2 m hmn)
section
variable {w : World} {K : Nat → Prop} {ρ : Ro} {D : Nat → Prop} {jb ml mc b db : Nat} {j : Jr} {s : Sto} (h : JO w ρ D K jb ml mc b db j s)
include h
theorem Ask_own (q : Bool) : Calls Tryz.prog 19 #[.pointer (some ⟨jb, 0, none⟩), .bool q] w fun e w' => e = .returned (.tuple #[]) ∧ JGo w w' ρ D K ρ D K jb ml mc b db (j.ask q) s := by
  have HM := Lib.hid (Made_own h)
  obtain ⟨A, c, hx, ht, hc⟩ := h.jx
  obtain ⟨c0, c1, c2, c3, c4, c5, c6, c7, c8, c9, c10, c11, c12⟩ := hx.cells
  have f10 := hx.free 10
  have f11 := hx.free 11
  have t1 := hx.turn (i := 10) (u := .bool true) (j' := { j with wanted := true }) (v' := .slice A j.left.length c) rfl rfl rfl rfl
  have t2 := t1.turn (i := 11) (u := .bool (j.clean || q)) (j' := j.ask q) (v' := .slice A j.left.length c) rfl rfl rfl rfl
  have he := ext_cell (ext_cell (Ext.refl (fun x => x = jb) w) 10 (.bool true)) 11 (.bool (j.clean || q))
  have HG := Lib.hid (JO.turned (j' := j.ask q) h he (fun x hq => .inl hq) t2 (Things.own3 ht hx.there hx.nk he (fun x hq => .inl hq)) hc)
  generalize j.clean = cl at *
  clear hx ht hc h t1 t2 he c0 c1 c2 c3 c4 c5 c6 c7 c8 c9 c12
  cases cl
  all_goals
    go_enter Tryz.func19, Tryz.ntmps19
    go_wp2_with (go_at_call 50; refine HM.out.mono ?_; rintro e w' ⟨rfl, rfl⟩)
    go_end0
    exact ⟨rfl, HG.out⟩
theorem Start_bad (n : Int) (hn : n < 1 ∨ 64 < n) : Calls Tryz.prog 15 #[.pointer (some ⟨jb, 0, none⟩), .int .i64 n] w fun e w' => e = .returned (.tuple #[.int .i64 0, .int .i64 22]) ∧ w = w' := by
  have HM := Lib.hid (Made_own h)
  clear h
  rcases hn with hn | hn
  · go_enter Tryz.func15, Tryz.ntmps15
    go_wp2_with (go_at_call 50; refine HM.out.mono ?_; rintro e w' ⟨rfl, rfl⟩)
    go_ret2
    exact ⟨rfl, rfl⟩
  · have hn1 : ¬ n < 1 := by omega
    go_enter Tryz.func15, Tryz.ntmps15
    go_wp2_with (go_at_call 50; refine HM.out.mono ?_; rintro e w' ⟨rfl, rfl⟩)
    go_ret2
    exact ⟨rfl, rfl⟩
theorem Start_busy (n : Nat) (h1 : 1 ≤ n) (h2 : n ≤ 64) (hw : j.wanted = true) : Calls Tryz.prog 15 #[.pointer (some ⟨jb, 0, none⟩), .int .i64 (n : Int)] w fun e w' => e = .returned (.tuple #[.int .i64 0, .int .i64 201]) ∧ w = w' := by
  have HM := Lib.hid (Made_own h)
  obtain ⟨A, c, hx, ht, hc⟩ := h.jx
  obtain ⟨c0, c1, c2, c3, c4, c5, c6, c7, c8, c9, c10, c11, c12⟩ := hx.cells
  rw [hw] at c10
  clear hx ht hc h c0 c1 c2 c3 c4 c5 c6 c7 c8 c9 c12 c11 hw
  have d1 : ¬ ((n : Int) < 1) := by omega
  have d2 : ¬ ((64 : Int) < (n : Int)) := by omega
  go_enter Tryz.func15, Tryz.ntmps15
  go_wp2_with (go_at_call 50; refine HM.out.mono ?_; rintro e w' ⟨rfl, rfl⟩)
  go_ret2
  exact ⟨rfl, rfl⟩
set_option maxRecDepth 100000 in
set_option maxHeartbeats 1000000 in
theorem Start_go (n : Nat) (h1 : 1 ≤ n) (h2 : n ≤ 64) (hw : j.wanted = false) (hr : 6 ≤ j.ring) (hr2 : j.ring ≤ 4096) (hh : j.handles ≤ 1073741823) (h64 : ∀ n c, j.cred n = some c → c ≤ 64) :
    Calls Tryz.prog 15 #[.pointer (some ⟨jb, 0, none⟩), .int .i64 (n : Int)] w fun e w' =>
      (j.cap < (numsOf s.now.chg s.N).length + j.promised + n → e = .returned (.tuple #[.int .i64 0, .int .i64 201]) ∧ JGo w w' ρ D K ρ D K jb ml mc b db j s) ∧
      ((numsOf s.now.chg s.N).length + j.promised + n ≤ j.cap → e = .returned (.tuple #[.int .i64 (j.handles + 1 : Nat), .int .i64 0]) ∧ JGo w w' ρ D K ρ D K jb ml mc b db (j.start n) s) := by
  have HM := Lib.hid (Made_own h)
  have HCH := Lib.hid (Changed_own h.own)
  have hcl : (numsOf s.now.chg s.N).length ≤ 4096 := by
    have h1 := List.length_filter_le (fun n => (s.now.chg n).isSome) (List.range s.N)
    have := h.own.len.2
    unfold numsOf
    rw [List.length_range] at h1
    omega
  have HO := Lib.hid h
  obtain ⟨A, c, hx, ht, hc⟩ := h.jx
  have HX := Lib.hid hx
  have HT := Lib.hid ht
  have HCC := Lib.hid hc
  have hpl : j.promised ≤ 68719476672 := by have := sumTo_le h64 j.handles; unfold Jr.promised; omega
  have HP := Lib.hid (fun w1 (hb : Below w.heap.size w w1) => promised_at jb mc j.handles j.cred w1 ((hb.cell (p := ⟨jb, 7, none⟩) hx.lt).trans hx.cells.2.2.2.2.2.2.2.1) (hx.cred.keep (hb.block mc hx.cred.lt)) (by omega) h64)
  have hpe : Jr.sumTo j.cred j.handles = j.promised := rfl
  rw [hpe] at HP
  have hcap : j.cap ≤ 4096 := by unfold Jr.cap; omega
  have HCAP := Lib.hid (fun w1 (hb : Below w.heap.size w w1) => Cap_own (h.below hb) hr hr2)
  obtain ⟨c0, c1, c2, c3, c4, c5, c6, c7, c8, c9, c10, c11, c12⟩ := hx.cells
  rw [hw] at c10
  have hjl := hx.lt
  generalize (numsOf s.now.chg s.N).length = L at *
  generalize hpp : j.promised = P at *
  generalize hcpp : j.cap = C at *
  clear hx ht hc h c1 c2 c3 c4 c5 c6 c9 c11 c12 hw h64 hpe hpp hcpp hr hr2
  have d1 : ¬ ((n : Int) < 1) := by omega
  have d2 : ¬ ((64 : Int) < (n : Int)) := by omega
  go_enter Tryz.func15, Tryz.ntmps15
  go_wp2_with (go_at_call 50; refine HM.out.mono ?_; rintro e w' ⟨rfl, rfl⟩)
  refine HCH.out.mono ?_
  rintro e w1 ⟨v, rfl, hv, hb1⟩
  obtain ⟨Av, cv, rfl, -⟩ := own_cell1 (S := fun _ => True) ⟨own_base hv (fun _ _ => Nat.zero_le _), fun _ _ => trivial⟩
  have HB1 := Lib.hid hb1
  have hs1 := hb1.size
  clear hv hb1
  go_wp2_with fail
  refine (HP.out w1 HB1.out).mono ?_
  rintro e w2 ⟨rfl, hb2⟩
  have HB2 := Lib.hid (below_up HB1.out hb2 hs1)
  clear hb2
  go_wp2_with fail
  refine (HCAP.out w2 HB2.out).mono ?_
  rintro e w' ⟨rfl, rfl⟩
  have hs2 := HB2.out.size
  have HO2 := Lib.hid (HO.out.below HB2.out)
  have HX2 := Lib.hid (HX.out.keep (w' := w2) (fun q hq => HB2.out.block q (HX.out.own_there q hq)) hs2)
  have HT2 := Lib.hid (HT.out.keep (w' := w2) (K' := K) (fun q hq => HB2.out.block q (HX.out.there q hq)) (fun _ h => h))
  have HE2 := Lib.hid ((JGo.refl HO.out).below HB2.out)
  by_cases hgt : C < L + P + n
  · have d3 : ((C : Int) < (L : Int) + (P : Int) + (n : Int)) := by omega
    have d4 : decide ((C : Int) < (L : Int) + (P : Int) + (n : Int)) = true := by simp; omega
    go_wp2_with fail
    go_ret2
    exact ⟨fun _ => ⟨rfl, HE2.out⟩, fun h' => by omega⟩
  · have d3 : ¬ ((C : Int) < (L : Int) + (P : Int) + (n : Int)) := by omega
    have d4 : decide ((C : Int) < (L : Int) + (P : Int) + (n : Int)) = false := by simp; omega
    have g8 : w2.cell? ⟨jb, 8, none⟩ = some (.int .i64 (j.handles : Int)) := HX2.out.cells.2.2.2.2.2.2.2.2.1
    have g7 : w2.cell? ⟨jb, 7, none⟩ = some (.map (some mc)) := HX2.out.cells.2.2.2.2.2.2.2.1
    have f8 := HX2.out.free 8
    obtain ⟨g, q1, q2, q3⟩ := HX2.out.cred
    have hmc2 := (HX2.out.ne1).2
    have hmd : MapIs ((w2.setCell ⟨jb, 8, none⟩ (.int .i64 (j.handles + 1 : Nat))).drew) mc j.handles g := (q1.keep (w' := w2.setCell ⟨jb, 8, none⟩ (.int .i64 (j.handles + 1 : Nat))) (Below.heap_setCell w2 _ _ mc (Ne.symm hmc2))).keep rfl
    obtain ⟨w3, hrun, hm3, ht3⟩ := hmd.put underC (k := (j.handles + 1 : Nat)) ⟨by omega, by omega⟩ (by unfold maxLen; omega) (.int .i64 (n : Int))
    obtain ⟨hx3, he3⟩ := start_turn HX2.out g ⟨q1, q2, q3⟩ hm3 ht3
    have HT3 := Lib.hid (Things.own3 HT2.out HX2.out.there HX2.out.nk he3 (fun x hq => by rcases hq with e | e; exact .inl e; exact .inr (.inr e)))
    have HG := Lib.hid ((JO.turned (j' := j.start n) HO2.out he3 (fun x hq => by rcases hq with e | e; exact .inl e; exact .inr (.inr e)) hx3 HT3.out HCC.out))
    have k8 : w3.cell? ⟨jb, 8, none⟩ = some (.int .i64 (j.handles + 1 : Nat)) := hx3.cells.2.2.2.2.2.2.2.2.1
    have HGG := Lib.hid (HE2.out.trans HG.out)
    have hwh2 : ((j.handles : Int) + 1) = ((j.handles + 1 : Nat) : Int) := by simp
    rw [← hwh2] at hrun k8
    have HWH := Lib.hid hwh2
    clear q1 q2 q3 hmd hm3 ht3 hx3 he3 hwh2
    go_wp2_with fail
    have n7 : (w2.setCell ⟨jb, 8, none⟩ (.int .i64 ((j.handles : Int) + 1))).cell? ⟨jb, 7, none⟩ = some (.map (some mc)) := (row_cell (row_set HX2.out.block 8 _) 7).trans rfl
    have n8 : (w2.setCell ⟨jb, 8, none⟩ (.int .i64 ((j.handles : Int) + 1))).cell? ⟨jb, 8, none⟩ = some (.int .i64 ((j.handles : Int) + 1)) := (row_cell (row_set HX2.out.block 8 _) 8).trans rfl
    clear HG
    generalize w2.setCell ⟨jb, 8, none⟩ (.int .i64 ((j.handles : Int) + 1)) = W3 at *
    go_still_tail 9, (by kernel_rfl)
    go_wp2
    go_ret2
    exact ⟨fun h' => by omega, fun _ => ⟨by rw [← HWH.out]; rfl, HGG.out⟩⟩
end
end Go.Proofs.YtmlgchmladkfpaaGreatDoor.NCred
/- What makes the things that are left: home, flush, write. -/
namespace Go.Proofs.YtmlgchmladkfpaaGreatDoor.NMake
open Go.RowKit WMem WPlain Ext Map DPlain DMem EPlain EMem EFace JPlain NPlain NMem NFace

/-- a row of things -/
def IsRow (w : World) (q : Nat) : Prop := ∃ cs fz, w.heap[q]? = some (.cells cs 47 fz)
/-- blocks of K, and new ones that are no rows of things -/
def New (K : Nat → Prop) (w w' : World) : Nat → Prop := fun q => K q ∨ (w.heap.size ≤ q ∧ q < w'.heap.size ∧ ¬ IsRow w' q)
theorem new_old {K : Nat → Prop} {w w' : World} : ∀ q, K q → New K w w' q := fun _ h => .inl h
theorem new_there {K : Nat → Prop} {w w' : World} (h : There K w) (hs : w.heap.size ≤ w'.heap.size) : There (New K w w') w' := fun q hq => by
  rcases hq with hq | hq
  · exact Nat.lt_of_lt_of_le (h q hq) hs
  · exact hq.2.1
theorem new_up {K : Nat → Prop} {w w' w'' : World} (hs : w'.heap.size ≤ w''.heap.size) (hk : ∀ q, New K w w' q → w''.heap[q]? = w'.heap[q]?) : ∀ q, New K w w' q → New K w w'' q := fun q hq => by
  have hk' := hk q hq
  rcases hq with hq | hq
  · exact .inl hq
  · exact .inr ⟨hq.1, by omega, fun ⟨cs, fz, h⟩ => hq.2.2 ⟨cs, fz, by rw [← hk']; exact h⟩⟩
theorem new_step {K : Nat → Prop} {w w' w'' : World} (h1 : w.heap.size ≤ w'.heap.size) (hs : w'.heap.size ≤ w''.heap.size) (hk : ∀ q, New K w w' q → w''.heap[q]? = w'.heap[q]?) : ∀ q, New (New K w w') w' w'' q → New K w w'' q := fun q hq => by
  rcases hq with hq | hq
  · exact new_up hs hk q hq
  · exact .inr ⟨by omega, hq.2⟩
theorem not_row {w : World} {q : Nat} {cs : Array Value} {T : TypeId} {fz : Nat × Nat} (h : w.heap[q]? = some (.cells cs T fz)) (hT : T ≠ 47) : ¬ IsRow w q := fun ⟨cs', fz', h'⟩ => by
  rw [h] at h'
  injection h' with h'
  injection h' with _ h' _
  exact hT h'
theorem new_box {K : Nat → Prop} {w w' : World} {q : Nat} {cs : Array Value} {T : TypeId} (h : w'.heap[q]? = some (.cells cs T (0, 0))) (hq : w.heap.size ≤ q) (hT : T ≠ 47) : New K w w' q := .inr ⟨hq, row_lt h, not_row h hT⟩
theorem home_any (K : Nat → Prop) (jb n : Nat) (w : World) : Calls Tryz.prog 111 #[.pointer (some ⟨jb, 0, none⟩), .int .i64 (n : Int)] w fun e w' => ∃ f cs, e = .returned (.func f #[] cs) ∧ ThingIs w' (New K w w') jb (.func f #[] cs) (.home n) ∧ Below w.heap.size w w' := by
  have n0 := row_new w (.cells #[.pointer (some ⟨jb, 0, none⟩)] 31)
  have n1 := row_new (w.alloc (.cells #[.pointer (some ⟨jb, 0, none⟩)] 31)) (.cells #[.int .i64 (n : Int)] 3)
  simp only [World.size_alloc] at n1
  have HN0 := Lib.hid (row_alloc n0 (.cells #[.int .i64 (n : Int)] 3))
  have HN1 := Lib.hid n1
  clear n0 n1
  go_enter Tryz.func111, Tryz.ntmps111
  go_wp2
  go_ret
  refine ⟨_, _, rfl, ⟨w.heap.size, w.heap.size + 1, rfl, ⟨new_box HN0.out (Nat.le_refl _) (by decide), (row_cell HN0.out 0).trans rfl⟩, ⟨new_box HN1.out (by simp) (by decide), ?_⟩⟩, ((Below.refl _ _).alloc (Nat.le_refl _) _).alloc (by simp) _⟩
  exact (row_cell HN1.out 0).trans rfl
theorem flush_any (K : Nat → Prop) (jb : Nat) (cs : List Come) (A : Option Addr) (c : Nat) (vs : List Value) (w : World) (hr : KRow w K A vs) (hl : vs.length = cs.length) (hc : ∀ (i : Nat) (h : i < cs.length), ∃ v, vs[i]? = some v ∧ ComeIs w K jb v cs[i]) (ht : There K w) :
    Calls Tryz.prog 112 #[.pointer (some ⟨jb, 0, none⟩), .slice A cs.length c] w fun e w' => ∃ f cc, e = .returned (.func f #[] cc) ∧ ThingIs w' (New K w w') jb (.func f #[] cc) (.flush cs) ∧ Below w.heap.size w w' := by
  have n0 := row_new w (.cells #[.pointer (some ⟨jb, 0, none⟩)] 31)
  have n1 := row_new (w.alloc (.cells #[.pointer (some ⟨jb, 0, none⟩)] 31)) (.cells #[.slice A cs.length c] 99)
  simp only [World.size_alloc] at n1
  have HN0 := Lib.hid (row_alloc n0 (.cells #[.slice A cs.length c] 99))
  have HN1 := Lib.hid n1
  have HR := Lib.hid hr
  have HC := Lib.hid hc
  have HL := Lib.hid hl
  clear n0 n1 hr hc hl
  go_enter Tryz.func112, Tryz.ntmps112
  go_wp2
  go_ret
  have hB : Below w.heap.size w ((w.alloc (.cells #[.pointer (some ⟨jb, 0, none⟩)] 31)).alloc (.cells #[.slice A cs.length c] 99)) := ((Below.refl _ _).alloc (Nat.le_refl _) _).alloc (by simp) _
  have hk : ∀ q, K q → ((w.alloc (.cells #[.pointer (some ⟨jb, 0, none⟩)] 31)).alloc (.cells #[.slice A cs.length c] 99)).heap[q]? = w.heap[q]? := fun q hq => hB.block q (ht q hq)
  refine ⟨_, _, rfl, ⟨w.heap.size, w.heap.size + 1, A, c, vs, rfl, ⟨new_box HN0.out (Nat.le_refl _) (by decide), (row_cell HN0.out 0).trans rfl⟩, ⟨new_box HN1.out (by simp) (by decide), ?_⟩, HR.out.keep hk new_old, HL.out, fun i hi => ?_⟩, hB⟩
  · exact (row_cell HN1.out 0).trans rfl
  · obtain ⟨v, hv, hcm⟩ := HC.out i hi
    exact ⟨v, hv, hcm.keep hk new_old⟩
theorem flush_at (K : Nat → Prop) (jb : Nat) (cs : List Come) (n : Nat) (hn : cs.length = n) (A : Option Addr) (c : Nat) (vs : List Value) (w : World) (hr : KRow w K A vs) (hl : vs.length = cs.length) (hc : ∀ (i : Nat) (h : i < cs.length), ∃ v, vs[i]? = some v ∧ ComeIs w K jb v cs[i]) (ht : There K w) :
    Calls Tryz.prog 112 #[.pointer (some ⟨jb, 0, none⟩), .slice A n c] w fun e w' => ∃ f cc, e = .returned (.func f #[] cc) ∧ ThingIs w' (New K w w') jb (.func f #[] cc) (.flush cs) ∧ Below w.heap.size w w' := by
  subst hn
  exact flush_any K jb cs A c vs w hr hl hc ht
theorem write_any (K : Nat → Prop) (jb p : Nat) (u : Value) (l : Bk) (w : World) (hu : IsBlk w K u l) (ht : There K w) :
    Calls Tryz.prog 118 #[.pointer (some ⟨jb, 0, none⟩), .int .i64 (p : Int), u] w fun e w' => ∃ f cc, e = .returned (.func f #[] cc) ∧ ThingIs w' (New K w w') jb (.func f #[] cc) (.put p l) ∧ Below w.heap.size w w' := by
  obtain ⟨gu, cu, ru, rfl, hrest⟩ := id hu
  have n0 := row_new w (.cells #[.pointer (some ⟨jb, 0, none⟩)] 31)
  have n1 := row_new (w.alloc (.cells #[.pointer (some ⟨jb, 0, none⟩)] 31)) (.cells #[.int .i64 (p : Int)] 3)
  simp only [World.size_alloc] at n1
  have n2 := row_new ((w.alloc (.cells #[.pointer (some ⟨jb, 0, none⟩)] 31)).alloc (.cells #[.int .i64 (p : Int)] 3)) (.cells #[.slice (some ⟨gu, 0, none⟩) 256 cu] 43)
  simp only [World.size_alloc, Nat.add_assoc, Nat.reduceAdd] at n2
  have HN0 := Lib.hid (row_alloc (row_alloc n0 (.cells #[.int .i64 (p : Int)] 3)) (.cells #[.slice (some ⟨gu, 0, none⟩) 256 cu] 43))
  have HN1 := Lib.hid (row_alloc n1 (.cells #[.slice (some ⟨gu, 0, none⟩) 256 cu] 43))
  have HN2 := Lib.hid n2
  have HU := Lib.hid hu
  clear n0 n1 n2 hu hrest
  go_enter Tryz.func118, Tryz.ntmps118
  go_wp2
  go_ret
  have hB : Below w.heap.size w (((w.alloc (.cells #[.pointer (some ⟨jb, 0, none⟩)] 31)).alloc (.cells #[.int .i64 (p : Int)] 3)).alloc (.cells #[.slice (some ⟨gu, 0, none⟩) 256 cu] 43)) := (((Below.refl _ _).alloc (Nat.le_refl _) _).alloc (by simp) _).alloc (by simp; omega) _
  have hk : ∀ q, K q → (((w.alloc (.cells #[.pointer (some ⟨jb, 0, none⟩)] 31)).alloc (.cells #[.int .i64 (p : Int)] 3)).alloc (.cells #[.slice (some ⟨gu, 0, none⟩) 256 cu] 43)).heap[q]? = w.heap[q]? := fun q hq => hB.block q (ht q hq)
  refine ⟨_, _, rfl, ⟨w.heap.size, w.heap.size + 1, w.heap.size + 2, _, rfl, ⟨new_box HN0.out (Nat.le_refl _) (by decide), (row_cell HN0.out 0).trans rfl⟩, ⟨new_box HN1.out (by simp) (by decide), ?_⟩, ⟨new_box HN2.out (by simp) (by decide), ?_⟩, (IsBlk.keep HU.out fun k _ hk' _ => hk k hk').more new_old⟩, hB⟩
  · exact (row_cell HN1.out 0).trans rfl
  · exact (row_cell HN2.out 0).trans rfl
/-- a row of things of one's own, so far -/
structure TR (w : World) (K : Nat → Prop) (jb : Nat) (W : World) (v : Value) (n : Nat) (l : List Thing) : Prop where
  row : ∃ vs, W.ownsRow w.heap.size 47 1 v n vs ∧ AreThings W (New K w W) jb vs l ∧ (∀ u ∈ vs, u.oneCell' = true)
  len : l.length = n
  below : Below w.heap.size w W
theorem func_one {w : World} {K : Nat → Prop} {jb : Nat} {v : Value} {t : Thing} (h : ThingIs w K jb v t) : v.oneCell' = true := by
  cases t with
  | home n => obtain ⟨_, _, rfl, _⟩ := h; rfl
  | put p l => obtain ⟨_, _, _, _, rfl, _⟩ := h; rfl
  | flush cs => obtain ⟨_, _, _, _, _, rfl, _⟩ := h; rfl
  | head => obtain rfl := h; rfl
theorem things_one {w : World} {K : Nat → Prop} {jb : Nat} {vs : List Value} {l : List Thing} (h : AreThings w K jb vs l) : ∀ u ∈ vs, u.oneCell' = true := fun u hu => by
  obtain ⟨i, hi, rfl⟩ := List.getElem_of_mem hu
  obtain ⟨v, hv, ht⟩ := h.2 i (by rw [← h.1]; exact hi)
  rw [List.getElem?_eq_getElem hi] at hv
  injection hv with hv
  rw [hv]
  exact func_one ht
theorem AreThings.append {w : World} {K : Nat → Prop} {jb : Nat} {vs us : List Value} {l m : List Thing} (h : AreThings w K jb vs l) (h' : AreThings w K jb us m) : AreThings w K jb (vs ++ us) (l ++ m) :=
  ⟨by simp [h.1, h'.1], fun i hi => by
    by_cases e : i < l.length
    · obtain ⟨v, hv, ht⟩ := h.2 i e
      exact ⟨v, by rw [List.getElem?_append_left (by rw [h.1]; exact e)]; exact hv, by rw [List.getElem_append_left e]; exact ht⟩
    · have hi' : i - l.length < m.length := by simp at hi; omega
      obtain ⟨v, hv, ht⟩ := h'.2 (i - l.length) hi'
      exact ⟨v, by rw [List.getElem?_append_right (by rw [h.1]; omega), h.1]; exact hv, by rw [List.getElem_append_right (by omega)]; exact ht⟩⟩
/-- new blocks that are no rows of things do not turn while a row of things grows -/
theorem new_grown {K : Nat → Prop} {w W W' : World} {v : Value} {n : Nat} {vs : List Value} (ho : W.ownsRow w.heap.size 47 1 v n vs) (hg : W.grownBy W' v.ownBlock) (hs : w.heap.size ≤ W.heap.size) (ht : There K w) : ∀ q, New K w W q → W'.heap[q]? = W.heap[q]? := fun q hq => by
  refine hg.block q (new_there ht hs q hq) (fun e => ?_)
  rcases ho.2 with ⟨rfl, _⟩ | ⟨g, cap, cur, rfl, hb, hg', _⟩
  · simp [Value.ownBlock] at e
  · simp only [Value.ownBlock, Option.some.injEq] at e
    subst e
    rcases hq with hq | hq
    · have := ht q hq; omega
    · exact hq.2.2 ⟨_, _, hg'⟩
theorem TR.nil (w : World) (K : Nat → Prop) (jb : Nat) : TR w K jb w (.slice none 0 0) 0 [] := ⟨⟨[], World.ownsRow_nil _ _ _ _, ⟨rfl, fun i hi => (by cases hi)⟩, by simp⟩, rfl, Below.refl _ _⟩
theorem TR.go {w W W' : World} {K : Nat → Prop} {jb n : Nat} {v : Value} {l : List Thing} (h : TR w K jb W v n l) (hb : Below W.heap.size W W') (ht : There K w) : TR w K jb W' v n l := by
  obtain ⟨⟨vs, h1, h2, h3⟩, h4, h5⟩ := h
  have hk : ∀ q, New K w W q → W'.heap[q]? = W.heap[q]? := fun q hq => hb.block q (new_there ht h5.size q hq)
  exact ⟨⟨vs, own_same h1 (fun g hg => hb.block g (own_lt h1 g hg)), h2.keep hk (new_up hb.size hk), h3⟩, h4, h5.trans (hb.mono h5.size)⟩
theorem TR.base {w w1 W : World} {K : Nat → Prop} {jb n : Nat} {v : Value} {l : List Thing} (h : TR w1 K jb W v n l) (hb : Below w.heap.size w w1) : TR w K jb W v n l := by
  obtain ⟨⟨vs, h1, h2, h3⟩, h4, h5⟩ := h
  refine ⟨⟨vs, own_base h1 (fun g hg => Nat.le_trans hb.size (own_ge h1 g hg)), h2.keep (fun _ _ => rfl) (fun q hq => ?_), h3⟩, h4, hb.trans (h5.mono hb.size)⟩
  rcases hq with hq | hq
  · exact .inl hq
  · exact .inr ⟨Nat.le_trans hb.size hq.1, hq.2⟩
theorem elemT : WAppend.Elem Tryz.prog 59 47 8 := ⟨by kernel_rfl, by
  obtain ⟨i, h1, h2, h3, h4⟩ := info_parts (P := Tryz.prog) (e := 47) (z := .nilFunc) (size := 1) (bytes := 8) (by kernel_rfl)
  exact ⟨i, _, h1, h2, h3, h4, rfl⟩⟩
theorem wl_things {ops : Array Oper} {rest : List Oper} {o : Oper} {a : Act} {Q : Exit → Act → World → Prop} {w W : World} (hgd : o.guard = none) (s x : Operand)
    (ho : o.op = .call { callee := .builtin .append, args := #[s, x], argTypes := #[59, 59] })
    {K : Nat → Prop} {jb : Nat} (v : Value) (n : Nat) (l : List Thing) (hs : a.eval s = v) (hT : TR w K jb W v n l) (ht : There K w)
    (B : Nat) (A : Option Addr) (m c : Nat) (us : List Value) (M : List Thing) (hx : a.eval x = .slice A m c) (hA : Sl W B A us) (hm : M.length = m) (hM : AreThings W (New K w W) jb us M) (hb : n + m ≤ 1000000)
    (h : ∀ v' W', TR w K jb W' v' (n + m) (l ++ M) → wpList Tryz.prog ops Q rest (a.put o.dst v') W') :
    wpList Tryz.prog ops Q (o :: rest) a W := by
  obtain ⟨⟨vs, h1, h2, h3⟩, h4, h5⟩ := hT
  refine WAppend.wl_append hgd s x 59 ho w.heap.size 47 8 elemT v n vs hs h1 B A m c us hx (by rw [hM.1, hm]) hA (things_one hM) (by omega) (by unfold maxLen; omega) h5.size ?_
  intro v' W' g1 g2 g3
  have hk := new_grown h1 g2 h5.size ht
  have hAT : AreThings W' (New K w W') jb (vs ++ us) (l ++ M) := AreThings.append (h2.keep hk (new_up g2.size hk)) (hM.keep hk (new_up g2.size hk))
  exact h v' W' ⟨⟨vs ++ us, g1, hAT, things_one hAT⟩, by simp [h4, hm], h5.grown g2 h5.size (fun j hj => own_ge h1 j hj)⟩
end Go.Proofs.YtmlgchmladkfpaaGreatDoor.NMake
/- What a checkpoint leaves to do. -/
namespace Go.Proofs.YtmlgchmladkfpaaGreatDoor.NCheck
open Go.RowKit WMem WPlain WAppend Ext Map DPlain DMem EPlain EMem EFace JPlain NPlain NMem NFace NMake ECommit EWrites

theorem got_at {w w1 : World} {P : List (Nat × Bk)} {v : Value} {ys : List Value} (h : Got w w1 P v ys) : ∃ A c, v = .slice A P.length c ∧ P.length ≤ c ∧ ∀ (i : Nat) (hi : i < P.length), ∃ g u, A = some ⟨g, 0, none⟩ ∧ w.heap.size ≤ g ∧ g < w1.heap.size ∧ w1.cell? ⟨g, i * 2, none⟩ = some (.int .i64 (P[i].1 : Int)) ∧ w1.cell? ⟨g, i * 2 + 1, none⟩ = some u ∧ IsBlk w1 (fun q => w.heap.size ≤ q ∧ q < w1.heap.size) u P[i].2 ∧ w1.heap[g]? ≠ none ∧ ¬ IsRow w1 g := by
  have hlt := own_lt h.own
  have hge := own_ge h.own
  obtain ⟨A, c, rfl, hc, hat⟩ := own_cell2 (S := fun _ => True) ⟨own_base h.own (fun _ _ => Nat.zero_le _), fun _ _ => trivial⟩
  refine ⟨A, c, rfl, hc, fun i hi => ?_⟩
  obtain ⟨u, h1, h2, h3⟩ := h.each.2 i hi
  obtain ⟨g, rfl, _, g1⟩ := hat _ _ h1
  obtain ⟨g', e, _, g2⟩ := hat _ _ h2
  injection e with e
  injection e with e _
  subst e
  have hb := World.block_lt_of_cell? _ _ g1
  refine ⟨g, u, rfl, hge g rfl, hb, g1, g2, h3, fun e0 => ?_, fun ⟨cs, fz, hr⟩ => ?_⟩
  · rw [Array.getElem?_eq_none_iff] at e0
    simp only at hb
    omega
  · exact JTold.own_ne h.own hr (by decide) rfl
theorem nums_at {f : Nat → Option Bk} {N i : Nat} (hi : i < (wrs f N).length) : ∃ h2 : i < (numsOf f N).length, (wrs f N)[i].1 = (numsOf f N)[i] := by
  have h2 : i < (numsOf f N).length := by simpa [wrs] using hi
  exact ⟨h2, by simp [wrs]⟩
theorem elemF : WAppend.Elem Tryz.prog 99 1 8 := ⟨by kernel_rfl, by
  obtain ⟨i, h1, h2, h3, h4⟩ := info_parts (P := Tryz.prog) (e := 1) (z := .nilFunc) (size := 1) (bytes := 8) (by kernel_rfl)
  exact ⟨i, _, h1, h2, h3, h4, rfl⟩⟩
theorem come_one {w : World} {K : Nat → Prop} {jb : Nat} {v : Value} {c : Come} (h : ComeIs w K jb v c) : v.oneCell' = true := by
  cases c with
  | empty => obtain rfl := h; rfl
  | fin => obtain rfl := h; rfl
  | part => obtain rfl := h; rfl
  | laid k bs => obtain ⟨_, _, _, _, _, _, _, rfl, _⟩ := h; rfl
theorem krow_own {w W : World} {K : Nat → Prop} {T : TypeId} {v : Value} {n : Nat} {vs : List Value} (h : W.ownsRow w.heap.size T 1 v n vs) (hT : T ≠ 47) : ∃ A c, v = .slice A n c ∧ n ≤ c ∧ KRow W (New K w W) A vs := by
  have hlt := own_lt h
  have hge := own_ge h
  obtain ⟨A, c, rfl, hc, hat⟩ := own_cell1 (S := fun _ => True) ⟨own_base h (fun _ _ => Nat.zero_le _), fun _ _ => trivial⟩
  refine ⟨A, c, rfl, hc, fun i u hu => ?_⟩
  obtain ⟨g, rfl, _, hcl⟩ := hat i u hu
  refine ⟨_, rfl, .inr ⟨hge g rfl, hlt g rfl, fun ⟨cs, fz, hr⟩ => JTold.own_ne h hr hT rfl⟩, ?_⟩
  have hadd : (⟨g, 0, none⟩ : Addr).add i = ⟨g, i, none⟩ := by unfold Addr.add; split <;> simp_all
  rw [hadd]
  exact hcl
set_option maxRecDepth 100000 in
set_option maxHeartbeats 2000000 in
theorem checkpoint_any {w : World} {K : Nat → Prop} {ρ : Ro} {D : Nat → Prop} {jb b db : Nat} {s : Sto} (h : EFace.Own w ρ D b db s) (cj : w.cell? ⟨jb, 0, none⟩ = some (.pointer (some ⟨b, 0, none⟩))) (ht : There K w)
    (bs : List Come) (Ab : Option Addr) (cb : Nat) (vb : List Value) (hr : KRow w K Ab vb) (hl : vb.length = bs.length) (hc : ∀ (i : Nat) (h : i < bs.length), ∃ v, vb[i]? = some v ∧ ComeIs w K jb v bs[i]) (hbs : bs.length ≤ 10) :
    Calls Tryz.prog 87 #[.pointer (some ⟨jb, 0, none⟩), .slice Ab bs.length cb] w fun e w' =>
      ∃ v, e = .returned v ∧ TR w K jb w' v (checkpoint s bs).length (checkpoint s bs) := by
  have HW := Lib.hid (Waiting_own h)
  have hjl : jb < w.heap.size := World.block_lt_of_cell? w _ cj
  have hpl : (wrs s.wai s.N).length ≤ 4096 := by
    have h1 := List.length_filter_le (fun n => (s.wai n).isSome) (List.range s.N)
    have := h.len.2
    rw [List.length_range] at h1
    simp only [wrs, List.length_map, numsOf]
    omega
  have HR := Lib.hid hr
  have HL := Lib.hid hl
  have HC := Lib.hid hc
  have HT := Lib.hid ht
  have HCK : Hid (checkpoint s bs = (numsOf s.wai s.N).map .home ++ [.flush [], .head, .flush (.empty :: bs)]) := Lib.hid rfl
  have HPN : Hid ((wrs s.wai s.N).length = (numsOf s.wai s.N).length) := Lib.hid (by simp [wrs])
  have HPA := Lib.hid (fun i (hi : i < (wrs s.wai s.N).length) => nums_at hi)
  generalize checkpoint s bs = CK at *
  generalize wrs s.wai s.N = P at *
  generalize numsOf s.wai s.N = ns at *
  clear hr hl hc ht h
  go_enter Tryz.func87, Tryz.ntmps87
  go_wp2_with fail
  refine HW.out.mono ?_
  rintro e w1 ⟨v, ys, rfl, hgot, hb1⟩
  obtain ⟨A, c, rfl, _, hat⟩ := got_at hgot
  have HAT := Lib.hid hat
  have HB1 := Lib.hid hb1
  have hs1 := hb1.size
  clear hgot hat hb1
  obtain ⟨n, hn⟩ : ∃ n, P.length = n := ⟨_, rfl⟩
  have HN := Lib.hid hn
  rw [hn] at hpl ⊢
  clear hn
  have HT1 := Lib.hid (HT.out.up hs1)
  go_wp2_with fail
  go_loopw [5, 14] (fun v5 i wr => ∃ k : Nat, k ≤ n ∧ i = .int .i64 k ∧ TR w1 K jb wr v5 k ((ns.take k).map .home)) (fun _ i _ => n - (intOf i).toNat)
  case atStart => exact ⟨0, Nat.zero_le _, rfl, TR.nil w1 K jb⟩
  case round =>
    obtain ⟨k, hk, rfl, htr⟩ := hrel
    have HTR := Lib.hid htr
    have HBW := Lib.hid htr.below
    have hbw := htr.below
    have hsw := hbw.size
    have hsz := htr.below.size
    clear htr hbw
    by_cases hlt : k < n
    · have hlt' : k < P.length := by rw [HN.out]; exact hlt
      obtain ⟨g, u, rfl, hg1, hg2, c0, c1, hblk, _⟩ := HAT.out k hlt'
      obtain ⟨hk2, hpe⟩ := HPA.out k hlt'
      have HTK : Hid ((ns.take (k + 1)).map Thing.home = (ns.take k).map .home ++ [.home ns[k]]) := Lib.hid (by rw [List.take_succ_eq_append_getElem hk2, List.map_append]; rfl)
      rw [hpe] at c0
      generalize ns[k] = nk at *
      have c0 := (HBW.out.cell (p := ⟨g, k * 2, none⟩) hg2).trans c0
      have c1 := (HBW.out.cell (p := ⟨g, k * 2 + 1, none⟩) hg2).trans c1
      obtain ⟨gu, cu, ru, rfl, _⟩ := hblk
      have hk0 : (0 : Int) ≤ (k : Int) := by omega
      have hk1 : (k : Int) < (n : Int) := by omega
      clear hpe
      go_wp2_with fail
      have HTR1 := Lib.hid (HTR.out.go (JMem.below_box (.cells #[.int .i64 (nk : Int), .slice (some ⟨gu, 0, none⟩) 256 cu] 115)) HT1.out)
      have HBW1 := Lib.hid (HBW.out.alloc hsw (.cells #[.int .i64 (nk : Int), .slice (some ⟨gu, 0, none⟩) 256 cu] 115))
      have hsz1 := HTR1.out.below.size
      have hsw1 := HBW1.out.size
      clear c0 c1
      generalize wr.alloc (.cells #[.int .i64 (nk : Int), .slice (some ⟨gu, 0, none⟩) 256 cu] 115) = W1 at *
      refine (home_any (New K w1 W1) jb nk W1).mono ?_
      rintro e w3 ⟨f, cs, rfl, hth, hb3⟩
      have hkk : ∀ q, New K w1 W1 q → w3.heap[q]? = W1.heap[q]? := fun q hq => hb3.block q (new_there HT1.out hsz1 q hq)
      have hth2 : ThingIs w3 (New K w1 w3) jb (.func f #[] cs) (.home nk) := hth.keep (fun _ _ => rfl) (new_step hsz1 hb3.size hkk)
      have hs3 : w1.heap.size ≤ w3.heap.size := Nat.le_trans hsz1 hb3.size
      have hb4 : Below w3.heap.size w3 (w3.alloc (.cells #[.func f #[] cs] 47)) := JMem.below_box _
      have hk4 : ∀ q, New K w1 w3 q → (w3.alloc (.cells #[.func f #[] cs] 47)).heap[q]? = w3.heap[q]? := fun q hq => hb4.block q (new_there HT1.out hs3 q hq)
      have HTH := Lib.hid (hth2.keep (w' := w3.alloc (.cells #[.func f #[] cs] 47)) hk4 (new_up hb4.size hk4))
      have HTR3 := Lib.hid ((HTR1.out.go hb3 HT1.out).go hb4 HT1.out)
      have HBW3 := Lib.hid ((below_up HBW1.out hb3 hsw1).trans (hb4.mono (by have := hb3.size; omega)))
      have HSL := Lib.hid (Sl.of_row (row_new w3 (.cells #[.func f #[] cs] 47)) (B := w3.heap.size + 1) (by simp) (n := 1) rfl)
      clear hth hb3 hkk hth2 hb4 hk4
      go_wp2_with (at_builtin; go_loud (refine wl_things rfl (.tmp 18) (.tmp 23) rfl u5 k _ rfl HTR3.out HT1.out _ (some ⟨w3.heap.size, 0, none⟩) 1 1 [.func f #[] cs] [.home nk] rfl HSL.out rfl ⟨rfl, fun i hi => ?_⟩ (by omega) ?_))
      · obtain rfl : i = 0 := by simpa using hi
        exact ⟨_, rfl, HTH.out⟩
      · intro v' W' hT2
        have HT2 := Lib.hid hT2
        clear hT2 HTR3 HBW3 HTH HSL HTR1 HBW1 HTR HBW
        go_wp2
        go_roundw
        case rel => exact ⟨k + 1, by omega, by go_num, by rw [HTK.out, List.map_take]; exact HT2.out⟩
        case measure => simp [intOf]; omega
    · obtain rfl : k = n := by omega
      have hfull : (ns.take k).map Thing.home = ns.map .home := by rw [List.take_of_length_le (by have := HPN.out; have := HN.out; omega)]
      rw [hfull] at HTR
      have d1 : ¬ ((k : Int) < (k : Int)) := by omega
      clear hfull
      have cjw : wr.cell? ⟨jb, 0, none⟩ = some (.pointer (some ⟨b, 0, none⟩)) := (HBW.out.cell (p := ⟨jb, 0, none⟩) (show jb < w1.heap.size by omega)).trans ((HB1.out.cell (p := ⟨jb, 0, none⟩) hjl).trans cj)
      go_wp2_with fail
      refine (flush_any (New K w1 wr) jb [] none 0 [] wr (fun i v hv => (by cases hv)) rfl (fun i hi => (by cases hi)) (new_there HT1.out hsw)).mono ?_
      rintro e w3 ⟨f, cs, rfl, hth, hb3⟩
      have hk3 : ∀ q, New K w1 wr q → w3.heap[q]? = wr.heap[q]? := fun q hq => hb3.block q (new_there HT1.out hsw q hq)
      have HF1 := Lib.hid (hth.keep (fun _ _ => rfl) (new_step hsw hb3.size hk3))
      have HTR3 := Lib.hid (HTR.out.go hb3 HT1.out)
      have hs3 : w1.heap.size ≤ w3.heap.size := Nat.le_trans hsw hb3.size
      clear hth hb3 hk3
      have HBK3 := Lib.hid HTR3.out.below
      have HVB := Lib.hid (fun (W : World) (hW : Below w.heap.size w W) => HR.out.keep (w' := W) (K' := K) (fun q hq => hW.block q (HT.out q hq)) (fun _ h => h))
      have HVC := Lib.hid (fun (W : World) (hW : Below w.heap.size w W) i (hi : i < bs.length) => by
        obtain ⟨v, h1, h2⟩ := HC.out i hi
        exact (⟨v, h1, h2.keep (w' := W) (K' := K) (fun q hq => hW.block q (HT.out q hq)) (fun _ h => h)⟩ : ∃ v, vb[i]? = some v ∧ ComeIs W K jb v bs[i]))
      have hb4 : Below w3.heap.size w3 (w3.alloc (.cells #[.func (.func 114) #[.pointer (some ⟨jb, 0, none⟩)] #[]] 1)) := JMem.below_box _
      have hW4 : Below w.heap.size w (w3.alloc (.cells #[.func (.func 114) #[.pointer (some ⟨jb, 0, none⟩)] #[]] 1)) := (HB1.out.trans (HBK3.out.mono hs1)).trans (hb4.mono (by have := HBK3.out.size; omega))
      have HOW := Lib.hid (JPack.owns_of_rowV (T := 1) (xs := [.func (.func 114) #[.pointer (some ⟨jb, 0, none⟩)] #[]]) (base := w1.heap.size) (row_new w3 _) hs3 rfl (show 1 ≤ maxLen by unfold maxLen; decide))
      have HVS : Hid (Sl (w3.alloc (.cells #[.func (.func 114) #[.pointer (some ⟨jb, 0, none⟩)] #[]] 1)) (w3.heap.size + 1) Ab vb) := Lib.hid (fun i u hu => by
        obtain ⟨a, e, _, hcl⟩ := HVB.out _ hW4 i u hu
        refine ⟨a, e, ?_, hcl⟩
        have := World.block_lt_of_cell? _ _ hcl
        rw [addr_add_block] at this
        simpa using this)
      have HV1 : Hid (∀ u ∈ vb, u.oneCell' = true) := Lib.hid (fun u hu => by
        obtain ⟨i, hi, rfl⟩ := List.getElem_of_mem hu
        obtain ⟨v, hv, hcm⟩ := HC.out i (by rw [← HL.out]; exact hi)
        rw [List.getElem?_eq_getElem hi] at hv
        injection hv with hv
        rw [hv]
        exact come_one hcm)
      have HW4 := Lib.hid hW4
      clear hb4 hW4
      go_wp2_with (at_builtin; go_loud (refine wl_append rfl (.tmp 34) (.tmp 35) 99 rfl w1.heap.size 1 8 elemF (.slice (some ⟨w3.heap.size, 0, none⟩) 1 1) 1 _ rfl HOW.out (w3.heap.size + 1) Ab bs.length cb vb rfl HL.out.symm HVS.out HV1.out (by omega) (by unfold maxLen; omega) (by simp; omega) ?_); intro v36 w5 h1 h2 h3)
      obtain ⟨A6, c6, rfl, _, hkr⟩ := krow_own (K := K) h1 (by decide)
      have hB5 : Below w3.heap.size w3 w5 := (JMem.below_box _).grown h2 (by simp) (fun j hj => by
        have e : w3.heap.size = j := by simpa [Value.ownBlock] using hj
        exact Nat.le_of_eq e)
      have hs5 : w1.heap.size ≤ w5.heap.size := Nat.le_trans hs3 hB5.size
      have hk5 : ∀ q, New K w1 w3 q → w5.heap[q]? = w3.heap[q]? := fun q hq => hB5.block q (new_there HT1.out hs3 q hq)
      have HF5 := Lib.hid (HF1.out.keep hk5 (new_up hB5.size hk5))
      have HTR5 := Lib.hid (HTR3.out.go hB5 HT1.out)
      have hW5 : Below w.heap.size w w5 := (HB1.out.trans (HBK3.out.mono hs1)).trans (hB5.mono (by have := HBK3.out.size; omega))
      have hcm : ∀ (i : Nat) (h : i < (Come.empty :: bs).length), ∃ v, ([.func (.func 114) #[.pointer (some ⟨jb, 0, none⟩)] #[]] ++ vb)[i]? = some v ∧ ComeIs w5 (New K w1 w5) jb v (Come.empty :: bs)[i] := fun i hi => by
        cases i with
        | zero => exact ⟨_, rfl, rfl⟩
        | succ i =>
          obtain ⟨v, g1, g2⟩ := HVC.out w5 hW5 i (by simpa using hi)
          exact ⟨v, by simpa using g1, g2.keep (fun _ _ => rfl) new_old⟩
      have HFL := Lib.hid (flush_at (New K w1 w5) jb (.empty :: bs) (1 + bs.length) (by simp; omega) A6 c6 _ w5 hkr (by simp [HL.out]) hcm (new_there HT1.out hs5))
      clear h1 h2 h3 hkr hcm hk5 hB5 HTR3 HF1 HVS HVB HVC HOW HBK3 HBW
      refine HFL.out.mono ?_
      rintro e w6 ⟨f6, cs6, rfl, hth6, hb6⟩
      have hk6 : ∀ q, New K w1 w5 q → w6.heap[q]? = w5.heap[q]? := fun q hq => hb6.block q (new_there HT1.out hs5 q hq)
      have hs6 : w1.heap.size ≤ w6.heap.size := Nat.le_trans hs5 hb6.size
      have hF6 := HF5.out.keep hk6 (new_up hb6.size hk6)
      have hG6 := hth6.keep (fun _ _ => rfl) (new_step hs5 hb6.size hk6)
      have hT6 := HTR5.out.go hb6 HT1.out
      have hb7 : Below w6.heap.size w6 (w6.alloc (.cells #[.func f #[] cs, .func (.func 113) #[.pointer (some ⟨jb, 0, none⟩)] #[], .func f6 #[] cs6] 47)) := JMem.below_box _
      have hk7 : ∀ q, New K w1 w6 q → (w6.alloc (.cells #[.func f #[] cs, .func (.func 113) #[.pointer (some ⟨jb, 0, none⟩)] #[], .func f6 #[] cs6] 47)).heap[q]? = w6.heap[q]? := fun q hq => hb7.block q (new_there HT1.out hs6 q hq)
      have HA7 : Hid (AreThings (w6.alloc (.cells #[.func f #[] cs, .func (.func 113) #[.pointer (some ⟨jb, 0, none⟩)] #[], .func f6 #[] cs6] 47)) (New K w1 (w6.alloc (.cells #[.func f #[] cs, .func (.func 113) #[.pointer (some ⟨jb, 0, none⟩)] #[], .func f6 #[] cs6] 47))) jb [.func f #[] cs, .func (.func 113) #[.pointer (some ⟨jb, 0, none⟩)] #[], .func f6 #[] cs6] [.flush [], .head, .flush (.empty :: bs)]) := Lib.hid ⟨rfl, fun i hi => by
        match i, hi with
        | 0, _ => exact ⟨_, rfl, hF6.keep hk7 (new_up hb7.size hk7)⟩
        | 1, _ => exact ⟨_, rfl, rfl⟩
        | 2, _ => exact ⟨_, rfl, hG6.keep hk7 (new_up hb7.size hk7)⟩⟩
      have HTR7 := Lib.hid (hT6.go hb7 HT1.out)
      have HS7 := Lib.hid (Sl.of_row (row_new w6 (.cells #[.func f #[] cs, .func (.func 113) #[.pointer (some ⟨jb, 0, none⟩)] #[], .func f6 #[] cs6] 47)) (B := w6.heap.size + 1) (by simp) (n := 3) rfl)
      have HNL : Hid ((ns.map Thing.home).length = k) := Lib.hid (by rw [List.length_map]; have := HPN.out; have := HN.out; omega)
      clear hth6 hb6 hk6 hF6 hG6 hT6 hb7 hk7 HFL HF5 HTR5
      go_wp2_with (at_builtin; go_loud (refine wl_things rfl (.tmp 26) (.tmp 38) rfl u5 k _ rfl HTR7.out HT1.out _ (some ⟨w6.heap.size, 0, none⟩) 3 3 _ [.flush [], .head, .flush (.empty :: bs)] rfl HS7.out rfl HA7.out (by omega) ?_); intro v' W' hT8)
      go_ret
      refine ⟨_, rfl, ?_⟩
      rw [HCK.out]
      have e : (List.map Thing.home ns ++ ([.flush [], .head, .flush (.empty :: bs)] : List Thing)).length = k + 3 := by rw [List.length_append, HNL.out]; rfl
      rw [e]
      exact hT8.base HB1.out
end Go.Proofs.YtmlgchmladkfpaaGreatDoor.NCheck
/- Stop. -/
namespace Go.Proofs.YtmlgchmladkfpaaGreatDoor.NStop
open Go.RowKit WMem WPlain Ext Map DPlain DMem EPlain EMem EFace JPlain NPlain NMem NFace NCred
section
variable {w : World} {K : Nat → Prop} {ρ : Ro} {D : Nat → Prop} {jb ml mc b db : Nat} {j : Jr} {s : Sto} (h : JO w ρ D K jb ml mc b db j s)
include h
theorem Stop_bad (n : Int) (hf : Fits n) (hn : ∀ m : Nat, n = (m : Int) → j.cred m = none) : Calls Tryz.prog 18 #[.pointer (some ⟨jb, 0, none⟩), .int .i64 n] w fun e w' => e = .returned (.int .i64 22) ∧ w = w' := by
  have HM := Lib.hid (Made_own h)
  obtain ⟨A, c, hx, ht, hc⟩ := h.jx
  have c7 := hx.cells.2.2.2.2.2.2.2.1
  obtain ⟨g, q1, q2, q3⟩ := hx.cred
  have hl := q1.look2 underC zeroC hf
  have hz : g n = none := by
    cases hg : g n with
    | none => rfl
    | some v =>
      obtain ⟨m, c, e1, e2, e3, e4, _⟩ := q2 n v hg
      rw [hn m e1] at e4
      cases e4
  rw [hz] at hl
  have hl2 : (Instr.lookup 103 (.map (some mc)) (.int .i64 n) true).run Tryz.prog w = .ok (.tuple #[.int .i64 0, .bool false]) w := hl
  clear hl hz q1 q2 q3 hx ht hc h
  go_enter Tryz.func18, Tryz.ntmps18
  go_wp2_with (go_at_call 50; refine HM.out.mono ?_; rintro e w' ⟨rfl, rfl⟩)
  go_ret
  exact ⟨rfl, rfl⟩
theorem Stop_go (n c : Nat) (hn : j.cred n = some c) (hh : j.handles ≤ 1073741824) : Calls Tryz.prog 18 #[.pointer (some ⟨jb, 0, none⟩), .int .i64 (n : Int)] w fun e w' => e = .returned (.int .i64 0) ∧ JGo w w' ρ D K ρ D K jb ml mc b db (j.stop n) s := by
  have HM := Lib.hid (Made_own h)
  have HO := Lib.hid h
  obtain ⟨A, c', hx, ht, hc⟩ := h.jx
  have c7 := hx.cells.2.2.2.2.2.2.2.1
  obtain ⟨g, q1, q2, q3⟩ := id hx.cred
  obtain ⟨v, hv⟩ : ∃ v, g (n : Int) = some v := by
    cases hg : g (n : Int) with
    | none => rw [q3 n hg] at hn; cases hn
    | some v => exact ⟨v, rfl⟩
  obtain ⟨m, c2, e1, e2, e3, e4, rfl⟩ := q2 n v hv
  obtain rfl : n = m := by omega
  have hf : Fits (n : Int) := ⟨by omega, by omega⟩
  have hl := q1.look2 underC zeroC hf
  rw [hv] at hl
  have hl2 : (Instr.lookup 103 (.map (some mc)) (.int .i64 (n : Int)) true).run Tryz.prog w = .ok (.tuple #[.int .i64 (c2 : Int), .bool true]) w := hl
  obtain ⟨w2, hrun, hm, hturn⟩ := q1.drop underC hf 0
  have he : Ext (fun x => x = mc) w w2 := ext_map hturn rfl
  have hk : ∀ q, q ≠ mc → w2.heap[q]? = w.heap[q]? := fun q hq => turned_far hturn hq
  have hx2 : JX w2 K jb ml mc b db s.N (j.stop n) (.slice A j.left.length c') := by
    obtain ⟨n1, n2⟩ := hx.ne1
    refine ⟨(hk jb n2).trans hx.block, hx.live.keep (hk ml hx.ne), ⟨_, hm, fun k u hu => ?_, fun m hmn => ?_⟩, hx.nk, hx.ne, hx.there.up he.size⟩
    · unfold del at hu
      split at hu
      · cases hu
      · rename_i e
        obtain ⟨m, c, a1, a2, a3, a4, a5⟩ := q2 k u hu
        exact ⟨m, c, a1, a2, a3, (if_neg (by omega)).trans a4, a5⟩
    · unfold del at hmn
      split at hmn
      · rename_i e
        exact if_pos (by omega)
      · rename_i e
        exact (if_neg (by omega)).trans (q3 m hmn)
  have HG := Lib.hid (JO.turned (j' := j.stop n) h he (fun x hq => .inr (.inr hq)) hx2 (Things.own3 ht hx.there hx.nk he (fun x hq => .inr (.inr hq))) hc)
  clear hl q1 q2 q3 hx ht hc h hv hm hturn he hk hx2 HO e4
  go_enter Tryz.func18, Tryz.ntmps18
  go_wp2_with (go_at_call 50; refine HM.out.mono ?_; rintro e w' ⟨rfl, rfl⟩)
  go_ret
  exact ⟨rfl, HG.out⟩
end
end Go.Proofs.YtmlgchmladkfpaaGreatDoor.NStop
/- New. -/
namespace Go.Proofs.YtmlgchmladkfpaaGreatDoor.NNew
open Go.RowKit WMem WPlain Ext Map DPlain DMem EPlain EMem EFace JPlain NPlain NMem NFace NCred

def geoV (b p n j : Int) : Value := .agg #[.int .i64 b, .int .i64 p, .int .i64 n, .int .i64 j]
theorem six {w w' : World} {g b db : Nat} {v0 v1 v2 v3 v4 v5 : Value} (hb : Below w.heap.size w w') (l0 : g < w.heap.size) (l1 : b < w.heap.size) (l2 : db < w.heap.size)
    (h : w.cell? ⟨g, 0, none⟩ = some v0 ∧ w.cell? ⟨g, 1, none⟩ = some v1 ∧ w.cell? ⟨g, 2, none⟩ = some v2 ∧ w.cell? ⟨g, 3, none⟩ = some v3 ∧ w.cell? ⟨b, 0, none⟩ = some v4 ∧ w.cell? ⟨db, 0, none⟩ = some v5) :
    w'.cell? ⟨g, 0, none⟩ = some v0 ∧ w'.cell? ⟨g, 1, none⟩ = some v1 ∧ w'.cell? ⟨g, 2, none⟩ = some v2 ∧ w'.cell? ⟨g, 3, none⟩ = some v3 ∧ w'.cell? ⟨b, 0, none⟩ = some v4 ∧ w'.cell? ⟨db, 0, none⟩ = some v5 :=
  ⟨(hb.cell (p := ⟨g, 0, none⟩) l0).trans h.1, (hb.cell (p := ⟨g, 1, none⟩) l0).trans h.2.1, (hb.cell (p := ⟨g, 2, none⟩) l0).trans h.2.2.1, (hb.cell (p := ⟨g, 3, none⟩) l0).trans h.2.2.2.1, (hb.cell (p := ⟨b, 0, none⟩) l1).trans h.2.2.2.2.1, (hb.cell (p := ⟨db, 0, none⟩) l2).trans h.2.2.2.2.2⟩
theorem made_jx (w : World) (b db ring seq at_ : Nat) (N : Nat) : JX (((w.alloc (.map #[] 0)).alloc (.map #[] 0)).alloc (.cells (jcells (w.heap.size + 2) b db w.heap.size (w.heap.size + 1) (Jr.new ring seq at_) (.slice none 0 0)) 105)) (fun _ => False) (w.heap.size + 2) w.heap.size (w.heap.size + 1) b db N (Jr.new ring seq at_) (.slice none 0 0) := by
  have m1 := ((MapIs.made w).alloc (.map #[] 0)).alloc (.cells (jcells (w.heap.size + 2) b db w.heap.size (w.heap.size + 1) (Jr.new ring seq at_) (.slice none 0 0)) 105)
  have m2 := (MapIs.made (w.alloc (.map #[] 0))).alloc (.cells (jcells (w.heap.size + 2) b db w.heap.size (w.heap.size + 1) (Jr.new ring seq at_) (.slice none 0 0)) 105)
  have r := row_new ((w.alloc (.map #[] 0)).alloc (.map #[] 0)) (.cells (jcells (w.heap.size + 2) b db w.heap.size (w.heap.size + 1) (Jr.new ring seq at_) (.slice none 0 0)) 105)
  simp only [World.size_alloc, Nat.add_assoc, Nat.reduceAdd] at r m2
  refine ⟨r, ⟨_, m1.mono (Nat.zero_le _), fun k v hv => (by cases hv), fun _ _ => rfl⟩, ⟨_, m2.mono (Nat.zero_le _), fun k v hv => (by cases hv), fun _ _ => rfl⟩, ⟨id, id, id⟩, by omega, fun q hq => hq.elim⟩
set_option maxRecDepth 100000 in
set_option maxHeartbeats 1000000 in
theorem New_go {w : World} {ρ : Ro} {D : Nat → Prop} {b db : Nat} {s : Sto} (h : EFace.Own w ρ D b db s) (N : Nat) (hN : s.N = N) (p n jr : Int) (hm : GPlain.mayB N p n jr = true) (seq at_ ring : Nat) (hring : jr - 1 = (ring : Int)) (hs1 : 1 ≤ seq) (hs2 : seq ≤ 1073741824) (ha : at_ < ring) (hr : ring ≤ 4096) :
    Calls Tryz.prog 13 #[.pointer (some ⟨b, 0, none⟩), .pointer (some ⟨db, 0, none⟩), .agg #[.int .i64 (N : Int), .int .i64 p, .int .i64 n, .int .i64 jr], .int .i64 (seq : Int), .int .i64 (at_ : Int)] w fun e w' =>
      ∃ jb ml mc, e = .returned (.tuple #[.pointer (some ⟨jb, 0, none⟩), .int .i64 0]) ∧ JO w' ρ D (fun _ => False) jb ml mc b db (Jr.new ring seq at_) s ∧ Below w.heap.size w w' ∧ w.heap.size ≤ jb ∧ w.heap.size ≤ ml ∧ w.heap.size ≤ mc := by
  have HCK := Lib.hid (fun w' => GFace.Check_any (N : Int) p n jr w')
  have hck : GPlain.chk (N : Int) p n jr = 0 := by unfold GPlain.chk; rw [if_pos hm]
  rw [hck] at HCK
  have l1 : b < w.heap.size := by
    have := h.c0
    have := World.block_lt_of_cell? w _ this
    exact this
  have l2 : db < w.heap.size := h.dd.there db (by obtain ⟨_, _, _, _, _, _, _, _, hx, _⟩ := h.dd; exact hx.here)
  have c0 := h.c0
  have d0 : w.cell? ⟨db, 0, none⟩ = some (.int .i64 (N : Int)) := by have := h.dd.c0; rw [← hN]; exact this
  have HO := Lib.hid h
  have q0 : ((N : Int) != (N : Int)) = false := by simp
  have hb1 : jr ≤ 5000 ∧ 0 ≤ jr := by omega
  have d1 : ¬ ((seq : Int) < 1) := by omega
  have d2 : ¬ ((1073741824 : Int) < (seq : Int)) := by omega
  have d3 : ¬ ((ring : Int) ≤ (at_ : Int)) := by omega
  have d4 : ¬ ((at_ : Int) < 0) := by omega
  clear h hck hm
  go_enter Tryz.func13, Tryz.ntmps13
  go_wp2_with fail
  have b0 : (w.alloc (.cells #[.int .i64 (N : Int), .int .i64 p, .int .i64 n, .int .i64 jr] 35)).cell? ⟨w.heap.size, 0, none⟩ = some (.int .i64 (N : Int)) := (row_cell (row_new w _) 0).trans rfl
  have b1 : (w.alloc (.cells #[.int .i64 (N : Int), .int .i64 p, .int .i64 n, .int .i64 jr] 35)).cell? ⟨w.heap.size, 1, none⟩ = some (.int .i64 p) := (row_cell (row_new w _) 1).trans rfl
  have b2 : (w.alloc (.cells #[.int .i64 (N : Int), .int .i64 p, .int .i64 n, .int .i64 jr] 35)).cell? ⟨w.heap.size, 2, none⟩ = some (.int .i64 n) := (row_cell (row_new w _) 2).trans rfl
  have b3 : (w.alloc (.cells #[.int .i64 (N : Int), .int .i64 p, .int .i64 n, .int .i64 jr] 35)).cell? ⟨w.heap.size, 3, none⟩ = some (.int .i64 jr) := (row_cell (row_new w _) 3).trans rfl
  have b4 : (w.alloc (.cells #[.int .i64 (N : Int), .int .i64 p, .int .i64 n, .int .i64 jr] 35)).cell? ⟨b, 0, none⟩ = some (.pointer (some ⟨db, 0, none⟩)) := (World.cell?_alloc_lt w _ ⟨b, 0, none⟩ l1).trans c0
  have b5 : (w.alloc (.cells #[.int .i64 (N : Int), .int .i64 p, .int .i64 n, .int .i64 jr] 35)).cell? ⟨db, 0, none⟩ = some (.int .i64 (N : Int)) := (World.cell?_alloc_lt w _ ⟨db, 0, none⟩ l2).trans d0
  have HB0 := Lib.hid (JMem.below_box (w := w) (.cells #[.int .i64 (N : Int), .int .i64 p, .int .i64 n, .int .i64 jr] 35))
  have hs0 : (w.alloc (.cells #[.int .i64 (N : Int), .int .i64 p, .int .i64 n, .int .i64 jr] 35)).heap.size = w.heap.size + 1 := by simp
  generalize w.alloc (.cells #[.int .i64 (N : Int), .int .i64 p, .int .i64 n, .int .i64 jr] 35) = W at *
  have HS0 := Lib.hid hs0
  have HSIX := Lib.hid (show W.cell? ⟨w.heap.size, 0, none⟩ = _ ∧ W.cell? ⟨w.heap.size, 1, none⟩ = _ ∧ W.cell? ⟨w.heap.size, 2, none⟩ = _ ∧ W.cell? ⟨w.heap.size, 3, none⟩ = _ ∧ W.cell? ⟨b, 0, none⟩ = _ ∧ W.cell? ⟨db, 0, none⟩ = _ from ⟨b0, b1, b2, b3, b4, b5⟩)
  clear hs0 c0 d0
  go_region_held3 (fun w' => w'.cell? ⟨w.heap.size, 0, none⟩ = some (.int .i64 (N : Int)) ∧ w'.cell? ⟨w.heap.size, 1, none⟩ = some (.int .i64 p) ∧ w'.cell? ⟨w.heap.size, 2, none⟩ = some (.int .i64 n) ∧ w'.cell? ⟨w.heap.size, 3, none⟩ = some (.int .i64 jr) ∧ w'.cell? ⟨b, 0, none⟩ = some (.pointer (some ⟨db, 0, none⟩)) ∧ w'.cell? ⟨db, 0, none⟩ = some (.int .i64 (N : Int)))
    (first | exact HS2.out | (go_keep; done))
    ((first
      | (go_at_call 48; refine (HCK.out _).mono ?_; rintro e w2 ⟨rfl, hb2⟩
         have HS2 := Lib.hid (six hb2 (show w.heap.size < W.heap.size by have := HS0.out; omega) (show b < W.heap.size by have := HS0.out; omega) (show db < W.heap.size by have := HS0.out; omega) HSIX.out)
         have HB2 := Lib.hid (show Below W.heap.size W w2 from ⟨hb2.os, hb2.tape, hb2.output, hb2.size, hb2.block⟩))
      | (go_at_call 49; refine (SBlocks_at b db (N : Int) w2 HS2.out.2.2.2.2.1 HS2.out.2.2.2.2.2).mono ?_; rintro e w' ⟨rfl, rfl⟩)
      | (go_at_call 46; refine (DBase.Blocks_at db (N : Int) w2 HS2.out.2.2.2.2.2).mono ?_; rintro e w' ⟨rfl, rfl⟩)))
  have hmm := @run_makeMap Tryz.prog
  have g3 := HS2.out.2.2.2.1
  have HBW := Lib.hid (HB0.out.trans (HB2.out.mono (by have := HS0.out; omega)))
  have hsw := HBW.out.size
  have HJX := Lib.hid (made_jx w2 b db ring seq at_ s.N)
  have HJB := Lib.hid (((HBW.out.alloc hsw (.map #[] 0)).alloc (by simp; omega) (.map #[] 0)).alloc (by simp; omega) (.cells (jcells (w2.heap.size + 2) b db w2.heap.size (w2.heap.size + 1) (Jr.new ring seq at_) (.slice none 0 0)) 105))
  clear hb2
  go_wp2_with fail
  go_ret2
  refine ⟨w2.heap.size + 2, w2.heap.size, w2.heap.size + 1, rfl, ⟨HO.out.below HJB.out, ⟨none, 0, HJX.out, ⟨[], fun i v hv => (by cases hv), rfl, fun i hi => (by cases hi)⟩, Nat.le_refl _⟩, fun q h1 h2 => ?_⟩, HJB.out, by omega, by omega, by omega⟩
  have := HO.out.there q h2
  rcases h1 with e | e | e | e
  · omega
  · omega
  · omega
  · exact e
end Go.Proofs.YtmlgchmladkfpaaGreatDoor.NNew
/- New with a number that no transaction may have. -/
namespace Go.Proofs.YtmlgchmladkfpaaGreatDoor.NNew2
open Go.RowKit WMem WPlain Ext Map DPlain DMem EPlain EMem EFace JPlain NPlain NMem NFace NCred NNew
set_option maxRecDepth 100000 in
set_option maxHeartbeats 1000000 in
theorem New_seq {w : World} {ρ : Ro} {D : Nat → Prop} {b db : Nat} {s : Sto} (h : EFace.Own w ρ D b db s) (N : Nat) (hN : s.N = N) (p n jr : Int) (hm : GPlain.mayB N p n jr = true) (hjr : jr ≤ 5000 ∧ 0 ≤ jr) (seq at_ : Int) (hs1 : seq < 1) :
    Calls Tryz.prog 13 #[.pointer (some ⟨b, 0, none⟩), .pointer (some ⟨db, 0, none⟩), .agg #[.int .i64 (N : Int), .int .i64 p, .int .i64 n, .int .i64 jr], .int .i64 seq, .int .i64 at_] w fun e w' =>
      e = .returned (.tuple #[.pointer none, .int .i64 22]) ∧ Below w.heap.size w w' := by
  have HCK := Lib.hid (fun w' => GFace.Check_any (N : Int) p n jr w')
  have hck : GPlain.chk (N : Int) p n jr = 0 := by unfold GPlain.chk; rw [if_pos hm]
  rw [hck] at HCK
  have l1 : b < w.heap.size := by
    have := h.c0
    have := World.block_lt_of_cell? w _ this
    exact this
  have l2 : db < w.heap.size := h.dd.there db (by obtain ⟨_, _, _, _, _, _, _, _, hx, _⟩ := h.dd; exact hx.here)
  have c0 := h.c0
  have d0 : w.cell? ⟨db, 0, none⟩ = some (.int .i64 (N : Int)) := by have := h.dd.c0; rw [← hN]; exact this
  have q0 : ((N : Int) != (N : Int)) = false := by simp
  clear h hck hm
  go_enter Tryz.func13, Tryz.ntmps13
  go_wp2_with fail
  have b0 : (w.alloc (.cells #[.int .i64 (N : Int), .int .i64 p, .int .i64 n, .int .i64 jr] 35)).cell? ⟨w.heap.size, 0, none⟩ = some (.int .i64 (N : Int)) := (row_cell (row_new w _) 0).trans rfl
  have b1 : (w.alloc (.cells #[.int .i64 (N : Int), .int .i64 p, .int .i64 n, .int .i64 jr] 35)).cell? ⟨w.heap.size, 1, none⟩ = some (.int .i64 p) := (row_cell (row_new w _) 1).trans rfl
  have b2 : (w.alloc (.cells #[.int .i64 (N : Int), .int .i64 p, .int .i64 n, .int .i64 jr] 35)).cell? ⟨w.heap.size, 2, none⟩ = some (.int .i64 n) := (row_cell (row_new w _) 2).trans rfl
  have b3 : (w.alloc (.cells #[.int .i64 (N : Int), .int .i64 p, .int .i64 n, .int .i64 jr] 35)).cell? ⟨w.heap.size, 3, none⟩ = some (.int .i64 jr) := (row_cell (row_new w _) 3).trans rfl
  have b4 : (w.alloc (.cells #[.int .i64 (N : Int), .int .i64 p, .int .i64 n, .int .i64 jr] 35)).cell? ⟨b, 0, none⟩ = some (.pointer (some ⟨db, 0, none⟩)) := (World.cell?_alloc_lt w _ ⟨b, 0, none⟩ l1).trans c0
  have b5 : (w.alloc (.cells #[.int .i64 (N : Int), .int .i64 p, .int .i64 n, .int .i64 jr] 35)).cell? ⟨db, 0, none⟩ = some (.int .i64 (N : Int)) := (World.cell?_alloc_lt w _ ⟨db, 0, none⟩ l2).trans d0
  have HB0 := Lib.hid (JMem.below_box (w := w) (.cells #[.int .i64 (N : Int), .int .i64 p, .int .i64 n, .int .i64 jr] 35))
  have hs0 : (w.alloc (.cells #[.int .i64 (N : Int), .int .i64 p, .int .i64 n, .int .i64 jr] 35)).heap.size = w.heap.size + 1 := by simp
  generalize w.alloc (.cells #[.int .i64 (N : Int), .int .i64 p, .int .i64 n, .int .i64 jr] 35) = W at *
  have HS0 := Lib.hid hs0
  have HSIX := Lib.hid (show W.cell? ⟨w.heap.size, 0, none⟩ = _ ∧ W.cell? ⟨w.heap.size, 1, none⟩ = _ ∧ W.cell? ⟨w.heap.size, 2, none⟩ = _ ∧ W.cell? ⟨w.heap.size, 3, none⟩ = _ ∧ W.cell? ⟨b, 0, none⟩ = _ ∧ W.cell? ⟨db, 0, none⟩ = _ from ⟨b0, b1, b2, b3, b4, b5⟩)
  clear hs0 c0 d0
  go_region_held3 (fun w' => w'.cell? ⟨w.heap.size, 0, none⟩ = some (.int .i64 (N : Int)) ∧ w'.cell? ⟨w.heap.size, 1, none⟩ = some (.int .i64 p) ∧ w'.cell? ⟨w.heap.size, 2, none⟩ = some (.int .i64 n) ∧ w'.cell? ⟨w.heap.size, 3, none⟩ = some (.int .i64 jr) ∧ w'.cell? ⟨b, 0, none⟩ = some (.pointer (some ⟨db, 0, none⟩)) ∧ w'.cell? ⟨db, 0, none⟩ = some (.int .i64 (N : Int)))
    (first | exact HS2.out | (go_keep; done))
    ((first
      | (go_at_call 48; refine (HCK.out _).mono ?_; rintro e w2 ⟨rfl, hb2⟩
         have HS2 := Lib.hid (six hb2 (show w.heap.size < W.heap.size by have := HS0.out; omega) (show b < W.heap.size by have := HS0.out; omega) (show db < W.heap.size by have := HS0.out; omega) HSIX.out)
         have HB2 := Lib.hid (show Below W.heap.size W w2 from ⟨hb2.os, hb2.tape, hb2.output, hb2.size, hb2.block⟩))
      | (go_at_call 49; refine (SBlocks_at b db (N : Int) w2 HS2.out.2.2.2.2.1 HS2.out.2.2.2.2.2).mono ?_; rintro e w' ⟨rfl, rfl⟩)
      | (go_at_call 46; refine (DBase.Blocks_at db (N : Int) w2 HS2.out.2.2.2.2.2).mono ?_; rintro e w' ⟨rfl, rfl⟩)))
  have g3 := HS2.out.2.2.2.1
  have HBW := Lib.hid (HB0.out.trans (HB2.out.mono (by have := HS0.out; omega)))
  clear hb2
  go_wp2_with fail
  go_ret2
  exact ⟨rfl, HBW.out⟩
end Go.Proofs.YtmlgchmladkfpaaGreatDoor.NNew2
