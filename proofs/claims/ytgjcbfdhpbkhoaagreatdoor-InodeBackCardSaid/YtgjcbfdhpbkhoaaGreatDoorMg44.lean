/- A store that a law has made, beside blocks of the law's own; what reading leaves; what a store says of an allocator; a ledger in memory. -/
import Derived.Test.YtgjcbfdhpbkhoaaGreatDoorMg27
import Derived.Test.YtgjcbfdhpbkhoaaGreatDoorMg43
import Derived.Test.YtgjcbfdhpbkhoaaGreatDoorMg23
import Derived.Test.YtgjcbfdhpbkhoaaGreatDoorMg14
import Derived.Test.YtgjcbfdhpbkhoaaGreatDoorMg20
namespace Go.Proofs.YtgjcbfdhpbkhoaaGreatDoor.AMem
open Go.RowKit Go.Shelf WMem WPlain WAppend WCrc WSeal Ext Map DPlain DMem EPlain EMem EFace EWrite EHold ERead EBack EAny QPlain QUnp APlain
theorem rowV_new (w : World) (xs : List Value) (T : TypeId) : RowV (w.alloc (.cells xs.toArray T)) w.heap.size T xs := row_new w _
theorem rowV_far {w : World} {g : Nat} {T : TypeId} {xs : List Value} (h : RowV w g T xs) (p : Addr) (v : Value) (hp : g ≠ p.block) : RowV (w.setCell p v) g T xs := (Below.heap_setCell w p v g hp).trans h
theorem rowc {w : World} {g : Nat} {T : TypeId} {xs : List Value} (h : RowV w g T xs) (i : Nat) {v : Value} (hv : xs[i]? = some v) : w.cell? ⟨g, i, none⟩ = some v := by
  rw [row_cell h, List.getElem?_toArray]
  exact hv
theorem quiet_is {P : Program} {f : FuncId} {args : Array Value} {w : World} {n : Nat} {v : Value}
    (h : Calls P f args (w.drewN n) fun e w' => e = .returned v ∧ w.drewN n = w') : Calls P f args (w.drewN n) fun e w'' => e = .returned v ∧ ∃ m, w'' = w.drewN m :=
  h.mono fun _ _ ⟨he, hm⟩ => ⟨he, n, hm.symm⟩
def Kp (S : Nat → Prop) (w w' : World) : Prop := ∀ q, S q → w'.heap[q]? = w.heap[q]?
theorem Kp.refl (S : Nat → Prop) (w : World) : Kp S w w := fun _ _ => rfl
theorem Kp.trans {S : Nat → Prop} {w w' w'' : World} (h : Kp S w w') (k : Kp S w' w'') : Kp S w w'' := fun q hq => (k q hq).trans (h q hq)
theorem Kp.less {S S' : Nat → Prop} {w w' : World} (h : Kp S w w') (hs : ∀ q, S' q → S q) : Kp S' w w' := fun q hq => h q (hs q hq)
theorem Kp.below {S : Nat → Prop} {w w' : World} (hS : ∀ q, S q → q < w.heap.size) (h : Below w.heap.size w w') : Kp S w w' := fun q hq => h.block q (hS q hq)
theorem Kp.cell {S : Nat → Prop} (w : World) (p : Addr) (v : Value) (hp : ¬ S p.block) : Kp S w (w.setCell p v) := fun q hq => Below.heap_setCell w p v q (fun e => hp (e ▸ hq))
theorem Kp.drewN (S : Nat → Prop) (w : World) (n : Nat) : Kp S w (w.drewN n) := fun _ _ => rfl
theorem Kp.alloc {S : Nat → Prop} {w : World} (hS : ∀ q, S q → q < w.heap.size) (o : Obj) : Kp S w (w.alloc o) := Kp.below hS ((Below.refl _ _).alloc (Nat.le_refl _) o)
theorem Kp.ext {S P : Nat → Prop} {w w' : World} (he : Ext P w w') (hS : ∀ q, S q → q < w.heap.size) (hP : ∀ q, P q → ¬ S q) : Kp S w w' := fun q hq => he.block q (hS q hq) (fun h => hP q h hq)
structure AS (a : World) (B : Nat) (S : Nat → Prop) (w : World) (b db : Nat) (s : Sto) : Prop where
  ex : ∃ (ρ : Ro) (D : Nat → Prop), EFace.Own w ρ D b db s ∧ (∀ q, All ρ D q → a.heap.size ≤ q ∧ ¬ S q) ∧ (∀ q, isMapR (ρ q) → q < B) ∧ ∀ q, D q → q < B
  below : Below a.heap.size a w
  there : ∀ q, S q → q < w.heap.size
section
variable {a w w' : World} {B : Nat} {S S' : Nat → Prop} {b db : Nat} {s s' : Sto}
theorem AS.of_go {ρ ρ' : Ro} {D : Nat → Prop} (h : AS a B S w b db s) (hA : ∀ q, All ρ D q → a.heap.size ≤ q ∧ ¬ S q) (hB : (∀ q, isMapR (ρ q) → q < B) ∧ ∀ q, D q → q < B) (g : Goes w w' ρ D ρ' D b db s') : AS a B S w' b db s' ∧ Kp S w w' :=
  ⟨⟨⟨_, _, g.own, fun q hq => by
    rcases g.new q hq with h1 | h1
    · exact hA q h1
    · exact ⟨Nat.le_trans h.below.size h1, fun hS => by have := h.there q hS; omega⟩, fun q hq => hB.1 q (g.mr q hq), hB.2⟩, h.below.trans (g.ext.below h.below.size (fun q hq => (hA q hq).1)),
    fun q hq => Nat.lt_of_lt_of_le (h.there q hq) g.ext.size⟩, fun q hq => g.ext.block q (h.there q hq) (fun hj => (hA q hj).2 hq)⟩
theorem AS.grown {row : Option Nat} (h : AS a B S w b db s) (hg : w.grownBy w' row) (hr : ∀ r, row = some r → B ≤ r ∧ a.heap.size ≤ r ∧ ∃ o : Obj, w.heap[r]? = some o ∧ o.isCells = false) : AS a B S w' b db s := by
  obtain ⟨ρ, D, hO, hA, hB⟩ := h.ex
  obtain ⟨h1, h2⟩ := ETrim.own_grown hO hB.1 hB.2 hg (fun r e => ⟨(hr r e).1, (hr r e).2.2⟩)
  refine ⟨⟨_, D, h1, fun q hq => ?_, fun q hq => hB.1 q (ETrim.trim_map hq), hB.2⟩, ?_, fun q hq => Nat.lt_of_lt_of_le (h.there q hq) hg.size⟩
  · rcases hq with hq | hq
    · exact hA q (.inl (ETrim.trim_mine hq).1)
    · exact hA q (.inr hq)
  · refine h.below.trans ⟨hg.os, hg.tape, hg.output, hg.size, fun k hk => hg.block k (Nat.lt_of_lt_of_le hk h.below.size) (fun e => ?_)⟩
    have := (hr k e.symm).2.1
    omega
theorem AS.also (h : AS a B S w b db s) (hb : Below w.heap.size w w') : AS a B (fun q => S q ∨ (w.heap.size ≤ q ∧ q < w'.heap.size)) w' b db s := by
  obtain ⟨ρ, D, hO, hA, hB⟩ := h.ex
  refine ⟨⟨ρ, D, hO.below hb, fun q hq => ⟨(hA q hq).1, fun hS => ?_⟩, hB⟩, h.below.trans (hb.mono h.below.size), fun q hS => ?_⟩
  · rcases hS with hS | hS
    · exact (hA q hq).2 hS
    · have := hO.there q hq; omega
  · rcases hS with hS | hS
    · exact Nat.lt_of_lt_of_le (h.there q hS) hb.size
    · exact hS.2
theorem AS.less (h : AS a B S w b db s) (hS : ∀ q, S' q → S q) : AS a B S' w b db s := by
  obtain ⟨ρ, D, hO, hA, hB⟩ := h.ex
  exact ⟨⟨ρ, D, hO, fun q hq => ⟨(hA q hq).1, fun h2 => (hA q hq).2 (hS q h2)⟩, hB⟩, h.below, fun q hq => h.there q (hS q hq)⟩
theorem AS.go (h : AS a B S w b db s) (hb : Below w.heap.size w w') : AS a B S w' b db s := (h.also hb).less fun _ hq => .inl hq
theorem AS.kp (h : AS a B S w b db s) (hb : Below w.heap.size w w') : Kp S w w' := Kp.below h.there hb
theorem AS.drewN (h : AS a B S w b db s) (n : Nat) : AS a B S (w.drewN n) b db s := h.go (below_drewN (Below.refl _ _) n)
theorem AS.turn (h : AS a B S w b db s) (he : Ext S w w') (hS : ∀ q, S q → a.heap.size ≤ q) : AS a B S w' b db s := by
  obtain ⟨ρ, D, hO, hA, hB⟩ := h.ex
  exact ⟨⟨ρ, D, hO.keep (fun q hq => he.block q (hO.there q hq) (hA q hq).2) he.size, hA, hB⟩, h.below.trans (he.below h.below.size hS), fun q hq => Nat.lt_of_lt_of_le (h.there q hq) he.size⟩
theorem AS.turnP {P : Nat → Prop} (h : AS a B S w b db s) (he : Ext P w w') (hP : ∀ q, P q → S q ∧ a.heap.size ≤ q) : AS a B S w' b db s := by
  obtain ⟨ρ, D, hO, hA, hB⟩ := h.ex
  exact ⟨⟨ρ, D, hO.keep (fun q hq => he.block q (hO.there q hq) (fun h2 => (hA q hq).2 (hP q h2).1)) he.size, hA, hB⟩, h.below.trans (he.below h.below.size (fun q hq => (hP q hq).2)), fun q hq => Nat.lt_of_lt_of_le (h.there q hq) he.size⟩
theorem AS.cell (h : AS a B S w b db s) (p : Addr) (v : Value) (hp : S p.block) (ha : a.heap.size ≤ p.block) : AS a B S (w.setCell p v) b db s :=
  h.turnP (P := fun q => q = p.block) ((Ext.refl (fun q => q = p.block) w).setCell (p := p) (.inl rfl) v) (fun q hq => by subst hq; exact ⟨hp, ha⟩)
theorem AS.wf (h : AS a B S w b db s) : s.Wf := by
  obtain ⟨ρ, D, hO, hA, hB⟩ := h.ex
  exact hO.wf
theorem AS.len (h : AS a B S w b db s) : 128 ≤ s.N ∧ s.N ≤ 4096 := by
  obtain ⟨ρ, D, hO, hA, hB⟩ := h.ex
  exact hO.len
theorem AS.tab (h : AS a B S w b db s) (hT : Tab a) : Tab w := Tab.below hT h.below (Tab.lt hT)
end
def Coh (s : Sto) : Prop := ∀ n, n ∈ s.sh n → s.mem n = s.d.readAt n
theorem sh_use (s : Sto) (n m : Nat) (h : m ∈ (s.use n).sh m) : m = n ∨ m ∈ s.sh m := by
  unfold Sto.sh Sto.use at h
  simp only [List.length_set] at h
  by_cases e : n % s.cch.length = m % s.cch.length
  · rw [e] at h
    rw [List.getD_eq_getElem?_getD] at h
    by_cases hl : m % s.cch.length < s.cch.length
    · rw [List.getElem?_set_self hl] at h
      simp only [Option.getD_some] at h
      rcases mem_putC h with h1 | h1
      · exact .inl h1
      · have e2 : s.sh n = s.sh m := by unfold Sto.sh; rw [e]
        rw [← e2]
        exact .inr h1
    · rw [List.getElem?_eq_none (by rw [List.length_set]; omega)] at h
      cases h
  · rw [List.getD_eq_getElem?_getD, List.getElem?_set_ne e] at h
    exact .inr (by unfold Sto.sh; rw [List.getD_eq_getElem?_getD]; exact h)
theorem sh_lose (s : Sto) (n m : Nat) (h : m ∈ (s.lose n).sh m) : m ∈ s.sh m := by
  unfold Sto.sh Sto.lose at h
  simp only [List.length_set] at h
  by_cases e : n % s.cch.length = m % s.cch.length
  · rw [e] at h
    rw [List.getD_eq_getElem?_getD] at h
    by_cases hl : m % s.cch.length < s.cch.length
    · rw [List.getElem?_set_self hl] at h
      simp only [Option.getD_some] at h
      have e2 : s.sh n = s.sh m := by unfold Sto.sh; rw [e]
      rw [← e2]
      exact (mem_dropC.1 h).1
    · rw [List.getElem?_eq_none (by rw [List.length_set]; omega)] at h
      cases h
  · rw [List.getD_eq_getElem?_getD, List.getElem?_set_ne e] at h
    unfold Sto.sh
    rw [List.getD_eq_getElem?_getD]
    exact h
structure Rd (s s' : Sto) (k : Nat) : Prop where
  now : s'.now = s.now
  wai : s'.wai = s.wai
  d : s'.d = s.d
  acts : s'.acts = s.acts
  coh : Coh s'
  load : s'.load ≤ s.load + k
section
variable {s s' s'' : Sto} {k j n m : Nat} {l : Bk}
theorem Rd.refl (h : Coh s) : Rd s s 0 := ⟨rfl, rfl, rfl, rfl, h, Nat.le_refl _⟩
theorem Rd.trans (h : Rd s s' k) (h' : Rd s' s'' j) : Rd s s'' (k + j) := ⟨h'.now.trans h.now, h'.wai.trans h.wai, h'.d.trans h.d, h'.acts.trans h.acts, h'.coh, by have := h.load; have := h'.load; omega⟩
theorem Rd.more (h : Rd s s' k) (hk : k ≤ j) : Rd s s' j := ⟨h.now, h.wai, h.d, h.acts, h.coh, by have := h.load; omega⟩
theorem Rd.read (h : Coh s) (n : Nat) : Rd s (s.read n) 1 := by
  have hl := Sto.load_read s n
  unfold Sto.read at hl ⊢
  split
  · rename_i e
    rw [if_pos e] at hl
    exact ⟨rfl, rfl, rfl, rfl, h, hl⟩
  · rename_i e
    rw [if_neg e] at hl
    split
    · rename_i e2
      rw [if_pos e2] at hl
      refine ⟨rfl, rfl, rfl, rfl, fun m hm => ?_, hl⟩
      rcases sh_use s n m hm with rfl | h1
      · exact h _ e2
      · exact h m h1
    · rename_i e2
      rw [if_neg e2] at hl
      refine ⟨rfl, rfl, rfl, rfl, fun m hm => ?_, hl⟩
      show (if m = n then s.d.readAt n else s.mem m) = s.d.readAt m
      split
      · rename_i e3
        rw [e3]
      · rename_i e3
        rcases sh_use s n m hm with h1 | h1
        · exact absurd h1 e3
        · exact h m h1
theorem Rd.val (h : Rd s s' k) (n : Nat) : s'.val n = s.val n := by
  unfold Sto.val
  rw [h.now, h.wai, h.d]
theorem Rd.N (h : Rd s s' k) : s'.N = s.N := by
  unfold Sto.N
  rw [h.d]
theorem write_val (s : Sto) (n m : Nat) (l : Bk) : (s.write n l).val m = if m = n then l else s.val m := by
  unfold Sto.val Sto.write
  simp only
  split
  · rename_i e
    split at e
    · rename_i e2
      injection e with e
      rw [if_pos e2, e]
    · rename_i e2
      rw [if_neg e2, e]
  · rename_i e
    split at e
    · cases e
    · rename_i e2
      rw [if_neg e2, e]
      rfl
theorem Coh.write (h : Coh s) (n : Nat) (l : Bk) : Coh (s.write n l) := fun m hm => h m (sh_lose s n m hm)
theorem Coh.hold (h : Coh s) (n : Nat) : Coh (s.hold n) := h
theorem Coh.fresh (d : St) (ns room : Nat) : Coh (fresh d ns room) := fun _ _ => rfl
end
structure Says (s : Sto) (A : Al) : Prop where
  fine : A.Fine
  N : (s.N : Int) = A.b
  sup : s.val 0 = A.sup
  grp : s.val 1 = A.grps
  bms : ∀ i, i < A.ng → s.val (A.bat i) = A.bm i
  ims : ∀ i, i < A.ng → s.val (A.bat i + 1) = A.im i
  coh : Coh s
section
variable {s s' : Sto} {A : Al} {k : Nat}
theorem Says.rd (h : Says s A) (r : Rd s s' k) : Says s' A :=
  ⟨h.fine, by rw [r.N]; exact h.N, by rw [r.val]; exact h.sup, by rw [r.val]; exact h.grp, fun i hi => by rw [r.val]; exact h.bms i hi, fun i hi => by rw [r.val]; exact h.ims i hi, r.coh⟩
theorem Says.hold (h : Says s A) (n : Nat) : Says (s.hold n) A := ⟨h.fine, h.N, h.sup, h.grp, h.bms, h.ims, h.coh⟩
end
section
variable {a w : World} {B : Nat} {S : Nat → Prop} {b db : Nat} {s : Sto}
theorem a_blocks (h : AS a B S w b db s) (N : Int) (hN : (s.N : Int) = N) : Calls Tryz.prog 123 #[.pointer (some ⟨b, 0, none⟩)] w fun e w' => e = .returned (.int .i64 N) ∧ w = w' := by
  subst hN
  obtain ⟨ρ, D, hO, hA, hB⟩ := h.ex
  exact Blocks_own hO
theorem a_read (h : AS a B S w b db s) (n : Int) (k : Nat) (hk : (k : Int) = n) (hn : k < s.N) (hc : Coh s) (hload : s.load ≤ 1073741824) (l : Bk) (hv : s.val k = l) :
    Calls Tryz.prog 70 #[.pointer (some ⟨b, 0, none⟩), .int .i64 n] w fun e w' => ∃ g c rest, e = .returned (.tuple #[.slice (some ⟨g, 0, none⟩) 256 c, .int .i64 0]) ∧ w.heap.size ≤ g ∧ 256 ≤ c ∧ l.length = 256 ∧ Row w' g l rest ∧
      AS a B (fun q => S q ∨ q = g) w' b db (s.read k) ∧ Kp S w w' ∧ Rd s (s.read k) 1 := by
  subst hk hv
  obtain ⟨ρ, D, hO, hA, hB⟩ := h.ex
  refine (SRead_own hO hn hload (hc k)).mono ?_
  rintro e w' ⟨u, rfl, ρ', hgo, g, c, rest, rfl, ⟨hg1, hg2, hg3⟩, hl, hc2, hR⟩
  obtain ⟨h1, h2⟩ := h.of_go hA hB hgo
  refine ⟨g, c, rest, rfl, hg1, hc2, hl, hR, ⟨⟨ρ', D, hgo.own, fun q hq => ?_, fun q hq => hB.1 q (hgo.mr q hq), hB.2⟩, h1.below, fun q hq => ?_⟩, h2, Rd.read hc k⟩
  · rcases hgo.new q hq with h3 | h3
    · refine ⟨(hA q h3).1, fun h4 => ?_⟩
      rcases h4 with h4 | rfl
      · exact (hA q h3).2 h4
      · have := hO.there q h3; omega
    · refine ⟨Nat.le_trans h.below.size h3, fun h4 => ?_⟩
      rcases h4 with h4 | rfl
      · have := h.there q h4; omega
      · rcases hq with hq | hq
        · exact hg3 hq
        · have := hO.dd.there q hq; omega
  · rcases hq with hq | rfl
    · exact h1.there q hq
    · exact hg2
theorem a_write (h : AS a B S w b db s) (n : Int) (k : Nat) (hk : (k : Int) = n) (hn : k < s.N) {v : Value} {l : Bk} (hv : IsBlk w S v l) (hload : s.load ≤ 1073741824) :
    Calls Tryz.prog 68 #[.pointer (some ⟨b, 0, none⟩), .int .i64 n, v] w fun e w' => e = .returned (.int .i64 0) ∧ AS a B S w' b db (s.write k l) ∧ Kp S w w' := by
  subst hk
  obtain ⟨ρ, D, hO, hA, hB⟩ := h.ex
  refine (SWrite_ok hO hn hv h.there (fun q h1 h2 => (hA q (.inl h1)).2 h2) hload).mono ?_
  rintro e w' ⟨rfl, ρ', hgo⟩
  exact ⟨rfl, h.of_go hA hB hgo⟩
end
def three (x : Grp) : List Value := [.int .i64 x.fb, .int .i64 x.fi, .int .i64 x.dirs]
def cells (l : List Grp) : List Value := l.flatMap three
theorem cells_len (l : List Grp) : (cells l).length = 3 * l.length := by
  induction l with
  | nil => rfl
  | cons x r ih => simp only [cells, List.flatMap_cons, List.length_append, three, List.length_cons, List.length_nil] at ih ⊢; rw [ih]; omega
theorem cells_get (l : List Grp) : ∀ (i : Nat) (h : i < l.length), (cells l)[i * 3]? = some (.int .i64 l[i].fb) ∧ (cells l)[i * 3 + 1]? = some (.int .i64 l[i].fi) ∧ (cells l)[i * 3 + 2]? = some (.int .i64 l[i].dirs) := by
  induction l with
  | nil => intro i h; cases h
  | cons x r ih =>
    intro i h
    cases i with
    | zero => simp [cells, three]
    | succ i =>
      obtain ⟨h1, h2, h3⟩ := ih i (by simpa using h)
      have e : cells (x :: r) = three x ++ cells r := by simp [cells]
      rw [e]
      refine ⟨?_, ?_, ?_⟩
      · rw [List.getElem?_append_right (by simp [three]; omega)]; simpa [three, show (i + 1) * 3 - 3 = i * 3 by omega] using h1
      · rw [List.getElem?_append_right (by simp [three]; omega)]; simpa [three, show (i + 1) * 3 + 1 - 3 = i * 3 + 1 by omega] using h2
      · rw [List.getElem?_append_right (by simp [three]; omega)]; simpa [three, show (i + 1) * 3 + 2 - 3 = i * 3 + 2 by omega] using h3
theorem cells_set (l : List Grp) : ∀ (i : Nat) (x : Grp), i < l.length → cells (l.set i x) = (((cells l).set (i * 3) (.int .i64 x.fb)).set (i * 3 + 1) (.int .i64 x.fi)).set (i * 3 + 2) (.int .i64 x.dirs) := by
  induction l with
  | nil => intro i x h; cases h
  | cons y r ih =>
    intro i x h
    cases i with
    | zero => simp [cells, three]
    | succ i =>
      have e : ∀ z t, cells (z :: t) = three z ++ cells t := fun z t => by simp [cells]
      rw [List.set_cons_succ, e, e, ih i x (by simpa using h)]
      simp [three, show (i + 1) * 3 = i * 3 + 3 by omega, show i * 3 + 3 + 1 = i * 3 + 1 + 3 by omega, show i * 3 + 3 + 2 = i * 3 + 2 + 3 by omega]
structure Led (w : World) (lb gb c b : Nat) (A : Al) (gs : List Grp) (fb fi : Int) : Prop where
  box : w.heap[lb]? = some (.cells #[.pointer (some ⟨b, 0, none⟩), .int .i64 A.b, .int .i64 A.p, .int .i64 A.n, .int .i64 A.j, .int .i64 fb, .int .i64 fi, .int .i64 A.oo, .int .i64 A.mo, .bool A.cl, .slice (some ⟨gb, 0, none⟩) gs.length c] 167 (0, 0))
  row : ∃ rest, w.heap[gb]? = some (.cells (cells gs ++ rest).toArray 120 (0, 0))
section
variable {w w' : World} {lb gb c b : Nat} {A : Al} {gs : List Grp} {fb fi : Int}
theorem Led.keep (h : Led w lb gb c b A gs fb fi) (h1 : w'.heap[lb]? = w.heap[lb]?) (h2 : w'.heap[gb]? = w.heap[gb]?) : Led w' lb gb c b A gs fb fi := by
  obtain ⟨rest, hr⟩ := h.row
  exact ⟨h1.trans h.box, rest, h2.trans hr⟩
theorem Led.kp {S : Nat → Prop} (h : Led w lb gb c b A gs fb fi) (hk : Kp S w w') (h1 : S lb) (h2 : S gb) : Led w' lb gb c b A gs fb fi := h.keep (hk _ h1) (hk _ h2)
theorem Led.lt (h : Led w lb gb c b A gs fb fi) : lb < w.heap.size ∧ gb < w.heap.size := by
  obtain ⟨rest, hr⟩ := h.row
  exact ⟨row_lt h.box, row_lt hr⟩
theorem Led.below (h : Led w lb gb c b A gs fb fi) (hb : Below w.heap.size w w') : Led w' lb gb c b A gs fb fi := h.keep (hb.block _ h.lt.1) (hb.block _ h.lt.2)
theorem Led.drewN (h : Led w lb gb c b A gs fb fi) (n : Nat) : Led (w.drewN n) lb gb c b A gs fb fi := h.keep rfl rfl
theorem Led.ne (h : Led w lb gb c b A gs fb fi) : lb ≠ gb := fun e => by
  obtain ⟨rest, hr⟩ := h.row
  have := h.box
  rw [e, hr] at this
  injection this with this
  injection this with h1 h2
  cases h2
theorem Led.cs (h : Led w lb gb c b A gs fb fi) : w.cell? ⟨lb, 0, none⟩ = some (.pointer (some ⟨b, 0, none⟩)) ∧ w.cell? ⟨lb, 1, none⟩ = some (.int .i64 A.b) ∧ w.cell? ⟨lb, 2, none⟩ = some (.int .i64 A.p) ∧ w.cell? ⟨lb, 3, none⟩ = some (.int .i64 A.n) ∧ w.cell? ⟨lb, 4, none⟩ = some (.int .i64 A.j) ∧
    w.cell? ⟨lb, 5, none⟩ = some (.int .i64 fb) ∧ w.cell? ⟨lb, 6, none⟩ = some (.int .i64 fi) ∧ w.cell? ⟨lb, 7, none⟩ = some (.int .i64 A.oo) ∧ w.cell? ⟨lb, 8, none⟩ = some (.int .i64 A.mo) ∧ w.cell? ⟨lb, 9, none⟩ = some (.bool A.cl) ∧ w.cell? ⟨lb, 10, none⟩ = some (.slice (some ⟨gb, 0, none⟩) gs.length c) := by
  have hb := h.box
  refine ⟨?_, ?_, ?_, ?_, ?_, ?_, ?_, ?_, ?_, ?_, ?_⟩ <;> (rw [row_cell hb]; rfl)
theorem Led.gr (h : Led w lb gb c b A gs fb fi) {i : Nat} (hi : i < gs.length) : w.cell? ⟨gb, i * 3, none⟩ = some (.int .i64 gs[i].fb) ∧ w.cell? ⟨gb, i * 3 + 1, none⟩ = some (.int .i64 gs[i].fi) ∧ w.cell? ⟨gb, i * 3 + 2, none⟩ = some (.int .i64 gs[i].dirs) := by
  obtain ⟨rest, hr⟩ := h.row
  obtain ⟨h1, h2, h3⟩ := cells_get gs i hi
  have hl := cells_len gs
  refine ⟨?_, ?_, ?_⟩
  · rw [row_cell hr, List.getElem?_toArray, List.getElem?_append_left (by omega)]; exact h1
  · rw [row_cell hr, List.getElem?_toArray, List.getElem?_append_left (by omega)]; exact h2
  · rw [row_cell hr, List.getElem?_toArray, List.getElem?_append_left (by omega)]; exact h3
end
end Go.Proofs.YtgjcbfdhpbkhoaaGreatDoor.AMem
/- Where things lie, as the allocator asks: placeOf, groupOf, within. -/
namespace Go.Proofs.YtgjcbfdhpbkhoaaGreatDoor.AGeo
open Go.RowKit WMem WPlain WAppend WCrc WSeal GPlain GGeo GGeo2 GFace Ext Map DPlain DMem EPlain EMem EFace EAny QPlain APlain AMem
def plc (A : Al) (i : Nat) : List Value := [.int .i64 (A.at_ i : Nat), .int .i64 (A.at_ i + A.size i : Nat), .int .i64 (A.bat i : Nat), .int .i64 (A.bat i + 1 : Nat), .int .i64 (A.bat i + 2 : Nat), .int .i64 (A.at_ i + A.own i : Nat)]
theorem has_yes {A : Al} (h : May A.b A.p A.n A.j) {i : Nat} (hi : i < A.ng) : hasB A.b A.p A.n A.j i = true := by
  have := ng_is h
  have hm := may_iff.2 h
  unfold hasB
  rw [inB_true, groupsI_yes hm]
  omega
def z6 : List Value := [.int .i64 0, .int .i64 0, .int .i64 0, .int .i64 0, .int .i64 0, .int .i64 0]
set_option maxHeartbeats 1000000 in
theorem placeOf_x (b p n j k x0 x1 x2 x3 x4 x5 : Int) (w : World)
    (h1 : ∀ W, Calls Tryz.prog 114 #[.agg #[.int .i64 b, .int .i64 p, .int .i64 n, .int .i64 j], .int .i64 k] W fun e w' => e = .returned (.tuple #[.int .i64 x0, .int .i64 x1, .int .i64 0]) ∧ Below W.heap.size W w')
    (h2 : ∀ W, Calls Tryz.prog 115 #[.agg #[.int .i64 b, .int .i64 p, .int .i64 n, .int .i64 j], .int .i64 k] W fun e w' => e = .returned (.tuple #[.int .i64 x2, .int .i64 x3, .int .i64 x4, .int .i64 x5, .int .i64 0]) ∧ Below W.heap.size W w') :
    Calls Tryz.prog 85 #[.agg #[.int .i64 b, .int .i64 p, .int .i64 n, .int .i64 j], .int .i64 k] w fun e w' => e = .returned (.agg #[.int .i64 x0, .int .i64 x1, .int .i64 x2, .int .i64 x3, .int .i64 x4, .int .i64 x5]) ∧ Below w.heap.size w w' := by
  have HSP := Lib.hid h1
  have HPL := Lib.hid h2
  have HX := Lib.hid (Boxed.start w [.int .i64 b, .int .i64 p, .int .i64 n, .int .i64 j] 63)
  clear h1 h2
  go_enter Tryz.func85, Tryz.ntmps85
  go_wp2_with fail
  refine (HSP.out _).mono ?_
  rintro e w1 ⟨rfl, hb1⟩
  have r0 := ((rowV_new w [.int .i64 b, .int .i64 p, .int .i64 n, .int .i64 j] 63).alloc (.cells #[.int .i64 0, .int .i64 0, .int .i64 0, .int .i64 0, .int .i64 0, .int .i64 0] 147)).alloc (.cells #[.int .i64 0, .int .i64 0, .int .i64 0, .int .i64 0, .int .i64 0, .int .i64 0] 147) |>.keep hb1 (by simp; omega)
  have r1 := (rowV_new (w.alloc (.cells #[.int .i64 b, .int .i64 p, .int .i64 n, .int .i64 j] 63)) z6 147).alloc (.cells #[.int .i64 0, .int .i64 0, .int .i64 0, .int .i64 0, .int .i64 0, .int .i64 0] 147) |>.keep hb1 (by simp)
  have r2 := (rowV_new ((w.alloc (.cells #[.int .i64 b, .int .i64 p, .int .i64 n, .int .i64 j] 63)).alloc (.cells #[.int .i64 0, .int .i64 0, .int .i64 0, .int .i64 0, .int .i64 0, .int .i64 0] 147)) z6 147) |>.keep hb1 (by simp)
  simp only [World.size_alloc] at r1 r2
  have HB := Lib.hid (below_up (((Below.refl w.heap.size w).alloc (Nat.le_refl _) _).alloc (by simp) _ |>.alloc (by simp; omega) _) hb1 (by simp; omega))
  have HS : Hid (w.heap.size + 3 ≤ w1.heap.size) := Lib.hid (by have := hb1.size; simpa [Nat.add_assoc] using this)
  have c0 := rowc r0 0 rfl
  have c1 := rowc r0 1 rfl
  have c2 := rowc r0 2 rfl
  have c3 := rowc r0 3 rfl
  have d0 := rowc r2 0 rfl
  have d1 := rowc r2 1 rfl
  have f2 := r2.free
  have R1 := Lib.hid (rowV_far (rowV_far r1 ⟨w.heap.size + 1 + 1, 0, none⟩ (.int .i64 x0) (by simp)) ⟨w.heap.size + 1 + 1, 1, none⟩ (.int .i64 x1) (by simp))
  have R2 := Lib.hid ((r2.set 0 (.int .i64 x0)).set 1 (.int .i64 x1))
  have HB2 := Lib.hid ((HB.out.setCell (p := ⟨w.heap.size + 1 + 1, 0, none⟩) (by simp; omega) (.int .i64 x0)).setCell (p := ⟨w.heap.size + 1 + 1, 1, none⟩) (by simp; omega) (.int .i64 x1))
  clear r0 r1 r2 hb1
  go_wp2_with fail
  refine (HPL.out _).mono ?_
  rintro e w2 ⟨rfl, hb2⟩
  have r1 := R1.out.keep hb2 R1.out.lt
  have r2 := R2.out.keep hb2 R2.out.lt
  have HB3 := Lib.hid (below_up HB2.out hb2 (by have := HS.out; simp; omega))
  have e0 := rowc r2 0 rfl
  have e1 := rowc r2 1 rfl
  have e2 := rowc r2 2 rfl
  have e3 := rowc r2 3 rfl
  have e4 := rowc r2 4 rfl
  have e5 := rowc r2 5 rfl
  have g1 := r1.free
  have g2 := r2.free
  have y0 := rowc r1 0 rfl
  have y1 := rowc r1 1 rfl
  have y2 := rowc r1 2 rfl
  have y3 := rowc r1 3 rfl
  have y4 := rowc r1 4 rfl
  have y5 := rowc r1 5 rfl
  clear r2 hb2 R1 R2 HB2 c0 c1 c2 c3 d0 d1 f2
  have F1 := Lib.hid ((((((((rowV_far (rowV_far (rowV_far (rowV_far r1 ⟨w.heap.size + 1 + 1, 2, none⟩ (.int .i64 x2) (by simp)) ⟨w.heap.size + 1 + 1, 3, none⟩ (.int .i64 x3) (by simp)) ⟨w.heap.size + 1 + 1, 4, none⟩ (.int .i64 x4) (by simp)) ⟨w.heap.size + 1 + 1, 5, none⟩ (.int .i64 x5) (by simp)).set 0 (.int .i64 x0)).set 1 (.int .i64 x1)).set 2 (.int .i64 x2)).set 3 (.int .i64 x3)).set 4 (.int .i64 x4)).set 5 (.int .i64 x5)))
  clear r1
  go_wp2
  have f0 := rowc F1.out 0 rfl
  have f1 := rowc F1.out 1 rfl
  have f2 := rowc F1.out 2 rfl
  have f3 := rowc F1.out 3 rfl
  have f4 := rowc F1.out 4 rfl
  have f5 := rowc F1.out 5 rfl
  refine bodyPost_ret_by (v := .agg #[.int .i64 x0, .int .i64 x1, .int .i64 x2, .int .i64 x3, .int .i64 x4, .int .i64 x5]) (by simp [results, Tryz.results85, go_sem, f0, f1, f2, f3, f4, f5]; try rfl) rfl ?_
  refine ⟨rfl, ?_⟩
  have hs := HS.out
  refine ((((((((((HB3.out.setCell (p := ⟨w.heap.size + 1 + 1, 2, none⟩) ?_ _).setCell (p := ⟨w.heap.size + 1 + 1, 3, none⟩) ?_ _).setCell (p := ⟨w.heap.size + 1 + 1, 4, none⟩) ?_ _).setCell (p := ⟨w.heap.size + 1 + 1, 5, none⟩) ?_ _).setCell (p := ⟨w.heap.size + 1, 0, none⟩) ?_ _).setCell (p := ⟨w.heap.size + 1, 1, none⟩) ?_ _).setCell (p := ⟨w.heap.size + 1, 2, none⟩) ?_ _).setCell (p := ⟨w.heap.size + 1, 3, none⟩) ?_ _).setCell (p := ⟨w.heap.size + 1, 4, none⟩) ?_ _).setCell (p := ⟨w.heap.size + 1, 5, none⟩) ?_ _) <;> simp <;> omega
theorem placeOf_any {A : Al} (hM : May A.b A.p A.n A.j) {i : Nat} (hi : i < A.ng) (w : World) :
    Calls Tryz.prog 85 #[.agg #[.int .i64 A.b, .int .i64 A.p, .int .i64 A.n, .int .i64 A.j], .int .i64 (i : Int)] w fun e w' => e = .returned (.agg (plc A i).toArray) ∧ Below w.heap.size w w' := by
  have hh := has_yes hM hi
  have g := geo hM hi
  have e0 : sp0 A.b A.p A.n A.j i = (A.at_ i : Nat) := by rw [g.a0]; simp [sp0, hh]
  have e1 : sp1 A.b A.p A.n A.j i = (A.at_ i + A.size i : Nat) := by rw [Int.natCast_add, g.a1]; simp [sp1, hh]
  have e2 : er A.b A.p A.n A.j i = 0 := by simp [er, hh]
  have e3 : pl0 A.b A.p A.n A.j i = (A.bat i : Nat) := by rw [g.a3]; simp [pl0, hh]
  have e4 : pl1 A.b A.p A.n A.j i = (A.bat i + 1 : Nat) := by rw [Int.natCast_add, g.a3]; simp [pl1, hh]
  have e5 : pl2 A.b A.p A.n A.j i = (A.bat i + 2 : Nat) := by rw [Int.natCast_add, g.a3]; simp [pl2, hh, tableI]
  have e6 : pl3 A.b A.p A.n A.j i = (A.at_ i + A.own i : Nat) := by rw [Int.natCast_add, g.a2]; simp [pl3, hh]
  have h1 := fun W => Span_any A.b A.p A.n A.j W (i : Int)
  have h2 := fun W => Place_any A.b A.p A.n A.j W (i : Int)
  rw [e0, e1, e2] at h1
  rw [e2, e3, e4, e5, e6] at h2
  exact placeOf_x A.b A.p A.n A.j i _ _ _ _ _ _ w h1 h2
def gof (A : Al) (n : Int) : Nat := if 0 ≤ n ∧ n < A.b then (n / A.p).toNat else 0
def wi (A : Al) (i : Nat) (n : Int) : Int := if (A.at_ i : Int) ≤ n ∧ n < (A.at_ i + A.size i : Nat) then n - A.at_ i else -1
end Go.Proofs.YtgjcbfdhpbkhoaaGreatDoor.AGeo
/- The allocator: open, on a store that says what an allocator is. -/
namespace Go.Proofs.YtgjcbfdhpbkhoaaGreatDoor.AOpen
open Go.RowKit WMem WPlain WAppend WCrc WSeal GPlain GGeo GGeo2 GFace Ext Map DPlain DMem EPlain EMem EFace EAny SPlain QPlain QMem QUnp BPlain APlain AMem AGeo
theorem unsup (b p n j fb fi oo mo : Int) (cl : Bool) (hm : supMay b p n j fb fi oo mo = true) (B : Nat) (A : Option Addr) (c : Nat) (hc : 256 ≤ c) (w : World) (hB : B ≤ w.heap.size) (hA : Sl w B A ((supBytes b p n j fb fi oo mo cl).map u8v)) (hT : Tab w) :
    Calls Tryz.prog 129 #[.slice A 256 c] w fun e w' => e = .returned (.tuple #[.agg #[.int .i64 b, .int .i64 p, .int .i64 n, .int .i64 j, .int .i64 fb, .int .i64 fi, .int .i64 oo, .int .i64 mo, .bool cl], .int .i64 0]) ∧ Below w.heap.size w w' := by
  have hl := supBytes_len b p n j fb fi oo mo cl
  have h := Unpack_c (l := supBytes b p n j fb fi oo mo cl) (B := B) (A := A) (c := c) (w := w) (by rw [hl]; exact hc) hB hA hT
  rw [hl, (sup_there cl hm).2] at h
  exact h
theorem gcells_all (gs : List Grp) (hm : grpMay gs = true) : gcells (grpBytes gs) gs.length (List.range gs.length) = cells gs := by
  have hb := grp_back gs hm
  have h1 : gcells (grpBytes gs) gs.length (List.range gs.length) = (List.range gs.length).flatMap fun i => AMem.three (saysOne (grpBytes gs) i) := by
    unfold gcells
    have : ∀ l : List Nat, (∀ i ∈ l, i < gs.length) → (l.flatMap fun i => gcell (grpBytes gs) (min i (gs.length - 1))) = l.flatMap fun i => AMem.three (saysOne (grpBytes gs) i) := by
      intro l
      induction l with
      | nil => intro _; rfl
      | cons x r ih =>
        intro hx
        have := hx x (by simp)
        simp only [List.flatMap_cons]
        rw [ih fun i hi => hx i (by simp [hi]), show min x (gs.length - 1) = x by omega]
        rfl
    exact this _ fun i hi => List.mem_range.1 hi
  rw [h1]
  have h2 : cells gs = cells (grpSays (grpBytes gs) gs.length) := by rw [hb]
  rw [h2]
  unfold cells grpSays
  rw [List.flatMap_map]
theorem ungrp (gs : List Grp) (hm : grpMay gs = true) (m : Nat) (hg : gs.length = m) (B : Nat) (A : Option Addr) (c : Nat) (hc : 256 ≤ c) (w : World) (hB : B ≤ w.heap.size) (hA : Sl w B A ((grpBytes gs).map u8v)) (hT : Tab w) :
    Calls Tryz.prog 130 #[.slice A 256 c, .int .i64 (m : Int)] w fun e w' => ∃ gb c' rest, e = .returned (.tuple #[.slice (some ⟨gb, 0, none⟩) m c', .int .i64 0]) ∧ w.heap.size ≤ gb ∧ RowV w' gb 120 (cells gs ++ rest) ∧ Below w.heap.size w w' := by
  subst hg
  have hl := (grpMay_iff.1 hm).1
  have hb := grpBytes_len gs hl.2
  obtain ⟨e1, e2⟩ := grp_there gs hm
  obtain ⟨e3, e4⟩ := anyX_yes (b := grpBytes gs) (n := gs.length) hl.1 hl.2
  rw [e3] at e1
  rw [e4] at e2
  refine (callsIn_wide.1 (UnpackGroups_in gs.length hl.1 hl.2 (grpBytes gs) hb B A c hc w hB hA hT)).mono ?_
  rintro e w' ⟨A', c', rfl, hG, hA', hbl, ho⟩
  obtain ⟨h1, h2⟩ := ho e2
  rw [gcells_all gs hm] at h2
  rcases h2 with ⟨_, h0⟩ | ⟨g, cap, cur, e5, hg1, hg2, _, _, hg5, hg6⟩
  · omega
  · injection e5 with e5 e6 e7
    subst e5 e7
    refine ⟨g, c', cur.toList.drop (gs.length * 3), by rw [e1, e2], hg1, ?_, hbl⟩
    unfold RowV
    rw [hg2, ← hg6, List.take_append_drop]
section
variable {a w : World} {B : Nat} {S : Nat → Prop} {b db : Nat} {s : Sto} {A : Al}
set_option maxHeartbeats 2000000 in
set_option maxRecDepth 20000 in
theorem open_own (h : AS a B S w b db s) (hs : Says s A) (hT : Tab a) (hload : s.load + 10 ≤ 1073741824) :
    Calls Tryz.prog 103 #[.pointer (some ⟨b, 0, none⟩)] w fun e w' => ∃ lb gb c s', e = .returned (.tuple #[.pointer (some ⟨lb, 0, none⟩), .int .i64 0]) ∧ w.heap.size ≤ lb ∧ w.heap.size ≤ gb ∧
      Led w' lb gb c b A A.gs A.fb A.fi ∧ AS a B (fun q => S q ∨ q = lb ∨ q = gb) w' b db s' ∧ Kp S w w' ∧ Rd s s' 2 := by
  have hlen := h.len
  have hsup := fine_sup hs.fine
  have hgrp := fine_grp hs.fine
  have hng := ng_is hs.fine.may
  have hgI : groupsI A.b A.p A.n A.j = (A.ng : Int) := by rw [groupsI_yes (may_iff.2 hs.fine.may), hng]
  have hgl : A.gs.length = A.ng := gs_len
  have hbne : (A.b != A.b) = false := by simp
  have HS := Lib.hid hs
  have H := Lib.hid h
  have HT := Lib.hid hT
  have HSU := Lib.hid hsup
  have HGR := Lib.hid hgrp
  have HGL := Lib.hid hgl
  have HGI := Lib.hid (fun W => Groups_any A.b A.p A.n A.j W)
  rw [hgI] at HGI
  clear h hs hT hsup hgrp hng hgI hgl
  go_enter Tryz.func103, Tryz.ntmps103
  go_wp2_with fail
  refine (a_read H.out 0 0 rfl (by omega) HS.out.coh (by omega) A.sup HS.out.sup).mono ?_
  rintro e w1 ⟨g0, c0, rest0, rfl, hg0, hc0, hl0, hR0, h1, hk1, hr1⟩
  generalize s.read 0 = s1 at *
  have hld1 := hr1.load
  have HK1 := Lib.hid hk1
  have HR1 := Lib.hid hr1
  have HG0 := Lib.hid hg0
  have H1 := Lib.hid h1
  have HR0 := Lib.hid (hR0.sl hR0.lt)
  clear hk1 hr1 h1 hg0 hR0
  go_wp2_with fail
  refine (unsup _ _ _ _ _ _ _ _ _ HSU.out w1.heap.size _ c0 hc0 w1 (Nat.le_refl _) HR0.out (H1.out.tab HT.out)).mono ?_
  rintro e w2 ⟨rfl, hb2⟩
  have H2 := Lib.hid (H1.out.also hb2)
  have HB2 := Lib.hid hb2
  clear hb2
  go_wp2_with fail
  have H3 := Lib.hid (H2.out.also (below_box (w := w2) (.cells #[.int .i64 A.b, .int .i64 A.p, .int .i64 A.n, .int .i64 A.j, .int .i64 A.fb, .int .i64 A.fi, .int .i64 A.oo, .int .i64 A.mo, .bool A.cl] 124)))
  have r3 := rowV_new w2 [.int .i64 A.b, .int .i64 A.p, .int .i64 A.n, .int .i64 A.j, .int .i64 A.fb, .int .i64 A.fi, .int .i64 A.oo, .int .i64 A.mo, .bool A.cl] 124
  have hb3 := below_box (w := w2) (.cells #[.int .i64 A.b, .int .i64 A.p, .int .i64 A.n, .int .i64 A.j, .int .i64 A.fb, .int .i64 A.fi, .int .i64 A.oo, .int .i64 A.mo, .bool A.cl] 124)
  have hz3 : w2.heap.size < (w2.alloc (.cells #[.int .i64 A.b, .int .i64 A.p, .int .i64 A.n, .int .i64 A.j, .int .i64 A.fb, .int .i64 A.fi, .int .i64 A.oo, .int .i64 A.mo, .bool A.cl] 124)).heap.size := by simp
  generalize hq2 : w2.heap.size = q2 at *
  generalize hW3 : w2.alloc (.cells #[.int .i64 A.b, .int .i64 A.p, .int .i64 A.n, .int .i64 A.j, .int .i64 A.fb, .int .i64 A.fi, .int .i64 A.oo, .int .i64 A.mo, .bool A.cl] 124) = W3 at *
  have HQ2 := Lib.hid hq2
  have HR3 := Lib.hid r3
  have HB3 := Lib.hid hb3
  have x0 := rowc r3 0 rfl
  have HZ3 := Lib.hid hz3
  have HN := Lib.hid (show ((s1.N : Nat) : Int) = A.b by rw [HR1.out.N]; exact HS.out.N)
  clear hW3 r3 hb3 hz3 hq2
  go_quiet ((go_at_call 123; exact quiet_is (a_blocks (H3.out.drewN _) _ HN.out)))
  have H4 := Lib.hid (H3.out.drewN nq)
  have HR4 := Lib.hid (HR3.out.drewN nq)
  have hz4 : q2 < (W3.drewN nq).heap.size := HZ3.out
  have HB4 := Lib.hid (below_drewN HB3.out nq)
  clear x0
  generalize W3.drewN nq = W4 at *
  have HZ4 := Lib.hid hz4
  clear hz4
  go_wp2_with fail
  have hlen1 := H4.out.len
  refine (a_read H4.out 1 1 rfl (by omega) HR1.out.coh (by omega) A.grps (by rw [HR1.out.val]; exact HS.out.grp)).mono ?_
  rintro e w5 ⟨g5, c5, rest5, rfl, hg5, hc5, hl5, hR5, h5, hk5, hr5⟩
  generalize s1.read 1 = s2 at *
  have HK5 := Lib.hid hk5
  have HRD := Lib.hid (HR1.out.trans hr5)
  have H5 := Lib.hid h5
  have HR5 := Lib.hid (hR5.sl hR5.lt)
  have r5 : RowV w5 q2 124 _ := (hk5 q2 (.inr ⟨Nat.le_refl _, HZ3.out⟩)).trans HR4.out
  have x0 := rowc r5 0 rfl
  have x1 := rowc r5 1 rfl
  have x2 := rowc r5 2 rfl
  have x3 := rowc r5 3 rfl
  have HR6 := Lib.hid r5
  have HG5 := Lib.hid hg5
  clear hk5 hr5 h5 hR5 r5 hg5
  go_wp2_with fail
  refine (HGI.out _).mono ?_
  rintro e w6 ⟨rfl, hb6⟩
  have H6 := Lib.hid (H5.out.also hb6)
  have HR7 := Lib.hid (HR6.out.keep hb6 HR6.out.lt)
  have HR8 := Lib.hid (HR5.out.below hb6)
  have HB6 := Lib.hid hb6
  clear hb6 x0 x1 x2 x3
  go_wp2_with fail
  refine (ungrp A.gs HGR.out A.ng HGL.out w5.heap.size _ c5 hc5 w6 HB6.out.size HR8.out (H6.out.tab HT.out)).mono ?_
  rintro e w7 ⟨gb, c7, rest7, rfl, hg7, hr7, hb7⟩
  have H7 := Lib.hid (H6.out.also hb7)
  have r7 := HR7.out.keep hb7 HR7.out.lt
  have x0 := rowc r7 0 rfl
  have x1 := rowc r7 1 rfl
  have x2 := rowc r7 2 rfl
  have x3 := rowc r7 3 rfl
  have x4 := rowc r7 4 rfl
  have x5 := rowc r7 5 rfl
  have x6 := rowc r7 6 rfl
  have x7 := rowc r7 7 rfl
  have x8 := rowc r7 8 rfl
  have HG7 := Lib.hid hg7
  have HR9 := Lib.hid hr7
  have HB7 := Lib.hid hb7
  clear r7 hr7 hb7 hg7
  go_wp2
  go_ret2
  have H8 := H7.out.also (below_box (w := w7) (.cells #[.pointer (some ⟨b, 0, none⟩), .int .i64 A.b, .int .i64 A.p, .int .i64 A.n, .int .i64 A.j, .int .i64 A.fb, .int .i64 A.fi, .int .i64 A.oo, .int .i64 A.mo, .bool A.cl, .slice (some ⟨gb, 0, none⟩) A.ng c7] 167))
  have t1 := H1.out.there g0 (.inr rfl)
  have t2 := HB2.out.size
  have t3 := HB4.out.size
  have t4 := H5.out.there g5 (.inr rfl)
  have t5 := HB6.out.size
  have t6 := HB7.out.size
  have t0 := HG0.out
  have t7 := HG5.out
  have t8 := HG7.out
  have t9 := HR9.out.lt
  refine ⟨w7.heap.size, gb, c7, s2, rfl, by omega, by omega, ⟨?_, rest7, ?_⟩, H8.less fun q hq => ?_, ?_, HRD.out⟩
  · have := row_new w7 (.cells #[.pointer (some ⟨b, 0, none⟩), .int .i64 A.b, .int .i64 A.p, .int .i64 A.n, .int .i64 A.j, .int .i64 A.fb, .int .i64 A.fi, .int .i64 A.oo, .int .i64 A.mo, .bool A.cl, .slice (some ⟨gb, 0, none⟩) A.ng c7] 167)
    rw [HGL.out]
    exact this
  · exact row_alloc HR9.out _
  · rcases hq with hq | rfl | rfl
    · exact .inl (.inl (.inl (.inl (.inl (.inl (.inl hq))))))
    · exact .inr ⟨Nat.le_refl _, by simp⟩
    · exact .inl (.inr ⟨t8, t9⟩)
  · refine (((((HK1.out.trans ((H1.out.kp HB2.out).less fun _ h => .inl h)).trans ((H2.out.kp (by rw [HQ2.out]; exact HB4.out)).less fun _ h => .inl (.inl h))).trans (HK5.out.less fun _ h => .inl (.inl (.inl h)))).trans
      ((H5.out.kp HB6.out).less fun _ h => .inl (.inl (.inl (.inl h))))).trans ((H6.out.kp HB7.out).less fun _ h => .inl (.inl (.inl (.inl (.inl h)))))).trans ((H7.out.kp (below_box _)).less fun _ h => .inl (.inl (.inl (.inl (.inl (.inl h))))))
end
end Go.Proofs.YtgjcbfdhpbkhoaaGreatDoor.AOpen
/- The allocator: a bitmap is read, or turned. -/
namespace Go.Proofs.YtgjcbfdhpbkhoaaGreatDoor.ATurn
open Go.RowKit WMem WPlain WAppend WCrc WSeal TPlain TBits TSet TTurn TFace TTurnF GPlain GGeo GGeo2 GFace Ext Map DPlain DMem EPlain EMem EFace EAny SPlain QPlain APlain AMem AGeo AOpen
section
variable {a w : World} {B : Nat} {S : Nat → Prop} {b db : Nat} {s : Sto} {A : Al} {lb gb c : Nat} {gs : List Grp} {fb fi : Int}
theorem chk_map {l : Bk} {n seed : Nat} (h : isMap l n seed = true) (hn : n ≤ 2016) : chkE l (n : Int) seed = 0 := by
  have hs : sizeB (n : Int) = true := by simp [sizeB]; omega
  simp [chkE, hs, h]
end
end Go.Proofs.YtgjcbfdhpbkhoaaGreatDoor.ATurn
/- The allocator: more of a group is counted, or less. -/
namespace Go.Proofs.YtgjcbfdhpbkhoaaGreatDoor.ACount
open Go.RowKit WMem WPlain WAppend WCrc WSeal TPlain TBits TSet TTurn TFace TTurnF GPlain GGeo GGeo2 GFace Ext Map DPlain DMem EPlain EMem EFace EAny SPlain SPack QPlain QMem QPack APlain AMem AGeo AOpen ATurn
section
variable {a w : World} {B : Nat} {S : Nat → Prop} {b db : Nat} {s : Sto} {A : Al} {lb gb c : Nat} {gs : List Grp} {fb fi : Int}
def lcells (b gb m c : Nat) (A : Al) (fb fi : Int) : List Value := [.pointer (some ⟨b, 0, none⟩), .int .i64 A.b, .int .i64 A.p, .int .i64 A.n, .int .i64 A.j, .int .i64 fb, .int .i64 fi, .int .i64 A.oo, .int .i64 A.mo, .bool A.cl, .slice (some ⟨gb, 0, none⟩) m c]
theorem set_at {l : List Value} {k : Nat} {v : Value} (j : Nat) (h : k ≠ j) : (l.set k v)[j]? = l[j]? := by rw [List.getElem?_set_ne h]
end
end Go.Proofs.YtgjcbfdhpbkhoaaGreatDoor.ACount
/- The allocator: a bitmap in which what nobody may have is taken. -/
namespace Go.Proofs.YtgjcbfdhpbkhoaaGreatDoor.AHad
open Go.RowKit WMem WPlain WAppend WCrc WSeal TPlain TBits TSet TTurn TFace TTurnF TSame GPlain GGeo GGeo2 GFace Ext Map DPlain DMem EPlain EMem EFace EAny SPlain QPlain QMem APlain AMem AGeo AOpen ATurn
theorem or_go (x : UInt8) (s : Nat) (hs : s < 8) : bits BinOp.or IntKind.u8 (x.toNat : Int) (IntKind.u8.wrap (2 ^ s)) = ((setB x s).toNat : Int) := by
  have hx := byte_lt x
  have h2 : 2 ^ s < 256 := Nat.lt_of_le_of_lt (Nat.pow_le_pow_right (by decide) (show s ≤ 7 by omega)) (by decide)
  have h0 : IntKind.u8.wrap (2 ^ s) = (2 ^ s : Int) := by
    rw [show (2 : Int) ^ s = ((2 ^ s : Nat) : Int) by push_cast; rfl, IntKind.wrap_u8']
    generalize 2 ^ s = m at h2 ⊢
    omega
  rw [h0]
  show IntKind.u8.wrap ((BitVec.ofInt 8 (x.toNat : Int) ||| BitVec.ofInt 8 (2 ^ s)).toNat : Int) = _
  have h : (BitVec.ofInt 8 (x.toNat : Int) ||| BitVec.ofInt 8 (2 ^ s)).toNat = x.toNat ||| 2 ^ s := by
    rw [BitVec.toNat_or]
    have h1 : (BitVec.ofInt 8 (x.toNat : Int)).toNat = x.toNat := by simp
    have h3 : (BitVec.ofInt 8 (2 ^ s)).toNat = 2 ^ s := by
      rw [show (2 : Int) ^ s = ((2 ^ s : Nat) : Int) by push_cast; rfl]
      simp only [BitVec.ofInt_natCast, BitVec.toNat_ofNat]
      exact Nat.mod_eq_of_lt h2
    rw [h1, h3]
  have h4 : x.toNat ||| 2 ^ s < 256 := Nat.or_lt_two_pow (n := 8) hx h2
  rw [h, IntKind.wrap_u8']
  unfold setB
  simp only [UInt8.toNat_ofNat']
  omega
def hadL (l : Bk) (P : Nat → Bool) : Nat → Bk
  | 0 => l
  | k + 1 => if P k = true then lay1 (hadL l P k) k else hadL l P k
def had (A : Al) (hld : Nat → Bool) (i : Nat) : Nat → Bool := fun k => decide (k < A.own i) || hld (A.at_ i + k)
section
variable {a w : World} {B : Nat} {S : Nat → Prop} {b db : Nat} {s : Sto} {A : Al} {lb gb c : Nat} {gs : List Grp} {fb fi : Int}
end
end Go.Proofs.YtgjcbfdhpbkhoaaGreatDoor.AHad
/- The allocator: groups are told round, from one of them on. -/
namespace Go.Proofs.YtgjcbfdhpbkhoaaGreatDoor.ARound
open Go.RowKit Go.Shelf WMem QMem QChunk APlain AMem
attribute [local go_sem] Oper.semAt_some
def nth (f N x : Nat) : Nat := (f + x) % N
end Go.Proofs.YtgjcbfdhpbkhoaaGreatDoor.ARound
