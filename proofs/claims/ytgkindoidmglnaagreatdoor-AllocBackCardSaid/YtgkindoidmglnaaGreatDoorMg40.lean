/- A store that a law has made, beside blocks of the law's own; what reading leaves; what a store says of an allocator; a ledger in memory. -/
import Derived.Test.YtgkindoidmglnaaGreatDoorMg24
import Derived.Test.YtgkindoidmglnaaGreatDoorMg39
import Derived.Test.YtgkindoidmglnaaGreatDoorMg23
import Derived.Test.YtgkindoidmglnaaGreatDoorMg14
import Derived.Test.YtgkindoidmglnaaGreatDoorMg20
namespace Go.Proofs.YtgkindoidmglnaaGreatDoor.AMem
open Go.RowKit Go.Shelf WMem WPlain WAppend WCrc WSeal Ext Map DPlain DMem EPlain EMem EFace EWrite EHold ERead EBack EAny QPlain QUnp APlain

theorem rowV_new (w : World) (xs : List Value) (T : TypeId) : RowV (w.alloc (.cells xs.toArray T)) w.heap.size T xs := row_new w _
theorem rowV_far {w : World} {g : Nat} {T : TypeId} {xs : List Value} (h : RowV w g T xs) (p : Addr) (v : Value) (hp : g ≠ p.block) : RowV (w.setCell p v) g T xs := (Below.heap_setCell w p v g hp).trans h
theorem rowc {w : World} {g : Nat} {T : TypeId} {xs : List Value} (h : RowV w g T xs) (i : Nat) {v : Value} (hv : xs[i]? = some v) : w.cell? ⟨g, i, none⟩ = some v := by
  rw [row_cell h, List.getElem?_toArray]
  exact hv
theorem quiet_is {P : Program} {f : FuncId} {args : Array Value} {w : World} {n : Nat} {v : Value}
    (h : Calls P f args (w.drewN n) fun e w' => e = .returned v ∧ w.drewN n = w') : Calls P f args (w.drewN n) fun e w'' => e = .returned v ∧ ∃ m, w'' = w.drewN m :=
  h.mono fun _ _ ⟨he, hm⟩ => ⟨he, n, hm.symm⟩
/-- the law's own blocks lie as they lay -/
def Kp (S : Nat → Prop) (w w' : World) : Prop := ∀ q, S q → w'.heap[q]? = w.heap[q]?
theorem Kp.refl (S : Nat → Prop) (w : World) : Kp S w w := fun _ _ => rfl
theorem Kp.trans {S : Nat → Prop} {w w' w'' : World} (h : Kp S w w') (k : Kp S w' w'') : Kp S w w'' := fun q hq => (k q hq).trans (h q hq)
theorem Kp.less {S S' : Nat → Prop} {w w' : World} (h : Kp S w w') (hs : ∀ q, S' q → S q) : Kp S' w w' := fun q hq => h q (hs q hq)
theorem Kp.below {S : Nat → Prop} {w w' : World} (hS : ∀ q, S q → q < w.heap.size) (h : Below w.heap.size w w') : Kp S w w' := fun q hq => h.block q (hS q hq)

theorem Kp.cell {S : Nat → Prop} (w : World) (p : Addr) (v : Value) (hp : ¬ S p.block) : Kp S w (w.setCell p v) := fun q hq => Below.heap_setCell w p v q (fun e => hp (e ▸ hq))
theorem Kp.drewN (S : Nat → Prop) (w : World) (n : Nat) : Kp S w (w.drewN n) := fun _ _ => rfl
theorem Kp.alloc {S : Nat → Prop} {w : World} (hS : ∀ q, S q → q < w.heap.size) (o : Obj) : Kp S w (w.alloc o) := Kp.below hS ((Below.refl _ _).alloc (Nat.le_refl _) o)
theorem Kp.ext {S P : Nat → Prop} {w w' : World} (he : Ext P w w') (hS : ∀ q, S q → q < w.heap.size) (hP : ∀ q, P q → ¬ S q) : Kp S w w' := fun q hq => he.block q (hS q hq) (fun h => hP q h hq)
/-- a store in new memory since a; S: blocks that are none of its own; its maps and its disk were there before block B -/
structure AS (a : World) (B : Nat) (S : Nat → Prop) (w : World) (b db : Nat) (s : Sto) : Prop where
  ex : ∃ (ρ : Ro) (D : Nat → Prop), EFace.Own w ρ D b db s ∧ (∀ q, All ρ D q → a.heap.size ≤ q ∧ ¬ S q) ∧ (∀ q, isMapR (ρ q) → q < B) ∧ ∀ q, D q → q < B
  below : Below a.heap.size a w
  there : ∀ q, S q → q < w.heap.size
section
variable {a w w' : World} {B : Nat} {S S' : Nat → Prop} {b db : Nat} {s s' : Sto}
theorem AS.of_go {ρ ρ' : Ro} {D : Nat → Prop} (h : AS a B S w b db s) (hA : ∀ q, All ρ D q → a.heap.size ≤ q ∧ ¬ S q) (hB : (∀ q, isMapR (ρ q) → q < B) ∧ ∀ q, D q → q < B) (g : Goes w w' ρ D ρ' D b db s') : AS a B S w' b db s' ∧ Kp S w w' :=
  ⟨⟨⟨_, _, g.own, fun q hq => by
    rcases g.new q hq with h1 | h1
    · exact hA q h1
    · exact ⟨Nat.le_trans h.below.size h1, fun hS => by have := h.there q hS; omega⟩, fun q hq => hB.1 q (g.mr q hq), hB.2⟩, h.below.trans (g.ext.below h.below.size (fun q hq => (hA q hq).1)),
    fun q hq => Nat.lt_of_lt_of_le (h.there q hq) g.ext.size⟩, fun q hq => g.ext.block q (h.there q hq) (fun hj => (hA q hj).2 hq)⟩
/-- a record that the walk keeps may turn -/
theorem AS.grown {row : Option Nat} (h : AS a B S w b db s) (hg : w.grownBy w' row) (hr : ∀ r, row = some r → B ≤ r ∧ a.heap.size ≤ r ∧ ∃ o : Obj, w.heap[r]? = some o ∧ o.isCells = false) : AS a B S w' b db s := by
  obtain ⟨ρ, D, hO, hA, hB⟩ := h.ex
  obtain ⟨h1, h2⟩ := ETrim.own_grown hO hB.1 hB.2 hg (fun r e => ⟨(hr r e).1, (hr r e).2.2⟩)
  refine ⟨⟨_, D, h1, fun q hq => ?_, fun q hq => hB.1 q (ETrim.trim_map hq), hB.2⟩, ?_, fun q hq => Nat.lt_of_lt_of_le (h.there q hq) hg.size⟩
  · rcases hq with hq | hq
    · exact hA q (.inl (ETrim.trim_mine hq).1)
    · exact hA q (.inr hq)
  · refine h.below.trans ⟨hg.os, hg.tape, hg.output, hg.size, fun k hk => hg.block k (Nat.lt_of_lt_of_le hk h.below.size) (fun e => ?_)⟩
    have := (hr k e.symm).2.1
    omega
/-- what is new is the law's own, too -/
theorem AS.also (h : AS a B S w b db s) (hb : Below w.heap.size w w') : AS a B (fun q => S q ∨ (w.heap.size ≤ q ∧ q < w'.heap.size)) w' b db s := by
  obtain ⟨ρ, D, hO, hA, hB⟩ := h.ex
  refine ⟨⟨ρ, D, hO.below hb, fun q hq => ⟨(hA q hq).1, fun hS => ?_⟩, hB⟩, h.below.trans (hb.mono h.below.size), fun q hS => ?_⟩
  · rcases hS with hS | hS
    · exact (hA q hq).2 hS
    · have := hO.there q hq; omega
  · rcases hS with hS | hS
    · exact Nat.lt_of_lt_of_le (h.there q hS) hb.size
    · exact hS.2
/-- records that the walk keeps are none of the store's -/
theorem AS.walks (h : AS a B S w b db s) (B1 : Nat) (hB : B ≤ B1) : AS a B (fun q => S q ∨ (B1 ≤ q ∧ ∃ o : Obj, w.heap[q]? = some o ∧ o.isCells = false)) w b db s := by
  obtain ⟨ρ, D, hO, hA, hB2⟩ := h.ex
  refine ⟨⟨_, D, ETrim.trim_of hO, fun q hq => ?_, fun q hq => hB2.1 q (ETrim.trim_map hq), hB2.2⟩, h.below, fun q hq => ?_⟩
  · have hq1 : All ρ D q := by
      rcases hq with hq | hq
      · exact .inl (ETrim.trim_mine hq).1
      · exact .inr hq
    refine ⟨(hA q hq1).1, fun h4 => ?_⟩
    rcases h4 with h4 | ⟨h4, o, h5, h6⟩
    · exact (hA q hq1).2 h4
    · rcases hq with hq | hq
      · rcases (ETrim.trim_mine hq).2 with h7 | ⟨cs, T, fz, h7⟩
        · have := hB2.1 q h7; omega
        · rw [h5] at h7
          injection h7 with h7
          subst h7
          cases h6
      · have := hB2.2 q hq; omega
  · rcases hq with hq | ⟨_, o, h5, _⟩
    · exact h.there q hq
    · exact (Array.getElem?_eq_some_iff.1 h5).1
theorem AS.less (h : AS a B S w b db s) (hS : ∀ q, S' q → S q) : AS a B S' w b db s := by
  obtain ⟨ρ, D, hO, hA, hB⟩ := h.ex
  exact ⟨⟨ρ, D, hO, fun q hq => ⟨(hA q hq).1, fun h2 => (hA q hq).2 (hS q h2)⟩, hB⟩, h.below, fun q hq => h.there q (hS q hq)⟩
theorem AS.go (h : AS a B S w b db s) (hb : Below w.heap.size w w') : AS a B S w' b db s := (h.also hb).less fun _ hq => .inl hq
theorem AS.kp (h : AS a B S w b db s) (hb : Below w.heap.size w w') : Kp S w w' := Kp.below h.there hb
theorem AS.drewN (h : AS a B S w b db s) (n : Nat) : AS a B S (w.drewN n) b db s := h.go (below_drewN (Below.refl _ _) n)
/-- the law turns blocks of its own -/
theorem AS.turn (h : AS a B S w b db s) (he : Ext S w w') (hS : ∀ q, S q → a.heap.size ≤ q) : AS a B S w' b db s := by
  obtain ⟨ρ, D, hO, hA, hB⟩ := h.ex
  exact ⟨⟨ρ, D, hO.keep (fun q hq => he.block q (hO.there q hq) (hA q hq).2) he.size, hA, hB⟩, h.below.trans (he.below h.below.size hS), fun q hq => Nat.lt_of_lt_of_le (h.there q hq) he.size⟩
/-- .. some of them -/
theorem AS.turnP {P : Nat → Prop} (h : AS a B S w b db s) (he : Ext P w w') (hP : ∀ q, P q → S q ∧ a.heap.size ≤ q) : AS a B S w' b db s := by
  obtain ⟨ρ, D, hO, hA, hB⟩ := h.ex
  exact ⟨⟨ρ, D, hO.keep (fun q hq => he.block q (hO.there q hq) (fun h2 => (hA q hq).2 (hP q h2).1)) he.size, hA, hB⟩, h.below.trans (he.below h.below.size (fun q hq => (hP q hq).2)), fun q hq => Nat.lt_of_lt_of_le (h.there q hq) he.size⟩
/-- a cell of the law's own is written -/
theorem AS.cell (h : AS a B S w b db s) (p : Addr) (v : Value) (hp : S p.block) (ha : a.heap.size ≤ p.block) : AS a B S (w.setCell p v) b db s :=
  h.turnP (P := fun q => q = p.block) ((Ext.refl (fun q => q = p.block) w).setCell (p := p) (.inl rfl) v) (fun q hq => by subst hq; exact ⟨hp, ha⟩)
theorem AS.wf (h : AS a B S w b db s) : s.Wf := by
  obtain ⟨ρ, D, hO, hA, hB⟩ := h.ex
  exact hO.wf
theorem AS.len (h : AS a B S w b db s) : 128 ≤ s.N ∧ s.N ≤ 4096 := by
  obtain ⟨ρ, D, hO, hA, hB⟩ := h.ex
  exact hO.len
theorem AS.tab (h : AS a B S w b db s) (hT : Tab a) : Tab w := Tab.below hT h.below (Tab.lt hT)
theorem AS.is (h : AS a B S w b db s) (e : s' = s) : AS a B S w b db s' := by subst e; exact h
end

/-- what is cached is what the disk says -/
def Coh (s : Sto) : Prop := ∀ n, n ∈ s.sh n → s.mem n = s.d.readAt n
theorem sh_use (s : Sto) (n m : Nat) (h : m ∈ (s.use n).sh m) : m = n ∨ m ∈ s.sh m := by
  unfold Sto.sh Sto.use at h
  simp only [List.length_set] at h
  by_cases e : n % s.cch.length = m % s.cch.length
  · rw [e] at h
    rw [List.getD_eq_getElem?_getD] at h
    by_cases hl : m % s.cch.length < s.cch.length
    · rw [List.getElem?_set_self hl] at h
      simp only [Option.getD_some] at h
      rcases mem_putC h with h1 | h1
      · exact .inl h1
      · have e2 : s.sh n = s.sh m := by unfold Sto.sh; rw [e]
        rw [← e2]
        exact .inr h1
    · rw [List.getElem?_eq_none (by rw [List.length_set]; omega)] at h
      cases h
  · rw [List.getD_eq_getElem?_getD, List.getElem?_set_ne e] at h
    exact .inr (by unfold Sto.sh; rw [List.getD_eq_getElem?_getD]; exact h)
theorem sh_lose (s : Sto) (n m : Nat) (h : m ∈ (s.lose n).sh m) : m ∈ s.sh m := by
  unfold Sto.sh Sto.lose at h
  simp only [List.length_set] at h
  by_cases e : n % s.cch.length = m % s.cch.length
  · rw [e] at h
    rw [List.getD_eq_getElem?_getD] at h
    by_cases hl : m % s.cch.length < s.cch.length
    · rw [List.getElem?_set_self hl] at h
      simp only [Option.getD_some] at h
      have e2 : s.sh n = s.sh m := by unfold Sto.sh; rw [e]
      rw [← e2]
      exact (mem_dropC.1 h).1
    · rw [List.getElem?_eq_none (by rw [List.length_set]; omega)] at h
      cases h
  · rw [List.getD_eq_getElem?_getD, List.getElem?_set_ne e] at h
    unfold Sto.sh
    rw [List.getD_eq_getElem?_getD]
    exact h
/-- what reading leaves -/
structure Rd (s s' : Sto) (k : Nat) : Prop where
  now : s'.now = s.now
  wai : s'.wai = s.wai
  d : s'.d = s.d
  acts : s'.acts = s.acts
  coh : Coh s'
  load : s'.load ≤ s.load + k
section
variable {s s' s'' : Sto} {k j n m : Nat} {l : Bk}
theorem Rd.refl (h : Coh s) : Rd s s 0 := ⟨rfl, rfl, rfl, rfl, h, Nat.le_refl _⟩
theorem Rd.trans (h : Rd s s' k) (h' : Rd s' s'' j) : Rd s s'' (k + j) := ⟨h'.now.trans h.now, h'.wai.trans h.wai, h'.d.trans h.d, h'.acts.trans h.acts, h'.coh, by have := h.load; have := h'.load; omega⟩
theorem Rd.more (h : Rd s s' k) (hk : k ≤ j) : Rd s s' j := ⟨h.now, h.wai, h.d, h.acts, h.coh, by have := h.load; omega⟩
theorem Rd.read (h : Coh s) (n : Nat) : Rd s (s.read n) 1 := by
  have hl := Sto.load_read s n
  unfold Sto.read at hl ⊢
  split
  · rename_i e
    rw [if_pos e] at hl
    exact ⟨rfl, rfl, rfl, rfl, h, hl⟩
  · rename_i e
    rw [if_neg e] at hl
    split
    · rename_i e2
      rw [if_pos e2] at hl
      refine ⟨rfl, rfl, rfl, rfl, fun m hm => ?_, hl⟩
      rcases sh_use s n m hm with rfl | h1
      · exact h _ e2
      · exact h m h1
    · rename_i e2
      rw [if_neg e2] at hl
      refine ⟨rfl, rfl, rfl, rfl, fun m hm => ?_, hl⟩
      show (if m = n then s.d.readAt n else s.mem m) = s.d.readAt m
      split
      · rename_i e3
        rw [e3]
      · rename_i e3
        rcases sh_use s n m hm with h1 | h1
        · exact absurd h1 e3
        · exact h m h1
theorem Rd.val (h : Rd s s' k) (n : Nat) : s'.val n = s.val n := by
  unfold Sto.val
  rw [h.now, h.wai, h.d]
theorem Rd.N (h : Rd s s' k) : s'.N = s.N := by
  unfold Sto.N
  rw [h.d]
theorem write_val (s : Sto) (n m : Nat) (l : Bk) : (s.write n l).val m = if m = n then l else s.val m := by
  unfold Sto.val Sto.write
  simp only
  split
  · rename_i e
    split at e
    · rename_i e2
      injection e with e
      rw [if_pos e2, e]
    · rename_i e2
      rw [if_neg e2, e]
  · rename_i e
    split at e
    · cases e
    · rename_i e2
      rw [if_neg e2, e]
      rfl
theorem hold_val (s : Sto) (n m : Nat) : (s.hold n).val m = s.val m := rfl
theorem release_val (s : Sto) (m : Nat) : s.release.val m = s.val m := rfl
theorem Coh.write (h : Coh s) (n : Nat) (l : Bk) : Coh (s.write n l) := fun m hm => h m (sh_lose s n m hm)
theorem Coh.hold (h : Coh s) (n : Nat) : Coh (s.hold n) := h
theorem Coh.release (h : Coh s) : Coh s.release := h
theorem Coh.back (h : Coh s) (m : Nat) : Coh (s.back m) := h
theorem Coh.fresh (d : St) (ns room : Nat) : Coh (fresh d ns room) := fun _ _ => rfl
theorem val_len (h : s.Wf) (hd : ∀ n, n < s.N → (s.d.readAt n).length = 256) {n : Nat} (hn : n < s.N) : (s.val n).length = 256 := by
  unfold Sto.val
  split
  · rename_i e
    exact (h.chg _ _ e).2
  · split
    · rename_i e
      exact (h.wai _ _ e).2
    · exact hd n hn
end

/-- what a store says -/
structure Says (s : Sto) (A : Al) : Prop where
  fine : A.Fine
  N : (s.N : Int) = A.b
  sup : s.val 0 = A.sup
  grp : s.val 1 = A.grps
  bms : ∀ i, i < A.ng → s.val (A.bat i) = A.bm i
  ims : ∀ i, i < A.ng → s.val (A.bat i + 1) = A.im i
  coh : Coh s
section
variable {s s' : Sto} {A : Al} {k : Nat}
theorem Says.rd (h : Says s A) (r : Rd s s' k) : Says s' A :=
  ⟨h.fine, by rw [r.N]; exact h.N, by rw [r.val]; exact h.sup, by rw [r.val]; exact h.grp, fun i hi => by rw [r.val]; exact h.bms i hi, fun i hi => by rw [r.val]; exact h.ims i hi, r.coh⟩
theorem Says.hold (h : Says s A) (n : Nat) : Says (s.hold n) A := ⟨h.fine, h.N, h.sup, h.grp, h.bms, h.ims, h.coh⟩
theorem Says.release (h : Says s A) : Says s.release A := ⟨h.fine, h.N, h.sup, h.grp, h.bms, h.ims, h.coh⟩
theorem Says.bat_lt (h : Says s A) {i : Nat} (hi : i < A.ng) : A.bat i + 1 < s.N := by
  have g := geo h.fine.may hi
  have := h.N
  have := g.a4
  have := g.a5
  have := g.a6
  have := g.a8
  omega
/-- three writes: a bitmap, and what the counts are then -/
theorem Says.putB (h : Says s A) {i : Nat} {l : Bk} (hi : i < A.ng) (hf : (A.setB i l).Fine) : Says (((s.write (A.bat i) l).write 1 (A.setB i l).grps).write 0 (A.setB i l).sup) (A.setB i l) := by
  have g := geo h.fine.may hi
  have h9 := g.a9
  refine ⟨hf, h.N, ?_, ?_, fun k hk => ?_, fun k hk => ?_, ((h.coh.write _ _).write _ _).write _ _⟩
  · rw [write_val, if_pos rfl]
  · rw [write_val, if_neg (by decide), write_val, if_pos rfl]
  · have hk' : k < A.ng := hk
    have := (geo h.fine.may hk').a9
    show Sto.val _ (A.bat k) = if k = i then l else A.bm k
    rw [write_val, if_neg (by show A.bat k ≠ 0; omega), write_val, if_neg (by show A.bat k ≠ 1; omega), write_val]
    by_cases e : k = i
    · subst e
      rw [if_pos rfl, if_pos rfl]
    · have := bat_ne h.fine.may hk' hi e
      rw [if_neg e, if_neg (by show A.bat k ≠ A.bat i; omega)]
      exact h.bms k hk'
  · have hk' : k < A.ng := hk
    have := (geo h.fine.may hk').a9
    show Sto.val _ (A.bat k + 1) = A.im k
    rw [write_val, if_neg (by show A.bat k + 1 ≠ 0; omega), write_val, if_neg (by show A.bat k + 1 ≠ 1; omega), write_val]
    have hne : A.bat k + 1 ≠ A.bat i := by
      by_cases e : k = i
      · subst e; omega
      · have := bat_ne h.fine.may hk' hi e
        omega
    rw [if_neg hne]
    exact h.ims k hk'
theorem Says.putI (h : Says s A) {i : Nat} {l : Bk} {d : Int} (hi : i < A.ng) (hf : (A.setI i l d).Fine) : Says (((s.write (A.bat i + 1) l).write 1 (A.setI i l d).grps).write 0 (A.setI i l d).sup) (A.setI i l d) := by
  have g := geo h.fine.may hi
  have h9 := g.a9
  refine ⟨hf, h.N, ?_, ?_, fun k hk => ?_, fun k hk => ?_, ((h.coh.write _ _).write _ _).write _ _⟩
  · rw [write_val, if_pos rfl]
  · rw [write_val, if_neg (by decide), write_val, if_pos rfl]
  · have hk' : k < A.ng := hk
    have := (geo h.fine.may hk').a9
    show Sto.val _ (A.bat k) = A.bm k
    have hne : A.bat k ≠ A.bat i + 1 := by
      by_cases e : k = i
      · subst e; omega
      · have := bat_ne h.fine.may hk' hi e
        omega
    rw [write_val, if_neg (by show A.bat k ≠ 0; omega), write_val, if_neg (by show A.bat k ≠ 1; omega), write_val, if_neg hne]
    exact h.bms k hk'
  · have hk' : k < A.ng := hk
    have := (geo h.fine.may hk').a9
    show Sto.val _ (A.bat k + 1) = if k = i then l else A.im k
    rw [write_val, if_neg (by show A.bat k + 1 ≠ 0; omega), write_val, if_neg (by show A.bat k + 1 ≠ 1; omega), write_val]
    by_cases e : k = i
    · subst e
      rw [if_pos rfl, if_pos rfl]
    · have := bat_ne h.fine.may hk' hi e
      rw [if_neg e, if_neg (by show A.bat k + 1 ≠ A.bat i + 1; omega)]
      exact h.ims k hk'
end

section
variable {a w : World} {B : Nat} {S : Nat → Prop} {b db : Nat} {s : Sto}
/-- the calls of a store -/
theorem a_blocks (h : AS a B S w b db s) (N : Int) (hN : (s.N : Int) = N) : Calls Tryz.prog 99 #[.pointer (some ⟨b, 0, none⟩)] w fun e w' => e = .returned (.int .i64 N) ∧ w = w' := by
  subst hN
  obtain ⟨ρ, D, hO, hA, hB⟩ := h.ex
  exact Blocks_own hO
theorem a_held (h : AS a B S w b db s) (n : Int) (k : Nat) (hk : (k : Int) = n) (hn : k ≤ 8192) (q : Bool) (hq : s.now.hld k = q) : Calls Tryz.prog 12 #[.pointer (some ⟨b, 0, none⟩), .int .i64 n] w fun e w' => e = .returned (.bool q) ∧ Below w.heap.size w w' := by
  subst hk
  obtain ⟨ρ, D, hO, hA, hB⟩ := h.ex
  have e : heldV s (k : Int) = q := by simp [heldV, hq]
  rw [← e]
  exact Held_own hO _ ⟨by omega, by omega⟩
theorem a_mark (h : AS a B S w b db s) (hl : s.load ≤ 1073741824) : Calls Tryz.prog 57 #[.pointer (some ⟨b, 0, none⟩)] w fun e w' => e = .returned (.int .i64 s.acts.length) ∧ w = w' := by
  obtain ⟨ρ, D, hO, hA, hB⟩ := h.ex
  exact Mark_own hO (by unfold Sto.load at hl; omega)
theorem a_read (h : AS a B S w b db s) (n : Int) (k : Nat) (hk : (k : Int) = n) (hn : k < s.N) (hc : Coh s) (hload : s.load ≤ 1073741824) (l : Bk) (hv : s.val k = l) :
    Calls Tryz.prog 37 #[.pointer (some ⟨b, 0, none⟩), .int .i64 n] w fun e w' => ∃ g c rest, e = .returned (.tuple #[.slice (some ⟨g, 0, none⟩) 256 c, .int .i64 0]) ∧ w.heap.size ≤ g ∧ 256 ≤ c ∧ l.length = 256 ∧ Row w' g l rest ∧
      AS a B (fun q => S q ∨ q = g) w' b db (s.read k) ∧ Kp S w w' ∧ Rd s (s.read k) 1 := by
  subst hk hv
  obtain ⟨ρ, D, hO, hA, hB⟩ := h.ex
  refine (SRead_own hO hn hload (hc k)).mono ?_
  rintro e w' ⟨u, rfl, ρ', hgo, g, c, rest, rfl, ⟨hg1, hg2, hg3⟩, hl, hc2, hR⟩
  obtain ⟨h1, h2⟩ := h.of_go hA hB hgo
  refine ⟨g, c, rest, rfl, hg1, hc2, hl, hR, ⟨⟨ρ', D, hgo.own, fun q hq => ?_, fun q hq => hB.1 q (hgo.mr q hq), hB.2⟩, h1.below, fun q hq => ?_⟩, h2, Rd.read hc k⟩
  · rcases hgo.new q hq with h3 | h3
    · refine ⟨(hA q h3).1, fun h4 => ?_⟩
      rcases h4 with h4 | rfl
      · exact (hA q h3).2 h4
      · have := hO.there q h3; omega
    · refine ⟨Nat.le_trans h.below.size h3, fun h4 => ?_⟩
      rcases h4 with h4 | rfl
      · have := h.there q h4; omega
      · rcases hq with hq | hq
        · exact hg3 hq
        · have := hO.dd.there q hq; omega
  · rcases hq with hq | rfl
    · exact h1.there q hq
    · exact hg2
theorem a_write (h : AS a B S w b db s) (n : Int) (k : Nat) (hk : (k : Int) = n) (hn : k < s.N) {v : Value} {l : Bk} (hv : IsBlk w S v l) (hload : s.load ≤ 1073741824) :
    Calls Tryz.prog 109 #[.pointer (some ⟨b, 0, none⟩), .int .i64 n, v] w fun e w' => e = .returned (.int .i64 0) ∧ AS a B S w' b db (s.write k l) ∧ Kp S w w' := by
  subst hk
  obtain ⟨ρ, D, hO, hA, hB⟩ := h.ex
  refine (SWrite_ok hO hn hv h.there (fun q h1 h2 => (hA q (.inl h1)).2 h2) hload).mono ?_
  rintro e w' ⟨rfl, ρ', hgo⟩
  exact ⟨rfl, h.of_go hA hB hgo⟩
theorem a_hold (h : AS a B S w b db s) (n : Int) (k : Nat) (hk : (k : Int) = n) (hn : k < s.N) (hload : s.load ≤ 1073741824) :
    Calls Tryz.prog 68 #[.pointer (some ⟨b, 0, none⟩), .int .i64 n] w fun e w' => e = .returned (.int .i64 0) ∧ AS a B S w' b db (s.hold k) ∧ Kp S w w' := by
  subst hk
  obtain ⟨ρ, D, hO, hA, hB⟩ := h.ex
  refine (Hold_ok hO hn hload).mono ?_
  rintro e w' ⟨rfl, ρ', hgo⟩
  exact ⟨rfl, h.of_go hA hB hgo⟩
theorem a_back (h : AS a B S w b db s) (m : Nat) (hm : m ≤ s.acts.length) (hload : s.load ≤ 1073741824) :
    Calls Tryz.prog 58 #[.pointer (some ⟨b, 0, none⟩), .int .i64 m] w fun e w' => e = .returned (.int .i64 0) ∧ AS a B S w' b db (s.back m) ∧ Kp S w w' := by
  obtain ⟨ρ, D, hO, hA, hB⟩ := h.ex
  refine (Back_own hO hm hload).mono ?_
  rintro e w' ⟨rfl, hgo⟩
  exact ⟨rfl, h.of_go hA hB hgo⟩
end

/-- the cells of groups -/
def three (x : Grp) : List Value := [.int .i64 x.fb, .int .i64 x.fi, .int .i64 x.dirs]
def cells (l : List Grp) : List Value := l.flatMap three
theorem cells_len (l : List Grp) : (cells l).length = 3 * l.length := by
  induction l with
  | nil => rfl
  | cons x r ih => simp only [cells, List.flatMap_cons, List.length_append, three, List.length_cons, List.length_nil] at ih ⊢; rw [ih]; omega
theorem cells_get (l : List Grp) : ∀ (i : Nat) (h : i < l.length), (cells l)[i * 3]? = some (.int .i64 l[i].fb) ∧ (cells l)[i * 3 + 1]? = some (.int .i64 l[i].fi) ∧ (cells l)[i * 3 + 2]? = some (.int .i64 l[i].dirs) := by
  induction l with
  | nil => intro i h; cases h
  | cons x r ih =>
    intro i h
    cases i with
    | zero => simp [cells, three]
    | succ i =>
      obtain ⟨h1, h2, h3⟩ := ih i (by simpa using h)
      have e : cells (x :: r) = three x ++ cells r := by simp [cells]
      rw [e]
      refine ⟨?_, ?_, ?_⟩
      · rw [List.getElem?_append_right (by simp [three]; omega)]; simpa [three, show (i + 1) * 3 - 3 = i * 3 by omega] using h1
      · rw [List.getElem?_append_right (by simp [three]; omega)]; simpa [three, show (i + 1) * 3 + 1 - 3 = i * 3 + 1 by omega] using h2
      · rw [List.getElem?_append_right (by simp [three]; omega)]; simpa [three, show (i + 1) * 3 + 2 - 3 = i * 3 + 2 by omega] using h3
theorem cells_set (l : List Grp) : ∀ (i : Nat) (x : Grp), i < l.length → cells (l.set i x) = (((cells l).set (i * 3) (.int .i64 x.fb)).set (i * 3 + 1) (.int .i64 x.fi)).set (i * 3 + 2) (.int .i64 x.dirs) := by
  induction l with
  | nil => intro i x h; cases h
  | cons y r ih =>
    intro i x h
    cases i with
    | zero => simp [cells, three]
    | succ i =>
      have e : ∀ z t, cells (z :: t) = three z ++ cells t := fun z t => by simp [cells]
      rw [List.set_cons_succ, e, e, ih i x (by simpa using h)]
      simp [three, show (i + 1) * 3 = i * 3 + 3 by omega, show i * 3 + 3 + 1 = i * 3 + 1 + 3 by omega, show i * 3 + 3 + 2 = i * 3 + 2 + 3 by omega]
/-- a ledger: the box lb, the row of groups gb -/
structure Led (w : World) (lb gb c b : Nat) (A : Al) (gs : List Grp) (fb fi : Int) : Prop where
  box : w.heap[lb]? = some (.cells #[.pointer (some ⟨b, 0, none⟩), .int .i64 A.b, .int .i64 A.p, .int .i64 A.n, .int .i64 A.j, .int .i64 fb, .int .i64 fi, .int .i64 A.oo, .int .i64 A.mo, .bool A.cl, .slice (some ⟨gb, 0, none⟩) gs.length c] 120 (0, 0))
  row : ∃ rest, w.heap[gb]? = some (.cells (cells gs ++ rest).toArray 87 (0, 0))
section
variable {w w' : World} {lb gb c b : Nat} {A : Al} {gs : List Grp} {fb fi : Int}
theorem Led.keep (h : Led w lb gb c b A gs fb fi) (h1 : w'.heap[lb]? = w.heap[lb]?) (h2 : w'.heap[gb]? = w.heap[gb]?) : Led w' lb gb c b A gs fb fi := by
  obtain ⟨rest, hr⟩ := h.row
  exact ⟨h1.trans h.box, rest, h2.trans hr⟩
theorem Led.kp {S : Nat → Prop} (h : Led w lb gb c b A gs fb fi) (hk : Kp S w w') (h1 : S lb) (h2 : S gb) : Led w' lb gb c b A gs fb fi := h.keep (hk _ h1) (hk _ h2)
theorem Led.lt (h : Led w lb gb c b A gs fb fi) : lb < w.heap.size ∧ gb < w.heap.size := by
  obtain ⟨rest, hr⟩ := h.row
  exact ⟨row_lt h.box, row_lt hr⟩
theorem Led.below (h : Led w lb gb c b A gs fb fi) (hb : Below w.heap.size w w') : Led w' lb gb c b A gs fb fi := h.keep (hb.block _ h.lt.1) (hb.block _ h.lt.2)
theorem Led.drewN (h : Led w lb gb c b A gs fb fi) (n : Nat) : Led (w.drewN n) lb gb c b A gs fb fi := h.keep rfl rfl
theorem Led.ne (h : Led w lb gb c b A gs fb fi) : lb ≠ gb := fun e => by
  obtain ⟨rest, hr⟩ := h.row
  have := h.box
  rw [e, hr] at this
  injection this with this
  injection this with h1 h2
  cases h2
/-- its cells -/
theorem Led.cs (h : Led w lb gb c b A gs fb fi) : w.cell? ⟨lb, 0, none⟩ = some (.pointer (some ⟨b, 0, none⟩)) ∧ w.cell? ⟨lb, 1, none⟩ = some (.int .i64 A.b) ∧ w.cell? ⟨lb, 2, none⟩ = some (.int .i64 A.p) ∧ w.cell? ⟨lb, 3, none⟩ = some (.int .i64 A.n) ∧ w.cell? ⟨lb, 4, none⟩ = some (.int .i64 A.j) ∧
    w.cell? ⟨lb, 5, none⟩ = some (.int .i64 fb) ∧ w.cell? ⟨lb, 6, none⟩ = some (.int .i64 fi) ∧ w.cell? ⟨lb, 7, none⟩ = some (.int .i64 A.oo) ∧ w.cell? ⟨lb, 8, none⟩ = some (.int .i64 A.mo) ∧ w.cell? ⟨lb, 9, none⟩ = some (.bool A.cl) ∧ w.cell? ⟨lb, 10, none⟩ = some (.slice (some ⟨gb, 0, none⟩) gs.length c) := by
  have hb := h.box
  refine ⟨?_, ?_, ?_, ?_, ?_, ?_, ?_, ?_, ?_, ?_, ?_⟩ <;> (rw [row_cell hb]; rfl)
theorem Led.gr (h : Led w lb gb c b A gs fb fi) {i : Nat} (hi : i < gs.length) : w.cell? ⟨gb, i * 3, none⟩ = some (.int .i64 gs[i].fb) ∧ w.cell? ⟨gb, i * 3 + 1, none⟩ = some (.int .i64 gs[i].fi) ∧ w.cell? ⟨gb, i * 3 + 2, none⟩ = some (.int .i64 gs[i].dirs) := by
  obtain ⟨rest, hr⟩ := h.row
  obtain ⟨h1, h2, h3⟩ := cells_get gs i hi
  have hl := cells_len gs
  refine ⟨?_, ?_, ?_⟩
  · rw [row_cell hr, List.getElem?_toArray, List.getElem?_append_left (by omega)]; exact h1
  · rw [row_cell hr, List.getElem?_toArray, List.getElem?_append_left (by omega)]; exact h2
  · rw [row_cell hr, List.getElem?_toArray, List.getElem?_append_left (by omega)]; exact h3
end
end Go.Proofs.YtgkindoidmglnaaGreatDoor.AMem
/- Where things lie, as the allocator asks: placeOf, groupOf, within. -/
namespace Go.Proofs.YtgkindoidmglnaaGreatDoor.AGeo
open Go.RowKit WMem WPlain WAppend WCrc WSeal GPlain GGeo GGeo2 GFace Ext Map DPlain DMem EPlain EMem EFace EAny QPlain APlain AMem

/-- a group's place, as the program says it -/
def plc (A : Al) (i : Nat) : List Value := [.int .i64 (A.at_ i : Nat), .int .i64 (A.at_ i + A.size i : Nat), .int .i64 (A.bat i : Nat), .int .i64 (A.bat i + 1 : Nat), .int .i64 (A.bat i + 2 : Nat), .int .i64 (A.at_ i + A.own i : Nat)]
/-- a geometry -/
def geoV (A : Al) : Value := .agg #[.int .i64 A.b, .int .i64 A.p, .int .i64 A.n, .int .i64 A.j]
theorem has_yes {A : Al} (h : May A.b A.p A.n A.j) {i : Nat} (hi : i < A.ng) : hasB A.b A.p A.n A.j i = true := by
  have := ng_is h
  have hm := may_iff.2 h
  unfold hasB
  rw [inB_true, groupsI_yes hm]
  omega
def z6 : List Value := [.int .i64 0, .int .i64 0, .int .i64 0, .int .i64 0, .int .i64 0, .int .i64 0]
set_option maxHeartbeats 1000000 in
theorem placeOf_x (b p n j k x0 x1 x2 x3 x4 x5 : Int) (w : World)
    (h1 : ∀ W, Calls Tryz.prog 26 #[.agg #[.int .i64 b, .int .i64 p, .int .i64 n, .int .i64 j], .int .i64 k] W fun e w' => e = .returned (.tuple #[.int .i64 x0, .int .i64 x1, .int .i64 0]) ∧ Below W.heap.size W w')
    (h2 : ∀ W, Calls Tryz.prog 27 #[.agg #[.int .i64 b, .int .i64 p, .int .i64 n, .int .i64 j], .int .i64 k] W fun e w' => e = .returned (.tuple #[.int .i64 x2, .int .i64 x3, .int .i64 x4, .int .i64 x5, .int .i64 0]) ∧ Below W.heap.size W w') :
    Calls Tryz.prog 61 #[.agg #[.int .i64 b, .int .i64 p, .int .i64 n, .int .i64 j], .int .i64 k] w fun e w' => e = .returned (.agg #[.int .i64 x0, .int .i64 x1, .int .i64 x2, .int .i64 x3, .int .i64 x4, .int .i64 x5]) ∧ Below w.heap.size w w' := by
  have HSP := Lib.hid h1
  have HPL := Lib.hid h2
  have HX := Lib.hid (Boxed.start w [.int .i64 b, .int .i64 p, .int .i64 n, .int .i64 j] 23)
  clear h1 h2
  go_enter Tryz.func61, Tryz.ntmps61
  go_wp2_with fail
  refine (HSP.out _).mono ?_
  rintro e w1 ⟨rfl, hb1⟩
  have r0 := ((rowV_new w [.int .i64 b, .int .i64 p, .int .i64 n, .int .i64 j] 23).alloc (.cells #[.int .i64 0, .int .i64 0, .int .i64 0, .int .i64 0, .int .i64 0, .int .i64 0] 115)).alloc (.cells #[.int .i64 0, .int .i64 0, .int .i64 0, .int .i64 0, .int .i64 0, .int .i64 0] 115) |>.keep hb1 (by simp; omega)
  have r1 := (rowV_new (w.alloc (.cells #[.int .i64 b, .int .i64 p, .int .i64 n, .int .i64 j] 23)) z6 115).alloc (.cells #[.int .i64 0, .int .i64 0, .int .i64 0, .int .i64 0, .int .i64 0, .int .i64 0] 115) |>.keep hb1 (by simp)
  have r2 := (rowV_new ((w.alloc (.cells #[.int .i64 b, .int .i64 p, .int .i64 n, .int .i64 j] 23)).alloc (.cells #[.int .i64 0, .int .i64 0, .int .i64 0, .int .i64 0, .int .i64 0, .int .i64 0] 115)) z6 115) |>.keep hb1 (by simp)
  simp only [World.size_alloc] at r1 r2
  have HB := Lib.hid (below_up (((Below.refl w.heap.size w).alloc (Nat.le_refl _) _).alloc (by simp) _ |>.alloc (by simp; omega) _) hb1 (by simp; omega))
  have HS : Hid (w.heap.size + 3 ≤ w1.heap.size) := Lib.hid (by have := hb1.size; simpa [Nat.add_assoc] using this)
  have c0 := rowc r0 0 rfl
  have c1 := rowc r0 1 rfl
  have c2 := rowc r0 2 rfl
  have c3 := rowc r0 3 rfl
  have d0 := rowc r2 0 rfl
  have d1 := rowc r2 1 rfl
  have f2 := r2.free
  have R1 := Lib.hid (rowV_far (rowV_far r1 ⟨w.heap.size + 1 + 1, 0, none⟩ (.int .i64 x0) (by simp)) ⟨w.heap.size + 1 + 1, 1, none⟩ (.int .i64 x1) (by simp))
  have R2 := Lib.hid ((r2.set 0 (.int .i64 x0)).set 1 (.int .i64 x1))
  have HB2 := Lib.hid ((HB.out.setCell (p := ⟨w.heap.size + 1 + 1, 0, none⟩) (by simp; omega) (.int .i64 x0)).setCell (p := ⟨w.heap.size + 1 + 1, 1, none⟩) (by simp; omega) (.int .i64 x1))
  clear r0 r1 r2 hb1
  go_wp2_with fail
  refine (HPL.out _).mono ?_
  rintro e w2 ⟨rfl, hb2⟩
  have r1 := R1.out.keep hb2 R1.out.lt
  have r2 := R2.out.keep hb2 R2.out.lt
  have HB3 := Lib.hid (below_up HB2.out hb2 (by have := HS.out; simp; omega))
  have e0 := rowc r2 0 rfl
  have e1 := rowc r2 1 rfl
  have e2 := rowc r2 2 rfl
  have e3 := rowc r2 3 rfl
  have e4 := rowc r2 4 rfl
  have e5 := rowc r2 5 rfl
  have g1 := r1.free
  have g2 := r2.free
  have y0 := rowc r1 0 rfl
  have y1 := rowc r1 1 rfl
  have y2 := rowc r1 2 rfl
  have y3 := rowc r1 3 rfl
  have y4 := rowc r1 4 rfl
  have y5 := rowc r1 5 rfl
  clear r2 hb2 R1 R2 HB2 c0 c1 c2 c3 d0 d1 f2
  have F1 := Lib.hid ((((((((rowV_far (rowV_far (rowV_far (rowV_far r1 ⟨w.heap.size + 1 + 1, 2, none⟩ (.int .i64 x2) (by simp)) ⟨w.heap.size + 1 + 1, 3, none⟩ (.int .i64 x3) (by simp)) ⟨w.heap.size + 1 + 1, 4, none⟩ (.int .i64 x4) (by simp)) ⟨w.heap.size + 1 + 1, 5, none⟩ (.int .i64 x5) (by simp)).set 0 (.int .i64 x0)).set 1 (.int .i64 x1)).set 2 (.int .i64 x2)).set 3 (.int .i64 x3)).set 4 (.int .i64 x4)).set 5 (.int .i64 x5)))
  clear r1
  go_wp2
  have f0 := rowc F1.out 0 rfl
  have f1 := rowc F1.out 1 rfl
  have f2 := rowc F1.out 2 rfl
  have f3 := rowc F1.out 3 rfl
  have f4 := rowc F1.out 4 rfl
  have f5 := rowc F1.out 5 rfl
  refine bodyPost_ret_by (v := .agg #[.int .i64 x0, .int .i64 x1, .int .i64 x2, .int .i64 x3, .int .i64 x4, .int .i64 x5]) (by simp [results, Tryz.results61, go_sem, f0, f1, f2, f3, f4, f5]; try rfl) rfl ?_
  refine ⟨rfl, ?_⟩
  have hs := HS.out
  refine ((((((((((HB3.out.setCell (p := ⟨w.heap.size + 1 + 1, 2, none⟩) ?_ _).setCell (p := ⟨w.heap.size + 1 + 1, 3, none⟩) ?_ _).setCell (p := ⟨w.heap.size + 1 + 1, 4, none⟩) ?_ _).setCell (p := ⟨w.heap.size + 1 + 1, 5, none⟩) ?_ _).setCell (p := ⟨w.heap.size + 1, 0, none⟩) ?_ _).setCell (p := ⟨w.heap.size + 1, 1, none⟩) ?_ _).setCell (p := ⟨w.heap.size + 1, 2, none⟩) ?_ _).setCell (p := ⟨w.heap.size + 1, 3, none⟩) ?_ _).setCell (p := ⟨w.heap.size + 1, 4, none⟩) ?_ _).setCell (p := ⟨w.heap.size + 1, 5, none⟩) ?_ _) <;> simp <;> omega
theorem placeOf_any {A : Al} (hM : May A.b A.p A.n A.j) {i : Nat} (hi : i < A.ng) (w : World) :
    Calls Tryz.prog 61 #[.agg #[.int .i64 A.b, .int .i64 A.p, .int .i64 A.n, .int .i64 A.j], .int .i64 (i : Int)] w fun e w' => e = .returned (.agg (plc A i).toArray) ∧ Below w.heap.size w w' := by
  have hh := has_yes hM hi
  have g := geo hM hi
  have e0 : sp0 A.b A.p A.n A.j i = (A.at_ i : Nat) := by rw [g.a0]; simp [sp0, hh]
  have e1 : sp1 A.b A.p A.n A.j i = (A.at_ i + A.size i : Nat) := by rw [Int.natCast_add, g.a1]; simp [sp1, hh]
  have e2 : er A.b A.p A.n A.j i = 0 := by simp [er, hh]
  have e3 : pl0 A.b A.p A.n A.j i = (A.bat i : Nat) := by rw [g.a3]; simp [pl0, hh]
  have e4 : pl1 A.b A.p A.n A.j i = (A.bat i + 1 : Nat) := by rw [Int.natCast_add, g.a3]; simp [pl1, hh]
  have e5 : pl2 A.b A.p A.n A.j i = (A.bat i + 2 : Nat) := by rw [Int.natCast_add, g.a3]; simp [pl2, hh, tableI]
  have e6 : pl3 A.b A.p A.n A.j i = (A.at_ i + A.own i : Nat) := by rw [Int.natCast_add, g.a2]; simp [pl3, hh]
  have h1 := fun W => Span_any A.b A.p A.n A.j W (i : Int)
  have h2 := fun W => Place_any A.b A.p A.n A.j W (i : Int)
  rw [e0, e1, e2] at h1
  rw [e2, e3, e4, e5, e6] at h2
  exact placeOf_x A.b A.p A.n A.j i _ _ _ _ _ _ w h1 h2
/-- the group in which a block lies; the first one, if there is no such block -/
def gof (A : Al) (n : Int) : Nat := if 0 ≤ n ∧ n < A.b then (n / A.p).toNat else 0
theorem gof_lt {A : Al} (h : May A.b A.p A.n A.j) (n : Int) : gof A n < A.ng := by
  have := (ng_le h).1
  unfold gof
  split
  · rename_i hn
    obtain ⟨x, rfl⟩ := Int.eq_ofNat_of_zero_le hn.1
    obtain ⟨i, hi, _, _, e⟩ := in_group h x hn.2
    rw [e]
    exact hi
  · omega
set_option maxHeartbeats 1000000 in
theorem groupOf_any {A : Al} {w : World} {lb gb c b : Nat} {gs : List Grp} {fb fi : Int} (hL : Led w lb gb c b A gs fb fi) (hM : May A.b A.p A.n A.j) (n : Int) :
    Calls Tryz.prog 60 #[.pointer (some ⟨lb, 0, none⟩), .int .i64 n] w fun e w' => e = .returned (.int .i64 (gof A n : Nat)) ∧ Below w.heap.size w w' := by
  obtain ⟨c0, c1, c2, c3, c4, -⟩ := hL.cs
  have hp := hM.p0
  have hp1 := hM.p1
  have hb1 := hM.b1
  clear hL
  by_cases h0 : n < 0
  · have e : gof A n = 0 := by unfold gof; rw [if_neg (by omega)]
    rw [e]
    go_enter Tryz.func60, Tryz.ntmps60
    go_wp2
    go_ret
    exact ⟨rfl, by simpa using (Below.refl w.heap.size w).alloc (Nat.le_refl _) _⟩
  · have d0 : decide (n < 0) = false := by simp; omega
    by_cases h1 : A.b ≤ n
    · have e : gof A n = 0 := by unfold gof; rw [if_neg (by omega)]
      have d1 : decide (n ≥ A.b) = true := by simp; omega
      rw [e]
      go_enter Tryz.func60, Tryz.ntmps60
      go_wp2
      go_ret
      exact ⟨rfl, by simpa using (Below.refl w.heap.size w).alloc (Nat.le_refl _) _⟩
    · have e : ((gof A n : Nat) : Int) = n / A.p := by
        unfold gof
        rw [if_pos (by omega)]
        exact Int.toNat_of_nonneg (Int.ediv_nonneg (by omega) (by omega))
      have d1 : decide (A.b ≤ n) = false := by simp; omega
      have d2 : (A.p == 0) = false := by rw [beq_eq_false_iff_ne]; omega
      have d3 : n.tdiv A.p = n / A.p := Int.tdiv_eq_ediv_of_nonneg (by omega)
      have d4 : IntKind.i64.wrap (n / A.p) = n / A.p := IntWalk.i64_in _ (by
        have := Int.ediv_nonneg (show 0 ≤ n by omega) (show 0 ≤ A.p by omega)
        have := Int.ediv_le_self A.p (show 0 ≤ n by omega)
        omega)
      rw [e]
      go_enter Tryz.func60, Tryz.ntmps60
      go_wp2
      go_ret
      exact ⟨rfl, by simpa using (Below.refl w.heap.size w).alloc (Nat.le_refl _) _⟩
/-- a block's place in a group; -1, if it lies in another one -/
def wi (A : Al) (i : Nat) (n : Int) : Int := if (A.at_ i : Int) ≤ n ∧ n < (A.at_ i + A.size i : Nat) then n - A.at_ i else -1
set_option maxHeartbeats 1000000 in
theorem within_any {A : Al} (hM : May A.b A.p A.n A.j) {i : Nat} (hi : i < A.ng) (n : Int) (w : World) :
    Calls Tryz.prog 65 #[.agg (plc A i).toArray, .int .i64 n] w fun e w' => e = .returned (.int .i64 (wi A i n)) ∧ Below w.heap.size w w' := by
  have g := geo hM hi
  have h8 := g.a8
  have hb1 := hM.b1
  obtain ⟨x0, hx0⟩ : ∃ x0 : Nat, A.at_ i = x0 := ⟨_, rfl⟩
  obtain ⟨x1, hx1⟩ : ∃ x1 : Nat, A.at_ i + A.size i = x1 := ⟨_, rfl⟩
  have hw : wi A i n = if (x0 : Int) ≤ n ∧ n < x1 then n - x0 else -1 := by unfold wi; rw [hx0, ← hx0, hx1, hx0]
  unfold plc
  rw [hx1, hx0, hw]
  have hx : x1 ≤ 4096 := by omega
  generalize A.at_ i + A.own i = x5
  generalize A.bat i = x2
  clear hw hx0 hx1 g h8
  by_cases h0 : n < (x0 : Int)
  · rw [if_neg (by omega)]
    go_enter Tryz.func65, Tryz.ntmps65
    go_wp2
    go_ret
    exact ⟨rfl, by simpa using (Below.refl w.heap.size w).alloc (Nat.le_refl _) _⟩
  · have d0 : decide (n < (x0 : Int)) = false := by simp; omega
    by_cases h1 : (x1 : Int) ≤ n
    · rw [if_neg (by omega)]
      go_enter Tryz.func65, Tryz.ntmps65
      go_wp2
      go_ret
      exact ⟨rfl, by simpa using (Below.refl w.heap.size w).alloc (Nat.le_refl _) _⟩
    · have d1 : decide ((x1 : Int) ≤ n) = false := by simp; omega
      have d2 : IntKind.i64.wrap (n - x0) = n - x0 := IntWalk.i64_in _ (by omega)
      rw [if_pos (by omega)]
      go_enter Tryz.func65, Tryz.ntmps65
      go_wp2
      go_ret
      exact ⟨rfl, by simpa using (Below.refl w.heap.size w).alloc (Nat.le_refl _) _⟩
end Go.Proofs.YtgkindoidmglnaaGreatDoor.AGeo
/- The allocator: open, on a store that says what an allocator is. -/
namespace Go.Proofs.YtgkindoidmglnaaGreatDoor.AOpen
open Go.RowKit WMem WPlain WAppend WCrc WSeal GPlain GGeo GGeo2 GFace Ext Map DPlain DMem EPlain EMem EFace EAny SPlain QPlain QMem QUnp BPlain APlain AMem AGeo

theorem unsup (b p n j fb fi oo mo : Int) (cl : Bool) (hm : supMay b p n j fb fi oo mo = true) (B : Nat) (A : Option Addr) (c : Nat) (hc : 256 ≤ c) (w : World) (hB : B ≤ w.heap.size) (hA : Sl w B A ((supBytes b p n j fb fi oo mo cl).map u8v)) (hT : Tab w) :
    Calls Tryz.prog 98 #[.slice A 256 c] w fun e w' => e = .returned (.tuple #[.agg #[.int .i64 b, .int .i64 p, .int .i64 n, .int .i64 j, .int .i64 fb, .int .i64 fi, .int .i64 oo, .int .i64 mo, .bool cl], .int .i64 0]) ∧ Below w.heap.size w w' := by
  have hl := supBytes_len b p n j fb fi oo mo cl
  have h := Unpack_c (l := supBytes b p n j fb fi oo mo cl) (B := B) (A := A) (c := c) (w := w) (by rw [hl]; exact hc) hB hA hT
  rw [hl, (sup_there cl hm).2] at h
  exact h
theorem gcells_all (gs : List Grp) (hm : grpMay gs = true) : gcells (grpBytes gs) gs.length (List.range gs.length) = cells gs := by
  have hb := grp_back gs hm
  have h1 : gcells (grpBytes gs) gs.length (List.range gs.length) = (List.range gs.length).flatMap fun i => AMem.three (saysOne (grpBytes gs) i) := by
    unfold gcells
    have : ∀ l : List Nat, (∀ i ∈ l, i < gs.length) → (l.flatMap fun i => gcell (grpBytes gs) (min i (gs.length - 1))) = l.flatMap fun i => AMem.three (saysOne (grpBytes gs) i) := by
      intro l
      induction l with
      | nil => intro _; rfl
      | cons x r ih =>
        intro hx
        have := hx x (by simp)
        simp only [List.flatMap_cons]
        rw [ih fun i hi => hx i (by simp [hi]), show min x (gs.length - 1) = x by omega]
        rfl
    exact this _ fun i hi => List.mem_range.1 hi
  rw [h1]
  have h2 : cells gs = cells (grpSays (grpBytes gs) gs.length) := by rw [hb]
  rw [h2]
  unfold cells grpSays
  rw [List.flatMap_map]
theorem ungrp (gs : List Grp) (hm : grpMay gs = true) (m : Nat) (hg : gs.length = m) (B : Nat) (A : Option Addr) (c : Nat) (hc : 256 ≤ c) (w : World) (hB : B ≤ w.heap.size) (hA : Sl w B A ((grpBytes gs).map u8v)) (hT : Tab w) :
    Calls Tryz.prog 38 #[.slice A 256 c, .int .i64 (m : Int)] w fun e w' => ∃ gb c' rest, e = .returned (.tuple #[.slice (some ⟨gb, 0, none⟩) m c', .int .i64 0]) ∧ w.heap.size ≤ gb ∧ RowV w' gb 87 (cells gs ++ rest) ∧ Below w.heap.size w w' := by
  subst hg
  have hl := (grpMay_iff.1 hm).1
  have hb := grpBytes_len gs hl.2
  obtain ⟨e1, e2⟩ := grp_there gs hm
  obtain ⟨e3, e4⟩ := anyX_yes (b := grpBytes gs) (n := gs.length) hl.1 hl.2
  rw [e3] at e1
  rw [e4] at e2
  refine (callsIn_wide.1 (UnpackGroups_in gs.length hl.1 hl.2 (grpBytes gs) hb B A c hc w hB hA hT)).mono ?_
  rintro e w' ⟨A', c', rfl, hG, hA', hbl, ho⟩
  obtain ⟨h1, h2⟩ := ho e2
  rw [gcells_all gs hm] at h2
  rcases h2 with ⟨_, h0⟩ | ⟨g, cap, cur, e5, hg1, hg2, _, _, hg5, hg6⟩
  · omega
  · injection e5 with e5 e6 e7
    subst e5 e7
    refine ⟨g, c', cur.toList.drop (gs.length * 3), by rw [e1, e2], hg1, ?_, hbl⟩
    unfold RowV
    rw [hg2, ← hg6, List.take_append_drop]
    
section
variable {a w : World} {B : Nat} {S : Nat → Prop} {b db : Nat} {s : Sto} {A : Al}
set_option maxHeartbeats 2000000 in
set_option maxRecDepth 20000 in
theorem open_own (h : AS a B S w b db s) (hs : Says s A) (hT : Tab a) (hload : s.load + 10 ≤ 1073741824) :
    Calls Tryz.prog 56 #[.pointer (some ⟨b, 0, none⟩)] w fun e w' => ∃ lb gb c s', e = .returned (.tuple #[.pointer (some ⟨lb, 0, none⟩), .int .i64 0]) ∧ w.heap.size ≤ lb ∧ w.heap.size ≤ gb ∧
      Led w' lb gb c b A A.gs A.fb A.fi ∧ AS a B (fun q => S q ∨ q = lb ∨ q = gb) w' b db s' ∧ Kp S w w' ∧ Rd s s' 2 := by
  have hlen := h.len
  have hsup := fine_sup hs.fine
  have hgrp := fine_grp hs.fine
  have hng := ng_is hs.fine.may
  have hgI : groupsI A.b A.p A.n A.j = (A.ng : Int) := by rw [groupsI_yes (may_iff.2 hs.fine.may), hng]
  have hgl : A.gs.length = A.ng := gs_len
  have hbne : (A.b != A.b) = false := by simp
  have HS := Lib.hid hs
  have H := Lib.hid h
  have HT := Lib.hid hT
  have HSU := Lib.hid hsup
  have HGR := Lib.hid hgrp
  have HGL := Lib.hid hgl
  have HGI := Lib.hid (fun W => Groups_any A.b A.p A.n A.j W)
  rw [hgI] at HGI
  clear h hs hT hsup hgrp hng hgI hgl
  go_enter Tryz.func56, Tryz.ntmps56
  go_wp2_with fail
  refine (a_read H.out 0 0 rfl (by omega) HS.out.coh (by omega) A.sup HS.out.sup).mono ?_
  rintro e w1 ⟨g0, c0, rest0, rfl, hg0, hc0, hl0, hR0, h1, hk1, hr1⟩
  generalize s.read 0 = s1 at *
  have hld1 := hr1.load
  have HK1 := Lib.hid hk1
  have HR1 := Lib.hid hr1
  have HG0 := Lib.hid hg0
  have H1 := Lib.hid h1
  have HR0 := Lib.hid (hR0.sl hR0.lt)
  clear hk1 hr1 h1 hg0 hR0
  go_wp2_with fail
  refine (unsup _ _ _ _ _ _ _ _ _ HSU.out w1.heap.size _ c0 hc0 w1 (Nat.le_refl _) HR0.out (H1.out.tab HT.out)).mono ?_
  rintro e w2 ⟨rfl, hb2⟩
  have H2 := Lib.hid (H1.out.also hb2)
  have HB2 := Lib.hid hb2
  clear hb2
  go_wp2_with fail
  have H3 := Lib.hid (H2.out.also (below_box (w := w2) (.cells #[.int .i64 A.b, .int .i64 A.p, .int .i64 A.n, .int .i64 A.j, .int .i64 A.fb, .int .i64 A.fi, .int .i64 A.oo, .int .i64 A.mo, .bool A.cl] 89)))
  have r3 := rowV_new w2 [.int .i64 A.b, .int .i64 A.p, .int .i64 A.n, .int .i64 A.j, .int .i64 A.fb, .int .i64 A.fi, .int .i64 A.oo, .int .i64 A.mo, .bool A.cl] 89
  have hb3 := below_box (w := w2) (.cells #[.int .i64 A.b, .int .i64 A.p, .int .i64 A.n, .int .i64 A.j, .int .i64 A.fb, .int .i64 A.fi, .int .i64 A.oo, .int .i64 A.mo, .bool A.cl] 89)
  have hz3 : w2.heap.size < (w2.alloc (.cells #[.int .i64 A.b, .int .i64 A.p, .int .i64 A.n, .int .i64 A.j, .int .i64 A.fb, .int .i64 A.fi, .int .i64 A.oo, .int .i64 A.mo, .bool A.cl] 89)).heap.size := by simp
  generalize hq2 : w2.heap.size = q2 at *
  generalize hW3 : w2.alloc (.cells #[.int .i64 A.b, .int .i64 A.p, .int .i64 A.n, .int .i64 A.j, .int .i64 A.fb, .int .i64 A.fi, .int .i64 A.oo, .int .i64 A.mo, .bool A.cl] 89) = W3 at *
  have HQ2 := Lib.hid hq2
  have HR3 := Lib.hid r3
  have HB3 := Lib.hid hb3
  have x0 := rowc r3 0 rfl
  have HZ3 := Lib.hid hz3
  have HN := Lib.hid (show ((s1.N : Nat) : Int) = A.b by rw [HR1.out.N]; exact HS.out.N)
  clear hW3 r3 hb3 hz3 hq2
  go_quiet ((go_at_call 99; exact quiet_is (a_blocks (H3.out.drewN _) _ HN.out)))
  have H4 := Lib.hid (H3.out.drewN nq)
  have HR4 := Lib.hid (HR3.out.drewN nq)
  have hz4 : q2 < (W3.drewN nq).heap.size := HZ3.out
  have HB4 := Lib.hid (below_drewN HB3.out nq)
  clear x0
  generalize W3.drewN nq = W4 at *
  have HZ4 := Lib.hid hz4
  clear hz4
  go_wp2_with fail
  have hlen1 := H4.out.len
  refine (a_read H4.out 1 1 rfl (by omega) HR1.out.coh (by omega) A.grps (by rw [HR1.out.val]; exact HS.out.grp)).mono ?_
  rintro e w5 ⟨g5, c5, rest5, rfl, hg5, hc5, hl5, hR5, h5, hk5, hr5⟩
  generalize s1.read 1 = s2 at *
  have HK5 := Lib.hid hk5
  have HRD := Lib.hid (HR1.out.trans hr5)
  have H5 := Lib.hid h5
  have HR5 := Lib.hid (hR5.sl hR5.lt)
  have r5 : RowV w5 q2 89 _ := (hk5 q2 (.inr ⟨Nat.le_refl _, HZ3.out⟩)).trans HR4.out
  have x0 := rowc r5 0 rfl
  have x1 := rowc r5 1 rfl
  have x2 := rowc r5 2 rfl
  have x3 := rowc r5 3 rfl
  have HR6 := Lib.hid r5
  have HG5 := Lib.hid hg5
  clear hk5 hr5 h5 hR5 r5 hg5
  go_wp2_with fail
  refine (HGI.out _).mono ?_
  rintro e w6 ⟨rfl, hb6⟩
  have H6 := Lib.hid (H5.out.also hb6)
  have HR7 := Lib.hid (HR6.out.keep hb6 HR6.out.lt)
  have HR8 := Lib.hid (HR5.out.below hb6)
  have HB6 := Lib.hid hb6
  clear hb6 x0 x1 x2 x3
  go_wp2_with fail
  refine (ungrp A.gs HGR.out A.ng HGL.out w5.heap.size _ c5 hc5 w6 HB6.out.size HR8.out (H6.out.tab HT.out)).mono ?_
  rintro e w7 ⟨gb, c7, rest7, rfl, hg7, hr7, hb7⟩
  have H7 := Lib.hid (H6.out.also hb7)
  have r7 := HR7.out.keep hb7 HR7.out.lt
  have x0 := rowc r7 0 rfl
  have x1 := rowc r7 1 rfl
  have x2 := rowc r7 2 rfl
  have x3 := rowc r7 3 rfl
  have x4 := rowc r7 4 rfl
  have x5 := rowc r7 5 rfl
  have x6 := rowc r7 6 rfl
  have x7 := rowc r7 7 rfl
  have x8 := rowc r7 8 rfl
  have HG7 := Lib.hid hg7
  have HR9 := Lib.hid hr7
  have HB7 := Lib.hid hb7
  clear r7 hr7 hb7 hg7
  go_wp2
  go_ret2
  have H8 := H7.out.also (below_box (w := w7) (.cells #[.pointer (some ⟨b, 0, none⟩), .int .i64 A.b, .int .i64 A.p, .int .i64 A.n, .int .i64 A.j, .int .i64 A.fb, .int .i64 A.fi, .int .i64 A.oo, .int .i64 A.mo, .bool A.cl, .slice (some ⟨gb, 0, none⟩) A.ng c7] 120))
  have t1 := H1.out.there g0 (.inr rfl)
  have t2 := HB2.out.size
  have t3 := HB4.out.size
  have t4 := H5.out.there g5 (.inr rfl)
  have t5 := HB6.out.size
  have t6 := HB7.out.size
  have t0 := HG0.out
  have t7 := HG5.out
  have t8 := HG7.out
  have t9 := HR9.out.lt
  refine ⟨w7.heap.size, gb, c7, s2, rfl, by omega, by omega, ⟨?_, rest7, ?_⟩, H8.less fun q hq => ?_, ?_, HRD.out⟩
  · have := row_new w7 (.cells #[.pointer (some ⟨b, 0, none⟩), .int .i64 A.b, .int .i64 A.p, .int .i64 A.n, .int .i64 A.j, .int .i64 A.fb, .int .i64 A.fi, .int .i64 A.oo, .int .i64 A.mo, .bool A.cl, .slice (some ⟨gb, 0, none⟩) A.ng c7] 120)
    rw [HGL.out]
    exact this
  · exact row_alloc HR9.out _
  · rcases hq with hq | rfl | rfl
    · exact .inl (.inl (.inl (.inl (.inl (.inl (.inl hq))))))
    · exact .inr ⟨Nat.le_refl _, by simp⟩
    · exact .inl (.inr ⟨t8, t9⟩)
  · refine (((((HK1.out.trans ((H1.out.kp HB2.out).less fun _ h => .inl h)).trans ((H2.out.kp (by rw [HQ2.out]; exact HB4.out)).less fun _ h => .inl (.inl h))).trans (HK5.out.less fun _ h => .inl (.inl (.inl h)))).trans
      ((H5.out.kp HB6.out).less fun _ h => .inl (.inl (.inl (.inl h))))).trans ((H6.out.kp HB7.out).less fun _ h => .inl (.inl (.inl (.inl (.inl h)))))).trans ((H7.out.kp (below_box _)).less fun _ h => .inl (.inl (.inl (.inl (.inl (.inl h))))))
end
end Go.Proofs.YtgkindoidmglnaaGreatDoor.AOpen
/- The allocator: a bitmap is read, or turned. -/
namespace Go.Proofs.YtgkindoidmglnaaGreatDoor.ATurn
open Go.RowKit WMem WPlain WAppend WCrc WSeal TPlain TBits TSet TTurn TFace TTurnF GPlain GGeo GGeo2 GFace Ext Map DPlain DMem EPlain EMem EFace EAny SPlain QPlain APlain AMem AGeo AOpen

section
variable {a w : World} {B : Nat} {S : Nat → Prop} {b db : Nat} {s : Sto} {A : Al} {lb gb c : Nat} {gs : List Grp} {fb fi : Int}
theorem chk_map {l : Bk} {n seed : Nat} (h : isMap l n seed = true) (hn : n ≤ 2016) : chkE l (n : Int) seed = 0 := by
  have hs : sizeB (n : Int) = true := by simp [sizeB]; omega
  simp [chkE, hs, h]
set_option maxHeartbeats 2000000 in
set_option maxRecDepth 20000 in
/-- the bitmap that stands in block x -/
theorem read_own (h : AS a B S w b db s) (hL : Led w lb gb c b A gs fb fi) (_hS : S lb) (hc : Coh s) (hT : Tab a) (hload : s.load ≤ 1073741824) (x n : Nat) (l : Bk) (hx : x < s.N) (hv : s.val x = l) (hn : n ≤ 2016) (hm : isMap l n x = true) :
    Calls Tryz.prog 62 #[.pointer (some ⟨lb, 0, none⟩), .int .i64 (x : Int), .int .i64 (n : Int)] w fun e w' => ∃ g c' rest, e = .returned (.tuple #[.agg #[.int .i64 (x : Int), .int .i64 (n : Int), .slice (some ⟨g, 0, none⟩) 256 c'], .int .i64 0]) ∧
      w.heap.size ≤ g ∧ 256 ≤ c' ∧ Row w' g l rest ∧ AS a B (fun q => S q ∨ q = g) w' b db (s.read x) ∧ Kp S w w' ∧ Rd s (s.read x) 1 := by
  have hl := (map_of hm).1
  have hN := h.len
  have hw32 : IntKind.u32.wrap (x : Int) = ((x : Nat) : Int) := by rw [IntKind.wrap_u32']; omega
  have hck := chk_map hm hn
  have H0 := Lib.hid (h.also (below_box (w := w) (.cells #[.int .i64 0, .int .i64 0, .slice none 0 0] 122)))
  have r0 := rowV_new w [.int .i64 0, .int .i64 0, .slice none 0 0] 122
  have HB0 := Lib.hid (below_box (w := w) (.cells #[.int .i64 0, .int .i64 0, .slice none 0 0] 122))
  have hL0 := (hL.below HB0.out).cs
  obtain ⟨c0, -⟩ := hL0
  have HL := Lib.hid hL
  have H := Lib.hid h
  have HT := Lib.hid hT
  have HV := Lib.hid hv
  have HCH := Lib.hid hck
  have HLN := Lib.hid hl
  have HR0 := Lib.hid r0
  clear h hL hT hm hv hck hl r0
  go_enter Tryz.func62, Tryz.ntmps62
  go_wp2_with fail
  refine (a_read H0.out x x rfl hx hc hload l HV.out).mono ?_
  rintro e w1 ⟨g, c', rest, rfl, hg, hc', _, hR, h1, hk1, hr1⟩
  have HK1 := Lib.hid hk1
  have HR1 := Lib.hid hr1
  have H1 := Lib.hid h1
  have HR := Lib.hid hR
  have HG := Lib.hid hg
  have HQ : Hid (RowV w1 w.heap.size 122 [.int .i64 0, .int .i64 0, .slice none 0 0]) := Lib.hid ((hk1 _ (.inr ⟨Nat.le_refl _, by simp⟩)).trans HR0.out)
  clear hk1 hr1 h1 hR hg
  go_wp2_with fail
  refine (Check_any l 256 HLN.out w1.heap.size _ c' n x w1 (by omega) hc' (HR.out.sl HR.out.lt) (H1.out.tab HT.out)).mono ?_
  rintro e w2 ⟨rfl, m, rfl⟩
  rw [HCH.out]
  have y0 := rowc (HQ.out.drewN m) 0 rfl
  have y1 := rowc (HQ.out.drewN m) 1 rfl
  have y2 := rowc (HQ.out.drewN m) 2 rfl
  have yf := (HQ.out.drewN m).free
  have F := Lib.hid ((((HQ.out.drewN m).set 0 (.int .i64 (x : Int))).set 1 (.int .i64 (n : Int))).set 2 (.slice (some ⟨g, 0, none⟩) 256 c'))
  go_wp2
  have f0 := rowc F.out 0 rfl
  have f1 := rowc F.out 1 rfl
  have f2 := rowc F.out 2 rfl
  refine bodyPost_ret_by (v := .tuple #[.agg #[.int .i64 (x : Int), .int .i64 (n : Int), .slice (some ⟨g, 0, none⟩) 256 c'], .int .i64 0]) (by simp [results, Tryz.results62, go_sem, f0, f1, f2]; try rfl) rfl ?_
  have ha : a.heap.size ≤ w.heap.size := H.out.below.size
  have hgw : w.heap.size ≠ g := by have := HG.out; simp at this; omega
  have H2 := (((H1.out.drewN m).cell ⟨w.heap.size, 0, none⟩ (.int .i64 (x : Int)) (.inl (.inr ⟨Nat.le_refl _, by simp⟩)) ha).cell ⟨w.heap.size, 1, none⟩ (.int .i64 (n : Int)) (.inl (.inr ⟨Nat.le_refl _, by simp⟩)) ha).cell ⟨w.heap.size, 2, none⟩ (.slice (some ⟨g, 0, none⟩) 256 c') (.inl (.inr ⟨Nat.le_refl _, by simp⟩)) ha
  refine ⟨g, c', rest, rfl, by have := HG.out; simp at this; omega, hc', ?_, H2.less fun q hq => ?_, ?_, HR1.out⟩
  · exact (Below.heap_setCell _ ⟨w.heap.size, 2, none⟩ _ g (Ne.symm hgw)).trans ((Below.heap_setCell _ ⟨w.heap.size, 1, none⟩ _ g (Ne.symm hgw)).trans ((Below.heap_setCell _ ⟨w.heap.size, 0, none⟩ _ g (Ne.symm hgw)).trans HR.out))
  · rcases hq with hq | hq
    · exact .inl (.inl hq)
    · exact .inr hq
  · have hn : ¬ S w.heap.size := fun hq => Nat.lt_irrefl _ (H.out.there _ hq)
    exact (((((H.out.kp HB0.out).trans (HK1.out.less fun _ h => .inl h)).trans (Kp.drewN _ _ m)).trans (Kp.cell _ ⟨w.heap.size, 0, none⟩ _ hn)).trans (Kp.cell _ ⟨w.heap.size, 1, none⟩ _ hn)).trans (Kp.cell _ ⟨w.heap.size, 2, none⟩ _ hn)
set_option maxHeartbeats 2000000 in
set_option maxRecDepth 20000 in
/-- bits of the bitmap of block x are turned -/
theorem turn_own (h : AS a B S w b db s) (hL : Led w lb gb c b A gs fb fi) (_hS : S lb) (hT : Tab a) (hload : s.load ≤ 1073741824) (x n i k : Nat) (on : Bool) (l : Bk) (hx : x < s.N) (hn : n ≤ 2016) (hm : isMap l n x = true) (h1 : 1 ≤ k) (h2 : i + k ≤ n) (hb : allB l i k (!on) = true)
    (g c' : Nat) (rest : List Value) (hc' : 256 ≤ c') (hR : Row w g l rest) :
    Calls Tryz.prog 66 #[.pointer (some ⟨lb, 0, none⟩), .agg #[.int .i64 (x : Int), .int .i64 (n : Int), .slice (some ⟨g, 0, none⟩) 256 c'], .int .i64 (i : Int), .int .i64 (k : Int), .bool on] w fun e w' =>
      e = .returned (.int .i64 0) ∧ AS a B S w' b db (s.write x (turnL l i k x)) ∧ Kp S w w' := by
  have hl := (map_of hm).1
  have hN := h.len
  have hw32 : IntKind.u32.wrap (x : Int) = ((x : Nat) : Int) := by rw [IntKind.wrap_u32']; omega
  have hck := chk_map hm hn
  have HB0 := Lib.hid (below_box (w := w) (.cells #[.int .i64 (x : Int), .int .i64 (n : Int), .slice (some ⟨g, 0, none⟩) 256 c'] 122))
  have H0 := Lib.hid (h.also HB0.out)
  have r0 := rowV_new w [.int .i64 (x : Int), .int .i64 (n : Int), .slice (some ⟨g, 0, none⟩) 256 c'] 122
  have x0 := rowc r0 0 rfl
  have x1 := rowc r0 1 rfl
  have x2 := rowc r0 2 rfl
  have hR0 : Row (w.alloc (.cells #[.int .i64 (x : Int), .int .i64 (n : Int), .slice (some ⟨g, 0, none⟩) 256 c'] 122)) g l rest := row_alloc hR _
  have hgl := hR.lt
  have HLD := Lib.hid (hL.below HB0.out)
  have HT := Lib.hid (H0.out.tab hT)
  have HR := Lib.hid (hR0.sl (B := w.heap.size) hgl)
  have HR0 := Lib.hid r0
  have H := Lib.hid h
  have HX := Lib.hid (And.intro hl (And.intro hck hb))
  clear h hL hT hm hck hl hR r0 hR0 hb
  go_enter Tryz.func66, Tryz.ntmps66
  go_wp2_with fail
  have HC := Check_any l 256 HX.out.1 w.heap.size (some ⟨g, 0, none⟩) c' n x (w.alloc (.cells #[.int .i64 (x : Int), .int .i64 (n : Int), .slice (some ⟨g, 0, none⟩) 256 c'] 122)) (by omega) hc' HR.out HT.out
  rw [HX.out.2.1] at HC
  refine (Turn_yes l HX.out.1 w.heap.size _ c' n i k on x _ (by omega) (by simp) hn h1 h2 HX.out.2.2 HR.out HT.out HC).mono ?_
  clear HC
  rintro e w1 ⟨g1, c1, rest1, rfl, hg1, hc1, hR1, hb1⟩
  have H1 := Lib.hid (H0.out.also hb1)
  have r1 : RowV w1 w.heap.size 122 [.int .i64 (x : Int), .int .i64 (n : Int), .slice (some ⟨g, 0, none⟩) 256 c'] := HR0.out.keep hb1 (by simp)
  have y0 := rowc r1 0 rfl
  have hl1 := (HLD.out.below hb1).cs
  obtain ⟨z0, -⟩ := hl1
  have HV : Hid (IsBlk w1 (fun q => (S q ∨ (w.heap.size ≤ q ∧ q < (w.alloc (.cells #[.int .i64 (x : Int), .int .i64 (n : Int), .slice (some ⟨g, 0, none⟩) 256 c'] 122)).heap.size)) ∨ ((w.alloc (.cells #[.int .i64 (x : Int), .int .i64 (n : Int), .slice (some ⟨g, 0, none⟩) 256 c'] 122)).heap.size ≤ q ∧ q < w1.heap.size)) (.slice (some ⟨g1, 0, none⟩) 256 c1) (turnL l i k x)) :=
    Lib.hid ⟨g1, c1, rest1, rfl, .inr ⟨hg1, hR1.lt⟩, turn_len HX.out.1 _ _ _, hc1, hR1⟩
  have HB1 := Lib.hid hb1
  clear hb1 hR1 r1 hg1
  clear x0 x1 x2
  go_wp2_with fail
  have HW := Lib.hid (a_write (H1.out.drewN 1) x x rfl hx HV.out hload)
  go_region_law ((go_simp; go_at_call 109; refine HW.out.mono ?_; rintro e w2 ⟨rfl, h2, hk2⟩))
  all_goals go_wp2
  all_goals go_ret
  all_goals exact ⟨rfl, h2.less fun q hq => .inl (.inl hq), (((H.out.kp HB0.out).trans ((H0.out.kp HB1.out).less fun _ h => .inl h)).trans (Kp.drewN _ _ 1)).trans (hk2.less fun _ h => .inl (.inl h))⟩
set_option maxHeartbeats 1000000 in
theorem super_own (h : AS a B S w b db s) (hs : Says s A) (hT : Tab a) (hload : s.load + 10 ≤ 1073741824) :
    Calls Tryz.prog 41 #[.pointer (some ⟨b, 0, none⟩)] w fun e w' => e = .returned (.tuple #[.agg #[.int .i64 A.b, .int .i64 A.p, .int .i64 A.n, .int .i64 A.j, .int .i64 A.fb, .int .i64 A.fi, .int .i64 A.oo, .int .i64 A.mo, .bool A.cl], .int .i64 0]) ∧
      ∃ s', AS a B S w' b db s' ∧ Kp S w w' ∧ Rd s s' 2 := by
  have H := Lib.hid h
  have HB0 := Lib.hid ((Below.refl w.heap.size w).alloc (Nat.le_refl _) (.cells #[.int .i64 0, .int .i64 0, .int .i64 0, .int .i64 0, .int .i64 0, .int .i64 0, .int .i64 0, .int .i64 0, .bool false] 89))
  have H0 := Lib.hid (h.also HB0.out)
  have r0 := Lib.hid (rowV_new w [.int .i64 0, .int .i64 0, .int .i64 0, .int .i64 0, .int .i64 0, .int .i64 0, .int .i64 0, .int .i64 0, .bool false] 89)
  have HO := Lib.hid (open_own H0.out hs hT hload)
  clear h hs hT
  go_enter Tryz.func41, Tryz.ntmps41
  go_wp2_with fail
  refine HO.out.mono ?_
  rintro e w1 ⟨lb, gb, c, s', rfl, h1, h2, hL, hA, hk, hr⟩
  obtain ⟨c0, c1, c2, c3, c4, c5, c6, c7, c8, c9, c10⟩ := hL.cs
  have r1 : RowV w1 w.heap.size 89 _ := (hk _ (.inr ⟨Nat.le_refl _, by simp⟩)).trans r0.out
  have y0 := rowc r1 0 rfl
  have y1 := rowc r1 1 rfl
  have y2 := rowc r1 2 rfl
  have y3 := rowc r1 3 rfl
  have y4 := rowc r1 4 rfl
  have y5 := rowc r1 5 rfl
  have y6 := rowc r1 6 rfl
  have y7 := rowc r1 7 rfl
  have y8 := rowc r1 8 rfl
  have yf := r1.free
  have HA := Lib.hid hA
  have HK := Lib.hid hk
  have HR := Lib.hid r1
  clear hA hk hL r1
  go_wp2
  have F := Lib.hid (((((((((HR.out.set 0 (.int .i64 A.b)).set 1 (.int .i64 A.p)).set 2 (.int .i64 A.n)).set 3 (.int .i64 A.j)).set 4 (.int .i64 A.fb)).set 5 (.int .i64 A.fi)).set 6 (.int .i64 A.oo)).set 7 (.int .i64 A.mo)).set 8 (.bool A.cl))
  have HE := Lib.hid ((Ext.refl (fun q => q = w.heap.size) w1) |>.setCell (p := ⟨w.heap.size, 0, none⟩) (.inl rfl) (.int .i64 A.b) |>.setCell (p := ⟨w.heap.size, 1, none⟩) (.inl rfl) (.int .i64 A.p) |>.setCell (p := ⟨w.heap.size, 2, none⟩) (.inl rfl) (.int .i64 A.n) |>.setCell (p := ⟨w.heap.size, 3, none⟩) (.inl rfl) (.int .i64 A.j) |>.setCell (p := ⟨w.heap.size, 4, none⟩) (.inl rfl) (.int .i64 A.fb) |>.setCell (p := ⟨w.heap.size, 5, none⟩) (.inl rfl) (.int .i64 A.fi) |>.setCell (p := ⟨w.heap.size, 6, none⟩) (.inl rfl) (.int .i64 A.oo) |>.setCell (p := ⟨w.heap.size, 7, none⟩) (.inl rfl) (.int .i64 A.mo) |>.setCell (p := ⟨w.heap.size, 8, none⟩) (.inl rfl) (.bool A.cl))
  have f0 := rowc F.out 0 rfl
  have f1 := rowc F.out 1 rfl
  have f2 := rowc F.out 2 rfl
  have f3 := rowc F.out 3 rfl
  have f4 := rowc F.out 4 rfl
  have f5 := rowc F.out 5 rfl
  have f6 := rowc F.out 6 rfl
  have f7 := rowc F.out 7 rfl
  have f8 := rowc F.out 8 rfl
  refine bodyPost_ret_by (v := .tuple #[.agg #[.int .i64 A.b, .int .i64 A.p, .int .i64 A.n, .int .i64 A.j, .int .i64 A.fb, .int .i64 A.fi, .int .i64 A.oo, .int .i64 A.mo, .bool A.cl], .int .i64 0]) (by simp [results, Tryz.results41, go_sem, f0, f1, f2, f3, f4, f5, f6, f7, f8]; try rfl) rfl ?_
  have hn : ¬ S w.heap.size := fun hq => Nat.lt_irrefl _ (H.out.there _ hq)
  have hA2 := (HA.out.less (S' := fun q => S q ∨ (w.heap.size ≤ q ∧ q < (w.alloc (.cells #[.int .i64 0, .int .i64 0, .int .i64 0, .int .i64 0, .int .i64 0, .int .i64 0, .int .i64 0, .int .i64 0, .bool false] 89)).heap.size)) fun q hq => .inl hq).turnP HE.out (fun q hq => by subst hq; exact ⟨.inr ⟨Nat.le_refl _, by simp⟩, H.out.below.size⟩)
  exact ⟨rfl, s', hA2.less fun q hq => .inl hq, ((H.out.kp HB0.out).trans (HK.out.less fun _ h => .inl h)).trans (Kp.ext HE.out (fun q hq => HA.out.there q (.inl (.inl hq))) fun q hq => by subst hq; exact hn), hr⟩
set_option maxHeartbeats 1000000 in
theorem left_own (h : AS a B S w b db s) (hs : Says s A) (hT : Tab a) (hload : s.load + 10 ≤ 1073741824) :
    Calls Tryz.prog 18 #[.pointer (some ⟨b, 0, none⟩)] w fun e w' => e = .returned (.tuple #[.int .i64 A.fb, .int .i64 A.fi, .int .i64 0]) ∧
      ∃ s', AS a B S w' b db s' ∧ Kp S w w' ∧ Rd s s' 2 := by
  have HO := Lib.hid (super_own h hs hT hload)
  clear h hs hT
  go_enter Tryz.func18, Tryz.ntmps18
  go_wp2_with fail
  refine HO.out.mono ?_
  rintro e w1 ⟨rfl, s', hA, hk, hr⟩
  have HA := Lib.hid hA
  have HK := Lib.hid hk
  clear hA hk
  go_wp2
  have HB1 := Lib.hid ((Below.refl w1.heap.size w1).alloc (Nat.le_refl _) (.cells #[.int .i64 A.b, .int .i64 A.p, .int .i64 A.n, .int .i64 A.j, .int .i64 A.fb, .int .i64 A.fi, .int .i64 A.oo, .int .i64 A.mo, .bool A.cl] 89))
  have H1 := Lib.hid (HA.out.go HB1.out)
  have r1 := rowV_new w1 [.int .i64 A.b, .int .i64 A.p, .int .i64 A.n, .int .i64 A.j, .int .i64 A.fb, .int .i64 A.fi, .int .i64 A.oo, .int .i64 A.mo, .bool A.cl] 89
  have x1 := rowc r1 4 rfl
  have x2 := rowc r1 5 rfl
  have HK1 := Lib.hid (HK.out.trans (HA.out.kp HB1.out))
  clear r1
  generalize hW : w1.alloc (.cells #[.int .i64 A.b, .int .i64 A.p, .int .i64 A.n, .int .i64 A.j, .int .i64 A.fb, .int .i64 A.fi, .int .i64 A.oo, .int .i64 A.mo, .bool A.cl] 89) = W at *
  generalize w1.heap.size = q1 at *
  clear hW HB1
  go_quiet (fail)
  go_wp2
  go_ret3
  exact ⟨rfl, s', H1.out.drewN nq, HK1.out.trans (Kp.drewN _ _ nq), hr⟩
end
end Go.Proofs.YtgkindoidmglnaaGreatDoor.ATurn
/- The allocator: more of a group is counted, or less. -/
namespace Go.Proofs.YtgkindoidmglnaaGreatDoor.ACount
open Go.RowKit WMem WPlain WAppend WCrc WSeal TPlain TBits TSet TTurn TFace TTurnF GPlain GGeo GGeo2 GFace Ext Map DPlain DMem EPlain EMem EFace EAny SPlain SPack QPlain QMem QPack APlain AMem AGeo AOpen ATurn

section
variable {a w : World} {B : Nat} {S : Nat → Prop} {b db : Nat} {s : Sto} {A : Al} {lb gb c : Nat} {gs : List Grp} {fb fi : Int}
/-- the cells of a ledger's box -/
def lcells (b gb m c : Nat) (A : Al) (fb fi : Int) : List Value := [.pointer (some ⟨b, 0, none⟩), .int .i64 A.b, .int .i64 A.p, .int .i64 A.n, .int .i64 A.j, .int .i64 fb, .int .i64 fi, .int .i64 A.oo, .int .i64 A.mo, .bool A.cl, .slice (some ⟨gb, 0, none⟩) m c]
theorem set_at {l : List Value} {k : Nat} {v : Value} (j : Nat) (h : k ≠ j) : (l.set k v)[j]? = l[j]? := by rw [List.getElem?_set_ne h]
set_option maxHeartbeats 4000000 in
set_option maxRecDepth 20000 in
theorem add_own (hL : Led w lb gb c b A gs fb fi) {i : Nat} (hi : i < gs.length) (_hg : gs.length ≤ 14) (d0 d1 d2 y0 y1 y2 y3 y4 : Int) (e0 : gs[i].fb + d0 = y0) (e1 : gs[i].fi + d1 = y1) (e2 : gs[i].dirs + d2 = y2) (e3 : fb + d0 = y3) (e4 : fi + d1 = y4)
    (h0 : Fits y0) (h1 : Fits y1) (h2 : Fits y2) (h3 : Fits y3) (h4 : Fits y4) :
    Calls Tryz.prog 92 #[.pointer (some ⟨lb, 1, none⟩), .int .i64 (i : Int), .agg #[.int .i64 d0, .int .i64 d1, .int .i64 d2]] w fun e w' =>
      e = .returned (.tuple #[]) ∧ Led w' lb gb c b A (gs.set i ⟨y0, y1, y2⟩) y3 y4 ∧ Ext (fun q => q = lb ∨ q = gb) w w' := by
  obtain ⟨rest, hr⟩ := hL.row
  have hbx : RowV w lb 120 (lcells b gb gs.length c A fb fi) := hL.box
  have hrw : RowV w gb 87 (cells gs ++ rest) := hr
  obtain ⟨q0, q1, q2⟩ := cells_get gs i hi
  have hcl := cells_len gs
  have k0 : (cells gs ++ rest)[i * 3]? = some (.int .i64 gs[i].fb) := by rw [List.getElem?_append_left (by omega)]; exact q0
  have k1 : (cells gs ++ rest)[i * 3 + 1]? = some (.int .i64 gs[i].fi) := by rw [List.getElem?_append_left (by omega)]; exact q1
  have k2 : (cells gs ++ rest)[i * 3 + 2]? = some (.int .i64 gs[i].dirs) := by rw [List.getElem?_append_left (by omega)]; exact q2
  have hne := hL.ne
  have hlt := hL.lt
  have hset : (((cells gs ++ rest).set (i * 3) (.int .i64 y0)).set (i * 3 + 1) (.int .i64 y1)).set (i * 3 + 2) (.int .i64 y2) = cells (gs.set i ⟨y0, y1, y2⟩) ++ rest := by
    rw [cells_set gs i ⟨y0, y1, y2⟩ hi, List.set_append_left _ _ (by omega), List.set_append_left _ _ (by simp; omega), List.set_append_left _ _ (by simp; omega)]
  have w0 : IntKind.i64.wrap (gs[i].fb + d0) = y0 := by rw [e0]; exact IntWalk.i64_in _ h0
  have w1 : IntKind.i64.wrap (gs[i].fi + d1) = y1 := by rw [e1]; exact IntWalk.i64_in _ h1
  have w2 : IntKind.i64.wrap (gs[i].dirs + d2) = y2 := by rw [e2]; exact IntWalk.i64_in _ h2
  have w3 : IntKind.i64.wrap (fb + d0) = y3 := by rw [e3]; exact IntWalk.i64_in _ h3
  have w4 : IntKind.i64.wrap (fi + d1) = y4 := by rw [e4]; exact IntWalk.i64_in _ h4
  generalize gs[i].fb = x0 at *
  generalize gs[i].fi = x1 at *
  generalize gs[i].dirs = x2 at *
  have HSET := Lib.hid hset
  obtain ⟨m, hm⟩ : ∃ m, gs.length = m := ⟨_, rfl⟩
  have HM := Lib.hid hm
  rw [hm] at hi hbx _hg
  generalize hcs : cells gs ++ rest = cs at *
  clear hset hcs hr hL q0 q1 q2 hcl hm e0 e1 e2 e3 e4 h0 h1 h2 h3 h4
  have hb0 := (Below.refl w.heap.size w).alloc (Nat.le_refl _) (.cells #[.int .i64 d0, .int .i64 d1, .int .i64 d2] 87)
  have r0 := rowV_new w [.int .i64 d0, .int .i64 d1, .int .i64 d2] 87
  have r1 := hbx.alloc (.cells #[.int .i64 d0, .int .i64 d1, .int .i64 d2] 87)
  have r2 := hrw.alloc (.cells #[.int .i64 d0, .int .i64 d1, .int .i64 d2] 87)
  have a10 := rowc r1 10 rfl
  have HE0 := Lib.hid (Ext.of_below hb0 (fun q => q = lb ∨ q = gb))
  have HS0 : Hid (lb < w.heap.size ∧ gb < w.heap.size ∧ lb ≠ gb) := Lib.hid ⟨hlt.1, hlt.2, hne⟩
  have n1 : w.heap.size ≠ gb := by omega
  have n2 : w.heap.size ≠ lb := by omega
  go_enter Tryz.func92, Tryz.ntmps92
  go_wp2_with fail
  have hq : w.heap.size = w.heap.size := rfl
  generalize hW0 : w.alloc (.cells #[.int .i64 d0, .int .i64 d1, .int .i64 d2] 87) = W0 at *
  generalize w.heap.size = q at *
  clear hW0 a10
  have HE := HE0.out
  have b0 := rowc r0 0 rfl
  have g0 := rowc r2 (i * 3) k0
  have gf0 := r2.free
  have R0 := Lib.hid r0
  have R1 := Lib.hid r1
  have R2 := Lib.hid r2
  have HE0 := Lib.hid HE
  clear r0 r1 r2 HE
  go_region
  have r0 := (rowV_far R0.out ⟨gb, i * 3, none⟩ (.int .i64 y0) (by simp; omega)).drewN 1
  have r1 := (rowV_far R1.out ⟨gb, i * 3, none⟩ (.int .i64 y0) (by simp; omega)).drewN 1
  have r2 := (R2.out.set (i * 3) (.int .i64 y0)).drewN 1
  have HE := (HE0.out.setCell (p := ⟨gb, i * 3, none⟩) (.inl (by simp)) (.int .i64 y0)).drewN 1
  clear b0 g0 gf0 R0 R1 R2
  generalize hW : (W0.setCell ⟨gb, i * 3, none⟩ (.int .i64 y0)).drew = W1 at *
  rw [show (W0.setCell ⟨gb, i * 3, none⟩ (.int .i64 y0)).drewN 1 = (W0.setCell ⟨gb, i * 3, none⟩ (.int .i64 y0)).drew from rfl, hW] at r0 r1 r2 HE
  clear hW
  have b1 := rowc r0 1 rfl
  have g1 := rowc r2 (i * 3 + 1) (set_at _ (by omega) |>.trans k1)
  have gf1 := r2.free
  have R0 := Lib.hid r0
  have R1 := Lib.hid r1
  have R2 := Lib.hid r2
  have HE1 := Lib.hid HE
  clear r0 r1 r2 HE
  go_wp2_with fail
  go_region
  have r0 := (rowV_far R0.out ⟨gb, i * 3 + 1, none⟩ (.int .i64 y1) (by simp; omega)).drewN 1
  have r1 := (rowV_far R1.out ⟨gb, i * 3 + 1, none⟩ (.int .i64 y1) (by simp; omega)).drewN 1
  have r2 := (R2.out.set (i * 3 + 1) (.int .i64 y1)).drewN 1
  have HE := (HE1.out.setCell (p := ⟨gb, i * 3 + 1, none⟩) (.inl (by simp)) (.int .i64 y1)).drewN 1
  clear b1 g1 gf1 R0 R1 R2
  generalize hW : (W1.setCell ⟨gb, i * 3 + 1, none⟩ (.int .i64 y1)).drew = W2 at *
  rw [show (W1.setCell ⟨gb, i * 3 + 1, none⟩ (.int .i64 y1)).drewN 1 = (W1.setCell ⟨gb, i * 3 + 1, none⟩ (.int .i64 y1)).drew from rfl, hW] at r0 r1 r2 HE
  clear hW
  have b2 := rowc r0 2 rfl
  have g2 := rowc r2 (i * 3 + 2) (set_at _ (by omega) |>.trans (set_at _ (by omega) |>.trans k2))
  have gf2 := r2.free
  have R0 := Lib.hid r0
  have R1 := Lib.hid r1
  have R2 := Lib.hid r2
  have HE2 := Lib.hid HE
  clear r0 r1 r2 HE
  go_wp2_with fail
  go_region
  have r0 := (rowV_far R0.out ⟨gb, i * 3 + 2, none⟩ (.int .i64 y2) (by simp; omega)).drewN 1
  have r1 := (rowV_far R1.out ⟨gb, i * 3 + 2, none⟩ (.int .i64 y2) (by simp; omega)).drewN 1
  have r2 := (R2.out.set (i * 3 + 2) (.int .i64 y2)).drewN 1
  have HE := (HE2.out.setCell (p := ⟨gb, i * 3 + 2, none⟩) (.inl (by simp)) (.int .i64 y2)).drewN 1
  clear b2 g2 gf2 R0 R1 R2
  generalize hW : (W2.setCell ⟨gb, i * 3 + 2, none⟩ (.int .i64 y2)).drew = W3 at *
  rw [show (W2.setCell ⟨gb, i * 3 + 2, none⟩ (.int .i64 y2)).drewN 1 = (W2.setCell ⟨gb, i * 3 + 2, none⟩ (.int .i64 y2)).drew from rfl, hW] at r0 r1 r2 HE
  clear hW
  have b3 := rowc r0 0 rfl
  have g3 := rowc r1 (5) rfl
  have gf3 := r1.free
  have R0 := Lib.hid r0
  have R1 := Lib.hid r1
  have R2 := Lib.hid r2
  have HE3 := Lib.hid HE
  clear r0 r1 r2 HE
  go_wp2_with fail
  go_region
  have r0 := (rowV_far R0.out ⟨lb, 5, none⟩ (.int .i64 y3) (by simp; omega)).drewN 1
  have r2 := (rowV_far R2.out ⟨lb, 5, none⟩ (.int .i64 y3) (by simp; omega)).drewN 1
  have r1 := (R1.out.set 5 (.int .i64 y3)).drewN 1
  have HE := (HE3.out.setCell (p := ⟨lb, 5, none⟩) (.inl (by simp)) (.int .i64 y3)).drewN 1
  clear b3 g3 gf3 R0 R1 R2
  generalize hW : (W3.setCell ⟨lb, 5, none⟩ (.int .i64 y3)).drew = W4 at *
  rw [show (W3.setCell ⟨lb, 5, none⟩ (.int .i64 y3)).drewN 1 = (W3.setCell ⟨lb, 5, none⟩ (.int .i64 y3)).drew from rfl, hW] at r0 r1 r2 HE
  clear hW
  have b4 := rowc r0 1 rfl
  have g4 := rowc r1 (6) rfl
  have gf4 := r1.free
  have R0 := Lib.hid r0
  have R1 := Lib.hid r1
  have R2 := Lib.hid r2
  have HE4 := Lib.hid HE
  clear r0 r1 r2 HE
  go_wp2_with fail
  go_region
  have r0 := (rowV_far R0.out ⟨lb, 6, none⟩ (.int .i64 y4) (by simp; omega)).drewN 1
  have r2 := (rowV_far R2.out ⟨lb, 6, none⟩ (.int .i64 y4) (by simp; omega)).drewN 1
  have r1 := (R1.out.set 6 (.int .i64 y4)).drewN 1
  have HE := (HE4.out.setCell (p := ⟨lb, 6, none⟩) (.inl (by simp)) (.int .i64 y4)).drewN 1
  clear b4 g4 gf4 R0 R1 R2
  generalize hW : (W4.setCell ⟨lb, 6, none⟩ (.int .i64 y4)).drew = W5 at *
  rw [show (W4.setCell ⟨lb, 6, none⟩ (.int .i64 y4)).drewN 1 = (W4.setCell ⟨lb, 6, none⟩ (.int .i64 y4)).drew from rfl, hW] at r0 r1 r2 HE
  clear hW
  go_wp2
  refine bodyPost_end (results_none rfl _ _ _) rfl ?_
  refine ⟨rfl, ⟨?_, rest, ?_⟩, HE⟩
  · rw [List.length_set, HM.out]
    exact r1
  · rw [HSET.out] at r2
    exact r2
set_option maxHeartbeats 2000000 in
set_option maxRecDepth 20000 in
theorem pack_own (hL : Led w lb gb c b A gs fb fi) (hT : Tab w) (hg : grpMay gs = true) (hm : supMay A.b A.p A.n A.j fb fi A.oo A.mo = true) :
    Calls Tryz.prog 93 #[.pointer (some ⟨lb, 1, none⟩)] w fun e w' => ∃ gw g1 g0, e = .returned (.tuple #[.slice (some ⟨gw, 0, none⟩) 2 2, .int .i64 0]) ∧ w.heap.size ≤ gw ∧ w.heap.size ≤ g1 ∧ w.heap.size ≤ g0 ∧
      RowV w' gw 99 [.int .i64 1, .slice (some ⟨g1, 0, none⟩) 256 256, .int .i64 0, .slice (some ⟨g0, 0, none⟩) 256 256] ∧ Row w' g1 (grpBytes gs) [] ∧ Row w' g0 (supBytes A.b A.p A.n A.j fb fi A.oo A.mo A.cl) [] ∧ Below w.heap.size w w' := by
  have hG : Grps w w.heap.size (some ⟨gb, 0, none⟩) gs := fun k hk => by
    obtain ⟨h1, h2, h3⟩ := hL.gr hk
    have e : ∀ j, (⟨gb, 0, none⟩ : Addr).add j = ⟨gb, j, none⟩ := fun j => by unfold Addr.add; split <;> simp_all
    exact ⟨_, rfl, hL.lt.2, by rw [e]; exact h1, by rw [e]; exact h2, by rw [e]; exact h3⟩
  have HP := Lib.hid (PackGroups_any gs w.heap.size (some ⟨gb, 0, none⟩) c w (Nat.le_refl _) hG hT)
  obtain ⟨c0, c1, c2, c3, c4, c5, c6, c7, c8, c9, c10⟩ := hL.cs
  have HL := Lib.hid hL
  have HM := Lib.hid (And.intro hg hm)
  have HT := Lib.hid hT
  clear hL hG hg hm hT
  go_enter Tryz.func93, Tryz.ntmps93
  go_wp2_with fail
  refine HP.out.mono ?_
  rintro e w1 ⟨hy, _, hb1⟩
  obtain ⟨g1, rfl, hg1, hR1⟩ := hy HM.out.1
  have HB1 := Lib.hid hb1
  have HR1 := Lib.hid hR1
  obtain ⟨c0, c1, c2, c3, c4, c5, c6, c7, c8, c9, c10⟩ := (HL.out.below hb1).cs
  clear hy hR1 hb1
  go_wp2_with fail
  refine (PackSuper_yes A.b A.p A.n A.j fb fi A.oo A.mo A.cl w1 HM.out.2 (Tab.below HT.out HB1.out (Tab.lt HT.out))).mono ?_
  rintro e w2 ⟨g0, rfl, hg0, hR0, hb2⟩
  have HB2 := Lib.hid (below_up HB1.out hb2 HB1.out.size)
  have HR2 : Hid (Row w2 g1 (grpBytes gs) []) := Lib.hid (row_below HR1.out hb2 HR1.out.lt)
  have HR0 := Lib.hid hR0
  clear hb2 hR0
  go_wp2
  go_ret2
  have hs1 := HB1.out.size
  have hs2 := HB2.out.size
  exact ⟨w2.heap.size, g1, g0, rfl, hs2, hg1, by omega, rowV_new _ _ _, row_alloc HR2.out _, row_alloc HR0.out _, HB2.out.alloc hs2 _⟩
/-- what is left behind k of the two writes -/
def put2 (s : Sto) (l1 l0 : Bk) (k : Nat) : Sto := if k = 0 then s else if k = 1 then s.write 1 l1 else (s.write 1 l1).write 0 l0
set_option maxHeartbeats 4000000 in
set_option maxRecDepth 20000 in
theorem count_own (h : AS a B S w b db s) (hL : Led w lb gb c b A gs fb fi) (hS1 : S lb) (hS2 : S gb) (ha1 : a.heap.size ≤ lb) (ha2 : a.heap.size ≤ gb) (hT : Tab a) (hload : s.load + 10 ≤ 1073741824) {i : Nat} (hi : i < gs.length) (d0 d1 d2 y0 y1 y2 y3 y4 : Int)
    (e0 : gs[i].fb + d0 = y0) (e1 : gs[i].fi + d1 = y1) (e2 : gs[i].dirs + d2 = y2) (e3 : fb + d0 = y3) (e4 : fi + d1 = y4) (hg : grpMay (gs.set i ⟨y0, y1, y2⟩) = true) (hm : supMay A.b A.p A.n A.j y3 y4 A.oo A.mo = true) :
    Calls Tryz.prog 67 #[.pointer (some ⟨lb, 0, none⟩), .int .i64 (i : Int), .agg #[.int .i64 d0, .int .i64 d1, .int .i64 d2]] w fun e w' =>
      e = .returned (.int .i64 0) ∧ AS a B S w' b db ((s.write 1 (grpBytes (gs.set i ⟨y0, y1, y2⟩))).write 0 (supBytes A.b A.p A.n A.j y3 y4 A.oo A.mo A.cl)) ∧ Kp (fun q => S q ∧ q ≠ lb ∧ q ≠ gb) w w' := by
  have hgl := (grpMay_iff.1 hg).1
  rw [List.length_set] at hgl
  obtain ⟨f0, f1, f2⟩ := oneMay_iff.1 ((grpMay_iff.1 hg).2 ⟨y0, y1, y2⟩ (List.mem_of_getElem? (List.getElem?_set_self hi)))
  have f0 : 0 ≤ y0 ∧ y0 ≤ 65535 := f0
  have f1 : 0 ≤ y1 ∧ y1 ≤ 65535 := f1
  have f2 : 0 ≤ y2 ∧ y2 ≤ 65535 := f2
  have hsm := supMay_of hm
  simp only [supMay, Bool.and_eq_true, inB_true, allIn, List.all_cons, List.all_nil, Bool.and_true] at hm
  obtain ⟨⟨⟨m1, m2⟩, m3, m4⟩, m5⟩ := hm
  have hmay := may_iff.1 m1
  have hfx := fixedI_yes m1
  have hgI := groupsI_yes m1
  have b1 := hmay.b1
  have n1 := hmay.n1
  have n0 := hmay.n0
  have t0 := (prod_bd (g := gN A.b A.p) (by have := hmay.g0; omega) hmay.g1 hmay.n0 hmay.n1)
  rw [hgI] at m3 m4
  have hfx0 : 0 ≤ fixedI A.b A.p A.n A.j := by
    rw [hfx]
    have := hmay.j0
    have : 0 ≤ gN A.b A.p * (2 + A.n / 2) := Int.mul_nonneg (by have := hmay.g0; omega) (by omega)
    omega
  have HADD := fun W (hLW : Led W lb gb c b A gs fb fi) => add_own hLW hi (by omega) d0 d1 d2 y0 y1 y2 y3 y4 e0 e1 e2 e3 e4 ⟨by omega, by omega⟩ ⟨by omega, by omega⟩ ⟨by omega, by omega⟩ ⟨by omega, by omega⟩ ⟨by omega, by omega⟩
  have HADD := Lib.hid HADD
  have hlen := h.len
  have HB0 := Lib.hid ((Below.refl w.heap.size w).alloc (Nat.le_refl _) (.cells #[.int .i64 d0, .int .i64 d1, .int .i64 d2] 87))
  have H0 := Lib.hid (h.also HB0.out)
  have r0 := rowV_new w [.int .i64 d0, .int .i64 d1, .int .i64 d2] 87
  have x0 := rowc r0 0 rfl
  have x1 := rowc r0 1 rfl
  have x2 := rowc r0 2 rfl
  have HL0 := Lib.hid (hL.below HB0.out)
  have H := Lib.hid h
  have HT := Lib.hid hT
  have HGM := Lib.hid hg
  have HSM : Hid (supMay A.b A.p A.n A.j y3 y4 A.oo A.mo = true) := Lib.hid (by
    simp only [supMay, Bool.and_eq_true, inB_true, allIn, List.all_cons, List.all_nil, Bool.and_true, hgI]
    exact ⟨⟨⟨m1, m2⟩, m3, m4⟩, m5⟩)
  have HN : Hid (lb ≠ gb) := Lib.hid hL.ne
  generalize hG' : gs.set i ⟨y0, y1, y2⟩ = gs' at *
  clear h hL hT hg hsm m1 m2 m3 m4 m5 hmay hfx hgI b1 n1 n0 t0 hfx0 f0 f1 f2 r0 hG' e0 e1 e2 e3 e4 hi hgl
  go_enter Tryz.func67, Tryz.ntmps67
  go_wp2_with fail
  go_region_law ((go_simp; go_at_call 92; refine (HADD.out _ (HL0.out.drewN 1)).mono ?_; rintro e w2 ⟨rfl, hL2, he2⟩))
  have hA2 := (H0.out.drewN 1).turnP he2 (fun q hq => by rcases hq with rfl | rfl <;> first | exact ⟨.inl hS1, ha1⟩ | exact ⟨.inl hS2, ha2⟩)
  have HK2 : Hid (Kp (fun q => S q ∧ q ≠ lb ∧ q ≠ gb) w w2) := Lib.hid (((H.out.kp HB0.out).less fun _ hq => hq.1).trans (Kp.ext (w := World.drewN _ 1) he2 (fun q hq => (H0.out.there q (.inl hq.1))) (fun q hq hn => by rcases hq with rfl | rfl <;> first | exact hn.2.1 rfl | exact hn.2.2 rfl)))
  have HA2 := Lib.hid hA2
  have HL2 := Lib.hid hL2
  clear he2 hA2 hL2 x0 x1 x2
  go_wp2_with fail
  refine (pack_own HL2.out (HA2.out.tab HT.out) HGM.out HSM.out).mono ?_
  rintro e w3 ⟨gw, g1, g0, rfl, hw1, hw2, hw3, hRW, hR1, hR0, hb3⟩
  have HA3 := Lib.hid (HA2.out.also hb3)
  have HK3 := Lib.hid (HK2.out.trans ((HA2.out.kp hb3).less fun _ hq => .inl hq.1))
  have HL3 := Lib.hid (HL2.out.below hb3)
  have HRW := Lib.hid hRW
  have HR1 := Lib.hid hR1
  have HR0 := Lib.hid hR0
  have HV : Hid ((w2.heap.size ≤ gw ∧ gw < w3.heap.size) ∧ (w2.heap.size ≤ g1 ∧ g1 < w3.heap.size) ∧ (w2.heap.size ≤ g0 ∧ g0 < w3.heap.size)) := Lib.hid ⟨⟨hw1, hRW.lt⟩, ⟨hw2, hR1.lt⟩, ⟨hw3, hR0.lt⟩⟩
  clear hRW hR1 hR0 hb3 hw1 hw2 hw3
  generalize hQ : (fun q => (S q ∨ (w.heap.size ≤ q ∧ q < (w.alloc (.cells #[.int .i64 d0, .int .i64 d1, .int .i64 d2] 87)).heap.size)) ∨ (w2.heap.size ≤ q ∧ q < w3.heap.size)) = Q at *
  have HQ : Hid ((∀ q, S q → Q q) ∧ Q gw ∧ Q g1 ∧ Q g0) := Lib.hid (by subst hQ; exact ⟨fun q hq => .inl (.inl hq), .inr HV.out.1, .inr HV.out.2.1, .inr HV.out.2.2⟩)
  clear hQ
  go_wp2_with fail
  go_loopw [30] (fun i wr => ∃ k : Nat, k ≤ 2 ∧ i = .int .i64 (k : Int) ∧ AS a B Q wr b db (put2 s (grpBytes gs') (supBytes A.b A.p A.n A.j y3 y4 A.oo A.mo A.cl) k) ∧ Kp Q w3 wr) (fun i _ => (2 - RowKit.intOf i).toNat)
  case atStart => exact ⟨0, by omega, rfl, HA3.out, Kp.refl _ _⟩
  case round =>
    obtain ⟨k, hk, rfl, hA, hK⟩ := hrel
    obtain rfl | rfl | rfl : k = 0 ∨ k = 1 ∨ k = 2 := by omega
    · have HA := Lib.hid (hA.is (s' := s) (by simp [put2]))
      have HK := Lib.hid hK
      have rw := (hK _ HQ.out.2.1).trans HRW.out
      have z0 := rowc rw 0 rfl
      have z1 := rowc rw 1 rfl
      have HBX := Lib.hid ((Below.refl wr.heap.size wr).alloc (Nat.le_refl _) (.cells #[.int .i64 1, .slice (some ⟨g1, 0, none⟩) 256 256] 99))
      have HA1 := Lib.hid (HA.out.also HBX.out)
      have rx := rowV_new wr [.int .i64 1, .slice (some ⟨g1, 0, none⟩) 256 256] 99
      have y0 := rowc rx 0 rfl
      have y1 := rowc rx 1 rfl
      obtain ⟨c0, -⟩ := ((HL3.out.kp hK (HQ.out.1 _ hS1) (HQ.out.1 _ hS2)).below HBX.out).cs
      have HR := Lib.hid ((hK _ HQ.out.2.2.1).trans (HR1).out)
      have HW := Lib.hid (a_write (HA1.out.drewN 1) 1 1 rfl (by have := HA.out.len; omega) (v := .slice (some ⟨g1, 0, none⟩) 256 256) (l := grpBytes gs')
        ⟨g1, 256, [], rfl, .inl HQ.out.2.2.1, by first | exact supBytes_len .. | exact grpBytes_len _ (grpMay_iff.1 HGM.out).1.2, Nat.le_refl _, row_alloc HR.out _⟩ (by omega))
      clear rw rx hA hK
      go_wp2_with fail
      go_region_law ((go_simp; go_at_call 109; refine HW.out.mono ?_; rintro e w5 ⟨rfl, h5, hk5⟩))
      all_goals
        go_wp2
        go_roundw
        case rel => exact ⟨1, by omega, rfl, (h5.less fun q hq => .inl hq).is (by simp [put2]), ((HK.out.trans (HA.out.kp HBX.out)).trans (Kp.drewN _ _ 1)).trans (hk5.less fun q hq => .inl hq)⟩
        case measure => simp [RowKit.intOf]
    · have HA := Lib.hid (hA.is (s' := s.write 1 (grpBytes gs')) (by simp [put2]))
      have HK := Lib.hid hK
      have rw := (hK _ HQ.out.2.1).trans HRW.out
      have z0 := rowc rw 2 rfl
      have z1 := rowc rw 3 rfl
      have HBX := Lib.hid ((Below.refl wr.heap.size wr).alloc (Nat.le_refl _) (.cells #[.int .i64 0, .slice (some ⟨g0, 0, none⟩) 256 256] 99))
      have HA1 := Lib.hid (HA.out.also HBX.out)
      have rx := rowV_new wr [.int .i64 0, .slice (some ⟨g0, 0, none⟩) 256 256] 99
      have y0 := rowc rx 0 rfl
      have y1 := rowc rx 1 rfl
      obtain ⟨c0, -⟩ := ((HL3.out.kp hK (HQ.out.1 _ hS1) (HQ.out.1 _ hS2)).below HBX.out).cs
      have HR := Lib.hid ((hK _ HQ.out.2.2.2).trans (HR0).out)
      have HW := Lib.hid (a_write (HA1.out.drewN 1) 0 0 rfl (by have := HA.out.len; omega) (v := .slice (some ⟨g0, 0, none⟩) 256 256) (l := supBytes A.b A.p A.n A.j y3 y4 A.oo A.mo A.cl)
        ⟨g0, 256, [], rfl, .inl HQ.out.2.2.2, by first | exact supBytes_len .. | exact grpBytes_len _ (grpMay_iff.1 HGM.out).1.2, Nat.le_refl _, row_alloc HR.out _⟩ (by have := Sto.load_write s 1 (grpBytes gs'); omega))
      clear rw rx hA hK
      go_wp2_with fail
      go_region_law ((go_simp; go_at_call 109; refine HW.out.mono ?_; rintro e w5 ⟨rfl, h5, hk5⟩))
      all_goals
        go_wp2
        go_roundw
        case rel => exact ⟨2, by omega, rfl, (h5.less fun q hq => .inl hq).is (by simp [put2]), ((HK.out.trans (HA.out.kp HBX.out)).trans (Kp.drewN _ _ 1)).trans (hk5.less fun q hq => .inl hq)⟩
        case measure => simp [RowKit.intOf]
    · have HA := Lib.hid hA
      have HK := Lib.hid hK
      clear hA hK
      go_wp2
      go_ret
      exact ⟨rfl, (HA.out.is (by simp [put2])).less HQ.out.1, HK3.out.trans (HK.out.less fun q hq => HQ.out.1 q hq.1)⟩
end
end Go.Proofs.YtgkindoidmglnaaGreatDoor.ACount
/- The allocator: a bitmap in which what nobody may have is taken. -/
namespace Go.Proofs.YtgkindoidmglnaaGreatDoor.AHad
open Go.RowKit WMem WPlain WAppend WCrc WSeal TPlain TBits TSet TTurn TFace TTurnF TSame GPlain GGeo GGeo2 GFace Ext Map DPlain DMem EPlain EMem EFace EAny SPlain QPlain QMem APlain AMem AGeo AOpen ATurn

theorem or_go (x : UInt8) (s : Nat) (hs : s < 8) : bits BinOp.or IntKind.u8 (x.toNat : Int) (IntKind.u8.wrap (2 ^ s)) = ((setB x s).toNat : Int) := by
  have hx := byte_lt x
  have h2 : 2 ^ s < 256 := Nat.lt_of_le_of_lt (Nat.pow_le_pow_right (by decide) (show s ≤ 7 by omega)) (by decide)
  have h0 : IntKind.u8.wrap (2 ^ s) = (2 ^ s : Int) := by
    rw [show (2 : Int) ^ s = ((2 ^ s : Nat) : Int) by push_cast; rfl, IntKind.wrap_u8']
    generalize 2 ^ s = m at h2 ⊢
    omega
  rw [h0]
  show IntKind.u8.wrap ((BitVec.ofInt 8 (x.toNat : Int) ||| BitVec.ofInt 8 (2 ^ s)).toNat : Int) = _
  have h : (BitVec.ofInt 8 (x.toNat : Int) ||| BitVec.ofInt 8 (2 ^ s)).toNat = x.toNat ||| 2 ^ s := by
    rw [BitVec.toNat_or]
    have h1 : (BitVec.ofInt 8 (x.toNat : Int)).toNat = x.toNat := by simp
    have h3 : (BitVec.ofInt 8 (2 ^ s)).toNat = 2 ^ s := by
      rw [show (2 : Int) ^ s = ((2 ^ s : Nat) : Int) by push_cast; rfl]
      simp only [BitVec.ofInt_natCast, BitVec.toNat_ofNat]
      exact Nat.mod_eq_of_lt h2
    rw [h1, h3]
  have h4 : x.toNat ||| 2 ^ s < 256 := Nat.or_lt_two_pow (n := 8) hx h2
  rw [h, IntKind.wrap_u8']
  unfold setB
  simp only [UInt8.toNat_ofNat']
  omega

/-- bits that P says are taken, below n -/
def hadL (l : Bk) (P : Nat → Bool) : Nat → Bk
  | 0 => l
  | k + 1 => if P k = true then lay1 (hadL l P k) k else hadL l P k
theorem hadL_len (l : Bk) (P : Nat → Bool) (n : Nat) : (hadL l P n).length = l.length := by
  induction n with
  | zero => rfl
  | succ n ih =>
    unfold hadL
    split
    · rw [lay1_len, ih]
    · exact ih
theorem fr_had {l : Bk} (hl : l.length = 256) (P : Nat → Bool) {i : Nat} (hi : i < 2016) : ∀ n, n ≤ 2016 → fr (hadL l P n) i = (fr l i && !(decide (i < n) && P i))
  | 0, _ => by simp [hadL]
  | n + 1, h => by
    have ih := fr_had hl P hi n (by omega)
    have hn := (hadL_len l P n).trans hl
    unfold hadL
    by_cases e : P n = true
    · rw [if_pos e, fr_lay1 hn hi (by omega), ih]
      by_cases e2 : i = n
      · subst e2
        simp [e]
      · have : decide (i < n + 1) = decide (i < n) := by
          by_cases h3 : i < n
          · simp [h3]; omega
          · simp [h3]; omega
        rw [this]
        simp [e2]
    · rw [if_neg e, ih]
      by_cases e2 : i = n
      · subst e2
        simp [e]
      · have : decide (i < n + 1) = decide (i < n) := by
          by_cases h3 : i < n
          · simp [h3]; omega
          · simp [h3]; omega
        rw [this]
/-- what nobody may have of a group -/
def had (A : Al) (hld : Nat → Bool) (i : Nat) : Nat → Bool := fun k => decide (k < A.own i) || hld (A.at_ i + k)
section
variable {a w : World} {B : Nat} {S : Nat → Prop} {b db : Nat} {s : Sto} {A : Al} {lb gb c : Nat} {gs : List Grp} {fb fi : Int}
set_option maxHeartbeats 2000000 in
set_option maxRecDepth 100000 in
theorem had_own (h : AS a B S w b db s) (hL : Led w lb gb c b A gs fb fi) (hM : May A.b A.p A.n A.j) {i : Nat} (hi : i < A.ng) (x : Int) (l : Bk) (hl : l.length = 256) (g c' : Nat) (rest : List Value) (_hc' : 256 ≤ c') (hR : Row w g l rest) :
    Calls Tryz.prog 64 #[.pointer (some ⟨lb, 0, none⟩), .agg (plc A i).toArray, .agg #[.int .i64 x, .int .i64 (A.size i : Int), .slice (some ⟨g, 0, none⟩) 256 c']] w fun e w' =>
      ∃ g1 cap rest1, e = .returned (.slice (some ⟨g1, 0, none⟩) 256 cap) ∧ w.heap.size ≤ g1 ∧ 256 ≤ cap ∧ Row w' g1 (hadL l (had A s.now.hld i) (A.size i)) rest1 ∧ Below w.heap.size w w' := by
  have G := geo hM hi
  have g0 := G.a0
  have g7 := G.a7
  have g8 := G.a8
  have g9 := hM.b1
  obtain ⟨x0, hx0⟩ : ∃ x0 : Nat, A.at_ i = x0 := ⟨_, rfl⟩
  obtain ⟨x5, hx5⟩ : ∃ x5 : Nat, A.at_ i + A.own i = x5 := ⟨_, rfl⟩
  obtain ⟨n, hn⟩ : ∃ n : Nat, A.size i = n := ⟨_, rfl⟩
  obtain ⟨P, hP⟩ : ∃ P, had A s.now.hld i = P := ⟨_, rfl⟩
  have hPk : ∀ k, P k = (decide (x0 + k < x5) || s.now.hld (x0 + k)) := fun k => by
    rw [← hP]
    unfold had
    rw [hx0]
    congr 1
    simp only [decide_eq_decide]
    omega
  unfold plc
  rw [hx5, hn, hx0, hP]
  rw [hx0, hn] at g8
  rw [hn] at g7
  generalize x0 + n = x1
  generalize A.bat i = x2
  clear hP G hx5 hn g0
  clear hx0
  have HB0 := Lib.hid (((Below.refl w.heap.size w).alloc (Nat.le_refl _) (.cells #[.int .i64 x0, .int .i64 x1, .int .i64 x2, .int .i64 (x2 + 1 : Nat), .int .i64 (x2 + 2 : Nat), .int .i64 x5] 115)).alloc (by simp) (.cells #[.int .i64 x, .int .i64 n, .slice (some ⟨g, 0, none⟩) 256 c'] 122))
  have r0 := (rowV_new w [.int .i64 x0, .int .i64 x1, .int .i64 x2, .int .i64 (x2 + 1 : Nat), .int .i64 (x2 + 2 : Nat), .int .i64 x5] 115).alloc (.cells #[.int .i64 x, .int .i64 n, .slice (some ⟨g, 0, none⟩) 256 c'] 122)
  have r1 := rowV_new (w.alloc (.cells #[.int .i64 x0, .int .i64 x1, .int .i64 x2, .int .i64 (x2 + 1 : Nat), .int .i64 (x2 + 2 : Nat), .int .i64 x5] 115)) [.int .i64 x, .int .i64 n, .slice (some ⟨g, 0, none⟩) 256 c'] 122
  simp only [World.size_alloc] at r1
  have z2 := rowc r1 2 rfl
  have HRG : Hid (Row ((w.alloc (.cells #[.int .i64 x0, .int .i64 x1, .int .i64 x2, .int .i64 (x2 + 1 : Nat), .int .i64 (x2 + 2 : Nat), .int .i64 x5] 115)).alloc (.cells #[.int .i64 x, .int .i64 n, .slice (some ⟨g, 0, none⟩) 256 c'] 122)) g l rest) := Lib.hid (row_alloc (row_alloc hR _) _)
  have H := Lib.hid h
  have HL := Lib.hid hL
  have HLL := Lib.hid hl
  have HP := Lib.hid hPk
  have R0 := Lib.hid r0
  have R1 := Lib.hid r1
  clear h hL hl hR hPk r0 r1 hM hi
  go_enter Tryz.func64, Tryz.ntmps64
  go_wp2_with fail
  refine (Clone_256 l HLL.out _ _ c' _ (Nat.le_refl _) (HRG.out.sl HRG.out.lt)).mono ?_
  rintro e w1 ⟨g1, cap, rest1, rfl, hg1, hcap, hR1, hb1⟩
  have HB1 := Lib.hid (below_up HB0.out hb1 (by simp; omega))
  have r0 := R0.out.keep hb1 R0.out.lt
  have r1 := R1.out.keep hb1 R1.out.lt
  have z1 := rowc r1 1 rfl
  have HR1 := Lib.hid hR1
  have HG1 : Hid (w.heap.size + 2 ≤ g1) := Lib.hid (by simpa [Nat.add_assoc] using hg1)
  have R0 := Lib.hid r0
  clear hb1 r0 r1 hR1 hg1 z2
  go_wp2_with fail
  go_loopw [15] (fun i wr => ∃ k : Nat, k ≤ n ∧ i = .int .i64 k ∧ Row wr g1 (hadL l P k) rest1 ∧ Below w.heap.size w wr ∧ RowV wr w.heap.size 115 [.int .i64 x0, .int .i64 x1, .int .i64 x2, .int .i64 (x2 + 1 : Nat), .int .i64 (x2 + 2 : Nat), .int .i64 x5] ∧ w.heap.size + 2 ≤ wr.heap.size) (fun i _ => n - (RowKit.intOf i).toNat)
  case atStart => exact ⟨0, Nat.zero_le _, rfl, HR1.out, HB1.out, R0.out, by have := HG1.out; have := HR1.out.lt; omega⟩
  case round =>
    obtain ⟨k, hk, rfl, hR, hB, hR0, hz⟩ := hrel
    have HR := Lib.hid hR
    have HB := Lib.hid hB
    have HR0 := Lib.hid hR0
    have HZ := Lib.hid hz
    clear hR hB hz
    by_cases hlt : k < n
    · have y0 := rowc hR0 0 rfl
      have y5 := rowc hR0 5 rfl
      clear hR0
      obtain ⟨j, hj⟩ : ∃ j : Nat, x0 + k = j := ⟨_, rfl⟩
      have hjI : wrap64 ((x0 : Int) + (k : Int)) = (j : Int) := by rw [IntWalk.wrap64_in _ ⟨by omega, by omega⟩]; omega
      have hjI2 : (x0 : Int) + (k : Int) = (j : Int) := by omega
      have hPk : P k = (decide (j < x5) || s.now.hld j) := by rw [HP.out, hj]
      have HJ := Lib.hid hj
      clear hj
      have hlen : (hadL l P k).length = 256 := (hadL_len l P k).trans HLL.out
      have hi2 : k / 8 < (hadL l P k).length := by omega
      obtain ⟨y, hye⟩ : ∃ y, (hadL l P k)[k / 8]'hi2 = y := ⟨_, rfl⟩
      have HY : Hid ((hadL l P k).getD (k / 8) 0 = y) := Lib.hid (by rw [← hye]; simp [hi2])
      obtain ⟨jb, hjb⟩ : ∃ jb, k / 8 = jb := ⟨_, rfl⟩
      obtain ⟨sb, hsb⟩ : ∃ sb, k % 8 = sb := ⟨_, rfl⟩
      have hs8 : sb < 8 := by omega
      have hsI : (sb : Int) < 8 := by omega
      have hs0 : (0 : Int) ≤ (sb : Int) := by omega
      have hjI3 : (jb : Int) < 256 := by omega
      have hj0 : (0 : Int) ≤ (jb : Int) := by omega
      have hq1 : IntKind.i64.wrap ((k : Int) / 8) = (jb : Int) := by rw [IntKind.wrap_i64]; omega
      have hq2 : IntKind.i64.wrap ((k : Int) % 8) = (sb : Int) := by rw [IntKind.wrap_i64]; omega
      have hq3 : (k : Int).tmod 8 = (sb : Int) := by rw [Int.tmod_eq_emod_of_nonneg (by omega)]; omega
      have hv : bits BinOp.or IntKind.u8 (y.toNat : Int) (2 ^ sb % 256) = ((setB y sb).toNat : Int) := by rw [← or_go y sb hs8, IntKind.wrap_u8']
      have hy256 := byte_lt y
      have hcell : ∀ W, Row W g1 (hadL l P k) rest1 → W.cell? ⟨g1, jb, none⟩ = some (.int .u8 (y.toNat : Int)) ∧ W.frozen? ⟨g1, jb, none⟩ = false := fun W hW => by
        have h1 := hW.cell (i := k / 8) hi2
        rw [hye, hjb] at h1
        exact ⟨h1, hW.free _⟩
      have HSET : Hid (P k = true → hadL l P (k + 1) = (hadL l P k).set jb (setB y sb)) := Lib.hid fun hp => by
        show (if P k = true then lay1 (hadL l P k) k else hadL l P k) = _
        rw [if_pos hp]
        unfold lay1
        rw [HY.out, hjb, hsb]
      have HKEEP : Hid (P k = false → hadL l P (k + 1) = hadL l P k) := Lib.hid fun hp => by
        show (if P k = true then lay1 (hadL l P k) k else hadL l P k) = _
        rw [if_neg (by rw [hp]; decide)]
      obtain ⟨yb, hyb⟩ : ∃ yb, setB y sb = yb := ⟨_, rfl⟩
      rw [hyb] at hv HSET
      have HLEN : Hid (jb < (hadL l P k).length) := Lib.hid (by omega)
      have HCELL := Lib.hid hcell
      clear hcell hi2 hlen hye hjb hsb hyb
      by_cases hown : j < x5
      · have hd : decide ((j : Int) < (x5 : Int)) = true := by simp; omega
        have HPK : Hid (P k = true) := Lib.hid (by rw [hPk]; simp [hown])
        clear hPk
        obtain ⟨v0, v1⟩ := HCELL.out _ HR.out
        go_wp2_with fail
        go_region
        go_wp2
        go_roundw
        case rel => exact ⟨k + 1, by omega, by go_num, by rw [HSET.out HPK.out]; exact (HR.out.set HLEN.out yb).drewN 1, below_drewN (HB.out.setCell (p := ⟨g1, jb, none⟩) (by have := HG1.out; simp; omega) (.int .u8 (yb.toNat : Int))) 1, (rowV_far HR0.out ⟨g1, jb, none⟩ (.int .u8 (yb.toNat : Int)) (by have := HG1.out; simp; omega)).drewN 1, by have := HZ.out; simp [World.setCell]; omega⟩
        case measure => simp [RowKit.intOf]; omega
      · have hd : decide ((j : Int) < (x5 : Int)) = false := by simp; omega
        have hPk2 : P k = s.now.hld j := by rw [hPk]; simp [hown]
        clear hPk
        have HA := Lib.hid (H.out.go HB.out)
        obtain ⟨c0, -⟩ := (HL.out.below HB.out).cs
        have hj8 : j ≤ 8192 := by omega
        cases hq : s.now.hld j with
        | false =>
          go_wp2_with fail
          refine (a_held HA.out (j : Int) j rfl hj8 false hq).mono ?_
          rintro e w2 ⟨rfl, hb2⟩
          have HB2 := Lib.hid (below_up HB.out hb2 HB.out.size)
          have HR2 : Hid (Row w2 g1 (hadL l P k) rest1) := Lib.hid (row_below HR.out hb2 HR.out.lt)
          have HR02 := Lib.hid (HR0.out.keep hb2 HR0.out.lt)
          have HZ2 : Hid (w.heap.size + 2 ≤ w2.heap.size) := Lib.hid (Nat.le_trans HZ.out hb2.size)
          have HPK : Hid (P k = false) := Lib.hid (hPk2.trans hq)
          clear hb2 hPk2 hq
          go_wp2
          go_roundw
          case rel => exact ⟨k + 1, by omega, by go_num, by rw [HKEEP.out HPK.out]; exact HR2.out, HB2.out, HR02.out, HZ2.out⟩
          case measure => simp [RowKit.intOf]; omega
        | true =>
          go_wp2_with fail
          refine (a_held HA.out (j : Int) j rfl hj8 true hq).mono ?_
          rintro e w2 ⟨rfl, hb2⟩
          have HB2 := Lib.hid (below_up HB.out hb2 HB.out.size)
          have HR2 : Hid (Row w2 g1 (hadL l P k) rest1) := Lib.hid (row_below HR.out hb2 HR.out.lt)
          have HR02 := Lib.hid (HR0.out.keep hb2 HR0.out.lt)
          have HZ2 : Hid (w.heap.size + 2 ≤ w2.heap.size) := Lib.hid (Nat.le_trans HZ.out hb2.size)
          have HPK : Hid (P k = true) := Lib.hid (hPk2.trans hq)
          clear hb2 hPk2 hq
          obtain ⟨v0, v1⟩ := HCELL.out _ HR2.out
          go_wp2_with fail
          go_region
          go_wp2
          go_roundw
          case rel => exact ⟨k + 1, by omega, by go_num, by rw [HSET.out HPK.out]; exact (HR2.out.set HLEN.out yb).drewN 1, below_drewN (HB2.out.setCell (p := ⟨g1, jb, none⟩) (by have := HG1.out; simp; omega) (.int .u8 (yb.toNat : Int))) 1, (rowV_far HR02.out ⟨g1, jb, none⟩ (.int .u8 (yb.toNat : Int)) (by have := HG1.out; simp; omega)).drewN 1, by have := HZ2.out; simp [World.setCell]; omega⟩
          case measure => simp [RowKit.intOf]; omega
    · obtain rfl : k = n := by omega
      go_wp2
      go_ret
      exact ⟨g1, cap, rest1, rfl, by have := HG1.out; omega, hcap, HR.out, HB.out⟩
end
end Go.Proofs.YtgkindoidmglnaaGreatDoor.AHad
/- The allocator: groups are told round, from one of them on. -/
namespace Go.Proofs.YtgkindoidmglnaaGreatDoor.ARound
open Go.RowKit Go.Shelf WMem QMem QChunk APlain AMem

attribute [local go_sem] Oper.semAt_some

/-- the group that comes as the x-th -/
def nth (f N x : Nat) : Nat := (f + x) % N
def rnd (f N x : Nat) : Array Value := #[.int .i64 (nth f N x : Nat)]
theorem nth_lt {f N : Nat} (x : Nat) (hN : 1 ≤ N) : nth f N x < N := Nat.mod_lt _ (by omega)

set_option maxRecDepth 100000 in
set_option maxHeartbeats 2000000 in
theorem round1_in (n : Nat) (hn : 1 ≤ n) (lo Bl Bf f N : Nat) (hN : 1 ≤ N) (hN2 : N ≤ 14) (hf : f < N) (J Jx : List Nat → World → Prop)
    (hY : ∀ pre x W, J pre W → pre.length < N → YieldAt Fence.wide (n - 1) Tryz.prog lo (rnd f N x) W fun e W' =>
      (e = .returned (.bool true) ∧ J (pre ++ [x]) W' ∧ CKeep (two Bl Bf) W W') ∨ (e = .returned (.bool false) ∧ Jx (pre ++ [x]) W'))
    (W : World) (_hJ : AbidesFrom W.heap.size J) (lb gb c : Nat) (hBl : W.heap[Bl]? = some (.cells #[.pointer (some ⟨lb, 0, none⟩)] 61 (0, 0))) (hBf : W.heap[Bf]? = some (.cells #[.int .i64 (f : Int)] 3 (0, 0))) (hL : W.cell? ⟨lb, 10, none⟩ = some (.slice (some ⟨gb, 0, none⟩) N c)) (h0 : J [] W) :
    CallsIn Fence.wide n Tryz.prog 102 #[.func (.yield lo) #[] #[], .pointer (some ⟨Bl, 0, none⟩), .pointer (some ⟨Bf, 0, none⟩)] W fun e W' => (∃ v, e = .returned v) ∧
      ((∃ ys, ys = List.range N ∧ J ys W') ∨ (∃ pre, (∃ k, k ≤ N ∧ pre = List.range k) ∧ Jx pre W')) := by
  have x0 : W.cell? ⟨Bl, 0, none⟩ = some (.pointer (some ⟨lb, 0, none⟩)) := (row_cell hBl 0).trans rfl
  refine callsIn_of_wp Tryz.func102 rfl trivial ?_ rfl
  simp only [Tryz.ntmps102, List.size_toArray, List.length_cons, List.length_nil, Nat.reduceAdd, Nat.reduceSub, Array.replicate_succ, Array.replicate_zero, List.push_toArray, List.append_toArray, List.nil_append, List.cons_append]
  gi_wp2
  gi_loopw [13] (fun i wr => ∃ k : Nat, k ≤ N ∧ i = .int .i64 (k : Int) ∧ J (List.range k) wr ∧ CKeep (two Bl Bf) W wr)
    (fun i _ => N - (intOf i).toNat)
  case atStart => exact ⟨0, Nat.zero_le _, rfl, h0, CKeep.refl _ _⟩
  case round =>
    obtain ⟨k, hk, rfl, hJ0, hnx⟩ := hrel
    have hn := hnx.cell (.inr rfl) hBf
    have c1 : wr.cell? ⟨Bf, 0, none⟩ = some (.int .i64 (f : Int)) := (row_cell hn 0).trans rfl
    clear hn
    by_cases hlt : k < N
    · have HK : Hid (∀ v, v = rnd f N k → YieldAt Fence.wide (n - 1) Tryz.prog lo v wr fun e W' =>
          (e = .returned (.bool true) ∧ J (List.range (k + 1)) W' ∧ CKeep (two Bl Bf) W W') ∨ (e = .returned (.bool false) ∧ Jx (List.range (k + 1)) W')) := by
        rintro v rfl
        rw [List.range_succ]
        have h1 := hY (List.range k) k wr hJ0 (by rw [range_len]; exact hlt)
        refine h1.mono fun e W' h => ?_
        rcases h with ⟨h2, h3, h4⟩ | h2
        · exact .inl ⟨h2, h3, hnx.trans h4⟩
        · exact .inr h2
      have HBf := Lib.hid hBf
      obtain ⟨y, hy⟩ : ∃ y, nth f N k = y := ⟨_, rfl⟩
      have q0 : ((N : Int) == 0) = false := by rw [beq_eq_false_iff_ne]; omega
      have q1 : wrap64 ((f : Int) + (k : Int)) = (f : Int) + (k : Int) := IntWalk.wrap64_in _ ⟨by omega, by omega⟩
      have q2 : ((f : Int) + (k : Int)).tmod (N : Int) = (y : Int) := by
        rw [Int.tmod_eq_emod_of_nonneg (by omega), ← hy]
        unfold nth
        rw [Int.natCast_emod, Int.natCast_add]
      have q3 : y < N := by rw [← hy]; exact nth_lt _ hN
      have q4 : wrap64 (y : Int) = (y : Int) := IntWalk.wrap64_in _ ⟨by omega, by omega⟩
      have HY := Lib.hid hy
      clear hY _hJ h0 hJ0 hBf hBl hnx hy x0 hL
      obtain ⟨fn, tmps, assign, body, hy, hR⟩ := HK.out #[.int .i64 (y : Int)] (by unfold rnd; rw [HY.out])
      gi_wp2
      refine hR.mono ?_
      rintro e W3 (⟨rfl, hJ3, hk3⟩ | ⟨rfl, hJx3⟩)
      · have HK3 := Lib.hid hk3
        clear hk3
        gi_wp2
        go_roundw
        case rel => exact ⟨k + 1, by omega, by go_num, hJ3, HK3.out⟩
        case measure => simp [intOf]; omega
      · gi_wp2
        refine bodyPost_ret (results_none rfl _ _ _) rfl ?_
        exact ⟨⟨_, rfl⟩, .inr ⟨_, ⟨k + 1, by omega, rfl⟩, hJx3⟩⟩
    · obtain rfl : k = N := by omega
      gi_wp2
      go_end0
      exact ⟨⟨_, rfl⟩, .inl ⟨_, rfl, hJ0⟩⟩
theorem round_stops (n : Nat) (hn : 1 ≤ n) (Bl Bf f N : Nat) (hN : 1 ≤ N) (hN2 : N ≤ 14) (hf : f < N) (w : World) (lb gb c : Nat) (hlb : lb < w.heap.size) (hBl : w.heap[Bl]? = some (.cells #[.pointer (some ⟨lb, 0, none⟩)] 61 (0, 0))) (hBf : w.heap[Bf]? = some (.cells #[.int .i64 (f : Int)] 3 (0, 0))) (hL : w.cell? ⟨lb, 10, none⟩ = some (.slice (some ⟨gb, 0, none⟩) N c)) :
    SeqStopsK Fence.wide n Tryz.prog 102 #[.pointer (some ⟨Bl, 0, none⟩), .pointer (some ⟨Bf, 0, none⟩)] (rnd f N) (CKeep (two Bl Bf)) (fun ys => ys = List.range N) (fun pre => ∃ k, k ≤ N ∧ pre = List.range k) N w :=
  fun lo J Jx W hW hJ _ hY h0 => round1_in n hn lo Bl Bf f N hN hN2 hf J Jx hY W hJ lb gb c (row_below hBl hW (row_lt hBl)) (row_below hBf hW (row_lt hBf)) ((hW.cell (p := ⟨lb, 10, none⟩) hlb).trans hL) h0
set_option maxHeartbeats 1000000 in
theorem round_in (n : Nat) (lb : Nat) (f : Int) (w : World) :
    CallsIn Fence.wide n Tryz.prog 59 #[.pointer (some ⟨lb, 0, none⟩), .int .i64 f] w fun e w' => e = .returned (.func (.func 102) #[] #[.pointer (some ⟨w.heap.size, 0, none⟩), .pointer (some ⟨w.heap.size + 1, 0, none⟩)]) ∧
      w' = (w.alloc (.cells #[.pointer (some ⟨lb, 0, none⟩)] 61)).alloc (.cells #[.int .i64 f] 3) := by
  refine callsIn_of_wp Tryz.func59 rfl trivial ?_ rfl
  simp only [Tryz.ntmps59, List.size_toArray, List.length_cons, List.length_nil, Nat.reduceAdd, Nat.reduceSub, Array.replicate_succ, Array.replicate_zero, List.push_toArray, List.append_toArray, List.nil_append, List.cons_append]
  gi_wp2
  go_ret
  exact ⟨rfl, rfl⟩
end Go.Proofs.YtgkindoidmglnaaGreatDoor.ARound
