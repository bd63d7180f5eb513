/- One word for a map from numbers to slices of bytes: what stands at each key, and how look-ups, stores and ranges go. -/
import Derived.Test.YtgjcbfdhpbkhoaaGreatDoorProg
import Derived.Test.YtgjcbfdhpbkhoaaGreatDoorMg1
import Derived.Maps.RangeWalk
import Derived.Maps.Ext
import Derived.KernelRfl
import Derived.OpenShut
import Derived.Test.YtgjcbfdhpbkhoaaGreatDoorMg2
namespace Go.Proofs.YtgjcbfdhpbkhoaaGreatDoor.Map
open Go.RowKit WMem
open Go.Maps (Keyed)
def Rv (v : Value) : Option (DataW Value × List MemPlace) := some (.held v, [])
theorem law : Keyed Tryz.prog 3 := Maps.int_keyed (q := .i64) (by kernel_rfl)
theorem under : Tryz.prog.underlying 91 = some (.map 3 22) := by kernel_rfl
theorem zeroE (w : World) : (zeroValue 22).run Tryz.prog w = .ok (.slice none 0 0) w := by kernel_rfl
def Fits (k : Int) : Prop := -9223372036854775808 ≤ k ∧ k ≤ 9223372036854775807
theorem fits_wf {k : Int} (h : Fits k) : (Lit.int .i64 k).wf = true := WalkArith.wf_i64 (by obtain ⟨h1, h2⟩ := h; constructor <;> assumption)
theorem keyed {k : Int} (h : Fits k) : keyOf Tryz.prog 3 (.int .i64 k) = some (.int .i64 k) := Maps.keyOf_int_mk (by kernel_rfl) (fits_wf h)
def MapIs (w : World) (b n : Nat) (f : Int → Option Value) : Prop :=
  ∃ D : DataW Value, w.ownsMap Tryz.prog 3 Rv b n D ∧ ∀ k : Int, Fits k → Maps.has D (.int .i64 k) = (f k).isSome ∧ ∀ v, f k = some v → ∀ z, D.atKey (.int .i64 k) z = .held v
def upd (f : Int → Option Value) (k : Int) (v : Value) : Int → Option Value := fun j => if j = k then some v else f j
section
variable {w w' : World} {b n : Nat} {f : Int → Option Value}
theorem MapIs.keep (h : MapIs w b n f) (hk : w'.heap[b]? = w.heap[b]?) : MapIs w' b n f := by
  obtain ⟨D, ⟨es, clock, hb, r⟩, hf⟩ := h
  exact ⟨D, ⟨es, clock, hk.trans hb, r⟩, hf⟩
theorem MapIs.mono (h : MapIs w b n f) {n' : Nat} (hn : n ≤ n') : MapIs w b n' f := by
  obtain ⟨D, ho, hf⟩ := h
  exact ⟨D, ho.mono hn, hf⟩
theorem MapIs.lt (h : MapIs w b n f) : b < w.heap.size := by
  obtain ⟨D, ho, _⟩ := h
  exact ho.lt
theorem MapIs.alloc (h : MapIs w b n f) (o : Obj) : MapIs (w.alloc o) b n f := h.keep (Below.heap_alloc w o b h.lt)
theorem MapIs.drewN (h : MapIs w b n f) (k : Nat) : MapIs (w.drewN k) b n f := h.keep rfl
theorem MapIs.made (w : World) : MapIs (w.alloc (.map #[] 0)) w.heap.size 0 (fun _ => none) :=
  ⟨_, World.ownsMap_made _ _ _ _, fun k _ => ⟨rfl, fun v hv => by cases hv⟩⟩
theorem MapIs.ne {g : Nat} {cs : Array Value} {T : TypeId} {fz : Nat × Nat} (h : MapIs w b n f) (hg : w.heap[g]? = some (.cells cs T fz)) : g ≠ b := by
  rintro rfl
  obtain ⟨D, ⟨es, clock, hb, _⟩, _⟩ := h
  rw [hb] at hg
  cases hg
theorem MapIs.own_ne {base : Nat} {e : TypeId} {size m : Nat} {v : Value} {xs : List Value} (h : MapIs w b n f) (ho : w.ownsRow base e size v m xs) : v.ownBlock ≠ some b := by
  rcases ho.2 with ⟨rfl, _⟩ | ⟨g', cap, cur, rfl, _, hh, _⟩
  · simp [Value.ownBlock]
  · intro he
    have : g' = b := by simpa [Value.ownBlock] using he
    exact h.ne hh this
set_option maxRecDepth 100000 in
theorem MapIs.look_ok (h : MapIs w b n f) {k : Int} (hk : Fits k) :
    (Instr.lookup 91 (.map (some b)) (.int .i64 k) true).run Tryz.prog w = .ok (.tuple #[(f k).getD (.slice none 0 0), .bool (f k).isSome]) w := by
  obtain ⟨D, ho, hf⟩ := h
  obtain ⟨v, ps, hrun, hv⟩ := ho.look_ok law under (zeroE w) (zd := .held (.slice none 0 0)) (zp := []) rfl (keyed hk)
  rw [hrun, (hf k hk).1]
  simp only [Rv, Option.some.injEq, Prod.mk.injEq] at hv
  cases hfk : f k with
  | none =>
    have hh := (hf k hk).1
    rw [hfk] at hh
    rw [Maps.atKey_of_not_has hh] at hv
    obtain ⟨hv, _⟩ := hv
    injection hv with hv
    rw [hv]; rfl
  | some u =>
    rw [(hf k hk).2 u hfk] at hv
    obtain ⟨hv, _⟩ := hv
    injection hv with hv
    rw [hv]; rfl
set_option maxRecDepth 100000 in
theorem MapIs.look (h : MapIs w b n f) {k : Int} (hk : Fits k) :
    (Instr.lookup 91 (.map (some b)) (.int .i64 k) false).run Tryz.prog w = .ok ((f k).getD (.slice none 0 0)) w := by
  obtain ⟨D, ho, hf⟩ := h
  obtain ⟨v, ps, hrun, hv⟩ := ho.lookup law under (zeroE w) (zd := .held (.slice none 0 0)) (zp := []) rfl (keyed hk)
  rw [hrun]
  simp only [Rv, Option.some.injEq, Prod.mk.injEq] at hv
  cases hfk : f k with
  | none =>
    have hh := (hf k hk).1
    rw [hfk] at hh
    rw [Maps.atKey_of_not_has hh] at hv
    obtain ⟨hv, _⟩ := hv
    injection hv with hv
    rw [hv]; rfl
  | some u =>
    rw [(hf k hk).2 u hfk] at hv
    obtain ⟨hv, _⟩ := hv
    injection hv with hv
    rw [hv]; rfl
theorem key_ne {j k : Int} (h : j ≠ k) : (Lit.int .i64 j) ≠ (Lit.int .i64 k) := by
  intro e
  injection e with _ e
  exact h e
theorem put_is {D : DataW Value} {k : Int} {v : Value} (hD : Maps.IsMap D) (hk : Fits k) (hf : ∀ k : Int, Fits k → Maps.has D (.int .i64 k) = (f k).isSome ∧ ∀ v, f k = some v → ∀ z, D.atKey (.int .i64 k) z = .held v) :
    ∀ j : Int, Fits j → Maps.has (D.put (.int .i64 k) (.held v)) (.int .i64 j) = (upd f k v j).isSome ∧ ∀ u, upd f k v j = some u → ∀ z, (D.put (.int .i64 k) (.held v)).atKey (.int .i64 j) z = .held u := by
  intro j hj
  have hkk := law.key (keyed hk)
  unfold upd
  by_cases e : j = k
  · subst e
    rw [if_pos rfl]
    refine ⟨by rw [Maps.has_put_same hD hkk]; rfl, fun u hu z => ?_⟩
    injection hu with hu
    subst hu
    exact Maps.atKey_put_same hD hkk _ _
  · rw [if_neg e]
    refine ⟨by rw [Maps.has_put_other (key_ne e)]; exact (hf j hj).1, fun u hu z => ?_⟩
    rw [Maps.atKey_put_other (key_ne e)]
    exact (hf j hj).2 u hu z
theorem MapIs.store (h : MapIs w b n f) {k : Int} (hk : Fits k) (hn : n < maxLen) (v : Value) :
    ∃ w', (Instr.mapUpdate 91 (.map (some b)) (.int .i64 k) v).run Tryz.prog w = .ok () w' ∧ MapIs w' b (n + 1) (upd f k v) ∧ w.mapTurned w' b := by
  obtain ⟨D, ho, hf⟩ := h
  obtain ⟨w', hrun, h1, h2⟩ := ho.store law under hn (keyed hk) (val := v) (d := .held v) (ps := []) rfl
  exact ⟨w', hrun, ⟨_, h1, put_is ho.isMap hk hf⟩, h2⟩
theorem MapIs.len (h : MapIs w b n f) (ty : TypeId) : ∃ m : Nat, (Builtin.len_ #[91] ty #[.map (some b)]).run Tryz.prog w = .ok (.int .i64 (m : Int)) w ∧ m ≤ n := by
  obtain ⟨D, ho, hf⟩ := h
  exact ⟨_, ho.len under ty, ho.size_le⟩
def RangeIs (w : World) (b r n : Nat) (f : Int → Option Value) (left : Lit → Bool) (cnt : Nat) : Prop :=
  ∃ D : DataW Value, w.ranges Tryz.prog 3 Rv b r n D left cnt ∧ ∀ k : Int, Fits k → Maps.has D (.int .i64 k) = (f k).isSome ∧ ∀ v, f k = some v → ∀ z, D.atKey (.int .i64 k) z = .held v
theorem RangeIs.map {r cnt : Nat} {left : Lit → Bool} (h : RangeIs w b r n f left cnt) : MapIs w b n f := by
  obtain ⟨D, h, hf⟩ := h
  exact ⟨D, h.owns, hf⟩
theorem RangeIs.lt {r cnt : Nat} {left : Lit → Bool} (h : RangeIs w b r n f left cnt) : r < w.heap.size := by
  obtain ⟨D, h, _⟩ := h
  exact h.lt
theorem RangeIs.ne {r cnt : Nat} {left : Lit → Bool} (h : RangeIs w b r n f left cnt) : r ≠ b := by
  obtain ⟨D, h, _⟩ := h
  exact h.ne
theorem RangeIs.keep {r cnt : Nat} {left : Lit → Bool} (h : RangeIs w b r n f left cnt) (hb : w'.heap[b]? = w.heap[b]?) (hr : w'.heap[r]? = w.heap[r]?) : RangeIs w' b r n f left cnt := by
  obtain ⟨D, ⟨es, clock, since, seen, c0, h1, h2, h3, h4, h5, rest⟩, hf⟩ := h
  exact ⟨D, ⟨es, clock, since, seen, c0, hb.trans h1, h2, h3, h4, hr.trans h5, rest⟩, hf⟩
end
section
variable (w : World) {ops : Array Oper} {rest : List Oper} {o : Oper} {a : Act} {Q : Exit → Act → World → Prop}
end
end Go.Proofs.YtgjcbfdhpbkhoaaGreatDoor.Map
/- The two disks in memory: the document's and the program's; how they last while other blocks turn. -/
namespace Go.Proofs.YtgjcbfdhpbkhoaaGreatDoor.DMem
open Go.RowKit WMem Ext Map DPlain
def IsBlk (w : World) (S : Nat → Prop) (v : Value) (l : List UInt8) : Prop := ∃ g c rest, v = .slice (some ⟨g, 0, none⟩) 256 c ∧ S g ∧ l.length = 256 ∧ 256 ≤ c ∧ Row w g l rest
def LOf (w : World) (S : Nat → Prop) (xs : List Value) (L : List (List UInt8)) : Prop :=
  xs.length = L.length ∧ ∀ (i : Nat) (h : i < L.length), ∃ v, xs[i]? = some v ∧ IsBlk w S v L[i]
def POf (w : World) (S : Nat → Prop) (ys : List Value) (P : List (Nat × List UInt8)) : Prop :=
  ys.length = P.length * 2 ∧ ∀ (i : Nat) (h : i < P.length), ∃ v, ys[i * 2]? = some (.int .i64 (P[i].1 : Int)) ∧ ys[i * 2 + 1]? = some v ∧ IsBlk w S v P[i].2
def OwnS (w : World) (S : Nat → Prop) (e : TypeId) (size : Nat) (v : Value) (n : Nat) (xs : List Value) : Prop := w.ownsRow 0 e size v n xs ∧ ∀ g, v.ownBlock = some g → S g
def DoneOf (w : World) (S : Nat → Prop) (f : Int → Option Value) (L : List (List UInt8)) : Prop :=
  (∀ k v, f k = some v → ∃ (n : Nat) (h : n < L.length), k = (n : Int) ∧ IsBlk w S v L[n]) ∧ ∀ (n : Nat) (h : n < L.length), f n = none → L[n] = zeros
def LateOf (w : World) (S : Nat → Prop) (f : Int → Option Value) (P : List (Nat × List UInt8)) : Prop :=
  (∀ k v, f k = some v → ∃ (n : Nat) (l : List UInt8), k = (n : Int) ∧ lastOf P n = some l ∧ IsBlk w S v l) ∧ ∀ (n : Nat), f n = none → lastOf P n = none
structure RDx (w : World) (S : Nat → Prop) (b : Nat) (s : St) (Lv Pv : Value) (xs ys : List Value) : Prop where
  here : S b
  block : w.heap[b]? = some (.cells #[Lv, Pv, .int .i64 (s.N : Int)] 112 (0, 0))
  rowL : OwnS w S 22 1 Lv s.L.length xs
  rowP : OwnS w S 100 2 Pv s.P.length ys
  eachL : LOf w S xs s.L
  eachP : POf w S ys s.P
  wf : s.Wf
  pos : 128 ≤ s.L.length
  most : s.L.length ≤ 4096
  there : There S w
def RD (w : World) (S : Nat → Prop) (b : Nat) (s : St) : Prop := ∃ Lv Pv xs ys, RDx w S b s Lv Pv xs ys
structure DDx (w : World) (S : Nat → Prop) (b : Nat) (s : St) (m1 m2 n1 n2 : Nat) (f h : Int → Option Value) (Pv : Value) (ys : List Value) : Prop where
  here : S b
  block : w.heap[b]? = some (.cells #[.int .i64 (s.L.length : Int), .int .i64 (s.N : Int), .map (some m1), Pv, .map (some m2)] 94 (0, 0))
  in1 : S m1
  in2 : S m2
  apart : m1 ≠ m2
  done : MapIs w m1 n1 f
  late : MapIs w m2 n2 h
  rowP : OwnS w S 100 2 Pv s.P.length ys
  eachP : POf w S ys s.P
  doneOf : DoneOf w S f s.L
  lateOf : LateOf w S h s.P
  wf : s.Wf
  pos : 128 ≤ s.L.length
  most : s.L.length ≤ 4096
  there : There S w
def DD (w : World) (S : Nat → Prop) (b : Nat) (s : St) : Prop := ∃ m1 m2 n1 n2 f h Pv ys, DDx w S b s m1 m2 n1 n2 f h Pv ys ∧ n1 + s.P.length ≤ s.N ∧ n2 ≤ s.P.length
section
variable {w w' : World} {S S' : Nat → Prop} {b : Nat} {s : St} {L : List (List UInt8)} {P : List (Nat × List UInt8)} {Lv Pv v : Value} {xs ys : List Value} {l : List UInt8} {f h : Int → Option Value} {m1 m2 n1 n2 : Nat}
theorem own_same {base : Nat} {e : TypeId} {size n : Nat} {v : Value} {zs : List Value} (h : w.ownsRow base e size v n zs) (hk : ∀ g, v.ownBlock = some g → w'.heap[g]? = w.heap[g]?) : w'.ownsRow base e size v n zs := by
  refine ⟨h.1, ?_⟩
  rcases h.2 with hn | ⟨g, cap, cur, rfl, hb, hgg, rest⟩
  · exact .inl hn
  · exact .inr ⟨g, cap, cur, rfl, hb, by rw [hk g rfl]; exact hgg, rest⟩
theorem own_base {base base' : Nat} {e : TypeId} {size n : Nat} {v : Value} {zs : List Value} (h : w.ownsRow base e size v n zs) (hb : ∀ g, v.ownBlock = some g → base' ≤ g) : w.ownsRow base' e size v n zs := by
  refine ⟨h.1, ?_⟩
  rcases h.2 with hn | ⟨g, cap, cur, rfl, _, r⟩
  · exact .inl hn
  · exact .inr ⟨g, cap, cur, rfl, hb g rfl, r⟩
theorem own_ge {base : Nat} {e : TypeId} {size n : Nat} {v : Value} {zs : List Value} (h : w.ownsRow base e size v n zs) : ∀ g, v.ownBlock = some g → base ≤ g := by
  intro g hg
  rcases h.2 with ⟨rfl, _⟩ | ⟨g', cap, cur, rfl, hb, r⟩
  · cases hg
  · simp [Value.ownBlock] at hg
    omega
theorem own_lt {base : Nat} {e : TypeId} {size n : Nat} {v : Value} {zs : List Value} (h : w.ownsRow base e size v n zs) : ∀ g, v.ownBlock = some g → g < w.heap.size := by
  intro g hg
  rcases h.2 with ⟨rfl, _⟩ | ⟨g', cap, cur, rfl, hb, hgg, r⟩
  · cases hg
  · simp [Value.ownBlock] at hg
    subst hg
    exact row_lt hgg
theorem own_ne {base g : Nat} {e t : TypeId} {size n : Nat} {v : Value} {zs : List Value} {cs : Array Value} {fz : Nat × Nat} (h : w.ownsRow base e size v n zs) (hg : w.heap[g]? = some (.cells cs t fz)) (hne : e ≠ t) : v.ownBlock ≠ some g := by
  rcases h.2 with ⟨rfl, _⟩ | ⟨g', cap, cur, rfl, _, hh, _⟩
  · simp [Value.ownBlock]
  · intro he
    have : g' = g := by simpa [Value.ownBlock] using he
    subst this
    rw [hh] at hg
    injection hg with hg
    injection hg with _ ht
    exact hne ht
theorem OwnS.keep {e : TypeId} {size n : Nat} {zs : List Value} (h : OwnS w S e size v n zs) (hk : ∀ k, S k → w'.heap[k]? = w.heap[k]?) : OwnS w' S e size v n zs :=
  ⟨own_same h.1 fun g hg => hk g (h.2 g hg), h.2⟩
theorem OwnS.more {e : TypeId} {size n : Nat} {zs : List Value} (h : OwnS w S e size v n zs) (hs : ∀ k, S k → S' k) : OwnS w S' e size v n zs := ⟨h.1, fun g hg => hs g (h.2 g hg)⟩
theorem IsBlk.keep (h : IsBlk w S v l) (hk : ∀ k o, S k → w.heap[k]? = some (.cells o 5 (0, 0)) → w'.heap[k]? = w.heap[k]?) : IsBlk w' S v l := by
  obtain ⟨g, c, rest, h1, h2, h3, h4, h5⟩ := h
  exact ⟨g, c, rest, h1, h2, h3, h4, (hk g _ h2 h5).trans h5⟩
theorem IsBlk.more (h : IsBlk w S v l) (hs : ∀ k, S k → S' k) : IsBlk w S' v l := by
  obtain ⟨g, c, rest, h1, h2, h3⟩ := h
  exact ⟨g, c, rest, h1, hs g h2, h3⟩
theorem IsBlk.len (h : IsBlk w S v l) : l.length = 256 := by
  obtain ⟨g, c, rest, h1, h2, h3, h4, h5⟩ := h
  exact h3
theorem LOf.keep (h : LOf w S xs L) (hk : ∀ k o, S k → w.heap[k]? = some (.cells o 5 (0, 0)) → w'.heap[k]? = w.heap[k]?) : LOf w' S xs L :=
  ⟨h.1, fun i hi => by obtain ⟨v, h1, h2⟩ := h.2 i hi; exact ⟨v, h1, h2.keep hk⟩⟩
theorem POf.keep (h : POf w S ys P) (hk : ∀ k o, S k → w.heap[k]? = some (.cells o 5 (0, 0)) → w'.heap[k]? = w.heap[k]?) : POf w' S ys P :=
  ⟨h.1, fun i hi => by obtain ⟨v, h1, h2, h3⟩ := h.2 i hi; exact ⟨v, h1, h2, h3.keep hk⟩⟩
theorem LOf.more (h : LOf w S xs L) (hs : ∀ k, S k → S' k) : LOf w S' xs L :=
  ⟨h.1, fun i hi => by obtain ⟨v, h1, h2⟩ := h.2 i hi; exact ⟨v, h1, h2.more hs⟩⟩
theorem POf.more (h : POf w S ys P) (hs : ∀ k, S k → S' k) : POf w S' ys P :=
  ⟨h.1, fun i hi => by obtain ⟨v, h1, h2, h3⟩ := h.2 i hi; exact ⟨v, h1, h2, h3.more hs⟩⟩
theorem DoneOf.keep (h : DoneOf w S f L) (hk : ∀ k o, S k → w.heap[k]? = some (.cells o 5 (0, 0)) → w'.heap[k]? = w.heap[k]?) : DoneOf w' S f L :=
  ⟨fun k v hv => by obtain ⟨n, hn, h1, h2⟩ := h.1 k v hv; exact ⟨n, hn, h1, h2.keep hk⟩, h.2⟩
theorem DoneOf.more (h : DoneOf w S f L) (hs : ∀ k, S k → S' k) : DoneOf w S' f L :=
  ⟨fun k v hv => by obtain ⟨n, hn, h1, h2⟩ := h.1 k v hv; exact ⟨n, hn, h1, h2.more hs⟩, h.2⟩
theorem LateOf.keep (h : LateOf w S f P) (hk : ∀ k o, S k → w.heap[k]? = some (.cells o 5 (0, 0)) → w'.heap[k]? = w.heap[k]?) : LateOf w' S f P :=
  ⟨fun k v hv => by obtain ⟨n, l, h1, h2, h3⟩ := h.1 k v hv; exact ⟨n, l, h1, h2, h3.keep hk⟩, h.2⟩
theorem LateOf.more (h : LateOf w S f P) (hs : ∀ k, S k → S' k) : LateOf w S' f P :=
  ⟨fun k v hv => by obtain ⟨n, l, h1, h2, h3⟩ := h.1 k v hv; exact ⟨n, l, h1, h2, h3.more hs⟩, h.2⟩
theorem all_keep (hk : ∀ k, S k → w'.heap[k]? = w.heap[k]?) : ∀ k o, S k → w.heap[k]? = some (.cells o 5 (0, 0)) → w'.heap[k]? = w.heap[k]? := fun k _ hs _ => hk k hs
theorem RDx.keep (h : RDx w S b s Lv Pv xs ys) (hk : ∀ k, S k → w'.heap[k]? = w.heap[k]?) (hs : w.heap.size ≤ w'.heap.size) : RDx w' S b s Lv Pv xs ys :=
  ⟨h.here, (hk b h.here).trans h.block, h.rowL.keep hk, h.rowP.keep hk, h.eachL.keep (all_keep hk), h.eachP.keep (all_keep hk), h.wf, h.pos, h.most, h.there.up hs⟩
theorem DDx.keep (hd : DDx w S b s m1 m2 n1 n2 f h Pv ys) (hk : ∀ k, S k → w'.heap[k]? = w.heap[k]?) (hs : w.heap.size ≤ w'.heap.size) : DDx w' S b s m1 m2 n1 n2 f h Pv ys :=
  ⟨hd.here, (hk b hd.here).trans hd.block, hd.in1, hd.in2, hd.apart, hd.done.keep (hk _ hd.in1), hd.late.keep (hk _ hd.in2), hd.rowP.keep hk, hd.eachP.keep (all_keep hk), hd.doneOf.keep (all_keep hk), hd.lateOf.keep (all_keep hk), hd.wf, hd.pos, hd.most, hd.there.up hs⟩
theorem RD.keep (h : RD w S b s) (hk : ∀ k, S k → w'.heap[k]? = w.heap[k]?) (hs : w.heap.size ≤ w'.heap.size) : RD w' S b s := by
  obtain ⟨Lv, Pv, xs, ys, h⟩ := h
  exact ⟨Lv, Pv, xs, ys, h.keep hk hs⟩
theorem DD.keep (h : DD w S b s) (hk : ∀ k, S k → w'.heap[k]? = w.heap[k]?) (hs : w.heap.size ≤ w'.heap.size) : DD w' S b s := by
  obtain ⟨m1, m2, n1, n2, f, g, Pv, ys, h, h1⟩ := h
  exact ⟨m1, m2, n1, n2, f, g, Pv, ys, h.keep hk hs, h1⟩
theorem RD.there (h : RD w S b s) : There S w := by
  obtain ⟨Lv, Pv, xs, ys, h⟩ := h
  exact h.there
theorem DD.there (h : DD w S b s) : There S w := by
  obtain ⟨m1, m2, n1, n2, f, g, Pv, ys, h, h1⟩ := h
  exact h.there
theorem RD.here (h : RD w S b s) : S b := by
  obtain ⟨Lv, Pv, xs, ys, h⟩ := h
  exact h.here
theorem DD.here (h : DD w S b s) : S b := by
  obtain ⟨m1, m2, n1, n2, f, g, Pv, ys, h, h1⟩ := h
  exact h.here
theorem RD.wf (h : RD w S b s) : s.Wf := by
  obtain ⟨Lv, Pv, xs, ys, h⟩ := h
  exact h.wf
theorem DD.wf (h : DD w S b s) : s.Wf := by
  obtain ⟨m1, m2, n1, n2, f, g, Pv, ys, h, h1⟩ := h
  exact h.wf
theorem DD.len (h : DD w S b s) : 128 ≤ s.L.length ∧ s.L.length ≤ 4096 := by
  obtain ⟨m1, m2, n1, n2, f, g, Pv, ys, h, h1⟩ := h
  exact ⟨h.pos, h.most⟩
theorem RD.below (h : RD w S b s) (hb : Below w.heap.size w w') : RD w' S b s := h.keep (fun k hk => hb.block k (h.there k hk)) hb.size
theorem DD.below (h : DD w S b s) (hb : Below w.heap.size w w') : DD w' S b s := h.keep (fun k hk => hb.block k (h.there k hk)) hb.size
theorem RD.ext (h : RD w S b s) (he : Ext S' w w') (hf : Far S' S) : RD w' S b s := h.keep (he.keeps hf h.there) he.size
theorem DD.ext (h : DD w S b s) (he : Ext S' w w') (hf : Far S' S) : DD w' S b s := h.keep (he.keeps hf h.there) he.size
theorem RD.drewN (h : RD w S b s) (n : Nat) : RD (w.drewN n) S b s := h.keep (fun _ _ => rfl) (Nat.le_refl _)
theorem DD.drewN (h : DD w S b s) (n : Nat) : DD (w.drewN n) S b s := h.keep (fun _ _ => rfl) (Nat.le_refl _)
theorem RD.lt (h : RD w S b s) : b < w.heap.size := h.there b h.here
theorem DD.lt (h : DD w S b s) : b < w.heap.size := h.there b h.here
theorem RDx.cL (h : RDx w S b s Lv Pv xs ys) : w.cell? ⟨b, 0, none⟩ = some Lv := by rw [row_cell h.block]; rfl
theorem RDx.cP (h : RDx w S b s Lv Pv xs ys) : w.cell? ⟨b, 1, none⟩ = some Pv := by rw [row_cell h.block]; rfl
theorem RDx.cN (h : RDx w S b s Lv Pv xs ys) : w.cell? ⟨b, 2, none⟩ = some (.int .i64 s.N) := by rw [row_cell h.block]; rfl
theorem DDx.c0 (hd : DDx w S b s m1 m2 n1 n2 f h Pv ys) : w.cell? ⟨b, 0, none⟩ = some (.int .i64 s.L.length) := by rw [row_cell hd.block]; rfl
theorem DDx.c1 (hd : DDx w S b s m1 m2 n1 n2 f h Pv ys) : w.cell? ⟨b, 1, none⟩ = some (.int .i64 s.N) := by rw [row_cell hd.block]; rfl
theorem DDx.c2 (hd : DDx w S b s m1 m2 n1 n2 f h Pv ys) : w.cell? ⟨b, 2, none⟩ = some (.map (some m1)) := by rw [row_cell hd.block]; rfl
theorem DDx.c3 (hd : DDx w S b s m1 m2 n1 n2 f h Pv ys) : w.cell? ⟨b, 3, none⟩ = some Pv := by rw [row_cell hd.block]; rfl
theorem DDx.c4 (hd : DDx w S b s m1 m2 n1 n2 f h Pv ys) : w.cell? ⟨b, 4, none⟩ = some (.map (some m2)) := by rw [row_cell hd.block]; rfl
theorem DD.c0 (h : DD w S b s) : w.cell? ⟨b, 0, none⟩ = some (.int .i64 s.L.length) := by
  obtain ⟨m1, m2, n1, n2, f, g, Pv, ys, h, h1⟩ := h
  exact h.c0
theorem DD.c1 (h : DD w S b s) : w.cell? ⟨b, 1, none⟩ = some (.int .i64 s.N) := by
  obtain ⟨m1, m2, n1, n2, f, g, Pv, ys, h, h1⟩ := h
  exact h.c1
theorem own_cell1 {e : TypeId} {n : Nat} {zs : List Value} (h : OwnS w S e 1 v n zs) : ∃ A cap, v = .slice A n cap ∧ n ≤ cap ∧ ∀ (i : Nat) (u : Value), zs[i]? = some u → ∃ g, A = some ⟨g, 0, none⟩ ∧ S g ∧ w.cell? ⟨g, i, none⟩ = some u := by
  obtain ⟨⟨hl, h1 | ⟨g, cap, cur, rfl, hb, hgg, hnc, hm, hcs, ht⟩⟩, h2⟩ := h
  · obtain ⟨rfl, rfl⟩ := h1
    have : zs = [] := List.eq_nil_of_length_eq_zero (by simpa using hl)
    subst this
    exact ⟨none, 0, rfl, Nat.le_refl _, fun i u hu => by simp at hu⟩
  · refine ⟨_, cap, rfl, hnc, fun i u hu => ⟨g, rfl, h2 g rfl, ?_⟩⟩
    rw [row_cell hgg]
    rw [← ht, List.getElem?_take] at hu
    split at hu
    · simpa using hu
    · cases hu
theorem own_cell2 {e : TypeId} {n : Nat} {zs : List Value} (h : OwnS w S e 2 v n zs) : ∃ A cap, v = .slice A n cap ∧ n ≤ cap ∧ ∀ (i : Nat) (u : Value), zs[i]? = some u → ∃ g, A = some ⟨g, 0, none⟩ ∧ S g ∧ w.cell? ⟨g, i, none⟩ = some u := by
  obtain ⟨⟨hl, h1 | ⟨g, cap, cur, rfl, hb, hgg, hnc, hm, hcs, ht⟩⟩, h2⟩ := h
  · obtain ⟨rfl, rfl⟩ := h1
    have : zs = [] := List.eq_nil_of_length_eq_zero (by simpa using hl)
    subst this
    exact ⟨none, 0, rfl, Nat.le_refl _, fun i u hu => by simp at hu⟩
  · refine ⟨_, cap, rfl, hnc, fun i u hu => ⟨g, rfl, h2 g rfl, ?_⟩⟩
    rw [row_cell hgg]
    rw [← ht, List.getElem?_take] at hu
    split at hu
    · simpa using hu
    · cases hu
theorem P_at {ys : List Value} {P : List (Nat × List UInt8)} (h : OwnS w S 100 2 v P.length ys) (hp : POf w S ys P) : ∃ A cap, v = .slice A P.length cap ∧ P.length ≤ cap ∧
    ∀ (i : Nat) (hi : i < P.length), ∃ g u, A = some ⟨g, 0, none⟩ ∧ S g ∧ w.cell? ⟨g, i * 2, none⟩ = some (.int .i64 (P[i].1 : Int)) ∧ w.cell? ⟨g, i * 2 + 1, none⟩ = some u ∧ IsBlk w S u P[i].2 := by
  obtain ⟨A, cap, hv, hc, hall⟩ := own_cell2 h
  refine ⟨A, cap, hv, hc, fun i hi => ?_⟩
  obtain ⟨u, h1, h2, h3⟩ := hp.2 i hi
  obtain ⟨g, hA, hg, hc1⟩ := hall _ _ h1
  obtain ⟨g', hA', _, hc2⟩ := hall _ _ h2
  rw [hA] at hA'
  injection hA' with hA'
  injection hA' with hA'
  subst hA'
  exact ⟨g, u, hA, hg, hc1, hc2, h3⟩
end
end Go.Proofs.YtgjcbfdhpbkhoaaGreatDoor.DMem
