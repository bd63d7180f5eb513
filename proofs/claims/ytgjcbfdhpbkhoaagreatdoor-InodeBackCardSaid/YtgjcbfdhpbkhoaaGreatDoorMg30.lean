/- More laws on maps from numbers: what is taken out, a map that is cleared, how many entries there can be, a set of numbers. -/
import Derived.Test.YtgjcbfdhpbkhoaaGreatDoorMg29
import Derived.Test.YtgjcbfdhpbkhoaaGreatDoorMg1
import Derived.Lib.SlKeysI
import Derived.Test.YtgjcbfdhpbkhoaaGreatDoorMg2
import Derived.WalkKit
import Derived.Maps.Ext
import Derived.Maps.RangeWalk
namespace Go.Proofs.YtgjcbfdhpbkhoaaGreatDoor.Map
open Go.RowKit WMem Ext
open Go.Maps (Keyed)
theorem underH : Tryz.prog.underlying 106 = some (.map 3 232) := by kernel_rfl
theorem zeroH (w : World) : (zeroValue 232).run Tryz.prog w = .ok (.agg #[]) w := by kernel_rfl
def del (f : Int → Option Value) (k : Int) : Int → Option Value := fun j => if j = k then none else f j
section
variable {w w' : World} {b n : Nat} {f : Int → Option Value}
theorem del_is {D : DataW Value} {k : Int} (_hk : Fits k) (hf : ∀ k : Int, Fits k → Maps.has D (.int .i64 k) = (f k).isSome ∧ ∀ v, f k = some v → ∀ z, D.atKey (.int .i64 k) z = .held v) :
    ∀ j : Int, Fits j → Maps.has (D.del (.int .i64 k)) (.int .i64 j) = (del f k j).isSome ∧ ∀ u, del f k j = some u → ∀ z, (D.del (.int .i64 k)).atKey (.int .i64 j) z = .held u := by
  intro j hj
  unfold del
  by_cases e : j = k
  · subst e
    rw [if_pos rfl]
    exact ⟨by rw [Maps.has_del_same]; rfl, fun u hu => by cases hu⟩
  · rw [if_neg e]
    refine ⟨by rw [Maps.has_del_other (key_ne e)]; exact (hf j hj).1, fun u hu z => ?_⟩
    rw [Maps.atKey_del_other (key_ne e)]
    exact (hf j hj).2 u hu z
theorem MapIs.drop {T E : TypeId} (hT : Tryz.prog.underlying T = some (.map 3 E)) (h : MapIs w b n f) {k : Int} (hk : Fits k) (ty : TypeId) :
    ∃ w', (Builtin.delete_ #[T, 3] ty #[.map (some b), .int .i64 k]).run Tryz.prog w = .ok (.tuple #[]) w' ∧ MapIs w' b n (del f k) ∧ w.mapTurned w' b := by
  obtain ⟨D, ho, hf⟩ := h
  obtain ⟨w', hrun, h1, h2⟩ := ho.drop law hT (keyed hk) ty
  exact ⟨w', hrun, ⟨_, h1, del_is hk hf⟩, h2⟩
theorem MapIs.put {T E : TypeId} (hT : Tryz.prog.underlying T = some (.map 3 E)) (h : MapIs w b n f) {k : Int} (hk : Fits k) (hn : n < maxLen) (v : Value) :
    ∃ w', (Instr.mapUpdate T (.map (some b)) (.int .i64 k) v).run Tryz.prog w = .ok () w' ∧ MapIs w' b (n + 1) (upd f k v) ∧ w.mapTurned w' b := by
  obtain ⟨D, ho, hf⟩ := h
  obtain ⟨w', hrun, h1, h2⟩ := ho.store law hT hn (keyed hk) (val := v) (d := .held v) (ps := []) rfl
  exact ⟨w', hrun, ⟨_, h1, put_is ho.isMap hk hf⟩, h2⟩
set_option maxRecDepth 100000 in
theorem MapIs.look2 {T E : TypeId} {z : Value} (hT : Tryz.prog.underlying T = some (.map 3 E)) (hz : ∀ w, (zeroValue E).run Tryz.prog w = .ok z w) (h : MapIs w b n f) {k : Int} (hk : Fits k) :
    (Instr.lookup T (.map (some b)) (.int .i64 k) true).run Tryz.prog w = .ok (.tuple #[(f k).getD z, .bool (f k).isSome]) w := by
  obtain ⟨D, ho, hf⟩ := h
  obtain ⟨v, ps, hrun, hv⟩ := ho.look_ok law hT (hz w) (zd := .held z) (zp := []) rfl (keyed hk)
  rw [hrun, (hf k hk).1]
  simp only [Rv, Option.some.injEq, Prod.mk.injEq] at hv
  cases hfk : f k with
  | none =>
    have hh := (hf k hk).1
    rw [hfk] at hh
    rw [Maps.atKey_of_not_has hh] at hv
    obtain ⟨hv, _⟩ := hv
    injection hv with hv
    rw [hv]; rfl
  | some u =>
    rw [(hf k hk).2 u hfk] at hv
    obtain ⟨hv, _⟩ := hv
    injection hv with hv
    rw [hv]; rfl
theorem keys_of {D : DataW Value} (ho : w.ownsMap Tryz.prog 3 Rv b n D) : ∃ es, D = .map es ∧ ∀ p ∈ es, ∃ k : Int, Fits k ∧ p.1 = .int .i64 k := by
  obtain ⟨es, clock, _, F, _, rfl⟩ := ho
  refine ⟨_, rfl, fun p hp => ?_⟩
  obtain ⟨x, hx, rfl⟩ := List.mem_map.1 (mem_sorted.1 hp)
  obtain ⟨y, hy⟩ := F.reads x hx
  rw [Go.WideElems.rg_of hy]
  obtain ⟨k, _, hk, hw⟩ := Maps.keyOf_int_inv (q := .i64) (by kernel_rfl) (Go.WideElems.rd_key hy)
  have := bounds_i64 hw
  exact ⟨k, ⟨by omega, by omega⟩, hk⟩
theorem nodup_le : ∀ (m : Nat) (l : List Nat), l.Nodup → (∀ x ∈ l, x < m) → l.length ≤ m
  | 0, l, _, h => by
    cases l with
    | nil => exact Nat.le_refl _
    | cons a r => exact absurd (h a (by simp)) (by omega)
  | m + 1, l, hn, h => by
    have h1 := nodup_le m (l.filter fun x => !decide (x = m)) (hn.sublist List.filter_sublist) (fun x hx => by
      simp at hx
      have := h x hx.1
      omega)
    have h2 : l.length ≤ (l.filter fun x => !decide (x = m)).length + 1 := by
      clear h h1
      induction l with
      | nil => simp
      | cons a r ih =>
        obtain ⟨ha, hr⟩ := List.nodup_cons.1 hn
        rw [List.filter_cons]
        by_cases e : a = m
        · subst e
          have : (r.filter fun x => !decide (x = a)) = r := List.filter_eq_self.2 fun x hx => by simp; rintro rfl; exact ha hx
          simp [this]
        · simp [e]
          exact ih hr
    omega
theorem has_of_mem {es : List (Lit × DataW Value)} {p : Lit × DataW Value} (hp : p ∈ es) {a : Int} (ha : p.1 = .int .i64 a) : Maps.has (.map es) (.int .i64 a) = true := by
  rw [Maps.has_eq, List.any_eq_true]
  exact ⟨p, hp, by rw [ha]; simp [Lit.sameKey]⟩
theorem MapIs.cap (h : MapIs w b n f) {m : Nat} (hm : ∀ k v, f k = some v → 0 ≤ k ∧ k < (m : Int)) : MapIs w b m f := by
  obtain ⟨D, ho, hf⟩ := h
  refine ⟨D, ?_, hf⟩
  have hk := keys_of ho
  have hp := ho.tidy law
  obtain ⟨es, clock, hb, F, hs, hD⟩ := ho
  refine ⟨es, clock, hb, F, ?_, hD⟩
  obtain ⟨l, hl, hk⟩ := hk
  obtain ⟨l', hl', hpw⟩ := hp
  rw [hl] at hl'
  injection hl' with hl'
  subst hl'
  have hat : ∀ p ∈ l, ∃ a : Int, p.1 = .int .i64 a ∧ 0 ≤ a ∧ a < (m : Int) := fun p hp => by
    obtain ⟨a, fa, ha⟩ := hk p hp
    have h1 := (hf a fa).1
    rw [hl, has_of_mem hp ha] at h1
    obtain ⟨v, hv⟩ := Option.isSome_iff_exists.1 h1.symm
    exact ⟨a, ha, hm a v hv⟩
  have hlen : es.size = l.length := by
    rw [hl] at hD
    injection hD with hD
    rw [hD, length_sorted]
    simp
  rw [hlen]
  have h1 := nodup_le m (l.map fun p => (Go.intOf p.1).toNat) ?_ ?_
  · simpa using h1
  · refine List.pairwise_map.2 (hpw.imp_of_mem fun {p q} hp' hq' hne e => hne ?_)
    obtain ⟨a, ha, a1, a2⟩ := hat p hp'
    obtain ⟨c, hc, c1, c2⟩ := hat q hq'
    rw [ha, hc] at e ⊢
    simp only [Go.intOf] at e
    have : a = c := by omega
    rw [this]
  · intro x hx
    obtain ⟨p, hp', rfl⟩ := List.mem_map.1 hx
    obtain ⟨a, ha, a1, a2⟩ := hat p hp'
    rw [ha]
    simp only [Go.intOf]
    omega
def nums (f : Int → Option Value) (m : Nat) : List Int := ((List.range m).filter fun j : Nat => (f (j : Int)).isSome).map fun j : Nat => (j : Int)
end
end Go.Proofs.YtgjcbfdhpbkhoaaGreatDoor.Map
/- The program's store in memory: which block plays which part; how the parts last while other blocks turn. -/
namespace Go.Proofs.YtgjcbfdhpbkhoaaGreatDoor.EMem
open Go.RowKit WMem Ext Map DPlain DMem EPlain
inductive Role where
  | no
  | store
  | chg
  | wai
  | hld
  | row
  | mp (i : Nat)
  | us (i : Nat)
  | undo
  | still
abbrev Ro := Nat → Role
def At (ρ : Ro) (r : Role) : Nat → Prop := fun k => ρ k = r
def isC : Role → Prop
  | .row => True
  | .mp _ => True
  | .us _ => True
  | _ => False
def Mine (ρ : Ro) : Nat → Prop := fun k => ρ k ≠ .no
def isMapR : Role → Prop
  | .chg => True
  | .wai => True
  | .hld => True
  | .mp _ => True
  | _ => False
def Same (ρ ρ' : Ro) (w : World) : Prop := (∀ k, k < w.heap.size → ρ' k = ρ k) ∧ ∀ k, isMapR (ρ' k) → isMapR (ρ k)
theorem Same.refl (ρ : Ro) (w : World) : Same ρ ρ w := ⟨fun _ _ => rfl, fun _ h => h⟩
def Box (w : World) (ρ : Ro) (B : Nat) (v : Value) : Prop := ρ B = .still ∧ w.cell? ⟨B, 0, none⟩ = some v
def Blk (w : World) (ρ : Ro) (v : Value) (l : Bk) : Prop := IsBlk w (At ρ .still) v l
def MapB (w : World) (ρ : Ro) (r : Role) (b N : Nat) (f : Nat → Option Bk) : Prop :=
  ρ b = r ∧ ∃ g, MapIs w b N g ∧ (∀ k v, g k = some v → ∃ (n : Nat) (l : Bk), k = (n : Int) ∧ n < N ∧ f n = some l ∧ Blk w ρ v l) ∧ ∀ n : Nat, g (n : Int) = none → f n = none
def MapH (w : World) (ρ : Ro) (b N : Nat) (h : Nat → Bool) : Prop :=
  ρ b = .hld ∧ ∃ g, MapIs w b N g ∧ (∀ k v, g k = some v → v = .agg #[] ∧ ∃ n : Nat, k = (n : Int) ∧ n < N ∧ h n = true) ∧ ∀ n : Nat, g (n : Int) = none → h n = false
def ActIs (w : World) (ρ : Ro) (b : Nat) (v : Value) : Deed → Prop
  | .unset n => ∃ Bs Bn, v = .func (.func 124) #[] #[.pointer (some ⟨Bs, 0, none⟩), .pointer (some ⟨Bn, 0, none⟩)] ∧ Box w ρ Bs (.pointer (some ⟨b, 0, none⟩)) ∧ Box w ρ Bn (.int .i64 (n : Int))
  | .set n l => ∃ Bw Bs Bn u, v = .func (.func 125) #[] #[.pointer (some ⟨Bw, 0, none⟩), .pointer (some ⟨Bs, 0, none⟩), .pointer (some ⟨Bn, 0, none⟩)] ∧ Box w ρ Bw u ∧ Blk w ρ u l ∧ Box w ρ Bs (.pointer (some ⟨b, 0, none⟩)) ∧ Box w ρ Bn (.int .i64 (n : Int))
  | .nop => v = .func (.func 900001) #[] #[]
  | .free n => ∃ Bs Bn, v = .func (.func 900002) #[] #[.pointer (some ⟨Bs, 0, none⟩), .pointer (some ⟨Bn, 0, none⟩)] ∧ Box w ρ Bs (.pointer (some ⟨b, 0, none⟩)) ∧ Box w ρ Bn (.int .i64 (n : Int))
def ActsAre (w : World) (ρ : Ro) (b : Nat) (us : List Value) (l : List Deed) : Prop := us.length = l.length ∧ ∀ (k : Nat) (h : k < l.length), ∃ v, us[k]? = some v ∧ ActIs w ρ b v l[k]
def hasC (rd : Nat → Bk) (l : List Nat) : Nat → Option Bk := fun n => if n ∈ l then some (rd n) else none
structure Cacx (w : World) (ρ : Ro) (g N : Nat) (rd : Nat → Bk) (cch : List (List Nat)) (xs : List Value) (mm : Nat → Nat) (uv : Nat → Value) : Prop where
  row : w.heap[g]? = some (.cells xs.toArray 155 (0, 0))
  rowR : ρ g = .row
  len : xs.length = cch.length * 2
  cell0 : ∀ i, i < cch.length → xs[i * 2]? = some (.map (some (mm i)))
  cell1 : ∀ i, i < cch.length → xs[i * 2 + 1]? = some (uv i)
  map : ∀ i, i < cch.length → MapB w ρ (.mp i) (mm i) N (hasC rd (cch.getD i []))
  used : ∀ i, i < cch.length → OwnS w (At ρ (.us i)) 3 1 (uv i) (cch.getD i []).length ((cch.getD i []).map natv)
def Cac (w : World) (ρ : Ro) (g N : Nat) (rd : Nat → Bk) (cch : List (List Nat)) : Prop := ∃ xs mm uv, Cacx w ρ g N rd cch xs mm uv
structure SSx (w : World) (ρ : Ro) (b db : Nat) (s : Sto) (m1 m2 m3 g : Nat) (Uv : Value) (us : List Value) : Prop where
  block : w.heap[b]? = some (.cells #[.pointer (some ⟨db, 0, none⟩), .map (some m1), .map (some m2), .slice (some ⟨g, 0, none⟩) s.cch.length s.cch.length, .int .i64 (s.room : Int), .map (some m3), Uv, .int .i64 (s.found : Int), .int .i64 (s.asked : Int)] 109 (0, 0))
  rb : ρ b = .store
  chg : MapB w ρ .chg m1 s.N s.now.chg
  wai : MapB w ρ .wai m2 s.N s.wai
  hld : MapH w ρ m3 s.N s.now.hld
  cac : Cac w ρ g s.N s.mem s.cch
  undo : OwnS w (At ρ .undo) 1 1 Uv s.acts.length us
  acts : ActsAre w ρ b us s.acts
  there : There (Mine ρ) w
def SS (w : World) (ρ : Ro) (b db : Nat) (s : Sto) : Prop := ∃ m1 m2 m3 g Uv us, SSx w ρ b db s m1 m2 m3 g Uv us ∧ s.Wf
theorem fits_n {n : Nat} (h : n ≤ 4096) : Fits (n : Int) := ⟨by omega, by omega⟩
section
variable {w w' : World} {ρ ρ' : Ro} {b db N g B m1 m2 m3 : Nat} {s : Sto} {v Uv : Value} {l : Bk} {r : Role} {f : Nat → Option Bk} {h : Nat → Bool} {us xs : List Value} {acts : List Deed} {rd : Nat → Bk} {cch : List (List Nat)} {mm : Nat → Nat} {uv : Nat → Value} {a : Deed}
theorem Box.keep (hx : Box w ρ B v) (hk : ∀ k, ρ k = .still → w'.heap[k]? = w.heap[k]?) (hr : ∀ k, ρ k = .still → ρ' k = .still) : Box w' ρ' B v :=
  ⟨hr _ hx.1, (World.cell?_of_block (hk _ hx.1)).trans hx.2⟩
theorem Blk.keep (hx : Blk w ρ v l) (hk : ∀ k, ρ k = .still → w'.heap[k]? = w.heap[k]?) (hr : ∀ k, ρ k = .still → ρ' k = .still) : Blk w' ρ' v l :=
  (IsBlk.keep hx fun k _ hs _ => hk k hs).more hr
theorem Blk.len (hx : Blk w ρ v l) : l.length = 256 := IsBlk.len hx
theorem MapB.keep (hx : MapB w ρ r b N f) (hk : ∀ k, ρ k = .still → w'.heap[k]? = w.heap[k]?) (hr : ∀ k, ρ k = .still → ρ' k = .still) (hb : w'.heap[b]? = w.heap[b]?) (hb' : ρ' b = ρ b) : MapB w' ρ' r b N f := by
  obtain ⟨h1, gg, h2, h3, h4⟩ := hx
  refine ⟨hb'.trans h1, gg, h2.keep hb, fun k v hv => ?_, h4⟩
  obtain ⟨n, l, e1, e2, e3, e4⟩ := h3 k v hv
  exact ⟨n, l, e1, e2, e3, e4.keep hk hr⟩
theorem MapH.keep (hx : MapH w ρ b N h) (hb : w'.heap[b]? = w.heap[b]?) (hb' : ρ' b = ρ b) : MapH w' ρ' b N h := by
  obtain ⟨h1, gg, h2, h3, h4⟩ := hx
  exact ⟨hb'.trans h1, gg, h2.keep hb, h3, h4⟩
theorem MapB.lt (hx : MapB w ρ r b N f) : b < w.heap.size := by
  obtain ⟨_, gg, h2, _⟩ := hx
  exact h2.lt
theorem ActIs.keep (hx : ActIs w ρ b v a) (hk : ∀ k, ρ k = .still → w'.heap[k]? = w.heap[k]?) (hr : ∀ k, ρ k = .still → ρ' k = .still) : ActIs w' ρ' b v a := by
  cases a with
  | unset n =>
    obtain ⟨Bs, Bn, h1, h2, h3⟩ := hx
    exact ⟨Bs, Bn, h1, h2.keep hk hr, h3.keep hk hr⟩
  | set n l =>
    obtain ⟨Bw, Bs, Bn, u, h1, h2, h3, h4, h5⟩ := hx
    exact ⟨Bw, Bs, Bn, u, h1, h2.keep hk hr, h3.keep hk hr, h4.keep hk hr, h5.keep hk hr⟩
  | nop => exact hx
  | free n =>
    obtain ⟨Bs, Bn, h1, h2, h3⟩ := hx
    exact ⟨Bs, Bn, h1, h2.keep hk hr, h3.keep hk hr⟩
theorem ActsAre.keep (hx : ActsAre w ρ b us acts) (hk : ∀ k, ρ k = .still → w'.heap[k]? = w.heap[k]?) (hr : ∀ k, ρ k = .still → ρ' k = .still) : ActsAre w' ρ' b us acts :=
  ⟨hx.1, fun k hlt => by obtain ⟨v, h1, h2⟩ := hx.2 k hlt; exact ⟨v, h1, h2.keep hk hr⟩⟩
theorem ActsAre.take (hx : ActsAre w ρ b us acts) (m : Nat) : ActsAre w ρ b (us.take m) (acts.take m) := by
  refine ⟨by simp [hx.1], fun k hk => ?_⟩
  simp at hk
  obtain ⟨v, h1, h2⟩ := hx.2 k (by omega)
  exact ⟨v, by rw [List.getElem?_take, if_pos (by omega)]; exact h1, by rw [List.getElem_take]; exact h2⟩
theorem ActsAre.snoc (hx : ActsAre w ρ b us acts) (ha : ActIs w ρ b v a) : ActsAre w ρ b (us ++ [v]) (acts ++ [a]) := by
  refine ⟨by simp [hx.1], fun k hk => ?_⟩
  by_cases e : k < acts.length
  · obtain ⟨u, h1, h2⟩ := hx.2 k e
    exact ⟨u, by rw [List.getElem?_append_left (by rw [hx.1]; exact e)]; exact h1, by rw [List.getElem_append_left e]; exact h2⟩
  · have hk' : k = acts.length := by simp at hk; omega
    subst hk'
    exact ⟨v, by rw [List.getElem?_append_right (by rw [hx.1]; exact Nat.le_refl _), hx.1]; simp, by simpa using ha⟩
theorem OwnS.part {e : TypeId} {size n : Nat} {zs : List Value} (hx : OwnS w (At ρ r) e size v n zs) (hk : ∀ k, ρ k = r → w'.heap[k]? = w.heap[k]?) (hr : ∀ k, ρ k = r → ρ' k = r) : OwnS w' (At ρ' r) e size v n zs :=
  (OwnS.keep hx hk).more hr
theorem Cacx.keep (hx : Cacx w ρ g N rd cch xs mm uv) (hk : ∀ k, ρ k = .still ∨ isC (ρ k) → w'.heap[k]? = w.heap[k]?) (hr : ∀ k, ρ k = .still ∨ isC (ρ k) → ρ' k = ρ k) : Cacx w' ρ' g N rd cch xs mm uv := by
  have k1 : ∀ k, ρ k = .still → w'.heap[k]? = w.heap[k]? := fun k h => hk k (.inl h)
  have r1 : ∀ k, ρ k = .still → ρ' k = .still := fun k h => (hr k (.inl h)).trans h
  have kc : ∀ k, isC (ρ k) → w'.heap[k]? = w.heap[k]? := fun k h => hk k (.inr h)
  have rc : ∀ k, isC (ρ k) → ρ' k = ρ k := fun k h => hr k (.inr h)
  have cg : isC (ρ g) := by rw [hx.rowR]; trivial
  refine ⟨(kc g cg).trans hx.row, (rc g cg).trans hx.rowR, hx.len, hx.cell0, hx.cell1, fun i hi => ?_, fun i hi => ?_⟩
  · have h1 := hx.map i hi
    have cm : isC (ρ (mm i)) := by rw [h1.1]; trivial
    exact h1.keep k1 r1 (kc _ cm) (rc _ cm)
  · refine OwnS.part (hx.used i hi) (fun k h => kc k (by rw [h]; trivial)) (fun k h => (rc k (by rw [h]; trivial)).trans h)
theorem Cac.keep (hx : Cac w ρ g N rd cch) (hk : ∀ k, ρ k = .still ∨ isC (ρ k) → w'.heap[k]? = w.heap[k]?) (hr : ∀ k, ρ k = .still ∨ isC (ρ k) → ρ' k = ρ k) : Cac w' ρ' g N rd cch := by
  obtain ⟨xs, mm, uv, h⟩ := hx
  exact ⟨xs, mm, uv, h.keep hk hr⟩
theorem mine_still (k : Nat) (h : ρ k = .still) : Mine ρ k := by unfold Mine; rw [h]; exact fun e => by cases e
theorem mine_of {r : Role} {k : Nat} (h : ρ k = r) (hr : r ≠ .no) : Mine ρ k := by unfold Mine; rw [h]; exact hr
theorem mine_c {k : Nat} (h : isC (ρ k)) : Mine ρ k := by
  intro e
  rw [e] at h
  exact h
theorem SSx.keep (hx : SSx w ρ b db s m1 m2 m3 g Uv us) (hk : ∀ k, Mine ρ k → w'.heap[k]? = w.heap[k]?) (hr : ∀ k, Mine ρ k → ρ' k = ρ k) (ht : There (Mine ρ') w') : SSx w' ρ' b db s m1 m2 m3 g Uv us := by
  have k1 : ∀ k, ρ k = .still → w'.heap[k]? = w.heap[k]? := fun k h => hk k (mine_still k h)
  have r1 : ∀ k, ρ k = .still → ρ' k = .still := fun k h => (hr k (mine_still k h)).trans h
  have mb := mine_of hx.rb (by intro e; cases e)
  have mc := mine_of hx.chg.1 (by intro e; cases e)
  have mw := mine_of hx.wai.1 (by intro e; cases e)
  have mh := mine_of hx.hld.1 (by intro e; cases e)
  refine ⟨(hk b mb).trans hx.block, (hr b mb).trans hx.rb, hx.chg.keep k1 r1 (hk _ mc) (hr _ mc), hx.wai.keep k1 r1 (hk _ mw) (hr _ mw), hx.hld.keep (hk _ mh) (hr _ mh), hx.cac.keep (fun k h => hk k ?_) (fun k h => hr k ?_),
    OwnS.part hx.undo (fun k h => hk k (mine_of h (by intro e; cases e))) (fun k h => (hr k (mine_of h (by intro e; cases e))).trans h), hx.acts.keep k1 r1, ht⟩
  · rcases h with h | h
    · exact mine_still k h
    · exact mine_c h
  · rcases h with h | h
    · exact mine_still k h
    · exact mine_c h
theorem SS.keep (hx : SS w ρ b db s) (hk : ∀ k, Mine ρ k → w'.heap[k]? = w.heap[k]?) (hs : w.heap.size ≤ w'.heap.size) : SS w' ρ b db s := by
  obtain ⟨m1, m2, m3, g, Uv, us, h, hw⟩ := hx
  exact ⟨m1, m2, m3, g, Uv, us, h.keep hk (fun _ _ => rfl) (h.there.up hs), hw⟩
theorem SS.there (hx : SS w ρ b db s) : There (Mine ρ) w := by
  obtain ⟨m1, m2, m3, g, Uv, us, h, hw⟩ := hx
  exact h.there
theorem SS.wf (hx : SS w ρ b db s) : s.Wf := by
  obtain ⟨m1, m2, m3, g, Uv, us, h, hw⟩ := hx
  exact hw
theorem SS.below (hx : SS w ρ b db s) (hb : Below w.heap.size w w') : SS w' ρ b db s := hx.keep (fun k hk => hb.block k (hx.there k hk)) hb.size
theorem SS.drewN (hx : SS w ρ b db s) (n : Nat) : SS (w.drewN n) ρ b db s := hx.keep (fun _ _ => rfl) (Nat.le_refl _)
theorem SS.ext {S : Nat → Prop} (hx : SS w ρ b db s) (he : Ext S w w') (hf : Far S (Mine ρ)) : SS w' ρ b db s := hx.keep (he.keeps hf hx.there) he.size
theorem SSx.c0 (hx : SSx w ρ b db s m1 m2 m3 g Uv us) : w.cell? ⟨b, 0, none⟩ = some (.pointer (some ⟨db, 0, none⟩)) := by rw [row_cell hx.block]; rfl
theorem SSx.c1 (hx : SSx w ρ b db s m1 m2 m3 g Uv us) : w.cell? ⟨b, 1, none⟩ = some (.map (some m1)) := by rw [row_cell hx.block]; rfl
theorem SSx.c2 (hx : SSx w ρ b db s m1 m2 m3 g Uv us) : w.cell? ⟨b, 2, none⟩ = some (.map (some m2)) := by rw [row_cell hx.block]; rfl
theorem SSx.c3 (hx : SSx w ρ b db s m1 m2 m3 g Uv us) : w.cell? ⟨b, 3, none⟩ = some (.slice (some ⟨g, 0, none⟩) s.cch.length s.cch.length) := by rw [row_cell hx.block]; rfl
theorem SSx.c4 (hx : SSx w ρ b db s m1 m2 m3 g Uv us) : w.cell? ⟨b, 4, none⟩ = some (.int .i64 (s.room : Int)) := by rw [row_cell hx.block]; rfl
theorem SSx.c5 (hx : SSx w ρ b db s m1 m2 m3 g Uv us) : w.cell? ⟨b, 5, none⟩ = some (.map (some m3)) := by rw [row_cell hx.block]; rfl
theorem SSx.c6 (hx : SSx w ρ b db s m1 m2 m3 g Uv us) : w.cell? ⟨b, 6, none⟩ = some Uv := by rw [row_cell hx.block]; rfl
theorem SSx.c7 (hx : SSx w ρ b db s m1 m2 m3 g Uv us) : w.cell? ⟨b, 7, none⟩ = some (.int .i64 (s.found : Int)) := by rw [row_cell hx.block]; rfl
theorem SSx.c8 (hx : SSx w ρ b db s m1 m2 m3 g Uv us) : w.cell? ⟨b, 8, none⟩ = some (.int .i64 (s.asked : Int)) := by rw [row_cell hx.block]; rfl
theorem SSx.free (hx : SSx w ρ b db s m1 m2 m3 g Uv us) (i : Nat) : w.frozen? ⟨b, i, none⟩ = false := row_free hx.block i
theorem MapB.look (hx : MapB w ρ r b N f) {n : Nat} (hn : n ≤ 4096) : ∃ v, (∀ W : World, W.heap[b]? = w.heap[b]? → (Instr.lookup 91 (.map (some b)) (.int .i64 n) true).run Tryz.prog W = .ok (.tuple #[v, .bool (f n).isSome]) W ∧
    (Instr.lookup 91 (.map (some b)) (.int .i64 n) false).run Tryz.prog W = .ok v W) ∧ (∀ l, f n = some l → Blk w ρ v l) ∧ (f n = none → v = .slice none 0 0) := by
  obtain ⟨_, gg, h2, h3, h4⟩ := hx
  refine ⟨(gg n).getD (.slice none 0 0), fun W hW => ?_, fun l hl => ?_, fun hl => ?_⟩
  · have h2' : MapIs W b N gg := h2.keep hW
    have e := h2'.look_ok (fits_n hn)
    have e' := h2'.look (fits_n hn)
    have hs : (gg n).isSome = (f n).isSome := by
      cases hg : gg n with
      | none => rw [h4 n hg]; rfl
      | some v =>
        obtain ⟨j, l, e1, e2, e3, e4⟩ := h3 n v hg
        have : n = j := by omega
        subst this
        rw [e3]; rfl
    rw [hs] at e
    exact ⟨e, e'⟩
  · cases hg : gg n with
    | none => rw [h4 n hg] at hl; cases hl
    | some v =>
      obtain ⟨j, l', e1, e2, e3, e4⟩ := h3 n v hg
      have : n = j := by omega
      subst this
      rw [hl] at e3
      injection e3 with e3
      subst e3
      exact e4
  · cases hg : gg n with
    | none => rfl
    | some v =>
      obtain ⟨j, l', e1, e2, e3, e4⟩ := h3 n v hg
      have : n = j := by omega
      subst this
      rw [hl] at e3
      cases e3
theorem MapB.put (hx : MapB w ρ r b N f) {n : Nat} (hn : n < N) (hN : N ≤ 4096) (hv : Blk w ρ v l) (hr : r ≠ .still) : ∃ w', (Instr.mapUpdate 91 (.map (some b)) (.int .i64 n) v).run Tryz.prog w = .ok () w' ∧
    MapB w' ρ r b N (fun j => if j = n then some l else f j) ∧ w.mapTurned w' b := by
  obtain ⟨h1, gg, h2, h3, h4⟩ := hx
  obtain ⟨w', hrun, hm, ht⟩ := h2.store (fits_n (show n ≤ 4096 by omega)) (by unfold maxLen; omega) v
  have hk : ∀ k, ρ k = .still → w'.heap[k]? = w.heap[k]? := fun k hs => by
    by_cases hlt : k < w.heap.size
    · exact ht.grown.block k hlt (fun e => by injection e with e; subst e; rw [h1] at hs; exact hr hs)
    · obtain ⟨es, clock, es', clock', _, rfl⟩ := ht
      rw [Array.getElem?_eq_none (by simp [ChangeMaps.setBlock]; omega), Array.getElem?_eq_none (by omega)]
  refine ⟨w', hrun, ⟨h1, upd gg n v, hm.cap (m := N) (fun k u hu => ?_), fun k u hu => ?_, fun j hj => ?_⟩, ht⟩
  · unfold upd at hu
    split at hu
    · omega
    · obtain ⟨j, l', e1, e2, _⟩ := h3 k u hu
      omega
  · unfold upd at hu
    split at hu
    · rename_i e
      injection hu with hu
      subst hu
      exact ⟨n, l, e, hn, if_pos rfl, hv.keep hk (fun _ h => h)⟩
    · rename_i e
      obtain ⟨j, l', e1, e2, e3, e4⟩ := h3 k u hu
      exact ⟨j, l', e1, e2, (if_neg (by omega)).trans e3, e4.keep hk (fun _ h => h)⟩
  · unfold upd at hj
    split at hj
    · cases hj
    · rename_i e
      exact (if_neg (by omega)).trans (h4 j hj)
theorem MapB.drop (hx : MapB w ρ r b N f) {n : Nat} (hn : n ≤ 4096) (hr : r ≠ .still) (ty : TypeId) : ∃ w', (Builtin.delete_ #[91, 3] ty #[.map (some b), .int .i64 n]).run Tryz.prog w = .ok (.tuple #[]) w' ∧
    MapB w' ρ r b N (fun j => if j = n then none else f j) ∧ w.mapTurned w' b := by
  obtain ⟨h1, gg, h2, h3, h4⟩ := hx
  obtain ⟨w', hrun, hm, ht⟩ := h2.drop under (fits_n hn) ty
  have hk : ∀ k, ρ k = .still → w'.heap[k]? = w.heap[k]? := fun k hs => by
    by_cases hlt : k < w.heap.size
    · exact ht.grown.block k hlt (fun e => by injection e with e; subst e; rw [h1] at hs; exact hr hs)
    · obtain ⟨es, clock, es', clock', _, rfl⟩ := ht
      rw [Array.getElem?_eq_none (by simp [ChangeMaps.setBlock]; omega), Array.getElem?_eq_none (by omega)]
  refine ⟨w', hrun, ⟨h1, del gg n, hm, fun k u hu => ?_, fun j hj => ?_⟩, ht⟩
  · unfold del at hu
    split at hu
    · cases hu
    · rename_i e
      obtain ⟨j, l', e1, e2, e3, e4⟩ := h3 k u hu
      exact ⟨j, l', e1, e2, (if_neg (by omega)).trans e3, e4.keep hk (fun _ h => h)⟩
  · unfold del at hj
    split at hj
    · rename_i e
      exact if_pos (by omega)
    · rename_i e
      exact (if_neg (by omega)).trans (h4 j hj)
theorem MapH.look (hx : MapH w ρ b N h) {n : Int} (hn : Fits n) : ∀ W : World, W.heap[b]? = w.heap[b]? → (Instr.lookup 106 (.map (some b)) (.int .i64 n) true).run Tryz.prog W = .ok (.tuple #[.agg #[], .bool (decide (0 ≤ n) && h n.toNat)]) W := by
  obtain ⟨_, gg, h2, h3, h4⟩ := hx
  intro W hW
  have h2' : MapIs W b N gg := h2.keep hW
  have e := h2'.look2 underH zeroH hn
  have ev : (gg n).getD (.agg #[]) = .agg #[] := by
    cases hg : gg n with
    | none => rfl
    | some v => exact (h3 n v hg).1
  rw [ev] at e
  have hs : (gg n).isSome = (decide (0 ≤ n) && h n.toNat) := by
    cases hg : gg n with
    | none =>
      by_cases h0 : 0 ≤ n
      · have := h4 n.toNat (by rw [Int.toNat_of_nonneg h0]; exact hg)
        rw [this]; simp
      · simp [h0]
    | some v =>
      obtain ⟨_, j, e1, e2, e3⟩ := h3 n v hg
      subst e1
      simp [e3]
  rw [hs] at e
  exact e
theorem MapH.put (hx : MapH w ρ b N h) {n : Nat} (hn : n < N) (hN : N ≤ 4096) : ∃ w', (Instr.mapUpdate 106 (.map (some b)) (.int .i64 n) (.agg #[])).run Tryz.prog w = .ok () w' ∧
    MapH w' ρ b N (fun j => if j = n then true else h j) ∧ w.mapTurned w' b := by
  obtain ⟨h1, gg, h2, h3, h4⟩ := hx
  obtain ⟨w', hrun, hm, ht⟩ := h2.put underH (fits_n (show n ≤ 4096 by omega)) (by unfold maxLen; omega) (.agg #[])
  refine ⟨w', hrun, ⟨h1, upd gg n (.agg #[]), hm.cap (m := N) (fun k u hu => ?_), fun k u hu => ?_, fun j hj => ?_⟩, ht⟩
  · unfold upd at hu
    split at hu
    · omega
    · obtain ⟨_, j, e1, e2, _⟩ := h3 k u hu
      omega
  · unfold upd at hu
    split at hu
    · rename_i e
      injection hu with hu
      exact ⟨hu.symm, n, e, hn, if_pos rfl⟩
    · rename_i e
      obtain ⟨e0, j, e1, e2, e3⟩ := h3 k u hu
      exact ⟨e0, j, e1, e2, (if_neg (by omega)).trans e3⟩
  · unfold upd at hj
    split at hj
    · cases hj
    · rename_i e
      exact (if_neg (by omega)).trans (h4 j hj)
theorem MapH.drop (hx : MapH w ρ b N h) {n : Nat} (hn : n ≤ 4096) (ty : TypeId) : ∃ w', (Builtin.delete_ #[106, 3] ty #[.map (some b), .int .i64 n]).run Tryz.prog w = .ok (.tuple #[]) w' ∧
    MapH w' ρ b N (fun j => if j = n then false else h j) ∧ w.mapTurned w' b := by
  obtain ⟨h1, gg, h2, h3, h4⟩ := hx
  obtain ⟨w', hrun, hm, ht⟩ := h2.drop underH (fits_n hn) ty
  refine ⟨w', hrun, ⟨h1, del gg n, hm, fun k u hu => ?_, fun j hj => ?_⟩, ht⟩
  · unfold del at hu
    split at hu
    · cases hu
    · rename_i e
      obtain ⟨e0, j, e1, e2, e3⟩ := h3 k u hu
      exact ⟨e0, j, e1, e2, (if_neg (by omega)).trans e3⟩
  · unfold del at hj
    split at hj
    · rename_i e
      exact if_pos (by omega)
    · rename_i e
      exact (if_neg (by omega)).trans (h4 j hj)
theorem turned_size {W W' : World} {k : Nat} (ht : W.mapTurned W' k) : W'.heap.size = W.heap.size := by
  obtain ⟨es, clock, es', clock', _, rfl⟩ := ht
  simp [ChangeMaps.setBlock]
theorem turned_far {W W' : World} {k j : Nat} (ht : W.mapTurned W' k) (hj : j ≠ k) : W'.heap[j]? = W.heap[j]? := by
  by_cases hlt : j < W.heap.size
  · exact ht.grown.block j hlt (fun e => hj (by injection e))
  · rw [Array.getElem?_eq_none (by rw [turned_size ht]; omega), Array.getElem?_eq_none (by omega)]
end
end Go.Proofs.YtgjcbfdhpbkhoaaGreatDoor.EMem
/- maps.Copy: all entries of one map laid into another one. -/
namespace Go.Proofs.YtgjcbfdhpbkhoaaGreatDoor.ECopy
open Go.RowKit WMem Map Ext
end Go.Proofs.YtgjcbfdhpbkhoaaGreatDoor.ECopy
