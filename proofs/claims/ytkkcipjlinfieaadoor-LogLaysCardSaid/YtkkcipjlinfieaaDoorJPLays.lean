/- Proved: called with any number, writes and numbers, the statement LogLays answers true, and its arguments read behind the call as before. Conditions: the row's own (each slice takes at most 2^47 - 4096 bytes; the package variable fourSteps starts as the program's text lays it, which the card ties). -/
import Derived.Carry
import Derived.ChangeSame
import Derived.OpenShut
import Derived.ProofKit
import Derived.WalkKit
import Derived.Test.YtkkcipjlinfieaaDoorWMem
import Derived.SizedLaws
import Derived.Test.YtkkcipjlinfieaaDoorCards
import Derived.Test.YtkkcipjlinfieaaDoorTie
import Derived.Test.YtkkcipjlinfieaaDoorWCrc
import Derived.Deep.DeepHandedRow
import Derived.Lib.LaidTab
import Derived.Test.YtkkcipjlinfieaaDoorJMem
import Derived.Deep.Slices
import Derived.Deep.Fields
import Derived.Deep.Grids
import Derived.Test.YtkkcipjlinfieaaDoorJLayM
import Derived.Test.YtkkcipjlinfieaaDoorJRLayF
import Derived.Test.YtkkcipjlinfieaaDoorJNeed
import Derived.Test.YtkkcipjlinfieaaDoorJAwake
import Derived.Test.YtkkcipjlinfieaaDoorJRLay
import Derived.StillTailTactics
import Derived.BigQuiet
namespace Go.Proofs.YtkkcipjlinfieaaDoor.RowEnd
open Go.ChangeShapes Go.WideShapes Go.ChangeAt Go.RowKit
section
variable {H : Type} {enc : TypeId × Value → H} {P : Program}

theorem all_stay (hl : laidOutB P = true) {W W' : World} (hb : Below W.heap.size W W') : ∀ (ts : List TypeId) (vs : List Value) (ds : List (DataW H)) (ps : List MemPlace),
    (∀ t ∈ ts, P.readableRec t = true ∧ t < P.types.size) → DataW.TrodAll enc P W 0 (fun _ => true) true ts vs ds ps → (∀ x ∈ ps, x.block < W.heap.size) →
    DataW.TrodAll enc P W' 0 (fun b => decide (b < W.heap.size)) true ts vs ds ps
  | [], vs, ds, ps, _, h, _ => by
    obtain ⟨rfl, rfl, rfl⟩ := trodAll_nil h
    exact trodAll_mk0
  | t :: ts, vs, ds, ps, hts, h, hlt => by
    obtain ⟨v, vs', d, ds', p, q, rfl, rfl, rfl, h1, h2⟩ := trodAll_cons h
    obtain ⟨hr, hs⟩ := hts t (by simp)
    exact trodAll_cons_mk (Below.trod hl hr hs h1 hb (fun x hx => hlt x (by simp [hx])))
      (all_stay hl hb ts vs' ds' q (fun u hu => hts u (by simp [hu])) h2 (fun x hx => hlt x (by simp [hx])))

/-- the end of a law's row: true, and nothing of what was there has turned -/
theorem law_post {f : Func} {s : ChangeSpec} {tb : TypeId} {W W' : World} {args : Array Value} {ds : List (DataW H)} {before p : List MemPlace} {apart : Bool}
    (hl : laidOutB P = true) (hts : (f.params.toList.all fun t => P.readableRec t && decide (t < P.types.size)) = true) (hrt : f.resultTypes = #[tb]) (htb : P.underlying tb = some .bool) (hsv : s.vars = [])
    (hr : (s.fn H ds).results = [.lit (.bool true)]) (ha : (s.fn H ds).args = ds) (hv : (s.fn H ds).vars = [])
    (hW : DataW.Whole enc P f.params.toList s.vars apart W args.toList ds [] before) (hA : DataW.TrodAll enc P W 0 (fun _ => true) true f.params.toList args.toList ds p) (hlt : ∀ x ∈ p, x.block < W.heap.size)
    (hb : Below W.heap.size W W') : s.post enc P f apart true false false W args (.bool true) W' := by
  refine ⟨ds, [], before, [], p, [], hW, ?_, ?_, ?_, hb.frame _, fun h => by cases h⟩
  · rw [List.append_nil, hr, hrt]
    exact trodAll_mk1 (shut_bool htb true)
  · rw [List.append_nil, ha]
    refine all_stay hl hb _ _ _ _ (fun t ht => ?_) hA hlt
    have := List.all_eq_true.1 hts t ht
    simpa using this
  · rw [List.append_nil, hv, hsv]
    rfl
end
end Go.Proofs.YtkkcipjlinfieaaDoor.RowEnd
namespace Go.Proofs.YtkkcipjlinfieaaDoor.Args
open Go.ChangeShapes Go.WideShapes Go.ChangeAt Go.RowKit WMem
section
variable {H : Type} {enc : TypeId × Value → H} {P : Program}

/-- a datum that is a list of so many values -/
def HasLen (d : DataW H) (n : Nat) : Prop := n = 0 ∨ ∃ elems spare, d = .slice elems spare ∧ elems.length = n

theorem arg_len {k : IntKind} {t e : TypeId} {base : Nat} (ht : P.underlying t = some (.slice e)) (he : P.underlying e = some (.int k)) (hc : P.cellsOf e = 1)
    {W : World} {A : Option Addr} {n c : Nat} {d : DataW H} {p : List MemPlace} (_hv : Value.okWide P W .any base t (.slice A n c)) (h : DataW.Trod enc P W 0 (fun _ => true) true t (.slice A n c) d p) : HasLen d n := by
  obtain ⟨fuel, hf⟩ := h
  rcases open_ints ht he hc hf with ⟨hcs, hx⟩ | ⟨a, len', cap', zs, hcs, _, hl, hm, hz, hx, hcell, hwz⟩
  · simp [Value.cells] at hcs
    obtain ⟨rfl, rfl, rfl⟩ := hcs
    exact .inl rfl
  · simp [Value.cells] at hcs
    obtain ⟨rfl, rfl, rfl⟩ := hcs
    simp only [if_true] at hz
    simp only [Prod.mk.injEq] at hx
    obtain ⟨rfl, _⟩ := hx
    exact .inr ⟨_, _, rfl, by simp [lits]; omega⟩

theorem arg_list {k : IntKind} {t e : TypeId} {bytes base : Nat} (ht : P.underlying t = some (.slice e)) (he : P.underlying e = some (.int k)) (hc : P.cellsOf e = 1) (hby : P.bytesOf e = bytes)
    {W : World} {v : Value} {d : DataW H} {p : List MemPlace} (hv : Value.okWide P W .any base t v) (h : DataW.Trod enc P W 0 (fun _ => true) true t v d p)
    {ts : List TypeId} {ds : List (DataW H)} {j : Nat} (hsz : (DataW.weightsEach P ts ds).all (· ≤ reachBytes) = true) (htj : ts[j]? = some t) (hdj : ds[j]? = some d) :
    ∃ (A : Option Addr) (zs : List Int) (c : Nat), v = .slice A zs.length c ∧ (∀ n ∈ zs, (Lit.int k n).wf = true) ∧ Sl W W.heap.size A (zs.map (Value.int k)) ∧ zs.length * bytes ≤ 140737488351232 ∧ zs.length ≤ c ∧ (A = none → c = 0) := by
  obtain ⟨a0, len, cap, rfl⟩ := okWide_slice ht hv
  obtain ⟨fuel, hf⟩ := h
  rcases open_ints ht he hc hf with ⟨hcs, hx⟩ | ⟨a, len', cap', zs, hcs, _, hl, hm, hz, hx, hcell, hwz⟩
  · simp [Value.cells] at hcs
    obtain ⟨rfl, rfl, rfl⟩ := hcs
    exact ⟨none, [], 0, rfl, by simp, Sl.nil _ _ _, by simp, Nat.le_refl _, fun _ => rfl⟩
  · simp [Value.cells] at hcs
    obtain ⟨rfl, rfl, rfl⟩ := hcs
    simp only [if_true] at hz
    simp only [Prod.mk.injEq] at hx
    obtain ⟨rfl, _⟩ := hx
    have hs := sized_slice hsz htj hdj ht
    rw [hby] at hs
    simp only [lits, List.length_map, List.length_take, List.length_drop] at hs
    have hlen : (zs.take len).length = len := by simp; omega
    refine ⟨some a, zs.take len, cap, by rw [hlen], fun n hn => hwz n (List.mem_of_mem_take hn), ?_, ?_, by rw [hlen]; exact hl, fun h => by cases h⟩
    · intro k' u hu
      rw [List.getElem?_map, List.getElem?_take] at hu
      split at hu
      · rename_i hk
        have hk' : k' < zs.length := by omega
        rw [List.getElem?_eq_getElem hk'] at hu
        simp at hu
        subst hu
        have hc' := hcell k' hk'
        rw [List.getD_eq_getElem?_getD, List.getElem?_eq_getElem hk'] at hc'
        simp at hc'
        refine ⟨a, rfl, ?_, hc'⟩
        have := World.block_lt_of_cell? W _ hc'
        rwa [addr_add_block] at this
      · cases hu
    · rw [hlen]
      have h1 : min len zs.length + (zs.length - len) = cap := by omega
      rw [h1] at hs
      have h2 : reachBytes = 140737488351232 := by decide
      rw [h2] at hs
      exact Nat.le_trans (Nat.mul_le_mul_right _ hl) hs

theorem arg_u8s {t e : TypeId} {base : Nat} (ht : P.underlying t = some (.slice e)) (he : P.underlying e = some (.int .u8)) (hc : P.cellsOf e = 1) (hby : P.bytesOf e = 1)
    {W : World} {v : Value} {d : DataW H} {p : List MemPlace} (hv : Value.okWide P W .any base t v) (h : DataW.Trod enc P W 0 (fun _ => true) true t v d p)
    {ts : List TypeId} {ds : List (DataW H)} {j : Nat} (hsz : (DataW.weightsEach P ts ds).all (· ≤ reachBytes) = true) (htj : ts[j]? = some t) (hdj : ds[j]? = some d) :
    ∃ (A : Option Addr) (l : List UInt8) (c : Nat), v = .slice A l.length c ∧ Sl W W.heap.size A (l.map u8v) ∧ l.length ≤ 140737488351232 ∧ l.length ≤ c := by
  obtain ⟨A, zs, c, rfl, hw, hs, hb, hlc, _⟩ := arg_list ht he hc hby hv h hsz htj hdj
  have e1 : zs.map (Value.int .u8) = (zs.map fun z => UInt8.ofNat z.toNat).map u8v := by
    rw [List.map_map]
    apply List.map_congr_left
    intro z hz
    have := bounds_u8 (hw z hz)
    simp only [Function.comp, u8v]
    congr 1
    simp
    omega
  refine ⟨A, zs.map fun z => UInt8.ofNat z.toNat, c, by simp, by rw [← e1]; exact hs, by simpa using hb, by simpa using hlc⟩
theorem arg_u8s_bulk {t e : TypeId} {base : Nat} (ht : P.underlying t = some (.slice e)) (he : P.underlying e = some (.int .u8)) (hc : P.cellsOf e = 1) (hby : P.bytesOf e = 1)
    {W : World} {v : Value} {d : DataW H} {p : List MemPlace} (hv : Value.okWide P W .any base t v) (h : DataW.Trod enc P W 0 (fun _ => true) true t v d p)
    {ts : List TypeId} {ds : List (DataW H)} {j : Nat} (hsz : (DataW.weightsEach P ts ds).all (· ≤ reachBytes) = true) (htj : ts[j]? = some t) (hdj : ds[j]? = some d) :
    ∃ (A : Option Addr) (l : List UInt8) (c : Nat), v = .slice A l.length c ∧ Sl W W.heap.size A (l.map u8v) ∧ l.length ≤ 140737488351232 ∧ l.length ≤ c ∧ HasLen d l.length := by
  obtain ⟨A, l, c, rfl, h1, h2, h3⟩ := arg_u8s ht he hc hby hv h hsz htj hdj
  exact ⟨A, l, c, rfl, h1, h2, h3, arg_len ht he hc hv h⟩
theorem arg_u64s {t e : TypeId} {base : Nat} (ht : P.underlying t = some (.slice e)) (he : P.underlying e = some (.int .u64)) (hc : P.cellsOf e = 1) (hby : P.bytesOf e = 8)
    {W : World} {v : Value} {d : DataW H} {p : List MemPlace} (hv : Value.okWide P W .any base t v) (h : DataW.Trod enc P W 0 (fun _ => true) true t v d p)
    {ts : List TypeId} {ds : List (DataW H)} {j : Nat} (hsz : (DataW.weightsEach P ts ds).all (· ≤ reachBytes) = true) (htj : ts[j]? = some t) (hdj : ds[j]? = some d) :
    ∃ (A : Option Addr) (l : List UInt64) (c : Nat), v = .slice A l.length c ∧ Sl W W.heap.size A (l.map u64v) ∧ l.length ≤ 17592186043904 ∧ l.length ≤ c := by
  obtain ⟨A, zs, c, rfl, hw, hs, hb, hlc, _⟩ := arg_list ht he hc hby hv h hsz htj hdj
  have e1 : zs.map (Value.int .u64) = (zs.map fun z => UInt64.ofNat z.toNat).map u64v := by
    rw [List.map_map]
    apply List.map_congr_left
    intro z hz
    have := bounds_u64 (hw z hz)
    simp only [Function.comp, u64v]
    congr 1
    simp
    omega
  refine ⟨A, zs.map fun z => UInt64.ofNat z.toNat, c, by simp, by rw [← e1]; exact hs, by simp; omega, by simpa using hlc⟩
theorem arg_ints {t e : TypeId} {base : Nat} (ht : P.underlying t = some (.slice e)) (he : P.underlying e = some (.int .i64)) (hc : P.cellsOf e = 1) (hby : P.bytesOf e = 8)
    {W : World} {v : Value} {d : DataW H} {p : List MemPlace} (hv : Value.okWide P W .any base t v) (h : DataW.Trod enc P W 0 (fun _ => true) true t v d p)
    {ts : List TypeId} {ds : List (DataW H)} {j : Nat} (hsz : (DataW.weightsEach P ts ds).all (· ≤ reachBytes) = true) (htj : ts[j]? = some t) (hdj : ds[j]? = some d) :
    ∃ (A : Option Addr) (l : List Int) (c : Nat), v = .slice A l.length c ∧ Sl W W.heap.size A (l.map i64v) ∧ l.length ≤ 17592186043904 ∧ l.length ≤ c ∧ (∀ n ∈ l, -9223372036854775808 ≤ n ∧ n ≤ 9223372036854775807) := by
  obtain ⟨A, zs, c, rfl, hw, hs, hb, hlc, _⟩ := arg_list ht he hc hby hv h hsz htj hdj
  exact ⟨A, zs, c, rfl, hs, by omega, hlc, fun n hn => bounds_i64 (hw n hn)⟩
end
end Go.Proofs.YtkkcipjlinfieaaDoor.Args
namespace Go.Proofs.YtkkcipjlinfieaaDoor.Door
open Go.ChangeShapes Go.WideShapes Go.ChangeAt Go.RowKit WMem WPlain WCrc RowEnd Args

theorem own : ownKnob Tryd.prog.godebug = none := by kernel_rfl
theorem laidOut : laidOutB Tryd.prog = true := by kernel_rfl
theorem gTab : Tryd.prog.globalNamed "hayrick/wire.fourSteps" = some 0 := by kernel_rfl
theorem gTabType : (Tryd.prog.globals[0]?).map (·.type) = some 100 := by kernel_rfl
theorem uTab : Tryd.prog.underlying 100 = some (.array 16 36) := by kernel_rfl
theorem u32t : Tryd.prog.underlying 36 = some (.int .u32) := by kernel_rfl
theorem u8t : Tryd.prog.underlying 5 = some (.int .u8) := by kernel_rfl
theorem u64t : Tryd.prog.underlying 66 = some (.int .u64) := by kernel_rfl
theorem i64t : Tryd.prog.underlying 3 = some (.int .i64) := by kernel_rfl
theorem boolt : Tryd.prog.underlying 4 = some .bool := by kernel_rfl
theorem u8s : Tryd.prog.underlying 31 = some (.slice 5) := by kernel_rfl
theorem u64s : Tryd.prog.underlying 72 = some (.slice 66) := by kernel_rfl
theorem ints : Tryd.prog.underlying 23 = some (.slice 3) := by kernel_rfl
theorem cTab : Tryd.prog.cellsOf 100 = 16 := by kernel_rfl
theorem c32 : Tryd.prog.cellsOf 36 = 1 := by kernel_rfl
theorem c8 : Tryd.prog.cellsOf 5 = 1 := by kernel_rfl
theorem c64 : Tryd.prog.cellsOf 66 = 1 := by kernel_rfl
theorem ci : Tryd.prog.cellsOf 3 = 1 := by kernel_rfl
theorem b8 : Tryd.prog.bytesOf 5 = 1 := by kernel_rfl
theorem b64 : Tryd.prog.bytesOf 66 = 8 := by kernel_rfl
theorem bi : Tryd.prog.bytesOf 3 = 8 := by kernel_rfl

/-- what every row of this seat lists -/
abbrev laid1 : List (String × DataW Unit) := [("hayrick/wire.fourSteps", Rows.laid_hayrick_wire_fourSteps)]
/-- the list gives the table's cells -/
theorem tab_of {W : World} (h : laidMetH Tryd.prog laid1 W) : Tab W := by
  have ht : Lib.TabIs Tryd.prog W "hayrick/wire.fourSteps" .u32 (tab.map fun (n : Nat) => (n : Int)) :=
    Lib.tabIs_of_head (rest := []) gTab gTabType uTab u32t c32 cTab h
  intro r hr
  rw [ht.cell gTab r (by simpa [tab] using hr)]
  simp only [List.getD_eq_getElem?_getD, List.getElem?_map]
  rw [List.getElem?_eq_getElem (by simpa [tab] using hr)]
  rfl

/-- what the second form's bound gives of each list -/
theorem bulk_pos {H : Type} (d : DataW H) : 1 ≤ Rows.uptoBulk d := by
  cases d with
  | lit l => cases l <;> simp [Rows.uptoBulk]
  | nil => simp [Rows.uptoBulk]
  | ptr d => simp [Rows.uptoBulk]
  | slice elems spare => simp [Rows.uptoBulk]
  | agg parts => simp [Rows.uptoBulk]
  | iface t d => simp [Rows.uptoBulk]
  | map entries => simp [Rows.uptoBulk]
  | held h => simp [Rows.uptoBulk]
theorem bulk_many {H : Type} (l : List (DataW H)) : l.length ≤ Rows.uptoBulkAll l ∧ ∀ d ∈ l, Rows.uptoBulk d ≤ Rows.uptoBulkAll l := by
  induction l with
  | nil => exact ⟨Nat.zero_le _, by simp⟩
  | cons x r ih =>
    have := bulk_pos x
    refine ⟨by simp only [Rows.uptoBulkAll, List.length_cons]; omega, fun d hd => ?_⟩
    simp only [Rows.uptoBulkAll]
    rcases List.mem_cons.1 hd with rfl | hd
    · omega
    · have := ih.2 d hd; omega
theorem small_each {H : Type} {ds : List (DataW H)} (hk : Rows.uptoSmall H ds = true) : ∀ d ∈ ds, ∀ n : Nat, HasLen d n → n ≤ 1048576 := by
  intro d hd n hn
  have h1 := of_decide_eq_true hk
  have h2 := (bulk_many ds).2 d hd
  rcases hn with rfl | ⟨elems, spare, rfl, rfl⟩
  · omega
  · have h3 := (bulk_many elems).1
    simp only [Rows.uptoBulk] at h2
    omega

/-- a world for a witness: the settled one, the table holding what its initialiser lays -/
noncomputable def laidWorld (os : Os) : World :=
  { World.holding Tryd.prog os ⟨#[], #[], []⟩ with heap := (World.holding Tryd.prog os ⟨#[], #[], []⟩).heap.modify 0 fun
      | .cells _ t frozen => .cells (tab.map fun (n : Nat) => Value.int .u32 (n : Int)).toArray t frozen
      | o => o }
end Go.Proofs.YtkkcipjlinfieaaDoor.Door
namespace Go.Proofs.YtkkcipjlinfieaaDoor.JDoor
open Go.ChangeShapes Go.WideShapes Go.ChangeAt Go.RowKit Go.Deep WMem RowEnd Args Door JPlain JMem

section
variable {H : Type} {enc : TypeId × Value → H} {P : Program} {w : World} {base : Nat} {spare : Nat → Bool} {held : Bool}
theorem fields_of {e : TypeId} {fs : Array Field} {fuel : Nat} {cs : List Value} {x : DataW H × List MemPlace} (he : P.underlying e = some (.struct fs)) (hone : oneCellFields P fs = true) (hl : cs.length = fs.size)
    (h : DataW.trod enc P w base spare held fuel e cs = some x) (j : Nat) (f : Field) (hj : fs[j]? = some f) : ∃ v y n', cs[j]? = some v ∧ DataW.trod enc P w base spare held n' f.type [v] = some y := by
  obtain ⟨ys, n', hn', hy, hlen, hyl, hf⟩ := DataW.trod_struct he h
  obtain ⟨ho, hk⟩ := hone_of hone j f hj
  have hjl : j < fs.size := (Array.getElem?_eq_some_iff.1 hj).1
  have h1 := hf j f hj
  rw [ho, hk] at h1
  have hone' : (cs.drop j).take 1 = [cs[j]'(by omega)] := by
    rw [List.drop_eq_getElem_cons (by omega)]
    rfl
  rw [hone'] at h1
  have hys : ys[j]? = some (ys[j]'(by omega)) := List.getElem?_eq_getElem (by omega)
  exact ⟨_, _, n', List.getElem?_eq_getElem (by omega), h1.trans hys⟩
theorem open_slice_fields {t e : TypeId} {fs : Array Field} {fuel : Nat} {cs : List Value} {x : DataW H × List MemPlace} (ht : P.underlying t = some (.slice e)) (he : P.underlying e = some (.struct fs))
    (hone : oneCellFields P fs = true) (hC : P.cellsOf e = fs.size) (h : DataW.trod enc P w base spare held fuel t cs = some x) :
    (cs = [.slice none 0 0] ∧ x = (.nil, [])) ∨
    ∃ (a : Addr) (len cap m : Nat) (D : Nat → DataW H) (Pl : Nat → List MemPlace), cs = [.slice (some a) len cap] ∧ base ≤ a.block ∧ len ≤ cap ∧ cap ≤ maxLen ∧ m = (if spare a.block then cap else len) ∧
      x = (.slice ((List.range len).map D) ((List.range (m - len)).map fun j => D (len + j)), MemPlace.row a (m * fs.size) ++ (List.range m).flatMap Pl) ∧
      ∀ i, i < m → ∃ (ys : List (DataW H × List MemPlace)) (n : Nat), D i = .agg (ys.map (·.1)) ∧ Pl i = ys.flatMap (·.2) ∧ ys.length = fs.size ∧
        ∀ (j : Nat) (f : Field), fs[j]? = some f → ∃ (v : Value) (y : DataW H × List MemPlace), w.cell? (a.add (i * fs.size + j)) = some v ∧ ys[j]? = some y ∧ DataW.trod enc P w base spare held n f.type [v] = some y := by
  rcases open_slice ht h with h0 | ⟨a, len, cap, m, n, D, Pl, hcs, hb, hl, hm, hmm, hx, hi⟩
  · exact .inl h0
  · refine .inr ⟨a, len, cap, m, D, Pl, hcs, hb, hl, hm, hmm, by rw [hC] at hx; exact hx, fun i him => ?_⟩
    obtain ⟨cs', hc, ht'⟩ := hi i him
    rw [hC] at hc
    obtain ⟨ys, n', hn', hy, hlen, hyl, hf⟩ := DataW.trod_struct he ht'
    obtain ⟨_, hcl, hat⟩ := World.cells?_some hc
    simp only [Prod.mk.injEq] at hy
    refine ⟨ys, n', hy.1, hy.2, hyl, fun j f hj => ?_⟩
    obtain ⟨ho, hk⟩ := hone_of hone j f hj
    have hjl : j < fs.size := (Array.getElem?_eq_some_iff.1 hj).1
    have hcell := hat j hjl
    have hv : cs'[j]? = some (cs'[j]'(by omega)) := List.getElem?_eq_getElem (by omega)
    have h1 := hf j f hj
    rw [ho, hk] at h1
    have hone' : (cs'.drop j).take 1 = [cs'[j]'(by omega)] := by
      rw [List.drop_eq_getElem_cons (by omega)]
      rfl
    rw [hone'] at h1
    have hys : ys[j]? = some (ys[j]'(by omega)) := List.getElem?_eq_getElem (by omega)
    refine ⟨_, _, ?_, hys, h1.trans hys⟩
    rw [← Go.Deep.add_add, hcell, hv]

end
instance : Inhabited Ent := ⟨⟨0, false⟩⟩
section
variable {H : Type} {enc : TypeId × Value → H} {P : Program} {w : World} {base : Nat} {held : Bool}
/-- a slice of entries: structs of a number and a yes or no -/
theorem ents_open {t e : TypeId} {f0 f1 : Field} {fuel : Nat} {v : Value} {x : DataW H × List MemPlace} (ht : P.underlying t = some (.slice e)) (he : P.underlying e = some (.struct #[f0, f1])) (hone : oneCellFields P #[f0, f1] = true) (hC : P.cellsOf e = 2)
    (t0 : P.underlying f0.type = some (.int .i64)) (t1 : P.underlying f1.type = some .bool) (h : DataW.trod enc P w base (fun _ => true) held fuel t [v] = some x) :
    ∃ (A : Option Addr) (l : List Ent) (c : Nat), v = .slice A l.length c ∧ Ents w w.heap.size A l ∧ (l.length = 0 ∨ ∃ es sp, x.1 = .slice es sp ∧ l.length = es.length) := by
  rcases open_slice_fields ht he hone hC h with ⟨hcs, hx⟩ | ⟨a, len, cap, m, D, Pl, hcs, _, hl, _, hmm, hx, hi⟩
  · obtain rfl : v = .slice none 0 0 := by simpa using hcs
    exact ⟨none, [], 0, rfl, Ents.nil _ _ _, .inl rfl⟩
  · obtain rfl : v = .slice (some a) len cap := by simpa using hcs
    simp only [if_true] at hmm
    subst hmm
    obtain ⟨B, hB⟩ := choose_lt (α := Ent) (n := len) (p := fun i o => w.cell? (a.add (i * 2)) = some (.int .i64 o.blk) ∧ w.cell? (a.add (i * 2 + 1)) = some (.bool o.esc)) (fun i hil => by
      obtain ⟨ys, n, _, _, _, hf⟩ := hi i (by omega)
      obtain ⟨v0, y0, c0, _, g0⟩ := hf 0 f0 rfl
      obtain ⟨v1, y1, c1, _, g1⟩ := hf 1 f1 rfl
      obtain ⟨n0, e0, _⟩ := DataW.trod_int t0 g0
      obtain ⟨n1, e1, _⟩ := DataW.trod_bool t1 g1
      obtain rfl : v0 = .int .i64 n0 := by simpa using e0
      obtain rfl : v1 = .bool n1 := by simpa using e1
      exact ⟨⟨n0, n1⟩, c0, c1⟩)
    refine ⟨some a, (List.range len).map B, m, by simp, (fun i hi' => ?_), .inr ⟨_, _, by rw [hx], by simp⟩⟩
    have hil : i < len := by simpa using hi'
    obtain ⟨c0, c1⟩ := hB i hil
    have hbk := World.block_lt_of_cell? w _ c0
    rw [addr_add_block] at hbk
    have e : ((List.range len).map B)[i] = B i := by simp
    rw [e]
    exact ⟨a, rfl, hbk, c0, c1⟩
/-- the slice in a record takes no more than the reach -/
theorem sized_in {ts : List TypeId} {ds : List (DataW H)} (hsz : (DataW.weightsEach P ts ds).all (· ≤ reachBytes) = true) {j : Nat} {t : TypeId} {parts : List (DataW H)} {fs : Array Field} (htj : ts[j]? = some t) (hdj : ds[j]? = some (.agg parts)) (hu : P.underlying t = some (.struct fs))
    {i : Nat} {f : Field} {e : TypeId} {es sp : List (DataW H)} (hf : fs[i]? = some f) (hp : parts[i]? = some (.slice es sp)) (hue : P.underlying f.type = some (.slice e)) : (es.length + sp.length) * P.bytesOf e ≤ reachBytes := by
  have hin : ∀ n ∈ DataW.weightsEach P (fs.toList.map (·.type)) parts, n ≤ reachBytes := fun n hn => by
    have := List.all_eq_true.1 hsz n (DataW.weights_mem_each htj hdj n (by simp only [DataW.weights, hu]; exact hn))
    simpa using this
  refine hin _ (DataW.weights_mem_each (j := i) (t := f.type) (d := .slice es sp) (by rw [List.getElem?_map, Array.getElem?_toList, hf]; rfl) hp _ ?_)
  simp [DataW.weights, hue]
end
theorem cent : Tryd.prog.cellsOf 62 = 2 := by kernel_rfl
theorem bent : Tryd.prog.bytesOf 62 = 16 := by kernel_rfl
theorem uents : Tryd.prog.underlying 59 = some (.slice 62) := by kernel_rfl
theorem uent : ∃ f0 f1, Tryd.prog.underlying 62 = some (.struct #[f0, f1]) ∧ oneCellFields Tryd.prog #[f0, f1] = true ∧ f0.type = 3 ∧ f1.type = 4 :=
  ⟨_, _, Tryd.underlying62, by kernel_rfl, rfl, rfl⟩
theorem crec : Tryd.prog.cellsOf 61 = 5 := by kernel_rfl
theorem urec : ∃ f0 f1 f2 f3 f4, Tryd.prog.underlying 61 = some (.struct #[f0, f1, f2, f3, f4]) ∧ oneCellFields Tryd.prog #[f0, f1, f2, f3, f4] = true ∧ f0.type = 3 ∧ f1.type = 3 ∧ f2.type = 59 ∧ f3.type = 36 ∧ f4.type = 3 :=
  ⟨_, _, _, _, _, Tryd.underlying61, by kernel_rfl, rfl, rfl, rfl, rfl, rfl⟩
section
variable {H : Type} {enc : TypeId × Value → H}
set_option maxRecDepth 100000 in
theorem arg_rec {W : World} {b0 : Nat} {v : Value} {d : DataW H} {p : List MemPlace} (hv : Value.okWide Tryd.prog W .any b0 61 v) (h : DataW.Trod enc Tryd.prog W 0 (fun _ => true) true 61 v d p)
    {ts : List TypeId} {ds : List (DataW H)} {j : Nat} (hsz : (DataW.weightsEach Tryd.prog ts ds).all (· ≤ reachBytes) = true) (htj : ts[j]? = some 61) (hdj : ds[j]? = some d) :
    ∃ (r : Rec) (A : Option Addr) (c : Nat), v = recV r A c ∧ Ents W W.heap.size A r.ents ∧ r.ents.length ≤ 8796093022207 ∧ r.sum < 4294967296 := by
  obtain ⟨f0, f1, f2, f3, f4, hu, hone, e0, e1, e2, e3, e4⟩ := urec
  obtain ⟨g0, g1, gu, gone, k0, k1⟩ := uent
  obtain ⟨cs, rfl, hc⟩ := okWide_struct hu hv
  obtain ⟨fuel, hf⟩ := h
  have hlen : cs.toList.length = 5 := by rw [crec] at hc; simpa [Value.cells] using hc
  have hf' : DataW.trod enc Tryd.prog W 0 (fun _ => true) true fuel 61 cs.toList = some (d, p) := by simpa [Value.cells] using hf
  obtain ⟨ys, n', hn', hy, hl2, hyl, hg⟩ := DataW.trod_struct hu hf'
  have hd : d = .agg (ys.map (·.1)) := (Prod.mk.inj hy).1
  have at_ : ∀ (i : Nat) (f : Field), (#[f0, f1, f2, f3, f4] : Array Field)[i]? = some f → ∃ (u : Value) (y : DataW H × List MemPlace), cs.toList[i]? = some u ∧ ys[i]? = some y ∧ DataW.trod enc Tryd.prog W 0 (fun _ => true) true n' f.type [u] = some y := fun i f hi => by
    obtain ⟨ho, hk⟩ := hone_of hone i f hi
    have hil : i < 5 := (Array.getElem?_eq_some_iff.1 hi).1
    have h1 := hg i f hi
    rw [ho, hk] at h1
    have hone' : (cs.toList.drop i).take 1 = [cs.toList[i]'(by omega)] := by
      rw [List.drop_eq_getElem_cons (by omega)]
      rfl
    rw [hone'] at h1
    have hyl5 : ys.length = 5 := hyl
    have hys : ys[i]? = some (ys[i]'(by omega)) := List.getElem?_eq_getElem (by omega)
    exact ⟨_, _, List.getElem?_eq_getElem (by omega), hys, h1.trans hys⟩
  obtain ⟨u0, y0, q0, _, h0⟩ := at_ 0 f0 rfl
  obtain ⟨u1, y1, q1, _, h1⟩ := at_ 1 f1 rfl
  obtain ⟨u2, y2, q2, z2, h2⟩ := at_ 2 f2 rfl
  obtain ⟨u3, y3, q3, _, h3⟩ := at_ 3 f3 rfl
  obtain ⟨u4, y4, q4, _, h4⟩ := at_ 4 f4 rfl
  obtain ⟨x0, r0, _⟩ := DataW.trod_int (by rw [e0]; exact i64t) h0
  obtain ⟨x1, r1, _⟩ := DataW.trod_int (by rw [e1]; exact i64t) h1
  rw [e2] at h2
  obtain ⟨A, l, c, r2, hE, hsl⟩ := ents_open uents gu gone cent (by rw [k0]; exact i64t) (by rw [k1]; exact boolt) h2
  obtain ⟨x3, r3, _, w3⟩ := DataW.trod_int (by rw [e3]; exact u32t) h3
  obtain ⟨x4, r4, _⟩ := DataW.trod_int (by rw [e4]; exact i64t) h4
  obtain rfl : u0 = .int .i64 x0 := by simpa using r0
  obtain rfl : u1 = .int .i64 x1 := by simpa using r1
  obtain rfl : u3 = .int .u32 x3 := by simpa using r3
  obtain rfl : u4 = .int .i64 x4 := by simpa using r4
  subst r2
  have b3 := bounds_u32 w3
  obtain ⟨s, rfl⟩ := Int.eq_ofNat_of_zero_le b3.1
  refine ⟨⟨x0, x1, l, s, x4⟩, A, c, ?_, hE, ?_, by simp only; omega⟩
  · unfold recV
    congr 1
    obtain ⟨L⟩ := cs
    simp only at hlen q0 q1 q2 q3 q4
    match L, hlen with
    | [v0, v1, v2, v3, v4], _ =>
      simp at q0 q1 q2 q3 q4
      subst q0 q1 q2 q3 q4
      rfl
  · simp only
    rcases hsl with hsl | ⟨es, sp, e, hl⟩
    · omega
    · subst hd
      have hs := sized_in hsz htj hdj hu (i := 2) (f := f2) (e := 62) (es := es) (sp := sp) rfl (by rw [List.getElem?_map, z2]; simp [e]) (by rw [e2]; exact uents)
      have hr : reachBytes = 140737488351232 := by decide
      rw [hr, bent] at hs
      omega
end
end Go.Proofs.YtkkcipjlinfieaaDoor.JDoor
namespace Go.Proofs.YtkkcipjlinfieaaDoor.JDoor2
open Go.ChangeShapes Go.WideShapes Go.ChangeAt Go.RowKit Go.Deep WMem RowEnd Args Door JDoor JLayM

section
variable {H : Type} {enc : TypeId × Value → H} {P : Program} {w : World} {base : Nat} {held : Bool}
theorem u8s_of {t e : TypeId} {fuel : Nat} {v : Value} {x : DataW H × List MemPlace} (ht : P.underlying t = some (.slice e)) (he : P.underlying e = some (.int .u8)) (hc : P.cellsOf e = 1)
    (h : DataW.trod enc P w base (fun _ => true) held fuel t [v] = some x) : ∃ (A : Option Addr) (l : List UInt8) (c : Nat), v = .slice A l.length c ∧ Sl w w.heap.size A (l.map u8v) := by
  rcases open_ints ht he hc h with ⟨hcs, hx⟩ | ⟨a, len, cap, zs, hcs, _, hl, hm, hz, hx, hcell, hwz⟩
  · obtain rfl : v = .slice none 0 0 := by simpa using hcs
    exact ⟨none, [], 0, rfl, Sl.nil _ _ _⟩
  · obtain rfl : v = .slice (some a) len cap := by simpa using hcs
    simp only [if_true] at hz
    have hlen : (zs.take len).length = len := by simp; omega
    have e1 : (zs.take len).map (Value.int .u8) = ((zs.take len).map fun z => UInt8.ofNat z.toNat).map u8v := by
      rw [List.map_map]
      apply List.map_congr_left
      intro z hz
      have := bounds_u8 (hwz z (List.mem_of_mem_take hz))
      simp only [Function.comp, u8v]
      congr 1
      simp
      omega
    refine ⟨some a, (zs.take len).map fun z => UInt8.ofNat z.toNat, cap, by rw [List.length_map, hlen], ?_⟩
    rw [← e1]
    intro k' u hu
    rw [List.getElem?_map, List.getElem?_take] at hu
    split at hu
    · rename_i hk
      have hk' : k' < zs.length := by omega
      rw [List.getElem?_eq_getElem hk'] at hu
      simp at hu
      subst hu
      have hc' := hcell k' hk'
      rw [List.getD_eq_getElem?_getD, List.getElem?_eq_getElem hk'] at hc'
      simp at hc'
      refine ⟨a, rfl, ?_, hc'⟩
      have := World.block_lt_of_cell? w _ hc'
      rwa [addr_add_block] at this
    · cases hu
theorem wrs_open {t e : TypeId} {f0 f1 : Field} {fuel : Nat} {v : Value} {x : DataW H × List MemPlace} (ht : P.underlying t = some (.slice e)) (he : P.underlying e = some (.struct #[f0, f1])) (hone : oneCellFields P #[f0, f1] = true) (hC : P.cellsOf e = 2)
    (t0 : P.underlying f0.type = some (.int .i64)) {be : TypeId} (t1 : P.underlying f1.type = some (.slice be)) (t2 : P.underlying be = some (.int .u8)) (t3 : P.cellsOf be = 1) (h : DataW.trod enc P w base (fun _ => true) held fuel t [v] = some x) :
    ∃ (A : Option Addr) (l : List Wr) (c : Nat), v = .slice A l.length c ∧ Wrs w w.heap.size A l ∧ l.length ≤ c := by
  rcases open_slice_fields ht he hone hC h with ⟨hcs, hx⟩ | ⟨a, len, cap, m, D, Pl, hcs, _, hl, _, hmm, hx, hi⟩
  · obtain rfl : v = .slice none 0 0 := by simpa using hcs
    exact ⟨none, [], 0, rfl, (fun i hi => (by cases hi)), Nat.le_refl _⟩
  · obtain rfl : v = .slice (some a) len cap := by simpa using hcs
    simp only [if_true] at hmm
    subst hmm
    obtain ⟨B, hB⟩ := choose_lt (α := Wr) (n := len) (p := fun i o => ∃ K c, w.cell? (a.add (i * 2)) = some (.int .i64 o.blk) ∧ w.cell? (a.add (i * 2 + 1)) = some (.slice K o.data.length c) ∧ Sl w w.heap.size K (o.data.map u8v)) (fun i hil => by
      obtain ⟨ys, n, _, _, _, hf⟩ := hi i (by omega)
      obtain ⟨v0, y0, c0, _, g0⟩ := hf 0 f0 rfl
      obtain ⟨v1, y1, c1, _, g1⟩ := hf 1 f1 rfl
      obtain ⟨n0, e0, _⟩ := DataW.trod_int t0 g0
      obtain ⟨K, l, c, rfl, hK⟩ := u8s_of t1 t2 t3 g1
      obtain rfl : v0 = .int .i64 n0 := by simpa using e0
      exact ⟨⟨n0, l⟩, K, c, c0, c1, hK⟩)
    refine ⟨some a, (List.range len).map B, m, by simp, (fun i hi' => ?_), by simpa using hl⟩
    have hil : i < len := by simpa using hi'
    obtain ⟨K, c, c0, c1, hK⟩ := hB i hil
    have hbk := World.block_lt_of_cell? w _ c0
    rw [addr_add_block] at hbk
    have e : ((List.range len).map B)[i] = B i := by simp
    rw [e]
    exact ⟨a, K, c, rfl, hbk, c0, c1, hK⟩
end
theorem cwr : Tryd.prog.cellsOf 47 = 2 := by kernel_rfl
theorem uwrs : Tryd.prog.underlying 22 = some (.slice 47) := by kernel_rfl
theorem uwr : ∃ f0 f1, Tryd.prog.underlying 47 = some (.struct #[f0, f1]) ∧ oneCellFields Tryd.prog #[f0, f1] = true ∧ f0.type = 3 ∧ f1.type = 31 :=
  ⟨_, _, Tryd.underlying47, by kernel_rfl, rfl, rfl⟩
section
variable {H : Type} {enc : TypeId × Value → H}
set_option maxRecDepth 100000 in
theorem arg_wrs {W : World} {b0 : Nat} {v : Value} {d : DataW H} {p : List MemPlace} (hv : Value.okWide Tryd.prog W .any b0 22 v) (h : DataW.Trod enc Tryd.prog W 0 (fun _ => true) true 22 v d p) :
    ∃ (A : Option Addr) (l : List Wr) (c : Nat), v = .slice A l.length c ∧ Wrs W W.heap.size A l ∧ l.length ≤ c := by
  obtain ⟨f0, f1, hu, hone, e0, e1⟩ := uwr
  obtain ⟨a0, len, cap, rfl⟩ := okWide_slice uwrs hv
  obtain ⟨fuel, hf⟩ := h
  exact wrs_open uwrs hu hone cwr (by rw [e0]; exact i64t) (by rw [e1]; exact u8s) u8t c8 (by simpa [Value.cells] using hf)
end
end Go.Proofs.YtkkcipjlinfieaaDoor.JDoor2
namespace Go.Proofs.YtkkcipjlinfieaaDoor.JDoor3
open Go.ChangeShapes Go.WideShapes Go.ChangeAt Go.RowKit Go.Deep WMem RowEnd Args Door JDoor JLayM JDoor2 JRLayF
section
variable {H : Type} {enc : TypeId × Value → H} {P : Program} {w : World} {base : Nat} {held : Bool}
theorem wrs_more {t e : TypeId} {f0 f1 : Field} {fuel : Nat} {A : Option Addr} {n c : Nat} {x : DataW H × List MemPlace} (ht : P.underlying t = some (.slice e)) (he : P.underlying e = some (.struct #[f0, f1])) (hone : oneCellFields P #[f0, f1] = true) (hC : P.cellsOf e = 2)
    {be : TypeId} (t1 : P.underlying f1.type = some (.slice be)) (t2 : P.underlying be = some (.int .u8)) (t3 : P.cellsOf be = 1) (h : DataW.trod enc P w base (fun _ => true) held fuel t [.slice A n c] = some x) :
    Caps w A n ∧ (n = 0 ∨ ∃ es sp, x.1 = .slice es sp ∧ n = es.length) := by
  rcases open_slice_fields ht he hone hC h with ⟨hcs, hx⟩ | ⟨a, len, cap, m, D, Pl, hcs, _, hl, _, hmm, hx, hi⟩
  · have hn : n = 0 := by simp at hcs; exact hcs.2.1
    exact ⟨fun i hi => (by omega), .inl hn⟩
  · simp at hcs
    obtain ⟨rfl, rfl, rfl⟩ := hcs
    simp only [if_true] at hmm
    subst hmm
    refine ⟨fun i hil a' K m' c' ha hc => ?_, .inr ⟨_, _, by rw [hx], by simp⟩⟩
    injection ha with ha
    subst ha
    obtain ⟨ys, n', _, _, _, hf⟩ := hi i (by omega)
    obtain ⟨v1, y1, c1, _, g1⟩ := hf 1 f1 rfl
    obtain rfl : v1 = .slice K m' c' := Option.some.inj (c1.symm.trans hc)
    rcases open_ints t1 t2 t3 g1 with ⟨hcs, _⟩ | ⟨b, ln, cp, zs, hcs, _, hl2, _⟩
    · simp at hcs
      omega
    · simp at hcs
      omega
end
theorem bwr : Tryd.prog.bytesOf 47 = 32 := by kernel_rfl
section
variable {H : Type} {enc : TypeId × Value → H}
set_option maxRecDepth 100000 in
theorem arg_wrs3 {W : World} {b0 : Nat} {v : Value} {d : DataW H} {p : List MemPlace} (hv : Value.okWide Tryd.prog W .any b0 22 v) (h : DataW.Trod enc Tryd.prog W 0 (fun _ => true) true 22 v d p)
    {ts : List TypeId} {ds : List (DataW H)} {j : Nat} (hsz : (DataW.weightsEach Tryd.prog ts ds).all (· ≤ reachBytes) = true) (htj : ts[j]? = some 22) (hdj : ds[j]? = some d) :
    ∃ (A : Option Addr) (l : List Wr) (c : Nat), v = .slice A l.length c ∧ Wrs W W.heap.size A l ∧ l.length ≤ c ∧ l.length ≤ 4398046511104 ∧ Caps W A l.length := by
  obtain ⟨A, l, c, rfl, h1, h2⟩ := arg_wrs hv h
  obtain ⟨f0, f1, hu, hone, e0, e1⟩ := uwr
  obtain ⟨fuel, hf⟩ := h
  obtain ⟨h3, h4⟩ := wrs_more uwrs hu hone cwr (by rw [e1]; exact u8s) u8t c8 (by simpa [Value.cells] using hf)
  refine ⟨A, l, c, rfl, h1, h2, ?_, h3⟩
  rcases h4 with h4 | ⟨es, sp, e, hl⟩
  · omega
  · simp only at e
    subst e
    have hs := sized_slice hsz htj hdj uwrs
    have hr : reachBytes = 140737488351232 := by decide
    rw [hr, bwr] at hs
    omega
end
end Go.Proofs.YtkkcipjlinfieaaDoor.JDoor3
namespace Go.Proofs.YtkkcipjlinfieaaDoor.JNeed2
open Go.RowKit WMem JNeed JLayM JPlain

set_option maxHeartbeats 1000000 in
theorem Need_wide (a b : Nat) (ha : a ≤ 140737488355328) (hb : b ≤ 140737488355328) (w : World) : Calls Tryd.prog 7 #[.int .i64 (a : Int), .int .i64 (b : Int)] w fun e w' => e = .returned (.int .i64 (needN a b : Nat)) ∧ Below w.heap.size w w' := by
  have h1 := rowsN_le a 48
  have h2 := rowsN_le b 60
  have HN := Lib.hid (need_up a b)
  have HA := Lib.hid (fun w => rows_any a 48 (by decide) (by decide) (by omega) w)
  have HB := Lib.hid (fun w => rows_any b 60 (by decide) (by decide) (by omega) w)
  generalize rowsN a 48 = x at *
  generalize rowsN b 60 = y at *
  generalize needN a b = N at *
  have m1 : ¬ ((a : Int) < 0) := by omega
  have m2 : ¬ ((b : Int) < 0) := by omega
  have m3 : max (a : Int) 0 = (a : Int) := by omega
  have m4 : max (b : Int) 0 = (b : Int) := by omega
  have s1 : IntKind.i64.wrap ((a : Int) + (x : Int)) = ((a + x : Nat) : Int) := by rw [IntWalk.i64_in _ (by omega)]; simp
  have s2 : IntKind.i64.wrap (((a + x : Nat) : Int) + (y : Int)) = ((a + x + y : Nat) : Int) := by rw [IntWalk.i64_in _ (by omega)]; simp
  have s3 : IntKind.i64.wrap (((a + x + y : Nat) : Int) + 1) = ((a + x + y + 1 : Nat) : Int) := by rw [IntWalk.i64_in _ (by omega)]; simp
  go_enter Tryd.func7, Tryd.ntmps7
  go_wp2_with fail
  refine (HA.out _).mono ?_
  rintro e w1 ⟨rfl, hb1⟩
  go_wp2_with fail
  refine (HB.out _).mono ?_
  rintro e w2 ⟨rfl, hb2⟩
  have HBB := Lib.hid (below_up hb1 hb2 hb1.size)
  clear hb1 hb2
  go_wp2
  go_ret
  exact ⟨ret_i HN.out.symm, HBB.out⟩
set_option maxHeartbeats 1000000 in
theorem Need_neg (a : Nat) (ha : a ≤ 140737488355328) (w : World) : Calls Tryd.prog 7 #[.int .i64 (a : Int), .int .i64 (-3)] w fun e w' => e = .returned (.int .i64 (needN a 0 : Nat)) ∧ Below w.heap.size w w' := by
  have h1 := rowsN_le a 48
  have h2 := rowsN_le 0 60
  have HN := Lib.hid (need_up a 0)
  have HA := Lib.hid (fun w => rows_any a 48 (by decide) (by decide) (by omega) w)
  have HB := Lib.hid (fun w => rows_any 0 60 (by decide) (by decide) (by omega) w)
  generalize rowsN a 48 = x at *
  generalize rowsN 0 60 = y at *
  generalize needN a 0 = N at *
  have m1 : ¬ ((a : Int) < 0) := by omega
  have m3 : max (a : Int) 0 = (a : Int) := by omega
  have s1 : IntKind.i64.wrap ((a : Int) + (x : Int)) = ((a + x : Nat) : Int) := by rw [IntWalk.i64_in _ (by omega)]; simp
  have s2 : IntKind.i64.wrap (((a + x : Nat) : Int) + (y : Int)) = ((a + x + y : Nat) : Int) := by rw [IntWalk.i64_in _ (by omega)]; simp
  have s3 : IntKind.i64.wrap (((a + x + y : Nat) : Int) + 1) = ((a + x + y + 1 : Nat) : Int) := by rw [IntWalk.i64_in _ (by omega)]; simp
  go_enter Tryd.func7, Tryd.ntmps7
  go_wp2_with fail
  refine (HA.out _).mono ?_
  rintro e w1 ⟨rfl, hb1⟩
  go_wp2_with fail
  refine (HB.out _).mono ?_
  rintro e w2 ⟨rfl, hb2⟩
  have HBB := Lib.hid (below_up hb1 hb2 hb1.size)
  clear hb1 hb2
  go_wp2
  go_ret
  exact ⟨ret_i HN.out.symm, HBB.out⟩
theorem need_val (a b x y r s : Nat) (hx : a / 48 = x) (hy : b / 60 = y) (hr : a % 48 = r) (hs : b % 60 = s) : needN a b = a + x + y + 1 + (if 0 < r then 1 else 0) + (if 0 < s then 1 else 0) := by
  subst hx hy hr hs
  show a + (a / 48 + (if a % 48 = 0 then 0 else 1)) + (b / 60 + (if b % 60 = 0 then 0 else 1)) + 1 = _
  by_cases h1 : a % 48 = 0 <;> by_cases h2 : b % 60 = 0
  · rw [if_pos h1, if_pos h2, if_neg (by omega), if_neg (by omega)]; omega
  · rw [if_pos h1, if_neg h2, if_neg (by omega), if_pos (by omega)]; omega
  · rw [if_neg h1, if_pos h2, if_pos (by omega), if_neg (by omega)]; omega
  · rw [if_neg h1, if_neg h2, if_pos (by omega), if_pos (by omega)]; omega
theorem ret_n {x : Int} {n : Nat} (h : x = (n : Int)) : Ending.returned (.int .i64 x) = .returned (.int .i64 (n : Int)) := by rw [h]
set_option maxHeartbeats 1000000 in
theorem refNeed_any (a b : Nat) (ha : a ≤ 140737488355328) (hb : b ≤ 140737488355328) (w : World) : Calls Tryd.prog 8 #[.int .i64 (a : Int), .int .i64 (b : Int)] w fun e w' => e = .returned (.int .i64 (needN a b : Nat)) ∧ w = w' := by
  obtain ⟨x, hx⟩ : ∃ x, a / 48 = x := ⟨_, rfl⟩
  obtain ⟨y, hy⟩ : ∃ y, b / 60 = y := ⟨_, rfl⟩
  obtain ⟨r, hr⟩ : ∃ r, a % 48 = r := ⟨_, rfl⟩
  obtain ⟨s, hs⟩ : ∃ s, b % 60 = s := ⟨_, rfl⟩
  have HN := Lib.hid (need_val a b x y r s hx hy hr hs)
  have e1 : ((a : Int) / 48) = (x : Int) := by omega
  have e2 : ((b : Int) / 60) = (y : Int) := by omega
  have e3 : ((a : Int) % 48) = (r : Int) := by omega
  have e4 : ((b : Int) % 60) = (s : Int) := by omega
  have hxa : x ≤ a := by omega
  have hyb : y ≤ b := by omega
  have m1 : ¬ ((a : Int) < 0) := by omega
  have m2 : ¬ ((b : Int) < 0) := by omega
  have m3 : max (a : Int) 0 = (a : Int) := by omega
  have m4 : max (b : Int) 0 = (b : Int) := by omega
  generalize needN a b = N at *
  clear hx hy hr hs
  rcases (show (r = 0 ∨ 0 < r) ∧ (s = 0 ∨ 0 < s) by omega) with ⟨rfl | h1, rfl | h2⟩
  all_goals
    go_enter Tryd.func8, Tryd.ntmps8
    go_wp2
    go_ret
    refine ⟨ret_n ?_, rfl⟩
    rw [HN.out]
    (repeat (first | rw [if_pos (by omega)] | rw [if_neg (by omega)]))
    omega
set_option maxHeartbeats 1000000 in
theorem refNeed_neg (a : Nat) (ha : a ≤ 140737488355328) (w : World) : Calls Tryd.prog 8 #[.int .i64 (a : Int), .int .i64 (-3)] w fun e w' => e = .returned (.int .i64 (needN a 0 : Nat)) ∧ w = w' := by
  obtain ⟨x, hx⟩ : ∃ x, a / 48 = x := ⟨_, rfl⟩
  obtain ⟨r, hr⟩ : ∃ r, a % 48 = r := ⟨_, rfl⟩
  have HN := Lib.hid (need_val a 0 x 0 r 0 hx rfl hr rfl)
  have e1 : ((a : Int) / 48) = (x : Int) := by omega
  have e3 : ((a : Int) % 48) = (r : Int) := by omega
  have hxa : x ≤ a := by omega
  have m1 : ¬ ((a : Int) < 0) := by omega
  have m3 : max (a : Int) 0 = (a : Int) := by omega
  generalize needN a 0 = N at *
  clear hx hr
  rcases (show r = 0 ∨ 0 < r by omega) with rfl | h1
  all_goals
    go_enter Tryd.func8, Tryd.ntmps8
    go_wp2
    go_ret
    refine ⟨ret_n ?_, rfl⟩
    rw [HN.out]
    (repeat (first | rw [if_pos (by omega)] | rw [if_neg (by omega)]))
    omega
theorem part_all {α : Type} (l : List α) (sz : Nat) : (l.drop (rowsN l.length sz * sz)) = [] ∨ sz = 0 := by
  rcases Nat.eq_zero_or_pos sz with h | h
  · exact .inr h
  · exact .inl (List.drop_eq_nil_of_le (rowsN_mul l.length sz h).1)
theorem frontW_count (seq : Int) (ws : List Wr) (n : Nat) : (frontW seq ws n).length = n + min (48 * n) ws.length := by
  induction n with
  | zero => simp [frontW]
  | succ n ih =>
    rw [frontW_succ, List.length_append, ih]
    simp only [layD, List.length_cons, List.length_map, part_len]
    omega
theorem lay_len (seq : Int) (ws : List Wr) (rs : List Int) : (lay seq ws rs).length = needN ws.length rs.length := by
  have h := (rowsN_mul ws.length 48 (by decide)).1
  unfold lay front
  rw [List.length_append, List.length_append, frontW_count, need_up]
  simp only [frontR, List.length_map, List.length_range, List.length_singleton]
  omega
end Go.Proofs.YtkkcipjlinfieaaDoor.JNeed2
namespace Go.Proofs.YtkkcipjlinfieaaDoor.JLLays
open Go.RowKit WMem WPlain WHelp WAppend WFace2 WWide WAny WCrc WSeal SNums JPlain JMem JBody JPack JNeed JNeed2 JLayM JLayF JLay JRLayF JRLay

theorem low16 (x : Int) : ∃ y : Nat, y < 65536 ∧ bits BinOp.and IntKind.i64 x 65535 = (y : Int) := by
  refine ⟨(BitVec.ofInt 64 x &&& BitVec.ofInt 64 65535).toNat, ?_, ?_⟩
  · rw [BitVec.toNat_and]
    exact Nat.lt_of_le_of_lt Nat.and_le_right (by decide)
  · have h : (BitVec.ofInt 64 x &&& BitVec.ofInt 64 65535).toNat < 65536 := by
      rw [BitVec.toNat_and]
      exact Nat.lt_of_le_of_lt Nat.and_le_right (by decide)
    show IntKind.i64.wrap ((BitVec.ofInt 64 x &&& BitVec.ofInt 64 65535).toNat : Int) = _
    rw [IntKind.wrap_i64]
    omega
theorem need_le2 (a b : Nat) : needN a b ≤ 2 * a + 2 * b + 3 := by
  have h1 := rowsN_le a 48
  have h2 := rowsN_le b 60
  unfold needN
  omega
theorem quiet_add {P : Program} {f : FuncId} {args : Array Value} {w : World} {a n : Nat} {v : Value}
    (h : Calls P f args (w.drewN (a + n)) fun e w' => e = .returned v ∧ ∃ m, w' = (w.drewN (a + n)).drewN m) :
    Calls P f args (w.drewN (a + n)) fun e w'' => e = .returned v ∧ ∃ m, w'' = w.drewN (a + m) :=
  h.mono fun _ _ ⟨he, m, hm⟩ => ⟨he, n + m, by rw [hm, World.drewN_drewN, Nat.add_assoc]⟩
set_option maxRecDepth 100000 in
set_option maxHeartbeats 4000000 in
theorem lays (seq : Int) (ws : List Wr) (rs : List Int) (nw nr : Nat) (hnw : ws.length = nw) (hnr : rs.length = nr) (B : Nat) (A A' : Option Addr) (c c' : Nat) (hc : nw ≤ c) (hc' : nr ≤ c') (w : World) (hB : B ≤ w.heap.size)
    (hA : Wrs w B A ws) (hcap : Caps w A nw) (hA' : Sl w B A' (rs.map i64v)) (hT : Tab w) (hlw : nw ≤ 4398046511104) (hlr : nr ≤ 140737488351232) :
    Calls Tryd.prog 3 #[.int .i64 seq, .slice A nw c, .slice A' nr c'] w fun e w' => e = .returned (.bool true) ∧ Below w.heap.size w w' := by
  have HAW := Lib.hid (JAwake.awake_any w hT)
  have HLAY := Lib.hid (fun w1 (hb : Below w.heap.size w w1) => Lay_any seq ws rs nw nr hnw hnr B A A' c c' hc hc' w1 (Nat.le_trans hB hb.size) (hA.below hb hB) (hA'.below_le hb hB) (Tab.below hT hb (Tab.lt hT)))
  have hcapB : ∀ w1 (_ : Below w.heap.size w w1), Caps w1 A nw := fun w1 hb i hi a K m cc ha hcc => by
    obtain ⟨a', _, _, ha', hab, _⟩ := hA i (by omega)
    refine hcap i hi a K m cc ha ((hb.cell ?_).symm.trans hcc)
    rw [addr_add_block]
    rw [ha] at ha'
    injection ha' with ha'
    subst ha'
    omega
  have HREF := Lib.hid (fun w1 (hb : Below w.heap.size w w1) => refLay_any seq ws rs nw nr hnw hnr B A A' c c' w1 (Nat.le_trans hB hb.size) (hA.below hb hB) (hcapB w1 hb) (hA'.below_le hb hB) (by omega) (by omega))
  obtain ⟨N, hN⟩ : ∃ N, needN nw nr = N := ⟨_, rfl⟩
  have HND := Lib.hid (fun w => Need_wide nw nr (by omega) (by omega) w)
  have HNR := Lib.hid (fun w => refNeed_any nw nr (by omega) (by omega) w)
  rw [hN] at HND HNR
  have hN2 : N ≤ 800000000000000 := by have := need_le2 nw nr; omega
  have HLL : Hid ((lay seq ws rs).length = N) := Lib.hid (by rw [lay_len, hnw, hnr, hN])
  obtain ⟨y, hy, hye⟩ := low16 seq
  obtain ⟨N2, hN3⟩ : ∃ N2, needN y 0 = N2 := ⟨_, rfl⟩
  have HND2 := Lib.hid (fun w => Need_neg y (by omega) w)
  have HNR2 := Lib.hid (fun w => refNeed_neg y (by omega) w)
  rw [hN3] at HND2 HNR2
  have h256 : layOk seq ws rs = true → ∀ b ∈ lay seq ws rs, b.length = 256 := fun h => by
    have h7 := h
    unfold layOk at h7
    simp only [Bool.and_eq_true, decide_eq_true_eq] at h7
    obtain ⟨⟨⟨⟨⟨hw, hr⟩, h256⟩, hW⟩, hR⟩, hso⟩ := h7
    intro b hb
    rcases List.mem_append.1 hb with hb | hb
    · exact front_short hW hR h256 b hb
    · rw [List.mem_singleton.1 hb]
      exact recBytes_len (recMay_iff.1 (show recMay (commR seq _) = true by simp [recMay, commR, hasOk, restOk, hso])).2.1
  have H256 := Lib.hid h256
  have hsmall : layOk seq ws rs = true → N ≤ 100000 := fun h => by
    unfold layOk at h
    simp only [Bool.and_eq_true, decide_eq_true_eq] at h
    have := need_le2 nw nr
    omega
  have HSM := Lib.hid hsmall
  have hB1 := hB
  clear hT hA hA' hcap hcapB h256 hsmall hN hN3
  go_enter Tryd.func3, Tryd.ntmps3
  go_wp2_with fail
  refine HAW.out.mono ?_
  rintro e w1 ⟨rfl, hb1⟩
  have HB1 := Lib.hid hb1
  clear hb1
  go_wp2_with fail
  refine (HLAY.out w1 HB1.out).mono ?_
  rintro e w2 ⟨hyes, hno, hb2⟩
  have HB2 := Lib.hid (below_up HB1.out hb2 HB1.out.size)
  cases hok : layOk seq ws rs with
  | false =>
    obtain rfl := hno hok
    have HOK := Lib.hid hok
    clear hyes hno hb2 hok
    go_wp2_with fail
    refine (HREF.out w2 HB2.out).mono ?_
    rintro e w3 ⟨_, hno, hb3⟩
    obtain rfl := hno HOK.out
    have HB3 := Lib.hid (below_up HB2.out hb3 HB2.out.size)
    clear hno hb3
    go_wp2_with fail
    refine (HND.out _).mono ?_
    rintro e w4 ⟨rfl, hb4⟩
    have HB4 := Lib.hid (below_up HB3.out hb4 HB3.out.size)
    clear hb4
    go_wp2_with fail
    refine (HNR.out _).mono ?_
    rintro e w5 ⟨rfl, rfl⟩
    go_wp2_with fail
    refine (HND2.out _).mono ?_
    rintro e w6 ⟨rfl, hb6⟩
    have HB6 := Lib.hid (below_up HB4.out hb6 HB4.out.size)
    clear hb6
    go_wp2_with fail
    refine (HNR2.out _).mono ?_
    rintro e w7 ⟨rfl, rfl⟩
    have q1 : ((N : Int) != (N : Int)) = false := by simp
    have q2 : ((N2 : Int) != (N2 : Int)) = false := by simp
    go_wp2_with fail
    go_loop [12] (fun i => i = .int .i64 0) (fun _ => 0)
    case atStart => rfl
    case round =>
      obtain rfl := hrel
      go_wp2
      go_ret
      exact ⟨rfl, HB6.out⟩
  | true =>
    obtain ⟨v, n, rfl, hBl⟩ := hyes hok
    have hn : n = N := by rw [← HLL.out]; exact hBl.len.symm
    subst hn
    have HOK := Lib.hid hok
    have H26 := Lib.hid (H256.out hok)
    have hns := HSM.out hok
    obtain ⟨A1, c1, rfl, _⟩ := blks_row hBl
    have HBl := Lib.hid hBl
    clear hyes hno hb2 hok hBl
    go_wp2_with fail
    refine (HREF.out w2 HB2.out).mono ?_
    rintro e w3 ⟨hyes, _, hb3⟩
    obtain ⟨v, n', rfl, hBl2⟩ := hyes HOK.out
    have hn : n' = n := by rw [← HLL.out]; exact hBl2.len.symm
    subst hn
    obtain ⟨A2, c2, rfl, _⟩ := blks_row hBl2
    have HBl := Lib.hid (HBl.out.below hb3)
    have HBl2 := Lib.hid hBl2
    have HB3 := Lib.hid (below_up HB2.out hb3 HB2.out.size)
    clear hyes hb3 hBl2
    have q0 : ((n' : Int) != (n' : Int)) = false := by simp
    go_wp2_with fail
    refine (HND.out _).mono ?_
    rintro e w4 ⟨rfl, hb4⟩
    have HB4 := Lib.hid (below_up HB3.out hb4 HB3.out.size)
    have HBl := Lib.hid (HBl.out.below hb4)
    have HBl2 := Lib.hid (HBl2.out.below hb4)
    clear hb4
    go_wp2_with fail
    refine (HNR.out _).mono ?_
    rintro e w5 ⟨rfl, rfl⟩
    go_wp2_with fail
    refine (HND2.out _).mono ?_
    rintro e w6 ⟨rfl, hb6⟩
    have HB6 := Lib.hid (below_up HB4.out hb6 HB4.out.size)
    have HBl := Lib.hid (HBl.out.below hb6)
    have HBl2 := Lib.hid (HBl2.out.below hb6)
    clear hb6
    go_wp2_with fail
    refine (HNR2.out _).mono ?_
    rintro e w7 ⟨rfl, rfl⟩
    have q2 : ((N2 : Int) != (N2 : Int)) = false := by simp
    go_wp2_with fail
    have HCS : Hid (∀ k (h : k < n'), ∃ a1 K1 k1 a2 K2 k2 l, A1 = some a1 ∧ A2 = some a2 ∧ w6.cell? (a1.add k) = some (.slice K1 256 k1) ∧ w6.cell? (a2.add k) = some (.slice K2 256 k2) ∧
        ∀ m, Calls Tryd.prog 9 #[.slice K1 256 k1, .slice K2 256 k2] (w6.drewN m) fun e w' => e = .returned (.bool true) ∧ ∃ n, w' = (w6.drewN m).drewN n) := Lib.hid (fun k h => by
      obtain ⟨A1', c1', e1, us, b1, b2, b3, b4⟩ := blks_row HBl.out
      obtain ⟨A2', c2', e2, ys, d1, d2, d3, d4⟩ := blks_row HBl2.out
      injection e1 with e1 _ _
      injection e2 with e2 _ _
      subst e1
      subst e2
      have hk : k < (lay seq ws rs).length := by rw [HLL.out]; exact h
      obtain ⟨u, hu, hO⟩ := b4 k hk
      obtain ⟨u', hu', hO'⟩ := d4 k hk
      obtain ⟨K1, k1, rfl, hS1, _⟩ := hO.sl
      obtain ⟨K2, k2, rfl, hS2, _⟩ := hO'.sl
      obtain ⟨a1, rfl, _, g1⟩ := b1 k _ hu
      obtain ⟨a2, rfl, _, g2⟩ := d1 k _ hu'
      have hl := H26.out _ (List.getElem_mem hk)
      rw [hl] at g1 g2
      exact ⟨a1, K1, k1, a2, K2, k2, (lay seq ws rs)[k], rfl, rfl, g1, g2, fun m => Same_at 256 256 _ hl hl _ _ K1 K2 k1 k2 (w6.drewN m) (hS1.drewN m) (hS2.drewN m) (by decide)⟩)
    clear HBl HBl2
    go_loopw [12] (fun i wr => ∃ k m : Nat, k ≤ n' ∧ i = .int .i64 k ∧ wr = w6.drewN m) (fun i _ => n' - (intOf i).toNat)
    case atStart => exact ⟨0, 0, Nat.zero_le _, rfl, rfl⟩
    case round =>
      obtain ⟨k, m, hk, rfl, rfl⟩ := hrel
      by_cases hlt : k < n'
      · obtain ⟨a1, K1, k1, a2, K2, k2, _, rfl, rfl, g1, g2, hsame⟩ := HCS.out k hlt
        have HSA := Lib.hid hsame
        have hk0 : (0 : Int) ≤ (k : Int) := by omega
        have hk1 : (k : Int) < (n' : Int) := by omega
        clear hsame
        go_wp2_with fail
        go_quiet ((go_at_call 9; exact quiet_add (HSA.out _)))
        go_wp2
        go_roundw
        case rel => exact ⟨k + 1, _, by omega, by go_num, rfl⟩
        case measure => simp [intOf]; omega
      · obtain rfl : k = n' := by omega
        go_wp2_with fail
        refine (HND.out _).mono ?_
        rintro e w8 ⟨rfl, hb8⟩
        have HB8 := Lib.hid (below_up (below_drewN HB6.out m) hb8 (by have := HB6.out.size; simpa using this))
        clear hb8
        have q3 : ((k : Int) == (k : Int)) = true := by simp
        go_wp2
        go_ret
        exact ⟨rfl, HB8.out⟩
end Go.Proofs.YtkkcipjlinfieaaDoor.JLLays
namespace Go.Proofs.YtkkcipjlinfieaaDoor.JPLays
open Go.ChangeShapes Go.WideShapes Go.ChangeAt Go.RowKit WMem WPlain WCrc RowEnd Args Door JDoor3

set_option maxRecDepth 100000 in
theorem contract (H : Type) (enc : TypeId × Value → H) (W : World) (base : Nat) (args : Array Value) (ds gs : List (DataW H)) (before : List MemPlace)
    (hval : ∀ (j : Nat) t v, Tryd.f3.params[j]? = some t → args[j]? = some v → Value.okWide Tryd.prog W .any base t v)
    (hW : DataW.Whole enc Tryd.prog Tryd.f3.params.toList Rows.logLaysSpec.vars false W args.toList ds gs before)
    (hsz : (DataW.weightsEach Tryd.prog (Tryd.f3.params.toList ++ []) (ds ++ gs)).all (· ≤ reachBytes) = true) (hL : laidMetH Tryd.prog laid1 W) :
    Calls Tryd.prog 3 args W fun e W' => ∃ v, e = .returned v ∧ Rows.logLaysSpec.post enc Tryd.prog Tryd.f3 false true false false W args v W' := by
  have hW' := hW
  obtain ⟨p, q, hA0, hV, hbe, hfz, hnd⟩ := hW
  have hA : DataW.TrodAll enc Tryd.prog W 0 (fun _ => true) true Tryd.f3.params.toList args.toList ds p := hA0
  have hA1 := hA
  obtain ⟨rfl, rfl⟩ := trodVars_none hV
  rw [List.append_nil] at hbe hsz
  rw [Tryd.params3] at hA hval hsz
  obtain ⟨v0, vs0, d0, ds0, p0, q0, hargs, rfl, rfl, h0, r0⟩ := trodAll_cons hA
  obtain ⟨v1, vs1, d1, ds1, p1, q1, rfl, rfl, rfl, h1, r1⟩ := trodAll_cons r0
  obtain ⟨v2, vs2, d2, ds2, p2, q2, rfl, rfl, rfl, h2, r2⟩ := trodAll_cons r1
  obtain ⟨rfl, rfl, rfl⟩ := trodAll_nil r2
  obtain rfl : args = #[v0, v1, v2] := by cases args; simp_all
  obtain ⟨x0, rfl, rfl, rfl, w0⟩ := open_int i64t (hval 0 3 v0 rfl rfl) h0
  have b0 := bounds_i64 w0
  obtain ⟨A1, l1, c1, rfl, s1, k1, z1, y1⟩ := arg_wrs3 (hval 1 22 v1 rfl rfl) h1 hsz (j := 1) rfl rfl
  obtain ⟨A2, l2, c2, rfl, s2, z2, k2, y2⟩ := arg_ints ints i64t ci bi (hval 2 23 v2 rfl rfl) h2 hsz (j := 2) rfl rfl
  refine (JLLays.lays x0 l1 l2 _ _ rfl rfl _ A1 A2 c1 c2 k1 k2 W (Nat.le_refl _) s1 y1 s2 (tab_of hL) z1 (by omega)).mono fun e W' ⟨he, hb⟩ => ?_
  subst he
  refine ⟨_, rfl, law_post laidOut (by kernel_rfl) rfl boolt rfl rfl rfl rfl hW' hA1 (fun x hx => hW'.lt x (by rw [hbe]; exact hx)) hb⟩

abbrev start : Array Value := #[.int .i64 0, .slice none 0 0, .slice none 0 0]
theorem laid_met (os : Os) : laidMet Tryd.prog laid1 ((laidWorld os).forCall (fun _ _ => 0) ⟨#[], start, []⟩).memory :=
  laidMet_of_run' 8 (by kernel_rfl) (by kernel_rfl)
theorem reads (os : Os) {H : Type} (enc : TypeId × Value → H) : ∃ places, DataW.whole enc Tryd.prog ((laidWorld os).forCall (fun _ _ => 0) ⟨#[], start, []⟩).memory Tryd.f3.params.toList Rows.logLaysSpec.vars false start.toList 8 = some ([.lit (.int .i64 0), .nil, .nil], [], places) :=
  ⟨[], by kernel_rfl⟩

set_option maxRecDepth 100000 in
theorem lifted (os : Os) (started : os.Started) (H : Type) (enc : TypeId × Value → H) (F : Stop.Interp) :
    ReturnsInHanded {} Tryd.checked os 3 .any ((OpenSpec.ofChange Rows.logLaysSpec).preRow enc Tryd.prog Tryd.f3 Rows.logLaysRow.domain false Rows.logLaysRow.laid) (((OpenSpec.ofChange Rows.logLaysSpec).at F).post enc Tryd.prog Tryd.f3 false true false false) := by
  obtain ⟨places, hx⟩ := reads os enc
  refine returnsInHanded_of_row (C := Tryd.checked) (s := (OpenSpec.ofChange Rows.logLaysSpec)) own started (by kernel_rfl) Tryd.func3
    (witness_row_at (enc := enc) (C := Tryd.checked) false (laidWorld os) start rfl (by kernel_rfl) (by kernel_rfl) (by kernel_rfl)
      (OpenSpec.preRow_of_cond 8 hx (by kernel_rfl) (fun k hk => by cases hk) (by kernel_rfl) (laid_met os))) ?_
  intro W base args ds gs before hval hW _ _ hsz hL _ _
  exact contract H enc W base args ds gs before hval hW hsz hL

theorem said : Rows.LogLaysSaid :=
  OpenClaim.holds_of_cond 3 Tryd.f3 rfl rfl rfl rfl rfl rfl rfl ⟨rfl, rfl, rfl, rfl, rfl⟩ rfl rfl rfl rfl rfl (by kernel_rfl) Tryd.func3 (by kernel_rfl)
    (of_decide_eq_true (by kernel_rfl)) (by unfold Func.isWrapper; first | (rw [if_pos (by decide +kernel)]; kernel_rfl) | (rw [if_neg (by decide +kernel)]; exact ⟨rfl, rfl⟩))
    (fun os started H enc _ F => by rw [OpenClaim.pre_eq_preRow]; exact lifted os started H enc F)

theorem plain (f : FuncId) (fn : Func) (hf : Tryd.pinned.checked.prog.funcNamed "hayrick/hayricklaw07.LogLays" = some f) (hfn : Tryd.pinned.checked.prog.funcs[f]? = some fn) :
    true = Tryd.pinned.checked.prog.looks [] ∧ ∀ (j : Nat) t, fn.params[j]? = some t → Tryd.pinned.checked.prog.wantsStandIn t = false := by
  obtain rfl : f = 3 := Option.some.inj ((show Tryd.prog.funcNamed "hayrick/hayricklaw07.LogLays" = some 3 by kernel_rfl).symm.trans hf) |>.symm
  obtain rfl : fn = Tryd.f3 := (Option.some.inj (Tryd.func3.symm.trans hfn)).symm
  refine ⟨by kernel_rfl, fun j t ht => ?_⟩
  have hall : (Tryd.f3.params.toList.all fun u => !Tryd.prog.wantsStandIn u) = true := by kernel_rfl
  have := List.all_eq_true.1 hall t (Array.mem_toList_iff.2 (Array.mem_of_getElem? ht))
  exact (show Tryd.prog.wantsStandIn t = false by simpa using this)

theorem card : Rows.LogLaysCardSaid :=
  Claim7.holds_tied_plain_at .later [] _ _ _ _ said (fun _ h => by cases h) (by kernel_rfl) (fun _ h => by cases h) logLays_row_tie rfl ⟨rfl, rfl⟩ (by kernel_rfl) rfl plain (by kernel_rfl)
#print axioms card
end Go.Proofs.YtkkcipjlinfieaaDoor.JPLays
