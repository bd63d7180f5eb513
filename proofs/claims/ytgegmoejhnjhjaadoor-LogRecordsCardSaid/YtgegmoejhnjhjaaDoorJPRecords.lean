/- Proved: called with any record and any bytes, the statement LogRecords answers true, and its arguments read behind the call as before. Conditions: the row's own (each slice takes at most 2^47 - 4096 bytes; the package variable fourSteps starts as the program's text lays it, which the card ties). -/
import Derived.Carry
import Derived.ChangeSame
import Derived.OpenShut
import Derived.ProofKit
import Derived.WalkKit
import Derived.Test.YtgegmoejhnjhjaaDoorWMem
import Derived.SizedLaws
import Derived.Test.YtgegmoejhnjhjaaDoorCards
import Derived.Test.YtgegmoejhnjhjaaDoorTie
import Derived.Test.YtgegmoejhnjhjaaDoorWCrc
import Derived.Deep.DeepHandedRow
import Derived.Lib.LaidTab
import Derived.Test.YtgegmoejhnjhjaaDoorJMem
import Derived.Deep.Slices
import Derived.Deep.Fields
import Derived.Deep.Grids
import Derived.Laws.StructEq
import Derived.WalkSpells
import Derived.WalkLawsBesides
import Derived.Handy
import Derived.Outline
import Derived.BigQuiet
import Derived.Test.YtgegmoejhnjhjaaDoorJAwake
import Derived.Test.YtgegmoejhnjhjaaDoorJFull
import Derived.Test.YtgegmoejhnjhjaaDoorJTheirs
import Derived.Test.YtgegmoejhnjhjaaDoorJRUnp
namespace Go.Proofs.YtgegmoejhnjhjaaDoor.RowEnd
open Go.ChangeShapes Go.WideShapes Go.ChangeAt Go.RowKit
section
variable {H : Type} {enc : TypeId × Value → H} {P : Program}

theorem all_stay (hl : laidOutB P = true) {W W' : World} (hb : Below W.heap.size W W') : ∀ (ts : List TypeId) (vs : List Value) (ds : List (DataW H)) (ps : List MemPlace),
    (∀ t ∈ ts, P.readableRec t = true ∧ t < P.types.size) → DataW.TrodAll enc P W 0 (fun _ => true) true ts vs ds ps → (∀ x ∈ ps, x.block < W.heap.size) →
    DataW.TrodAll enc P W' 0 (fun b => decide (b < W.heap.size)) true ts vs ds ps
  | [], vs, ds, ps, _, h, _ => by
    obtain ⟨rfl, rfl, rfl⟩ := trodAll_nil h
    exact trodAll_mk0
  | t :: ts, vs, ds, ps, hts, h, hlt => by
    obtain ⟨v, vs', d, ds', p, q, rfl, rfl, rfl, h1, h2⟩ := trodAll_cons h
    obtain ⟨hr, hs⟩ := hts t (by simp)
    exact trodAll_cons_mk (Below.trod hl hr hs h1 hb (fun x hx => hlt x (by simp [hx])))
      (all_stay hl hb ts vs' ds' q (fun u hu => hts u (by simp [hu])) h2 (fun x hx => hlt x (by simp [hx])))

/-- the end of a law's row: true, and nothing of what was there has turned -/
theorem law_post {f : Func} {s : ChangeSpec} {tb : TypeId} {W W' : World} {args : Array Value} {ds : List (DataW H)} {before p : List MemPlace} {apart : Bool}
    (hl : laidOutB P = true) (hts : (f.params.toList.all fun t => P.readableRec t && decide (t < P.types.size)) = true) (hrt : f.resultTypes = #[tb]) (htb : P.underlying tb = some .bool) (hsv : s.vars = [])
    (hr : (s.fn H ds).results = [.lit (.bool true)]) (ha : (s.fn H ds).args = ds) (hv : (s.fn H ds).vars = [])
    (hW : DataW.Whole enc P f.params.toList s.vars apart W args.toList ds [] before) (hA : DataW.TrodAll enc P W 0 (fun _ => true) true f.params.toList args.toList ds p) (hlt : ∀ x ∈ p, x.block < W.heap.size)
    (hb : Below W.heap.size W W') : s.post enc P f apart true false false W args (.bool true) W' := by
  refine ⟨ds, [], before, [], p, [], hW, ?_, ?_, ?_, hb.frame _, fun h => by cases h⟩
  · rw [List.append_nil, hr, hrt]
    exact trodAll_mk1 (shut_bool htb true)
  · rw [List.append_nil, ha]
    refine all_stay hl hb _ _ _ _ (fun t ht => ?_) hA hlt
    have := List.all_eq_true.1 hts t ht
    simpa using this
  · rw [List.append_nil, hv, hsv]
    rfl
end
end Go.Proofs.YtgegmoejhnjhjaaDoor.RowEnd
namespace Go.Proofs.YtgegmoejhnjhjaaDoor.Args
open Go.ChangeShapes Go.WideShapes Go.ChangeAt Go.RowKit WMem
section
variable {H : Type} {enc : TypeId × Value → H} {P : Program}

/-- a datum that is a list of so many values -/
def HasLen (d : DataW H) (n : Nat) : Prop := n = 0 ∨ ∃ elems spare, d = .slice elems spare ∧ elems.length = n

theorem arg_len {k : IntKind} {t e : TypeId} {base : Nat} (ht : P.underlying t = some (.slice e)) (he : P.underlying e = some (.int k)) (hc : P.cellsOf e = 1)
    {W : World} {A : Option Addr} {n c : Nat} {d : DataW H} {p : List MemPlace} (_hv : Value.okWide P W .any base t (.slice A n c)) (h : DataW.Trod enc P W 0 (fun _ => true) true t (.slice A n c) d p) : HasLen d n := by
  obtain ⟨fuel, hf⟩ := h
  rcases open_ints ht he hc hf with ⟨hcs, hx⟩ | ⟨a, len', cap', zs, hcs, _, hl, hm, hz, hx, hcell, hwz⟩
  · simp [Value.cells] at hcs
    obtain ⟨rfl, rfl, rfl⟩ := hcs
    exact .inl rfl
  · simp [Value.cells] at hcs
    obtain ⟨rfl, rfl, rfl⟩ := hcs
    simp only [if_true] at hz
    simp only [Prod.mk.injEq] at hx
    obtain ⟨rfl, _⟩ := hx
    exact .inr ⟨_, _, rfl, by simp [lits]; omega⟩

theorem arg_list {k : IntKind} {t e : TypeId} {bytes base : Nat} (ht : P.underlying t = some (.slice e)) (he : P.underlying e = some (.int k)) (hc : P.cellsOf e = 1) (hby : P.bytesOf e = bytes)
    {W : World} {v : Value} {d : DataW H} {p : List MemPlace} (hv : Value.okWide P W .any base t v) (h : DataW.Trod enc P W 0 (fun _ => true) true t v d p)
    {ts : List TypeId} {ds : List (DataW H)} {j : Nat} (hsz : (DataW.weightsEach P ts ds).all (· ≤ reachBytes) = true) (htj : ts[j]? = some t) (hdj : ds[j]? = some d) :
    ∃ (A : Option Addr) (zs : List Int) (c : Nat), v = .slice A zs.length c ∧ (∀ n ∈ zs, (Lit.int k n).wf = true) ∧ Sl W W.heap.size A (zs.map (Value.int k)) ∧ zs.length * bytes ≤ 140737488351232 ∧ zs.length ≤ c ∧ (A = none → c = 0) := by
  obtain ⟨a0, len, cap, rfl⟩ := okWide_slice ht hv
  obtain ⟨fuel, hf⟩ := h
  rcases open_ints ht he hc hf with ⟨hcs, hx⟩ | ⟨a, len', cap', zs, hcs, _, hl, hm, hz, hx, hcell, hwz⟩
  · simp [Value.cells] at hcs
    obtain ⟨rfl, rfl, rfl⟩ := hcs
    exact ⟨none, [], 0, rfl, by simp, Sl.nil _ _ _, by simp, Nat.le_refl _, fun _ => rfl⟩
  · simp [Value.cells] at hcs
    obtain ⟨rfl, rfl, rfl⟩ := hcs
    simp only [if_true] at hz
    simp only [Prod.mk.injEq] at hx
    obtain ⟨rfl, _⟩ := hx
    have hs := sized_slice hsz htj hdj ht
    rw [hby] at hs
    simp only [lits, List.length_map, List.length_take, List.length_drop] at hs
    have hlen : (zs.take len).length = len := by simp; omega
    refine ⟨some a, zs.take len, cap, by rw [hlen], fun n hn => hwz n (List.mem_of_mem_take hn), ?_, ?_, by rw [hlen]; exact hl, fun h => by cases h⟩
    · intro k' u hu
      rw [List.getElem?_map, List.getElem?_take] at hu
      split at hu
      · rename_i hk
        have hk' : k' < zs.length := by omega
        rw [List.getElem?_eq_getElem hk'] at hu
        simp at hu
        subst hu
        have hc' := hcell k' hk'
        rw [List.getD_eq_getElem?_getD, List.getElem?_eq_getElem hk'] at hc'
        simp at hc'
        refine ⟨a, rfl, ?_, hc'⟩
        have := World.block_lt_of_cell? W _ hc'
        rwa [addr_add_block] at this
      · cases hu
    · rw [hlen]
      have h1 : min len zs.length + (zs.length - len) = cap := by omega
      rw [h1] at hs
      have h2 : reachBytes = 140737488351232 := by decide
      rw [h2] at hs
      exact Nat.le_trans (Nat.mul_le_mul_right _ hl) hs

theorem arg_u8s {t e : TypeId} {base : Nat} (ht : P.underlying t = some (.slice e)) (he : P.underlying e = some (.int .u8)) (hc : P.cellsOf e = 1) (hby : P.bytesOf e = 1)
    {W : World} {v : Value} {d : DataW H} {p : List MemPlace} (hv : Value.okWide P W .any base t v) (h : DataW.Trod enc P W 0 (fun _ => true) true t v d p)
    {ts : List TypeId} {ds : List (DataW H)} {j : Nat} (hsz : (DataW.weightsEach P ts ds).all (· ≤ reachBytes) = true) (htj : ts[j]? = some t) (hdj : ds[j]? = some d) :
    ∃ (A : Option Addr) (l : List UInt8) (c : Nat), v = .slice A l.length c ∧ Sl W W.heap.size A (l.map u8v) ∧ l.length ≤ 140737488351232 ∧ l.length ≤ c := by
  obtain ⟨A, zs, c, rfl, hw, hs, hb, hlc, _⟩ := arg_list ht he hc hby hv h hsz htj hdj
  have e1 : zs.map (Value.int .u8) = (zs.map fun z => UInt8.ofNat z.toNat).map u8v := by
    rw [List.map_map]
    apply List.map_congr_left
    intro z hz
    have := bounds_u8 (hw z hz)
    simp only [Function.comp, u8v]
    congr 1
    simp
    omega
  refine ⟨A, zs.map fun z => UInt8.ofNat z.toNat, c, by simp, by rw [← e1]; exact hs, by simpa using hb, by simpa using hlc⟩
theorem arg_u8s_bulk {t e : TypeId} {base : Nat} (ht : P.underlying t = some (.slice e)) (he : P.underlying e = some (.int .u8)) (hc : P.cellsOf e = 1) (hby : P.bytesOf e = 1)
    {W : World} {v : Value} {d : DataW H} {p : List MemPlace} (hv : Value.okWide P W .any base t v) (h : DataW.Trod enc P W 0 (fun _ => true) true t v d p)
    {ts : List TypeId} {ds : List (DataW H)} {j : Nat} (hsz : (DataW.weightsEach P ts ds).all (· ≤ reachBytes) = true) (htj : ts[j]? = some t) (hdj : ds[j]? = some d) :
    ∃ (A : Option Addr) (l : List UInt8) (c : Nat), v = .slice A l.length c ∧ Sl W W.heap.size A (l.map u8v) ∧ l.length ≤ 140737488351232 ∧ l.length ≤ c ∧ HasLen d l.length := by
  obtain ⟨A, l, c, rfl, h1, h2, h3⟩ := arg_u8s ht he hc hby hv h hsz htj hdj
  exact ⟨A, l, c, rfl, h1, h2, h3, arg_len ht he hc hv h⟩
theorem arg_u64s {t e : TypeId} {base : Nat} (ht : P.underlying t = some (.slice e)) (he : P.underlying e = some (.int .u64)) (hc : P.cellsOf e = 1) (hby : P.bytesOf e = 8)
    {W : World} {v : Value} {d : DataW H} {p : List MemPlace} (hv : Value.okWide P W .any base t v) (h : DataW.Trod enc P W 0 (fun _ => true) true t v d p)
    {ts : List TypeId} {ds : List (DataW H)} {j : Nat} (hsz : (DataW.weightsEach P ts ds).all (· ≤ reachBytes) = true) (htj : ts[j]? = some t) (hdj : ds[j]? = some d) :
    ∃ (A : Option Addr) (l : List UInt64) (c : Nat), v = .slice A l.length c ∧ Sl W W.heap.size A (l.map u64v) ∧ l.length ≤ 17592186043904 ∧ l.length ≤ c := by
  obtain ⟨A, zs, c, rfl, hw, hs, hb, hlc, _⟩ := arg_list ht he hc hby hv h hsz htj hdj
  have e1 : zs.map (Value.int .u64) = (zs.map fun z => UInt64.ofNat z.toNat).map u64v := by
    rw [List.map_map]
    apply List.map_congr_left
    intro z hz
    have := bounds_u64 (hw z hz)
    simp only [Function.comp, u64v]
    congr 1
    simp
    omega
  refine ⟨A, zs.map fun z => UInt64.ofNat z.toNat, c, by simp, by rw [← e1]; exact hs, by simp; omega, by simpa using hlc⟩
theorem arg_ints {t e : TypeId} {base : Nat} (ht : P.underlying t = some (.slice e)) (he : P.underlying e = some (.int .i64)) (hc : P.cellsOf e = 1) (hby : P.bytesOf e = 8)
    {W : World} {v : Value} {d : DataW H} {p : List MemPlace} (hv : Value.okWide P W .any base t v) (h : DataW.Trod enc P W 0 (fun _ => true) true t v d p)
    {ts : List TypeId} {ds : List (DataW H)} {j : Nat} (hsz : (DataW.weightsEach P ts ds).all (· ≤ reachBytes) = true) (htj : ts[j]? = some t) (hdj : ds[j]? = some d) :
    ∃ (A : Option Addr) (l : List Int) (c : Nat), v = .slice A l.length c ∧ Sl W W.heap.size A (l.map i64v) ∧ l.length ≤ 17592186043904 ∧ l.length ≤ c ∧ (∀ n ∈ l, -9223372036854775808 ≤ n ∧ n ≤ 9223372036854775807) := by
  obtain ⟨A, zs, c, rfl, hw, hs, hb, hlc, _⟩ := arg_list ht he hc hby hv h hsz htj hdj
  exact ⟨A, zs, c, rfl, hs, by omega, hlc, fun n hn => bounds_i64 (hw n hn)⟩
end
end Go.Proofs.YtgegmoejhnjhjaaDoor.Args
namespace Go.Proofs.YtgegmoejhnjhjaaDoor.Door
open Go.ChangeShapes Go.WideShapes Go.ChangeAt Go.RowKit WMem WPlain WCrc RowEnd Args

theorem own : ownKnob Tryd.prog.godebug = none := by kernel_rfl
theorem laidOut : laidOutB Tryd.prog = true := by kernel_rfl
theorem gTab : Tryd.prog.globalNamed "hayrick/wire.fourSteps" = some 0 := by kernel_rfl
theorem gTabType : (Tryd.prog.globals[0]?).map (·.type) = some 124 := by kernel_rfl
theorem uTab : Tryd.prog.underlying 124 = some (.array 16 23) := by kernel_rfl
theorem u32t : Tryd.prog.underlying 23 = some (.int .u32) := by kernel_rfl
theorem u8t : Tryd.prog.underlying 5 = some (.int .u8) := by kernel_rfl
theorem u64t : Tryd.prog.underlying 63 = some (.int .u64) := by kernel_rfl
theorem i64t : Tryd.prog.underlying 3 = some (.int .i64) := by kernel_rfl
theorem boolt : Tryd.prog.underlying 4 = some .bool := by kernel_rfl
theorem u8s : Tryd.prog.underlying 26 = some (.slice 5) := by kernel_rfl
theorem u64s : Tryd.prog.underlying 62 = some (.slice 63) := by kernel_rfl
theorem ints : Tryd.prog.underlying 45 = some (.slice 3) := by kernel_rfl
theorem cTab : Tryd.prog.cellsOf 124 = 16 := by kernel_rfl
theorem c32 : Tryd.prog.cellsOf 23 = 1 := by kernel_rfl
theorem c8 : Tryd.prog.cellsOf 5 = 1 := by kernel_rfl
theorem c64 : Tryd.prog.cellsOf 63 = 1 := by kernel_rfl
theorem ci : Tryd.prog.cellsOf 3 = 1 := by kernel_rfl
theorem b8 : Tryd.prog.bytesOf 5 = 1 := by kernel_rfl
theorem b64 : Tryd.prog.bytesOf 63 = 8 := by kernel_rfl
theorem bi : Tryd.prog.bytesOf 3 = 8 := by kernel_rfl

/-- what every row of this seat lists -/
abbrev laid1 : List (String × DataW Unit) := [("hayrick/wire.fourSteps", Rows.laid_hayrick_wire_fourSteps)]
/-- the list gives the table's cells -/
theorem tab_of {W : World} (h : laidMetH Tryd.prog laid1 W) : Tab W := by
  have ht : Lib.TabIs Tryd.prog W "hayrick/wire.fourSteps" .u32 (tab.map fun (n : Nat) => (n : Int)) :=
    Lib.tabIs_of_head (rest := []) gTab gTabType uTab u32t c32 cTab h
  intro r hr
  rw [ht.cell gTab r (by simpa [tab] using hr)]
  simp only [List.getD_eq_getElem?_getD, List.getElem?_map]
  rw [List.getElem?_eq_getElem (by simpa [tab] using hr)]
  rfl

/-- what the second form's bound gives of each list -/
theorem bulk_pos {H : Type} (d : DataW H) : 1 ≤ Rows.uptoBulk d := by
  cases d with
  | lit l => cases l <;> simp [Rows.uptoBulk]
  | nil => simp [Rows.uptoBulk]
  | ptr d => simp [Rows.uptoBulk]
  | slice elems spare => simp [Rows.uptoBulk]
  | agg parts => simp [Rows.uptoBulk]
  | iface t d => simp [Rows.uptoBulk]
  | map entries => simp [Rows.uptoBulk]
  | held h => simp [Rows.uptoBulk]
theorem bulk_many {H : Type} (l : List (DataW H)) : l.length ≤ Rows.uptoBulkAll l ∧ ∀ d ∈ l, Rows.uptoBulk d ≤ Rows.uptoBulkAll l := by
  induction l with
  | nil => exact ⟨Nat.zero_le _, by simp⟩
  | cons x r ih =>
    have := bulk_pos x
    refine ⟨by simp only [Rows.uptoBulkAll, List.length_cons]; omega, fun d hd => ?_⟩
    simp only [Rows.uptoBulkAll]
    rcases List.mem_cons.1 hd with rfl | hd
    · omega
    · have := ih.2 d hd; omega
theorem small_each {H : Type} {ds : List (DataW H)} (hk : Rows.uptoSmall H ds = true) : ∀ d ∈ ds, ∀ n : Nat, HasLen d n → n ≤ 1048576 := by
  intro d hd n hn
  have h1 := of_decide_eq_true hk
  have h2 := (bulk_many ds).2 d hd
  rcases hn with rfl | ⟨elems, spare, rfl, rfl⟩
  · omega
  · have h3 := (bulk_many elems).1
    simp only [Rows.uptoBulk] at h2
    omega

/-- a world for a witness: the settled one, the table holding what its initialiser lays -/
noncomputable def laidWorld (os : Os) : World :=
  { World.holding Tryd.prog os ⟨#[], #[], []⟩ with heap := (World.holding Tryd.prog os ⟨#[], #[], []⟩).heap.modify 0 fun
      | .cells _ t frozen => .cells (tab.map fun (n : Nat) => Value.int .u32 (n : Int)).toArray t frozen
      | o => o }
end Go.Proofs.YtgegmoejhnjhjaaDoor.Door
namespace Go.Proofs.YtgegmoejhnjhjaaDoor.JDoor
open Go.ChangeShapes Go.WideShapes Go.ChangeAt Go.RowKit Go.Deep WMem RowEnd Args Door JPlain JMem

section
variable {H : Type} {enc : TypeId × Value → H} {P : Program} {w : World} {base : Nat} {spare : Nat → Bool} {held : Bool}
theorem fields_of {e : TypeId} {fs : Array Field} {fuel : Nat} {cs : List Value} {x : DataW H × List MemPlace} (he : P.underlying e = some (.struct fs)) (hone : oneCellFields P fs = true) (hl : cs.length = fs.size)
    (h : DataW.trod enc P w base spare held fuel e cs = some x) (j : Nat) (f : Field) (hj : fs[j]? = some f) : ∃ v y n', cs[j]? = some v ∧ DataW.trod enc P w base spare held n' f.type [v] = some y := by
  obtain ⟨ys, n', hn', hy, hlen, hyl, hf⟩ := DataW.trod_struct he h
  obtain ⟨ho, hk⟩ := hone_of hone j f hj
  have hjl : j < fs.size := (Array.getElem?_eq_some_iff.1 hj).1
  have h1 := hf j f hj
  rw [ho, hk] at h1
  have hone' : (cs.drop j).take 1 = [cs[j]'(by omega)] := by
    rw [List.drop_eq_getElem_cons (by omega)]
    rfl
  rw [hone'] at h1
  have hys : ys[j]? = some (ys[j]'(by omega)) := List.getElem?_eq_getElem (by omega)
  exact ⟨_, _, n', List.getElem?_eq_getElem (by omega), h1.trans hys⟩
theorem open_slice_fields {t e : TypeId} {fs : Array Field} {fuel : Nat} {cs : List Value} {x : DataW H × List MemPlace} (ht : P.underlying t = some (.slice e)) (he : P.underlying e = some (.struct fs))
    (hone : oneCellFields P fs = true) (hC : P.cellsOf e = fs.size) (h : DataW.trod enc P w base spare held fuel t cs = some x) :
    (cs = [.slice none 0 0] ∧ x = (.nil, [])) ∨
    ∃ (a : Addr) (len cap m : Nat) (D : Nat → DataW H) (Pl : Nat → List MemPlace), cs = [.slice (some a) len cap] ∧ base ≤ a.block ∧ len ≤ cap ∧ cap ≤ maxLen ∧ m = (if spare a.block then cap else len) ∧
      x = (.slice ((List.range len).map D) ((List.range (m - len)).map fun j => D (len + j)), MemPlace.row a (m * fs.size) ++ (List.range m).flatMap Pl) ∧
      ∀ i, i < m → ∃ (ys : List (DataW H × List MemPlace)) (n : Nat), D i = .agg (ys.map (·.1)) ∧ Pl i = ys.flatMap (·.2) ∧ ys.length = fs.size ∧
        ∀ (j : Nat) (f : Field), fs[j]? = some f → ∃ (v : Value) (y : DataW H × List MemPlace), w.cell? (a.add (i * fs.size + j)) = some v ∧ ys[j]? = some y ∧ DataW.trod enc P w base spare held n f.type [v] = some y := by
  rcases open_slice ht h with h0 | ⟨a, len, cap, m, n, D, Pl, hcs, hb, hl, hm, hmm, hx, hi⟩
  · exact .inl h0
  · refine .inr ⟨a, len, cap, m, D, Pl, hcs, hb, hl, hm, hmm, by rw [hC] at hx; exact hx, fun i him => ?_⟩
    obtain ⟨cs', hc, ht'⟩ := hi i him
    rw [hC] at hc
    obtain ⟨ys, n', hn', hy, hlen, hyl, hf⟩ := DataW.trod_struct he ht'
    obtain ⟨_, hcl, hat⟩ := World.cells?_some hc
    simp only [Prod.mk.injEq] at hy
    refine ⟨ys, n', hy.1, hy.2, hyl, fun j f hj => ?_⟩
    obtain ⟨ho, hk⟩ := hone_of hone j f hj
    have hjl : j < fs.size := (Array.getElem?_eq_some_iff.1 hj).1
    have hcell := hat j hjl
    have hv : cs'[j]? = some (cs'[j]'(by omega)) := List.getElem?_eq_getElem (by omega)
    have h1 := hf j f hj
    rw [ho, hk] at h1
    have hone' : (cs'.drop j).take 1 = [cs'[j]'(by omega)] := by
      rw [List.drop_eq_getElem_cons (by omega)]
      rfl
    rw [hone'] at h1
    have hys : ys[j]? = some (ys[j]'(by omega)) := List.getElem?_eq_getElem (by omega)
    refine ⟨_, _, ?_, hys, h1.trans hys⟩
    rw [← Go.Deep.add_add, hcell, hv]

end
instance : Inhabited Ent := ⟨⟨0, false⟩⟩
section
variable {H : Type} {enc : TypeId × Value → H} {P : Program} {w : World} {base : Nat} {held : Bool}
/-- a slice of entries: structs of a number and a yes or no -/
theorem ents_open {t e : TypeId} {f0 f1 : Field} {fuel : Nat} {v : Value} {x : DataW H × List MemPlace} (ht : P.underlying t = some (.slice e)) (he : P.underlying e = some (.struct #[f0, f1])) (hone : oneCellFields P #[f0, f1] = true) (hC : P.cellsOf e = 2)
    (t0 : P.underlying f0.type = some (.int .i64)) (t1 : P.underlying f1.type = some .bool) (h : DataW.trod enc P w base (fun _ => true) held fuel t [v] = some x) :
    ∃ (A : Option Addr) (l : List Ent) (c : Nat), v = .slice A l.length c ∧ Ents w w.heap.size A l ∧ (l.length = 0 ∨ ∃ es sp, x.1 = .slice es sp ∧ l.length = es.length) := by
  rcases open_slice_fields ht he hone hC h with ⟨hcs, hx⟩ | ⟨a, len, cap, m, D, Pl, hcs, _, hl, _, hmm, hx, hi⟩
  · obtain rfl : v = .slice none 0 0 := by simpa using hcs
    exact ⟨none, [], 0, rfl, Ents.nil _ _ _, .inl rfl⟩
  · obtain rfl : v = .slice (some a) len cap := by simpa using hcs
    simp only [if_true] at hmm
    subst hmm
    obtain ⟨B, hB⟩ := choose_lt (α := Ent) (n := len) (p := fun i o => w.cell? (a.add (i * 2)) = some (.int .i64 o.blk) ∧ w.cell? (a.add (i * 2 + 1)) = some (.bool o.esc)) (fun i hil => by
      obtain ⟨ys, n, _, _, _, hf⟩ := hi i (by omega)
      obtain ⟨v0, y0, c0, _, g0⟩ := hf 0 f0 rfl
      obtain ⟨v1, y1, c1, _, g1⟩ := hf 1 f1 rfl
      obtain ⟨n0, e0, _⟩ := DataW.trod_int t0 g0
      obtain ⟨n1, e1, _⟩ := DataW.trod_bool t1 g1
      obtain rfl : v0 = .int .i64 n0 := by simpa using e0
      obtain rfl : v1 = .bool n1 := by simpa using e1
      exact ⟨⟨n0, n1⟩, c0, c1⟩)
    refine ⟨some a, (List.range len).map B, m, by simp, (fun i hi' => ?_), .inr ⟨_, _, by rw [hx], by simp⟩⟩
    have hil : i < len := by simpa using hi'
    obtain ⟨c0, c1⟩ := hB i hil
    have hbk := World.block_lt_of_cell? w _ c0
    rw [addr_add_block] at hbk
    have e : ((List.range len).map B)[i] = B i := by simp
    rw [e]
    exact ⟨a, rfl, hbk, c0, c1⟩
/-- the slice in a record takes no more than the reach -/
theorem sized_in {ts : List TypeId} {ds : List (DataW H)} (hsz : (DataW.weightsEach P ts ds).all (· ≤ reachBytes) = true) {j : Nat} {t : TypeId} {parts : List (DataW H)} {fs : Array Field} (htj : ts[j]? = some t) (hdj : ds[j]? = some (.agg parts)) (hu : P.underlying t = some (.struct fs))
    {i : Nat} {f : Field} {e : TypeId} {es sp : List (DataW H)} (hf : fs[i]? = some f) (hp : parts[i]? = some (.slice es sp)) (hue : P.underlying f.type = some (.slice e)) : (es.length + sp.length) * P.bytesOf e ≤ reachBytes := by
  have hin : ∀ n ∈ DataW.weightsEach P (fs.toList.map (·.type)) parts, n ≤ reachBytes := fun n hn => by
    have := List.all_eq_true.1 hsz n (DataW.weights_mem_each htj hdj n (by simp only [DataW.weights, hu]; exact hn))
    simpa using this
  refine hin _ (DataW.weights_mem_each (j := i) (t := f.type) (d := .slice es sp) (by rw [List.getElem?_map, Array.getElem?_toList, hf]; rfl) hp _ ?_)
  simp [DataW.weights, hue]
end
theorem cent : Tryd.prog.cellsOf 69 = 2 := by kernel_rfl
theorem bent : Tryd.prog.bytesOf 69 = 16 := by kernel_rfl
theorem uents : Tryd.prog.underlying 22 = some (.slice 69) := by kernel_rfl
theorem uent : ∃ f0 f1, Tryd.prog.underlying 69 = some (.struct #[f0, f1]) ∧ oneCellFields Tryd.prog #[f0, f1] = true ∧ f0.type = 3 ∧ f1.type = 4 :=
  ⟨_, _, Tryd.underlying69, by kernel_rfl, rfl, rfl⟩
theorem crec : Tryd.prog.cellsOf 25 = 5 := by kernel_rfl
theorem urec : ∃ f0 f1 f2 f3 f4, Tryd.prog.underlying 25 = some (.struct #[f0, f1, f2, f3, f4]) ∧ oneCellFields Tryd.prog #[f0, f1, f2, f3, f4] = true ∧ f0.type = 3 ∧ f1.type = 3 ∧ f2.type = 22 ∧ f3.type = 23 ∧ f4.type = 3 :=
  ⟨_, _, _, _, _, Tryd.underlying25, by kernel_rfl, rfl, rfl, rfl, rfl, rfl⟩
section
variable {H : Type} {enc : TypeId × Value → H}
set_option maxRecDepth 100000 in
theorem arg_rec {W : World} {b0 : Nat} {v : Value} {d : DataW H} {p : List MemPlace} (hv : Value.okWide Tryd.prog W .any b0 25 v) (h : DataW.Trod enc Tryd.prog W 0 (fun _ => true) true 25 v d p)
    {ts : List TypeId} {ds : List (DataW H)} {j : Nat} (hsz : (DataW.weightsEach Tryd.prog ts ds).all (· ≤ reachBytes) = true) (htj : ts[j]? = some 25) (hdj : ds[j]? = some d) :
    ∃ (r : Rec) (A : Option Addr) (c : Nat), v = recV r A c ∧ Ents W W.heap.size A r.ents ∧ r.ents.length ≤ 8796093022207 ∧ r.sum < 4294967296 := by
  obtain ⟨f0, f1, f2, f3, f4, hu, hone, e0, e1, e2, e3, e4⟩ := urec
  obtain ⟨g0, g1, gu, gone, k0, k1⟩ := uent
  obtain ⟨cs, rfl, hc⟩ := okWide_struct hu hv
  obtain ⟨fuel, hf⟩ := h
  have hlen : cs.toList.length = 5 := by rw [crec] at hc; simpa [Value.cells] using hc
  have hf' : DataW.trod enc Tryd.prog W 0 (fun _ => true) true fuel 25 cs.toList = some (d, p) := by simpa [Value.cells] using hf
  obtain ⟨ys, n', hn', hy, hl2, hyl, hg⟩ := DataW.trod_struct hu hf'
  have hd : d = .agg (ys.map (·.1)) := (Prod.mk.inj hy).1
  have at_ : ∀ (i : Nat) (f : Field), (#[f0, f1, f2, f3, f4] : Array Field)[i]? = some f → ∃ (u : Value) (y : DataW H × List MemPlace), cs.toList[i]? = some u ∧ ys[i]? = some y ∧ DataW.trod enc Tryd.prog W 0 (fun _ => true) true n' f.type [u] = some y := fun i f hi => by
    obtain ⟨ho, hk⟩ := hone_of hone i f hi
    have hil : i < 5 := (Array.getElem?_eq_some_iff.1 hi).1
    have h1 := hg i f hi
    rw [ho, hk] at h1
    have hone' : (cs.toList.drop i).take 1 = [cs.toList[i]'(by omega)] := by
      rw [List.drop_eq_getElem_cons (by omega)]
      rfl
    rw [hone'] at h1
    have hyl5 : ys.length = 5 := hyl
    have hys : ys[i]? = some (ys[i]'(by omega)) := List.getElem?_eq_getElem (by omega)
    exact ⟨_, _, List.getElem?_eq_getElem (by omega), hys, h1.trans hys⟩
  obtain ⟨u0, y0, q0, _, h0⟩ := at_ 0 f0 rfl
  obtain ⟨u1, y1, q1, _, h1⟩ := at_ 1 f1 rfl
  obtain ⟨u2, y2, q2, z2, h2⟩ := at_ 2 f2 rfl
  obtain ⟨u3, y3, q3, _, h3⟩ := at_ 3 f3 rfl
  obtain ⟨u4, y4, q4, _, h4⟩ := at_ 4 f4 rfl
  obtain ⟨x0, r0, _⟩ := DataW.trod_int (by rw [e0]; exact i64t) h0
  obtain ⟨x1, r1, _⟩ := DataW.trod_int (by rw [e1]; exact i64t) h1
  rw [e2] at h2
  obtain ⟨A, l, c, r2, hE, hsl⟩ := ents_open uents gu gone cent (by rw [k0]; exact i64t) (by rw [k1]; exact boolt) h2
  obtain ⟨x3, r3, _, w3⟩ := DataW.trod_int (by rw [e3]; exact u32t) h3
  obtain ⟨x4, r4, _⟩ := DataW.trod_int (by rw [e4]; exact i64t) h4
  obtain rfl : u0 = .int .i64 x0 := by simpa using r0
  obtain rfl : u1 = .int .i64 x1 := by simpa using r1
  obtain rfl : u3 = .int .u32 x3 := by simpa using r3
  obtain rfl : u4 = .int .i64 x4 := by simpa using r4
  subst r2
  have b3 := bounds_u32 w3
  obtain ⟨s, rfl⟩ := Int.eq_ofNat_of_zero_le b3.1
  refine ⟨⟨x0, x1, l, s, x4⟩, A, c, ?_, hE, ?_, by simp only; omega⟩
  · unfold recV
    congr 1
    obtain ⟨L⟩ := cs
    simp only at hlen q0 q1 q2 q3 q4
    match L, hlen with
    | [v0, v1, v2, v3, v4], _ =>
      simp at q0 q1 q2 q3 q4
      subst q0 q1 q2 q3 q4
      rfl
  · simp only
    rcases hsl with hsl | ⟨es, sp, e, hl⟩
    · omega
    · subst hd
      have hs := sized_in hsz htj hdj hu (i := 2) (f := f2) (e := 69) (es := es) (sp := sp) rfl (by rw [List.getElem?_map, z2]; simp [e]) (by rw [e2]; exact uents)
      have hr : reachBytes = 140737488351232 := by decide
      rw [hr, bent] at hs
      omega
end
end Go.Proofs.YtgegmoejhnjhjaaDoor.JDoor
namespace Go.Proofs.YtgegmoejhnjhjaaDoor.JRSame
open Go.RowKit WMem WPlain JPlain JMem

theorem ent_neq (b : Int) (q : Bool) (w : World) : (binOp .neq 69 (.agg #[.int .i64 b, .bool q]) (.agg #[.int .i64 b, .bool q])).run Tryd.prog w = .ok (.bool false) w := by
  have hf : (Tryd.prog.fieldsOf 69).toList.map (fun f => (f.name, f.type, f.offset)) = [("Block", 3, 0), ("Escaped", 4, 1)] := by kernel_rfl
  have h0 : (part 3 #[.int .i64 b, .bool q] 0).run Tryd.prog w = .ok (.int .i64 b) w := run_part_plain (P := Tryd.prog) w (by kernel_rfl) rfl
  have h1 : (part 4 #[.int .i64 b, .bool q] 1).run Tryd.prog w = .ok (.bool q) w := run_part_plain (P := Tryd.prog) w (by kernel_rfl) rfl
  have e0 : (Op.equalIn 9999 3 (.int .i64 b) (.int .i64 b)).run Tryd.prog w = .ok true w := by
    rw [run_equalIn_int w 9998 3 .i64 .i64 _ _ (by kernel_rfl)]; simp
  have e1 : (Op.equalIn 9999 4 (.bool q) (.bool q)).run Tryd.prog w = .ok true w := by
    rw [run_equalIn_bool' w 9998 4 _ _ (by kernel_rfl)]; simp
  rw [run_neq_struct, run_equalIn_agg w 9999 _ _ _ (by kernel_rfl) (by kernel_rfl)]
  generalize (Tryd.prog.fieldsOf 69).toList = L at *
  obtain ⟨f0, f1, rfl⟩ : ∃ f0 f1, L = [f0, f1] := by
    have hl := congrArg List.length hf
    simp only [List.length_map, List.length_cons, List.length_nil, Nat.zero_add, Nat.reduceAdd] at hl
    obtain ⟨f0, L1, rfl⟩ := List.exists_cons_of_length_eq_add_one hl
    obtain ⟨f1, L2, rfl⟩ := List.exists_cons_of_length_eq_add_one (Nat.succ.inj hl)
    exact ⟨f0, f1, by rw [List.eq_nil_of_length_eq_zero (Nat.succ.inj (Nat.succ.inj hl))]⟩
  · simp only [List.map_cons, List.map_nil, List.cons.injEq, Prod.mk.injEq, and_true] at hf
    obtain ⟨⟨g0, g1, g2⟩, g3, g4, g5⟩ := hf
    simp only [Op.eqFields, g0, g1, g2, g3, g4, g5, h0, h1, e0, e1, Sem.run_bind, Result.andThen_ok, Bool.not_true, Bool.false_eq_true, if_false, Sem.run_pure, if_true, ne_eq, String.reduceEq, not_false_eq_true]
def two (r : Rec) (A A' : Option Addr) (n c c' : Nat) (w : World) : World := (w.alloc (.cells #[.int .i64 r.kind, .int .i64 r.seq, .slice A n c, .int .u32 (r.sum : Int), .int .i64 r.start] 25)).alloc (.cells #[.int .i64 r.kind, .int .i64 r.seq, .slice A' n c', .int .u32 (r.sum : Int), .int .i64 r.start] 25)
set_option maxRecDepth 100000 in
set_option maxHeartbeats 4000000 in
theorem refSame_yes (r : Rec) (B B' : Nat) (A A' : Option Addr) (c c' : Nat) (w : World) (hB : B ≤ w.heap.size) (hB' : B' ≤ w.heap.size) (hA : Ents w B A r.ents) (hA' : Ents w B' A' r.ents) (hl : r.ents.length ≤ 140737488355328) :
    Calls Tryd.prog 17 #[recV r A c, recV r A' c'] w fun e w' => e = .returned (.bool true) ∧ Below w.heap.size w w' := by
  unfold recV
  generalize hn : r.ents.length = n at *
  have HN := Lib.hid hn
  have HA := Lib.hid ((hA.alloc hB (.cells #[.int .i64 r.kind, .int .i64 r.seq, .slice A n c, .int .u32 (r.sum : Int), .int .i64 r.start] 25)).alloc (by simp; omega) (.cells #[.int .i64 r.kind, .int .i64 r.seq, .slice A' n c', .int .u32 (r.sum : Int), .int .i64 r.start] 25))
  have HA' := Lib.hid ((hA'.alloc hB' (.cells #[.int .i64 r.kind, .int .i64 r.seq, .slice A n c, .int .u32 (r.sum : Int), .int .i64 r.start] 25)).alloc (by simp; omega) (.cells #[.int .i64 r.kind, .int .i64 r.seq, .slice A' n c', .int .u32 (r.sum : Int), .int .i64 r.start] 25))
  have HB := Lib.hid (((below_box (w := w) (.cells #[.int .i64 r.kind, .int .i64 r.seq, .slice A n c, .int .u32 (r.sum : Int), .int .i64 r.start] 25)).alloc (by simp) (.cells #[.int .i64 r.kind, .int .i64 r.seq, .slice A' n c', .int .u32 (r.sum : Int), .int .i64 r.start] 25)))
  clear hA hA' hn
  have hq := ent_neq
  go_enter Tryd.func17, Tryd.ntmps17
  go_wp2
  go_loopw [5] (fun i wr => ∃ k m : Nat, k ≤ n ∧ i = .int .i64 k ∧ wr = (two r A A' n c c' w).drewN m) (fun i _ => n - (intOf i).toNat)
  case atStart => exact ⟨0, 0, Nat.zero_le _, rfl, rfl⟩
  case round =>
    obtain ⟨k, m, hk, rfl, rfl⟩ := hrel
    unfold two
    by_cases hlt : k < n
    · have hlt' : k < r.ents.length := by rw [HN.out]; exact hlt
      obtain ⟨a, rfl, _, c0, c1⟩ := HA.out.at_ hlt'
      obtain ⟨a', rfl, _, c0', c1'⟩ := HA'.out.at_ hlt'
      generalize hx : r.ents[k] = x at *
      obtain ⟨b, q⟩ := x
      clear hx hlt'
      go_wp2
      go_quiet (fail)
      go_wp2
      go_roundw
      case rel => exact ⟨k + 1, m + nq, by omega, by go_num, rfl⟩
      case measure => simp [intOf]; omega
    · go_wp2
      go_ret
      exact ⟨rfl, below_drewN HB.out m⟩
end Go.Proofs.YtgegmoejhnjhjaaDoor.JRSame
namespace Go.Proofs.YtgegmoejhnjhjaaDoor.JLRecords
open Go.RowKit WMem WPlain WHelp WFace2 WWide WAny WCrc WSeal SNums SEqual JPlain JMem JBody JPack JPackFace JRead JUnpack JFull JAwake JMine JTheirs JRSame JLOnly JRMay JRPack JRUnp

/-- two boxes, cell by cell -/
theorem ten {a b w : World} {u0 u1 u2 u3 u4 v0 v1 v2 v3 v4 : Value} (h : JMem.Boxed a w [u0, u1, u2, u3, u4]) (k : JMem.Boxed b w [v0, v1, v2, v3, v4]) :
    w.cell? ⟨a.heap.size, 0, none⟩ = some u0 ∧ w.cell? ⟨a.heap.size, 1, none⟩ = some u1 ∧ w.cell? ⟨a.heap.size, 2, none⟩ = some u2 ∧ w.cell? ⟨a.heap.size, 3, none⟩ = some u3 ∧ w.cell? ⟨a.heap.size, 4, none⟩ = some u4 ∧
      w.cell? ⟨b.heap.size, 0, none⟩ = some v0 ∧ w.cell? ⟨b.heap.size, 1, none⟩ = some v1 ∧ w.cell? ⟨b.heap.size, 2, none⟩ = some v2 ∧ w.cell? ⟨b.heap.size, 3, none⟩ = some v3 ∧ w.cell? ⟨b.heap.size, 4, none⟩ = some v4 := by
  obtain ⟨h0, h1, h2, h3, h4⟩ := h.five
  obtain ⟨k0, k1, k2, k3, k4⟩ := k.five
  exact ⟨h0, h1, h2, h3, h4, k0, k1, k2, k3, k4⟩
theorem recV_eq (r : Rec) (A : Option Addr) (n c : Nat) (hn : r.ents.length = n) : recV r A c = .agg #[.int .i64 r.kind, .int .i64 r.seq, .slice A n c, .int .u32 (r.sum : Int), .int .i64 r.start] := by subst hn; rfl
/-- both answers to one record -/
theorem packs_same (r : Rec) : ∃ (e : Int) (l : List UInt8), (∀ w x w', PackR r w x w' → ∃ v, x = .returned (.tuple #[v, .int .i64 e]) ∧ WAny.Own w' w.heap.size v l ∧ Below w.heap.size w w') ∧
    (∀ w x w', RefR r w x w' → ∃ v, x = .returned (.tuple #[v, .int .i64 e]) ∧ WAny.Own w' w.heap.size v l ∧ Below w.heap.size w w') ∧ l.length ≤ 256 := by
  cases hm : recMay r with
  | false =>
    refine ⟨22, [], fun w x w' h => ⟨_, h.2.1 hm, .inl ⟨rfl, rfl⟩, h.2.2⟩, fun w x w' h => ⟨_, h.2.1 hm, .inl ⟨rfl, rfl⟩, h.2.2⟩, by decide⟩
  | true =>
    have hl := recBytes_len (recMay_iff.1 hm).2.1
    refine ⟨0, recBytes r, fun w x w' h => ?_, fun w x w' h => ?_, by omega⟩
    · obtain ⟨g, h1, h2, h3⟩ := h.1 hm
      exact ⟨_, h1, .inr ⟨g, 256, [], by rw [hl], h2, by omega, h3⟩, h.2.2⟩
    · obtain ⟨v, h1, h2⟩ := h.1 hm
      exact ⟨v, h1, h2, h.2.2⟩
theorem unpR_small (b : List UInt8) : (unpR b).ents.length ≤ 61 := by
  unfold unpR
  split
  · rw [JUnpack.says_len]; omega
  · decide
set_option maxRecDepth 100000 in
set_option maxHeartbeats 8000000 in
theorem records (r : Rec) (b : List UInt8) (hl : r.ents.length ≤ 8796093022207) (hs : r.sum < 4294967296) (B : Nat) (A : Option Addr) (c : Nat) (A' : Option Addr) (c' : Nat) (hc' : b.length ≤ c') (w : World) (hB : B ≤ w.heap.size) (hA : Ents w B A r.ents) (hA' : Sl w B A' (b.map u8v)) (hT : Tab w) :
    Calls Tryd.prog 3 #[recV r A c, .slice A' b.length c'] w fun e w' => e = .returned (.bool true) ∧ Below w.heap.size w w' := by
  obtain ⟨n, hn⟩ : ∃ n, r.ents.length = n := ⟨_, rfl⟩
  obtain ⟨m, hm⟩ : ∃ m, b.length = m := ⟨_, rfl⟩
  rw [hm] at hc' ⊢
  have HMB := Lib.hid hm
  have HREC := Lib.hid (fun A c => recV_eq r A n c hn)
  have HX0 := Lib.hid (JMem.Boxed.start w [.int .i64 r.kind, .int .i64 r.seq, .slice A n c, .int .u32 (r.sum : Int), .int .i64 r.start] 25)
  have HAW := Lib.hid (awake_any (w.alloc (.cells #[.int .i64 r.kind, .int .i64 r.seq, .slice A n c, .int .u32 (r.sum : Int), .int .i64 r.start] 25)) (Tab.below hT (below_box _) (Tab.lt hT)))
  have HMI := Lib.hid (fun w A c (hA : Ents w B A r.ents) (hB : B ≤ w.heap.size) => mine_any r B A c w hB hA hl)
  have HPA := Lib.hid (fun w A c (hA : Ents w w.heap.size A r.ents) (hT : Tab w) => Pack_any r hs w.heap.size A c w (Nat.le_refl _) hA (by omega) hT)
  have HRP := Lib.hid (fun w A c (hA : Ents w B A r.ents) (hB : B ≤ w.heap.size) => refPack_any r hs B A c w hB hA (by omega))
  obtain ⟨e0, l, hp, hq, hl256⟩ := packs_same r
  have HP := Lib.hid hp
  have HQ := Lib.hid hq
  obtain ⟨N, hN⟩ : ∃ N, (unpR b).ents.length = N := ⟨_, rfl⟩
  have hNs := unpR_small b
  have HU := Lib.hid (fun A c => recV_eq (unpR b) A N c hN)
  have HTH := Lib.hid (fun w B A c (hA : Ents w B A (unpR b).ents) (hB : B ≤ w.heap.size) => theirs_any (unpR b) B A c w hB hA (by omega))
  have HSA := Lib.hid (fun w B B' A A' c c' (hA : Ents w B A (unpR b).ents) (hB : B ≤ w.heap.size) (hA' : Ents w B' A' (unpR b).ents) (hB' : B' ≤ w.heap.size) => refSame_yes (unpR b) B B' A A' c c' w hB hB' hA hA' (by omega))
  have HA := Lib.hid hA
  have HA' := Lib.hid hA'
  have HT := Lib.hid hT
  have htl := Tab.lt hT
  clear hA hA' hT hp hq hn hm
  simp only [HREC.out] at HMI HPA HRP ⊢
  simp only [HU.out] at HTH HSA
  go_enter Tryd.func3, Tryd.ntmps3
  go_wp2_with fail
  refine HAW.out.mono ?_
  rintro e w1 ⟨rfl, hb1⟩
  have HX1 := Lib.hid (HX0.out.go hb1)
  obtain ⟨d0, d1, d2, d3, d4⟩ := HX1.out.five
  have hs1 := HX1.out.lt
  clear hb1
  go_wp2_with fail
  refine (HMI.out w1 A c (HA.out.below HX1.out.below hB) (by omega)).mono ?_
  rintro e w2 ⟨A2, c2, rfl, hE2, _, hb2⟩
  have HX2 := Lib.hid (HX1.out.go hb2)
  have HE2 := Lib.hid hE2
  clear hb2 hE2
  go_wp2_with fail
  refine (HPA.out w2 A2 c2 HE2.out (Tab.below HT.out HX2.out.below htl)).mono ?_
  intro e w3 h3
  obtain ⟨v3, rfl, hO3, hb3⟩ := HP.out _ _ _ h3
  have HX3 := Lib.hid (HX2.out.go hb3)
  have HO3 := Lib.hid hO3
  clear h3 hb3 hO3 d0 d1 d2 d3 d4
  obtain ⟨d0, d1, d2, d3, d4⟩ := HX3.out.five
  go_wp2_with fail
  refine (HRP.out w3 A c (HA.out.below HX3.out.below hB) (by have := HX3.out.below.size; omega)).mono ?_
  intro e w4 h4
  obtain ⟨v4, rfl, hO4, hb4⟩ := HQ.out _ _ _ h4
  have HX4 := Lib.hid (HX3.out.go hb4)
  have HO3 := Lib.hid (HO3.out.keep hb4)
  have HO4 := Lib.hid hO4
  clear h4 hb4 hO4 d0 d1 d2 d3 d4
  go_wp2_with fail
  refine (Unpack_full m b HMB.out B A' c' hc' w4 (by have := HX4.out.below.size; omega) (HA'.out.below_le HX4.out.below hB) (Tab.below HT.out HX4.out.below htl)).mono ?_
  rintro e w5 ⟨A5, c5, rfl, hE5, _, hb5⟩
  rw [HU.out]
  have HX5 := Lib.hid ((HX4.out.go hb5).alloc (.cells #[.int .i64 (unpR b).kind, .int .i64 (unpR b).seq, .slice A5 N c5, .int .u32 ((unpR b).sum : Int), .int .i64 (unpR b).start] 33))
  have HY5 := Lib.hid (JMem.Boxed.start w5 [.int .i64 (unpR b).kind, .int .i64 (unpR b).seq, .slice A5 N c5, .int .u32 ((unpR b).sum : Int), .int .i64 (unpR b).start] 33)
  have HE5 := Lib.hid (hE5.alloc (Nat.le_refl _) (.cells #[.int .i64 (unpR b).kind, .int .i64 (unpR b).seq, .slice A5 N c5, .int .u32 ((unpR b).sum : Int), .int .i64 (unpR b).start] 33))
  have HO3 := Lib.hid ((HO3.out.keep hb5).keep (below_box (.cells #[.int .i64 (unpR b).kind, .int .i64 (unpR b).seq, .slice A5 N c5, .int .u32 ((unpR b).sum : Int), .int .i64 (unpR b).start] 33)))
  have HO4 := Lib.hid ((HO4.out.keep hb5).keep (below_box (.cells #[.int .i64 (unpR b).kind, .int .i64 (unpR b).seq, .slice A5 N c5, .int .u32 ((unpR b).sum : Int), .int .i64 (unpR b).start] 33)))
  clear hb5 hE5
  go_wp2_with fail
  have hs5 : w5.heap.size ≤ (w5.alloc (.cells #[.int .i64 (unpR b).kind, .int .i64 (unpR b).seq, .slice A5 N c5, .int .u32 ((unpR b).sum : Int), .int .i64 (unpR b).start] 33)).heap.size := by simp
  generalize (w5.alloc (.cells #[.int .i64 (unpR b).kind, .int .i64 (unpR b).seq, .slice A5 N c5, .int .u32 ((unpR b).sum : Int), .int .i64 (unpR b).start] 33)) = W5 at *
  refine (refUnpack_any m b HMB.out B A' c' W5 (by have := HX5.out.below.size; omega) (HA'.out.below_le HX5.out.below hB)).mono ?_
  rintro e w6 ⟨A6, c6, rfl, hE6, _, hb6⟩
  rw [HU.out]
  have HX6 := Lib.hid ((HX5.out.go hb6).alloc (.cells #[.int .i64 (unpR b).kind, .int .i64 (unpR b).seq, .slice A6 N c6, .int .u32 ((unpR b).sum : Int), .int .i64 (unpR b).start] 25))
  have HY6 := Lib.hid ((HY5.out.go hb6).alloc (.cells #[.int .i64 (unpR b).kind, .int .i64 (unpR b).seq, .slice A6 N c6, .int .u32 ((unpR b).sum : Int), .int .i64 (unpR b).start] 25))
  have HZ6 := Lib.hid (JMem.Boxed.start w6 [.int .i64 (unpR b).kind, .int .i64 (unpR b).seq, .slice A6 N c6, .int .u32 ((unpR b).sum : Int), .int .i64 (unpR b).start] 25)
  have HE6 := Lib.hid (hE6.alloc (Nat.le_refl _) (.cells #[.int .i64 (unpR b).kind, .int .i64 (unpR b).seq, .slice A6 N c6, .int .u32 ((unpR b).sum : Int), .int .i64 (unpR b).start] 25))
  have HE5 := Lib.hid ((HE5.out.below hb6 hs5).below (below_box (.cells #[.int .i64 (unpR b).kind, .int .i64 (unpR b).seq, .slice A6 N c6, .int .u32 ((unpR b).sum : Int), .int .i64 (unpR b).start] 25)) (Nat.le_trans hs5 hb6.size))
  have HO3 := Lib.hid ((HO3.out.keep hb6).keep (below_box (.cells #[.int .i64 (unpR b).kind, .int .i64 (unpR b).seq, .slice A6 N c6, .int .u32 ((unpR b).sum : Int), .int .i64 (unpR b).start] 25)))
  have HO4 := Lib.hid ((HO4.out.keep hb6).keep (below_box (.cells #[.int .i64 (unpR b).kind, .int .i64 (unpR b).seq, .slice A6 N c6, .int .u32 ((unpR b).sum : Int), .int .i64 (unpR b).start] 25)))
  have hs6 : w6.heap.size + 1 = (w6.alloc (.cells #[.int .i64 (unpR b).kind, .int .i64 (unpR b).seq, .slice A6 N c6, .int .u32 ((unpR b).sum : Int), .int .i64 (unpR b).start] 25)).heap.size := by simp
  have h56 := hb6.size
  clear hb6 hE6
  obtain ⟨A3, c3, e3, hS3, _⟩ := HO3.out.sl
  obtain ⟨A4, c4, e4, hS4, _⟩ := HO4.out.sl
  obtain ⟨ln, hln⟩ : ∃ ln, l.length = ln := ⟨_, rfl⟩
  rw [hln] at e3 e4 hl256
  have HLL := Lib.hid hln
  subst e3 e4
  have HS3 := Lib.hid hS3
  have HS4 := Lib.hid hS4
  clear hS3 hS4 hln
  go_wp2_with fail
  generalize (w6.alloc (.cells #[.int .i64 (unpR b).kind, .int .i64 (unpR b).seq, .slice A6 N c6, .int .u32 ((unpR b).sum : Int), .int .i64 (unpR b).start] 25)) = W6 at *
  have hten := ten (HY6.out.drewN 1) (HZ6.out.drewN 1)
  go_region_held3 (fun w' => w'.cell? ⟨w5.heap.size, 0, none⟩ = some (.int .i64 (unpR b).kind) ∧ w'.cell? ⟨w5.heap.size, 1, none⟩ = some (.int .i64 (unpR b).seq) ∧ w'.cell? ⟨w5.heap.size, 2, none⟩ = some (.slice A5 N c5) ∧ w'.cell? ⟨w5.heap.size, 3, none⟩ = some (.int .u32 ((unpR b).sum : Int)) ∧ w'.cell? ⟨w5.heap.size, 4, none⟩ = some (.int .i64 (unpR b).start) ∧ w'.cell? ⟨w6.heap.size, 0, none⟩ = some (.int .i64 (unpR b).kind) ∧ w'.cell? ⟨w6.heap.size, 1, none⟩ = some (.int .i64 (unpR b).seq) ∧ w'.cell? ⟨w6.heap.size, 2, none⟩ = some (.slice A6 N c6) ∧ w'.cell? ⟨w6.heap.size, 3, none⟩ = some (.int .u32 ((unpR b).sum : Int)) ∧ w'.cell? ⟨w6.heap.size, 4, none⟩ = some (.int .i64 (unpR b).start)) (first | exact ten HY7.out HZ7.out | exact ten (HY6.out.drewN (1 + nd)) (HZ6.out.drewN (1 + nd)) | exact ten (HY6.out.drewN 1) (HZ6.out.drewN 1) | go_keep)
    ((first
      | (go_at_call 16; refine (Same_at ln ln l HLL.out HLL.out _ _ A3 A4 c3 c4 W6.drew (show Sl W6.drew W6.heap.size A3 (l.map u8v) from HS3.out) (show Sl W6.drew W6.heap.size A4 (l.map u8v) from HS4.out) (by omega)).mono ?_; rintro e wx ⟨rfl, nd, rfl⟩)
      | (go_at_call 18; refine (HTH.out (W6.drewN (1 + nd)) w5.heap.size A5 c5 (show Ents (W6.drewN (1 + nd)) w5.heap.size A5 (unpR b).ents from HE5.out) (show w5.heap.size ≤ W6.heap.size by omega)).mono ?_; rintro e w7 ⟨A7, c7, rfl, hE7, _, hb7⟩
         have HX7 := Lib.hid ((HX6.out.drewN (1 + nd)).go hb7)
         have HY7 := Lib.hid ((HY6.out.drewN (1 + nd)).go hb7)
         have HZ7 := Lib.hid ((HZ6.out.drewN (1 + nd)).go hb7)
         have HE7 := Lib.hid hE7
         have HE6 := Lib.hid ((show Ents (W6.drewN (1 + nd)) w6.heap.size A6 (unpR b).ents from HE6.out).below hb7 (show w6.heap.size ≤ W6.heap.size by omega))
         have hs7 : W6.heap.size ≤ w7.heap.size := hb7.size
         clear hb7 hE7)
      | (go_at_call 17; refine (HSA.out w7 _ _ A7 A6 c7 c6 HE7.out (Nat.le_refl _) HE6.out (show w6.heap.size ≤ w7.heap.size by omega)).mono ?_; rintro e w8 ⟨rfl, hb8⟩
         have HX7 := Lib.hid (HX7.out.go hb8)
         have HY7 := Lib.hid (HY7.out.go hb8)
         have HZ7 := Lib.hid (HZ7.out.go hb8)
         clear hb8)))
  go_wp2
  go_ret
  exact ⟨rfl, HX7.out.below⟩
end Go.Proofs.YtgegmoejhnjhjaaDoor.JLRecords
namespace Go.Proofs.YtgegmoejhnjhjaaDoor.JPRecords
open Go.ChangeShapes Go.WideShapes Go.ChangeAt Go.RowKit WMem WPlain WCrc RowEnd Args Door JDoor

set_option maxRecDepth 100000 in
theorem contract (H : Type) (enc : TypeId × Value → H) (W : World) (base : Nat) (args : Array Value) (ds gs : List (DataW H)) (before : List MemPlace)
    (hval : ∀ (j : Nat) t v, Tryd.f3.params[j]? = some t → args[j]? = some v → Value.okWide Tryd.prog W .any base t v)
    (hW : DataW.Whole enc Tryd.prog Tryd.f3.params.toList Rows.logRecordsSpec.vars false W args.toList ds gs before)
    (hsz : (DataW.weightsEach Tryd.prog (Tryd.f3.params.toList ++ []) (ds ++ gs)).all (· ≤ reachBytes) = true) (hL : laidMetH Tryd.prog laid1 W) :
    Calls Tryd.prog 3 args W fun e W' => ∃ v, e = .returned v ∧ Rows.logRecordsSpec.post enc Tryd.prog Tryd.f3 false true false false W args v W' := by
  have hW' := hW
  obtain ⟨p, q, hA0, hV, hbe, hfz, hnd⟩ := hW
  have hA : DataW.TrodAll enc Tryd.prog W 0 (fun _ => true) true Tryd.f3.params.toList args.toList ds p := hA0
  have hA1 := hA
  obtain ⟨rfl, rfl⟩ := trodVars_none hV
  rw [List.append_nil] at hbe hsz
  rw [Tryd.params3] at hA hval hsz
  obtain ⟨v0, vs0, d0, ds0, p0, q0, hargs, rfl, rfl, h0, r0⟩ := trodAll_cons hA
  obtain ⟨v1, vs1, d1, ds1, p1, q1, rfl, rfl, rfl, h1, r1⟩ := trodAll_cons r0
  obtain ⟨rfl, rfl, rfl⟩ := trodAll_nil r1
  obtain rfl : args = #[v0, v1] := by cases args; simp_all
  obtain ⟨rc0, A0, c0, rfl, s0, z0, y0⟩ := arg_rec (hval 0 25 v0 rfl rfl) h0 hsz (j := 0) rfl rfl
  obtain ⟨A1, l1, c1, rfl, s1, z1, k1⟩ := arg_u8s u8s u8t c8 b8 (hval 1 26 v1 rfl rfl) h1 hsz (j := 1) rfl rfl
  refine (JLRecords.records rc0 l1 z0 y0 _ A0 c0 A1 c1 k1 W (Nat.le_refl _) s0 s1 (tab_of hL)).mono fun e W' ⟨he, hb⟩ => ?_
  subst he
  refine ⟨_, rfl, law_post laidOut (by kernel_rfl) rfl boolt rfl rfl rfl rfl hW' hA1 (fun x hx => hW'.lt x (by rw [hbe]; exact hx)) hb⟩

abbrev start : Array Value := #[.agg #[.int .i64 0, .int .i64 0, .slice none 0 0, .int .u32 0, .int .i64 0], .slice none 0 0]
theorem laid_met (os : Os) : laidMet Tryd.prog laid1 ((laidWorld os).forCall (fun _ _ => 0) ⟨#[], start, []⟩).memory :=
  laidMet_of_run' 8 (by kernel_rfl) (by kernel_rfl)
theorem reads (os : Os) {H : Type} (enc : TypeId × Value → H) : ∃ places, DataW.whole enc Tryd.prog ((laidWorld os).forCall (fun _ _ => 0) ⟨#[], start, []⟩).memory Tryd.f3.params.toList Rows.logRecordsSpec.vars false start.toList 8 = some ([.agg [.lit (.int .i64 0), .lit (.int .i64 0), .nil, .lit (.int .u32 0), .lit (.int .i64 0)], .nil], [], places) :=
  ⟨[], by kernel_rfl⟩

set_option maxRecDepth 100000 in
theorem lifted (os : Os) (started : os.Started) (H : Type) (enc : TypeId × Value → H) (F : Stop.Interp) :
    ReturnsInHanded {} Tryd.checked os 3 .any ((OpenSpec.ofChange Rows.logRecordsSpec).preRow enc Tryd.prog Tryd.f3 Rows.logRecordsRow.domain false Rows.logRecordsRow.laid) (((OpenSpec.ofChange Rows.logRecordsSpec).at F).post enc Tryd.prog Tryd.f3 false true false false) := by
  obtain ⟨places, hx⟩ := reads os enc
  refine returnsInHanded_of_row (C := Tryd.checked) (s := (OpenSpec.ofChange Rows.logRecordsSpec)) own started (by kernel_rfl) Tryd.func3
    (witness_row_at (enc := enc) (C := Tryd.checked) false (laidWorld os) start rfl (by kernel_rfl) (by kernel_rfl) (by kernel_rfl)
      (OpenSpec.preRow_of_cond 8 hx (by kernel_rfl) (fun k hk => by cases hk) (by kernel_rfl) (laid_met os))) ?_
  intro W base args ds gs before hval hW _ _ hsz hL _ _
  exact contract H enc W base args ds gs before hval hW hsz hL

theorem said : Rows.LogRecordsSaid :=
  OpenClaim.holds_of_cond 3 Tryd.f3 rfl rfl rfl rfl rfl rfl rfl ⟨rfl, rfl, rfl, rfl, rfl⟩ rfl rfl rfl rfl rfl (by kernel_rfl) Tryd.func3 (by kernel_rfl)
    (of_decide_eq_true (by kernel_rfl)) (by unfold Func.isWrapper; first | (rw [if_pos (by decide +kernel)]; kernel_rfl) | (rw [if_neg (by decide +kernel)]; exact ⟨rfl, rfl⟩))
    (fun os started H enc _ F => by rw [OpenClaim.pre_eq_preRow]; exact lifted os started H enc F)

theorem plain (f : FuncId) (fn : Func) (hf : Tryd.pinned.checked.prog.funcNamed "hayrick/hayricklaw07.LogRecords" = some f) (hfn : Tryd.pinned.checked.prog.funcs[f]? = some fn) :
    true = Tryd.pinned.checked.prog.looks [] ∧ ∀ (j : Nat) t, fn.params[j]? = some t → Tryd.pinned.checked.prog.wantsStandIn t = false := by
  obtain rfl : f = 3 := Option.some.inj ((show Tryd.prog.funcNamed "hayrick/hayricklaw07.LogRecords" = some 3 by kernel_rfl).symm.trans hf) |>.symm
  obtain rfl : fn = Tryd.f3 := (Option.some.inj (Tryd.func3.symm.trans hfn)).symm
  refine ⟨by kernel_rfl, fun j t ht => ?_⟩
  have hall : (Tryd.f3.params.toList.all fun u => !Tryd.prog.wantsStandIn u) = true := by kernel_rfl
  have := List.all_eq_true.1 hall t (Array.mem_toList_iff.2 (Array.mem_of_getElem? ht))
  exact (show Tryd.prog.wantsStandIn t = false by simpa using this)

theorem card : Rows.LogRecordsCardSaid :=
  Claim7.holds_tied_plain_at .later [] _ _ _ _ said (fun _ h => by cases h) (by kernel_rfl) (fun _ h => by cases h) logRecords_row_tie rfl ⟨rfl, rfl⟩ (by kernel_rfl) rfl plain (by kernel_rfl)
#print axioms card
end Go.Proofs.YtgegmoejhnjhjaaDoor.JPRecords
