/- Proved: called with any number and bytes, the statement InodeOnly answers true, and its arguments read behind the call as before. Conditions: the row's own (each slice takes at most 2^47 - 4096 bytes; the package variable fourSteps starts as the program's text lays it, which the card ties). -/
import Derived.Test.YtgjcbfdhpbkhoaaGreatDoorMg55
import Derived.Test.YtgjcbfdhpbkhoaaGreatDoorCards
import Derived.Test.YtgjcbfdhpbkhoaaGreatDoorTie
import Derived.Test.YtgjcbfdhpbkhoaaGreatDoorMg11
import Derived.Test.YtgjcbfdhpbkhoaaGreatDoorMg53
import Derived.WalkKit
import Derived.ProofKit
import Derived.OpenShut
import Derived.Deep.DeepHandedRow
import Derived.Lib.LaidTab
import Derived.Test.YtgjcbfdhpbkhoaaGreatDoorMg1
import Derived.SizedLaws
namespace Go.Proofs.YtgjcbfdhpbkhoaaGreatDoor.Args
open Go.ChangeShapes Go.WideShapes Go.ChangeAt Go.RowKit WMem
section
variable {H : Type} {enc : TypeId × Value → H} {P : Program}
theorem arg_list {k : IntKind} {t e : TypeId} {bytes base : Nat} (ht : P.underlying t = some (.slice e)) (he : P.underlying e = some (.int k)) (hc : P.cellsOf e = 1) (hby : P.bytesOf e = bytes)
    {W : World} {v : Value} {d : DataW H} {p : List MemPlace} (hv : Value.okWide P W .any base t v) (h : DataW.Trod enc P W 0 (fun _ => true) true t v d p)
    {ts : List TypeId} {ds : List (DataW H)} {j : Nat} (hsz : (DataW.weightsEach P ts ds).all (· ≤ reachBytes) = true) (htj : ts[j]? = some t) (hdj : ds[j]? = some d) :
    ∃ (A : Option Addr) (zs : List Int) (c : Nat), v = .slice A zs.length c ∧ (∀ n ∈ zs, (Lit.int k n).wf = true) ∧ Sl W W.heap.size A (zs.map (Value.int k)) ∧ zs.length * bytes ≤ 140737488351232 ∧ zs.length ≤ c ∧ (A = none → c = 0) := by
  obtain ⟨a0, len, cap, rfl⟩ := okWide_slice ht hv
  obtain ⟨fuel, hf⟩ := h
  rcases open_ints ht he hc hf with ⟨hcs, hx⟩ | ⟨a, len', cap', zs, hcs, _, hl, hm, hz, hx, hcell, hwz⟩
  · simp [Value.cells] at hcs
    obtain ⟨rfl, rfl, rfl⟩ := hcs
    exact ⟨none, [], 0, rfl, by simp, Sl.nil _ _ _, by simp, Nat.le_refl _, fun _ => rfl⟩
  · simp [Value.cells] at hcs
    obtain ⟨rfl, rfl, rfl⟩ := hcs
    simp only [if_true] at hz
    simp only [Prod.mk.injEq] at hx
    obtain ⟨rfl, _⟩ := hx
    have hs := sized_slice hsz htj hdj ht
    rw [hby] at hs
    simp only [lits, List.length_map, List.length_take, List.length_drop] at hs
    have hlen : (zs.take len).length = len := by simp; omega
    refine ⟨some a, zs.take len, cap, by rw [hlen], fun n hn => hwz n (List.mem_of_mem_take hn), ?_, ?_, by rw [hlen]; exact hl, fun h => by cases h⟩
    · intro k' u hu
      rw [List.getElem?_map, List.getElem?_take] at hu
      split at hu
      · rename_i hk
        have hk' : k' < zs.length := by omega
        rw [List.getElem?_eq_getElem hk'] at hu
        simp at hu
        subst hu
        have hc' := hcell k' hk'
        rw [List.getD_eq_getElem?_getD, List.getElem?_eq_getElem hk'] at hc'
        simp at hc'
        refine ⟨a, rfl, ?_, hc'⟩
        have := World.block_lt_of_cell? W _ hc'
        rwa [addr_add_block] at this
      · cases hu
    · rw [hlen]
      have h1 : min len zs.length + (zs.length - len) = cap := by omega
      rw [h1] at hs
      have h2 : reachBytes = 140737488351232 := by decide
      rw [h2] at hs
      exact Nat.le_trans (Nat.mul_le_mul_right _ hl) hs
theorem arg_u8s {t e : TypeId} {base : Nat} (ht : P.underlying t = some (.slice e)) (he : P.underlying e = some (.int .u8)) (hc : P.cellsOf e = 1) (hby : P.bytesOf e = 1)
    {W : World} {v : Value} {d : DataW H} {p : List MemPlace} (hv : Value.okWide P W .any base t v) (h : DataW.Trod enc P W 0 (fun _ => true) true t v d p)
    {ts : List TypeId} {ds : List (DataW H)} {j : Nat} (hsz : (DataW.weightsEach P ts ds).all (· ≤ reachBytes) = true) (htj : ts[j]? = some t) (hdj : ds[j]? = some d) :
    ∃ (A : Option Addr) (l : List UInt8) (c : Nat), v = .slice A l.length c ∧ Sl W W.heap.size A (l.map u8v) ∧ l.length ≤ 140737488351232 ∧ l.length ≤ c := by
  obtain ⟨A, zs, c, rfl, hw, hs, hb, hlc, _⟩ := arg_list ht he hc hby hv h hsz htj hdj
  have e1 : zs.map (Value.int .u8) = (zs.map fun z => UInt8.ofNat z.toNat).map u8v := by
    rw [List.map_map]
    apply List.map_congr_left
    intro z hz
    have := bounds_u8 (hw z hz)
    simp only [Function.comp, u8v]
    congr 1
    simp
    omega
  refine ⟨A, zs.map fun z => UInt8.ofNat z.toNat, c, by simp, by rw [← e1]; exact hs, by simpa using hb, by simpa using hlc⟩
end
end Go.Proofs.YtgjcbfdhpbkhoaaGreatDoor.Args
namespace Go.Proofs.YtgjcbfdhpbkhoaaGreatDoor.Door
open Go.ChangeShapes Go.WideShapes Go.ChangeAt Go.RowKit WMem WPlain WCrc RowEnd Args
theorem own : ownKnob Tryz.prog.godebug = none := by kernel_rfl
theorem laidOut : laidOutB Tryz.prog = true := by kernel_rfl
theorem gTab : Tryz.prog.globalNamed "hayrick/wire.fourSteps" = some 0 := by kernel_rfl
theorem gTabType : (Tryz.prog.globals[0]?).map (·.type) = some 176 := by kernel_rfl
theorem uTab : Tryz.prog.underlying 176 = some (.array 16 52) := by kernel_rfl
theorem u32t : Tryz.prog.underlying 52 = some (.int .u32) := by kernel_rfl
theorem u8t : Tryz.prog.underlying 5 = some (.int .u8) := by kernel_rfl
theorem i64t : Tryz.prog.underlying 3 = some (.int .i64) := by kernel_rfl
theorem boolt : Tryz.prog.underlying 4 = some .bool := by kernel_rfl
theorem u8s : Tryz.prog.underlying 22 = some (.slice 5) := by kernel_rfl
theorem ints : Tryz.prog.underlying 50 = some (.slice 3) := by kernel_rfl
theorem cTab : Tryz.prog.cellsOf 176 = 16 := by kernel_rfl
theorem c32 : Tryz.prog.cellsOf 52 = 1 := by kernel_rfl
theorem c8 : Tryz.prog.cellsOf 5 = 1 := by kernel_rfl
theorem b8 : Tryz.prog.bytesOf 5 = 1 := by kernel_rfl
abbrev laid1 : List (String × DataW Unit) := [("hayrick/wire.fourSteps", Rows.laid_hayrick_wire_fourSteps)]
theorem tab_of {W : World} (h : laidMetH Tryz.prog laid1 W) : Tab W := by
  have ht : Lib.TabIs Tryz.prog W "hayrick/wire.fourSteps" .u32 (tab.map fun (n : Nat) => (n : Int)) :=
    Lib.tabIs_of_head (rest := []) gTab gTabType uTab u32t c32 cTab h
  intro r hr
  rw [ht.cell gTab r (by simpa [tab] using hr)]
  simp only [List.getD_eq_getElem?_getD, List.getElem?_map]
  rw [List.getElem?_eq_getElem (by simpa [tab] using hr)]
  rfl
noncomputable def laidWorld (os : Os) : World :=
  { World.holding Tryz.prog os ⟨#[], #[], []⟩ with heap := (World.holding Tryz.prog os ⟨#[], #[], []⟩).heap.modify 0 fun
      | .cells _ t frozen => .cells (tab.map fun (n : Nat) => Value.int .u32 (n : Int)).toArray t frozen
      | o => o }
end Go.Proofs.YtgjcbfdhpbkhoaaGreatDoor.Door
namespace Go.Proofs.YtgjcbfdhpbkhoaaGreatDoor.IShut
open Go.ChangeShapes Go.WideShapes Go.ChangeAt Go.RowKit WMem WPlain WCrc RowEnd Args Door
set_option maxRecDepth 100000
theorem rowed : (mapsRowed Tryz.prog) = true := by kernel_rfl
theorem stops : ((Tryz.prog.stops == [])) = true := by kernel_rfl
theorem knobs : ((Tryz.prog.stopKnobs == [])) = true := by kernel_rfl
theorem keys : ((Rows.inodeOnlyRow.plainKeys == Tryz.prog.plainKeys)) = true := by kernel_rfl
theorem heard : (Tryz.prog.stopsHeard) = true := by kernel_rfl
theorem enter : (Tryz.prog.mayEnter) = true := by kernel_rfl
theorem lifts : ((Rows.inodeOnlyRow.lifted == Tryz.prog.liftsFinal)) = true := by kernel_rfl
theorem makes : ((Tryz.prog.make == some Rows.inodeOnlyRow.make)) = true := by kernel_rfl
end Go.Proofs.YtgjcbfdhpbkhoaaGreatDoor.IShut
namespace Go.Proofs.YtgjcbfdhpbkhoaaGreatDoor.IAwake
open Go.RowKit WMem WPlain WPack WWide WAny WAppend WCrc WSeal WFace2 GPlain GPlain3 GWithin GGeo GGeo2 GFace SNums SPlain QPlain QMem Ext Map DPlain DMem EPlain EMem EFace EAny APlain AMem AGeo AOpen IPlain ICheck IPack IUnp IUn2 IUn3 IPlace IGet ILay ITab IBoth
def zeros48 : List UInt8 := List.replicate 48 0
def X0 : Ino := ⟨2, 493, 0, 0, 2, 0, 0, 0, 0, 0, 0, 1, 0, false, zeros48⟩
def X1 : Ino := ⟨2, 512, 0, 0, 2, 0, 0, 0, 0, 0, 0, 1, 0, false, zeros48⟩
theorem X0_may : inoMay X0 = true := by decide +kernel
theorem X1_no : inoMay X1 = false := by decide +kernel
theorem X0_wide : X0.Wide := ⟨⟨by decide, by decide⟩, ⟨by decide, by decide⟩, ⟨by decide, by decide⟩⟩
theorem un_back {r : Ino} (hm : inoMay r = true) (hw : r.Wide) {ino : Nat} (h1 : 1 ≤ ino) (h2 : ino ≤ 65535) : unI (ino : Int) (inoBytes ino r) = r ∧ unE (ino : Int) (inoBytes ino r) = 0 := by
  have hz := not_free (may_of hm) hw ino
  have hg := good_back hm hw ino
  have hi : 1 ≤ (ino : Int) ∧ (ino : Int) ≤ 65535 := by omega
  have hn : (ino : Int).toNat = ino := by omega
  constructor
  · unfold unI
    rw [if_pos ⟨hi.1, hi.2, hz, by rw [hn]; exact hg⟩]
    exact says_back (may_of hm) ino hw
  · unfold unE
    rw [if_pos hi, if_neg (by rw [hz]; decide), hn, if_pos hg]
theorem un_zero {ino : Int} (h1 : 1 ≤ ino) (h2 : ino ≤ 65535) : unI ino zeros128 = Ino.nul ∧ unE ino zeros128 = 2 := by
  have hz : (zeros128 == zeros128) = true := by simp
  constructor
  · unfold unI
    rw [if_neg (by rw [hz]; simp)]
  · unfold unE
    rw [if_pos ⟨h1, h2⟩, if_pos hz]
section
variable {a w : World} {S : Nat → Prop} {b db L : Nat} {s : Sto} {T : Nat → List UInt8}
theorem get_none (h : IS a w S b db L s T) (hT : Tab a) (hL : L ≤ 1000000) (m : Nat) (hm : m < 32) (q : Int) (hq : q = ((m + 1 : Nat) : Int)) (h0 : T m = zeros128) :
    Calls Tryz.prog 18 #[.pointer (some ⟨b, 0, none⟩), .int .i64 q] w fun e w' => ∃ Ar c, e = .returned (.tuple #[.agg #[.int .i64 0, .int .i64 0, .int .i64 0, .int .i64 0, .int .i64 0, .int .i64 0, .int .i64 0, .int .i64 0, .int .i64 0, .int .i64 0, .int .i64 0, .int .i64 0, .int .i64 0, .bool false, .slice Ar 0 c], .int .i64 2]) ∧ ∃ s', IS a w' S b db (L + 3) s' T ∧ Kp S w w' := by
  subst hq
  refine (is_get h hT hL m hm).mono ?_
  rintro e w' ⟨Ar, c, s', rfl, hO, hI, hk⟩
  obtain ⟨e1, e2⟩ := un_zero (ino := ((m + 1 : Nat) : Int)) (by omega) (by omega)
  rw [h0, e1, e2]
  exact ⟨Ar, c, rfl, s', hI, hk⟩
theorem get_some (h : IS a w S b db L s T) (hT : Tab a) (hL : L ≤ 1000000) (m : Nat) (hm : m < 32) (q : Int) (hq : q = ((m + 1 : Nat) : Int)) (r : Ino) (hr : inoMay r = true) (hw : r.Wide) (h0 : T m = inoBytes (m + 1) r) :
    Calls Tryz.prog 18 #[.pointer (some ⟨b, 0, none⟩), .int .i64 q] w fun e w' => ∃ g c rest s', e = .returned (.tuple #[.agg #[.int .i64 r.kind, .int .i64 r.perm, .int .i64 r.uid, .int .i64 r.gid, .int .i64 r.links, .int .i64 r.size, .int .i64 r.blocks, .int .i64 r.at_, .int .i64 r.mt, .int .i64 r.ct, .int .i64 r.next, .int .i64 r.parent, .int .i64 r.xattr, .bool r.idx, .slice (some ⟨g, 0, none⟩) 48 c], .int .i64 0]) ∧ w.heap.size ≤ g ∧ Row w' g r.root rest ∧ IS a w' S b db (L + 3) s' T ∧ Kp S w w' := by
  subst hq
  refine (is_get h hT hL m hm).mono ?_
  rintro e w' ⟨Ar, c, s', rfl, hO, hI, hk⟩
  obtain ⟨e1, e2⟩ := un_back hr hw (ino := m + 1) (by omega) (by omega)
  have hlen := (may_of hr).root
  rw [h0, e1, hlen] at hO
  rw [h0, e1, e2, hlen]
  rcases hO with ⟨_, hn⟩ | ⟨g, cap, rest, hv, h4, h5, hR⟩
  · rw [hn] at hlen; cases hlen
  · injection hv with v1 v2 v3
    subst v1 v3
    exact ⟨g, c, rest, s', rfl, h4, hR, hI, hk⟩
end
theorem make48 (w : World) : (Instr.makeSlice 22 (.int .i64 48) (.int .i64 48)).run Tryz.prog w = .ok (.slice (some ⟨w.heap.size, 0, none⟩) 48 48) (w.alloc (.cells (zrow 48) 5)) := make_bytes 48 (by decide) w
theorem T0_at (m : Nat) : T0 m = zeros128 := rfl
set_option maxRecDepth 100000 in
set_option maxHeartbeats 2000000 in
theorem awake_any (w : World) (hT : Tab w) : Calls Tryz.prog 7 #[] w fun e w' => e = .returned (.bool true) ∧ Below w.heap.size w w' := by
  have HT := Lib.hid hT
  have hmk := make48
  clear hT
  go_enter Tryz.func7, Tryz.ntmps7
  go_wp2_with fail
  refine (both_any w HT.out).mono ?_
  rintro e w1 ⟨b, v, rfl, db, s1, hI1⟩
  have H1 := Lib.hid (get_none hI1 HT.out (by decide) 0 (by decide) 1 rfl rfl)
  clear hI1
  go_wp2_with fail
  refine H1.out.mono ?_
  rintro e w2 ⟨A2, c2, rfl, s2, hI2, -⟩
  have hb2 := ((below_box (w := w2) (.cells #[.int .i64 0, .int .i64 0, .int .i64 0, .int .i64 0, .int .i64 0, .int .i64 0, .int .i64 0, .int .i64 0, .int .i64 0, .int .i64 0, .int .i64 0, .int .i64 0, .int .i64 0, .bool false, .slice A2 0 c2] 24)).alloc (by simp) (.cells (zrow 48) 5)).alloc (by simp; omega) (.cells #[.int .i64 2, .int .i64 493, .int .i64 0, .int .i64 0, .int .i64 2, .int .i64 0, .int .i64 0, .int .i64 0, .int .i64 0, .int .i64 0, .int .i64 0, .int .i64 1, .int .i64 0, .bool false, .slice (some ⟨w2.heap.size + 1, 0, none⟩) 48 48] 24)
  have hs1 : (w2.alloc (.cells #[.int .i64 0, .int .i64 0, .int .i64 0, .int .i64 0, .int .i64 0, .int .i64 0, .int .i64 0, .int .i64 0, .int .i64 0, .int .i64 0, .int .i64 0, .int .i64 0, .int .i64 0, .bool false, .slice A2 0 c2] 24)).heap.size = w2.heap.size + 1 := by simp
  have hs2 : ((w2.alloc (.cells #[.int .i64 0, .int .i64 0, .int .i64 0, .int .i64 0, .int .i64 0, .int .i64 0, .int .i64 0, .int .i64 0, .int .i64 0, .int .i64 0, .int .i64 0, .int .i64 0, .int .i64 0, .bool false, .slice A2 0 c2] 24)).alloc (.cells (zrow 48) 5)).heap.size = w2.heap.size + 2 := by simp
  have hs3 : (((w2.alloc (.cells #[.int .i64 0, .int .i64 0, .int .i64 0, .int .i64 0, .int .i64 0, .int .i64 0, .int .i64 0, .int .i64 0, .int .i64 0, .int .i64 0, .int .i64 0, .int .i64 0, .int .i64 0, .bool false, .slice A2 0 c2] 24)).alloc (.cells (zrow 48) 5)).alloc (.cells #[.int .i64 2, .int .i64 493, .int .i64 0, .int .i64 0, .int .i64 2, .int .i64 0, .int .i64 0, .int .i64 0, .int .i64 0, .int .i64 0, .int .i64 0, .int .i64 1, .int .i64 0, .bool false, .slice (some ⟨w2.heap.size + 1, 0, none⟩) 48 48] 24)).heap.size = w2.heap.size + 3 := by simp
  have hxr : RowV (((w2.alloc (.cells #[.int .i64 0, .int .i64 0, .int .i64 0, .int .i64 0, .int .i64 0, .int .i64 0, .int .i64 0, .int .i64 0, .int .i64 0, .int .i64 0, .int .i64 0, .int .i64 0, .int .i64 0, .bool false, .slice A2 0 c2] 24)).alloc (.cells (zrow 48) 5)).alloc (.cells #[.int .i64 2, .int .i64 493, .int .i64 0, .int .i64 0, .int .i64 2, .int .i64 0, .int .i64 0, .int .i64 0, .int .i64 0, .int .i64 0, .int .i64 0, .int .i64 1, .int .i64 0, .bool false, .slice (some ⟨w2.heap.size + 1, 0, none⟩) 48 48] 24)) (w2.heap.size + 2) 24 [.int .i64 2, .int .i64 493, .int .i64 0, .int .i64 0, .int .i64 2, .int .i64 0, .int .i64 0, .int .i64 0, .int .i64 0, .int .i64 0, .int .i64 0, .int .i64 1, .int .i64 0, .bool false, .slice (some ⟨w2.heap.size + 1, 0, none⟩) 48 48] := by
    have h := AMem.rowV_new ((w2.alloc (.cells #[.int .i64 0, .int .i64 0, .int .i64 0, .int .i64 0, .int .i64 0, .int .i64 0, .int .i64 0, .int .i64 0, .int .i64 0, .int .i64 0, .int .i64 0, .int .i64 0, .int .i64 0, .bool false, .slice A2 0 c2] 24)).alloc (.cells (zrow 48) 5)) [.int .i64 2, .int .i64 493, .int .i64 0, .int .i64 0, .int .i64 2, .int .i64 0, .int .i64 0, .int .i64 0, .int .i64 0, .int .i64 0, .int .i64 0, .int .i64 1, .int .i64 0, .bool false, .slice (some ⟨w2.heap.size + 1, 0, none⟩) 48 48] 24
    rw [hs2] at h
    exact h
  have hzr : Row (((w2.alloc (.cells #[.int .i64 0, .int .i64 0, .int .i64 0, .int .i64 0, .int .i64 0, .int .i64 0, .int .i64 0, .int .i64 0, .int .i64 0, .int .i64 0, .int .i64 0, .int .i64 0, .int .i64 0, .bool false, .slice A2 0 c2] 24)).alloc (.cells (zrow 48) 5)).alloc (.cells #[.int .i64 2, .int .i64 493, .int .i64 0, .int .i64 0, .int .i64 2, .int .i64 0, .int .i64 0, .int .i64 0, .int .i64 0, .int .i64 0, .int .i64 0, .int .i64 1, .int .i64 0, .bool false, .slice (some ⟨w2.heap.size + 1, 0, none⟩) 48 48] 24)) (w2.heap.size + 1) zeros48 [] := by
    have h := zrow_row (w2.alloc (.cells #[.int .i64 0, .int .i64 0, .int .i64 0, .int .i64 0, .int .i64 0, .int .i64 0, .int .i64 0, .int .i64 0, .int .i64 0, .int .i64 0, .int .i64 0, .int .i64 0, .int .i64 0, .bool false, .slice A2 0 c2] 24)) 48
    rw [hs1] at h
    exact h.alloc _
  have HW2 : Hid (w.heap.size ≤ w2.heap.size) := Lib.hid hI2.st.below.size
  have H2 := Lib.hid (hI2.also hb2)
  have HXR := Lib.hid hxr
  have HZR := Lib.hid hzr
  have HS3 := Lib.hid hs3
  clear H1 hI2 hb2 hs1 hs2 hs3 hxr hzr
  go_wp2_with fail
  generalize (((w2.alloc (.cells #[.int .i64 0, .int .i64 0, .int .i64 0, .int .i64 0, .int .i64 0, .int .i64 0, .int .i64 0, .int .i64 0, .int .i64 0, .int .i64 0, .int .i64 0, .int .i64 0, .int .i64 0, .bool false, .slice A2 0 c2] 24)).alloc (.cells (zrow 48) 5)).alloc (.cells #[.int .i64 2, .int .i64 493, .int .i64 0, .int .i64 0, .int .i64 2, .int .i64 0, .int .i64 0, .int .i64 0, .int .i64 0, .int .i64 0, .int .i64 0, .int .i64 1, .int .i64 0, .bool false, .slice (some ⟨w2.heap.size + 1, 0, none⟩) 48 48] 24)) = W at *
  refine (is_put H2.out HT.out (by decide) 0 (by decide) X0 X0_may (some ⟨w2.heap.size + 1, 0, none⟩) 48 48 (by decide) (HZR.out.sl HZR.out.lt)).mono ?_
  rintro e w6 ⟨rfl, s3, hI3, hk3⟩
  have HX6 : Hid (RowV w6 (w2.heap.size + 2) 24 [.int .i64 2, .int .i64 493, .int .i64 0, .int .i64 0, .int .i64 2, .int .i64 0, .int .i64 0, .int .i64 0, .int .i64 0, .int .i64 0, .int .i64 0, .int .i64 1, .int .i64 0, .bool false, .slice (some ⟨w2.heap.size + 1, 0, none⟩) 48 48]) := Lib.hid ((hk3 _ (.inr ⟨by omega, by rw [HS3.out]; omega⟩)).trans HXR.out)
  have HZ6 : Hid (Row w6 (w2.heap.size + 1) zeros48 []) := Lib.hid ((hk3 _ (.inr ⟨by omega, by rw [HS3.out]; omega⟩)).trans HZR.out)
  have H3 := Lib.hid (get_some hI3 HT.out (by decide) 0 (by decide) 1 rfl X0 X0_may X0_wide rfl)
  clear hI3 hk3
  go_wp2_with fail
  refine H3.out.mono ?_
  rintro e w7 ⟨g7, c7, r7, s4, rfl, hg7, hR7, hI4, hk4⟩
  have HX7 : Hid (RowV w7 (w2.heap.size + 2) 24 [.int .i64 2, .int .i64 493, .int .i64 0, .int .i64 0, .int .i64 2, .int .i64 0, .int .i64 0, .int .i64 0, .int .i64 0, .int .i64 0, .int .i64 0, .int .i64 1, .int .i64 0, .bool false, .slice (some ⟨w2.heap.size + 1, 0, none⟩) 48 48]) := Lib.hid ((hk4 _ (.inr ⟨by omega, by rw [HS3.out]; omega⟩)).trans HX6.out)
  have HZ7 : Hid (Row w7 (w2.heap.size + 1) zeros48 []) := Lib.hid ((hk4 _ (.inr ⟨by omega, by rw [HS3.out]; omega⟩)).trans HZ6.out)
  have hsc : (w7.setCell ⟨w2.heap.size + 1 + 1, 1, none⟩ (.int .i64 512)).heap.size = w7.heap.size := by simp [World.setCell]
  have HYW : Hid (RowV ((w7.setCell ⟨w2.heap.size + 1 + 1, 1, none⟩ (.int .i64 512)).alloc (.cells #[.int .i64 X0.kind, .int .i64 X0.perm, .int .i64 X0.uid, .int .i64 X0.gid, .int .i64 X0.links, .int .i64 X0.size, .int .i64 X0.blocks, .int .i64 X0.at_, .int .i64 X0.mt, .int .i64 X0.ct, .int .i64 X0.next, .int .i64 X0.parent, .int .i64 X0.xattr, .bool X0.idx, .slice (some ⟨g7, 0, none⟩) 48 c7] 24)) w7.heap.size 24 [.int .i64 X0.kind, .int .i64 X0.perm, .int .i64 X0.uid, .int .i64 X0.gid, .int .i64 X0.links, .int .i64 X0.size, .int .i64 X0.blocks, .int .i64 X0.at_, .int .i64 X0.mt, .int .i64 X0.ct, .int .i64 X0.next, .int .i64 X0.parent, .int .i64 X0.xattr, .bool X0.idx, .slice (some ⟨g7, 0, none⟩) 48 c7]) := Lib.hid (by
    have h := AMem.rowV_new (w7.setCell ⟨w2.heap.size + 1 + 1, 1, none⟩ (.int .i64 512)) [.int .i64 X0.kind, .int .i64 X0.perm, .int .i64 X0.uid, .int .i64 X0.gid, .int .i64 X0.links, .int .i64 X0.size, .int .i64 X0.blocks, .int .i64 X0.at_, .int .i64 X0.mt, .int .i64 X0.ct, .int .i64 X0.next, .int .i64 X0.parent, .int .i64 X0.xattr, .bool X0.idx, .slice (some ⟨g7, 0, none⟩) 48 c7] 24
    rw [hsc] at h
    exact h)
  have hltx : w2.heap.size + 2 < w7.heap.size := HX7.out.lt
  have HIW : Hid (IS w ((w7.setCell ⟨w2.heap.size + 1 + 1, 1, none⟩ (.int .i64 512)).alloc (.cells #[.int .i64 X0.kind, .int .i64 X0.perm, .int .i64 X0.uid, .int .i64 X0.gid, .int .i64 X0.links, .int .i64 X0.size, .int .i64 X0.blocks, .int .i64 X0.at_, .int .i64 X0.mt, .int .i64 X0.ct, .int .i64 X0.next, .int .i64 X0.parent, .int .i64 X0.xattr, .bool X0.idx, .slice (some ⟨g7, 0, none⟩) 48 c7] 24)) (fun q => (False ∨ (w2.heap.size ≤ q ∧ q < W.heap.size)) ∨ ((w7.setCell ⟨w2.heap.size + 1 + 1, 1, none⟩ (.int .i64 512)).heap.size ≤ q ∧ q < ((w7.setCell ⟨w2.heap.size + 1 + 1, 1, none⟩ (.int .i64 512)).alloc (.cells #[.int .i64 X0.kind, .int .i64 X0.perm, .int .i64 X0.uid, .int .i64 X0.gid, .int .i64 X0.links, .int .i64 X0.size, .int .i64 X0.blocks, .int .i64 X0.at_, .int .i64 X0.mt, .int .i64 X0.ct, .int .i64 X0.next, .int .i64 X0.parent, .int .i64 X0.xattr, .bool X0.idx, .slice (some ⟨g7, 0, none⟩) 48 c7] 24)).heap.size)) b db (70001 + 3 + 23 + 3) s4 (setT T0 0 (inoBytes (0 + 1) X0))) := Lib.hid
    ((hI4.cell ⟨w2.heap.size + 1 + 1, 1, none⟩ (.int .i64 512) (.inr ⟨by show w2.heap.size ≤ w2.heap.size + 1 + 1; omega, by rw [HS3.out]; show w2.heap.size + 1 + 1 < _; omega⟩) (by have := HW2.out; show w.heap.size ≤ w2.heap.size + 1 + 1; omega)).also (below_box _))
  have HZW : Hid (Row ((w7.setCell ⟨w2.heap.size + 1 + 1, 1, none⟩ (.int .i64 512)).alloc (.cells #[.int .i64 X0.kind, .int .i64 X0.perm, .int .i64 X0.uid, .int .i64 X0.gid, .int .i64 X0.links, .int .i64 X0.size, .int .i64 X0.blocks, .int .i64 X0.at_, .int .i64 X0.mt, .int .i64 X0.ct, .int .i64 X0.next, .int .i64 X0.parent, .int .i64 X0.xattr, .bool X0.idx, .slice (some ⟨g7, 0, none⟩) 48 c7] 24)) (w2.heap.size + 1) zeros48 []) := Lib.hid ((rowFar HZ7.out _ _ (by show w2.heap.size + 1 ≠ w2.heap.size + 1 + 1; omega)).alloc _)
  have HSC := Lib.hid hsc
  have hx7 := HX7.out
  have gf := hx7.free
  have d0 := AMem.rowc hx7 0 rfl
  have d1 := AMem.rowc hx7 1 rfl
  have d2 := AMem.rowc hx7 2 rfl
  have d3 := AMem.rowc hx7 3 rfl
  have d4 := AMem.rowc hx7 4 rfl
  have d5 := AMem.rowc hx7 5 rfl
  have d6 := AMem.rowc hx7 6 rfl
  have d7 := AMem.rowc hx7 7 rfl
  have d8 := AMem.rowc hx7 8 rfl
  have d9 := AMem.rowc hx7 9 rfl
  have d10 := AMem.rowc hx7 10 rfl
  have d11 := AMem.rowc hx7 11 rfl
  have d12 := AMem.rowc hx7 12 rfl
  have d13 := AMem.rowc hx7 13 rfl
  have d14 := AMem.rowc hx7 14 rfl
  have HIS : Hid (∀ q, (w7.heap.size ≤ q ∧ q < w7.heap.size + 1) → ((False ∨ (w2.heap.size ≤ q ∧ q < W.heap.size)) ∨ ((w7.setCell ⟨w2.heap.size + 1 + 1, 1, none⟩ (.int .i64 512)).heap.size ≤ q ∧ q < ((w7.setCell ⟨w2.heap.size + 1 + 1, 1, none⟩ (.int .i64 512)).alloc (.cells #[.int .i64 X0.kind, .int .i64 X0.perm, .int .i64 X0.uid, .int .i64 X0.gid, .int .i64 X0.links, .int .i64 X0.size, .int .i64 X0.blocks, .int .i64 X0.at_, .int .i64 X0.mt, .int .i64 X0.ct, .int .i64 X0.next, .int .i64 X0.parent, .int .i64 X0.xattr, .bool X0.idx, .slice (some ⟨g7, 0, none⟩) 48 c7] 24)).heap.size))) := Lib.hid fun q hq => .inr ⟨by rw [hsc]; exact hq.1, by rw [World.size_alloc, hsc]; exact hq.2⟩
  clear hsc
  clear hR7 hI4 hk4 hx7
  go_wp2_with fail
  generalize (w7.setCell ⟨w2.heap.size + 1 + 1, 1, none⟩ (.int .i64 512)).alloc (.cells #[.int .i64 X0.kind, .int .i64 X0.perm, .int .i64 X0.uid, .int .i64 X0.gid, .int .i64 X0.links, .int .i64 X0.size, .int .i64 X0.blocks, .int .i64 X0.at_, .int .i64 X0.mt, .int .i64 X0.ct, .int .i64 X0.next, .int .i64 X0.parent, .int .i64 X0.xattr, .bool X0.idx, .slice (some ⟨g7, 0, none⟩) 48 c7] 24) = V at *
  refine (is_put_no HIW.out HT.out 1 X1 X1_no (some ⟨w2.heap.size + 1, 0, none⟩) 48 48 (by decide) (HZW.out.sl HZW.out.lt)).mono ?_
  rintro e w9 ⟨rfl, hI9, hk9⟩
  have HY9 : Hid (RowV w9 w7.heap.size 24 [.int .i64 X0.kind, .int .i64 X0.perm, .int .i64 X0.uid, .int .i64 X0.gid, .int .i64 X0.links, .int .i64 X0.size, .int .i64 X0.blocks, .int .i64 X0.at_, .int .i64 X0.mt, .int .i64 X0.ct, .int .i64 X0.next, .int .i64 X0.parent, .int .i64 X0.xattr, .bool X0.idx, .slice (some ⟨g7, 0, none⟩) 48 c7]) := Lib.hid ((hk9 _ (HIS.out _ ⟨Nat.le_refl _, by omega⟩)).trans HYW.out)
  have H9 := Lib.hid (is_get33 hI9 HT.out (by decide))
  clear gf hI9 hk9 d0 d1 d2 d3 d4 d5 d6 d7 d8 d9 d10 d11 d12 d13 d14
  go_wp2_with fail
  refine H9.out.mono ?_
  rintro e w10 ⟨rfl, s6, hI10, hk10⟩
  have hy : RowV w10 w7.heap.size 24 [.int .i64 X0.kind, .int .i64 X0.perm, .int .i64 X0.uid, .int .i64 X0.gid, .int .i64 X0.links, .int .i64 X0.size, .int .i64 X0.blocks, .int .i64 X0.at_, .int .i64 X0.mt, .int .i64 X0.ct, .int .i64 X0.next, .int .i64 X0.parent, .int .i64 X0.xattr, .bool X0.idx, .slice (some ⟨g7, 0, none⟩) 48 c7] := (hk10 _ (HIS.out _ ⟨Nat.le_refl _, by omega⟩)).trans HY9.out
  have hlt10 := hy.lt
  have y1 : w10.cell? ⟨w7.heap.size, 1, none⟩ = some (.int .i64 493) := AMem.rowc hy 1 rfl
  have y11 : w10.cell? ⟨w7.heap.size, 11, none⟩ = some (.int .i64 1) := AMem.rowc hy 11 rfl
  have y14 : w10.cell? ⟨w7.heap.size, 14, none⟩ = some (.slice (some ⟨g7, 0, none⟩) 48 c7) := AMem.rowc hy 14 rfl
  have HB10 := Lib.hid hI10.st.below
  clear hI10 hk10 hy
  go_wp2
  go_ret
  exact ⟨rfl, HB10.out.alloc HB10.out.size _⟩
end Go.Proofs.YtgjcbfdhpbkhoaaGreatDoor.IAwake
namespace Go.Proofs.YtgjcbfdhpbkhoaaGreatDoor.ILOnly
open Go.RowKit WMem WPlain WPack WHelp WWide WAny WAppend WCrc WSeal WFace2 GPlain GWithin GGeo GGeo2 SNums SPlain SEqual IPlain ICheck IPack IUnp IUn2 IUn3 IAwake
theorem un_fail {ino : Int} {b : List UInt8} (h : unE ino b ≠ 0) : unI ino b = Ino.nul := by
  refine if_neg fun hx => h ?_
  unfold unE
  rw [if_pos ⟨hx.1, hx.2.1⟩, if_neg (by rw [hx.2.2.1]; decide), if_pos hx.2.2.2]
theorem un_done {ino : Int} {b : List UInt8} (h : unE ino b = 0) : inB 1 65535 ino = true ∧ inoMay (unI ino b) = true ∧ inoBytes ino.toNat (unI ino b) = b ∧ (unI ino b).Wide ∧ b.length = 128 := by
  unfold unE at h
  split at h
  · rename_i h1
    split at h
    · cases h
    · rename_i h2
      split at h
      · rename_i h3
        have hz : (b == zeros128) = false := by simpa using h2
        have e : unI ino b = inoSays b := if_pos ⟨h1.1, h1.2, hz, h3⟩
        obtain ⟨g1, g2, g3⟩ := good_iff.1 h3
        rw [e]
        exact ⟨inB_true.2 h1, g2, g3, says_wide b, g1⟩
      · cases h
  · cases h
set_option maxRecDepth 100000 in
set_option maxHeartbeats 2000000 in
theorem only (ino : Int) (b : List UInt8) (B : Nat) (A : Option Addr) (c : Nat) (w : World) (hc : b.length ≤ c) (hB : B ≤ w.heap.size) (hA : Sl w B A (b.map u8v)) (hT : Tab w) :
    Calls Tryz.prog 5 #[.int .i64 ino, .slice A b.length c] w fun e w' => e = .returned (.bool true) ∧ Below w.heap.size w w' := by
  have HA := Lib.hid hA
  have HT := Lib.hid hT
  have HTL := Lib.hid (Tab.lt hT)
  obtain ⟨n, hn⟩ : ∃ n, b.length = n := ⟨_, rfl⟩
  rw [hn] at hc ⊢
  have HN := Lib.hid hn
  have HU := Lib.hid (fun (W : World) (hb : Below w.heap.size w W) => Unpack_any ino b n hn B A c hc W (by have := hb.size; omega) (hA.below_le hb hB) (Tab.below hT hb (Tab.lt hT)))
  have HAW := Lib.hid (awake_any w hT)
  clear hA hT hn
  by_cases hE : unE ino b = 0
  · obtain ⟨h1, h2, h3, h4, h5⟩ := un_done hE
    have hroot := (may_of h2).root
    rw [HN.out] at h5
    subst h5
    have HE := Lib.hid hE
    have HM := Lib.hid (And.intro h1 (And.intro h2 h3))
    have HRT := Lib.hid hroot
    have d2 : inoBytes ino.toNat (unI ino b) = b := h3
    clear hE h1 h2 h3 h4 hroot
    go_enter Tryz.func5, Tryz.ntmps5
    go_wp2_with fail
    refine HAW.out.mono ?_
    rintro e w1 ⟨rfl, hb1⟩
    have HB1 := Lib.hid hb1
    clear hb1
    go_wp2_with fail
    refine (HU.out w1 HB1.out).mono ?_
    rintro e w2 ⟨Ar, cr, rfl, hO, hb2⟩
    rw [HE.out]
    have HB2 := Lib.hid (below_up HB1.out hb2 HB1.out.size)
    obtain ⟨-, hsr, -⟩ := hO.at_
    have HSR := Lib.hid hsr
    clear hO hb2 hsr
    generalize hr : unI ino b = r at *
    clear hr
    rw [HRT.out]
    have HX := Lib.hid (BoxR.start w2 [.int .i64 r.kind, .int .i64 r.perm, .int .i64 r.uid, .int .i64 r.gid, .int .i64 r.links, .int .i64 r.size, .int .i64 r.blocks, .int .i64 r.at_, .int .i64 r.mt, .int .i64 r.ct, .int .i64 r.next, .int .i64 r.parent, .int .i64 r.xattr, .bool r.idx, .slice Ar 48 cr] 24)
    have HB3 := Lib.hid (HB2.out.alloc HB2.out.size (.cells #[.int .i64 r.kind, .int .i64 r.perm, .int .i64 r.uid, .int .i64 r.gid, .int .i64 r.links, .int .i64 r.size, .int .i64 r.blocks, .int .i64 r.at_, .int .i64 r.mt, .int .i64 r.ct, .int .i64 r.next, .int .i64 r.parent, .int .i64 r.xattr, .bool r.idx, .slice Ar 48 cr] 24))
    have HS3 := Lib.hid (alloc_sl HSR.out (Nat.le_refl _) (.cells #[.int .i64 r.kind, .int .i64 r.perm, .int .i64 r.uid, .int .i64 r.gid, .int .i64 r.links, .int .i64 r.size, .int .i64 r.blocks, .int .i64 r.at_, .int .i64 r.mt, .int .i64 r.ct, .int .i64 r.next, .int .i64 r.parent, .int .i64 r.xattr, .bool r.idx, .slice Ar 48 cr] 24))
    go_wp2_with fail
    refine (Pack_any ino r w2.heap.size Ar cr _ (by simp) HS3.out (Tab.below HT.out HB3.out HTL.out) 48 HRT.out).mono ?_
    rintro e w4 ⟨Ap, cp, rfl, hO, hb4⟩
    have hpl : paL ino r = b := by unfold paL; rw [if_pos ⟨HM.out.1, HM.out.2.1⟩]; exact d2
    have hpe : paE ino r = 0 := if_pos ⟨HM.out.1, HM.out.2.1⟩
    rw [hpl] at hO
    rw [hpl, hpe, HN.out]
    obtain ⟨-, hsp, -⟩ := hO.at_
    have HSP := Lib.hid hsp
    have HX4 := Lib.hid (HX.out.go hb4)
    have HB4 := Lib.hid (below_up HB3.out hb4 HB3.out.size)
    have HA4 := Lib.hid (HA.out.below_le HB4.out hB)
    clear hO hsp hb4 hpl hpe
    go_wp2_with fail
    refine (Same_at 128 128 b HN.out HN.out B w4.heap.size A _ c cp w4 HA4.out HSP.out (by decide)).mono ?_
    rintro e w' ⟨rfl, nd, rfl⟩
    have HX5 := Lib.hid (HX4.out.drewN nd)
    have HB5 : Hid (Below w.heap.size w (w4.drewN nd)) := Lib.hid (below_drewN HB4.out nd)
    generalize w4.drewN nd = w5 at *
    obtain ⟨k0, k1, k2, k3, k4, k5, k6, k7, k8, k9, k10, k11, k12, k13, k14⟩ := (show _ ∧ _ ∧ _ ∧ _ ∧ _ ∧ _ ∧ _ ∧ _ ∧ _ ∧ _ ∧ _ ∧ _ ∧ _ ∧ _ ∧ _ from ⟨HX5.out.cell 0 rfl, HX5.out.cell 1 rfl, HX5.out.cell 2 rfl, HX5.out.cell 3 rfl, HX5.out.cell 4 rfl, HX5.out.cell 5 rfl, HX5.out.cell 6 rfl, HX5.out.cell 7 rfl, HX5.out.cell 8 rfl, HX5.out.cell 9 rfl, HX5.out.cell 10 rfl, HX5.out.cell 11 rfl, HX5.out.cell 12 rfl, HX5.out.cell 13 rfl, HX5.out.cell 14 rfl⟩)
    have hck := Check_is r Ar cr w5 true HM.out.2.1
    rw [HRT.out] at hck
    have HCK := Lib.hid hck
    clear hck
    go_wp2_with fail
    refine HCK.out.mono ?_
    rintro e w6 ⟨rfl, hb6⟩
    have HB6 := Lib.hid (below_up HB5.out hb6 HB5.out.size)
    clear hb6 k0 k1 k2 k3 k4 k5 k6 k7 k8 k9 k10 k11 k12 k13 k14
    go_wp2
    go_ret
    exact ⟨rfl, HB6.out⟩
  · have hI := un_fail hE
    have d1 : (unE ino b != 0) = true := by rw [bne_iff_ne]; exact hE
    have HI := Lib.hid hI
    generalize hue : unE ino b = er at *
    have HUE := Lib.hid hue
    clear hE hI hue
    go_enter Tryz.func5, Tryz.ntmps5
    go_wp2_with fail
    refine HAW.out.mono ?_
    rintro e w1 ⟨rfl, hb1⟩
    have HB1 := Lib.hid hb1
    clear hb1
    go_wp2_with fail
    refine (HU.out w1 HB1.out).mono ?_
    rintro e w2 ⟨Ar, cr, rfl, -, hb2⟩
    rw [HI.out, HUE.out]
    have HB2 := Lib.hid (below_up HB1.out hb2 HB1.out.size)
    clear hb2
    unfold Ino.nul
    simp only [List.length_nil]
    go_wp2
    go_ret
    exact ⟨rfl, HB2.out.alloc HB2.out.size _⟩
end Go.Proofs.YtgjcbfdhpbkhoaaGreatDoor.ILOnly
namespace Go.Proofs.YtgjcbfdhpbkhoaaGreatDoor.IPOnly
open Go.ChangeShapes Go.WideShapes Go.ChangeAt Go.RowKit WMem WPlain WCrc RowEnd Args Door
set_option maxRecDepth 100000 in
theorem contract (H : Type) (enc : TypeId × Value → H) (W : World) (base : Nat) (args : Array Value) (ds gs : List (DataW H)) (before : List MemPlace)
    (hval : ∀ (j : Nat) t v, Tryz.f5.params[j]? = some t → args[j]? = some v → Value.okWide Tryz.prog W .any base t v)
    (hW : DataW.Whole enc Tryz.prog Tryz.f5.params.toList Rows.inodeOnlySpec.vars false W args.toList ds gs before)
    (hsz : (DataW.weightsEach Tryz.prog (Tryz.f5.params.toList ++ []) (ds ++ gs)).all (· ≤ reachBytes) = true) (hL : laidMetH Tryz.prog laid1 W) :
    Calls Tryz.prog 5 args W fun e W' => ∃ v, e = .returned v ∧ Rows.inodeOnlySpec.post enc Tryz.prog Tryz.f5 false true false false W args v W' := by
  have hW' := hW
  obtain ⟨p, q, hA0, hV, hbe, hfz, hnd⟩ := hW
  have hA : DataW.TrodAll enc Tryz.prog W 0 (fun _ => true) true Tryz.f5.params.toList args.toList ds p := hA0
  have hA1 := hA
  obtain ⟨rfl, rfl⟩ := trodVars_none hV
  rw [List.append_nil] at hbe hsz
  rw [Tryz.params5] at hA hval hsz
  obtain ⟨v0, vs0, d0, ds0, p0, q0, hargs, rfl, rfl, h0, r0⟩ := trodAll_cons hA
  obtain ⟨v1, vs1, d1, ds1, p1, q1, rfl, rfl, rfl, h1, r1⟩ := trodAll_cons r0
  obtain ⟨rfl, rfl, rfl⟩ := trodAll_nil r1
  obtain rfl : args = #[v0, v1] := by cases args; simp_all
  obtain ⟨x0, rfl, rfl, rfl, w0⟩ := open_int i64t (hval 0 3 v0 rfl rfl) h0
  have b0 := bounds_i64 w0
  obtain ⟨A1, l1, c1, rfl, s1, z1, k1⟩ := arg_u8s u8s u8t c8 b8 (hval 1 22 v1 rfl rfl) h1 hsz (j := 1) rfl rfl
  refine (ILOnly.only x0 l1 _ A1 c1 W k1 (Nat.le_refl _) s1 (tab_of hL)).mono fun e W' ⟨he, hb⟩ => ?_
  subst he
  refine ⟨_, rfl, law_post laidOut (by kernel_rfl) rfl boolt rfl rfl rfl rfl hW' hA1 (fun x hx => hW'.lt x (by rw [hbe]; exact hx)) hb⟩
abbrev start : Array Value := #[.int .i64 0, .slice none 0 0]
theorem laid_met (os : Os) : laidMet Tryz.prog laid1 ((laidWorld os).forCall (fun _ _ => 0) ⟨#[], start, []⟩).memory :=
  laidMet_of_run' 8 (by kernel_rfl) (by kernel_rfl)
theorem reads (os : Os) {H : Type} (enc : TypeId × Value → H) : ∃ places, DataW.whole enc Tryz.prog ((laidWorld os).forCall (fun _ _ => 0) ⟨#[], start, []⟩).memory Tryz.f5.params.toList Rows.inodeOnlySpec.vars false start.toList 8 = some ([.lit (.int .i64 0), .nil], [], places) :=
  ⟨[], by kernel_rfl⟩
set_option maxRecDepth 100000 in
theorem lifted (os : Os) (started : os.Started) (H : Type) (enc : TypeId × Value → H) (F : Stop.Interp) :
    ReturnsInHanded {} Tryz.checked os 5 .any ((OpenSpec.ofChange Rows.inodeOnlySpec).preRow enc Tryz.prog Tryz.f5 Rows.inodeOnlyRow.domain false Rows.inodeOnlyRow.laid) (((OpenSpec.ofChange Rows.inodeOnlySpec).at F).post enc Tryz.prog Tryz.f5 false true false false) := by
  obtain ⟨places, hx⟩ := reads os enc
  refine returnsInHanded_of_row (C := Tryz.checked) (s := (OpenSpec.ofChange Rows.inodeOnlySpec)) own started (by kernel_rfl) Tryz.func5
    (witness_row_at (enc := enc) (C := Tryz.checked) false (laidWorld os) start rfl (by kernel_rfl) (by kernel_rfl) (by kernel_rfl)
      (OpenSpec.preRow_of_cond 8 hx (by kernel_rfl) (fun k hk => by cases hk) (by kernel_rfl) (laid_met os))) ?_
  intro W base args ds gs before hval hW _ _ hsz hL _ _
  exact contract H enc W base args ds gs before hval hW hsz hL
theorem k0 : (Rows.inodeOnlyRow.wf (OpenSpec.ofChange Rows.inodeOnlySpec)) = true := by kernel_rfl
theorem k3 : (Tryz.f5.params.all (Tryz.prog.readableRec ·)) = true := by kernel_rfl
theorem k4 : (namedTie Tryz.prog Rows.inodeOnlyRow.named Rows.inodeOnlySpec.vars) = true := by kernel_rfl
theorem k5 : ((Rows.inodeOnlyRow.stops == [])) = true := by kernel_rfl
theorem k7 : ((Rows.inodeOnlyRow.knobs == [])) = true := by kernel_rfl
theorem k9 : ((Rows.inodeOnlyRow.inPlace == Tryz.prog.inPlace 5)) = true := by kernel_rfl
theorem k10 : ((Rows.inodeOnlyRow.unfollowed == Tryz.prog.unfollowed 5)) = true := by kernel_rfl
theorem k11 : ((Rows.inodeOnlyRow.recurses == Tryz.prog.recurses 5)) = true := by kernel_rfl
theorem k12 : ((Rows.inodeOnlyRow.named == Tryz.prog.varsNamed 5)) = true := by kernel_rfl
theorem k13 : ((Rows.inodeOnlyRow.maps == (Tryz.f5.params.toList ++ Rows.inodeOnlySpec.plain.varTypes Tryz.prog).any (Tryz.prog.mapsRec ·))) = true := by kernel_rfl
theorem k14 : ((Rows.inodeOnlyRow.ifaces == (Tryz.f5.params.toList ++ Rows.inodeOnlySpec.plain.varTypes Tryz.prog).any (Tryz.prog.ifacesRec ·))) = true := by kernel_rfl
theorem k15 : ((Rows.inodeOnlyRow.mapsOut == Tryz.prog.mapsAmong Tryz.f5.resultTypes.toList)) = true := by kernel_rfl
theorem k16 : ((Rows.inodeOnlyRow.loops == (Tryz.f5.params.toList ++ Rows.inodeOnlySpec.plain.varTypes Tryz.prog).any (Tryz.prog.loopsFrom ·))) = true := by kernel_rfl
theorem k17 : ((Rows.inodeOnlyRow.wideKeys == (Tryz.f5.params.toList ++ Rows.inodeOnlySpec.plain.varTypes Tryz.prog ++ Tryz.f5.resultTypes.toList).any (Tryz.prog.wideKeysFrom ·))) = true := by kernel_rfl
theorem k18 : (Rows.inodeOnlySpec.vars.all (Tryz.prog.varReadable ·)) = true := by kernel_rfl
theorem k19 : (Tryz.f5.resultTypes.all (fun t => Tryz.prog.readableRec t && decide (t < Tryz.prog.types.size))) = true := by kernel_rfl
theorem k20 : ((Rows.inodeOnlyRow.ifacesOut == Tryz.f5.resultTypes.toList.any (Tryz.prog.ifacesRec ·))) = true := by kernel_rfl
theorem k21 : ((Rows.inodeOnlyRow.loopsOut == Tryz.f5.resultTypes.toList.any (Tryz.prog.loopsFrom ·))) = true := by kernel_rfl
theorem k23 : (Rows.inodeOnlyRow.shortTexts.isNone) = true := by kernel_rfl
theorem k29 : ((Rows.inodeOnlyRow.pinned == Rows.inodeOnlyRow.pinnedBy)) = true := by kernel_rfl
theorem k30 : ((Rows.inodeOnlyRow.veiled == (Tryz.f5.params.toList ++ Rows.inodeOnlySpec.plain.varTypes Tryz.prog ++ Tryz.f5.resultTypes.toList).any (Tryz.prog.veiledRec ·))) = true := by kernel_rfl
theorem k31 : (Rows.inodeOnlyRow.veiledFits Tryz.prog Tryz.f5.params.toList (Tryz.f5.params.toList ++ Rows.inodeOnlySpec.plain.varTypes Tryz.prog ++ Tryz.f5.resultTypes.toList)) = true := by kernel_rfl
set_option maxRecDepth 100000 in
theorem closed : joinedFacts Tryz.prog 5 Tryz.f5 Rows.inodeOnlySpec Rows.inodeOnlyRow = true := by
  unfold joinedFacts
  rw [k0, laidOut, IShut.rowed, k3, k4, k5, IShut.stops, k7, IShut.knobs, k9, k10, k11, k12, k13, k14, k15, k16, k17, k18, k19, k20, k21, IShut.keys, k23, IShut.heard, IShut.enter, IShut.lifts, IShut.makes, k29, k30, k31]
  kernel_rfl
set_option maxRecDepth 100000 in
theorem said : Rows.InodeOnlySaid :=
  OpenClaim.holds_of_cond 5 Tryz.f5 rfl rfl rfl rfl rfl rfl rfl ⟨rfl, rfl, rfl, rfl, rfl⟩ rfl rfl rfl rfl rfl (by kernel_rfl) Tryz.func5 closed
    (of_decide_eq_true (by kernel_rfl)) (by unfold Func.isWrapper; first | (rw [if_pos (by decide +kernel)]; kernel_rfl) | (rw [if_neg (by decide +kernel)]; exact ⟨rfl, rfl⟩))
    (fun os started H enc _ F => by rw [OpenClaim.pre_eq_preRow]; exact lifted os started H enc F)
theorem plain (f : FuncId) (fn : Func) (hf : Tryz.pinned.checked.prog.funcNamed "hayrick/hayricklaw12.InodeOnly" = some f) (hfn : Tryz.pinned.checked.prog.funcs[f]? = some fn) :
    true = Tryz.pinned.checked.prog.looks [] ∧ ∀ (j : Nat) t, fn.params[j]? = some t → Tryz.pinned.checked.prog.wantsStandIn t = false := by
  obtain rfl : f = 5 := Option.some.inj ((show Tryz.prog.funcNamed "hayrick/hayricklaw12.InodeOnly" = some 5 by kernel_rfl).symm.trans hf) |>.symm
  obtain rfl : fn = Tryz.f5 := (Option.some.inj (Tryz.func5.symm.trans hfn)).symm
  refine ⟨by kernel_rfl, fun j t ht => ?_⟩
  have hall : (Tryz.f5.params.toList.all fun u => !Tryz.prog.wantsStandIn u) = true := by kernel_rfl
  have := List.all_eq_true.1 hall t (Array.mem_toList_iff.2 (Array.mem_of_getElem? ht))
  exact (show Tryz.prog.wantsStandIn t = false by simpa using this)
theorem card : Rows.InodeOnlyCardSaid :=
  Claim7.holds_tied_plain_at .later [] _ _ _ _ said (fun _ h => by cases h) (by kernel_rfl) (fun _ h => by cases h) inodeOnly_row_tie rfl ⟨rfl, rfl⟩ (by kernel_rfl) rfl plain (by kernel_rfl)
#print axioms card
end Go.Proofs.YtgjcbfdhpbkhoaaGreatDoor.IPOnly
