/- Proved: called with any number, inode and two numbers more, the statement InodeBack answers true, and its arguments read behind the call as before. Conditions: the row's own (each slice takes at most 2^47 - 4096 bytes; the package variable fourSteps starts as the program's text lays it, which the card ties). -/
import Derived.Test.YtgjcbfdhpbkhoaaGreatDoorMg23
import Derived.Deep.Slices
import Derived.Deep.Fields
import Derived.Deep.Grids
import Derived.ChangeSame
import Derived.ProofKit
import Derived.OpenShut
import Derived.SizedLaws
import Derived.Test.YtgjcbfdhpbkhoaaGreatDoorMg1
import Derived.Test.YtgjcbfdhpbkhoaaGreatDoorMg10
import Derived.Test.YtgjcbfdhpbkhoaaGreatDoorMg25
import Derived.Test.YtgjcbfdhpbkhoaaGreatDoorMg34
import Derived.Test.YtgjcbfdhpbkhoaaGreatDoorMg55
import Derived.Test.YtgjcbfdhpbkhoaaGreatDoorCards
import Derived.Test.YtgjcbfdhpbkhoaaGreatDoorTie
import Derived.Test.YtgjcbfdhpbkhoaaGreatDoorMg11
import Derived.Test.YtgjcbfdhpbkhoaaGreatDoorMg53
import Derived.WalkKit
import Derived.Deep.DeepHandedRow
import Derived.Lib.LaidTab
namespace Go.Proofs.YtgjcbfdhpbkhoaaGreatDoor.Args
open Go.ChangeShapes Go.WideShapes Go.ChangeAt Go.RowKit WMem
section
variable {H : Type} {enc : TypeId × Value → H} {P : Program}
theorem arg_list {k : IntKind} {t e : TypeId} {bytes base : Nat} (ht : P.underlying t = some (.slice e)) (he : P.underlying e = some (.int k)) (hc : P.cellsOf e = 1) (hby : P.bytesOf e = bytes)
    {W : World} {v : Value} {d : DataW H} {p : List MemPlace} (hv : Value.okWide P W .any base t v) (h : DataW.Trod enc P W 0 (fun _ => true) true t v d p)
    {ts : List TypeId} {ds : List (DataW H)} {j : Nat} (hsz : (DataW.weightsEach P ts ds).all (· ≤ reachBytes) = true) (htj : ts[j]? = some t) (hdj : ds[j]? = some d) :
    ∃ (A : Option Addr) (zs : List Int) (c : Nat), v = .slice A zs.length c ∧ (∀ n ∈ zs, (Lit.int k n).wf = true) ∧ Sl W W.heap.size A (zs.map (Value.int k)) ∧ zs.length * bytes ≤ 140737488351232 ∧ zs.length ≤ c ∧ (A = none → c = 0) := by
  obtain ⟨a0, len, cap, rfl⟩ := okWide_slice ht hv
  obtain ⟨fuel, hf⟩ := h
  rcases open_ints ht he hc hf with ⟨hcs, hx⟩ | ⟨a, len', cap', zs, hcs, _, hl, hm, hz, hx, hcell, hwz⟩
  · simp [Value.cells] at hcs
    obtain ⟨rfl, rfl, rfl⟩ := hcs
    exact ⟨none, [], 0, rfl, by simp, Sl.nil _ _ _, by simp, Nat.le_refl _, fun _ => rfl⟩
  · simp [Value.cells] at hcs
    obtain ⟨rfl, rfl, rfl⟩ := hcs
    simp only [if_true] at hz
    simp only [Prod.mk.injEq] at hx
    obtain ⟨rfl, _⟩ := hx
    have hs := sized_slice hsz htj hdj ht
    rw [hby] at hs
    simp only [lits, List.length_map, List.length_take, List.length_drop] at hs
    have hlen : (zs.take len).length = len := by simp; omega
    refine ⟨some a, zs.take len, cap, by rw [hlen], fun n hn => hwz n (List.mem_of_mem_take hn), ?_, ?_, by rw [hlen]; exact hl, fun h => by cases h⟩
    · intro k' u hu
      rw [List.getElem?_map, List.getElem?_take] at hu
      split at hu
      · rename_i hk
        have hk' : k' < zs.length := by omega
        rw [List.getElem?_eq_getElem hk'] at hu
        simp at hu
        subst hu
        have hc' := hcell k' hk'
        rw [List.getD_eq_getElem?_getD, List.getElem?_eq_getElem hk'] at hc'
        simp at hc'
        refine ⟨a, rfl, ?_, hc'⟩
        have := World.block_lt_of_cell? W _ hc'
        rwa [addr_add_block] at this
      · cases hu
    · rw [hlen]
      have h1 : min len zs.length + (zs.length - len) = cap := by omega
      rw [h1] at hs
      have h2 : reachBytes = 140737488351232 := by decide
      rw [h2] at hs
      exact Nat.le_trans (Nat.mul_le_mul_right _ hl) hs
theorem arg_u8s {t e : TypeId} {base : Nat} (ht : P.underlying t = some (.slice e)) (he : P.underlying e = some (.int .u8)) (hc : P.cellsOf e = 1) (hby : P.bytesOf e = 1)
    {W : World} {v : Value} {d : DataW H} {p : List MemPlace} (hv : Value.okWide P W .any base t v) (h : DataW.Trod enc P W 0 (fun _ => true) true t v d p)
    {ts : List TypeId} {ds : List (DataW H)} {j : Nat} (hsz : (DataW.weightsEach P ts ds).all (· ≤ reachBytes) = true) (htj : ts[j]? = some t) (hdj : ds[j]? = some d) :
    ∃ (A : Option Addr) (l : List UInt8) (c : Nat), v = .slice A l.length c ∧ Sl W W.heap.size A (l.map u8v) ∧ l.length ≤ 140737488351232 ∧ l.length ≤ c := by
  obtain ⟨A, zs, c, rfl, hw, hs, hb, hlc, _⟩ := arg_list ht he hc hby hv h hsz htj hdj
  have e1 : zs.map (Value.int .u8) = (zs.map fun z => UInt8.ofNat z.toNat).map u8v := by
    rw [List.map_map]
    apply List.map_congr_left
    intro z hz
    have := bounds_u8 (hw z hz)
    simp only [Function.comp, u8v]
    congr 1
    simp
    omega
  refine ⟨A, zs.map fun z => UInt8.ofNat z.toNat, c, by simp, by rw [← e1]; exact hs, by simpa using hb, by simpa using hlc⟩
end
end Go.Proofs.YtgjcbfdhpbkhoaaGreatDoor.Args
namespace Go.Proofs.YtgjcbfdhpbkhoaaGreatDoor.Door
open Go.ChangeShapes Go.WideShapes Go.ChangeAt Go.RowKit WMem WPlain WCrc RowEnd Args
theorem own : ownKnob Tryz.prog.godebug = none := by kernel_rfl
theorem laidOut : laidOutB Tryz.prog = true := by kernel_rfl
theorem gTab : Tryz.prog.globalNamed "hayrick/wire.fourSteps" = some 0 := by kernel_rfl
theorem gTabType : (Tryz.prog.globals[0]?).map (·.type) = some 176 := by kernel_rfl
theorem uTab : Tryz.prog.underlying 176 = some (.array 16 52) := by kernel_rfl
theorem u32t : Tryz.prog.underlying 52 = some (.int .u32) := by kernel_rfl
theorem u8t : Tryz.prog.underlying 5 = some (.int .u8) := by kernel_rfl
theorem i64t : Tryz.prog.underlying 3 = some (.int .i64) := by kernel_rfl
theorem boolt : Tryz.prog.underlying 4 = some .bool := by kernel_rfl
theorem u8s : Tryz.prog.underlying 22 = some (.slice 5) := by kernel_rfl
theorem ints : Tryz.prog.underlying 50 = some (.slice 3) := by kernel_rfl
theorem cTab : Tryz.prog.cellsOf 176 = 16 := by kernel_rfl
theorem c32 : Tryz.prog.cellsOf 52 = 1 := by kernel_rfl
theorem c8 : Tryz.prog.cellsOf 5 = 1 := by kernel_rfl
theorem b8 : Tryz.prog.bytesOf 5 = 1 := by kernel_rfl
abbrev laid1 : List (String × DataW Unit) := [("hayrick/wire.fourSteps", Rows.laid_hayrick_wire_fourSteps)]
theorem tab_of {W : World} (h : laidMetH Tryz.prog laid1 W) : Tab W := by
  have ht : Lib.TabIs Tryz.prog W "hayrick/wire.fourSteps" .u32 (tab.map fun (n : Nat) => (n : Int)) :=
    Lib.tabIs_of_head (rest := []) gTab gTabType uTab u32t c32 cTab h
  intro r hr
  rw [ht.cell gTab r (by simpa [tab] using hr)]
  simp only [List.getD_eq_getElem?_getD, List.getElem?_map]
  rw [List.getElem?_eq_getElem (by simpa [tab] using hr)]
  rfl
noncomputable def laidWorld (os : Os) : World :=
  { World.holding Tryz.prog os ⟨#[], #[], []⟩ with heap := (World.holding Tryz.prog os ⟨#[], #[], []⟩).heap.modify 0 fun
      | .cells _ t frozen => .cells (tab.map fun (n : Nat) => Value.int .u32 (n : Int)).toArray t frozen
      | o => o }
end Go.Proofs.YtgjcbfdhpbkhoaaGreatDoor.Door
namespace Go.Proofs.YtgjcbfdhpbkhoaaGreatDoor.IShut
open Go.ChangeShapes Go.WideShapes Go.ChangeAt Go.RowKit WMem WPlain WCrc RowEnd Args Door
set_option maxRecDepth 100000
theorem rowed : (mapsRowed Tryz.prog) = true := by kernel_rfl
theorem stops : ((Tryz.prog.stops == [])) = true := by kernel_rfl
theorem knobs : ((Tryz.prog.stopKnobs == [])) = true := by kernel_rfl
theorem keys : ((Rows.inodeOnlyRow.plainKeys == Tryz.prog.plainKeys)) = true := by kernel_rfl
theorem heard : (Tryz.prog.stopsHeard) = true := by kernel_rfl
theorem enter : (Tryz.prog.mayEnter) = true := by kernel_rfl
theorem lifts : ((Rows.inodeOnlyRow.lifted == Tryz.prog.liftsFinal)) = true := by kernel_rfl
theorem makes : ((Tryz.prog.make == some Rows.inodeOnlyRow.make)) = true := by kernel_rfl
end Go.Proofs.YtgjcbfdhpbkhoaaGreatDoor.IShut
namespace Go.Proofs.YtgjcbfdhpbkhoaaGreatDoor.IAwake
open Go.RowKit WMem WPlain WPack WWide WAny WAppend WCrc WSeal WFace2 GPlain GPlain3 GWithin GGeo GGeo2 GFace SNums SPlain QPlain QMem Ext Map DPlain DMem EPlain EMem EFace EAny APlain AMem AGeo AOpen IPlain ICheck IPack IUnp IUn2 IUn3 IPlace IGet ILay ITab IBoth
def zeros48 : List UInt8 := List.replicate 48 0
def X0 : Ino := ⟨2, 493, 0, 0, 2, 0, 0, 0, 0, 0, 0, 1, 0, false, zeros48⟩
def X1 : Ino := ⟨2, 512, 0, 0, 2, 0, 0, 0, 0, 0, 0, 1, 0, false, zeros48⟩
theorem X0_may : inoMay X0 = true := by decide +kernel
theorem X1_no : inoMay X1 = false := by decide +kernel
theorem X0_wide : X0.Wide := ⟨⟨by decide, by decide⟩, ⟨by decide, by decide⟩, ⟨by decide, by decide⟩⟩
theorem un_back {r : Ino} (hm : inoMay r = true) (hw : r.Wide) {ino : Nat} (h1 : 1 ≤ ino) (h2 : ino ≤ 65535) : unI (ino : Int) (inoBytes ino r) = r ∧ unE (ino : Int) (inoBytes ino r) = 0 := by
  have hz := not_free (may_of hm) hw ino
  have hg := good_back hm hw ino
  have hi : 1 ≤ (ino : Int) ∧ (ino : Int) ≤ 65535 := by omega
  have hn : (ino : Int).toNat = ino := by omega
  constructor
  · unfold unI
    rw [if_pos ⟨hi.1, hi.2, hz, by rw [hn]; exact hg⟩]
    exact says_back (may_of hm) ino hw
  · unfold unE
    rw [if_pos hi, if_neg (by rw [hz]; decide), hn, if_pos hg]
theorem un_zero {ino : Int} (h1 : 1 ≤ ino) (h2 : ino ≤ 65535) : unI ino zeros128 = Ino.nul ∧ unE ino zeros128 = 2 := by
  have hz : (zeros128 == zeros128) = true := by simp
  constructor
  · unfold unI
    rw [if_neg (by rw [hz]; simp)]
  · unfold unE
    rw [if_pos ⟨h1, h2⟩, if_pos hz]
section
variable {a w : World} {S : Nat → Prop} {b db L : Nat} {s : Sto} {T : Nat → List UInt8}
theorem get_none (h : IS a w S b db L s T) (hT : Tab a) (hL : L ≤ 1000000) (m : Nat) (hm : m < 32) (q : Int) (hq : q = ((m + 1 : Nat) : Int)) (h0 : T m = zeros128) :
    Calls Tryz.prog 18 #[.pointer (some ⟨b, 0, none⟩), .int .i64 q] w fun e w' => ∃ Ar c, e = .returned (.tuple #[.agg #[.int .i64 0, .int .i64 0, .int .i64 0, .int .i64 0, .int .i64 0, .int .i64 0, .int .i64 0, .int .i64 0, .int .i64 0, .int .i64 0, .int .i64 0, .int .i64 0, .int .i64 0, .bool false, .slice Ar 0 c], .int .i64 2]) ∧ ∃ s', IS a w' S b db (L + 3) s' T ∧ Kp S w w' := by
  subst hq
  refine (is_get h hT hL m hm).mono ?_
  rintro e w' ⟨Ar, c, s', rfl, hO, hI, hk⟩
  obtain ⟨e1, e2⟩ := un_zero (ino := ((m + 1 : Nat) : Int)) (by omega) (by omega)
  rw [h0, e1, e2]
  exact ⟨Ar, c, rfl, s', hI, hk⟩
theorem get_some (h : IS a w S b db L s T) (hT : Tab a) (hL : L ≤ 1000000) (m : Nat) (hm : m < 32) (q : Int) (hq : q = ((m + 1 : Nat) : Int)) (r : Ino) (hr : inoMay r = true) (hw : r.Wide) (h0 : T m = inoBytes (m + 1) r) :
    Calls Tryz.prog 18 #[.pointer (some ⟨b, 0, none⟩), .int .i64 q] w fun e w' => ∃ g c rest s', e = .returned (.tuple #[.agg #[.int .i64 r.kind, .int .i64 r.perm, .int .i64 r.uid, .int .i64 r.gid, .int .i64 r.links, .int .i64 r.size, .int .i64 r.blocks, .int .i64 r.at_, .int .i64 r.mt, .int .i64 r.ct, .int .i64 r.next, .int .i64 r.parent, .int .i64 r.xattr, .bool r.idx, .slice (some ⟨g, 0, none⟩) 48 c], .int .i64 0]) ∧ w.heap.size ≤ g ∧ Row w' g r.root rest ∧ IS a w' S b db (L + 3) s' T ∧ Kp S w w' := by
  subst hq
  refine (is_get h hT hL m hm).mono ?_
  rintro e w' ⟨Ar, c, s', rfl, hO, hI, hk⟩
  obtain ⟨e1, e2⟩ := un_back hr hw (ino := m + 1) (by omega) (by omega)
  have hlen := (may_of hr).root
  rw [h0, e1, hlen] at hO
  rw [h0, e1, e2, hlen]
  rcases hO with ⟨_, hn⟩ | ⟨g, cap, rest, hv, h4, h5, hR⟩
  · rw [hn] at hlen; cases hlen
  · injection hv with v1 v2 v3
    subst v1 v3
    exact ⟨g, c, rest, s', rfl, h4, hR, hI, hk⟩
end
theorem make48 (w : World) : (Instr.makeSlice 22 (.int .i64 48) (.int .i64 48)).run Tryz.prog w = .ok (.slice (some ⟨w.heap.size, 0, none⟩) 48 48) (w.alloc (.cells (zrow 48) 5)) := make_bytes 48 (by decide) w
theorem T0_at (m : Nat) : T0 m = zeros128 := rfl
set_option maxRecDepth 100000 in
set_option maxHeartbeats 2000000 in
theorem awake_any (w : World) (hT : Tab w) : Calls Tryz.prog 7 #[] w fun e w' => e = .returned (.bool true) ∧ Below w.heap.size w w' := by
  have HT := Lib.hid hT
  have hmk := make48
  clear hT
  go_enter Tryz.func7, Tryz.ntmps7
  go_wp2_with fail
  refine (both_any w HT.out).mono ?_
  rintro e w1 ⟨b, v, rfl, db, s1, hI1⟩
  have H1 := Lib.hid (get_none hI1 HT.out (by decide) 0 (by decide) 1 rfl rfl)
  clear hI1
  go_wp2_with fail
  refine H1.out.mono ?_
  rintro e w2 ⟨A2, c2, rfl, s2, hI2, -⟩
  have hb2 := ((below_box (w := w2) (.cells #[.int .i64 0, .int .i64 0, .int .i64 0, .int .i64 0, .int .i64 0, .int .i64 0, .int .i64 0, .int .i64 0, .int .i64 0, .int .i64 0, .int .i64 0, .int .i64 0, .int .i64 0, .bool false, .slice A2 0 c2] 24)).alloc (by simp) (.cells (zrow 48) 5)).alloc (by simp; omega) (.cells #[.int .i64 2, .int .i64 493, .int .i64 0, .int .i64 0, .int .i64 2, .int .i64 0, .int .i64 0, .int .i64 0, .int .i64 0, .int .i64 0, .int .i64 0, .int .i64 1, .int .i64 0, .bool false, .slice (some ⟨w2.heap.size + 1, 0, none⟩) 48 48] 24)
  have hs1 : (w2.alloc (.cells #[.int .i64 0, .int .i64 0, .int .i64 0, .int .i64 0, .int .i64 0, .int .i64 0, .int .i64 0, .int .i64 0, .int .i64 0, .int .i64 0, .int .i64 0, .int .i64 0, .int .i64 0, .bool false, .slice A2 0 c2] 24)).heap.size = w2.heap.size + 1 := by simp
  have hs2 : ((w2.alloc (.cells #[.int .i64 0, .int .i64 0, .int .i64 0, .int .i64 0, .int .i64 0, .int .i64 0, .int .i64 0, .int .i64 0, .int .i64 0, .int .i64 0, .int .i64 0, .int .i64 0, .int .i64 0, .bool false, .slice A2 0 c2] 24)).alloc (.cells (zrow 48) 5)).heap.size = w2.heap.size + 2 := by simp
  have hs3 : (((w2.alloc (.cells #[.int .i64 0, .int .i64 0, .int .i64 0, .int .i64 0, .int .i64 0, .int .i64 0, .int .i64 0, .int .i64 0, .int .i64 0, .int .i64 0, .int .i64 0, .int .i64 0, .int .i64 0, .bool false, .slice A2 0 c2] 24)).alloc (.cells (zrow 48) 5)).alloc (.cells #[.int .i64 2, .int .i64 493, .int .i64 0, .int .i64 0, .int .i64 2, .int .i64 0, .int .i64 0, .int .i64 0, .int .i64 0, .int .i64 0, .int .i64 0, .int .i64 1, .int .i64 0, .bool false, .slice (some ⟨w2.heap.size + 1, 0, none⟩) 48 48] 24)).heap.size = w2.heap.size + 3 := by simp
  have hxr : RowV (((w2.alloc (.cells #[.int .i64 0, .int .i64 0, .int .i64 0, .int .i64 0, .int .i64 0, .int .i64 0, .int .i64 0, .int .i64 0, .int .i64 0, .int .i64 0, .int .i64 0, .int .i64 0, .int .i64 0, .bool false, .slice A2 0 c2] 24)).alloc (.cells (zrow 48) 5)).alloc (.cells #[.int .i64 2, .int .i64 493, .int .i64 0, .int .i64 0, .int .i64 2, .int .i64 0, .int .i64 0, .int .i64 0, .int .i64 0, .int .i64 0, .int .i64 0, .int .i64 1, .int .i64 0, .bool false, .slice (some ⟨w2.heap.size + 1, 0, none⟩) 48 48] 24)) (w2.heap.size + 2) 24 [.int .i64 2, .int .i64 493, .int .i64 0, .int .i64 0, .int .i64 2, .int .i64 0, .int .i64 0, .int .i64 0, .int .i64 0, .int .i64 0, .int .i64 0, .int .i64 1, .int .i64 0, .bool false, .slice (some ⟨w2.heap.size + 1, 0, none⟩) 48 48] := by
    have h := AMem.rowV_new ((w2.alloc (.cells #[.int .i64 0, .int .i64 0, .int .i64 0, .int .i64 0, .int .i64 0, .int .i64 0, .int .i64 0, .int .i64 0, .int .i64 0, .int .i64 0, .int .i64 0, .int .i64 0, .int .i64 0, .bool false, .slice A2 0 c2] 24)).alloc (.cells (zrow 48) 5)) [.int .i64 2, .int .i64 493, .int .i64 0, .int .i64 0, .int .i64 2, .int .i64 0, .int .i64 0, .int .i64 0, .int .i64 0, .int .i64 0, .int .i64 0, .int .i64 1, .int .i64 0, .bool false, .slice (some ⟨w2.heap.size + 1, 0, none⟩) 48 48] 24
    rw [hs2] at h
    exact h
  have hzr : Row (((w2.alloc (.cells #[.int .i64 0, .int .i64 0, .int .i64 0, .int .i64 0, .int .i64 0, .int .i64 0, .int .i64 0, .int .i64 0, .int .i64 0, .int .i64 0, .int .i64 0, .int .i64 0, .int .i64 0, .bool false, .slice A2 0 c2] 24)).alloc (.cells (zrow 48) 5)).alloc (.cells #[.int .i64 2, .int .i64 493, .int .i64 0, .int .i64 0, .int .i64 2, .int .i64 0, .int .i64 0, .int .i64 0, .int .i64 0, .int .i64 0, .int .i64 0, .int .i64 1, .int .i64 0, .bool false, .slice (some ⟨w2.heap.size + 1, 0, none⟩) 48 48] 24)) (w2.heap.size + 1) zeros48 [] := by
    have h := zrow_row (w2.alloc (.cells #[.int .i64 0, .int .i64 0, .int .i64 0, .int .i64 0, .int .i64 0, .int .i64 0, .int .i64 0, .int .i64 0, .int .i64 0, .int .i64 0, .int .i64 0, .int .i64 0, .int .i64 0, .bool false, .slice A2 0 c2] 24)) 48
    rw [hs1] at h
    exact h.alloc _
  have HW2 : Hid (w.heap.size ≤ w2.heap.size) := Lib.hid hI2.st.below.size
  have H2 := Lib.hid (hI2.also hb2)
  have HXR := Lib.hid hxr
  have HZR := Lib.hid hzr
  have HS3 := Lib.hid hs3
  clear H1 hI2 hb2 hs1 hs2 hs3 hxr hzr
  go_wp2_with fail
  generalize (((w2.alloc (.cells #[.int .i64 0, .int .i64 0, .int .i64 0, .int .i64 0, .int .i64 0, .int .i64 0, .int .i64 0, .int .i64 0, .int .i64 0, .int .i64 0, .int .i64 0, .int .i64 0, .int .i64 0, .bool false, .slice A2 0 c2] 24)).alloc (.cells (zrow 48) 5)).alloc (.cells #[.int .i64 2, .int .i64 493, .int .i64 0, .int .i64 0, .int .i64 2, .int .i64 0, .int .i64 0, .int .i64 0, .int .i64 0, .int .i64 0, .int .i64 0, .int .i64 1, .int .i64 0, .bool false, .slice (some ⟨w2.heap.size + 1, 0, none⟩) 48 48] 24)) = W at *
  refine (is_put H2.out HT.out (by decide) 0 (by decide) X0 X0_may (some ⟨w2.heap.size + 1, 0, none⟩) 48 48 (by decide) (HZR.out.sl HZR.out.lt)).mono ?_
  rintro e w6 ⟨rfl, s3, hI3, hk3⟩
  have HX6 : Hid (RowV w6 (w2.heap.size + 2) 24 [.int .i64 2, .int .i64 493, .int .i64 0, .int .i64 0, .int .i64 2, .int .i64 0, .int .i64 0, .int .i64 0, .int .i64 0, .int .i64 0, .int .i64 0, .int .i64 1, .int .i64 0, .bool false, .slice (some ⟨w2.heap.size + 1, 0, none⟩) 48 48]) := Lib.hid ((hk3 _ (.inr ⟨by omega, by rw [HS3.out]; omega⟩)).trans HXR.out)
  have HZ6 : Hid (Row w6 (w2.heap.size + 1) zeros48 []) := Lib.hid ((hk3 _ (.inr ⟨by omega, by rw [HS3.out]; omega⟩)).trans HZR.out)
  have H3 := Lib.hid (get_some hI3 HT.out (by decide) 0 (by decide) 1 rfl X0 X0_may X0_wide rfl)
  clear hI3 hk3
  go_wp2_with fail
  refine H3.out.mono ?_
  rintro e w7 ⟨g7, c7, r7, s4, rfl, hg7, hR7, hI4, hk4⟩
  have HX7 : Hid (RowV w7 (w2.heap.size + 2) 24 [.int .i64 2, .int .i64 493, .int .i64 0, .int .i64 0, .int .i64 2, .int .i64 0, .int .i64 0, .int .i64 0, .int .i64 0, .int .i64 0, .int .i64 0, .int .i64 1, .int .i64 0, .bool false, .slice (some ⟨w2.heap.size + 1, 0, none⟩) 48 48]) := Lib.hid ((hk4 _ (.inr ⟨by omega, by rw [HS3.out]; omega⟩)).trans HX6.out)
  have HZ7 : Hid (Row w7 (w2.heap.size + 1) zeros48 []) := Lib.hid ((hk4 _ (.inr ⟨by omega, by rw [HS3.out]; omega⟩)).trans HZ6.out)
  have hsc : (w7.setCell ⟨w2.heap.size + 1 + 1, 1, none⟩ (.int .i64 512)).heap.size = w7.heap.size := by simp [World.setCell]
  have HYW : Hid (RowV ((w7.setCell ⟨w2.heap.size + 1 + 1, 1, none⟩ (.int .i64 512)).alloc (.cells #[.int .i64 X0.kind, .int .i64 X0.perm, .int .i64 X0.uid, .int .i64 X0.gid, .int .i64 X0.links, .int .i64 X0.size, .int .i64 X0.blocks, .int .i64 X0.at_, .int .i64 X0.mt, .int .i64 X0.ct, .int .i64 X0.next, .int .i64 X0.parent, .int .i64 X0.xattr, .bool X0.idx, .slice (some ⟨g7, 0, none⟩) 48 c7] 24)) w7.heap.size 24 [.int .i64 X0.kind, .int .i64 X0.perm, .int .i64 X0.uid, .int .i64 X0.gid, .int .i64 X0.links, .int .i64 X0.size, .int .i64 X0.blocks, .int .i64 X0.at_, .int .i64 X0.mt, .int .i64 X0.ct, .int .i64 X0.next, .int .i64 X0.parent, .int .i64 X0.xattr, .bool X0.idx, .slice (some ⟨g7, 0, none⟩) 48 c7]) := Lib.hid (by
    have h := AMem.rowV_new (w7.setCell ⟨w2.heap.size + 1 + 1, 1, none⟩ (.int .i64 512)) [.int .i64 X0.kind, .int .i64 X0.perm, .int .i64 X0.uid, .int .i64 X0.gid, .int .i64 X0.links, .int .i64 X0.size, .int .i64 X0.blocks, .int .i64 X0.at_, .int .i64 X0.mt, .int .i64 X0.ct, .int .i64 X0.next, .int .i64 X0.parent, .int .i64 X0.xattr, .bool X0.idx, .slice (some ⟨g7, 0, none⟩) 48 c7] 24
    rw [hsc] at h
    exact h)
  have hltx : w2.heap.size + 2 < w7.heap.size := HX7.out.lt
  have HIW : Hid (IS w ((w7.setCell ⟨w2.heap.size + 1 + 1, 1, none⟩ (.int .i64 512)).alloc (.cells #[.int .i64 X0.kind, .int .i64 X0.perm, .int .i64 X0.uid, .int .i64 X0.gid, .int .i64 X0.links, .int .i64 X0.size, .int .i64 X0.blocks, .int .i64 X0.at_, .int .i64 X0.mt, .int .i64 X0.ct, .int .i64 X0.next, .int .i64 X0.parent, .int .i64 X0.xattr, .bool X0.idx, .slice (some ⟨g7, 0, none⟩) 48 c7] 24)) (fun q => (False ∨ (w2.heap.size ≤ q ∧ q < W.heap.size)) ∨ ((w7.setCell ⟨w2.heap.size + 1 + 1, 1, none⟩ (.int .i64 512)).heap.size ≤ q ∧ q < ((w7.setCell ⟨w2.heap.size + 1 + 1, 1, none⟩ (.int .i64 512)).alloc (.cells #[.int .i64 X0.kind, .int .i64 X0.perm, .int .i64 X0.uid, .int .i64 X0.gid, .int .i64 X0.links, .int .i64 X0.size, .int .i64 X0.blocks, .int .i64 X0.at_, .int .i64 X0.mt, .int .i64 X0.ct, .int .i64 X0.next, .int .i64 X0.parent, .int .i64 X0.xattr, .bool X0.idx, .slice (some ⟨g7, 0, none⟩) 48 c7] 24)).heap.size)) b db (70001 + 3 + 23 + 3) s4 (setT T0 0 (inoBytes (0 + 1) X0))) := Lib.hid
    ((hI4.cell ⟨w2.heap.size + 1 + 1, 1, none⟩ (.int .i64 512) (.inr ⟨by show w2.heap.size ≤ w2.heap.size + 1 + 1; omega, by rw [HS3.out]; show w2.heap.size + 1 + 1 < _; omega⟩) (by have := HW2.out; show w.heap.size ≤ w2.heap.size + 1 + 1; omega)).also (below_box _))
  have HZW : Hid (Row ((w7.setCell ⟨w2.heap.size + 1 + 1, 1, none⟩ (.int .i64 512)).alloc (.cells #[.int .i64 X0.kind, .int .i64 X0.perm, .int .i64 X0.uid, .int .i64 X0.gid, .int .i64 X0.links, .int .i64 X0.size, .int .i64 X0.blocks, .int .i64 X0.at_, .int .i64 X0.mt, .int .i64 X0.ct, .int .i64 X0.next, .int .i64 X0.parent, .int .i64 X0.xattr, .bool X0.idx, .slice (some ⟨g7, 0, none⟩) 48 c7] 24)) (w2.heap.size + 1) zeros48 []) := Lib.hid ((rowFar HZ7.out _ _ (by show w2.heap.size + 1 ≠ w2.heap.size + 1 + 1; omega)).alloc _)
  have HSC := Lib.hid hsc
  have hx7 := HX7.out
  have gf := hx7.free
  have d0 := AMem.rowc hx7 0 rfl
  have d1 := AMem.rowc hx7 1 rfl
  have d2 := AMem.rowc hx7 2 rfl
  have d3 := AMem.rowc hx7 3 rfl
  have d4 := AMem.rowc hx7 4 rfl
  have d5 := AMem.rowc hx7 5 rfl
  have d6 := AMem.rowc hx7 6 rfl
  have d7 := AMem.rowc hx7 7 rfl
  have d8 := AMem.rowc hx7 8 rfl
  have d9 := AMem.rowc hx7 9 rfl
  have d10 := AMem.rowc hx7 10 rfl
  have d11 := AMem.rowc hx7 11 rfl
  have d12 := AMem.rowc hx7 12 rfl
  have d13 := AMem.rowc hx7 13 rfl
  have d14 := AMem.rowc hx7 14 rfl
  have HIS : Hid (∀ q, (w7.heap.size ≤ q ∧ q < w7.heap.size + 1) → ((False ∨ (w2.heap.size ≤ q ∧ q < W.heap.size)) ∨ ((w7.setCell ⟨w2.heap.size + 1 + 1, 1, none⟩ (.int .i64 512)).heap.size ≤ q ∧ q < ((w7.setCell ⟨w2.heap.size + 1 + 1, 1, none⟩ (.int .i64 512)).alloc (.cells #[.int .i64 X0.kind, .int .i64 X0.perm, .int .i64 X0.uid, .int .i64 X0.gid, .int .i64 X0.links, .int .i64 X0.size, .int .i64 X0.blocks, .int .i64 X0.at_, .int .i64 X0.mt, .int .i64 X0.ct, .int .i64 X0.next, .int .i64 X0.parent, .int .i64 X0.xattr, .bool X0.idx, .slice (some ⟨g7, 0, none⟩) 48 c7] 24)).heap.size))) := Lib.hid fun q hq => .inr ⟨by rw [hsc]; exact hq.1, by rw [World.size_alloc, hsc]; exact hq.2⟩
  clear hsc
  clear hR7 hI4 hk4 hx7
  go_wp2_with fail
  generalize (w7.setCell ⟨w2.heap.size + 1 + 1, 1, none⟩ (.int .i64 512)).alloc (.cells #[.int .i64 X0.kind, .int .i64 X0.perm, .int .i64 X0.uid, .int .i64 X0.gid, .int .i64 X0.links, .int .i64 X0.size, .int .i64 X0.blocks, .int .i64 X0.at_, .int .i64 X0.mt, .int .i64 X0.ct, .int .i64 X0.next, .int .i64 X0.parent, .int .i64 X0.xattr, .bool X0.idx, .slice (some ⟨g7, 0, none⟩) 48 c7] 24) = V at *
  refine (is_put_no HIW.out HT.out 1 X1 X1_no (some ⟨w2.heap.size + 1, 0, none⟩) 48 48 (by decide) (HZW.out.sl HZW.out.lt)).mono ?_
  rintro e w9 ⟨rfl, hI9, hk9⟩
  have HY9 : Hid (RowV w9 w7.heap.size 24 [.int .i64 X0.kind, .int .i64 X0.perm, .int .i64 X0.uid, .int .i64 X0.gid, .int .i64 X0.links, .int .i64 X0.size, .int .i64 X0.blocks, .int .i64 X0.at_, .int .i64 X0.mt, .int .i64 X0.ct, .int .i64 X0.next, .int .i64 X0.parent, .int .i64 X0.xattr, .bool X0.idx, .slice (some ⟨g7, 0, none⟩) 48 c7]) := Lib.hid ((hk9 _ (HIS.out _ ⟨Nat.le_refl _, by omega⟩)).trans HYW.out)
  have H9 := Lib.hid (is_get33 hI9 HT.out (by decide))
  clear gf hI9 hk9 d0 d1 d2 d3 d4 d5 d6 d7 d8 d9 d10 d11 d12 d13 d14
  go_wp2_with fail
  refine H9.out.mono ?_
  rintro e w10 ⟨rfl, s6, hI10, hk10⟩
  have hy : RowV w10 w7.heap.size 24 [.int .i64 X0.kind, .int .i64 X0.perm, .int .i64 X0.uid, .int .i64 X0.gid, .int .i64 X0.links, .int .i64 X0.size, .int .i64 X0.blocks, .int .i64 X0.at_, .int .i64 X0.mt, .int .i64 X0.ct, .int .i64 X0.next, .int .i64 X0.parent, .int .i64 X0.xattr, .bool X0.idx, .slice (some ⟨g7, 0, none⟩) 48 c7] := (hk10 _ (HIS.out _ ⟨Nat.le_refl _, by omega⟩)).trans HY9.out
  have hlt10 := hy.lt
  have y1 : w10.cell? ⟨w7.heap.size, 1, none⟩ = some (.int .i64 493) := AMem.rowc hy 1 rfl
  have y11 : w10.cell? ⟨w7.heap.size, 11, none⟩ = some (.int .i64 1) := AMem.rowc hy 11 rfl
  have y14 : w10.cell? ⟨w7.heap.size, 14, none⟩ = some (.slice (some ⟨g7, 0, none⟩) 48 c7) := AMem.rowc hy 14 rfl
  have HB10 := Lib.hid hI10.st.below
  clear hI10 hk10 hy
  go_wp2
  go_ret
  exact ⟨rfl, HB10.out.alloc HB10.out.size _⟩
end Go.Proofs.YtgjcbfdhpbkhoaaGreatDoor.IAwake
namespace Go.Proofs.YtgjcbfdhpbkhoaaGreatDoor.IRSame
open Go.RowKit WMem WPlain IPlain DBase
set_option maxRecDepth 100000 in
set_option maxHeartbeats 2000000 in
theorem same_ino (r : Ino) (n : Nat) (hn : r.root.length = n) (B B' : Nat) (A A' : Option Addr) (c c' : Nat) (w : World) (hB : B ≤ w.heap.size) (hB' : B' ≤ w.heap.size) (hA : Sl w B A (r.root.map u8v)) (hA' : Sl w B' A' (r.root.map u8v)) (hl : r.root.length ≤ 140737488355328) :
    Calls Tryz.prog 12 #[.agg #[.int .i64 r.kind, .int .i64 r.perm, .int .i64 r.uid, .int .i64 r.gid, .int .i64 r.links, .int .i64 r.size, .int .i64 r.blocks, .int .i64 r.at_, .int .i64 r.mt, .int .i64 r.ct, .int .i64 r.next, .int .i64 r.parent, .int .i64 r.xattr, .bool r.idx, .slice A n c], .agg #[.int .i64 r.kind, .int .i64 r.perm, .int .i64 r.uid, .int .i64 r.gid, .int .i64 r.links, .int .i64 r.size, .int .i64 r.blocks, .int .i64 r.at_, .int .i64 r.mt, .int .i64 r.ct, .int .i64 r.next, .int .i64 r.parent, .int .i64 r.xattr, .bool r.idx, .slice A' n c']] w fun e w' => e = .returned (.bool true) ∧ Below w.heap.size w w' := by
  have HS := Lib.hid (fun (W : World) (h1 : Sl W W.heap.size A (r.root.map u8v)) (h2 : Sl W W.heap.size A' (r.root.map u8v)) => hn ▸ Same_yes r.root W.heap.size W.heap.size A A' c c' W h1 h2 hl)
  have HB := Lib.hid (((Below.refl w.heap.size w).alloc (Nat.le_refl _) (.cells #[.int .i64 r.kind, .int .i64 r.perm, .int .i64 r.uid, .int .i64 r.gid, .int .i64 r.links, .int .i64 r.size, .int .i64 r.blocks, .int .i64 r.at_, .int .i64 r.mt, .int .i64 r.ct, .int .i64 r.next, .int .i64 r.parent, .int .i64 r.xattr, .bool r.idx, .slice A n c] 24)).alloc (by simp) (.cells #[.int .i64 r.kind, .int .i64 r.perm, .int .i64 r.uid, .int .i64 r.gid, .int .i64 r.links, .int .i64 r.size, .int .i64 r.blocks, .int .i64 r.at_, .int .i64 r.mt, .int .i64 r.ct, .int .i64 r.next, .int .i64 r.parent, .int .i64 r.xattr, .bool r.idx, .slice A' n c'] 24))
  have HA := Lib.hid (fun (W : World) (hb : Below w.heap.size w W) => (hA.below_le hb hB).up (by have := hb.size; omega))
  have HA' := Lib.hid (fun (W : World) (hb : Below w.heap.size w W) => (hA'.below_le hb hB').up (by have := hb.size; omega))
  clear hA hA' hn hl
  go_enter Tryz.func12, Tryz.ntmps12
  simp only [List.append]
  go_wp2_with fail
  refine (HS.out _ ((HA.out _ HB.out).up HB.out.size) ((HA'.out _ HB.out).up HB.out.size)).mono ?_
  rintro e w1 ⟨rfl, k, rfl⟩
  go_wp2
  go_ret
  exact ⟨rfl, below_drewN HB.out k⟩
end Go.Proofs.YtgjcbfdhpbkhoaaGreatDoor.IRSame
namespace Go.Proofs.YtgjcbfdhpbkhoaaGreatDoor.ILClear
open Go.RowKit WMem WPlain WPack WHelp WWide WAny WAppend WCrc WSeal WFace2 GPlain GWithin GGeo GGeo2 SNums SPlain SEqual APlain AMem IPlain ICheck IPack IUnp IUn2 IUn3 IGet ITab IBoth IAwake IRSame
theorem low5 (x : Int) : ∃ y : Nat, y < 32 ∧ bits BinOp.and IntKind.i64 x 31 = (y : Int) := by
  refine ⟨(BitVec.ofInt 64 x &&& BitVec.ofInt 64 31).toNat, ?_, ?_⟩
  · rw [BitVec.toNat_and]
    exact Nat.lt_of_le_of_lt Nat.and_le_right (by decide)
  · have h : (BitVec.ofInt 64 x &&& BitVec.ofInt 64 31).toNat < 32 := by
      rw [BitVec.toNat_and]
      exact Nat.lt_of_le_of_lt Nat.and_le_right (by decide)
    show IntKind.i64.wrap ((BitVec.ofInt 64 x &&& BitVec.ofInt 64 31).toNat : Int) = _
    rw [IntKind.wrap_i64]
    omega
def nb (y : Nat) : Nat := if y % 2 = 0 then y + 1 else y - 1
theorem nb_facts : ∀ y : Nat, y < 32 → nb y < 32 ∧ nb y ≠ y ∧ bits BinOp.xor IntKind.i64 (y : Int) 1 = (nb y : Int) := by decide +kernel
section
variable {a w : World} {S : Nat → Prop} {b db L : Nat} {s : EPlain.Sto} {T : Nat → List UInt8}
def putT (T : Nat → List UInt8) (m : Nat) (r : Ino) : Nat → List UInt8 := if inoMay r = true then setT T m (inoBytes (m + 1) r) else T
def putE (r : Ino) : Int := if inoMay r = true then 0 else 22
theorem put_q (h : IS a w S b db L s T) (hT : Tab a) (hL : L ≤ 1000000) (m : Nat) (hm : m < 32) (q : Int) (hq : q = ((m + 1 : Nat) : Int)) (r : Ino) (Ar : Option Addr) (c n : Nat) (hrn : r.root.length = n) (hA : Sl w w.heap.size Ar (r.root.map u8v)) :
    Calls Tryz.prog 17 #[.pointer (some ⟨b, 0, none⟩), .int .i64 q, .agg #[.int .i64 r.kind, .int .i64 r.perm, .int .i64 r.uid, .int .i64 r.gid, .int .i64 r.links, .int .i64 r.size, .int .i64 r.blocks, .int .i64 r.at_, .int .i64 r.mt, .int .i64 r.ct, .int .i64 r.next, .int .i64 r.parent, .int .i64 r.xattr, .bool r.idx, .slice Ar n c]] w fun e w' => e = .returned (.int .i64 (putE r)) ∧ ∃ s', IS a w' S b db (L + 23) s' (putT T m r) := by
  subst hq
  unfold putE putT
  by_cases hr : inoMay r = true
  · rw [if_pos hr, if_pos hr]
    refine (is_put h hT hL m hm r hr Ar c n hrn hA).mono ?_
    rintro e w' ⟨he, s', hI, -⟩
    exact ⟨he, s', hI⟩
  · rw [if_neg hr, if_neg hr]
    refine (is_put_no h hT _ r (by simpa using hr) Ar c n hrn hA).mono ?_
    rintro e w' ⟨he, hI, -⟩
    exact ⟨he, s, ⟨hI.st, hI.says, by have := hI.load; omega, hI.tab, hI.len⟩⟩
theorem clear_q (h : IS a w S b db L s T) (hT : Tab a) (hL : L ≤ 1000000) (m : Nat) (hm : m < 32) (q : Int) (hq : q = ((m + 1 : Nat) : Int)) :
    Calls Tryz.prog 19 #[.pointer (some ⟨b, 0, none⟩), .int .i64 q] w fun e w' => e = .returned (.int .i64 0) ∧ ∃ s', IS a w' S b db (L + 23) s' (setT T m zeros128) := by
  subst hq
  refine (is_clear h hT hL m hm).mono ?_
  rintro e w' ⟨he, s', hI, -⟩
  exact ⟨he, s', hI⟩
end
theorem tz {y z : Nat} (h : z ≠ y) (r t : Ino) : setT (putT (putT T0 y r) z t) y zeros128 z = if inoMay t = true then inoBytes (z + 1) t else zeros128 := by
  have e : setT (putT (putT T0 y r) z t) y zeros128 z = putT (putT T0 y r) z t z := if_neg h
  rw [e]
  by_cases ht : inoMay t = true
  · rw [if_pos ht]
    show (if inoMay t = true then setT (putT T0 y r) z (inoBytes (z + 1) t) else putT T0 y r) z = _
    rw [if_pos ht]
    exact if_pos rfl
  · rw [if_neg ht]
    show (if inoMay t = true then setT (putT T0 y r) z (inoBytes (z + 1) t) else putT T0 y r) z = _
    rw [if_neg ht]
    show (if inoMay r = true then setT T0 y (inoBytes (y + 1) r) else T0) z = _
    split
    · exact if_neg h
    · rfl
theorem putE_or (r : Ino) : putE r = 0 ∨ putE r = 22 := by
  unfold putE
  split
  · exact .inl rfl
  · exact .inr rfl
set_option maxRecDepth 100000 in
set_option maxHeartbeats 4000000 in
theorem cleared (ino : Int) (r t : Ino) (n n' : Nat) (hn : r.root.length = n) (hn' : t.root.length = n') (A A' : Option Addr) (c c' : Nat) (w : World) (hw : t.Wide) (hA : Sl w w.heap.size A (r.root.map u8v)) (hA' : Sl w w.heap.size A' (t.root.map u8v)) (hT : Tab w) :
    Calls Tryz.prog 6 #[.int .i64 ino, .agg #[.int .i64 r.kind, .int .i64 r.perm, .int .i64 r.uid, .int .i64 r.gid, .int .i64 r.links, .int .i64 r.size, .int .i64 r.blocks, .int .i64 r.at_, .int .i64 r.mt, .int .i64 r.ct, .int .i64 r.next, .int .i64 r.parent, .int .i64 r.xattr, .bool r.idx, .slice A n c], .agg #[.int .i64 t.kind, .int .i64 t.perm, .int .i64 t.uid, .int .i64 t.gid, .int .i64 t.links, .int .i64 t.size, .int .i64 t.blocks, .int .i64 t.at_, .int .i64 t.mt, .int .i64 t.ct, .int .i64 t.next, .int .i64 t.parent, .int .i64 t.xattr, .bool t.idx, .slice A' n' c']] w fun e w' => e = .returned (.bool true) ∧ Below w.heap.size w w' := by
  obtain ⟨y, hy, hye⟩ := low5 ino
  obtain ⟨z, hz, hzy, hze⟩ : ∃ z : Nat, z < 32 ∧ z ≠ y ∧ bits BinOp.xor IntKind.i64 (1 + (y : Int) - 1) 1 = (z : Int) := ⟨nb y, (nb_facts y hy).1, (nb_facts y hy).2.1, by rw [show (1 + (y : Int) - 1) = (y : Int) by omega]; exact (nb_facts y hy).2.2⟩
  have hs1 : (w.alloc (.cells #[.int .i64 r.kind, .int .i64 r.perm, .int .i64 r.uid, .int .i64 r.gid, .int .i64 r.links, .int .i64 r.size, .int .i64 r.blocks, .int .i64 r.at_, .int .i64 r.mt, .int .i64 r.ct, .int .i64 r.next, .int .i64 r.parent, .int .i64 r.xattr, .bool r.idx, .slice A n c] 24)).heap.size = w.heap.size + 1 := by simp
  have hb := (((Below.refl w.heap.size w).alloc (Nat.le_refl _) (.cells #[.int .i64 r.kind, .int .i64 r.perm, .int .i64 r.uid, .int .i64 r.gid, .int .i64 r.links, .int .i64 r.size, .int .i64 r.blocks, .int .i64 r.at_, .int .i64 r.mt, .int .i64 r.ct, .int .i64 r.next, .int .i64 r.parent, .int .i64 r.xattr, .bool r.idx, .slice A n c] 24)).alloc (by simp) (.cells #[.int .i64 t.kind, .int .i64 t.perm, .int .i64 t.uid, .int .i64 t.gid, .int .i64 t.links, .int .i64 t.size, .int .i64 t.blocks, .int .i64 t.at_, .int .i64 t.mt, .int .i64 t.ct, .int .i64 t.next, .int .i64 t.parent, .int .i64 t.xattr, .bool t.idx, .slice A' n' c'] 24))
  have hx1 : RowV ((w.alloc (.cells #[.int .i64 r.kind, .int .i64 r.perm, .int .i64 r.uid, .int .i64 r.gid, .int .i64 r.links, .int .i64 r.size, .int .i64 r.blocks, .int .i64 r.at_, .int .i64 r.mt, .int .i64 r.ct, .int .i64 r.next, .int .i64 r.parent, .int .i64 r.xattr, .bool r.idx, .slice A n c] 24)).alloc (.cells #[.int .i64 t.kind, .int .i64 t.perm, .int .i64 t.uid, .int .i64 t.gid, .int .i64 t.links, .int .i64 t.size, .int .i64 t.blocks, .int .i64 t.at_, .int .i64 t.mt, .int .i64 t.ct, .int .i64 t.next, .int .i64 t.parent, .int .i64 t.xattr, .bool t.idx, .slice A' n' c'] 24)) w.heap.size 24 [.int .i64 r.kind, .int .i64 r.perm, .int .i64 r.uid, .int .i64 r.gid, .int .i64 r.links, .int .i64 r.size, .int .i64 r.blocks, .int .i64 r.at_, .int .i64 r.mt, .int .i64 r.ct, .int .i64 r.next, .int .i64 r.parent, .int .i64 r.xattr, .bool r.idx, .slice A n c] := (AMem.rowV_new w [.int .i64 r.kind, .int .i64 r.perm, .int .i64 r.uid, .int .i64 r.gid, .int .i64 r.links, .int .i64 r.size, .int .i64 r.blocks, .int .i64 r.at_, .int .i64 r.mt, .int .i64 r.ct, .int .i64 r.next, .int .i64 r.parent, .int .i64 r.xattr, .bool r.idx, .slice A n c] 24).alloc _
  have hx2 : RowV ((w.alloc (.cells #[.int .i64 r.kind, .int .i64 r.perm, .int .i64 r.uid, .int .i64 r.gid, .int .i64 r.links, .int .i64 r.size, .int .i64 r.blocks, .int .i64 r.at_, .int .i64 r.mt, .int .i64 r.ct, .int .i64 r.next, .int .i64 r.parent, .int .i64 r.xattr, .bool r.idx, .slice A n c] 24)).alloc (.cells #[.int .i64 t.kind, .int .i64 t.perm, .int .i64 t.uid, .int .i64 t.gid, .int .i64 t.links, .int .i64 t.size, .int .i64 t.blocks, .int .i64 t.at_, .int .i64 t.mt, .int .i64 t.ct, .int .i64 t.next, .int .i64 t.parent, .int .i64 t.xattr, .bool t.idx, .slice A' n' c'] 24)) (w.heap.size + 1) 24 [.int .i64 t.kind, .int .i64 t.perm, .int .i64 t.uid, .int .i64 t.gid, .int .i64 t.links, .int .i64 t.size, .int .i64 t.blocks, .int .i64 t.at_, .int .i64 t.mt, .int .i64 t.ct, .int .i64 t.next, .int .i64 t.parent, .int .i64 t.xattr, .bool t.idx, .slice A' n' c'] := by
    have h := AMem.rowV_new (w.alloc (.cells #[.int .i64 r.kind, .int .i64 r.perm, .int .i64 r.uid, .int .i64 r.gid, .int .i64 r.links, .int .i64 r.size, .int .i64 r.blocks, .int .i64 r.at_, .int .i64 r.mt, .int .i64 r.ct, .int .i64 r.next, .int .i64 r.parent, .int .i64 r.xattr, .bool r.idx, .slice A n c] 24)) [.int .i64 t.kind, .int .i64 t.perm, .int .i64 t.uid, .int .i64 t.gid, .int .i64 t.links, .int .i64 t.size, .int .i64 t.blocks, .int .i64 t.at_, .int .i64 t.mt, .int .i64 t.ct, .int .i64 t.next, .int .i64 t.parent, .int .i64 t.xattr, .bool t.idx, .slice A' n' c'] 24
    rw [hs1] at h
    exact h
  have HB := Lib.hid hb
  have HX1 := Lib.hid hx1
  have HX2 := Lib.hid hx2
  have HT := Lib.hid (Tab.below hT hb (Tab.lt hT))
  have HA := Lib.hid (hA.below hb)
  have HA' := Lib.hid (hA'.below hb)
  clear hb hx1 hx2 hs1 hA hA' hT
  go_enter Tryz.func6, Tryz.ntmps6
  go_wp2_with fail
  generalize (w.alloc (.cells #[.int .i64 r.kind, .int .i64 r.perm, .int .i64 r.uid, .int .i64 r.gid, .int .i64 r.links, .int .i64 r.size, .int .i64 r.blocks, .int .i64 r.at_, .int .i64 r.mt, .int .i64 r.ct, .int .i64 r.next, .int .i64 r.parent, .int .i64 r.xattr, .bool r.idx, .slice A n c] 24)).alloc (.cells #[.int .i64 t.kind, .int .i64 t.perm, .int .i64 t.uid, .int .i64 t.gid, .int .i64 t.links, .int .i64 t.size, .int .i64 t.blocks, .int .i64 t.at_, .int .i64 t.mt, .int .i64 t.ct, .int .i64 t.next, .int .i64 t.parent, .int .i64 t.xattr, .bool t.idx, .slice A' n' c'] 24) = V at *
  refine (awake_any V HT.out).mono ?_
  rintro e w1 ⟨rfl, hb1⟩
  have HT1 := Lib.hid (Tab.below HT.out hb1 (Tab.lt HT.out))
  go_wp2_with fail
  refine (both_any w1 HT1.out).mono ?_
  rintro e w2 ⟨b, v, rfl, db, s2, hI2⟩
  have HBV := Lib.hid hb1
  have HI2 := Lib.hid hI2
  have hbb : Below V.heap.size V w2 := hb1.trans (hI2.st.below.mono hb1.size)
  have hx := HX1.out.keep hbb HX1.out.lt
  have hx5 := HX2.out.keep hbb HX2.out.lt
  have HLT := Lib.hid HX2.out.lt
  have d0 := AMem.rowc hx 0 rfl
  have d1 := AMem.rowc hx 1 rfl
  have d2 := AMem.rowc hx 2 rfl
  have d3 := AMem.rowc hx 3 rfl
  have d4 := AMem.rowc hx 4 rfl
  have d5 := AMem.rowc hx 5 rfl
  have d6 := AMem.rowc hx 6 rfl
  have d7 := AMem.rowc hx 7 rfl
  have d8 := AMem.rowc hx 8 rfl
  have d9 := AMem.rowc hx 9 rfl
  have d10 := AMem.rowc hx 10 rfl
  have d11 := AMem.rowc hx 11 rfl
  have d12 := AMem.rowc hx 12 rfl
  have d13 := AMem.rowc hx 13 rfl
  have d14 := AMem.rowc hx 14 rfl
  clear hbb hx hx5
  go_wp2_with fail
  clear d0 d1 d2 d3 d4 d5 d6 d7 d8 d9 d10 d11 d12 d13 d14
  refine (put_q HI2.out HT1.out (by decide) y hy _ (by omega) r A c n hn ((HA.out.below_le (HBV.out.trans (HI2.out.st.below.mono HBV.out.size)) HB.out.size).up (by have := HB.out.size; have := HBV.out.size; have := HI2.out.st.below.size; omega))).mono ?_
  rintro e w3 ⟨rfl, s3, hI3⟩
  have HI3 := Lib.hid hI3
  have hx5 := HX2.out.keep (HBV.out.trans (hI3.st.below.mono HBV.out.size)) HX2.out.lt
  have d0 := AMem.rowc hx5 0 rfl
  have d1 := AMem.rowc hx5 1 rfl
  have d2 := AMem.rowc hx5 2 rfl
  have d3 := AMem.rowc hx5 3 rfl
  have d4 := AMem.rowc hx5 4 rfl
  have d5 := AMem.rowc hx5 5 rfl
  have d6 := AMem.rowc hx5 6 rfl
  have d7 := AMem.rowc hx5 7 rfl
  have d8 := AMem.rowc hx5 8 rfl
  have d9 := AMem.rowc hx5 9 rfl
  have d10 := AMem.rowc hx5 10 rfl
  have d11 := AMem.rowc hx5 11 rfl
  have d12 := AMem.rowc hx5 12 rfl
  have d13 := AMem.rowc hx5 13 rfl
  have d14 := AMem.rowc hx5 14 rfl
  clear hI3 hx5
  go_wp2_with fail
  clear d0 d1 d2 d3 d4 d5 d6 d7 d8 d9 d10 d11 d12 d13 d14
  refine (put_q HI3.out HT1.out (by decide) z hz _ (by omega) t A' c' n' hn' ((HA'.out.below_le (HBV.out.trans (HI3.out.st.below.mono HBV.out.size)) HB.out.size).up (by have := HB.out.size; have := HBV.out.size; have := HI3.out.st.below.size; omega))).mono ?_
  rintro e w4 ⟨rfl, s4, hI4⟩
  have HI4 := Lib.hid hI4
  clear hI4
  go_wp2_with fail
  refine (clear_q HI4.out HT1.out (by decide) y hy _ (by omega)).mono ?_
  rintro e w5 ⟨rfl, s5, hI5⟩
  have HI5 := Lib.hid hI5
  clear hI5
  go_wp2_with fail
  refine (get_none HI5.out HT1.out (by decide) y hy _ (by omega) (if_pos rfl)).mono ?_
  rintro e w6 ⟨A6, c6, rfl, s6, hI6, -⟩
  have HI6 := Lib.hid (hI6.also (below_box (.cells #[.int .i64 0, .int .i64 0, .int .i64 0, .int .i64 0, .int .i64 0, .int .i64 0, .int .i64 0, .int .i64 0, .int .i64 0, .int .i64 0, .int .i64 0, .int .i64 0, .int .i64 0, .bool false, .slice A6 0 c6] 24)))
  clear hI6
  go_wp2_with fail
  generalize w6.alloc (.cells #[.int .i64 0, .int .i64 0, .int .i64 0, .int .i64 0, .int .i64 0, .int .i64 0, .int .i64 0, .int .i64 0, .int .i64 0, .int .i64 0, .int .i64 0, .int .i64 0, .int .i64 0, .bool false, .slice A6 0 c6] 24) = W at *
  by_cases ht : inoMay t = true
  · have hz1 := (tz hzy r t).trans (if_pos ht)
    have hp : putE t = 0 := if_pos ht
    obtain rfl : n' = 48 := hn'.symm.trans (may_of ht).root
    refine (get_some HI6.out HT1.out (by decide) z hz _ (by omega) t ht hw hz1).mono ?_
    rintro e w7 ⟨g, c7, rest, s7, rfl, hg, hR7, hI7, -⟩
    have HI7 := Lib.hid hI7
    have HR7 := Lib.hid (hR7.alloc (.cells #[.int .i64 t.kind, .int .i64 t.perm, .int .i64 t.uid, .int .i64 t.gid, .int .i64 t.links, .int .i64 t.size, .int .i64 t.blocks, .int .i64 t.at_, .int .i64 t.mt, .int .i64 t.ct, .int .i64 t.next, .int .i64 t.parent, .int .i64 t.xattr, .bool t.idx, .slice (some ⟨g, 0, none⟩) 48 c7] 24))
    have HBW := Lib.hid ((hI7.also (below_box (.cells #[.int .i64 t.kind, .int .i64 t.perm, .int .i64 t.uid, .int .i64 t.gid, .int .i64 t.links, .int .i64 t.size, .int .i64 t.blocks, .int .i64 t.at_, .int .i64 t.mt, .int .i64 t.ct, .int .i64 t.next, .int .i64 t.parent, .int .i64 t.xattr, .bool t.idx, .slice (some ⟨g, 0, none⟩) 48 c7] 24))).st.below)
    have hx5 := HX2.out.keep (HBV.out.trans (hI7.st.below.mono HBV.out.size)) HX2.out.lt
    have hlt5 := hx5.lt
    have d0 := AMem.rowc hx5 0 rfl
    have d1 := AMem.rowc hx5 1 rfl
    have d2 := AMem.rowc hx5 2 rfl
    have d3 := AMem.rowc hx5 3 rfl
    have d4 := AMem.rowc hx5 4 rfl
    have d5 := AMem.rowc hx5 5 rfl
    have d6 := AMem.rowc hx5 6 rfl
    have d7 := AMem.rowc hx5 7 rfl
    have d8 := AMem.rowc hx5 8 rfl
    have d9 := AMem.rowc hx5 9 rfl
    have d10 := AMem.rowc hx5 10 rfl
    have d11 := AMem.rowc hx5 11 rfl
    have d12 := AMem.rowc hx5 12 rfl
    have d13 := AMem.rowc hx5 13 rfl
    have d14 := AMem.rowc hx5 14 rfl
    rcases putE_or r with hpr | hpr
    · clear hI7 hR7 hx5 hg
      go_wp2_with fail
      refine (same_ino t 48 hn' _ _ (some ⟨g, 0, none⟩) A' c7 c' _ (Nat.le_refl _) (Nat.le_refl _) (HR7.out.sl HR7.out.lt) ((HA'.out.below_le (HBV.out.trans (HBW.out.mono HBV.out.size)) HB.out.size).up (by have := HB.out.size; have := HBV.out.size; have := HBW.out.size; omega)) (by omega)).mono ?_
      rintro e w9 ⟨rfl, hb9⟩
      have hfin := HB.out.trans (((HBV.out.trans (HBW.out.mono HBV.out.size)).mono HB.out.size).trans (hb9.mono (by have := HB.out.size; have := HBV.out.size; have := HBW.out.size; omega)))
      go_wp2
      go_ret
      exact ⟨rfl, hfin⟩
    · clear hI7 hR7 hx5 hg
      go_wp2_with fail
      refine (same_ino t 48 hn' _ _ (some ⟨g, 0, none⟩) A' c7 c' _ (Nat.le_refl _) (Nat.le_refl _) (HR7.out.sl HR7.out.lt) ((HA'.out.below_le (HBV.out.trans (HBW.out.mono HBV.out.size)) HB.out.size).up (by have := HB.out.size; have := HBV.out.size; have := HBW.out.size; omega)) (by omega)).mono ?_
      rintro e w9 ⟨rfl, hb9⟩
      have hfin := HB.out.trans (((HBV.out.trans (HBW.out.mono HBV.out.size)).mono HB.out.size).trans (hb9.mono (by have := HB.out.size; have := HBV.out.size; have := HBW.out.size; omega)))
      go_wp2
      go_ret
      exact ⟨rfl, hfin⟩
  · have hz1 := (tz hzy r t).trans (if_neg ht)
    have hp : putE t = 22 := if_neg ht
    refine (get_none HI6.out HT1.out (by decide) z hz _ (by omega) hz1).mono ?_
    rintro e w7 ⟨A7, c7, rfl, s7, hI7, -⟩
    have HBW := Lib.hid (((HBV.out.trans (hI7.st.below.mono HBV.out.size)).mono HB.out.size))
    clear hI7
    go_wp2
    go_ret
    exact ⟨rfl, HB.out.trans (HBW.out.alloc (by have := HBW.out.size; have := HB.out.size; omega) _)⟩
end Go.Proofs.YtgjcbfdhpbkhoaaGreatDoor.ILClear
namespace Go.Proofs.YtgjcbfdhpbkhoaaGreatDoor.ILBack
open Go.RowKit WMem WPlain WPack WHelp WWide WAny WAppend WCrc WSeal WFace2 GPlain GWithin GGeo GGeo2 SNums SPlain SEqual APlain AMem IPlain ICheck IPack IUnp IUn2 IUn3 IGet ITab IBoth IAwake IRSame ILClear

/-- a byte with one bit turned -/
theorem flip (x : UInt8) (m : Nat) (hm : m < 8) : ∃ z : UInt8, bits BinOp.xor IntKind.u8 (x.toNat : Int) (IntKind.u8.wrap (2 ^ m)) = (z.toNat : Int) ∧ z ≠ x ∧ z = x ^^^ UInt8.ofNat (2 ^ m) := by
  have hp : (2 ^ m : Nat) < 256 ∧ 0 < (2 ^ m : Nat) := by
    refine ⟨?_, Nat.two_pow_pos m⟩
    have : 2 ^ m ≤ 2 ^ 7 := Nat.pow_le_pow_right (by decide) (by omega)
    omega
  have e1 : IntKind.u8.wrap (2 ^ m) = ((2 ^ m : Nat) : Int) := by
    have e : ((2 : Int) ^ m) = ((2 ^ m : Nat) : Int) := by simp
    rw [IntKind.wrap_u8', e]
    omega
  refine ⟨x ^^^ UInt8.ofNat (2 ^ m), ?_, ?_, rfl⟩
  · rw [e1, u8_xor_nat _ _ (byte_lt x) hp.1, UInt8.toNat_xor]
    congr 2
    simp
    omega
  · intro h
    have h2 := congrArg UInt8.toNat h
    rw [UInt8.toNat_xor] at h2
    have h3 : (UInt8.ofNat (2 ^ m)).toNat = 2 ^ m := by simp; omega
    rw [h3] at h2
    have h4 : x.toNat ^^^ 2 ^ m = x.toNat ^^^ 0 := by simpa using h2
    have h5 := congrArg (x.toNat ^^^ ·) h4
    simp only [← Nat.xor_assoc, Nat.xor_self, Nat.zero_xor] at h5
    omega
theorem low10 (x : Int) : ∃ y : Nat, y < 1024 ∧ bits BinOp.and IntKind.i64 x 1023 = (y : Int) := by
  refine ⟨(BitVec.ofInt 64 x &&& BitVec.ofInt 64 1023).toNat, ?_, ?_⟩
  · rw [BitVec.toNat_and]
    exact Nat.lt_of_le_of_lt Nat.and_le_right (by decide)
  · have h : (BitVec.ofInt 64 x &&& BitVec.ofInt 64 1023).toNat < 1024 := by
      rw [BitVec.toNat_and]
      exact Nat.lt_of_le_of_lt Nat.and_le_right (by decide)
    show IntKind.i64.wrap ((BitVec.ofInt 64 x &&& BitVec.ofInt 64 1023).toNat : Int) = _
    rw [IntKind.wrap_i64]
    omega
theorem bit_facts (bk : Nat) (h : bk < 1024) : ∃ q m8 : Nat, q < 128 ∧ m8 < 8 ∧ (bk : Int) / 8 = (q : Int) ∧ (bk : Int).tmod 8 = (m8 : Int) ∧ IntKind.i64.wrap (q : Int) = (q : Int) ∧ IntKind.i64.wrap (m8 : Int) = (m8 : Int) ∧ (q : Int) < 128 := by
  refine ⟨bk / 8, bk % 8, by omega, by omega, by omega, by rw [Int.tmod_eq_emod_of_nonneg (by omega)]; omega, ?_, ?_, by omega⟩
  · rw [IntKind.wrap_i64]; omega
  · rw [IntKind.wrap_i64]; omega
/-- the inode that is put to the other number -/
def F0 : Ino := ⟨1, 0, 0, 0, 0, 0, 0, 0, 0, 0, 0, 0, 0, false, zeros48⟩
theorem F0_may : inoMay F0 = true := by decide +kernel
theorem F0_wide : F0.Wide := ⟨⟨by decide, by decide⟩, ⟨by decide, by decide⟩, ⟨by decide, by decide⟩⟩
/-- of another number: an error -/
theorem un_other {r : Ino} (hm : inoMay r = true) (hw : r.Wide) {m : Nat} (h2 : m ≤ 65535) (other : Int) (hne : other ≠ (m : Int)) : unI other (inoBytes m r) = Ino.nul ∧ (unE other (inoBytes m r) = 117 ∨ unE other (inoBytes m r) = 22) := by
  have hz := not_free (may_of hm) hw m
  by_cases hr : 1 ≤ other ∧ other ≤ 65535
  · obtain ⟨q, rfl⟩ := Int.eq_ofNat_of_zero_le (show 0 ≤ other by omega)
    have hg := other_no (may_of hm) hw (ino := m) (other := q) (by omega) (by omega) (by intro h; exact hne (by rw [h]))
    have hq : (q : Int).toNat = q := by omega
    constructor
    · refine if_neg fun h => ?_
      rw [hq, hg] at h
      exact absurd h.2.2.2 (by decide)
    · unfold unE
      rw [if_pos hr, if_neg (by rw [hz]; decide), hq, if_neg (by rw [hg]; decide)]
      exact .inl rfl
  · constructor
    · exact if_neg fun h => hr ⟨h.1, h.2.1⟩
    · unfold unE
      rw [if_neg hr]
      exact .inr rfl
/-- with a bit turned: an error -/
theorem un_turned {r : Ino} (hm : inoMay r = true) (hw : r.Wide) {m : Nat} (h1 : 1 ≤ m) (h2 : m ≤ 65535) (i k : Nat) (y : UInt8) (hk : k < 8) (hi : i < (inoBytes m r).length) (hy : y ≠ (inoBytes m r)[i]) (hy2 : y = (inoBytes m r)[i] ^^^ UInt8.ofNat (2 ^ k)) : unI (m : Int) ((inoBytes m r).set i y) = Ino.nul ∧ unE (m : Int) ((inoBytes m r).set i y) = 117 := by
  have hg := turned_no (may_of hm) m i y hi hy
  have hz := turned_free (may_of hm) hw m i h2 k hk y hi hy2
  have hq : (m : Int).toNat = m := by omega
  constructor
  · refine if_neg fun h => ?_
    rw [hq, hg] at h
    exact absurd h.2.2.2 (by decide)
  · unfold unE
    rw [if_pos ⟨by omega, by omega⟩, if_neg (by rw [hz]; decide), hq, if_neg (by rw [hg]; decide)]
/-- what stands there behind both -/
theorem ty (T : Nat → List UInt8) (y z : Nat) (r : Ino) (hr : inoMay r = true) : putT (putT T y r) z F0 y = if y = z then inoBytes (y + 1) F0 else inoBytes (y + 1) r := by
  unfold putT
  rw [if_pos F0_may, if_pos hr]
  unfold setT
  by_cases h : y = z
  · subst h
    rw [if_pos rfl, if_pos rfl]
  · rw [if_neg h, if_neg h, if_pos rfl]
set_option maxRecDepth 100000 in
set_option maxHeartbeats 4000000 in
theorem back_no (ino : Int) (r : Ino) (n : Nat) (hn : r.root.length = n) (A : Option Addr) (c : Nat) (other bit : Int) (w : World) (hA : Sl w w.heap.size A (r.root.map u8v)) (hT : Tab w) (hno : ¬ (inB 1 65535 ino = true ∧ inoMay r = true)) :
    Calls Tryz.prog 4 #[.int .i64 ino, .agg #[.int .i64 r.kind, .int .i64 r.perm, .int .i64 r.uid, .int .i64 r.gid, .int .i64 r.links, .int .i64 r.size, .int .i64 r.blocks, .int .i64 r.at_, .int .i64 r.mt, .int .i64 r.ct, .int .i64 r.next, .int .i64 r.parent, .int .i64 r.xattr, .bool r.idx, .slice A n c], .int .i64 other, .int .i64 bit] w fun e w' => e = .returned (.bool true) ∧ Below w.heap.size w w' := by
  have hb := (Below.refl w.heap.size w).alloc (Nat.le_refl _) (.cells #[.int .i64 r.kind, .int .i64 r.perm, .int .i64 r.uid, .int .i64 r.gid, .int .i64 r.links, .int .i64 r.size, .int .i64 r.blocks, .int .i64 r.at_, .int .i64 r.mt, .int .i64 r.ct, .int .i64 r.next, .int .i64 r.parent, .int .i64 r.xattr, .bool r.idx, .slice A n c] 24)
  have hx1 : RowV (w.alloc (.cells #[.int .i64 r.kind, .int .i64 r.perm, .int .i64 r.uid, .int .i64 r.gid, .int .i64 r.links, .int .i64 r.size, .int .i64 r.blocks, .int .i64 r.at_, .int .i64 r.mt, .int .i64 r.ct, .int .i64 r.next, .int .i64 r.parent, .int .i64 r.xattr, .bool r.idx, .slice A n c] 24)) w.heap.size 24 [.int .i64 r.kind, .int .i64 r.perm, .int .i64 r.uid, .int .i64 r.gid, .int .i64 r.links, .int .i64 r.size, .int .i64 r.blocks, .int .i64 r.at_, .int .i64 r.mt, .int .i64 r.ct, .int .i64 r.next, .int .i64 r.parent, .int .i64 r.xattr, .bool r.idx, .slice A n c] := AMem.rowV_new w [.int .i64 r.kind, .int .i64 r.perm, .int .i64 r.uid, .int .i64 r.gid, .int .i64 r.links, .int .i64 r.size, .int .i64 r.blocks, .int .i64 r.at_, .int .i64 r.mt, .int .i64 r.ct, .int .i64 r.next, .int .i64 r.parent, .int .i64 r.xattr, .bool r.idx, .slice A n c] 24
  have HB := Lib.hid hb
  have HX1 := Lib.hid hx1
  have HT := Lib.hid (Tab.below hT hb (Tab.lt hT))
  have HA := Lib.hid (hA.below hb)
  have HN := Lib.hid hno
  clear hb hx1 hA hT hno
  go_enter Tryz.func4, Tryz.ntmps4
  go_wp2_with fail
  generalize w.alloc (.cells #[.int .i64 r.kind, .int .i64 r.perm, .int .i64 r.uid, .int .i64 r.gid, .int .i64 r.links, .int .i64 r.size, .int .i64 r.blocks, .int .i64 r.at_, .int .i64 r.mt, .int .i64 r.ct, .int .i64 r.next, .int .i64 r.parent, .int .i64 r.xattr, .bool r.idx, .slice A n c] 24) = V at *
  refine (awake_any V HT.out).mono ?_
  rintro e w1 ⟨rfl, hb1⟩
  have HT1 := Lib.hid (Tab.below HT.out hb1 (Tab.lt HT.out))
  have HB1 := Lib.hid hb1
  have hx := HX1.out.keep hb1 HX1.out.lt
  have d0 := AMem.rowc hx 0 rfl
  have d1 := AMem.rowc hx 1 rfl
  have d2 := AMem.rowc hx 2 rfl
  have d3 := AMem.rowc hx 3 rfl
  have d4 := AMem.rowc hx 4 rfl
  have d5 := AMem.rowc hx 5 rfl
  have d6 := AMem.rowc hx 6 rfl
  have d7 := AMem.rowc hx 7 rfl
  have d8 := AMem.rowc hx 8 rfl
  have d9 := AMem.rowc hx 9 rfl
  have d10 := AMem.rowc hx 10 rfl
  have d11 := AMem.rowc hx 11 rfl
  have d12 := AMem.rowc hx 12 rfl
  have d13 := AMem.rowc hx 13 rfl
  have d14 := AMem.rowc hx 14 rfl
  clear hx hb1
  go_wp2_with fail
  clear d0 d1 d2 d3 d4 d5 d6 d7 d8 d9 d10 d11 d12 d13 d14
  refine (Pack_any ino r w1.heap.size A c w1 (Nat.le_refl _) ((HA.out.below_le HB1.out HB.out.size).up (by have := HB.out.size; have := HB1.out.size; omega)) HT1.out n hn).mono ?_
  rintro e w2 ⟨A2, c2, rfl, -, hb2⟩
  rw [show paL ino r = [] from if_neg HN.out, show paE ino r = 22 from if_neg HN.out]
  have HF := Lib.hid (HB.out.trans ((HB1.out.trans (hb2.mono HB1.out.size)).mono HB.out.size))
  clear hb2
  simp only [List.length_nil]
  go_wp2
  go_ret
  exact ⟨rfl, HF.out⟩
set_option maxRecDepth 100000 in
set_option maxHeartbeats 4000000 in
theorem back_yes (m : Nat) (h1 : 1 ≤ m) (h2 : m ≤ 65535) (r : Ino) (hm : inoMay r = true) (hw : r.Wide) (A : Option Addr) (c : Nat) (other bit : Int) (w : World) (hA : Sl w w.heap.size A (r.root.map u8v)) (hT : Tab w) :
    Calls Tryz.prog 4 #[.int .i64 (m : Int), .agg #[.int .i64 r.kind, .int .i64 r.perm, .int .i64 r.uid, .int .i64 r.gid, .int .i64 r.links, .int .i64 r.size, .int .i64 r.blocks, .int .i64 r.at_, .int .i64 r.mt, .int .i64 r.ct, .int .i64 r.next, .int .i64 r.parent, .int .i64 r.xattr, .bool r.idx, .slice A 48 c], .int .i64 other, .int .i64 bit] w fun e w' => e = .returned (.bool true) ∧ Below w.heap.size w w' := by
  have hn : r.root.length = 48 := (may_of hm).root
  have hb := (Below.refl w.heap.size w).alloc (Nat.le_refl _) (.cells #[.int .i64 r.kind, .int .i64 r.perm, .int .i64 r.uid, .int .i64 r.gid, .int .i64 r.links, .int .i64 r.size, .int .i64 r.blocks, .int .i64 r.at_, .int .i64 r.mt, .int .i64 r.ct, .int .i64 r.next, .int .i64 r.parent, .int .i64 r.xattr, .bool r.idx, .slice A 48 c] 24)
  have hx1 : RowV (w.alloc (.cells #[.int .i64 r.kind, .int .i64 r.perm, .int .i64 r.uid, .int .i64 r.gid, .int .i64 r.links, .int .i64 r.size, .int .i64 r.blocks, .int .i64 r.at_, .int .i64 r.mt, .int .i64 r.ct, .int .i64 r.next, .int .i64 r.parent, .int .i64 r.xattr, .bool r.idx, .slice A 48 c] 24)) w.heap.size 24 [.int .i64 r.kind, .int .i64 r.perm, .int .i64 r.uid, .int .i64 r.gid, .int .i64 r.links, .int .i64 r.size, .int .i64 r.blocks, .int .i64 r.at_, .int .i64 r.mt, .int .i64 r.ct, .int .i64 r.next, .int .i64 r.parent, .int .i64 r.xattr, .bool r.idx, .slice A 48 c] := AMem.rowV_new w [.int .i64 r.kind, .int .i64 r.perm, .int .i64 r.uid, .int .i64 r.gid, .int .i64 r.links, .int .i64 r.size, .int .i64 r.blocks, .int .i64 r.at_, .int .i64 r.mt, .int .i64 r.ct, .int .i64 r.next, .int .i64 r.parent, .int .i64 r.xattr, .bool r.idx, .slice A 48 c] 24
  have HB := Lib.hid hb
  have HX1 := Lib.hid hx1
  have HT := Lib.hid (Tab.below hT hb (Tab.lt hT))
  have HT0 := Lib.hid hT
  have HA := Lib.hid (hA.below hb)
  have HM := Lib.hid hm
  have HN := Lib.hid hn
  have HW := Lib.hid hw
  have HUB := Lib.hid (un_back hm hw h1 h2)
  have HUO := Lib.hid (un_other hm hw h2 other)
  have HUT := Lib.hid (fun i k y => un_turned hm hw h1 h2 i k y)
  have HLL := Lib.hid (inoBytes_len hn m)
  have H12 := Lib.hid (And.intro h1 h2)
  clear hb hx1 hA hT hm hn hw h1 h2
  go_enter Tryz.func4, Tryz.ntmps4
  go_wp2_with fail
  generalize w.alloc (.cells #[.int .i64 r.kind, .int .i64 r.perm, .int .i64 r.uid, .int .i64 r.gid, .int .i64 r.links, .int .i64 r.size, .int .i64 r.blocks, .int .i64 r.at_, .int .i64 r.mt, .int .i64 r.ct, .int .i64 r.next, .int .i64 r.parent, .int .i64 r.xattr, .bool r.idx, .slice A 48 c] 24) = V at *
  refine (awake_any V HT.out).mono ?_
  rintro e w1 ⟨rfl, hb1⟩
  have HT1 := Lib.hid (Tab.below HT.out hb1 (Tab.lt HT.out))
  have HB1 := Lib.hid hb1
  have hx := HX1.out.keep hb1 HX1.out.lt
  have d0 := AMem.rowc hx 0 rfl
  have d1 := AMem.rowc hx 1 rfl
  have d2 := AMem.rowc hx 2 rfl
  have d3 := AMem.rowc hx 3 rfl
  have d4 := AMem.rowc hx 4 rfl
  have d5 := AMem.rowc hx 5 rfl
  have d6 := AMem.rowc hx 6 rfl
  have d7 := AMem.rowc hx 7 rfl
  have d8 := AMem.rowc hx 8 rfl
  have d9 := AMem.rowc hx 9 rfl
  have d10 := AMem.rowc hx 10 rfl
  have d11 := AMem.rowc hx 11 rfl
  have d12 := AMem.rowc hx 12 rfl
  have d13 := AMem.rowc hx 13 rfl
  have d14 := AMem.rowc hx 14 rfl
  clear hx hb1
  go_wp2_with fail
  clear d0 d1 d2 d3 d4 d5 d6 d7 d8 d9 d10 d11 d12 d13 d14
  refine (Pack_yes r A c w1 m H12.out.1 H12.out.2 HM.out w1.heap.size (Nat.le_refl _) ((HA.out.below_le HB1.out HB.out.size).up (by have := HB.out.size; have := HB1.out.size; omega)) HT1.out).mono ?_
  rintro e w2 ⟨g, rfl, hg, hR2, hb2⟩
  have HB2 := Lib.hid (HB1.out.trans (hb2.mono HB1.out.size))
  have HR2 := Lib.hid hR2
  have HG := Lib.hid hg
  have HUP := Lib.hid (Unpack_any (m : Int) (inoBytes m r) 128 HLL.out w2.heap.size (some ⟨g, 0, none⟩) 128 (Nat.le_refl _) w2 (Nat.le_refl _) (hR2.sl hR2.lt) (Tab.below HT.out HB2.out (Tab.lt HT.out)))
  clear hb2 hR2 hg
  go_wp2_with fail
  refine HUP.out.mono ?_
  rintro e w3 ⟨Ax, cx, rfl, hO, hb3⟩
  rw [HUB.out.1] at hO
  rw [HUB.out.1, HUB.out.2, HN.out]
  obtain ⟨-, hsx, -⟩ := hO.at_
  have HXB := Lib.hid (AMem.rowV_new w3 [.int .i64 r.kind, .int .i64 r.perm, .int .i64 r.uid, .int .i64 r.gid, .int .i64 r.links, .int .i64 r.size, .int .i64 r.blocks, .int .i64 r.at_, .int .i64 r.mt, .int .i64 r.ct, .int .i64 r.next, .int .i64 r.parent, .int .i64 r.xattr, .bool r.idx, .slice Ax 48 cx] 24)
  have hbb := HB2.out.trans (hb3.mono HB2.out.size)
  have HB3 := Lib.hid (hbb.alloc hbb.size (.cells #[.int .i64 r.kind, .int .i64 r.perm, .int .i64 r.uid, .int .i64 r.gid, .int .i64 r.links, .int .i64 r.size, .int .i64 r.blocks, .int .i64 r.at_, .int .i64 r.mt, .int .i64 r.ct, .int .i64 r.next, .int .i64 r.parent, .int .i64 r.xattr, .bool r.idx, .slice Ax 48 cx] 24))
  have HR3 := Lib.hid ((HR2.out.keep hb3 HR2.out.lt).alloc (.cells #[.int .i64 r.kind, .int .i64 r.perm, .int .i64 r.uid, .int .i64 r.gid, .int .i64 r.links, .int .i64 r.size, .int .i64 r.blocks, .int .i64 r.at_, .int .i64 r.mt, .int .i64 r.ct, .int .i64 r.next, .int .i64 r.parent, .int .i64 r.xattr, .bool r.idx, .slice Ax 48 cx] 24))
  have HSX := Lib.hid (alloc_sl hsx (Nat.le_refl _) (.cells #[.int .i64 r.kind, .int .i64 r.perm, .int .i64 r.uid, .int .i64 r.gid, .int .i64 r.links, .int .i64 r.size, .int .i64 r.blocks, .int .i64 r.at_, .int .i64 r.mt, .int .i64 r.ct, .int .i64 r.next, .int .i64 r.parent, .int .i64 r.xattr, .bool r.idx, .slice Ax 48 cx] 24))
  clear hO hb3 hsx hbb
  go_wp2_with fail
  generalize w3.alloc (.cells #[.int .i64 r.kind, .int .i64 r.perm, .int .i64 r.uid, .int .i64 r.gid, .int .i64 r.links, .int .i64 r.size, .int .i64 r.blocks, .int .i64 r.at_, .int .i64 r.mt, .int .i64 r.ct, .int .i64 r.next, .int .i64 r.parent, .int .i64 r.xattr, .bool r.idx, .slice Ax 48 cx] 24) = W3 at *
  refine (Unpack_any other (inoBytes m r) 128 HLL.out W3.heap.size (some ⟨g, 0, none⟩) 128 (Nat.le_refl _) W3 (Nat.le_refl _) (HR3.out.sl HR3.out.lt) (Tab.below HT.out HB3.out (Tab.lt HT.out))).mono ?_
  rintro e w4 ⟨Ay, cy, rfl, -, hb4⟩
  have hoth : ((other != (m : Int)) = false ∧ True) ∨ ((other != (m : Int)) = true ∧ unE other (inoBytes m r) = 117) ∨ ((other != (m : Int)) = true ∧ unE other (inoBytes m r) = 22) := by
    by_cases ho : other = (m : Int)
    · exact .inl ⟨by rw [ho]; simp, trivial⟩
    · have hq : (other != (m : Int)) = true := by rw [bne_iff_ne]; exact ho
      exact .inr ((HUO.out ho).2.imp (fun h => ⟨hq, h⟩) (fun h => ⟨hq, h⟩))
  clear HUO
  generalize unI other (inoBytes m r) = I at *
  generalize unE other (inoBytes m r) = ge at *
  have hbb := HB3.out.trans (hb4.mono HB3.out.size)
  have HB4 := Lib.hid (hbb.alloc hbb.size (.cells #[.int .i64 I.kind, .int .i64 I.perm, .int .i64 I.uid, .int .i64 I.gid, .int .i64 I.links, .int .i64 I.size, .int .i64 I.blocks, .int .i64 I.at_, .int .i64 I.mt, .int .i64 I.ct, .int .i64 I.next, .int .i64 I.parent, .int .i64 I.xattr, .bool I.idx, .slice Ay I.root.length cy] 24))
  have HR4 := Lib.hid ((HR3.out.keep hb4 HR3.out.lt).alloc (.cells #[.int .i64 I.kind, .int .i64 I.perm, .int .i64 I.uid, .int .i64 I.gid, .int .i64 I.links, .int .i64 I.size, .int .i64 I.blocks, .int .i64 I.at_, .int .i64 I.mt, .int .i64 I.ct, .int .i64 I.next, .int .i64 I.parent, .int .i64 I.xattr, .bool I.idx, .slice Ay I.root.length cy] 24))
  have HXB4 := Lib.hid ((HXB.out.keep hb4 HXB.out.lt).alloc (.cells #[.int .i64 I.kind, .int .i64 I.perm, .int .i64 I.uid, .int .i64 I.gid, .int .i64 I.links, .int .i64 I.size, .int .i64 I.blocks, .int .i64 I.at_, .int .i64 I.mt, .int .i64 I.ct, .int .i64 I.next, .int .i64 I.parent, .int .i64 I.xattr, .bool I.idx, .slice Ay I.root.length cy] 24))
  have HSX4 := Lib.hid (alloc_sl (HSX.out.below_le hb4 (Nat.le_of_lt HXB.out.lt)) (Nat.le_trans (Nat.le_of_lt HXB.out.lt) hb4.size) (.cells #[.int .i64 I.kind, .int .i64 I.perm, .int .i64 I.uid, .int .i64 I.gid, .int .i64 I.links, .int .i64 I.size, .int .i64 I.blocks, .int .i64 I.at_, .int .i64 I.mt, .int .i64 I.ct, .int .i64 I.next, .int .i64 I.parent, .int .i64 I.xattr, .bool I.idx, .slice Ay I.root.length cy] 24))
  have HX4 := Lib.hid (HX1.out.keep HB4.out HX1.out.lt)
  clear hbb hb4 HXB HSX HR3
  have HOT := Lib.hid hoth
  clear hoth
  go_upto_region 7 with fail
  generalize w4.alloc (.cells #[.int .i64 I.kind, .int .i64 I.perm, .int .i64 I.uid, .int .i64 I.gid, .int .i64 I.links, .int .i64 I.size, .int .i64 I.blocks, .int .i64 I.at_, .int .i64 I.mt, .int .i64 I.ct, .int .i64 I.next, .int .i64 I.parent, .int .i64 I.xattr, .bool I.idx, .slice Ay I.root.length cy] 24) = W4 at *
  go_cut [71] from 51 to 71 (fun s71 wx => s71 = .bool false ∧ Hid (Below W4.heap.size W4 wx))
  case first =>
   as_aux_lemma =>
    have hx := HX4.out
    have hk := HXB4.out
    have d0 := AMem.rowc hx 0 rfl
    have d1 := AMem.rowc hx 1 rfl
    have d2 := AMem.rowc hx 2 rfl
    have d3 := AMem.rowc hx 3 rfl
    have d4 := AMem.rowc hx 4 rfl
    have d5 := AMem.rowc hx 5 rfl
    have d6 := AMem.rowc hx 6 rfl
    have d7 := AMem.rowc hx 7 rfl
    have d8 := AMem.rowc hx 8 rfl
    have d9 := AMem.rowc hx 9 rfl
    have d10 := AMem.rowc hx 10 rfl
    have d11 := AMem.rowc hx 11 rfl
    have d12 := AMem.rowc hx 12 rfl
    have d13 := AMem.rowc hx 13 rfl
    have d14 := AMem.rowc hx 14 rfl
    have k0 := AMem.rowc hk 0 rfl
    have k1 := AMem.rowc hk 1 rfl
    have k2 := AMem.rowc hk 2 rfl
    have k3 := AMem.rowc hk 3 rfl
    have k4 := AMem.rowc hk 4 rfl
    have k5 := AMem.rowc hk 5 rfl
    have k6 := AMem.rowc hk 6 rfl
    have k7 := AMem.rowc hk 7 rfl
    have k8 := AMem.rowc hk 8 rfl
    have k9 := AMem.rowc hk 9 rfl
    have k10 := AMem.rowc hk 10 rfl
    have k11 := AMem.rowc hk 11 rfl
    have k12 := AMem.rowc hk 12 rfl
    have k13 := AMem.rowc hk 13 rfl
    have k14 := AMem.rowc hk 14 rfl
    clear hx hk
    go_wp2_with fail
    clear d0 d1 d2 d3 d4 d5 d6 d7 d8 d9 d10 d11 d12 d13 d14 k0 k1 k2 k3 k4 k5 k6 k7 k8 k9 k10 k11 k12 k13 k14
    refine (same_ino r 48 HN.out w3.heap.size w.heap.size Ax A cx c W4 (Nat.le_of_lt HXB4.out.lt) (Nat.le_of_lt HX4.out.lt) HSX4.out (HA.out.below_le HB4.out HB.out.size) (by rw [HN.out]; decide)).mono ?_
    rintro e w5 ⟨rfl, hb5⟩
    have HB5 := Lib.hid hb5
    clear hb5
    rcases HOT.out with ⟨hq, -⟩ | ⟨hq, rfl⟩ | ⟨hq, rfl⟩
    all_goals
      go_wp2_with fail
      go_meet
      exact ⟨rfl, HB5⟩
  case rest =>
  obtain ⟨rfl, hcut2⟩ := hcut
  have hb5 := hcut2.out
  clear hcut2 HOT
  generalize wc = w5 at *
  have HB5 := Lib.hid (HB4.out.trans (hb5.mono HB4.out.size))
  have HR5 := Lib.hid (HR4.out.keep hb5 HR4.out.lt)
  have HX5 := Lib.hid (HX4.out.keep hb5 HX4.out.lt)
  have HT5 := Lib.hid (Tab.below HT.out HB5.out (Tab.lt HT.out))
  have HA5 := Lib.hid (HA.out.below_le HB5.out HB.out.size)
  have HG5 := Lib.hid HR5.out.lt
  have HW5 := Lib.hid HX5.out.lt
  clear hb5 HXB4 HSX4 HX4 HR4 HB4
  have HF := Lib.hid (HB.out.trans (HB5.out.mono HB.out.size))
  obtain ⟨y, hy, hye⟩ := low5 (m : Int)
  obtain ⟨z, hz, hze⟩ := low5 other
  obtain ⟨R, hR⟩ : ∃ R : Ino, (inoMay R = true ∧ R.Wide) ∧ putT (putT T0 y r) z F0 y = inoBytes (y + 1) R ∧ ((((y : Int) != (z : Int)) = false) ∨ (((y : Int) != (z : Int)) = true ∧ r = R)) := by
    have h := ty T0 y z r HM.out
    by_cases hyz : y = z
    · exact ⟨F0, ⟨F0_may, F0_wide⟩, by rw [h, if_pos hyz], .inl (by rw [hyz]; simp)⟩
    · exact ⟨r, ⟨HM.out, HW.out⟩, by rw [h, if_neg hyz], .inr ⟨by rw [bne_iff_ne]; omega, rfl⟩⟩
  have HRR := Lib.hid hR
  clear hR
  have hmk := make48
  have hp : putE r = 0 := if_pos HM.out
  go_wp2_with fail
  refine (both_any w5 HT5.out).mono ?_
  rintro e w6 ⟨b, v, rfl, db, s6, hI6⟩
  have HI6 := Lib.hid hI6
  have hx := HX5.out.keep hI6.st.below HX5.out.lt
  have d0 := AMem.rowc hx 0 rfl
  have d1 := AMem.rowc hx 1 rfl
  have d2 := AMem.rowc hx 2 rfl
  have d3 := AMem.rowc hx 3 rfl
  have d4 := AMem.rowc hx 4 rfl
  have d5 := AMem.rowc hx 5 rfl
  have d6 := AMem.rowc hx 6 rfl
  have d7 := AMem.rowc hx 7 rfl
  have d8 := AMem.rowc hx 8 rfl
  have d9 := AMem.rowc hx 9 rfl
  have d10 := AMem.rowc hx 10 rfl
  have d11 := AMem.rowc hx 11 rfl
  have d12 := AMem.rowc hx 12 rfl
  have d13 := AMem.rowc hx 13 rfl
  have d14 := AMem.rowc hx 14 rfl
  clear hx hI6
  go_wp2_with fail
  clear d0 d1 d2 d3 d4 d5 d6 d7 d8 d9 d10 d11 d12 d13 d14
  refine (put_q HI6.out HT5.out (by decide) y hy _ (by omega) r A c 48 HN.out ((HA5.out.below_le HI6.out.st.below (Nat.le_of_lt HW5.out)).up (by have := HI6.out.st.below.size; have := HW5.out; omega))).mono ?_
  rintro e w7 ⟨rfl, s7, hI7⟩
  have HI7 := Lib.hid (hI7.also (below_box (.cells (zrow 48) 5)))
  have HZ7 := Lib.hid (zrow_row w7 48)
  clear hI7
  go_wp2_with fail
  refine (put_q HI7.out HT5.out (by decide) z hz _ (by omega) F0 (some ⟨w7.heap.size, 0, none⟩) 48 48 (by decide) (HZ7.out.sl HZ7.out.lt)).mono ?_
  rintro e w9 ⟨rfl, s9, hI9⟩
  have HI9 := Lib.hid hI9
  clear hI9 hmk
  go_wp2_with fail
  refine (get_some HI9.out HT5.out (by decide) y hy _ (by omega) R HRR.out.1.1 HRR.out.1.2 HRR.out.2.1).mono ?_
  rintro e w10 ⟨gy, cy2, resty, s10, rfl, hgy, hRy, hI10, -⟩
  have HBX := Lib.hid ((hI10.also (below_box (.cells #[.int .i64 R.kind, .int .i64 R.perm, .int .i64 R.uid, .int .i64 R.gid, .int .i64 R.links, .int .i64 R.size, .int .i64 R.blocks, .int .i64 R.at_, .int .i64 R.mt, .int .i64 R.ct, .int .i64 R.next, .int .i64 R.parent, .int .i64 R.xattr, .bool R.idx, .slice (some ⟨gy, 0, none⟩) 48 cy2] 24))).st.below)
  have HRY := Lib.hid (hRy.alloc (.cells #[.int .i64 R.kind, .int .i64 R.perm, .int .i64 R.uid, .int .i64 R.gid, .int .i64 R.links, .int .i64 R.size, .int .i64 R.blocks, .int .i64 R.at_, .int .i64 R.mt, .int .i64 R.ct, .int .i64 R.next, .int .i64 R.parent, .int .i64 R.xattr, .bool R.idx, .slice (some ⟨gy, 0, none⟩) 48 cy2] 24))
  have HXY := Lib.hid (AMem.rowV_new w10 [.int .i64 R.kind, .int .i64 R.perm, .int .i64 R.uid, .int .i64 R.gid, .int .i64 R.links, .int .i64 R.size, .int .i64 R.blocks, .int .i64 R.at_, .int .i64 R.mt, .int .i64 R.ct, .int .i64 R.next, .int .i64 R.parent, .int .i64 R.xattr, .bool R.idx, .slice (some ⟨gy, 0, none⟩) 48 cy2] 24)
  have HGY := Lib.hid hRy.lt
  clear hI10 hRy hgy
  go_upto_region 13 with fail
  generalize w10.alloc (.cells #[.int .i64 R.kind, .int .i64 R.perm, .int .i64 R.uid, .int .i64 R.gid, .int .i64 R.links, .int .i64 R.size, .int .i64 R.blocks, .int .i64 R.at_, .int .i64 R.mt, .int .i64 R.ct, .int .i64 R.next, .int .i64 R.parent, .int .i64 R.xattr, .bool R.idx, .slice (some ⟨gy, 0, none⟩) 48 cy2] 24) = W10 at *
  go_cut [115] from 97 to 115 (fun s115 wx => s115 = .bool false ∧ Hid (Below W10.heap.size W10 wx))
  case first =>
   as_aux_lemma =>
    rcases HRR.out.2.2 with hyz | ⟨hyz, rfl⟩
    · go_wp2_with fail
      go_meet
      exact ⟨rfl, Lib.hid (Below.refl _ _)⟩
    · have hx := HX5.out.keep HBX.out HX5.out.lt
      have hk := HXY.out
      have d0 := AMem.rowc hx 0 rfl
      have d1 := AMem.rowc hx 1 rfl
      have d2 := AMem.rowc hx 2 rfl
      have d3 := AMem.rowc hx 3 rfl
      have d4 := AMem.rowc hx 4 rfl
      have d5 := AMem.rowc hx 5 rfl
      have d6 := AMem.rowc hx 6 rfl
      have d7 := AMem.rowc hx 7 rfl
      have d8 := AMem.rowc hx 8 rfl
      have d9 := AMem.rowc hx 9 rfl
      have d10 := AMem.rowc hx 10 rfl
      have d11 := AMem.rowc hx 11 rfl
      have d12 := AMem.rowc hx 12 rfl
      have d13 := AMem.rowc hx 13 rfl
      have d14 := AMem.rowc hx 14 rfl
      have k0 := AMem.rowc hk 0 rfl
      have k1 := AMem.rowc hk 1 rfl
      have k2 := AMem.rowc hk 2 rfl
      have k3 := AMem.rowc hk 3 rfl
      have k4 := AMem.rowc hk 4 rfl
      have k5 := AMem.rowc hk 5 rfl
      have k6 := AMem.rowc hk 6 rfl
      have k7 := AMem.rowc hk 7 rfl
      have k8 := AMem.rowc hk 8 rfl
      have k9 := AMem.rowc hk 9 rfl
      have k10 := AMem.rowc hk 10 rfl
      have k11 := AMem.rowc hk 11 rfl
      have k12 := AMem.rowc hk 12 rfl
      have k13 := AMem.rowc hk 13 rfl
      have k14 := AMem.rowc hk 14 rfl
      clear hx hk
      go_wp2_with fail
      clear d0 d1 d2 d3 d4 d5 d6 d7 d8 d9 d10 d11 d12 d13 d14 k0 k1 k2 k3 k4 k5 k6 k7 k8 k9 k10 k11 k12 k13 k14
      refine (same_ino r 48 HN.out W10.heap.size w.heap.size (some ⟨gy, 0, none⟩) A cy2 c W10 (Nat.le_refl _) (Nat.le_trans (Nat.le_of_lt HW5.out) HBX.out.size) (HRY.out.sl HRY.out.lt) (HA5.out.below_le HBX.out (Nat.le_of_lt HW5.out)) (by rw [HN.out]; decide)).mono ?_
      rintro e w12 ⟨rfl, hb12⟩
      have HB12 := Lib.hid hb12
      clear hb12
      go_wp2_with fail
      go_meet
      exact ⟨rfl, HB12⟩
  case rest =>
  as_aux_lemma =>
  obtain ⟨rfl, hcut2⟩ := hcut
  have hb12 := HBX.out.trans (hcut2.out.mono HBX.out.size)
  clear hcut2 HXY HRY HGY HRR hp hye hze
  generalize wc = w12 at *
  have HBV := Lib.hid (HF.out.trans (hb12.mono (Nat.le_trans (Nat.le_of_lt HX1.out.lt) HB5.out.size)))
  have hR12 := HR5.out.keep hb12 HG5.out
  have HT12 := Lib.hid (Tab.below HT5.out hb12 (Tab.lt HT5.out))
  clear hb12 HBX
  obtain ⟨bk, hbk, hbke⟩ := low10 bit
  obtain ⟨q, m8, hq128, hm8, hqe, hmt, hwq, hwm, hqI⟩ := bit_facts bk hbk
  have hri : q < (inoBytes m r).length := by rw [HLL.out]; exact hq128
  have hc := hR12.cell hri
  have hf := hR12.free q
  have HR12 := Lib.hid hR12
  clear hR12
  obtain ⟨zb, hzb, hzn, hze⟩ := flip ((inoBytes m r)[q]'hri) m8 hm8
  have HTN := Lib.hid (HUT.out q m8 zb hm8 hri hzn hze)
  generalize ((inoBytes m r)[q]'hri) = old at hc hzb
  clear hzn hze hbk
  go_wp2_with fail
  go_still_tail 13, (by kernel_rfl)
  change wpList _ _ _ _ _ w12.drew
  have HRS := Lib.hid (HR12.out.set hri zb)
  have HLS : Hid (((inoBytes m r).set q zb).length = 128) := Lib.hid ((List.length_set ..).trans HLL.out)
  have HGW : Hid (w.heap.size ≤ g) := Lib.hid (Nat.le_trans HB.out.size (Nat.le_trans HB1.out.size HG.out))
  have HB13 : Hid (Below w.heap.size w (w12.setCell ⟨g, q, none⟩ (.int .u8 zb.toNat)).drew) := Lib.hid ((HBV.out.setCell (p := ⟨g, q, none⟩) HGW.out (.int .u8 zb.toNat)).drew)
  have HT13 := Lib.hid (Tab.below HT0.out HB13.out (Tab.lt HT0.out))
  go_wp2_with fail
  refine (Unpack_any (m : Int) ((inoBytes m r).set q zb) 128 HLS.out (w12.setCell ⟨g, q, none⟩ (.int .u8 zb.toNat)).drew.heap.size (some ⟨g, 0, none⟩) 128 (Nat.le_refl _) (w12.setCell ⟨g, q, none⟩ (.int .u8 zb.toNat)).drew (Nat.le_refl _) ((show Row (w12.setCell ⟨g, q, none⟩ (.int .u8 zb.toNat)).drew g _ [] from HRS.out).sl HRS.out.lt) HT13.out).mono ?_
  rintro e w14 ⟨A14, c14, rfl, -, hb14⟩
  rw [HTN.out.1, HTN.out.2]
  have HB14 := Lib.hid (below_up HB13.out hb14 HB13.out.size)
  clear hb14 hc hf
  unfold Ino.nul
  simp only [List.length_nil]
  go_wp2
  go_ret
  exact ⟨rfl, HB14.out.alloc HB14.out.size _⟩
theorem back (ino : Int) (r : Ino) (n : Nat) (hn : r.root.length = n) (A : Option Addr) (c : Nat) (other bit : Int) (w : World) (hw : r.Wide) (hA : Sl w w.heap.size A (r.root.map u8v)) (hT : Tab w) :
    Calls Tryz.prog 4 #[.int .i64 ino, .agg #[.int .i64 r.kind, .int .i64 r.perm, .int .i64 r.uid, .int .i64 r.gid, .int .i64 r.links, .int .i64 r.size, .int .i64 r.blocks, .int .i64 r.at_, .int .i64 r.mt, .int .i64 r.ct, .int .i64 r.next, .int .i64 r.parent, .int .i64 r.xattr, .bool r.idx, .slice A n c], .int .i64 other, .int .i64 bit] w fun e w' => e = .returned (.bool true) ∧ Below w.heap.size w w' := by
  by_cases h : inB 1 65535 ino = true ∧ inoMay r = true
  · have h1 := inB_true.1 h.1
    obtain ⟨m, rfl⟩ := Int.eq_ofNat_of_zero_le (show 0 ≤ ino by omega)
    obtain rfl : n = 48 := hn.symm.trans (may_of h.2).root
    exact back_yes m (by omega) (by omega) r h.2 hw A c other bit w hA hT
  · exact back_no ino r n hn A c other bit w hA hT h
end Go.Proofs.YtgjcbfdhpbkhoaaGreatDoor.ILBack
namespace Go.Proofs.YtgjcbfdhpbkhoaaGreatDoor.JPlain
open Go.RowKit WMem WPlain WPack WWide WAny WTurn SNums
structure Ent where
  blk : Int
  esc : Bool
  deriving DecidableEq
structure Rec where
  kind : Int
  seq : Int
  ents : List Ent
  sum : Nat
  start : Int
  deriving DecidableEq
def nul : Rec := ⟨0, 0, [], 0, 0⟩
def saysEnt (b : List UInt8) (kind : Int) (i : Nat) : Ent := if kind = 1 then ⟨(getX b ((11 + 5 * i : Nat) : Int) 4 : Nat), getX b ((11 + 5 * i + 4 : Nat) : Int) 1 == 1⟩ else ⟨(getX b ((11 + 4 * i : Nat) : Int) 4 : Nat), false⟩
def saysK (b : List UInt8) : Int := (getX b 4 1 : Nat)
def saysL (b : List UInt8) : Nat := getX b 9 2
def says (b : List UInt8) : Rec :=
  ⟨saysK b, (getX b 5 4 : Nat), (List.range (min (saysL b) 61)).map (saysEnt b (saysK b)), if saysK b = 2 then getX b 11 4 else 0, if saysK b = 4 then (getX b 11 4 : Nat) else 0⟩
theorem block_says (xs : List UInt64) (ws : List Int) (seed : Nat) (h : packs xs ws 256) (hx : fit (nats ws) xs) (ht : tot (nats ws) ≤ 252) :
    unp (nats ws) ((blockOf xs ws seed).take (tot (nats ws))) = xs := by
  have hl := bytesOf_len ws xs 256 h
  have hl' : (bytesOf_ xs ws 256).length = 256 := hl
  have hp : (blockOf xs ws seed).take (tot (nats ws)) = (bytesOf_ xs ws 256).take (tot (nats ws)) := by
    unfold blockOf sealL
    rw [if_pos (by omega), hl']
    have := patch_apart (bytesOf_ xs ws 256) (256 - 4) (dig 4 (crc seed ((bytesOf_ xs ws 256).take (256 - 4)))) (by rw [dig_length]; omega) 0 (tot (nats ws)) (.inl (by omega))
    simpa using this
  rw [hp]
  have hn : (nats ws).length = xs.length := by rw [nats_len]; exact h.1.symm
  have hq : (bytesOf_ xs ws 256).take (tot (nats ws)) = packed (nats ws) xs := by
    have t1 : (nats ws).take (nats ws).length = nats ws := List.take_length
    have t2 : xs.take (nats ws).length = xs := by rw [hn, List.take_length]
    unfold bytesOf_ WPack.part
    rw [t1, t2]
    exact List.take_left' (packed_length (nats ws) xs hn)
  rw [hq]
  exact unp_packed (nats ws) xs hn hx
end Go.Proofs.YtgjcbfdhpbkhoaaGreatDoor.JPlain
namespace Go.Proofs.YtgjcbfdhpbkhoaaGreatDoor.JMem
open Go.RowKit WMem WPlain JPlain
theorem below_box {w : World} (o : Obj) : Below w.heap.size w (w.alloc o) := (Below.refl _ _).alloc (Nat.le_refl _) _
theorem below_box_to {w w' : World} {o : Obj} (h : Below (w.alloc o).heap.size (w.alloc o) w') : Below w.heap.size w w' := (below_box o).trans (h.mono (by simp))
structure Boxed (a w : World) (vs : List Value) : Prop where
  below : Below a.heap.size a w
  lt : a.heap.size < w.heap.size
  cell : ∀ i v, vs[i]? = some v → w.cell? ⟨a.heap.size, i, none⟩ = some v
section
variable {a w w' : World} {vs : List Value}
theorem Boxed.start (w : World) (vs : List Value) (T : TypeId) : Boxed w (w.alloc (.cells vs.toArray T)) vs :=
  ⟨below_box _, by simp, fun i v h => by
    rw [row_cell (row_new w (.cells vs.toArray T)), List.getElem?_toArray]; exact h⟩
theorem Boxed.go (h : Boxed a w vs) (hb : Below w.heap.size w w') : Boxed a w' vs :=
  ⟨h.below.trans (hb.mono (by have := h.lt; omega)), by have := h.lt; have := hb.size; omega, fun i v hv => (hb.cell (p := ⟨a.heap.size, i, none⟩) h.lt).trans (h.cell i v hv)⟩
theorem Boxed.drewN (h : Boxed a w vs) (n : Nat) : Boxed a (w.drewN n) vs := h.go (below_drewN (Below.refl _ _) n)
theorem Boxed.alloc (h : Boxed a w vs) (o : Obj) : Boxed a (w.alloc o) vs := h.go (below_box o)
theorem Boxed.two {v0 v1 : Value} (h : Boxed a w [v0, v1]) : w.cell? ⟨a.heap.size, 0, none⟩ = some v0 ∧ w.cell? ⟨a.heap.size, 1, none⟩ = some v1 :=
  ⟨h.cell 0 _ rfl, h.cell 1 _ rfl⟩
theorem Boxed.five {v0 v1 v2 v3 v4 : Value} (h : Boxed a w [v0, v1, v2, v3, v4]) : w.cell? ⟨a.heap.size, 0, none⟩ = some v0 ∧ w.cell? ⟨a.heap.size, 1, none⟩ = some v1 ∧ w.cell? ⟨a.heap.size, 2, none⟩ = some v2 ∧ w.cell? ⟨a.heap.size, 3, none⟩ = some v3 ∧ w.cell? ⟨a.heap.size, 4, none⟩ = some v4 :=
  ⟨h.cell 0 _ rfl, h.cell 1 _ rfl, h.cell 2 _ rfl, h.cell 3 _ rfl, h.cell 4 _ rfl⟩
end
theorem addr_field (a : Addr) (n j : Nat) (hj : j ≠ 0) : (⟨(a.add n).block, (a.add n).off + j, none⟩ : Addr) = a.add (n + j) := by
  rw [← addr_add_add a n j]
  generalize a.add n = x
  unfold Addr.add
  rw [if_neg hj]
def Ents (w : World) (B : Nat) (A : Option Addr) (l : List Ent) : Prop :=
  ∀ (i : Nat) (hi : i < l.length), ∃ a, A = some a ∧ a.block < B ∧ w.cell? (a.add (i * 2)) = some (.int .i64 l[i].blk) ∧ w.cell? (a.add (i * 2 + 1)) = some (.bool l[i].esc)
section
variable {w w' : World} {B B' : Nat} {A : Option Addr} {l : List Ent}
theorem Ents.nil (w : World) (B : Nat) (A : Option Addr) : Ents w B A [] := fun i hi => by cases hi
theorem Ents.keep (h : Ents w B A l) (hk : ∀ p : Addr, p.block < B → w'.cell? p = w.cell? p) : Ents w' B A l := fun i hi => by
  obtain ⟨a, hA, hab, h1, h2⟩ := h i hi
  have hk' : ∀ n, w'.cell? (a.add n) = w.cell? (a.add n) := fun n => hk _ (by rw [addr_add_block]; omega)
  exact ⟨a, hA, hab, (hk' _).trans h1, (hk' _).trans h2⟩
theorem Ents.below (h : Ents w B A l) (hb : Below B' w w') (hB : B ≤ B') : Ents w' B A l := h.keep fun _ hp => hb.cell (by omega)
theorem Ents.up (h : Ents w B A l) (hB : B ≤ B') : Ents w B' A l := fun i hi => by
  obtain ⟨a, hA, hab, h1⟩ := h i hi
  exact ⟨a, hA, by omega, h1⟩
theorem Ents.drewN (h : Ents w B A l) (n : Nat) : Ents (w.drewN n) B A l := h
theorem Ents.alloc (h : Ents w B A l) (hB : B ≤ w.heap.size) (o : Obj) : Ents (w.alloc o) B A l := h.below (below_box o) hB
theorem Ents.at_ (h : Ents w B A l) {k : Nat} (hk : k < l.length) : ∃ a, A = some a ∧ a.block < B ∧ w.cell? (a.add (k * 2)) = some (.int .i64 l[k].blk) ∧
    w.cell? ⟨(a.add (k * 2)).block, (a.add (k * 2)).off + 1, none⟩ = some (.bool l[k].esc) := by
  obtain ⟨a, hA, hab, h1, h2⟩ := h k hk
  exact ⟨a, hA, hab, h1, (congrArg w.cell? (addr_field a (k * 2) 1 (by decide))).trans h2⟩
end
end Go.Proofs.YtgjcbfdhpbkhoaaGreatDoor.JMem
namespace Go.Proofs.YtgjcbfdhpbkhoaaGreatDoor.JDoor
open Go.ChangeShapes Go.WideShapes Go.ChangeAt Go.RowKit Go.Deep WMem RowEnd Args Door JPlain JMem
section
variable {H : Type} {enc : TypeId × Value → H} {P : Program} {w : World} {base : Nat} {spare : Nat → Bool} {held : Bool}
end
instance : Inhabited Ent := ⟨⟨0, false⟩⟩
section
variable {H : Type} {enc : TypeId × Value → H} {P : Program} {w : World} {base : Nat} {held : Bool}
end
section
variable {H : Type} {enc : TypeId × Value → H}
end
end Go.Proofs.YtgjcbfdhpbkhoaaGreatDoor.JDoor
namespace Go.Proofs.YtgjcbfdhpbkhoaaGreatDoor.IDoor
open Go.ChangeShapes Go.WideShapes Go.ChangeAt Go.RowKit Go.Deep WMem RowEnd Args Door JDoor IPlain
section
variable {H : Type} {enc : TypeId × Value → H} {P : Program} {w : World} {base : Nat} {held : Bool}
theorem u8s_at {t e : TypeId} {fuel : Nat} {v : Value} {x : DataW H × List MemPlace} (ht : P.underlying t = some (.slice e)) (he : P.underlying e = some (.int .u8)) (hc : P.cellsOf e = 1)
    (h : DataW.trod enc P w base (fun _ => true) held fuel t [v] = some x) : ∃ (A : Option Addr) (l : List UInt8) (c : Nat), v = .slice A l.length c ∧ Sl w w.heap.size A (l.map u8v) ∧ l.length ≤ c ∧ c ≤ maxLen := by
  rcases open_ints ht he hc h with ⟨hcs, hx⟩ | ⟨a, len, cap, zs, hcs, _, hl, hm, hz, hx, hcell, hwz⟩
  · obtain rfl : v = .slice none 0 0 := by simpa using hcs
    exact ⟨none, [], 0, rfl, Sl.nil _ _ _, by simp, by simp⟩
  · obtain rfl : v = .slice (some a) len cap := by simpa using hcs
    simp only [if_true] at hz
    have hlen : (zs.take len).length = len := by simp; omega
    have e1 : (zs.take len).map (Value.int .u8) = ((zs.take len).map fun z => UInt8.ofNat z.toNat).map u8v := by
      rw [List.map_map]
      apply List.map_congr_left
      intro z hz
      have := bounds_u8 (hwz z (List.mem_of_mem_take hz))
      simp only [Function.comp, u8v]
      congr 1
      simp
      omega
    refine ⟨some a, (zs.take len).map fun z => UInt8.ofNat z.toNat, cap, by rw [List.length_map, hlen], ?_, by rw [List.length_map, hlen]; exact hl, hm⟩
    rw [← e1]
    intro k' u hu
    rw [List.getElem?_map, List.getElem?_take] at hu
    split at hu
    · rename_i hk
      have hk' : k' < zs.length := by omega
      rw [List.getElem?_eq_getElem hk'] at hu
      simp at hu
      subst hu
      have hc' := hcell k' hk'
      rw [List.getD_eq_getElem?_getD, List.getElem?_eq_getElem hk'] at hc'
      simp at hc'
      refine ⟨a, rfl, ?_, hc'⟩
      have := World.block_lt_of_cell? w _ hc'
      rwa [addr_add_block] at this
    · cases hu
end
theorem cino : Tryz.prog.cellsOf 24 = 15 := by kernel_rfl
theorem i64t_ : Tryz.prog.underlying 2 = some (.int .i64) := by kernel_rfl
theorem uino : ∃ f0 f1 f2 f3 f4 f5 f6 f7 f8 f9 f10 f11 f12 f13 f14, Tryz.prog.underlying 24 = some (.struct #[f0, f1, f2, f3, f4, f5, f6, f7, f8, f9, f10, f11, f12, f13, f14]) ∧ oneCellFields Tryz.prog #[f0, f1, f2, f3, f4, f5, f6, f7, f8, f9, f10, f11, f12, f13, f14] = true ∧ f0.type = 3 ∧ f1.type = 3 ∧ f2.type = 3 ∧ f3.type = 3 ∧ f4.type = 3 ∧ f5.type = 3 ∧ f6.type = 3 ∧ f7.type = 2 ∧ f8.type = 2 ∧ f9.type = 2 ∧ f10.type = 3 ∧ f11.type = 3 ∧ f12.type = 3 ∧ f13.type = 4 ∧ f14.type = 22 :=
  ⟨_, _, _, _, _, _, _, _, _, _, _, _, _, _, _, Tryz.underlying24, by kernel_rfl, rfl, rfl, rfl, rfl, rfl, rfl, rfl, rfl, rfl, rfl, rfl, rfl, rfl, rfl, rfl⟩
section
variable {H : Type} {enc : TypeId × Value → H}
set_option maxRecDepth 100000 in
theorem arg_ino {W : World} {b0 : Nat} {v : Value} {d : DataW H} {p : List MemPlace} (hv : Value.okWide Tryz.prog W .any b0 24 v) (h : DataW.Trod enc Tryz.prog W 0 (fun _ => true) true 24 v d p) :
    ∃ (r : Ino) (A : Option Addr) (c : Nat), v = .agg #[.int .i64 r.kind, .int .i64 r.perm, .int .i64 r.uid, .int .i64 r.gid, .int .i64 r.links, .int .i64 r.size, .int .i64 r.blocks, .int .i64 r.at_, .int .i64 r.mt, .int .i64 r.ct, .int .i64 r.next, .int .i64 r.parent, .int .i64 r.xattr, .bool r.idx, .slice A r.root.length c] ∧ Sl W W.heap.size A (r.root.map u8v) ∧ r.root.length ≤ c ∧ c ≤ maxLen ∧ r.Wide := by
  obtain ⟨f0, f1, f2, f3, f4, f5, f6, f7, f8, f9, f10, f11, f12, f13, f14, hu, hone, e0, e1, e2, e3, e4, e5, e6, e7, e8, e9, e10, e11, e12, e13, e14⟩ := uino
  obtain ⟨cs, rfl, hc⟩ := okWide_struct hu hv
  obtain ⟨fuel, hf⟩ := h
  have hlen : cs.toList.length = 15 := by rw [cino] at hc; simpa [Value.cells] using hc
  have hf' : DataW.trod enc Tryz.prog W 0 (fun _ => true) true fuel 24 cs.toList = some (d, p) := by simpa [Value.cells] using hf
  obtain ⟨ys, n', hn', hy, hl2, hyl, hg⟩ := DataW.trod_struct hu hf'
  have at_ : ∀ (i : Nat) (f : Field), (#[f0, f1, f2, f3, f4, f5, f6, f7, f8, f9, f10, f11, f12, f13, f14] : Array Field)[i]? = some f → ∃ (u : Value) (y : DataW H × List MemPlace), cs.toList[i]? = some u ∧ DataW.trod enc Tryz.prog W 0 (fun _ => true) true n' f.type [u] = some y := fun i f hi => by
    obtain ⟨ho, hk⟩ := hone_of hone i f hi
    have hil : i < 15 := (Array.getElem?_eq_some_iff.1 hi).1
    have h1 := hg i f hi
    rw [ho, hk] at h1
    have hone' : (cs.toList.drop i).take 1 = [cs.toList[i]'(by omega)] := by
      rw [List.drop_eq_getElem_cons (by omega)]
      rfl
    rw [hone'] at h1
    have hyl5 : ys.length = 15 := hyl
    have hys : ys[i]? = some (ys[i]'(by omega)) := List.getElem?_eq_getElem (by omega)
    exact ⟨_, _, List.getElem?_eq_getElem (by omega), h1.trans hys⟩
  obtain ⟨u0, y0, q0, h0⟩ := at_ 0 f0 rfl
  obtain ⟨u1, y1, q1, h1⟩ := at_ 1 f1 rfl
  obtain ⟨u2, y2, q2, h2⟩ := at_ 2 f2 rfl
  obtain ⟨u3, y3, q3, h3⟩ := at_ 3 f3 rfl
  obtain ⟨u4, y4, q4, h4⟩ := at_ 4 f4 rfl
  obtain ⟨u5, y5, q5, h5⟩ := at_ 5 f5 rfl
  obtain ⟨u6, y6, q6, h6⟩ := at_ 6 f6 rfl
  obtain ⟨u7, y7, q7, h7⟩ := at_ 7 f7 rfl
  obtain ⟨u8, y8, q8, h8⟩ := at_ 8 f8 rfl
  obtain ⟨u9, y9, q9, h9⟩ := at_ 9 f9 rfl
  obtain ⟨u10, y10, q10, h10⟩ := at_ 10 f10 rfl
  obtain ⟨u11, y11, q11, h11⟩ := at_ 11 f11 rfl
  obtain ⟨u12, y12, q12, h12⟩ := at_ 12 f12 rfl
  obtain ⟨u13, y13, q13, h13⟩ := at_ 13 f13 rfl
  obtain ⟨u14, y14, q14, h14⟩ := at_ 14 f14 rfl
  obtain ⟨x0, r0, _, b0⟩ := DataW.trod_int (by rw [e0]; exact i64t) h0
  obtain rfl : u0 = .int .i64 x0 := by simpa using r0
  obtain ⟨x1, r1, _, b1⟩ := DataW.trod_int (by rw [e1]; exact i64t) h1
  obtain rfl : u1 = .int .i64 x1 := by simpa using r1
  obtain ⟨x2, r2, _, b2⟩ := DataW.trod_int (by rw [e2]; exact i64t) h2
  obtain rfl : u2 = .int .i64 x2 := by simpa using r2
  obtain ⟨x3, r3, _, b3⟩ := DataW.trod_int (by rw [e3]; exact i64t) h3
  obtain rfl : u3 = .int .i64 x3 := by simpa using r3
  obtain ⟨x4, r4, _, b4⟩ := DataW.trod_int (by rw [e4]; exact i64t) h4
  obtain rfl : u4 = .int .i64 x4 := by simpa using r4
  obtain ⟨x5, r5, _, b5⟩ := DataW.trod_int (by rw [e5]; exact i64t) h5
  obtain rfl : u5 = .int .i64 x5 := by simpa using r5
  obtain ⟨x6, r6, _, b6⟩ := DataW.trod_int (by rw [e6]; exact i64t) h6
  obtain rfl : u6 = .int .i64 x6 := by simpa using r6
  obtain ⟨x7, r7, _, b7⟩ := DataW.trod_int (by rw [e7]; exact i64t_) h7
  obtain rfl : u7 = .int .i64 x7 := by simpa using r7
  have g7 := bounds_i64 b7
  obtain ⟨x8, r8, _, b8⟩ := DataW.trod_int (by rw [e8]; exact i64t_) h8
  obtain rfl : u8 = .int .i64 x8 := by simpa using r8
  have g8 := bounds_i64 b8
  obtain ⟨x9, r9, _, b9⟩ := DataW.trod_int (by rw [e9]; exact i64t_) h9
  obtain rfl : u9 = .int .i64 x9 := by simpa using r9
  have g9 := bounds_i64 b9
  obtain ⟨x10, r10, _, b10⟩ := DataW.trod_int (by rw [e10]; exact i64t) h10
  obtain rfl : u10 = .int .i64 x10 := by simpa using r10
  obtain ⟨x11, r11, _, b11⟩ := DataW.trod_int (by rw [e11]; exact i64t) h11
  obtain rfl : u11 = .int .i64 x11 := by simpa using r11
  obtain ⟨x12, r12, _, b12⟩ := DataW.trod_int (by rw [e12]; exact i64t) h12
  obtain rfl : u12 = .int .i64 x12 := by simpa using r12
  obtain ⟨x13, r13, _⟩ := DataW.trod_bool (by rw [e13]; exact boolt) h13
  obtain rfl : u13 = .bool x13 := by simpa using r13
  rw [e14] at h14
  obtain ⟨A, l, c, r14, hS, hlc, hcm⟩ := u8s_at u8s u8t c8 h14
  subst r14
  refine ⟨⟨x0, x1, x2, x3, x4, x5, x6, x7, x8, x9, x10, x11, x12, x13, l⟩, A, c, ?_, hS, hlc, hcm, ⟨by unfold inI; simp only; omega, by unfold inI; simp only; omega, by unfold inI; simp only; omega⟩⟩
  congr 1
  obtain ⟨L⟩ := cs
  simp only at hlen q0 q1 q2 q3 q4 q5 q6 q7 q8 q9 q10 q11 q12 q13 q14
  match L, hlen with
  | [v0, v1, v2, v3, v4, v5, v6, v7, v8, v9, v10, v11, v12, v13, v14], _ =>
    simp at q0 q1 q2 q3 q4 q5 q6 q7 q8 q9 q10 q11 q12 q13 q14
    subst q0 q1 q2 q3 q4 q5 q6 q7 q8 q9 q10 q11 q12 q13 q14
    rfl
end
end Go.Proofs.YtgjcbfdhpbkhoaaGreatDoor.IDoor
namespace Go.Proofs.YtgjcbfdhpbkhoaaGreatDoor.IPBack
open Go.ChangeShapes Go.WideShapes Go.ChangeAt Go.RowKit WMem WPlain WCrc RowEnd Args Door IDoor

set_option maxRecDepth 100000 in
theorem contract (H : Type) (enc : TypeId × Value → H) (W : World) (base : Nat) (args : Array Value) (ds gs : List (DataW H)) (before : List MemPlace)
    (hval : ∀ (j : Nat) t v, Tryz.f4.params[j]? = some t → args[j]? = some v → Value.okWide Tryz.prog W .any base t v)
    (hW : DataW.Whole enc Tryz.prog Tryz.f4.params.toList Rows.inodeBackSpec.vars false W args.toList ds gs before)
    (hsz : (DataW.weightsEach Tryz.prog (Tryz.f4.params.toList ++ []) (ds ++ gs)).all (· ≤ reachBytes) = true) (hL : laidMetH Tryz.prog laid1 W) :
    Calls Tryz.prog 4 args W fun e W' => ∃ v, e = .returned v ∧ Rows.inodeBackSpec.post enc Tryz.prog Tryz.f4 false true false false W args v W' := by
  have hW' := hW
  obtain ⟨p, q, hA0, hV, hbe, hfz, hnd⟩ := hW
  have hA : DataW.TrodAll enc Tryz.prog W 0 (fun _ => true) true Tryz.f4.params.toList args.toList ds p := hA0
  have hA1 := hA
  obtain ⟨rfl, rfl⟩ := trodVars_none hV
  rw [List.append_nil] at hbe hsz
  rw [Tryz.params4] at hA hval hsz
  obtain ⟨v0, vs0, d0, ds0, p0, q0, hargs, rfl, rfl, h0, r0⟩ := trodAll_cons hA
  obtain ⟨v1, vs1, d1, ds1, p1, q1, rfl, rfl, rfl, h1, r1⟩ := trodAll_cons r0
  obtain ⟨v2, vs2, d2, ds2, p2, q2, rfl, rfl, rfl, h2, r2⟩ := trodAll_cons r1
  obtain ⟨v3, vs3, d3, ds3, p3, q3, rfl, rfl, rfl, h3, r3⟩ := trodAll_cons r2
  obtain ⟨rfl, rfl, rfl⟩ := trodAll_nil r3
  obtain rfl : args = #[v0, v1, v2, v3] := by cases args; simp_all
  obtain ⟨rc1, A1, c1, rfl, s1, y1, m1, u1⟩ := arg_ino (hval 1 24 v1 rfl rfl) h1
  obtain ⟨x0, rfl, rfl, rfl, w0⟩ := open_int i64t (hval 0 3 v0 rfl rfl) h0
  have b0 := bounds_i64 w0
  obtain ⟨x2, rfl, rfl, rfl, w2⟩ := open_int i64t (hval 2 3 v2 rfl rfl) h2
  have b2 := bounds_i64 w2
  obtain ⟨x3, rfl, rfl, rfl, w3⟩ := open_int i64t (hval 3 3 v3 rfl rfl) h3
  have b3 := bounds_i64 w3
  refine (ILBack.back x0 rc1 _ rfl A1 c1 x2 x3 W u1 s1 (tab_of hL)).mono fun e W' ⟨he, hb⟩ => ?_
  subst he
  refine ⟨_, rfl, law_post laidOut (by kernel_rfl) rfl boolt rfl rfl rfl rfl hW' hA1 (fun x hx => hW'.lt x (by rw [hbe]; exact hx)) hb⟩

abbrev start : Array Value := #[.int .i64 0, .agg #[.int .i64 0, .int .i64 0, .int .i64 0, .int .i64 0, .int .i64 0, .int .i64 0, .int .i64 0, .int .i64 0, .int .i64 0, .int .i64 0, .int .i64 0, .int .i64 0, .int .i64 0, .bool false, .slice none 0 0], .int .i64 0, .int .i64 0]
theorem laid_met (os : Os) : laidMet Tryz.prog laid1 ((laidWorld os).forCall (fun _ _ => 0) ⟨#[], start, []⟩).memory :=
  laidMet_of_run' 8 (by kernel_rfl) (by kernel_rfl)
theorem reads (os : Os) {H : Type} (enc : TypeId × Value → H) : ∃ places, DataW.whole enc Tryz.prog ((laidWorld os).forCall (fun _ _ => 0) ⟨#[], start, []⟩).memory Tryz.f4.params.toList Rows.inodeBackSpec.vars false start.toList 8 = some ([.lit (.int .i64 0), .agg [.lit (.int .i64 0), .lit (.int .i64 0), .lit (.int .i64 0), .lit (.int .i64 0), .lit (.int .i64 0), .lit (.int .i64 0), .lit (.int .i64 0), .lit (.int .i64 0), .lit (.int .i64 0), .lit (.int .i64 0), .lit (.int .i64 0), .lit (.int .i64 0), .lit (.int .i64 0), .lit (.bool false), .nil], .lit (.int .i64 0), .lit (.int .i64 0)], [], places) :=
  ⟨[], by kernel_rfl⟩

set_option maxRecDepth 100000 in
theorem lifted (os : Os) (started : os.Started) (H : Type) (enc : TypeId × Value → H) (F : Stop.Interp) :
    ReturnsInHanded {} Tryz.checked os 4 .any ((OpenSpec.ofChange Rows.inodeBackSpec).preRow enc Tryz.prog Tryz.f4 Rows.inodeBackRow.domain false Rows.inodeBackRow.laid) (((OpenSpec.ofChange Rows.inodeBackSpec).at F).post enc Tryz.prog Tryz.f4 false true false false) := by
  obtain ⟨places, hx⟩ := reads os enc
  refine returnsInHanded_of_row (C := Tryz.checked) (s := (OpenSpec.ofChange Rows.inodeBackSpec)) own started (by kernel_rfl) Tryz.func4
    (witness_row_at (enc := enc) (C := Tryz.checked) false (laidWorld os) start rfl (by kernel_rfl) (by kernel_rfl) (by kernel_rfl)
      (OpenSpec.preRow_of_cond 8 hx (by kernel_rfl) (fun k hk => by cases hk) (by kernel_rfl) (laid_met os))) ?_
  intro W base args ds gs before hval hW _ _ hsz hL _ _
  exact contract H enc W base args ds gs before hval hW hsz hL

theorem k0 : (Rows.inodeBackRow.wf (OpenSpec.ofChange Rows.inodeBackSpec)) = true := by kernel_rfl
theorem k3 : (Tryz.f4.params.all (Tryz.prog.readableRec ·)) = true := by kernel_rfl
theorem k4 : (namedTie Tryz.prog Rows.inodeBackRow.named Rows.inodeBackSpec.vars) = true := by kernel_rfl
theorem k5 : ((Rows.inodeBackRow.stops == [])) = true := by kernel_rfl
theorem k7 : ((Rows.inodeBackRow.knobs == [])) = true := by kernel_rfl
theorem k9 : ((Rows.inodeBackRow.inPlace == Tryz.prog.inPlace 4)) = true := by kernel_rfl
theorem k10 : ((Rows.inodeBackRow.unfollowed == Tryz.prog.unfollowed 4)) = true := by kernel_rfl
theorem k11 : ((Rows.inodeBackRow.recurses == Tryz.prog.recurses 4)) = true := by kernel_rfl
theorem k12 : ((Rows.inodeBackRow.named == Tryz.prog.varsNamed 4)) = true := by kernel_rfl
theorem k13 : ((Rows.inodeBackRow.maps == (Tryz.f4.params.toList ++ Rows.inodeBackSpec.plain.varTypes Tryz.prog).any (Tryz.prog.mapsRec ·))) = true := by kernel_rfl
theorem k14 : ((Rows.inodeBackRow.ifaces == (Tryz.f4.params.toList ++ Rows.inodeBackSpec.plain.varTypes Tryz.prog).any (Tryz.prog.ifacesRec ·))) = true := by kernel_rfl
theorem k15 : ((Rows.inodeBackRow.mapsOut == Tryz.prog.mapsAmong Tryz.f4.resultTypes.toList)) = true := by kernel_rfl
theorem k16 : ((Rows.inodeBackRow.loops == (Tryz.f4.params.toList ++ Rows.inodeBackSpec.plain.varTypes Tryz.prog).any (Tryz.prog.loopsFrom ·))) = true := by kernel_rfl
theorem k17 : ((Rows.inodeBackRow.wideKeys == (Tryz.f4.params.toList ++ Rows.inodeBackSpec.plain.varTypes Tryz.prog ++ Tryz.f4.resultTypes.toList).any (Tryz.prog.wideKeysFrom ·))) = true := by kernel_rfl
theorem k18 : (Rows.inodeBackSpec.vars.all (Tryz.prog.varReadable ·)) = true := by kernel_rfl
theorem k19 : (Tryz.f4.resultTypes.all (fun t => Tryz.prog.readableRec t && decide (t < Tryz.prog.types.size))) = true := by kernel_rfl
theorem k20 : ((Rows.inodeBackRow.ifacesOut == Tryz.f4.resultTypes.toList.any (Tryz.prog.ifacesRec ·))) = true := by kernel_rfl
theorem k21 : ((Rows.inodeBackRow.loopsOut == Tryz.f4.resultTypes.toList.any (Tryz.prog.loopsFrom ·))) = true := by kernel_rfl
theorem k22 : ((Rows.inodeBackRow.plainKeys == Tryz.prog.plainKeys)) = true := by rw [show Rows.inodeBackRow.plainKeys = Rows.inodeOnlyRow.plainKeys by kernel_rfl]; exact IShut.keys
theorem k23 : (Rows.inodeBackRow.shortTexts.isNone) = true := by kernel_rfl
theorem k26 : ((Rows.inodeBackRow.lifted == Tryz.prog.liftsFinal)) = true := by rw [show Rows.inodeBackRow.lifted = Rows.inodeOnlyRow.lifted by kernel_rfl]; exact IShut.lifts
theorem k27 : ((Tryz.prog.make == some Rows.inodeBackRow.make)) = true := by rw [show Rows.inodeBackRow.make = Rows.inodeOnlyRow.make by kernel_rfl]; exact IShut.makes
theorem k29 : ((Rows.inodeBackRow.pinned == Rows.inodeBackRow.pinnedBy)) = true := by kernel_rfl
theorem k30 : ((Rows.inodeBackRow.veiled == (Tryz.f4.params.toList ++ Rows.inodeBackSpec.plain.varTypes Tryz.prog ++ Tryz.f4.resultTypes.toList).any (Tryz.prog.veiledRec ·))) = true := by kernel_rfl
theorem k31 : (Rows.inodeBackRow.veiledFits Tryz.prog Tryz.f4.params.toList (Tryz.f4.params.toList ++ Rows.inodeBackSpec.plain.varTypes Tryz.prog ++ Tryz.f4.resultTypes.toList)) = true := by kernel_rfl
set_option maxRecDepth 100000 in
theorem closed : joinedFacts Tryz.prog 4 Tryz.f4 Rows.inodeBackSpec Rows.inodeBackRow = true := by
  unfold joinedFacts
  rw [k0, laidOut, IShut.rowed, k3, k4, k5, IShut.stops, k7, IShut.knobs, k9, k10, k11, k12, k13, k14, k15, k16, k17, k18, k19, k20, k21, k22, k23, IShut.heard, IShut.enter, k26, k27, k29, k30, k31]
  kernel_rfl
set_option maxRecDepth 100000 in
theorem said : Rows.InodeBackSaid :=
  OpenClaim.holds_of_cond 4 Tryz.f4 rfl rfl rfl rfl rfl rfl rfl ⟨rfl, rfl, rfl, rfl, rfl⟩ rfl rfl rfl rfl rfl (by kernel_rfl) Tryz.func4 closed
    (of_decide_eq_true (by kernel_rfl)) (by unfold Func.isWrapper; first | (rw [if_pos (by decide +kernel)]; kernel_rfl) | (rw [if_neg (by decide +kernel)]; exact ⟨rfl, rfl⟩))
    (fun os started H enc _ F => by rw [OpenClaim.pre_eq_preRow]; exact lifted os started H enc F)

theorem plain (f : FuncId) (fn : Func) (hf : Tryz.pinned.checked.prog.funcNamed "hayrick/hayricklaw12.InodeBack" = some f) (hfn : Tryz.pinned.checked.prog.funcs[f]? = some fn) :
    true = Tryz.pinned.checked.prog.looks [] ∧ ∀ (j : Nat) t, fn.params[j]? = some t → Tryz.pinned.checked.prog.wantsStandIn t = false := by
  obtain rfl : f = 4 := Option.some.inj ((show Tryz.prog.funcNamed "hayrick/hayricklaw12.InodeBack" = some 4 by kernel_rfl).symm.trans hf) |>.symm
  obtain rfl : fn = Tryz.f4 := (Option.some.inj (Tryz.func4.symm.trans hfn)).symm
  refine ⟨by kernel_rfl, fun j t ht => ?_⟩
  have hall : (Tryz.f4.params.toList.all fun u => !Tryz.prog.wantsStandIn u) = true := by kernel_rfl
  have := List.all_eq_true.1 hall t (Array.mem_toList_iff.2 (Array.mem_of_getElem? ht))
  exact (show Tryz.prog.wantsStandIn t = false by simpa using this)

theorem card : Rows.InodeBackCardSaid :=
  Claim7.holds_tied_plain_at .later [] _ _ _ _ said (fun _ h => by cases h) (by kernel_rfl) (fun _ h => by cases h) inodeBack_row_tie rfl ⟨rfl, rfl⟩ (by kernel_rfl) rfl plain (by kernel_rfl)
#print axioms card
end Go.Proofs.YtgjcbfdhpbkhoaaGreatDoor.IPBack
