/- The program's table: a key's row as a slice. -/
import Derived.Test.YtfaahhipddlmgaaKFind
import Derived.Maps.AppendAt
import Derived.Deep.AppendLies
import Derived.Deep.DeepMust
namespace Go.Proofs.Ytfaahhipddlmgaa.KClaims
open Go.RowKit Go.Shelf WMem Ext KMap KPlain KMem KSeq KFind

attribute [local go_sem] Oper.semAt_some

/-- the cells of the claims that are told at these places -/
def tcells (l : List Cl) (ys : List Nat) : List Value := ys.flatMap fun i => [.int .i64 (at_ l i).1, .bool (at_ l i).2, .bool (holdsAt l i)]
theorem tcells_snoc (l : List Cl) (ys : List Nat) (x : Nat) : tcells l (ys ++ [x]) = tcells l ys ++ [.int .i64 (at_ l x).1, .bool (at_ l x).2, .bool (holdsAt l x)] := by simp [tcells]

/-- the blocks that Claims lays ahead of its loop -/
def lay3 (w : World) (tv : Option Addr) (key : Int) : World :=
  ((w.alloc (.cells #[.slice none 0 0] 36)).alloc (.cells #[.pointer tv] 24)).alloc (.cells #[.int .i64 key] 3)
theorem lay3_is (w : World) (tv : Option Addr) (key : Int) : (lay3 w tv key).heap.size = w.heap.size + 3 ∧ Below w.heap.size w (lay3 w tv key) ∧
    (lay3 w tv key).heap[w.heap.size]? = some (.cells #[.slice none 0 0] 36 (0, 0)) ∧ (lay3 w tv key).cell? ⟨w.heap.size + 1, 0, none⟩ = some (.pointer tv) ∧ (lay3 w tv key).cell? ⟨w.heap.size + 2, 0, none⟩ = some (.int .i64 key) := by
  unfold lay3
  have h0 := row_new w (.cells #[.slice none 0 0] 36)
  have h1 := row_new (w.alloc (.cells #[.slice none 0 0] 36)) (.cells #[.pointer tv] 24)
  have h2 := row_new ((w.alloc (.cells #[.slice none 0 0] 36)).alloc (.cells #[.pointer tv] 24)) (.cells #[.int .i64 key] 3)
  simp only [World.size_alloc, Nat.add_assoc, Nat.reduceAdd] at h1 h2
  refine ⟨by simp, (((Below.refl _ _).alloc (Nat.le_refl _) _).alloc (by simp) _).alloc (by simp; omega) _, row_alloc (row_alloc h0 _) _, ?_, ?_⟩
  · rw [row_cell (row_alloc h1 _)]; rfl
  · rw [row_cell h2]; rfl

/-- what a round of Claims leaves -/
def CI (w : World) (l : List Cl) (pre : List Nat) (W : World) : Prop :=
  (w.heap.size + 3 ≤ W.heap.size ∧ ∃ v, W.heap[w.heap.size]? = some (.cells #[v] 36 (0, 0)) ∧ W.ownsRow w.heap.size 39 3 v pre.length (tcells l pre)) ∧ Below w.heap.size w W
def CA (w : World) (l : List Cl) (tv : Option Addr) (key : Int) (x : Nat) (a' : Act) (W : World) : Prop :=
  ∃ Bx, W.heap[Bx]? = some (.cells #[.int .i64 (at_ l x).1, .bool (at_ l x).2, .bool (holdsAt l x)] 39 (0, 0)) ∧ w.heap.size + 3 ≤ Bx ∧
    a' = { tmps := #[.pointer tv, .int .i64 key, undef, undef, .slice none 0 0, .pointer (some ⟨w.heap.size, 0, none⟩), undef, .pointer (some ⟨Bx, 0, none⟩), .pointer tv, .int .i64 key,
      .func (.func 28) #[] #[.pointer (some ⟨w.heap.size + 1, 0, none⟩), .pointer (some ⟨w.heap.size + 2, 0, none⟩)], .int .i64 (x : Int), .agg #[.int .i64 (at_ l x).1, .bool (at_ l x).2, .bool (holdsAt l x)], undef, undef, undef, undef, undef], defers := [] }

theorem infoC : (Try.prog.info? 39).map (fun i => (i.zero, i.size, i.bytes)) = some (some (.agg #[.int .i64 0, .bool false, .bool false]), 3, 16) := by kernel_rfl
theorem underC : Try.prog.underlying 36 = some (.slice 39) := by kernel_rfl

set_option maxRecDepth 100000 in
set_option maxHeartbeats 2000000 in
theorem claims_in (tv : Option Addr) (key : Int) (l : List Cl) (w : World) (hs : Src w tv key l) (hl : l.length ≤ 1073741824) :
    CallsIn Fence.wide 5 Try.prog 18 #[.pointer tv, .int .i64 key] w fun e w' => ∃ v, e = .returned v ∧ w'.ownsRow w.heap.size 39 3 v l.length (tcells l (List.range l.length)) ∧ Below w.heap.size w w' := by
  obtain ⟨hsz, hbl, q0, q3, q4⟩ := lay3_is w tv key
  obtain ⟨i0, hi0, hz0, hz1, hz2⟩ := info_parts infoC
  have HST := Lib.hid (row_stops 4 (by omega) (w.heap.size + 1) (w.heap.size + 2) tv key l w (lay3 w tv key) hbl hs (by omega) (by omega) q3 q4)
  have H0 : Hid (CI w l [] (lay3 w tv key)) := ⟨⟨by omega, _, q0, World.ownsRow_nil _ _ _ _⟩, hbl⟩
  have HSZ := Lib.hid hsz
  clear hs hsz hbl q0 q3 q4
  refine callsIn_of_wp_marks Try.func18 rfl trivial ?_ rfl
  simp only [Try.ntmps18, List.size_toArray, List.length_cons, List.length_nil, Nat.reduceAdd, Nat.reduceSub, Array.replicate_succ, Array.replicate_zero, List.push_toArray, List.append_toArray, List.nil_append, List.cons_append]
  gi_wp2_with (refine ⟨trivial, ?_⟩; gi_at_call 27; refine (row_in _ _ _ _).mono ?_; rintro e w' ⟨rfl, rfl⟩)
  simp only [Nat.add_assoc, Nat.reduceAdd]
  rw [show ((w.alloc (.cells #[.slice none 0 0] 36)).alloc (.cells #[.pointer tv] 24)).alloc (.cells #[.int .i64 key] 3) = lay3 w tv key from rfl]
  generalize hW0 : lay3 w tv key = W0 at *
  have hsz := HSZ.out
  refine wpIn_rangeFunc_ownH rfl (by omega) (gf := 28) (lb := #[.pointer (some ⟨w.heap.size + 1, 0, none⟩), .pointer (some ⟨w.heap.size + 2, 0, none⟩)]) rfl trivial (enters_of Try.func28 (by kernel_rfl) rfl)
    HST.out belowK_t (belowK_b (by omega)) (Below.refl _ _) (fun _ => rfl) (CI w l) (fun _ _ _ => False) ?hI ?hIx H0.out (CA w l tv key) ?hAx ?assign ?body ?done ?stop
  case hI =>
    refine OwnFrom.and (Own.from (fun s A B row hs hg hr => ?_) _) (ownFrom_below (Nat.le_refl _) (by omega))
    obtain ⟨h1, v, h2, h3⟩ := hs
    refine ⟨Nat.le_trans h1 hg.size, v, cells_own h2 hg hr, h3.kept hg ?_⟩
    rcases h3.2 with ⟨rfl, _⟩ | ⟨g, cap, cur, rfl, _, hgb, _⟩
    · exact .inl rfl
    · refine .inr fun e' => ?_
      obtain ⟨o, ho, hc⟩ := hr g (by simpa [Value.ownBlock] using e'.symm)
      rw [hgb] at ho; cases ho; cases hc
  case hIx => intro c; exact fun _ _ _ _ hs _ _ => hs
  case hAx =>
    intro x a'
    refine Own.from (fun s A B row hs hg hr => ?_) _
    obtain ⟨Bx, e1, e2, e3⟩ := hs
    exact ⟨Bx, cells_own e1 hg hr, e2, e3⟩
  case assign =>
    intro lo pre x W K hi hK
    simp only [args, told]
    gi_wp2
    have hn := row_new W (.cells #[.int .i64 (at_ l x).1, .bool (at_ l x).2, .bool (holdsAt l x)] 39)
    obtain ⟨⟨hsW, v, b0, ho⟩, hB⟩ := hi
    exact hK _ _ ((KeepsOthers.alloc _ _).from _) ((Below.refl _ W).alloc hB.size _) ⟨⟨by simp; omega, v, row_alloc b0 _, ho.alloc _⟩, hB.alloc hB.size _⟩ ⟨W.heap.size, hn, hsW, rfl⟩
  case body =>
    rintro lo pre x a' W hlo - ⟨⟨hsW, v, b0, ho⟩, hB⟩ ⟨Bx, bX, hBx, rfl⟩ hlt
    have x0 : W.cell? ⟨Bx, 0, none⟩ = some (.int .i64 (at_ l x).1) := by rw [row_cell bX]; rfl
    have x1 : W.cell? ⟨Bx, 1, none⟩ = some (.bool (at_ l x).2) := by rw [row_cell bX]; rfl
    have x2 : W.cell? ⟨Bx, 2, none⟩ = some (.bool (holdsAt l x)) := by rw [row_cell bX]; rfl
    have y0 : W.cell? ⟨w.heap.size, 0, none⟩ = some v := by rw [row_cell b0]; rfl
    have f0 : W.frozen? ⟨w.heap.size, 0, none⟩ = false := row_free b0 0
    have HO := Lib.hid ho
    have HB0 := Lib.hid b0
    have HBB := Lib.hid hB
    have HSW := Lib.hid hsW
    have hbs := hB.size
    have hpl := hlt
    clear ho b0 bX hB
    gi_wp2_with (gi_at_builtin; go_must (refine wpListIn_append_own _ rfl _ _ 36 rfl w.heap.size 39 i0 _ 3 16 underC hi0 hz0 hz1 hz2 rfl (by decide) _ _ _ rfl (HO.out.alloc _) ⟨W.heap.size, 0, none⟩ 1 1 [.int .i64 (at_ l x).1, .bool (at_ l x).2, .bool (holdsAt l x)] rfl rfl (World.news_of_block (cs := #[.int .i64 (at_ l x).1, .bool (at_ l x).2, .bool (holdsAt l x)]) (t := 39) (fr := (0, 0)) (row_new _ _)) (by simp [Value.oneCell']) (by unfold maxLen; omega) (by omega) (by simp; omega) ?_; intro v' w1 hown' hgrow _; obtain ⟨g', cap', rfl⟩ := ownsRow_succ hown'; have hnb := own_ne HO.out HB0.out (by decide); have HB1 := Lib.hid ((hgrow.block w.heap.size (by simp; omega) (Ne.symm hnb)).trans (row_alloc HB0.out _)); have y1 : w1.cell? ⟨w.heap.size, 0, none⟩ = some v := (row_cell HB1.out 0).trans rfl; have f1 : w1.frozen? ⟨w.heap.size, 0, none⟩ = false := row_free HB1.out 0; have HO1 := Lib.hid hown'; have HG1 := Lib.hid hgrow; clear hown' hgrow hnb))
    obtain ⟨_, q2, q3, q4, q5⟩ := Boxed.appended (v := v) HB0.out (by decide) HO.out hbs (Nat.le_refl _) HO1.out HG1.out
    exact ⟨q4.from _, q5, ⟨Nat.le_trans hsW q5.size, _, q2, by rw [tcells_snoc, List.length_append]; exact q3⟩, HBB.out.trans q5⟩
  case done =>
    rintro D ys W hD rfl ⟨⟨hsW, v, b0, ho⟩, hB⟩ hK
    have y0 : W.cell? ⟨w.heap.size, 0, none⟩ = some v := by rw [row_cell b0]; rfl
    have HO := Lib.hid ho
    clear ho b0
    gi_wp2
    refine ⟨by simp, .inl ⟨_, _, rfl, run_takeDeferred hK, ?_⟩⟩
    have ho' := ownsRow_putObj HO.out (.deferred none) hK rfl
    rw [List.length_range] at ho'
    exact ⟨_, results_tmp rfl _ _ _, v, rfl, ho', hB.trans (belowK_b (w := w) (Nat.le_refl _) W D _ _ (by omega) hK rfl rfl)⟩
  case stop =>
    rintro D c pre W _ _ h _
    exact h.elim
theorem claims_any (tv : Option Addr) (key : Int) (l : List Cl) (w : World) (hs : Src w tv key l) (hl : l.length ≤ 1073741824) :
    Calls Try.prog 18 #[.pointer tv, .int .i64 key] w fun e w' => ∃ v, e = .returned v ∧ w'.ownsRow w.heap.size 39 3 v l.length (tcells l (List.range l.length)) ∧ Below w.heap.size w w' :=
  callsIn_wide.1 (claims_in tv key l w hs hl)
end Go.Proofs.Ytfaahhipddlmgaa.KClaims
