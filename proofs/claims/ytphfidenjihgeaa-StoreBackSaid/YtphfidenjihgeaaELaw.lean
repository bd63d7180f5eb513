/- What the laws of the store share. -/
import Derived.Test.YtphfidenjihgeaaEAwake
import Derived.Test.YtphfidenjihgeaaEScript
import Derived.Test.YtphfidenjihgeaaEBits
import Derived.KernelRfl
namespace Go.Proofs.Ytphfidenjihgeaa.ELaw
open DPlain hiding OpV
open Go.RowKit WMem WPlain WAppend Ext Map DMem Mk DBase DRead DWrite EPlain EMem ECache EFace EUnwrite EPush EWrite EHold ERead EHome EWrites ECommit EBack EFill EAny EFix EAwM EAwake EScript

section
variable {a w w' : World} {ρ ρ' : Ro} {D D' : Nat → Prop} {b db : Nat} {s s' : Sto}
theorem l_store {S : Nat → Prop} {d : St} (hd : DD w S db d) (hl : d.L.length = 128) : Calls Try.prog 24 #[.pointer (some ⟨db, 0, none⟩), .int .i64 4, .int .i64 8] w fun e w' => ∃ b ρ, e = .returned (.tuple #[.pointer (some ⟨b, 0, none⟩), .int .i64 0]) ∧ SS w' ρ b db (fresh d 4 8) ∧ (∀ k, Mine ρ k → w.heap.size ≤ k) ∧ Below w.heap.size w w' :=
  ENew.New_yes db 4 8 d w hd.c0 (by decide) (by decide) (by decide) (by decide) (by omega) (by omega)
theorem l_write (h : Live a w ρ D b db s) (n : Int) (g : Nat) (l : Bk) (hv : IsBlk w (fun q => q = g) (.slice (some ⟨g, 0, none⟩) 256 256) l) (hg : ¬ Mine ρ g) (hgl : g < w.heap.size) (hload : s.load ≤ 1073741824) :
    Calls Try.prog 12 #[.pointer (some ⟨b, 0, none⟩), .int .i64 n, .slice (some ⟨g, 0, none⟩) 256 256] w fun e w' => e = .returned (.int .i64 (eio (inN s n))) ∧ ∃ ρ' D', Goes w w' ρ D ρ' D' b db (writeI s n l) :=
  write_go h.own n hv (fun q hq => by subst hq; exact hgl) (fun q h1 h2 => by subst h2; exact hg h1) hload
theorem l_write_yes (h : Live a w ρ D b db s) (n : Int) (hq : inN s n = true) (g : Nat) (l : Bk) (hv : IsBlk w (fun q => q = g) (.slice (some ⟨g, 0, none⟩) 256 256) l) (hg : ¬ Mine ρ g) (hgl : g < w.heap.size) (hload : s.load ≤ 1073741824) :
    Calls Try.prog 12 #[.pointer (some ⟨b, 0, none⟩), .int .i64 n, .slice (some ⟨g, 0, none⟩) 256 256] w fun e w' => e = .returned (.int .i64 0) ∧ ∃ ρ' D', Goes w w' ρ D ρ' D' b db (s.write n.toNat l) := by
  have h1 := l_write h n g l hv hg hgl hload
  rw [hq] at h1
  have e : writeI s n l = s.write n.toNat l := by unfold writeI; rw [hq]; rfl
  rw [e] at h1
  exact h1
theorem l_write_no (h : Live a w ρ D b db s) (n : Int) (hq : inN s n = false) (v : Value) :
    Calls Try.prog 12 #[.pointer (some ⟨b, 0, none⟩), .int .i64 n, v] w fun e w' => e = .returned (.int .i64 5) ∧ w = w' :=
  SWrite_out _ n v w (hasn_own h.own (inN_no hq))
theorem writeI_yes {s : Sto} {n : Int} {l : Bk} (h : inN s n = true) : writeI s n l = s.write n.toNat l := by unfold writeI; rw [h]; rfl
theorem writeI_no {s : Sto} {n : Int} {l : Bk} (h : inN s n = false) : writeI s n l = s := by unfold writeI; rw [h]; rfl
end

/-! ### what is changed, number by number -/
theorem nums_succ (f : Nat → Option Bk) (n : Nat) : numsOf f (n + 1) = numsOf f n ++ if (f n).isSome then [n] else [] := by
  unfold numsOf
  rw [List.range_succ, List.filter_append]
  congr 1
  simp only [List.filter_cons, List.filter_nil]
theorem nums_le (f : Nat → Option Bk) {n m : Nat} (h : n ≤ m) : ∃ r, numsOf f m = numsOf f n ++ r := by
  induction m with
  | zero => exact ⟨[], by obtain rfl : n = 0 := by omega
                          simp⟩
  | succ m ih =>
    rcases Nat.lt_or_ge n (m + 1) with h1 | h1
    · obtain ⟨r, hr⟩ := ih (by omega)
      exact ⟨r ++ (if (f m).isSome then [m] else []), by rw [nums_succ, hr, List.append_assoc]⟩
    · obtain rfl : n = m + 1 := by omega
      exact ⟨[], by simp⟩
/-- how many are changed below a number -/
def cnt (f : Nat → Option Bk) (n : Nat) : Nat := (numsOf f n).length
theorem cnt_zero (f : Nat → Option Bk) : cnt f 0 = 0 := rfl
theorem cnt_no {f : Nat → Option Bk} {n : Nat} (h : f n = none) : cnt f (n + 1) = cnt f n := by unfold cnt; rw [nums_succ, h]; simp
theorem cnt_yes {f : Nat → Option Bk} {n : Nat} {l : Bk} (h : f n = some l) : cnt f (n + 1) = cnt f n + 1 := by unfold cnt; rw [nums_succ, h]; simp
theorem cnt_le (f : Nat → Option Bk) (n : Nat) : cnt f n ≤ n := by
  induction n with
  | zero => exact Nat.le_refl _
  | succ n ih =>
    cases h : f n with
    | none => rw [cnt_no h]; omega
    | some l => rw [cnt_yes h]; omega
theorem wrs_cnt (f : Nat → Option Bk) (N : Nat) : (wrs f N).length = cnt f N := wrs_len f N
/-- the write that stands there -/
theorem wrs_yes {f : Nat → Option Bk} {n N : Nat} {l : Bk} (h : f n = some l) (hn : n < N) : ∃ h' : cnt f n < (wrs f N).length, (wrs f N)[cnt f n] = (n, l) := by
  obtain ⟨r, hr⟩ := nums_le f (show n + 1 ≤ N from hn)
  rw [nums_succ, h, Option.isSome_some, if_pos rfl] at hr
  have hlt : cnt f n < (numsOf f N).length := by rw [hr]; unfold cnt; simp
  obtain ⟨h1, h2⟩ := wrs_at f N (cnt f n) hlt
  refine ⟨h1, ?_⟩
  rw [h2]
  have e : (numsOf f N)[cnt f n] = n := by
    simp only [hr]
    unfold cnt
    simp
  rw [e, h, Option.getD_some]

/-! ### a row of slices of the law's own: nothing, or bytes of its own -/
structure Lst (w : World) (ρ : Ro) (D : Nat → Prop) (gl : Nat) (f : Nat → Option Bk) : Prop where
  ex : ∃ vs : List Value, vs.length = 128 ∧ RowV w gl 34 vs ∧ ∀ n v, vs[n]? = some v → (f n = none → v = .slice none 0 0) ∧ ∀ l, f n = some l → IsBlk w (fun q => (¬ All ρ D q ∧ q < w.heap.size) ∧ q ≠ gl) v l
  far : ¬ All ρ D gl
section
variable {w w' : World} {ρ ρ' : Ro} {D D' : Nat → Prop} {b db gl : Nat} {s' : Sto} {f : Nat → Option Bk}
theorem Lst.lt (h : Lst w ρ D gl f) : gl < w.heap.size := by
  obtain ⟨vs, _, h2, _⟩ := h.ex
  exact row_lt h2
theorem Lst.goes (h : Lst w ρ D gl f) (g : Goes w w' ρ D ρ' D' b db s') : Lst w' ρ' D' gl f := by
  have hlt := h.lt
  have hf : ∀ q, ¬ All ρ D q → q < w.heap.size → w'.heap[q]? = w.heap[q]? ∧ ¬ All ρ' D' q := fun q h1 h2 => ⟨g.ext.block q h2 h1, fun h3 => by
    rcases g.new q h3 with h4 | h4
    · exact h1 h4
    · omega⟩
  obtain ⟨vs, h1, h2, h3⟩ := h.ex
  refine ⟨⟨vs, h1, (hf gl h.far hlt).1.trans h2, fun n v hv => ⟨(h3 n v hv).1, fun l hl => ?_⟩⟩, (hf gl h.far hlt).2⟩
  exact (((h3 n v hv).2 l hl).keep (fun k o hk _ => (hf k hk.1.1 hk.1.2).1)).more fun q hq => ⟨⟨(hf q hq.1.1 hq.1.2).2, Nat.lt_of_lt_of_le hq.1.2 g.ext.size⟩, hq.2⟩
theorem Lst.below (h : Lst w ρ D gl f) (hb : Below w.heap.size w w') : Lst w' ρ D gl f := by
  have hlt := h.lt
  obtain ⟨vs, h1, h2, h3⟩ := h.ex
  refine ⟨⟨vs, h1, (hb.block gl hlt).trans h2, fun n v hv => ⟨(h3 n v hv).1, fun l hl => ?_⟩⟩, h.far⟩
  exact (((h3 n v hv).2 l hl).keep (fun k o hk _ => hb.block k hk.1.2)).more fun q hq => ⟨⟨hq.1.1, Nat.lt_of_lt_of_le hq.1.2 hb.size⟩, hq.2⟩
theorem Lst.at (h : Lst w ρ D gl f) {n : Nat} (hn : n < 128) : ∃ v, w.cell? ⟨gl, n, none⟩ = some v ∧ (f n = none → v = .slice none 0 0) ∧ ∀ l, f n = some l → IsBlk w (fun q => (¬ All ρ D q ∧ q < w.heap.size) ∧ q ≠ gl) v l := by
  obtain ⟨vs, h1, h2, h3⟩ := h.ex
  have hv : vs[n]? = some (vs[n]'(by omega)) := List.getElem?_eq_getElem (by omega)
  exact ⟨_, (row_cell h2 n).trans (by simp), h3 n _ hv⟩
theorem Lst.free (h : Lst w ρ D gl f) (n : Nat) : w.frozen? ⟨gl, n, none⟩ = false := by
  obtain ⟨vs, h1, h2, h3⟩ := h.ex
  exact row_free h2 n
theorem Lst.set (h : Lst w ρ D gl f) {n : Nat} {v : Value} {f' : Nat → Option Bk} (hn : n < 128) (hf : ∀ m, m ≠ n → f' m = f m) (h0 : f' n = none → v = .slice none 0 0)
    (h1 : ∀ l, f' n = some l → IsBlk w (fun q => (¬ All ρ D q ∧ q < w.heap.size) ∧ q ≠ gl) v l) : Lst (w.setCell ⟨gl, n, none⟩ v) ρ D gl f' := by
  have hlt := h.lt
  have hsz : (w.setCell ⟨gl, n, none⟩ v).heap.size = w.heap.size := by simp
  have hk : ∀ (u : Value) l, IsBlk w (fun q => (¬ All ρ D q ∧ q < w.heap.size) ∧ q ≠ gl) u l → IsBlk (w.setCell ⟨gl, n, none⟩ v) (fun q => (¬ All ρ D q ∧ q < (w.setCell ⟨gl, n, none⟩ v).heap.size) ∧ q ≠ gl) u l := fun u l hu => by
    rw [hsz]
    exact hu.keep (fun k o hk _ => Below.heap_setCell _ _ _ _ hk.2)
  obtain ⟨vs, g1, g2, g3⟩ := h.ex
  refine ⟨⟨vs.set n v, by simpa using g1, g2.set n v, fun m u hu => ?_⟩, h.far⟩
  · rw [List.getElem?_set] at hu
    by_cases e : n = m
    · subst e
      rw [if_pos rfl, if_pos (by omega)] at hu
      injection hu with hu
      subst hu
      exact ⟨h0, fun l hl => hk _ _ (h1 l hl)⟩
    · rw [if_neg e] at hu
      obtain ⟨q1, q2⟩ := g3 m u hu
      rw [hf m (fun e2 => e e2.symm)]
      exact ⟨q1, fun l hl => hk _ _ (q2 l hl)⟩
end
theorem Lst.congr {w : World} {ρ : Ro} {D : Nat → Prop} {gl : Nat} {f f' : Nat → Option Bk} (h : Lst w ρ D gl f) (hf : ∀ n, n < 128 → f' n = f n) : Lst w ρ D gl f' := by
  obtain ⟨vs, h1, h2, h3⟩ := h.ex
  refine ⟨⟨vs, h1, h2, fun n v hv => ?_⟩, h.far⟩
  have hn : n < 128 := by have := (List.getElem?_eq_some_iff.1 hv).1; omega
  rw [hf n hn]
  exact h3 n v hv
theorem nums_none (N : Nat) : numsOf (fun _ => none) N = [] := by
  unfold numsOf
  rw [List.filter_eq_nil_iff]
  intro x _
  simp
/-- the writes that a call answered: write k -/
theorem got_at {w w' : World} {P : List (Nat × Bk)} {A : Option Addr} {m cap : Nat} {ys : List Value} (h : Got w w' P (.slice A m cap) ys) {k : Nat} {p : Nat × Bk} (hp : P[k]? = some p) : ∃ g u, A = some ⟨g, 0, none⟩ ∧ w.heap.size ≤ g ∧ g < w'.heap.size ∧ w'.cell? ⟨g, k * 2, none⟩ = some (.int .i64 (p.1 : Int)) ∧ w'.cell? ⟨g, k * 2 + 1, none⟩ = some u ∧ IsBlk w' (fun q => w.heap.size ≤ q ∧ q < w'.heap.size) u p.2 := by
  obtain ⟨hk, hp⟩ := List.getElem?_eq_some_iff.1 hp
  obtain ⟨A', cap', e, hcap, hall⟩ := P_at (S := fun q => w.heap.size ≤ q ∧ q < w'.heap.size) ⟨own_base h.own (fun _ _ => Nat.zero_le _), fun q hq => ⟨own_ge h.own q hq, own_lt h.own q hq⟩⟩ h.each
  injection e with e1 e2 e3
  subst e1
  obtain ⟨g, u, h1, h2, h3, h4, h5⟩ := hall k hk
  rw [hp] at h3 h5
  exact ⟨g, u, h1, h2.1, h2.2, h3, h4, h5⟩
theorem wrs_get {f : Nat → Option Bk} {n N : Nat} {l : Bk} (h : f n = some l) (hn : n < N) : (wrs f N)[cnt f n]? = some (n, l) := by
  obtain ⟨h1, h2⟩ := wrs_yes h hn
  rw [List.getElem?_eq_getElem h1, h2]
theorem cnt_lt {f : Nat → Option Bk} {n N : Nat} {l : Bk} (h : f n = some l) (hn : n < N) : cnt f n < cnt f N := by
  obtain ⟨h1, h2⟩ := wrs_yes h hn
  rw [wrs_cnt] at h1
  exact h1
theorem got_len {w w' : World} {P : List (Nat × Bk)} {v : Value} {ys : List Value} (h : Got w w' P v ys) : ∃ A cap, v = .slice A P.length cap := h.form
theorem l_changed {a w : World} {ρ : Ro} {D : Nat → Prop} {b db : Nat} {s : Sto} (h : Live a w ρ D b db s) (h0 : s.now.chg = fun _ => none) : Calls Try.prog 19 #[.pointer (some ⟨b, 0, none⟩)] w fun e w' =>
    ∃ A c, e = .returned (.slice A 0 c) ∧ Below w.heap.size w w' := by
  refine (Changed_own h.own).mono ?_
  rintro e w' ⟨v, rfl, ho, hb⟩
  rw [h0, nums_none] at ho
  obtain ⟨A, c, rfl, -, -⟩ := own_cell1 (S := fun _ => True) ⟨own_base ho (fun _ _ => Nat.zero_le _), fun _ _ => trivial⟩
  exact ⟨A, c, rfl, hb⟩
theorem l_mark {a w : World} {ρ : Ro} {D : Nat → Prop} {b db : Nat} {s : Sto} (h : Live a w ρ D b db s) (m : Int) (hm : (s.acts.length : Int) = m) (hl : s.acts.length ≤ 1073741824) :
    Calls Try.prog 18 #[.pointer (some ⟨b, 0, none⟩)] w fun e w' => e = .returned (.int .i64 m) ∧ w = w' := by
  subst hm
  exact Mark_own h.own hl
/-- operation k as the law's own copy has it -/
structure Cop (w : World) (g : Nat) (o : OpV) : Prop where
  c0 : w.cell? ⟨g, 0, none⟩ = some (.int .i64 o.what)
  c1 : w.cell? ⟨g, 1, none⟩ = some (.int .i64 o.block)
  c2 : w.cell? ⟨g, 2, none⟩ = some (.int .i64 o.fill)
theorem cop_new (w : World) (o : OpV) {T : TypeId} : Cop (w.alloc (.cells #[.int .i64 o.what, .int .i64 o.block, .int .i64 o.fill] T)) w.heap.size o :=
  ⟨(row_cell (row_new w _) 0).trans rfl, (row_cell (row_new w _) 1).trans rfl, (row_cell (row_new w _) 2).trans rfl⟩
theorem Cop.fix {S : Nat → Prop} {w0 w : World} {ρ : Ro} {D : Nat → Prop} {g : Nat} {o : OpV} (h : Cop w0 g o) (hf : Fix S w0 w ρ D) (hg : S g) : Cop w g o :=
  ⟨(hf.cell ⟨g, 0, none⟩ hg).trans h.c0, (hf.cell ⟨g, 1, none⟩ hg).trans h.c1, (hf.cell ⟨g, 2, none⟩ hg).trans h.c2⟩
/-- it begins with nothing -/
def nrow : Array Value := (List.replicate 128 (Value.slice none 0 0)).toArray
theorem make_lst (w : World) : (Instr.makeSlice 59 (.int .i64 128) (.int .i64 128)).run Try.prog w = .ok (.slice (some ⟨w.heap.size, 0, none⟩) 128 128) (w.alloc (.cells nrow 34)) := by
  obtain ⟨i, h1, h2, h3, h4⟩ := info_parts (P := Try.prog) (e := 34) (z := .slice none 0 0) (size := 1) (bytes := 24) (by kernel_rfl)
  have h := run_make (P := Try.prog) w 59 34 i (.slice none 0 0) (by kernel_rfl) h1 h2 .i64 .i64 128 128 (by omega) (by omega) (by rw [h4]; omega) (by omega)
  rw [h]
  simp only [h3]
  unfold nrow
  rw [← made_one]
  rfl
theorem lst_new {w : World} {ρ : Ro} {D : Nat → Prop} (ht : There (All ρ D) w) : Lst (w.alloc (.cells nrow 34)) ρ D w.heap.size (fun _ => none) :=
  ⟨⟨List.replicate 128 (Value.slice none 0 0), by simp, row_new w _, fun n v hv => ⟨fun _ => (List.mem_replicate.1 (List.mem_of_getElem? hv)).2, fun l hl => (by cases hl)⟩⟩, fun h => by have := ht _ h; omega⟩
end Go.Proofs.Ytphfidenjihgeaa.ELaw
