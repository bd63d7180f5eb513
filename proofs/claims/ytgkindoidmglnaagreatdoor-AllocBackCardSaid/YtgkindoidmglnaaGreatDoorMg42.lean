/- The allocator: a row of blocks is given back: what the walk stands on. -/
import Derived.Test.YtgkindoidmglnaaGreatDoorMg41
namespace Go.Proofs.YtgkindoidmglnaaGreatDoor.AGivA
open Go.RowKit Go.Shelf WMem WPlain WAppend WCrc WSeal TPlain TBits TSet TTurn TFace TTurnF TSame TFind TFacts GPlain GGeo GGeo2 GFace Ext Map DPlain DMem EPlain EMem EFace EBack EAny SPlain QPlain QMem APlain AMem AGeo AOpen ATurn ACount ATake

/-- blocks that are held, one by one -/
def holds (s : Sto) (f : Nat) : Nat → Sto
  | 0 => s
  | n + 1 => (holds s f n).hold (f + n)
theorem holds_val (s : Sto) (f n m : Nat) : (holds s f n).val m = s.val m := by
  induction n with
  | zero => rfl
  | succ n ih => exact ih
theorem holds_N (s : Sto) (f n : Nat) : (holds s f n).N = s.N := by
  induction n with
  | zero => rfl
  | succ n ih => exact ih
theorem holds_coh {s : Sto} (h : Coh s) (f n : Nat) : Coh (holds s f n) := by
  induction n with
  | zero => exact h
  | succ n ih => exact ih.hold _
theorem holds_load (s : Sto) (f n : Nat) : (holds s f n).load ≤ s.load + n := by
  induction n with
  | zero => exact Nat.le_refl _
  | succ n ih => have := Sto.load_hold (holds s f n) (f + n); simp only [holds]; omega
theorem holds_hld (s : Sto) (f n k : Nat) : (holds s f n).now.hld k = (s.now.hld k || decide (f ≤ k ∧ k < f + n)) := by
  induction n with
  | zero =>
    have : ¬ (f ≤ k ∧ k < f + 0) := by omega
    show s.now.hld k = (s.now.hld k || decide (f ≤ k ∧ k < f + 0))
    rw [decide_eq_false this, Bool.or_false]
  | succ n ih =>
    show (if k = f + n then true else (holds s f n).now.hld k) = _
    split
    · rename_i e
      have : f ≤ k ∧ k < f + (n + 1) := by omega
      simp [this]
    · rename_i e
      rw [ih]
      congr 1
      simp only [decide_eq_decide]
      omega
/-- a bitmap of blocks, and what the counts are then -/
theorem says_to {s s' : Sto} {A : Al} {i : Nat} {l : Bk} (h : Says s A) (hi : i < A.ng) (hf : (A.setB i l).Fine) (hN : s'.N = s.N) (hc : Coh s') (hv : ∀ m, s'.val m = if m = 0 then (A.setB i l).sup else if m = 1 then (A.setB i l).grps else if m = A.bat i then l else s.val m) : Says s' (A.setB i l) := by
  have h1 := h.putB hi hf
  have e : ∀ m, s'.val m = (((s.write (A.bat i) l).write 1 (A.setB i l).grps).write 0 (A.setB i l).sup).val m := fun m => by
    rw [hv, write_val, write_val, write_val]
  exact ⟨hf, by rw [hN]; exact h1.N, by rw [e]; exact h1.sup, by rw [e]; exact h1.grp, fun k hk => by rw [e]; exact h1.bms k hk, fun k hk => by rw [e]; exact h1.ims k hk, hc⟩
/-- these blocks are data of one group, and all are taken -/
structure GoodB (A : Al) (first n : Int) (i x m : Nat) : Prop where
  hi : i < A.ng
  hf : first = (A.at_ i + x : Nat)
  hn : n = (m : Int)
  h1 : 1 ≤ m
  ho : A.own i ≤ x
  hs : x + m ≤ A.size i
  ht : ∀ j, j < m → fr (A.bm i) (x + j) = false
def Gave (d : Nat) (A : Al) (s : Sto) (first n er : Int) (s' : Sto) : Prop :=
  (er ≠ 0 ∧ (¬ ∃ i x m, GoodB A first n i x m) ∧ Rd s s' d) ∨
  (er = 0 ∧ ∃ i x m l s1, GoodB A first n i x m ∧ turnL (A.bm i) x m (A.bat i) = l ∧ Rd s s1 d ∧ s' = ((holds (s1.write (A.bat i) l) (A.at_ i + x) m).write 1 (A.setB i l).grps).write 0 (A.setB i l).sup)
theorem Gave.pre {d e : Nat} {A : Al} {s s0 s' : Sto} {first n er : Int} (h : Gave d A s0 first n er s') (hr : Rd s s0 e) : Gave (e + d) A s first n er s' := by
  rcases h with ⟨h1, h2, h3⟩ | ⟨h1, i, x, m, l, s1, h2, h3, h4, h5⟩
  · exact .inl ⟨h1, h2, hr.trans h3⟩
  · exact .inr ⟨h1, i, x, m, l, s1, h2, h3, hr.trans h4, h5⟩
theorem good_gof {A : Al} (hM : May A.b A.p A.n A.j) {first n : Int} {i x m : Nat} (h : GoodB A first n i x m) : gof A first = i := by
  have g := geo hM h.hi
  have h8 := g.a8
  have h1 := h.h1
  have h2 := h.hs
  have h3 := h.hf
  obtain ⟨k, hk, q1, q2, q3⟩ := in_group hM (A.at_ i + x) (by omega)
  have e : k = i := by
    by_cases e : k = i
    · exact e
    · rcases Nat.lt_or_gt_of_ne e with hlt | hlt
      · have := apart hM hlt h.hi; omega
      · have := apart hM hlt hk; omega
  unfold gof
  rw [h3, if_pos (by omega), q3, e]
  rfl
section
variable {a w : World} {B : Nat} {S : Nat → Prop} {b db : Nat} {s : Sto} {A : Al} {lb gb c : Nat} {gs : List Grp} {fb fi : Int}
set_option maxHeartbeats 2000000 in
set_option maxRecDepth 20000 in
/-- bits that are not all as they should be -/
theorem turn_bad (h : AS a B S w b db s) (hT : Tab a) (x n i k : Nat) (on : Bool) (l : Bk) (hx : x < s.N) (hn : n ≤ 2016) (hm : isMap l n x = true) (h1 : 1 ≤ k) (h2 : i + k ≤ n) (hb : allB l i k (!on) = false)
    (g c' : Nat) (rest : List Value) (hc' : 256 ≤ c') (hR : Row w g l rest) :
    Calls Tryz.prog 66 #[.pointer (some ⟨lb, 0, none⟩), .agg #[.int .i64 (x : Int), .int .i64 (n : Int), .slice (some ⟨g, 0, none⟩) 256 c'], .int .i64 (i : Int), .int .i64 (k : Int), .bool on] w fun e w' =>
      e = .returned (.int .i64 117) ∧ Below w.heap.size w w' := by
  have hl := (map_of hm).1
  have hN := h.len
  have hw32 : IntKind.u32.wrap (x : Int) = ((x : Nat) : Int) := by rw [IntKind.wrap_u32']; omega
  have hck := chk_map hm hn
  have HB0 := Lib.hid (below_box (w := w) (.cells #[.int .i64 (x : Int), .int .i64 (n : Int), .slice (some ⟨g, 0, none⟩) 256 c'] 122))
  have H0 := h.also HB0.out
  have r0 := rowV_new w [.int .i64 (x : Int), .int .i64 (n : Int), .slice (some ⟨g, 0, none⟩) 256 c'] 122
  have x0 := rowc r0 0 rfl
  have x1 := rowc r0 1 rfl
  have x2 := rowc r0 2 rfl
  have hR0 : Row (w.alloc (.cells #[.int .i64 (x : Int), .int .i64 (n : Int), .slice (some ⟨g, 0, none⟩) 256 c'] 122)) g l rest := row_alloc hR _
  have hgl := hR.lt
  have HT := Lib.hid (H0.tab hT)
  have HR := Lib.hid (hR0.sl (B := w.heap.size) hgl)
  have HX := Lib.hid (And.intro hl (And.intro hck hb))
  clear h hT hm hck hl hR r0 hR0 hb H0
  go_enter Tryz.func66, Tryz.ntmps66
  go_wp2_with fail
  have HC := Check_any l 256 HX.out.1 w.heap.size (some ⟨g, 0, none⟩) c' n x (w.alloc (.cells #[.int .i64 (x : Int), .int .i64 (n : Int), .slice (some ⟨g, 0, none⟩) 256 c'] 122)) (by omega) hc' HR.out HT.out
  rw [HX.out.2.1] at HC
  refine (Turn_bits l HX.out.1 w.heap.size _ c' n i k on x _ (by simp) hn h1 h2 HX.out.2.2 HR.out HC).mono ?_
  clear HC
  rintro e w1 ⟨rfl, hb1⟩
  have HB1 := Lib.hid (below_up HB0.out hb1 (by simp))
  clear hb1 x0 x1 x2
  go_wp2
  go_ret
  exact ⟨rfl, HB1.out⟩
theorem sum3 {x0 x k y m N : Nat} (h : x0 + x + m ≤ N) (hN : N ≤ 4096) (hk : k < m) (hy : x0 + x + k = y) : wrap64 (y : Int) = (y : Int) ∧ (x0 : Int) + (x : Int) + (k : Int) = (y : Int) ∧ y < N := by
  have h1 : (x0 : Int) + (x : Int) + (k : Int) = (y : Int) := by omega
  exact ⟨IntWalk.wrap64_in _ ⟨by omega, by omega⟩, h1, by omega⟩
theorem round_lt {m k : Nat} (h : k < m) : (m - (RowKit.intOf (.int .i64 ((k : Int) + 1))).toNat) < m - (RowKit.intOf (.int .i64 (k : Int))).toNat := by
  simp [RowKit.intOf]; omega
end
end Go.Proofs.YtgkindoidmglnaaGreatDoor.AGivA
