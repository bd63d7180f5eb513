/- The document's examples hold: awake answers true. -/
import Derived.Test.YtkemakemolohdaaLAlike
namespace Go.Proofs.Ytkemakemolohdaa.LAwake
open Go.RowKit WMem WPlain WAppend Ext Map DPlain DMem Mk DBase DRead DPend DWrite DFlush DPending DCopy RNew RRead RWrite RFlush DLaw LStep LStepP LAlike

section
variable (S : Nat → Prop) (b : Nat) (s : St) (w : World)
theorem w_new : Calls Try.prog 10 #[.int .i64 128] w fun e w' => ∃ g, e = .returned (.tuple #[.pointer (some ⟨g, 0, none⟩), .int .i64 0]) ∧ DD w' (Made w w') g (St.new 128) ∧ Below w.heap.size w w' := New_yes 128 w (by decide) (by decide)
theorem w_new_no : Calls Try.prog 10 #[.int .i64 127] w fun e w' => e = .returned (.tuple #[.pointer none, .int .i64 22]) ∧ w = w' := New_no 127 w (.inl (by decide))
theorem w_blocks (h : DD w S b (St.new 128)) : Calls Try.prog 21 #[.pointer (some ⟨b, 0, none⟩)] w fun e w' => e = .returned (.int .i64 128) ∧ w = w' := by
  have h1 := Blocks_at b _ w h.c0
  have e : ((St.new 128).L.length : Int) = 128 := by simp [St.new]
  rw [e] at h1
  exact h1
theorem w_full (x : Int) (y : UInt8) (hy : octet x = y) : Calls Try.prog 16 #[.int .i64 x] w fun e w' => ∃ g, e = .returned (.slice (some ⟨g, 0, none⟩) 256 256) ∧ w.heap.size ≤ g ∧ Row w' g (full y) [] ∧ Below w.heap.size w w' := by
  rw [← hy]
  exact filled_at x w
theorem w_write (n : Int) (k : Nat) (hk : (k : Int) = n) (y : UInt8) (g : Nat) (h : DD w S b s) (hl : s.L.length = 128) (hN : s.N ≤ 1073741824) (h128 : k < 128) (hR : Row w g (full y) []) :
    Calls Try.prog 15 #[.pointer (some ⟨b, 0, none⟩), .int .i64 n, .slice (some ⟨g, 0, none⟩) 256 256] w fun e w' => e = .returned (.int .i64 0) ∧ ∃ S', DD w' S' b (s.write k (full y)) ∧ Ext S w w' ∧ In S' S w := by
  subst hk
  exact Write_ok S b k s (full y) w.heap.size (some ⟨g, 0, none⟩) 256 w h (hR.sl hR.lt) (Nat.le_refl _) (by omega) (full_len y) hN
theorem w_write_no (v : Value) (h : DD w S b s) : Calls Try.prog 15 #[.pointer (some ⟨b, 0, none⟩), .int .i64 (-1), v] w fun e w' => e = .returned (.int .i64 5) ∧ w = w' := Write_no S b (-1) s v w h (.inl (by decide))
theorem w_write_len (A : Option Addr) (c : Nat) (h : DD w S b s) : Calls Try.prog 15 #[.pointer (some ⟨b, 0, none⟩), .int .i64 0, .slice A 255 c] w fun e w' => e = .returned (.int .i64 22) ∧ w = w' := Write_len S b 0 255 s A c w h (by have := h.len; omega) (by decide)
theorem w_crash (B : Nat) (A : Option Addr) (c : Nat) (h : DD w S b s) (hA : Sl w B A [.bool false, .bool true]) (hB : B ≤ w.heap.size) (hN : s.N ≤ 1073741824) :
    Calls Try.prog 19 #[.pointer (some ⟨b, 0, none⟩), .slice A 2 c] w fun e w' => e = .returned (.tuple #[]) ∧ ∃ S', DD w' S' b (s.crash [false, true]) ∧ Ext S w w' ∧ In S' S w := Crash_ok S b s [false, true] B A c w h hA hB hN
theorem w_read (n : Int) (k : Nat) (hk : (k : Int) = n) (h : DD w S b s) (hl : s.L.length = 128) (h128 : k < 128) :
    Calls Try.prog 20 #[.pointer (some ⟨b, 0, none⟩), .int .i64 n] w fun e w' => ∃ g, e = .returned (.tuple #[.slice (some ⟨g, 0, none⟩) 256 256, .int .i64 0]) ∧ w.heap.size ≤ g ∧ Row w' g (s.readAt k) [] ∧ Below w.heap.size w w' := by
  subst hk
  exact Read_yes S b k s w h (by omega)
theorem w_read_no (h : DD w S b s) (hl : s.L.length = 128) : Calls Try.prog 20 #[.pointer (some ⟨b, 0, none⟩), .int .i64 128] w fun e w' => e = .returned (.tuple #[.slice none 0 0, .int .i64 5]) ∧ w = w' := Read_no S b 128 s w h (.inr (by omega))
theorem w_pending (h : DD w S b s) (hp : s.P = []) (hN : s.N ≤ 1073741824) : Calls Try.prog 23 #[.pointer (some ⟨b, 0, none⟩)] w fun e w' => ∃ g, e = .returned (.slice (some ⟨g, 0, none⟩) 0 0) ∧ Below w.heap.size w w' := by
  refine (Pending_ok S b s w h hN).mono ?_
  rintro e w' ⟨g, xs, rfl, _, _, _, hb⟩
  rw [hp]
  exact ⟨g, rfl, hb⟩
theorem w_same (l : List UInt8) (g g' : Nat) (hl : l.length = 256) (h : Row w g l []) (h' : Row w g' l []) : Calls Try.prog 26 #[.slice (some ⟨g, 0, none⟩) 256 256, .slice (some ⟨g', 0, none⟩) 256 256] w fun e w' => e = .returned (.bool true) ∧ ∃ n, w' = w.drewN n :=
  Same_blk l (fun _ => True) (fun _ => True) _ _ w ⟨g, 256, [], rfl, trivial, hl, Nat.le_refl _, h⟩ ⟨g', 256, [], rfl, trivial, hl, Nat.le_refl _, h'⟩
end

/-- a disk that a law has made and turned, and that nothing else can turn -/
structure Own (a w : World) (S : Nat → Prop) (b : Nat) (s : St) : Prop where
  dd : DD w S b s
  new : ∀ q, S q → a.heap.size ≤ q
  below : Below a.heap.size a w
section
variable {a w w' : World} {S S' : Nat → Prop} {b : Nat} {s t : St}
theorem Own.go (h : Own a w S b s) (hb : Below w.heap.size w w') : Own a w' S b s := ⟨h.dd.below hb, h.new, h.below.trans (hb.mono h.below.size)⟩
theorem Own.turn (h : Own a w S b s) (hd : DD w' S' b t) (he : Ext S w w') (hi : In S' S w) : Own a w' S' b t := ⟨hd, in_new hi h.new h.below.size, h.below.trans (he.below h.below.size h.new)⟩
theorem Own.drewN (h : Own a w S b s) (n : Nat) : Own a (w.drewN n) S b s := h.go (below_drewN (Below.refl _ _) n)
end

set_option maxHeartbeats 4000000 in
set_option maxRecDepth 100000 in
theorem awake_any (w : World) : Calls Try.prog 9 #[] w fun e w' => e = .returned (.bool true) ∧ Below w.heap.size w w' := by
  go_enter Try.func9, Try.ntmps9
  go_wp2_with fail
  refine (w_new w).mono ?_
  rintro e w1 ⟨b, rfl, hd, hb⟩
  have O1 : Hid (Own w w1 (Made w w1) b (St.new 128)) := ⟨hd, fun q hq => hq.1, hb⟩
  clear hd hb
  go_wp2_with fail
  refine (w_new_no w1).mono ?_
  rintro e w' ⟨rfl, rfl⟩
  go_wp2_with fail
  refine (w_blocks _ b w1 O1.out.dd).mono ?_
  rintro e w' ⟨rfl, rfl⟩
  go_wp2_with fail
  refine (w_full w1 7 7 rfl).mono ?_
  rintro e w2 ⟨g, rfl, hg, hR, hb⟩
  have O2 := Lib.hid (O1.out.go hb)
  have HR := Lib.hid hR
  clear hR hb hg
  go_wp2_with fail
  refine (w_write _ b _ w2 3 3 rfl 7 g O2.out.dd (by simp [St.new]) (Nat.zero_le _) (by decide) HR.out).mono ?_
  rintro e w3 ⟨rfl, S3, hd, he, hi⟩
  have O3 : Hid (Own w w3 S3 b ex1) := O2.out.turn hd he hi
  clear hd he hi HR O1 O2
  go_wp2_with fail
  refine (Flush_ok S3 b ex1 w3 O3.out.dd (by decide)).mono ?_
  rintro e w4 ⟨rfl, S4, hd, he, hi⟩
  have O4 : Hid (Own w w4 S4 b ex2) := O3.out.turn hd he hi
  clear hd he hi O3
  go_wp2_with fail
  refine (w_full w4 8 8 rfl).mono ?_
  rintro e w5 ⟨g5, rfl, hg, hR, hb⟩
  have O5 := Lib.hid (O4.out.go hb)
  have HR := Lib.hid hR
  clear hR hb hg O4
  go_wp2_with fail
  refine (w_write _ b _ w5 3 3 rfl 8 g5 O5.out.dd ex_len.2.1 (by decide) (by decide) HR.out).mono ?_
  rintro e w6 ⟨rfl, S6, hd, he, hi⟩
  have O6 : Hid (Own w w6 S6 b ex3) := O5.out.turn hd he hi
  clear hd he hi HR O5
  go_wp2_with fail
  refine (w_full w6 9 9 rfl).mono ?_
  rintro e w7 ⟨g7, rfl, hg, hR, hb⟩
  have O7 := Lib.hid (O6.out.go hb)
  have HR := Lib.hid hR
  clear hR hb hg O6
  go_wp2_with fail
  refine (w_write _ b _ w7 4 4 rfl 9 g7 O7.out.dd ex_len.2.2.1 (by decide) (by decide) HR.out).mono ?_
  rintro e w8 ⟨rfl, S8, hd, he, hi⟩
  have O8 : Hid (Own w w8 S8 b ex4) := O7.out.turn hd he hi
  clear hd he hi HR O7
  go_wp2_with fail
  refine (w_full w8 9 9 rfl).mono ?_
  rintro e w9 ⟨g9, rfl, hg, hR, hb⟩
  have O9 := Lib.hid (O8.out.go hb)
  clear hR hb hg O8
  go_wp2_with fail
  refine (w_write_no _ b _ w9 _ O9.out.dd).mono ?_
  rintro e w' ⟨rfl, rfl⟩
  go_wp2_with fail
  refine (w_full w9 9 9 rfl).mono ?_
  rintro e w10 ⟨g10, rfl, hg, hR, hb⟩
  have O10 := Lib.hid (O9.out.go hb)
  clear hR hb hg O9
  go_wp2_with fail
  refine (w_write_len _ b _ w10 _ _ O10.out.dd).mono ?_
  rintro e w' ⟨rfl, rfl⟩
  go_wp2_with fail
  have hal : Below w10.heap.size w10 (w10.alloc (.cells #[.bool false, .bool true] 4)) := (Below.refl _ _).alloc (Nat.le_refl _) _
  have O11 := Lib.hid (O10.out.go hal)
  refine (w_crash _ b _ _ (w10.heap.size + 1) _ _ O11.out.dd (Sl.of_row (n := 2) (row_new _ _) (by omega) rfl) (by simp) (by decide)).mono ?_
  rintro e w12 ⟨rfl, S12, hd, he, hi⟩
  have O12 : Hid (Own w w12 S12 b ex5) := O11.out.turn hd he hi
  clear hd he hi hal O10 O11
  go_wp2_with fail
  refine (w_read _ b _ w12 3 3 rfl O12.out.dd ex_len.2.2.2.2 (by decide)).mono ?_
  rintro e w13 ⟨g13, rfl, hg13, hR, hb⟩
  rw [ex_three] at hR
  have O13 := Lib.hid (O12.out.go hb)
  have HR13 := Lib.hid hR
  have l13 := hR.lt
  clear hR hb hg13 O12
  go_wp2_with fail
  refine (w_read _ b _ w13 4 4 rfl O13.out.dd ex_len.2.2.2.2 (by decide)).mono ?_
  rintro e w14 ⟨g14, rfl, hg14, hR, hb⟩
  rw [ex_four] at hR
  have O14 := Lib.hid (O13.out.go hb)
  have HR14 := Lib.hid (HR13.out.keep hb l13)
  have HR14' := Lib.hid hR
  have l14 := hR.lt
  have l14' := HR14.out.lt
  clear hR hb hg14 O13 HR13
  go_wp2_with fail
  refine (w_read_no _ b _ w14 O14.out.dd ex_len.2.2.2.2).mono ?_
  rintro e w' ⟨rfl, rfl⟩
  go_wp2_with fail
  refine (w_full w14 7 7 rfl).mono ?_
  rintro e w15 ⟨g15, rfl, hg, hR, hb⟩
  have O15 := Lib.hid (O14.out.go hb)
  have HR15 := Lib.hid (HR14.out.keep hb l14')
  have HR15' := Lib.hid (HR14'.out.keep hb l14)
  have HF := Lib.hid hR
  have hs15 := hb.size
  clear hR hb hg O14 HR14 HR14'
  go_wp2_with fail
  refine (w_same w15 (full 7) g13 g15 (full_len 7) HR15.out HF.out).mono ?_
  rintro e w16 ⟨rfl, n, rfl⟩
  have O16 := Lib.hid (O15.out.drewN n)
  have HR16 := Lib.hid (HR15'.out.drewN n)
  have hl16 : g14 < (w15.drewN n).heap.size := HR16.out.lt
  clear O15 HR15 HR15' HF
  generalize w15.drewN n = w16 at *
  go_wp2_with fail
  refine (w_full w16 9 9 rfl).mono ?_
  rintro e w17 ⟨g17, rfl, hg, hR, hb⟩
  have O17 := Lib.hid (O16.out.go hb)
  have HR17 := Lib.hid (HR16.out.keep hb hl16)
  have HF := Lib.hid hR
  clear hR hb hg O16 HR16
  go_wp2_with fail
  refine (w_same w17 (full 9) g14 g17 (full_len 9) HR17.out HF.out).mono ?_
  rintro e w18 ⟨rfl, n2, rfl⟩
  have O18 := Lib.hid (O17.out.drewN n2)
  clear O17 HR17 HF
  generalize w17.drewN n2 = w18 at *
  go_wp2_with fail
  refine (Ops_at b 4 w18 O18.out.dd.c1).mono ?_
  rintro e w' ⟨rfl, rfl⟩
  go_wp2_with fail
  refine (w_pending _ b _ w18 O18.out.dd rfl (by decide)).mono ?_
  rintro e w19 ⟨g19, rfl, hb⟩
  have O19 := Lib.hid (O18.out.go hb)
  clear hb O18
  go_wp2
  go_ret
  exact ⟨rfl, O19.out.below⟩
end Go.Proofs.Ytkemakemolohdaa.LAwake
