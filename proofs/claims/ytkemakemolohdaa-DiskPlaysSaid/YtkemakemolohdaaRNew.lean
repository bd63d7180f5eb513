/- The document's disk: New. And what an append to a row in a field leaves. -/
import Derived.Test.YtkemakemolohdaaDWrite
namespace Go.Proofs.Ytkemakemolohdaa.RNew
open Go.RowKit WMem WPlain WAppend Ext Map DPlain DMem Mk DBase DRead DPend DWrite

theorem infoB : (Try.prog.info? 35).map (fun i => (i.zero, i.size, i.bytes)) = some (some (.slice none 0 0), 1, 24) := by kernel_rfl
theorem underB : Try.prog.underlying 62 = some (.slice 35) := by kernel_rfl

/-- x.f = append(x.f, ..), the row its own: w ahead of it, W0 with what was laid for it, w1 behind the append -/
theorem field_append {w W0 w1 : World} {g gg H fld base n k cap : Nat} {cs : Array Value} {T e : TypeId} {size : Nat} {Pv : Value} {ys zs : List Value} (hW : Below w.heap.size w W0) (hg : w.heap[g]? = some (.cells cs T (0, 0)))
    (ho : w.ownsRow base e size Pv n ys) (hne : e ≠ T) (hgrow : W0.grownBy w1 Pv.ownBlock) (hown1 : w1.ownsRow base e size (.slice (some ⟨gg, 0, none⟩) k cap) k zs) (hat : Pv.ownBlock = some gg ∨ gg = H) (hH : W0.heap.size ≤ H) :
    (w1.setCell ⟨g, fld, none⟩ (.slice (some ⟨gg, 0, none⟩) k cap)).heap[g]? = some (.cells (cs.setIfInBounds fld (.slice (some ⟨gg, 0, none⟩) k cap)) T (0, 0)) ∧
    (w1.setCell ⟨g, fld, none⟩ (.slice (some ⟨gg, 0, none⟩) k cap)).ownsRow base e size (.slice (some ⟨gg, 0, none⟩) k cap) k zs ∧
    Ext (fun j => j = g ∨ Pv.ownBlock = some j) w (w1.setCell ⟨g, fld, none⟩ (.slice (some ⟨gg, 0, none⟩) k cap)) ∧ (Pv.ownBlock = some gg ∨ w.heap.size ≤ gg) ∧ W0.heap.size ≤ (w1.setCell ⟨g, fld, none⟩ (.slice (some ⟨gg, 0, none⟩) k cap)).heap.size ∧
    (∀ j, j < W0.heap.size → j ≠ g → Pv.ownBlock ≠ some j → (w1.setCell ⟨g, fld, none⟩ (.slice (some ⟨gg, 0, none⟩) k cap)).heap[j]? = W0.heap[j]?) := by
  have hs := hW.size
  have lg := row_lt hg
  have ag : Pv.ownBlock ≠ some g := own_ne ho hg hne
  have hg1 : w1.heap[g]? = some (.cells cs T (0, 0)) := (hgrow.block g (by omega) (Ne.symm ag)).trans ((hW.block g lg).trans hg)
  have ngg : gg ≠ g := fun e => by
    rcases hat with h | h
    · exact ag (e ▸ h)
    · omega
  have hkeep : ∀ j, j < W0.heap.size → j ≠ g → Pv.ownBlock ≠ some j → (w1.setCell ⟨g, fld, none⟩ (.slice (some ⟨gg, 0, none⟩) k cap)).heap[j]? = W0.heap[j]? := fun j hj hjg hjp =>
    (Below.heap_setCell w1 ⟨g, fld, none⟩ _ j hjg).trans (hgrow.block j hj (Ne.symm hjp))
  refine ⟨row_set hg1 fld _, own_same hown1 (fun j hj => Below.heap_setCell w1 ⟨g, fld, none⟩ _ j (by simp [Value.ownBlock] at hj; subst hj; exact ngg)), ?_, ?_, by have := hgrow.size; simpa [World.setCell] using this, hkeep⟩
  · refine ⟨hgrow.os.trans hW.os, hgrow.tape.trans hW.tape, hgrow.output.trans hW.output, by have := hgrow.size; simp [World.setCell]; omega, fun j hj hn => ?_⟩
    have h1 : j ≠ g := fun e => hn (.inl e)
    have h2 : Pv.ownBlock ≠ some j := fun e => hn (.inr e)
    exact (hkeep j (by omega) h1 h2).trans (hW.block j hj)
  · rcases hat with h | h
    · exact .inl h
    · exact .inr (by omega)

theorem L_snoc {w : World} {S : Nat → Prop} {xs : List Value} {L : List (List UInt8)} {v : Value} {l : List UInt8} (h : LOf w S xs L) (hv : IsBlk w S v l) : LOf w S (xs ++ [v]) (L ++ [l]) := by
  refine ⟨by simp [h.1], fun i hi => ?_⟩
  by_cases e : i < L.length
  · obtain ⟨u, h1, h2⟩ := h.2 i e
    exact ⟨u, by rw [List.getElem?_append_left (by rw [h.1]; exact e)]; exact h1, by rw [List.getElem_append_left e]; exact h2⟩
  · have hi' : i = L.length := by simp at hi; omega
    subst hi'
    exact ⟨v, by rw [List.getElem?_append_right (by rw [h.1]; omega), h.1]; simp, by simpa using hv⟩

set_option maxHeartbeats 3200000 in
set_option maxRecDepth 100000 in
theorem RNew_yes (n : Nat) (w : World) (h0 : 128 ≤ n) (h1 : n ≤ 4096) :
    Calls Try.prog 11 #[.int .i64 n] w fun e w' => ∃ g, e = .returned (.tuple #[.pointer (some ⟨g, 0, none⟩), .int .i64 0]) ∧ RD w' (Made w w') g (St.new n) ∧ Below w.heap.size w w' := by
  obtain ⟨i0, hi0, hz0, hz1, hz2⟩ := info_parts infoB
  have hmk := make256
  have hn0 : (128 : Int) ≤ (n : Int) := by omega
  have hn1 : (n : Int) ≤ 4096 := by omega
  go_enter Try.func11, Try.ntmps11
  go_wp2
  go_loopw [5] (fun i wr => ∃ (k : Nat) (Lv : Value) (xs : List Value), k ≤ n ∧ i = .int .i64 k ∧ wr.heap[w.heap.size]? = some (.cells #[Lv, .slice none 0 0, .int .i64 0] 64 (0, 0)) ∧
      wr.ownsRow w.heap.size 35 1 Lv k xs ∧ LOf wr (Made w wr) xs (List.replicate k zeros) ∧ Below w.heap.size w wr) (fun i _ => n - (intOf i).toNat)
  case atStart => exact ⟨0, .slice none 0 0, [], Nat.zero_le _, rfl, row_new _ _, World.ownsRow_nil _ _ _ _, ⟨rfl, fun i hi => (by cases hi)⟩, (Below.refl _ _).alloc (Nat.le_refl _) _⟩
  case round =>
    obtain ⟨k, Lv, xs, hk, rfl, hb, ho, hL, hB⟩ := hrel
    have HB := Lib.hid hb
    have HO := Lib.hid ho
    have HL := Lib.hid hL
    have HBB := Lib.hid hB
    have lb := row_lt hb
    have c0 : wr.cell? ⟨w.heap.size, 0, none⟩ = some Lv := (row_cell hb 0).trans rfl
    have AB : Hid (Lv.ownBlock ≠ some w.heap.size) := own_ne ho hb (by decide)
    clear hb ho hL hB
    by_cases hlt : k < n
    · have HNEW : Hid (((wr.alloc (.cells (zrow 256) 5)).alloc (.cells #[.slice (some ⟨wr.heap.size, 0, none⟩) 256 256] 35)).drew.heap[wr.heap.size + 1]? = some (.cells #[.slice (some ⟨wr.heap.size, 0, none⟩) 256 256] 35 (0, 0))) := by
        have h1 := row_new (wr.alloc (.cells (zrow 256) 5)) (.cells #[.slice (some ⟨wr.heap.size, 0, none⟩) 256 256] 35)
        rw [World.size_alloc] at h1
        exact h1
      go_wp2_with fail
      go_region_law
        ((refine step_append_lies _ (by rfl) _ _ _ (by rfl) w.heap.size 35 i0 _ 1 24 underB hi0 hz0 hz1 hz2 rfl (by omega) Lv k xs (by rfl) (((HO.out.alloc _).alloc _).drew)
            ⟨wr.heap.size + 1, 0, none⟩ 1 1 [.slice (some ⟨wr.heap.size, 0, none⟩) 256 256] (by rfl) (by rfl) (World.news_of_block (cs := #[.slice (some ⟨wr.heap.size, 0, none⟩) 256 256]) (t := 35) (fr := (0, 0)) HNEW.out) (by simp [Value.oneCell'])
            (by omega) (by unfold maxLen; omega) (by omega) (by simp; omega) (wr.heap.size + 2) (by simp) ?_; intro gg cap w1 hown1 hgrow hat hlt2
          have k1 : w1.cell? ⟨w.heap.size, 0, none⟩ = some Lv := (hgrow.cell_far _ (by simp; omega) (Ne.symm AB.out)).trans ((row_cell (row_alloc (row_alloc HB.out _) _) 0).trans rfl)
          have k2 : w1.frozen? ⟨w.heap.size, 0, none⟩ = false := (hgrow.frozen_far _ (by simp; omega) (Ne.symm AB.out)).trans (row_free (row_alloc (row_alloc HB.out _) _) 0)))
      all_goals
        have hmem := field_append (fld := 0) (((Below.refl _ wr).alloc (Nat.le_refl _) _).alloc (by simp) _).drew HB.out HO.out (by decide) hgrow hown1 hat (by show (((wr.alloc _).alloc _)).heap.size ≤ _; simp)
        have HMEM := Lib.hid hmem
        have HG := Lib.hid hgrow
        clear hmem hown1 hgrow hat hlt2 k1 k2 HNEW c0
        generalize w1.setCell ⟨w.heap.size, 0, none⟩ (.slice (some ⟨gg, 0, none⟩) (k + 1) cap) = W1 at *
        go_wp2
        go_roundw
        case rel =>
          obtain ⟨q1, q2, q3, q4, q5, q6⟩ := HMEM.out
          have rows : ∀ (j : Nat) (o : Array Value), ((wr.alloc (.cells (zrow 256) 5)).alloc (.cells #[.slice (some ⟨wr.heap.size, 0, none⟩) 256 256] 35)).heap[j]? = some (Obj.cells o 5 (0, 0)) → j < wr.heap.size + 2 → W1.heap[j]? = some (Obj.cells o 5 (0, 0)) := fun j o ho hj => by
            refine (q6 j (by show j < ((wr.alloc _).alloc _).heap.size; simp; omega) (fun e => ?_) (fun e => ?_)).trans ho
            · subst e
              rw [row_alloc (row_alloc HB.out _) _] at ho
              injection ho with ho
              injection ho with _ ho
              exact absurd ho (by decide)
            · exact own_ne ((HO.out.alloc _).alloc _) ho (by decide) e
          have hsW : wr.heap.size + 2 ≤ W1.heap.size := by
            have h5 : ((wr.alloc (.cells (zrow 256) 5)).alloc (.cells #[.slice (some ⟨wr.heap.size, 0, none⟩) 256 256] 35)).heap.size ≤ W1.heap.size := q5
            simpa using h5
          have hbl := HBB.out.size
          have hnew : IsBlk W1 (Made w W1) (.slice (some ⟨wr.heap.size, 0, none⟩) 256 256) zeros := ⟨wr.heap.size, 256, [], rfl, ⟨hbl, by omega⟩, List.length_replicate, Nat.le_refl _, rows wr.heap.size _ (row_alloc (zrow_row wr 256) _) (by omega)⟩
          have hold : LOf W1 (Made w W1) xs (List.replicate k zeros) := (HL.out.keep (fun j o _ ho => (rows j o (row_alloc (row_alloc ho _) _) (by have := row_lt ho; omega)).trans ho.symm)).more (fun j hj => ⟨hj.1, by have := hj.2; omega⟩)
          refine ⟨k + 1, _, xs ++ [.slice (some ⟨wr.heap.size, 0, none⟩) 256 256], by omega, by go_num, by simpa using q1, q2, ?_, ?_⟩
          · rw [List.replicate_succ']
            exact L_snoc hold hnew
          · refine HBB.out.trans (q3.below (B := w.heap.size) hbl (fun j hj => ?_))
            rcases hj with h1 | h1
            · omega
            · exact own_ge HO.out _ h1
        case measure => simp [intOf]; omega
    · obtain rfl : k = n := by omega
      go_wp2
      go_ret2
      have ho := HO.out
      refine ⟨w.heap.size, rfl, ⟨Lv, .slice none 0 0, xs, [], ⟨⟨Nat.le_refl _, lb⟩, HB.out, ⟨?_, fun g hg => ⟨own_ge ho g hg, own_lt ho g hg⟩⟩, ⟨World.ownsRow_nil _ _ _ _, fun g hg => (by cases hg)⟩, HL.out, ⟨rfl, fun i hi => (by cases hi)⟩, wf_new k, ?_, ?_, fun q hq => hq.2⟩⟩, HBB.out⟩
      · simpa [St.new] using own_base ho (fun g _ => Nat.zero_le g)
      · simpa [St.new] using h0
      · simpa [St.new] using h1
set_option maxHeartbeats 400000 in
theorem RNew_no (n : Int) (w : World) (h : n < 128 ∨ 4096 < n) :
    Calls Try.prog 11 #[.int .i64 n] w fun e w' => e = .returned (.tuple #[.pointer none, .int .i64 22]) ∧ w = w' := by
  by_cases h1 : n < 128
  · clear h
    go_enter Try.func11, Try.ntmps11
    go_wp2
    go_ret2
    exact ⟨rfl, rfl⟩
  · have h2 : 4096 < n := by omega
    have h3 : decide (n < 128) = false := by simpa using h1
    clear h h1
    go_enter Try.func11, Try.ntmps11
    go_wp2
    go_ret2
    exact ⟨rfl, rfl⟩
end Go.Proofs.Ytkemakemolohdaa.RNew
