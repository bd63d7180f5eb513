/- theirs: a record of the one package as one of the other. -/
import Derived.Test.YtgegmoejhnjhjaaDoorJMine
namespace Go.Proofs.YtgegmoejhnjhjaaDoor.JTheirs
open Go.RowKit Go.Shelf WMem WPlain SNums JPlain JMem JChunk JBody JTold JMine


theorem info_theirs : (Tryd.prog.info? 69).map (fun i => (i.zero, i.size, i.bytes)) = some (some (.agg #[.int .i64 0, .bool false]), 2, 16) := by kernel_rfl
theorem under_theirs : Tryd.prog.underlying 22 = some (.slice 69) := by kernel_rfl
set_option maxRecDepth 100000 in
set_option maxHeartbeats 8000000 in
theorem theirs_any (r : Rec) (B : Nat) (A : Option Addr) (c : Nat) (w : World) (hB : B ≤ w.heap.size) (hA : Ents w B A r.ents) (hl : r.ents.length ≤ 8796093022207) :
    Calls Tryd.prog 18 #[recV r A c] w fun e w' => ∃ A' c', e = .returned (recV r A' c') ∧ Ents w' w'.heap.size A' r.ents ∧ (∀ a, A' = some a → w.heap.size ≤ a.block) ∧ Below w.heap.size w w' := by
  have HA := Lib.hid hA
  obtain ⟨i0, hi0, hz0, hz1, hz2⟩ := info_parts info_theirs
  have HREC : Hid (∀ A' c', recV r A' c' = .agg #[.int .i64 r.kind, .int .i64 r.seq, .slice A' r.ents.length c', .int .u32 (r.sum : Int), .int .i64 r.start]) := Lib.hid (fun _ _ => rfl)
  rw [HREC.out]
  have H0 : Hid (MU 33 25 69 r (.slice A r.ents.length c) w 0 (((w.alloc (.cells (fbox r.kind r.seq (.slice A r.ents.length c) r.sum r.start) 33)).alloc (.cells zbox 25)).alloc (.cells (fbox r.kind r.seq (.slice none 0 0) r.sum r.start) 25))) := Lib.hid (by
    have n0 := row_new w (.cells (fbox r.kind r.seq (.slice A r.ents.length c) r.sum r.start) 33)
    have n1 := row_new (w.alloc (.cells (fbox r.kind r.seq (.slice A r.ents.length c) r.sum r.start) 33)) (.cells zbox 25)
    have n2 := row_new ((w.alloc (.cells (fbox r.kind r.seq (.slice A r.ents.length c) r.sum r.start) 33)).alloc (.cells zbox 25)) (.cells (fbox r.kind r.seq (.slice none 0 0) r.sum r.start) 25)
    simp only [World.size_alloc, Nat.add_assoc, Nat.reduceAdd] at n1 n2
    exact ⟨⟨_, n2, World.ownsRow_nil _ _ _ _⟩, row_alloc (row_alloc n0 _) _, row_alloc n1 _, ((below_box _).alloc (by simp) _).alloc (by simp; omega) _⟩)
  clear hA
  generalize hn : r.ents.length = n at *
  have HN := Lib.hid hn
  clear hn
  go_enter Tryd.func18, Tryd.ntmps18
  have z0 := fun W (h : Below w.heap.size w W) => h.size
  go_wp2
  go_loopw [4] (fun i wr => ∃ k : Nat, k ≤ n ∧ i = .int .i64 k ∧ MU 33 25 69 r (.slice A n c) w k wr) (fun i _ => n - (intOf i).toNat)
  case atStart => exact ⟨0, Nat.zero_le _, rfl, H0.out⟩
  case round =>
    obtain ⟨k, hk, rfl, ⟨⟨v, hv, ho⟩, ha, hr, hb⟩⟩ := hrel
    have sB := hb.size
    have Q0 := Lib.hid ha
    have Q1 := Lib.hid hr
    have Q2 := Lib.hid hv
    have HO := Lib.hid ho
    have HB := Lib.hid hb
    have a2 : wr.cell? ⟨w.heap.size, 2, none⟩ = some (.slice A n c) := (row_cell ha 2).trans rfl
    have b2 : wr.cell? ⟨w.heap.size + 2, 2, none⟩ = some v := (row_cell hv 2).trans rfl
    have f2 : wr.frozen? ⟨w.heap.size + 2, 2, none⟩ = false := row_free hv 2
    have hlR := row_lt hv
    clear ha hr hv ho hb H0
    by_cases hlt : k < n
    · have hlt' : k < r.ents.length := by rw [HN.out]; exact hlt
      obtain ⟨a, rfl, hab, c0, c1⟩ := (HA.out.below HB.out hB).at_ hlt'
      generalize hx : r.ents[k] = x at *
      have HX := Lib.hid hx
      obtain ⟨b, q⟩ := x
      have HO1 : Hid ((wr.alloc (.cells #[.int .i64 b, .bool q] 69)).ownsRow w.heap.size 69 2 v k (ecells (r.ents.take k))) := Lib.hid (HO.out.alloc _)
      clear hx
      go_wp2
      go_region_law
        ((first
        | (refine step_append_lies _ (by rfl) _ _ _ (by rfl) w.heap.size 69 i0 _ 2 16 under_theirs hi0 hz0 hz1 hz2 rfl (by omega) v k (ecells (r.ents.take k)) (by rfl) (HO1.out.drew) ⟨wr.heap.size, 0, none⟩ 1 1 (ecell ⟨b, q⟩) (by rfl) (by rfl) (World.news_of_block (cs := #[.int .i64 b, .bool q]) (t := 69) (fr := (0, 0)) (row_new wr _)) (by simp [ecell, Value.oneCell']) (by omega) (by unfold maxLen; omega) (by omega) (by simp; omega) _ rfl ?_; intro gg cap w2 h1 h2 hat hlt2
           have hbx : (wr.alloc (.cells #[.int .i64 b, .bool q] 69)).drew.heap[w.heap.size + 2]? = _ := row_alloc Q2.out _
           have hnb := own_ne HO1.out.drew hbx (by decide)
           have HNX := Lib.hid (MU.next (TS := 33) (V := .slice (some a) n c) (W := (wr.alloc (.cells #[.int .i64 b, .bool q] 69)).drew) (by decide) (by decide) hlt' HX.out (row_alloc Q0.out _) (row_alloc Q1.out _) hbx HO1.out.drew ((HB.out.alloc sB _).drew) h1 h2)
           have j0 : w2.cell? ⟨w.heap.size + 2, 2, none⟩ = some v := (World.cell?_of_block (h2.block (w.heap.size + 2) (row_lt hbx) (Ne.symm hnb))).trans ((row_cell hbx 2).trans rfl)
           have j1 : w2.frozen? ⟨w.heap.size + 2, 2, none⟩ = false := (World.frozen?_of_block (h2.block (w.heap.size + 2) (row_lt hbx) (Ne.symm hnb))).trans (row_free hbx 2)
           clear h1 h2 hnb hbx hat)))
      all_goals
        go_wp2
        go_roundw
        case rel => exact ⟨k + 1, by omega, by go_num, HNX.out⟩
        case measure => simp [intOf]; omega
    · obtain rfl : k = n := by omega
      have HOL : Hid (wr.ownsRow w.heap.size 69 2 v k (ecells r.ents)) := Lib.hid (by have := HO.out; rw [← HN.out, List.take_length] at this; rw [← HN.out]; exact this)
      obtain ⟨A', c', rfl, hE, hfar⟩ := entsOut (HOL.out.kept (set5_grown wr (w.heap.size + 1) (.int .i64 r.kind) (.int .i64 r.seq) v (.int .u32 (r.sum : Int)) (.int .i64 r.start)) (.inr (own_ne HOL.out Q1.out (by decide)))) HN.out
      have HEE := Lib.hid hE
      have HBB := Lib.hid (set5_below (b := w.heap.size + 1) (.int .i64 r.kind) (.int .i64 r.seq) (.slice A' k c') (.int .u32 (r.sum : Int)) (.int .i64 r.start) HB.out (by omega))
      have e0 : wr.cell? ⟨w.heap.size + 2, 0, none⟩ = some (.int .i64 r.kind) := (row_cell Q2.out 0).trans rfl
      have e1 : wr.cell? ⟨w.heap.size + 2, 1, none⟩ = some (.int .i64 r.seq) := (row_cell Q2.out 1).trans rfl
      have e3 : wr.cell? ⟨w.heap.size + 2, 3, none⟩ = some (.int .u32 (r.sum : Int)) := (row_cell Q2.out 3).trans rfl
      have e4 : wr.cell? ⟨w.heap.size + 2, 4, none⟩ = some (.int .i64 r.start) := (row_cell Q2.out 4).trans rfl
      have z0 : wr.cell? ⟨w.heap.size + 1, 0, none⟩ = some (.int .i64 0) := (row_cell Q1.out 0).trans rfl
      have z1 : wr.cell? ⟨w.heap.size + 1, 1, none⟩ = some (.int .i64 0) := (row_cell Q1.out 1).trans rfl
      have z2 : wr.cell? ⟨w.heap.size + 1, 2, none⟩ = some (.slice none 0 0) := (row_cell Q1.out 2).trans rfl
      have z3 : wr.cell? ⟨w.heap.size + 1, 3, none⟩ = some (.int .u32 0) := (row_cell Q1.out 3).trans rfl
      have z4 : wr.cell? ⟨w.heap.size + 1, 4, none⟩ = some (.int .i64 0) := (row_cell Q1.out 4).trans rfl
      have zf : ∀ i, wr.frozen? ⟨w.heap.size + 1, i, none⟩ = false := fun i => row_free Q1.out i
      clear hE
      go_wp2_with fail
      refine bodyPost_ret (v := .agg #[.int .i64 r.kind, .int .i64 r.seq, .slice A' k c', .int .u32 (r.sum : Int), .int .i64 r.start]) ?_ rfl ?_
      · simp [results, Tryd.results18, go_sem, z0, z1, z2, z3, z4]
      · exact ⟨A', c', by rw [HREC.out], HEE.out, hfar, HBB.out⟩
end Go.Proofs.YtgegmoejhnjhjaaDoor.JTheirs
