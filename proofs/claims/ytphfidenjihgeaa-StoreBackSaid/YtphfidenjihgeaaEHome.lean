/- The store: Home. -/
import Derived.Test.YtphfidenjihgeaaERead
namespace Go.Proofs.Ytphfidenjihgeaa.EHome
open Go.RowKit WMem WPlain WAppend Ext Map DPlain DMem Mk DBase DRead DWrite EPlain EMem ECache EGet EFace EUnwrite EPush EWrite ERead

theorem read_write (d : St) (n : Nat) (l : Bk) (x : Nat) : (d.write n l).readAt x = if x = n then l else d.readAt x := by
  unfold St.readAt St.write
  simp only [lastOf_snoc]
  by_cases e : x = n
  · subst e; simp
  · rw [if_neg e, if_neg (Ne.symm e)]
/-- other numbers' bytes do not matter -/
theorem Cac_rd {w : World} {ρ : Ro} {g N : Nat} {rd rd' : Nat → Bk} {cch : List (List Nat)} (h : Cac w ρ g N rd cch) (hr : ∀ i, i < cch.length → ∀ x ∈ cch.getD i [], rd' x = rd x) : Cac w ρ g N rd' cch := by
  obtain ⟨xs, mm, uv, hx⟩ := h
  refine ⟨xs, mm, uv, ⟨hx.row, hx.rowR, hx.len, hx.cell0, hx.cell1, fun i hi => ?_, hx.used⟩⟩
  have e : hasC rd' (cch.getD i []) = hasC rd (cch.getD i []) := by
    funext j
    unfold hasC
    by_cases hj : j ∈ cch.getD i []
    · rw [if_pos hj, if_pos hj, hr i hi j hj]
    · rw [if_neg hj, if_neg hj]
  rw [e]
  exact hx.map i hi
theorem getD_mem {s : Sto} (_h : s.Wf) {i : Nat} (hi : i < s.cch.length) : s.cch.getD i [] = s.cch[i] := by rw [List.getD_eq_getElem?_getD, List.getElem?_eq_getElem hi]; rfl
/-- a look-up of a number at which nothing stands, whatever number -/
theorem MapB.look_no {w : World} {ρ : Ro} {r : Role} {b N : Nat} {f : Nat → Option Bk} (hx : MapB w ρ r b N f) {n : Int} (hf : Fits n) (hn : ∀ m : Nat, n = (m : Int) → f m = none) :
    (Instr.lookup 25 (.map (some b)) (.int .i64 n) true).run Try.prog w = .ok (.tuple #[.slice none 0 0, .bool false]) w := by
  obtain ⟨_, g, h2, h3, h4⟩ := hx
  have e := h2.look_ok hf
  have hz : g n = none := by
    cases hg : g n with
    | none => rfl
    | some v =>
      obtain ⟨m, l, e1, e2, e3, _⟩ := h3 n v hg
      rw [hn m e1] at e3
      cases e3
  rw [hz] at e
  exact e
theorem Home_nil (n : Int) (w : World) : Calls Try.prog 16 #[.pointer none, .int .i64 n] w fun e w' => e = .returned (.int .i64 22) ∧ w = w' := by
  go_enter Try.func16, Try.ntmps16
  go_wp2
  go_ret
  exact ⟨rfl, rfl⟩
set_option maxRecDepth 100000 in
set_option maxHeartbeats 400000 in
theorem Home_no {w : World} {ρ : Ro} {D : Nat → Prop} {b db : Nat} {n : Int} {s : Sto} (h : Own w ρ D b db s) (hf : Fits n) (hn : ∀ m : Nat, n = (m : Int) → s.wai m = none) :
    Calls Try.prog 16 #[.pointer (some ⟨b, 0, none⟩), .int .i64 n] w fun e w' => e = .returned (.int .i64 22) ∧ w = w' := by
  obtain ⟨m1, m2, m3, g, Uv, us, hx, -⟩ := h.ss
  have c2 := hx.c2
  have hl := MapB.look_no hx.wai hf hn
  clear hx h hn
  go_enter Try.func16, Try.ntmps16
  go_wp2
  go_ret
  exact ⟨rfl, rfl⟩

/-- the disk has turned, and what waited does not wait any more -/
theorem home0_of {w w1 w2 : World} {ρ : Ro} {D : Nat → Prop} {b db n m1 m2 m3 g : Nat} {s : Sto} {Uv : Value} {us : List Value} {l : Bk} (h : Own w ρ D b db s) (hx : SSx w ρ b db s m1 m2 m3 g Uv us) (hwai : s.wai n = some l)
    (he : Ext D w w1) (hm : MapB w2 ρ .wai m2 s.N (fun j => if j = n then none else s.wai j)) (ht : w1.mapTurned w2 m2) : SSx w2 ρ b db (s.home0 n l) m1 m2 m3 g Uv us := by
  have hx1 : SSx w1 ρ b db s m1 m2 m3 g Uv us := hx.keep (fun q hq => he.block q (hx.there q hq) (fun hd => h.far q hq hd)) (fun _ _ => rfl) (hx.there.up he.size)
  have hx2 := SSx.waiTurn hx1 hm ht
  have hc : Cac w2 ρ g s.N (s.d.write n l).readAt s.cch := Cac_rd hx2.cac fun i hi x hxm => by
    have e : ({ s with wai := fun j => if j = n then none else s.wai j } : Sto).d.readAt x = s.d.readAt x := rfl
    rw [e, read_write, if_neg]
    rintro rfl
    rw [getD_mem h.wf hi] at hxm
    have := ((h.wf.each i hi).2.2 x hxm).2.2.2
    rw [hwai] at this
    cases this
  exact ⟨hx2.block, hx2.rb, hx2.chg, hx2.wai, hx2.hld, hc, hx2.undo, hx2.acts, hx2.there⟩
theorem goes_disk {w w1 w' : World} {ρ ρ' : Ro} {D D' : Nat → Prop} {b db m1 m2 m3 g : Nat} {s s' : Sto} {Uv : Value} {us : List Value} (h : Own w ρ D b db s) (hd : DD w1 D' db s'.d) (hi : In D' D w) (he : Ext D w w1) (hx : SSx w' ρ' b db s' m1 m2 m3 g Uv us) (hw : s'.Wf)
    (hs : Same ρ ρ' w1) (he2 : Ext (Mine ρ) w1 w') : Goes w w' ρ D ρ' D' b db s' := by
  have hm : ∀ k, Mine ρ' k → k < w1.heap.size → Mine ρ k := fun k hk hlt => by
    unfold Mine at hk ⊢
    rw [← hs k hlt]; exact hk
  have hfar : Far (Mine ρ) D' := fun k h1 h2 => by
    rcases hi k h2 with h3 | h3
    · exact h.far k h1 h3
    · have := h.ss.there k h1; omega
  refine ⟨⟨⟨_, _, _, _, _, _, hx, hw⟩, hd.ext he2 hfar, fun k h1 h2 => hfar k (hm k h1 (hd.there k h2)) h2⟩, (he.more (fun k _ hk => .inr hk)).trans he2 (fun k hk => .inl (.inl hk)), fun k hk => ?_⟩
  rcases hk with hk | hk
  · by_cases hlt : k < w.heap.size
    · exact .inl (.inl (hm k hk (Nat.lt_of_lt_of_le hlt he.size)))
    · exact .inr (by omega)
  · rcases hi k hk with h3 | h3
    · exact .inl (.inr h3)
    · exact .inr h3

set_option maxRecDepth 100000 in
set_option maxHeartbeats 1600000 in
theorem Home_ok {w : World} {ρ : Ro} {D : Nat → Prop} {b db n : Nat} {s : Sto} {l : Bk} (h : Own w ρ D b db s) (hwai : s.wai n = some l) (hload : s.load ≤ 1073741824) :
    Calls Try.prog 16 #[.pointer (some ⟨b, 0, none⟩), .int .i64 n] w fun e w' => e = .returned (.int .i64 0) ∧ ∃ ρ' D', Goes w w' ρ D ρ' D' b db (s.home n l) := by
  have hN := h.len.2
  have hdN : s.d.N ≤ 1073741824 := by unfold Sto.load at hload; omega
  have hwf := h.wf
  obtain ⟨hn, hl256⟩ := hwf.wai n l hwai
  obtain ⟨m1, m2, m3, g, Uv, us, hx, -⟩ := h.ss
  have c0 := hx.c0
  have c2 := hx.c2
  obtain ⟨v2, hk2, hv2, _⟩ := hx.wai.look (n := n) (by omega)
  have hl2 := (hk2 w rfl).1
  rw [hwai] at hl2
  have hlk2 : (Instr.lookup 25 (.map (some m2)) (.int .i64 n) true).run Try.prog w = .ok (.tuple #[v2, .bool true]) w := hl2
  have hbv := hv2 l hwai
  obtain ⟨gv, cv, rv, rfl, rgv, _, hcv, hrv⟩ := id hbv
  have HDW := Lib.hid (Write_ok D db n s.d l w.heap.size (some ⟨gv, 0, none⟩) cv w h.dd (hrv.sl hrv.lt) (Nat.le_refl _) hn hl256 hdN)
  have HX := Lib.hid hx
  have HO := Lib.hid h
  have HWAI := Lib.hid hwai
  have HW := Lib.hid hwf
  have HBV := Lib.hid hbv
  clear hx h hwai hwf hl2 hk2 hv2 hrv hbv
  go_enter Try.func16, Try.ntmps16
  go_wp2_with fail
  refine HDW.out.mono ?_
  rintro e w1 ⟨rfl, D', hd1, he1, hi1⟩
  have kb : ∀ q, Mine ρ q → w1.heap[q]? = w.heap[q]? := fun q hq => he1.block q (HX.out.there q hq) (fun hd => HO.out.far q hq hd)
  have mb := mine_of HX.out.rb (by intro e; cases e)
  have d2 : w1.cell? ⟨b, 2, none⟩ = some (.map (some m2)) := (World.cell?_of_block (kb b mb)).trans c2
  have hw1 : MapB w1 ρ .wai m2 s.N s.wai := HX.out.wai.keep (fun q hq => kb q (mine_still q hq)) (fun _ h => h) (kb m2 (mine_of HX.out.wai.1 (by intro e; cases e))) rfl
  obtain ⟨w2, hrun, hm2, ht2⟩ := hw1.drop (n := n) (by omega) (by intro e; cases e) 0
  have hx2 := home0_of HO.out HX.out HWAI.out he1 hm2 ht2
  have hbv2 : Blk w2 ρ (.slice (some ⟨gv, 0, none⟩) 256 cv) l := HBV.out.keep (fun q hq => (turned_far ht2 (role_ne HX.out.wai.1 (by rw [hq]; intro e; cases e))).trans (kb q (mine_still q hq))) (fun _ h => h)
  have e1 : w2.cell? ⟨b, 1, none⟩ = some (.map (some m1)) := hx2.c1
  obtain ⟨v1, hk1, hv1, hz1⟩ := hx2.chg.look (n := n) (by omega)
  have hl1 := (hk1 w2 rfl).1
  have hmw : Mine ρ m2 := mine_of HX.out.wai.1 (by intro e; cases e)
  have he2 : Ext (Mine ρ) w1 w2 := ext_turned ht2 hmw
  have HX2 := Lib.hid hx2
  have HB2 := Lib.hid hbv2
  have HD1 := Lib.hid hd1
  have HE1 := Lib.hid he1
  have HI1 := Lib.hid hi1
  have HE2 := Lib.hid he2
  clear hx2 hbv2 hd1 he1 hi1 he2 hm2 ht2 hw1 hk1 kb
  cases hc : s.now.chg n with
  | some lc =>
    have hbc := hv1 lc hc
    have hch : ((s.home0 n l).now.chg n).isSome = true := by show (s.now.chg n).isSome = true; rw [hc]; rfl
    rw [hch] at hl1
    obtain ⟨gc, cc, rc, rfl, _⟩ := id hbc
    have HF : Hid (s.home n l = s.home0 n l) := by
      have e : s.home n l = s.home0 n l := by unfold Sto.home; rw [hc]; rfl
      exact e
    clear hc hv1 hz1 hbc hch
    go_wp2
    go_ret
    refine ⟨rfl, ρ, D', ?_⟩
    rw [HF.out]
    exact goes_disk HO.out HD1.out HI1.out HE1.out HX2.out HW.out.home0 (fun _ _ => rfl) HE2.out
  | none =>
    have hzz := hz1 hc
    have hch : ((s.home0 n l).now.chg n).isSome = false := by show (s.now.chg n).isSome = false; rw [hc]; rfl
    rw [hch] at hl1
    subst hzz
    have HF : Hid (s.home n l = (s.home0 n l).use n) := by
      have e : s.home n l = (s.home0 n l).use n := by unfold Sto.home; rw [hc]; rfl
      exact e
    have hwf0 : (s.home0 n l).Wf := HW.out.home0
    have HWU : Hid ((s.home0 n l).use n).Wf := hwf0.use hn hc (by simp [Sto.home0])
    have hN2 : (s.home0 n l).N = s.N := rfl
    obtain ⟨hi3, hsh⟩ := Sto.sh_eq (s.home0 n l) hwf0 n
    have hes := hwf0.each _ hi3
    rw [← hsh] at hes
    have hrd : (s.home0 n l).d.readAt n = l := by
      show (s.d.write n l).readAt n = l
      rw [read_write, if_pos rfl]
    have hbp : Blk w2 ρ (.slice (some ⟨gv, 0, none⟩) 256 cv) ((s.home0 n l).d.readAt n) := by rw [hrd]; exact HB2.out
    have HP := Lib.hid (put_any b g (s.home0 n l).N n s.room ρ (s.home0 n l).d.readAt s.cch (.slice (some ⟨gv, 0, none⟩) 256 cv) w2 HX2.out.there HX2.out.rb (row_lt HX2.out.block) HX2.out.c3 HX2.out.c4 HX2.out.cac HW.out.sh1 HW.out.sh2 hN hn hbp hes.1 hes.2.1 HW.out.room1 HW.out.room2 (fun x hx => ⟨(hes.2.2 x hx).1, (hes.2.2 x hx).2.1⟩))
    clear hc hv1 hz1 hch hwf0 hsh hi3 hes hrd hbp hN2
    go_wp2_with fail
    refine HP.out.mono ?_
    rintro e w3 ⟨rfl, ρ', q1, q2, q3, q4⟩
    have hx3 := SSx.cacTurn HX2.out (by rw [List.length_set]; rfl) q1 q4 q2 q3
    have hs3 : Same ρ ρ' w1 := fun q hq => q2 q (Nat.lt_of_lt_of_le hq HE2.out.size)
    have HG := Lib.hid (goes_disk (s' := (s.home0 n l).use n) HO.out HD1.out HI1.out HE1.out hx3 HWU.out hs3 (HE2.out.trans q4 (fun q hq => .inl (mine_c hq))))
    clear q1 q2 q3 q4 hx3 hs3
    go_wp2
    go_ret
    refine ⟨rfl, ρ', D', ?_⟩
    rw [HF.out]
    exact HG.out
end Go.Proofs.Ytphfidenjihgeaa.EHome
