/- slices.Sorted(maps.Keys(j.live)) and slices.BinarySearch: the numbers that are live, rising, in new memory; is a number among what is changed. -/
import Derived.Test.YtmlgchmladkfpaaGreatDoorMg1
import Derived.Test.YtmlgchmladkfpaaGreatDoorMg36
namespace Go.Proofs.YtmlgchmladkfpaaGreatDoor.NKeys
open Go.RowKit Go.Maps Go.Sort Go.Shelf WMem WPlain WAppend Ext Map DPlain DMem EPlain EMem EFace EKeys NPlain NMem

theorem KeysE_any (mb : Option Nat) (w : World) :
    Calls Tryz.prog 106 #[.map mb] w fun e w' => e = .returned (.func (.func 137) #[] #[.pointer (some ⟨w.heap.size, 0, none⟩)]) ∧ w.alloc (.cells #[.map mb] 98) = w' :=
  (callsIn_wide.1 (AnyZI.keys_in Tryz.keysE Fence.wide 5 trivial rfl mb w)).mono fun _ _ ⟨h1, h2⟩ => ⟨h1, h2.symm⟩

set_option maxRecDepth 100000 in
set_option maxHeartbeats 1000000 in
theorem SortedE_any (g b n m : Nat) (f : Int → Option Value) (w : World) (hg : w.heap[g]? = some (.cells #[.map (some b)] 98 (0, 0))) (h : MapIs w b n f) (hm : ∀ k v, f k = some v → 0 ≤ k ∧ k < (m : Int)) (hmm : m ≤ 4096) :
    Calls Tryz.prog 65 #[.func (.func 137) #[] #[.pointer (some ⟨g, 0, none⟩)]] w fun e w' => ∃ v, e = .returned v ∧
      w'.ownsRow w.heap.size 3 1 v (nums f m).length ((nums f m).map encZ) ∧ (v = .slice none 0 0 ↔ nums f m = []) ∧ Below w.heap.size w w' := by
  obtain ⟨D, ho, hf⟩ := h.cap hm
  have hsz : Maps.size D ≤ m := ho.size_le
  have hseq : SeqGives Fence.wide 2 Tryz.prog 137 #[.pointer (some ⟨g, 0, none⟩)] encZ (fun ss => ss.Perm (intKeys D)) (Maps.size D) w :=
    AnyZI.keys_gives (ρ := Tryz.keysE_ren) { Tryz.keysE with } Fence.wide _ trivial rfl (by omega) g b m D _ (row_lt hg) ((row_cell hg 0).trans rfl) ho
  have cS := AnyZI.sorted_in Tryz.sortedA Fence.wide 5 trivial trivial trivial trivial rfl (by omega) (sorts _) (enters_of Tryz.func91 (by kernel_rfl) rfl) 137 #[.pointer (some ⟨g, 0, none⟩)] trivial (enters_of Tryz.func137 (by kernel_rfl) rfl) _ _ (by unfold maxLen; omega) (by omega) _ hseq
  change CallsIn _ _ Tryz.prog 65 _ _ _ at cS
  refine (callsIn_wide.1 cS).mono ?_
  rintro e w' ⟨v, ss, rfl, hS, hrow, hnil, hb⟩
  have hp : ss.Perm (nums f m) := hS.trans (perm_nums ho hf (by omega) hm).symm
  have hs := sort_nums f m hp
  rw [show (ss.mergeSort fun x y => decide (x ≤ y)) = ss.mergeSort leI from rfl, hs, hp.length_eq] at hrow
  refine ⟨v, rfl, hrow, hnil.trans ⟨fun h => ?_, fun h => ?_⟩, hb⟩
  · rw [h] at hp; exact hp.symm.eq_nil
  · rw [h] at hp; exact hp.eq_nil
/-- the numbers that are live -/
def lives (h : Nat → Bool) (N : Nat) : List Nat := (List.range N).filter fun n => h n
theorem lives_len (h : Nat → Bool) (N : Nat) : (lives h N).length ≤ N := by
  have := List.length_filter_le (fun n => h n) (List.range N)
  simpa [lives] using this
theorem Sorted_l {w : World} {b N : Nat} {h : Nat → Bool} (g : Nat) (hg : w.heap[g]? = some (.cells #[.map (some b)] 98 (0, 0))) (hx : MapL w b N h) (hN : N ≤ 4096) :
    Calls Tryz.prog 65 #[.func (.func 137) #[] #[.pointer (some ⟨g, 0, none⟩)]] w fun e w' => ∃ v, e = .returned v ∧
      w'.ownsRow w.heap.size 3 1 v (lives h N).length ((lives h N).map natv) ∧ Below w.heap.size w w' := by
  obtain ⟨gg, h2, h3, h4⟩ := hx
  have hs : ∀ n ∈ List.range N, (gg (n : Int)).isSome = h n := fun n hn => by
    cases hg : gg n with
    | none => rw [h4 n hg]; rfl
    | some v =>
      obtain ⟨_, j, e1, e2, e3⟩ := h3 n v hg
      have : n = j := by omega
      subst this
      rw [e3]; rfl
  have e1 : nums gg N = (lives h N).map fun n : Nat => (n : Int) := by
    unfold nums lives
    congr 1
    exact List.filter_congr hs
  have e2 : (nums gg N).map encZ = (lives h N).map natv := by
    rw [e1, List.map_map]
    rfl
  have e3 : (nums gg N).length = (lives h N).length := by rw [e1, List.length_map]
  have h := SortedE_any g b N N gg w hg h2 (fun k v hv => by obtain ⟨_, n, a1, a2, _⟩ := h3 k v hv; omega) hN
  rw [e2, e3] at h
  refine h.mono ?_
  rintro e w' ⟨v, rfl, q1, _, q3⟩
  exact ⟨v, rfl, q1, q3⟩
/-- slices.BinarySearch in a row of rising numbers of one's own -/
theorem Search_any {w : World} {base : Nat} {v : Value} {l : List Nat} (ho : w.ownsRow base 3 1 v l.length (l.map natv)) (hs : l.Pairwise (· < ·)) (hl : l.length ≤ 4096) (x : Nat) :
    Calls Tryz.prog 107 #[v, .int .i64 (x : Int)] w fun e w' => ∃ r, e = .returned (.tuple #[.int .i64 (r : Int), .bool (decide (x ∈ l))]) ∧ ∃ q, w' = w.drewN q := by
  by_cases h0 : l = []
  · subst h0
    obtain ⟨A, c, rfl, _⟩ := own_cell1 (S := fun _ => True) ⟨own_base ho (fun _ _ => Nat.zero_le _), fun _ _ => trivial⟩
    refine (Any.slices_BinarySearch_int_empty Tryz.searchA A c (x : Int) w).mono ?_
    rintro e w' ⟨rfl, rfl⟩
    exact ⟨0, rfl, 0, rfl⟩
  · obtain ⟨A, c, rfl, hA, hcl⟩ := own_cell1 (S := fun _ => True) ⟨own_base ho (fun _ _ => Nat.zero_le _), fun _ _ => trivial⟩
    have hpos : 0 < l.length := List.length_pos_iff.2 h0
    obtain ⟨g, rfl, _, _⟩ := hcl 0 (natv l[0]) (by simp [List.getElem?_eq_getElem hpos])
    have C := Any.slices_BinarySearch_int Tryz.searchA g 0 l.length c (l.map fun n : Nat => (n : Int)) (x : Int) w (by simp) (by omega) (fun j hj => by
      have hj' : j < l.length := by simpa using hj
      obtain ⟨g', e, _, h2⟩ := hcl j (natv l[j]) (by simp [List.getElem?_eq_getElem hj'])
      cases e
      rw [show (0 + j) = j by omega, h2]
      simp [List.getD_eq_getElem?_getD, List.getElem?_eq_getElem hj', natv]) (by
        rw [List.take_of_length_le (by simp)]
        exact List.pairwise_map.2 (hs.imp fun h => by omega))
    have e2 : ((l.map fun n : Nat => (n : Int)).take l.length).contains (x : Int) = decide (x ∈ l) := by
      rw [List.take_of_length_le (by simp), Bool.eq_iff_iff]
      simp
      refine ⟨fun ⟨a, h1, h2⟩ => ?_, fun h => ⟨x, h, rfl⟩⟩
      have : a = x := by omega
      exact this ▸ h1
    rw [e2] at C
    refine C.mono ?_
    rintro e w' ⟨rfl, hq⟩
    exact ⟨_, rfl, hq⟩
end Go.Proofs.YtmlgchmladkfpaaGreatDoor.NKeys
/- The blocks whose copies may not be laid home any more. -/
namespace Go.Proofs.YtmlgchmladkfpaaGreatDoor.NRevoke
open Go.RowKit WMem WPlain WAppend Ext Map DPlain DMem EPlain EMem EFace EWrites NPlain NMem NKeys

theorem elemI : Elem Tryz.prog 55 3 8 := ⟨by kernel_rfl, by
  obtain ⟨i, h1, h2, h3, h4⟩ := info_parts (P := Tryz.prog) (e := 3) (z := .int .i64 0) (size := 1) (bytes := 8) (by kernel_rfl)
  exact ⟨i, _, h1, h2, h3, h4, rfl⟩⟩
theorem revoked_eq (j : Jr) (s : Sto) : revoked j s = (lives j.live s.N).filter fun n => s.now.hld n && !decide (n ∈ numsOf s.now.chg s.N) := by
  unfold revoked lives
  rw [List.filter_filter]
  refine List.filter_congr fun n hn => ?_
  have hn' : n < s.N := by simpa using hn
  have : decide (n ∈ numsOf s.now.chg s.N) = (s.now.chg n).isSome := by
    rw [Bool.eq_iff_iff]
    simp [nums_mem, hn']
  rw [this]
  cases j.live n <;> cases s.now.hld n <;> cases (s.now.chg n).isSome <;> rfl
theorem filter_step {l : List Nat} {p : Nat → Bool} {k : Nat} (hk : k < l.length) : (l.take (k + 1)).filter p = (l.take k).filter p ++ (if p l[k] then [l[k]] else []) := by
  rw [List.take_succ_eq_append_getElem hk, List.filter_append]
  congr 1
  by_cases h : p l[k] = true
  · simp [h]
  · simp [h]
theorem numsOf_rising (f : Nat → Option Bk) (N : Nat) : (numsOf f N).Pairwise (· < ·) := List.Pairwise.filter _ List.pairwise_lt_range
set_option maxRecDepth 100000 in
set_option maxHeartbeats 2000000 in
theorem Revoked_own {w : World} {K : Nat → Prop} {ρ : Ro} {D : Nat → Prop} {jb ml mc b db : Nat} {j : Jr} {s : Sto} (h : JO w ρ D K jb ml mc b db j s) (base : Nat) (vC : Value)
    (hC : w.ownsRow base 3 1 vC (numsOf s.now.chg s.N).length ((numsOf s.now.chg s.N).map natv)) :
    Calls Tryz.prog 83 #[.pointer (some ⟨jb, 0, none⟩), vC] w fun e w' => ∃ v, e = .returned v ∧ w'.ownsRow w.heap.size 3 1 v (revoked j s).length ((revoked j s).map natv) ∧ Below w.heap.size w w' := by
  have hN := h.own.len.2
  have hnl := nums_len s.now.chg s.N
  have HRE := Lib.hid (revoked_eq j s)
  have HCS := Lib.hid (numsOf_rising s.now.chg s.N)
  have HO := Lib.hid h
  obtain ⟨A, c, hx, _⟩ := h.jx
  have hjt := hx.own_there
  obtain ⟨c0, c1, c2, c3, c4, c5, c6, _⟩ := hx.cells
  have hjl := hx.lt
  have HLV := Lib.hid hx.live
  have hll := lives_len j.live s.N
  generalize revoked j s = rv at *
  generalize numsOf s.now.chg s.N = cs at *
  have HCO := Lib.hid hC
  obtain ⟨Ac, cc, rfl, _, _⟩ := own_cell1 (S := fun _ => True) ⟨own_base hC (fun _ _ => Nat.zero_le _), fun _ _ => trivial⟩
  obtain ⟨m, hm⟩ : ∃ m, cs.length = m := ⟨_, rfl⟩
  have HM := Lib.hid hm
  rw [hm] at hnl ⊢
  have hml := HLV.out.lt
  clear hx hC h hm
  go_enter Tryz.func83, Tryz.ntmps83
  go_wp2_with fail
  refine (KeysE_any (some ml) w).mono ?_
  rintro e w1 ⟨rfl, rfl⟩
  go_wp2_with fail
  refine (Sorted_l w.heap.size (row_new _ _) (HLV.out.keep (Below.heap_alloc _ _ _ hml)) hN).mono ?_
  rintro e w2 ⟨v, rfl, ho, hb⟩
  have HL := Lib.hid ho
  have HB : Hid (Below w.heap.size w w2) := Lib.hid (((Below.refl _ _).alloc (Nat.le_refl _) _).trans (hb.mono (by simp)))
  obtain ⟨Al, cl, rfl, _, hel⟩ := own_cell1 (S := fun _ => True) ⟨own_base ho (fun _ _ => Nat.zero_le _), fun _ _ => trivial⟩
  have HEL := Lib.hid hel
  have hs2 := HB.out.size
  obtain ⟨n, hn⟩ : ∃ n, (lives j.live s.N).length = n := ⟨_, rfl⟩
  have HNL := Lib.hid hn
  generalize hlv : lives j.live s.N = ls at *
  have HLS := Lib.hid hlv
  rw [hn] at hll ⊢
  clear ho hb hel hlv hn
  go_wp2_with fail
  go_loopw [5, 17] (fun v5 i wr => ∃ k : Nat, k ≤ n ∧ i = .int .i64 k ∧ wr.ownsRow w2.heap.size 3 1 v5 ((ls.take k).filter fun n => s.now.hld n && !decide (n ∈ cs)).length (((ls.take k).filter fun n => s.now.hld n && !decide (n ∈ cs)).map natv) ∧ Below w2.heap.size w2 wr) (fun _ i _ => n - (intOf i).toNat)
  case atStart => exact ⟨0, Nat.zero_le _, rfl, ⟨rfl, .inl ⟨rfl, rfl⟩⟩, Below.refl _ _⟩
  case round =>
    obtain ⟨k, hk, rfl, hrow, hbw⟩ := hrel
    have HROW := Lib.hid hrow
    have HBW := Lib.hid hbw
    have hsw := hbw.size
    clear hrow hbw
    have hW : Below w.heap.size w wr := HB.out.trans (HBW.out.mono hs2)
    have HOW := Lib.hid (HO.out.below hW)
    have cj0 : wr.cell? ⟨jb, 0, none⟩ = some (.pointer (some ⟨b, 0, none⟩)) := (hW.cell (p := ⟨jb, 0, none⟩) hjl).trans c0
    have HSC := Lib.hid (fun q => Search_any (w := wr) (own_same HCO.out (fun q hq => hW.block q (own_lt HCO.out q hq))) HCS.out (by rw [HM.out]; omega) q)
    rw [HM.out] at HSC
    clear hW
    by_cases hlt : k < n
    · have hlt' : k < ls.length := by rw [HNL.out]; exact hlt
      obtain ⟨g, rfl, _, ce⟩ := HEL.out k (natv ls[k]) (by simp [List.getElem?_eq_getElem hlt'])
      have hgl := World.block_lt_of_cell? _ _ ce
      have ce : wr.cell? ⟨g, k, none⟩ = some (natv ls[k]) := (HBW.out.cell (p := ⟨g, k, none⟩) hgl).trans ce
      have HFS := Lib.hid (filter_step (p := fun n => s.now.hld n && !decide (n ∈ cs)) hlt')
      have hxN : Hid (ls[k] < s.N) := Lib.hid (by
        have := List.getElem_mem hlt'
        have e := HLS.out
        have h2 : ls[k] ∈ lives j.live s.N := by rw [e]; exact this
        simpa [lives] using (List.mem_filter.1 h2).1)
      generalize ls[k] = x at *
      have hxb : x < 4097 := by have := hxN.out; omega
      change wr.cell? ⟨g, k, none⟩ = some (.int .i64 (x : Int)) at ce
      have hk0 : (0 : Int) ≤ (k : Int) := by omega
      have hk1 : (k : Int) < (n : Int) := by omega
      have hhv : heldV s (x : Int) = s.now.hld x := by simp [heldV]
      have HHV := Lib.hid hhv
      clear hgl hhv
      generalize hFF : (ls.take k).filter (fun n => s.now.hld n && !decide (n ∈ cs)) = F at *
      generalize hGG : (ls.take (k + 1)).filter (fun n => s.now.hld n && !decide (n ∈ cs)) = G at *
      have hFl : F.length ≤ 4096 := by
        have h1 := List.length_filter_le (fun n => s.now.hld n && !decide (n ∈ cs)) (ls.take k)
        rw [hFF] at h1
        have h2 := List.length_take_le k ls
        omega
      have HGG := Lib.hid hGG
      clear hFF hGG
      by_cases hmem : x ∈ cs
      · have HSX := Lib.hid (HSC.out x)
        have hd : decide (x ∈ cs) = true := by simp [hmem]
        rw [hd] at HSX
        have HF : Hid (G = F) := Lib.hid (by have := HFS.out; simpa [hmem] using this)
        clear hd
        go_wp2_with fail
        refine HSX.out.mono ?_
        rintro e w4 ⟨r, rfl, q, rfl⟩
        go_wp2
        go_roundw
        case rel => exact ⟨k + 1, by omega, by go_num, by rw [HGG.out, HF.out]; exact own_same HROW.out (fun _ _ => rfl), below_drewN HBW.out q⟩
        case measure => simp [intOf]; omega
      · have HSX := Lib.hid (HSC.out x)
        have hd : decide (x ∈ cs) = false := by simp [hmem]
        rw [hd] at HSX
        clear hd
        cases hh : s.now.hld x with
        | false =>
          have HF : Hid (G = F) := Lib.hid (by have := HFS.out; simpa [hh] using this)
          have HHF := Lib.hid (HHV.out.trans hh)
          clear hh
          go_wp2_with fail
          refine HSX.out.mono ?_
          rintro e w4 ⟨r, rfl, q, rfl⟩
          have cq0 : (wr.drewN q).cell? ⟨jb, 0, none⟩ = some (.pointer (some ⟨b, 0, none⟩)) := cj0
          go_wp2_with fail
          refine (Held_own (HOW.out.drewN q).own (x : Int) ⟨by omega, by omega⟩).mono ?_
          rw [HHF.out]
          rintro e w5 ⟨rfl, hb5⟩
          have HB5 := Lib.hid ((below_drewN HBW.out q).trans (hb5.mono hsw))
          have HR5 := Lib.hid (own_same HROW.out (fun q' hq => hb5.block q' (own_lt HROW.out q' hq)))
          have hs5 := HB5.out.size
          clear hb5
          go_wp2
          go_roundw
          case rel => exact ⟨k + 1, by omega, by go_num, by rw [HGG.out, HF.out]; exact HR5.out, HB5.out⟩
          case measure => simp [intOf]; omega
        | true =>
          have HF : Hid (G = F ++ [x]) := Lib.hid (by have := HFS.out; simpa [hh, hmem] using this)
          have HHF := Lib.hid (HHV.out.trans hh)
          clear hh
          go_wp2_with fail
          refine HSX.out.mono ?_
          rintro e w4 ⟨r, rfl, q, rfl⟩
          have cq0 : (wr.drewN q).cell? ⟨jb, 0, none⟩ = some (.pointer (some ⟨b, 0, none⟩)) := cj0
          go_wp2_with fail
          refine (Held_own (HOW.out.drewN q).own (x : Int) ⟨by omega, by omega⟩).mono ?_
          rw [HHF.out]
          rintro e w5 ⟨rfl, hb5⟩
          have HB5 := Lib.hid ((below_drewN HBW.out q).trans (hb5.mono hsw))
          have HR5 := Lib.hid (own_same HROW.out (fun q' hq => hb5.block q' (own_lt HROW.out q' hq)))
          have hs5 := HB5.out.size
          clear hb5
          go_wp2_with (at_builtin; go_loud (refine wl_append rfl (.tmp 37) (.tmp 39) 55 rfl w2.heap.size 3 8 elemI u5 F.length (F.map natv) rfl (own_same HR5.out (fun q hq => Below.heap_alloc w5 _ q (own_lt HR5.out q hq))) (w5.heap.size + 1) (some ⟨w5.heap.size, 0, none⟩) 1 1 [.int .i64 (x : Int)] rfl rfl (JBody.sl_new rfl [.int .i64 (x : Int)] _) (by simp [Value.oneCell']) (by omega) (by unfold maxLen; omega) (by simp; omega) ?_); intro v' w6 h1 h2 h3)
          go_wp2
          go_roundw
          case rel => exact ⟨k + 1, by omega, by go_num, by rw [HGG.out, HF.out]; simpa [natv] using h1, (HB5.out.alloc hs5 _).grown h2 (by simp; omega) (fun q hq => own_ge HR5.out q hq)⟩
          case measure => simp [intOf]; omega
    · obtain rfl : k = n := by omega
      have hfull : (ls.take k).filter (fun n => s.now.hld n && !decide (n ∈ cs)) = rv := by rw [List.take_of_length_le (by have := HNL.out; omega)]; exact HRE.out.symm
      rw [hfull] at HROW
      have d1 : ¬ ((k : Int) < (k : Int)) := by omega
      clear hfull
      obtain ⟨A5, c5, rfl, _, _⟩ := own_cell1 (S := fun _ => True) ⟨own_base HROW.out (fun _ _ => Nat.zero_le _), fun _ _ => trivial⟩
      go_wp2
      go_ret
      exact ⟨_, rfl, own_base HROW.out (fun q hq => by have := own_ge HROW.out q hq; omega), HB.out.trans (HBW.out.mono hs2)⟩
end Go.Proofs.YtmlgchmladkfpaaGreatDoor.NRevoke
