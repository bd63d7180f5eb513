/- Pack: the program's block of a record. -/
import Derived.Test.YtmlgchmladkfpaaGreatDoorMg28
import Derived.Test.YtmlgchmladkfpaaGreatDoorMg24
import Derived.Deep.DeepCutAuto
namespace Go.Proofs.YtmlgchmladkfpaaGreatDoor.JPack
open Go.RowKit WMem WPlain WList WPack WHelp WAppend WWide WAny WCrc WSeal SNums JPlain JMem JMay JMul JWide JBody JMayBe

def headV (r : Rec) : List Value := [.int .u64 1213813321, .int .u64 r.kind, .int .u64 r.seq, .int .u64 (r.ents.length : Int)]
theorem recN_vals {r : Rec} (h : recMay r = true) : (nums (recN r)).map u64v = headV r ++ (nums (bodyN r)).map u64v := by
  obtain ⟨h1, h2, h3, h4⟩ := recMay_iff.1 h
  have q1 := seqOk_iff.1 h1
  have hk : 0 ≤ r.kind ∧ r.kind < 256 := by rcases hasOk_cases h2 with ⟨e, _⟩ | ⟨e, _⟩ | ⟨e, _⟩ | ⟨e, _⟩ <;> omega
  have hn : r.ents.length < 65536 := by rcases hasOk_cases h2 with ⟨e, _⟩ | ⟨e, _⟩ | ⟨e, _⟩ | ⟨e, _⟩ <;> omega
  simp only [recN, headN, nums, List.map_append, List.map_cons, List.map_nil]
  rw [u64_of (x := 1213813321) (by omega), u64_of (x := r.kind.toNat) (by omega), u64_of (x := r.seq.toNat) (by omega), u64_of (x := r.ents.length) (by omega)]
  rw [Int.toNat_of_nonneg hk.1, Int.toNat_of_nonneg (show 0 ≤ r.seq by omega)]
  rfl
theorem bodyN_pos {r : Rec} (h : hasOk r.kind r.ents.length = true) : 0 < (bodyN r).length ∧ (bodyN r).length ≤ 96 := by
  unfold bodyN
  rcases hasOk_cases h with ⟨e, _⟩ | ⟨e, _⟩ | ⟨e, _⟩ | ⟨e, _⟩
  · rw [e]
    simp only [if_true]
    rw [ent2s_len]
    omega
  all_goals simp [e]
  omega
theorem owns_of_rowV {w : World} {g base n : Nat} {T : TypeId} {xs : List Value} (h : RowV w g T xs) (hb : base ≤ g) (hn : xs.length = n) (hm : n ≤ maxLen) : w.ownsRow base T 1 (.slice (some ⟨g, 0, none⟩) n n) n xs :=
  ⟨by omega, .inr ⟨g, n, xs.toArray, rfl, hb, h, Nat.le_refl _, hm, by simp [hn], by rw [Nat.mul_one, ← hn]; simp⟩⟩
theorem owns_apart {w : World} {B B' : Nat} {e e' : TypeId} {k k' : Nat} {v v' : Value} {n n' : Nat} {xs xs' : List Value} (h : w.ownsRow B e k v n xs) (h' : w.ownsRow B' e' k' v' n' xs') (hne : e ≠ e') : v.ownBlock = none ∨ v.ownBlock ≠ v'.ownBlock := by
  rcases h.2 with ⟨rfl, _⟩ | ⟨g, cap, cur, rfl, _, hg, _⟩
  · exact .inl rfl
  · refine .inr fun e0 => ?_
    rcases h'.2 with ⟨rfl, _⟩ | ⟨g', cap', cur', rfl, _, hg', _⟩
    · simp [Value.ownBlock] at e0
    · simp [Value.ownBlock] at e0
      subst e0
      rw [hg] at hg'
      injection hg' with hg'
      injection hg' with _ h2
      exact hne h2
theorem infoInt : (Tryz.prog.info? 3).map (fun i => (i.zero, i.size, i.bytes)) = some (some (.int .i64 0), 1, 8) := by kernel_rfl
theorem underI : Tryz.prog.underlying 55 = some (.slice 3) := by kernel_rfl
theorem owns_below {w w' : World} {B : Nat} {e : TypeId} {k : Nat} {v : Value} {n : Nat} {xs : List Value} (h : w.ownsRow B e k v n xs) (hb : Below w.heap.size w w') : w'.ownsRow B e k v n xs :=
  h.kept (below_grown hb none) (by cases v.ownBlock <;> simp)
theorem owns_base {w : World} {B B' : Nat} {e : TypeId} {k : Nat} {v : Value} {n : Nat} {xs : List Value} (h : w.ownsRow B e k v n xs) (hB : B' ≤ B) : w.ownsRow B' e k v n xs := by
  refine ⟨h.1, ?_⟩
  rcases h.2 with hn | ⟨g, cap, cur, rfl, hb, rest⟩
  · exact .inl hn
  · exact .inr ⟨g, cap, cur, rfl, Nat.le_trans hB hb, rest⟩
/-- the cells of one's own row, to be appended -/
theorem owns_news {w : World} {B : Nat} {e : TypeId} {v : Value} {n : Nat} {xs : List Value} (h : w.ownsRow B e 1 v n xs) (hn : 0 < n) : ∃ g c, v = .slice (some ⟨g, 0, none⟩) n c ∧ B ≤ g ∧ g < w.heap.size ∧ ∀ j u, xs[j]? = some u → w.cell? ((⟨g, 0, none⟩ : Addr).add j) = some u := by
  obtain ⟨g, c, rfl, hb, hg⟩ := h.form hn
  refine ⟨g, c, rfl, hb, h.lt g rfl |>.2, fun j u hu => ?_⟩
  have hj : j < n * 1 := by
    have := (List.getElem?_eq_some_iff.1 hu).1
    rw [h.1] at this
    exact this
  have hadd : (⟨g, 0, none⟩ : Addr).add j = ⟨g, j, none⟩ := by unfold Addr.add; split <;> simp_all
  rw [hadd, h.cellAt j hj, hu]
theorem Boxed.grown {a w w' : World} {vs : List Value} {g : Nat} (h : Boxed a w vs) (hg : w.grownBy w' (some g)) (hlt : a.heap.size < g) : Boxed a w' vs :=
  ⟨h.below.grown hg (by have := h.lt; omega) (fun q hq => by injection hq with hq; omega), by have := h.lt; have := hg.size; omega, fun i v hv => (World.cell?_of_block (hg.block a.heap.size h.lt (fun e => by injection e with e; omega))).trans (h.cell i v hv)⟩
theorem one_u64 (l : List UInt64) : ∀ u ∈ l.map u64v, u.oneCell' = true := by
  intro u hu
  obtain ⟨x, _, rfl⟩ := List.mem_map.1 hu
  rfl
theorem one_i64 (l : List Int) : ∀ u ∈ l.map i64v, u.oneCell' = true := by
  intro u hu
  obtain ⟨x, _, rfl⟩ := List.mem_map.1 hu
  rfl
theorem headWidths_ex (w : World) : Calls Tryz.prog 130 #[] w fun e w' => ∃ g, e = .returned (.slice (some ⟨g, 0, none⟩) 4 4) ∧ w.heap.size ≤ g ∧ RowV w' g 3 (headW.map i64v) ∧ Below w.heap.size w w' :=
  (headWidths_any w).mono fun _ _ ⟨h1, h2, h3⟩ => ⟨_, h1, Nat.le_refl _, h2, h3⟩
theorem sl_own {w : World} {B g n cap : Nat} {e : TypeId} {xs : List Value} (h : w.ownsRow B e 1 (.slice (some ⟨g, 0, none⟩) n cap) n xs) : Sl w w.heap.size (some ⟨g, 0, none⟩) xs := by
  obtain ⟨A, c, e, hs, _⟩ := own_sl h
  injection e with e1
  subst e1
  exact hs
theorem PackW_at2 (len : Nat) (xs : List UInt64) (hlen : xs.length = len) (len' : Nat) (ws : List Int) (hlen' : ws.length = len') (B : Nat) (A A' : Option Addr) (c c' : Nat) (w : World) (size : Nat) (hB : B ≤ w.heap.size) (h : packs xs ws (size : Int)) (hx : fit (nats ws) xs) (hA : Sl w B A (xs.map u64v)) (hA' : Sl w B A' (ws.map i64v)) :
    Calls Tryz.prog 129 #[.slice A len c, .slice A' len' c', .int .i64 (size : Int)] w fun e w' =>
      ∃ g, e = .returned (.tuple #[.slice (some ⟨g, 0, none⟩) size size, .int .i64 0]) ∧ w.heap.size ≤ g ∧ Row w' g (bytesOf_ xs ws (size : Int)) [] ∧ Below w.heap.size w w' := by
  subst hlen'
  exact PackW_at len xs hlen ws B A A' c c' w size hB h hx hA hA'
theorem Pack_no (r : Rec) (h : recMay r = false) (B : Nat) (A : Option Addr) (c : Nat) (w : World) (hB : B ≤ w.heap.size) (hA : Ents w B A r.ents) (hl : r.ents.length ≤ 140737488355328) :
    Calls Tryz.prog 99 #[recV r A c] w fun e w' => e = .returned (.tuple #[.slice none 0 0, .int .i64 22]) ∧ Below w.heap.size w w' := by
  have H := Lib.hid (mayBe_any r false h B A c (w.alloc (.cells #[.int .i64 r.kind, .int .i64 r.seq, .slice A r.ents.length c, .int .u32 (r.sum : Int), .int .i64 r.start] 154)) (by simp; omega) (hA.alloc hB _) hl)
  unfold recV at H ⊢
  clear h hA
  go_enter Tryz.func99, Tryz.ntmps99
  go_wp2_with fail
  refine H.out.mono ?_
  rintro e w1 ⟨rfl, hb⟩
  go_wp2
  go_ret2
  exact ⟨rfl, below_box_to hb⟩
set_option maxRecDepth 100000 in
set_option maxHeartbeats 8000000 in
theorem Pack_yes (r : Rec) (h : recMay r = true) (hs : r.sum < 4294967296) (B : Nat) (A : Option Addr) (c : Nat) (w : World) (hB : B ≤ w.heap.size) (hA : Ents w B A r.ents) (hT : Tab w) :
    Calls Tryz.prog 99 #[recV r A c] w fun e w' => ∃ g, e = .returned (.tuple #[.slice (some ⟨g, 0, none⟩) 256 256, .int .i64 0]) ∧ w.heap.size ≤ g ∧ Row w' g (recBytes r) [] ∧ Below w.heap.size w w' := by
  have hok := (recMay_iff.1 h).2.1
  have hsq := seqOk_iff.1 (recMay_iff.1 h).1
  have hl : r.ents.length ≤ 140737488355328 := by rcases hasOk_cases hok with e | e | e | e <;> omega
  have hkd : 0 ≤ r.kind ∧ r.kind ≤ 4 := by rcases hasOk_cases hok with e | e | e | e <;> omega
  have H := Lib.hid (mayBe_any r true h B A c (w.alloc (.cells #[.int .i64 r.kind, .int .i64 r.seq, .slice A r.ents.length c, .int .u32 (r.sum : Int), .int .i64 r.start] 154)) (by simp; omega) (hA.alloc hB _) hl)
  have HBODY : Hid (∀ w1, Below w.heap.size w w1 → Calls Tryz.prog 128 #[recV r A c] w1 fun e w' => ∃ v, e = .returned v ∧ w'.ownsRow w1.heap.size 183 1 v (bodyN r).length ((nums (bodyN r)).map u64v) ∧ Below w1.heap.size w1 w') :=
    Lib.hid (fun w1 hb => body_any r h hs B A c w1 (Nat.le_trans hB hb.size) (hA.below hb hB))
  have HW := Lib.hid (bodyWidths_any r.kind r.ents.length hok)
  have HP := Lib.hid (rec_packs hok)
  have HF := Lib.hid (rec_fit h hs)
  have HV := Lib.hid (recN_vals h)
  have HT := Lib.hid hT
  have htl := Tab.lt hT
  have HX := Lib.hid (Boxed.start w [.int .i64 r.kind, .int .i64 r.seq, .slice A r.ents.length c, .int .u32 (r.sum : Int), .int .i64 r.start] 154)
  obtain ⟨hm0, hm1⟩ := bodyN_pos hok
  have hbw := bodyN_len hok
  have hrl : (recN r).length = 4 + (bodyN r).length := by simp [recN, headN]; omega
  have HRW : Hid ((recW r.kind r.ents.length).map i64v = headW.map i64v ++ (bodyW r.kind r.ents.length).map i64v) := Lib.hid (by rw [recW, List.map_append])
  have HRB : Hid (recBytes r = blockOf (nums (recN r)) (recW r.kind r.ents.length) r.seq.toNat) := rfl
  have HBW : Hid ((bodyW r.kind r.ents.length).length = (bodyN r).length) := Lib.hid hbw.symm
  have HWL : Hid ((recW r.kind r.ents.length).length = 4 + (bodyN r).length) := Lib.hid (by rw [recW, List.length_append, ← hbw]; rfl)
  have HHV : Hid (headV r = [.int .u64 1213813321, .int .u64 r.kind, .int .u64 r.seq, .int .u64 (r.ents.length : Int)]) := rfl
  have HNL : Hid ((nums (recN r)).length = 4 + (bodyN r).length) := Lib.hid (by rw [nums_len, hrl])
  have HBL : Hid (((nums (bodyN r)).map u64v).length = (bodyN r).length) := Lib.hid (by rw [List.length_map, nums_len])
  unfold recV at H HBODY ⊢
  obtain ⟨kind, seq, l, sum, start⟩ := r
  simp only at *
  have s1 : IntKind.u64.wrap kind = kind := by rw [IntKind.wrap_u64]; omega
  have s2 : IntKind.u64.wrap seq = seq := by rw [IntKind.wrap_u64]; omega
  have s3 : IntKind.u64.wrap (l.length : Int) = (l.length : Int) := by rw [IntKind.wrap_u64]; omega
  have s4 : IntKind.u32.wrap seq = seq := by rw [IntKind.wrap_u32]; omega
  generalize hbn : bodyN ⟨kind, seq, l, sum, start⟩ = bn at *
  generalize hrn : recN ⟨kind, seq, l, sum, start⟩ = rn at *
  generalize hm : bn.length = m at *
  obtain ⟨i0, hi0, hz0, hz1, hz2⟩ := info_parts info64
  clear h hA hT hok hbn hrn hrl hbw
  go_enter Tryz.func99, Tryz.ntmps99
  go_wp2_with fail
  refine H.out.mono ?_
  rintro e w1 ⟨rfl, hb⟩
  have HY := Lib.hid (HX.out.go hb)
  obtain ⟨c0, c1, c2, c3, c4⟩ := HY.out.five
  have hlt1 := HY.out.lt
  clear hb
  go_upto_region 4 with fail
  go_cut [5] (fun s5 wx => Hid (wx.ownsRow (w.heap.size + 1) 183 1 s5 (4 + m) ((nums rn).map u64v)) ∧ Hid (Boxed w wx [.int .i64 kind, .int .i64 seq, .slice A l.length c, .int .u32 (sum : Int), .int .i64 start]))
  case first =>
    go_region_law
      ((first
        | (refine step_append_lies _ (by rfl) _ _ _ (by rfl) (w.heap.size + 1) 183 i0 _ 1 8 under64 hi0 hz0 hz1 hz2 rfl (by omega) (.slice (some ⟨w1.heap.size, 0, none⟩) 4 4) 4 [.int .u64 1213813321, .int .u64 kind, .int .u64 seq, .int .u64 (l.length : Int)] (by rfl) (owns_of_rowV ((HB2.out.block w1.heap.size (by simp)).trans (row_new w1 _)) (by omega) rfl (by decide)) ⟨g2, 0, none⟩ m cc2 ((nums bn).map u64v) (by rfl) (by rw [HBL.out]; omega) (HN2.out) (one_u64 _) (by omega) (by unfold maxLen; omega) (by omega) (by have := HY2.out.lt; omega) _ rfl ?_; intro gg cap w3 hown3 hgrow hat hlt3
           have HY3 : Hid (Boxed w w3 [.int .i64 kind, .int .i64 seq, .slice A l.length c, .int .u32 (sum : Int), .int .i64 start]) := Lib.hid (Boxed.grown HY2.out hgrow (by have := HY2.out.lt; omega)))
        | (refine step_append_lies _ (by rfl) _ _ _ (by rfl) (w.heap.size + 1) 183 i0 _ 1 8 under64 hi0 hz0 hz1 hz2 rfl (by omega) (.slice (some ⟨w2.heap.size, 0, none⟩) 4 4) 4 [.int .u64 1213813321, .int .u64 kind, .int .u64 seq, .int .u64 (l.length : Int)] (by rfl) (owns_of_rowV (row_new w2 _) (by have := HY2.out.lt; omega) rfl (by decide)) ⟨g2, 0, none⟩ m cc2 ((nums bn).map u64v) (by rfl) (by rw [HBL.out]; omega) (fun j u hu => (World.cell?_alloc_lt w2 _ _ (by rw [addr_add_block]; exact hg2')).trans (HN2.out j u hu)) (one_u64 _) (by omega) (by unfold maxLen; omega) (by omega) (by have := HY2.out.lt; simp; omega) _ rfl ?_; intro gg cap w3 hown3 hgrow hat hlt3
           have HY3 : Hid (Boxed w w3 [.int .i64 kind, .int .i64 seq, .slice A l.length c, .int .u32 (sum : Int), .int .i64 start]) := Lib.hid (Boxed.grown (HY2.out.alloc _) hgrow (by have := HY2.out.lt; omega)))
        | (go_simp; go_at_call 128; refine (HBODY.out _ (by first | exact HY.out.below | exact (HY.out.drewN 1).below | exact (HY.out.alloc _).below | exact ((HY.out.alloc _).drewN 1).below)).mono ?_; rintro e w2 ⟨v2, rfl, hO2, hb2⟩
           have HY2 : Hid (Boxed w w2 [.int .i64 kind, .int .i64 seq, .slice A l.length c, .int .u32 (sum : Int), .int .i64 start]) := Lib.hid (by first | exact HY.out.go hb2 | exact (HY.out.drewN 1).go hb2 | exact ((HY.out.alloc _).drewN 1).go hb2)
           obtain ⟨d0, d1, d2, d3, d4⟩ := HY2.out.five
           obtain ⟨g2, cc2, rfl, hg2, hg2', hn2⟩ := owns_news hO2 hm0
           have HN2 := Lib.hid hn2
           have HB2 := Lib.hid hb2
           clear hO2 hb2 hn2)))
    all_goals
      go_wp2_with fail
      go_meet
      refine ⟨Lib.hid ?_, HY3⟩
      rw [HV.out, HHV.out]
      exact hown3
  case rest =>
    obtain ⟨HO, HYC⟩ := hcut
    have hltc := HYC.out.lt
    obtain ⟨c0, c1, c2, c3, c4⟩ := HYC.out.five
    obtain ⟨j0, hj0, hy0, hy1, hy2⟩ := info_parts infoInt
    obtain ⟨A5, c5, rfl, hs5⟩ := own_sl HO.out
    have HS5 := Lib.hid hs5.1
    clear hs5 HO
    go_upto_region 5 with fail
    go_cut [6, 7] (fun s6 s7 wx => ∃ g, s6 = .slice (some ⟨g, 0, none⟩) 256 256 ∧ s7 = .int .i64 0 ∧ w.heap.size < g ∧ Hid (Row wx g (bytesOf_ (nums rn) (recW kind l.length) 256) []) ∧ Hid (Boxed w wx [.int .i64 kind, .int .i64 seq, .slice A l.length c, .int .u32 (sum : Int), .int .i64 start]))
    case first =>
      go_region_law
        ((first
        | (refine step_append_lies _ (by rfl) _ _ _ (by rfl) (w.heap.size + 1) 3 j0 _ 1 8 underI hj0 hy0 hy1 hy2 rfl (by omega) _ 4 (headW.map i64v) (by rfl) (owns_of_rowV HRH.out (by omega) rfl (by decide)) ⟨gb, 0, none⟩ m m ((bodyW kind l.length).map i64v) (by rfl) (by rw [List.length_map, HBW.out]; omega) (fun j u hu => by obtain ⟨a, e, _, hcell⟩ := (HRB2.out.sl HRB2.out.lt) j u hu; injection e with e; subst e; exact hcell) (one_i64 _) (by omega) (by unfold maxLen; omega) (by omega) (by omega) _ rfl ?_; intro gg cap w4 hown4 hgrow hat hlt4
           have HY5 : Hid (Boxed w w4 [.int .i64 kind, .int .i64 seq, .slice A l.length c, .int .u32 (sum : Int), .int .i64 start]) := Lib.hid (Boxed.grown HY4.out hgrow (Nat.lt_of_lt_of_le hltc hgh2))
           have HS6 : Hid (Sl w4 w4.heap.size A5 ((nums rn).map u64v)) := Lib.hid ((HS4.out.grown hgrow hgh2 hz2).up (Nat.le_trans hz2 hgrow.size))
           have HWD : Hid (Sl w4 w4.heap.size (some ⟨gg, 0, none⟩) ((recW kind l.length).map i64v)) := Lib.hid (by rw [HRW.out]; exact sl_own hown4)
           clear hown4 hgrow hat)
        | (go_simp; go_at_call 130; refine (headWidths_ex _).mono ?_; rintro e w2 ⟨gh, rfl, hgh, hR2, hb2⟩
           have hgh2 : wc.heap.size ≤ gh := by first | exact Nat.le_trans hz2 hgh | exact hgh
           have HY4 : Hid (Boxed w w2 [.int .i64 kind, .int .i64 seq, .slice A l.length c, .int .u32 (sum : Int), .int .i64 start]) := Lib.hid (by first | exact HY4.out.go hb2 | exact (HYC.out.drewN 1).go hb2)
           have HS4 : Hid (Sl w2 wc.heap.size A5 ((nums rn).map u64v)) := Lib.hid (by first | exact HS4.out.below_le hb2 hz2 | exact (HS5.out.drewN 1).below_le hb2 (Nat.le_refl _))
           have HRH := Lib.hid hR2
           first | (have HRB2 := Lib.hid (HRB2.out.keep hb2 HRB2.out.lt)) | skip
           have hz2 : wc.heap.size ≤ w2.heap.size := by first | exact Nat.le_trans hz2 hb2.size | exact hb2.size
           obtain ⟨d0, d1, d2, d3, d4⟩ := HY4.out.five
           clear hR2 hb2)
        | (go_simp; go_at_call 131; refine (HW.out _).mono ?_; rintro e w2 ⟨gb, rfl, hgb, hRb, hb2⟩
           rw [HBW.out]
           have HY4 : Hid (Boxed w w2 [.int .i64 kind, .int .i64 seq, .slice A l.length c, .int .u32 (sum : Int), .int .i64 start]) := Lib.hid (by first | exact HY4.out.go hb2 | exact (HYC.out.drewN 1).go hb2)
           have HS4 : Hid (Sl w2 wc.heap.size A5 ((nums rn).map u64v)) := Lib.hid (by first | exact HS4.out.below_le hb2 hz2 | exact (HS5.out.drewN 1).below_le hb2 (Nat.le_refl _))
           have HRB2 := Lib.hid hRb
           first | (have HRH := Lib.hid (HRH.out.keep hb2 HRH.out.lt)) | skip
           have hz2 : wc.heap.size ≤ w2.heap.size := by first | exact Nat.le_trans hz2 hb2.size | exact hb2.size
           obtain ⟨d0, d1, d2, d3, d4⟩ := HY4.out.five
           clear hRb hb2)
        | (go_simp; go_at_call 129; refine (PackW_at2 (4 + m) (nums rn) HNL.out (4 + m) (recW kind l.length) HWL.out w4.heap.size A5 (some ⟨gg, 0, none⟩) c5 cap w4 256 (Nat.le_refl _) HP.out HF.out HS6.out HWD.out).mono ?_; rintro e w5 ⟨g, rfl, hg, hR5, hb5⟩
           have HY6 : Hid (Boxed w w5 [.int .i64 kind, .int .i64 seq, .slice A l.length c, .int .u32 (sum : Int), .int .i64 start]) := Lib.hid (HY5.out.go hb5)
           have HR5 := Lib.hid hR5
           have hg5 : w.heap.size < g := by have := HY5.out.lt; omega
           clear hR5 hb5)))
      all_goals
        go_wp2_with fail
        go_meet
        exact ⟨_, rfl, rfl, hg5, HR5, HY6⟩
    case rest =>
      obtain ⟨g, rfl, rfl, hg, HR, HYD⟩ := hcut
      obtain ⟨c0, c1, c2, c3, c4⟩ := HYD.out.five
      have hbl : (bytesOf_ (nums rn) (recW kind l.length) 256).length = 256 := bytesOf_len _ _ 256 HP.out
      have HBL2 := Lib.hid hbl
      obtain ⟨sq, rfl⟩ := Int.eq_ofNat_of_zero_le (show 0 ≤ seq by omega)
      have HS := Lib.hid (Seal_ok (bytesOf_ (nums rn) (recW kind l.length) 256) [] g 256 sq wc (by omega) (by rw [hbl]; omega) (by rw [hbl]; omega) (by rw [hbl]; exact Nat.le_refl _) HR.out (Tab.below HT.out HYD.out.below htl))
      rw [HBL2.out] at HS
      clear hbl
      go_wp2_with fail
      refine HS.out.mono ?_
      rintro e w6 ⟨rfl, hR6, hg6⟩
      have HR6 := Lib.hid hR6
      have HB6 := Lib.hid (HYD.out.below.grown hg6 HYD.out.below.size (fun q hq => by injection hq with hq; omega))
      clear hR6 hg6
      go_wp2
      go_ret2
      refine ⟨g, rfl, by omega, ?_, HB6.out⟩
      rw [HRB.out]
      have := HR6.out
      unfold blockOf sealL
      rw [if_pos (by rw [HBL2.out]; omega), HBL2.out]
      exact this
end Go.Proofs.YtmlgchmladkfpaaGreatDoor.JPack
/- Pack in one contract. -/
namespace Go.Proofs.YtmlgchmladkfpaaGreatDoor.JPackFace
open Go.RowKit WMem WPlain WCrc JPlain JMem JPack
/-- what Pack answers -/
def PackR (r : Rec) (w : World) (e : Ending) (w' : World) : Prop :=
  (recMay r = true → ∃ g, e = .returned (.tuple #[.slice (some ⟨g, 0, none⟩) 256 256, .int .i64 0]) ∧ w.heap.size ≤ g ∧ Row w' g (recBytes r) []) ∧
    (recMay r = false → e = .returned (.tuple #[.slice none 0 0, .int .i64 22])) ∧ Below w.heap.size w w'
theorem Pack_any (r : Rec) (hs : r.sum < 4294967296) (B : Nat) (A : Option Addr) (c : Nat) (w : World) (hB : B ≤ w.heap.size) (hA : Ents w B A r.ents) (hl : r.ents.length ≤ 140737488355328) (hT : Tab w) :
    Calls Tryz.prog 99 #[recV r A c] w (PackR r w) := by
  cases h : recMay r with
  | false => exact (Pack_no r h B A c w hB hA hl).mono fun e w' ⟨h1, h2⟩ => ⟨fun h' => (by rw [h] at h'; cases h'), fun _ => h1, h2⟩
  | true => exact (Pack_yes r h hs B A c w hB hA hT).mono fun e w' ⟨g, h1, h2, h3, h4⟩ => ⟨fun _ => ⟨g, h1, h2, h3⟩, fun h' => (by rw [h] at h'; cases h'), h4⟩
end Go.Proofs.YtmlgchmladkfpaaGreatDoor.JPackFace
