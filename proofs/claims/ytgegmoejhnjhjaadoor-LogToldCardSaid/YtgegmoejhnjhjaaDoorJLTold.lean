/- The law LogTold: what a commit says of the blocks ahead of it. -/
import Derived.Test.YtgegmoejhnjhjaaDoorJAwake
import Derived.Test.YtgegmoejhnjhjaaDoorJFull
import Derived.Test.YtgegmoejhnjhjaaDoorJBackM
import Derived.Test.YtgegmoejhnjhjaaDoorJLay
import Derived.StillTailTactics
import Derived.BigQuiet
namespace Go.Proofs.YtgegmoejhnjhjaaDoor.JLTold
open Go.RowKit WMem WPlain WHelp WAppend WFace2 WWide WAny WCrc WSeal SNums JPlain JMem JBody JPack JPackFace JRead JUnpack JFull JBackM JChunk JNeed JLayM JLayF JLay

theorem crc_nil (s : Nat) (hs : s < 4294967296) : crc s [] = s := by
  unfold crc eats
  simp only [List.foldl_nil]
  omega
theorem sumB_flat (L : List (List UInt8)) : ∀ (s : Nat), s < 4294967296 → sumB s L = crc s L.flatten := by
  induction L with
  | nil => exact fun s hs => (crc_nil s hs).symm
  | cons b L ih =>
    intro s hs
    rw [List.flatten_cons, crc_append s hs, ← ih _ (crc_lt s b)]
    rfl
theorem flat_take (L : List (List UInt8)) (k : Nat) (h : k < L.length) : (L.take (k + 1)).flatten = (L.take k).flatten ++ L[k] := by
  rw [List.take_succ_eq_append_getElem h, List.flatten_append]
  simp
theorem flat_len (n : Nat) (L : List (List UInt8)) (h : ∀ b ∈ L, b.length = n) : L.flatten.length = n * L.length := by
  induction L with
  | nil => simp
  | cons b L ih =>
    rw [List.flatten_cons, List.length_append, h b (by simp), ih (fun x hx => h x (by simp [hx])), List.length_cons, Nat.mul_add]
    omega
/-- a byte with one bit turned is another byte -/
theorem flip (x : UInt8) (m : Nat) (hm : m < 8) : ∃ z : UInt8, bits BinOp.xor IntKind.u8 (x.toNat : Int) (IntKind.u8.wrap (2 ^ m)) = (z.toNat : Int) ∧ z ≠ x := by
  have hp : (2 ^ m : Nat) < 256 ∧ 0 < (2 ^ m : Nat) := by
    refine ⟨?_, Nat.two_pow_pos m⟩
    have : 2 ^ m ≤ 2 ^ 7 := Nat.pow_le_pow_right (by decide) (by omega)
    omega
  have e1 : IntKind.u8.wrap (2 ^ m) = ((2 ^ m : Nat) : Int) := by
    have e : ((2 : Int) ^ m) = ((2 ^ m : Nat) : Int) := by simp
    rw [IntKind.wrap_u8', e]
    omega
  refine ⟨x ^^^ UInt8.ofNat (2 ^ m), ?_, ?_⟩
  · rw [e1, u8_xor_nat _ _ (byte_lt x) hp.1, UInt8.toNat_xor]
    congr 2
    simp
    omega
  · intro h
    have h2 := congrArg UInt8.toNat h
    rw [UInt8.toNat_xor] at h2
    have h3 : (UInt8.ofNat (2 ^ m)).toNat = 2 ^ m := by simp; omega
    rw [h3] at h2
    have h4 : x.toNat ^^^ 2 ^ m = x.toNat ^^^ 0 := by simpa using h2
    have h5 := congrArg (x.toNat ^^^ ·) h4
    simp only [← Nat.xor_assoc, Nat.xor_self, Nat.zero_xor] at h5
    omega
theorem low8 (x : Int) : ∃ y : Nat, y < 8 ∧ bits BinOp.and IntKind.i64 x 7 = (y : Int) := by
  refine ⟨(BitVec.ofInt 64 x &&& BitVec.ofInt 64 7).toNat, ?_, ?_⟩
  · rw [BitVec.toNat_and]
    exact Nat.lt_of_le_of_lt Nat.and_le_right (by decide)
  · have h : (BitVec.ofInt 64 x &&& BitVec.ofInt 64 7).toNat < 8 := by
      rw [BitVec.toNat_and]
      exact Nat.lt_of_le_of_lt Nat.and_le_right (by decide)
    show IntKind.i64.wrap ((BitVec.ofInt 64 x &&& BitVec.ofInt 64 7).toNat : Int) = _
    rw [IntKind.wrap_i64]
    omega
theorem crc_set (s : Nat) (L : List UInt8) (i : Nat) (hi : i < L.length) (z : UInt8) (hz : z ≠ L[i]) : crc s (L.set i z) ≠ crc s L := by
  have e1 : L = L.take i ++ L[i] :: L.drop (i + 1) := by rw [List.getElem_cons_drop, List.take_append_drop]
  have e2 : L.set i z = L.take i ++ z :: L.drop (i + 1) := List.set_eq_take_append_cons_drop .. |>.trans (by rw [if_pos hi])
  have h := crc_turned s (L.take i) (L.drop (i + 1)) z L[i] hz
  rw [← e1, ← e2] at h
  exact h
theorem low24 (x : Int) : ∃ y : Nat, y < 16777216 ∧ bits BinOp.and IntKind.i64 x 16777215 = (y : Int) := by
  refine ⟨(BitVec.ofInt 64 x &&& BitVec.ofInt 64 16777215).toNat, ?_, ?_⟩
  · rw [BitVec.toNat_and]
    exact Nat.lt_of_le_of_lt Nat.and_le_right (by decide)
  · have h : (BitVec.ofInt 64 x &&& BitVec.ofInt 64 16777215).toNat < 16777216 := by
      rw [BitVec.toNat_and]
      exact Nat.lt_of_le_of_lt Nat.and_le_right (by decide)
    show IntKind.i64.wrap ((BitVec.ofInt 64 x &&& BitVec.ofInt 64 16777215).toNat : Int) = _
    rw [IntKind.wrap_i64]
    omega

set_option maxRecDepth 100000 in
set_option maxHeartbeats 4000000 in
theorem told_no (seq : Int) (ws : List Wr) (rs : List Int) (hok : layOk seq ws rs = false) (byt bit : Int) (nw nr : Nat) (hnw : ws.length = nw) (hnr : rs.length = nr) (B : Nat) (A A' : Option Addr) (c c' : Nat) (hc : nw ≤ c) (hc' : nr ≤ c') (w : World) (hB : B ≤ w.heap.size)
    (hA : Wrs w B A ws) (hA' : Sl w B A' (rs.map i64v)) (hT : Tab w) :
    Calls Tryd.prog 7 #[.int .i64 seq, .slice A nw c, .slice A' nr c', .int .i64 byt, .int .i64 bit] w fun e w' => e = .returned (.bool true) ∧ Below w.heap.size w w' := by
  have HAW := Lib.hid (JAwake.awake_any w hT)
  have HLAY := Lib.hid (fun w1 (hb : Below w.heap.size w w1) => Lay_any seq ws rs nw nr hnw hnr B A A' c c' hc hc' w1 (Nat.le_trans hB hb.size) (hA.below hb hB) (hA'.below_le hb hB) (Tab.below hT hb (Tab.lt hT)))
  have HOK := Lib.hid hok
  clear hT hA hA' hok
  go_enter Tryd.func7, Tryd.ntmps7
  go_wp2_with fail
  refine HAW.out.mono ?_
  rintro e w1 ⟨rfl, hb1⟩
  have HB1 := Lib.hid hb1
  clear hb1
  go_wp2_with fail
  refine (HLAY.out w1 HB1.out).mono ?_
  rintro e w2 ⟨_, hno, hb2⟩
  obtain rfl := hno HOK.out
  have HB2 := Lib.hid (below_up HB1.out hb2 HB1.out.size)
  clear hno hb2 HLAY
  go_wp2
  go_ret
  exact ⟨rfl, HB2.out⟩
theorem front_len {seq : Int} {ws : List Wr} {rs : List Int} (hw : ws.length ≤ 4096) (hr : rs.length ≤ 4096) : (front seq ws rs).length ≤ 4400 := by
  have h2 := frontW_len seq ws (rowsN ws.length 48)
  have h1 : (front seq ws rs).length = (frontW seq ws (rowsN ws.length 48)).length + rowsN rs.length 60 := by simp [front, frontR]
  have h3 : rowsN ws.length 48 ≤ 87 := by unfold rowsN; split <;> omega
  have h4 : rowsN rs.length 60 ≤ 70 := by unfold rowsN; split <;> omega
  omega
set_option maxRecDepth 100000 in
set_option maxHeartbeats 4000000 in
theorem told_yes (seq : Int) (ws : List Wr) (rs : List Int) (hok : layOk seq ws rs = true) (byt bit : Int) (nw nr : Nat) (hnw : ws.length = nw) (hnr : rs.length = nr) (B : Nat) (A A' : Option Addr) (c c' : Nat) (hc : nw ≤ c) (hc' : nr ≤ c') (w : World) (hB : B ≤ w.heap.size)
    (hA : Wrs w B A ws) (hA' : Sl w B A' (rs.map i64v)) (hT : Tab w) :
    Calls Tryd.prog 7 #[.int .i64 seq, .slice A nw c, .slice A' nr c', .int .i64 byt, .int .i64 bit] w fun e w' => e = .returned (.bool true) ∧ Below w.heap.size w w' := by
  have h7 := hok
  unfold layOk at h7
  simp only [Bool.and_eq_true, decide_eq_true_eq] at h7
  obtain ⟨⟨⟨⟨⟨hw, hr⟩, h256⟩, hW⟩, hR⟩, hso⟩ := h7
  have hs2 : 1 ≤ seq ∧ seq ≤ 2147483647 := by simpa [seqOk] using hso
  obtain ⟨q, rfl⟩ : ∃ q : Nat, seq = (q : Int) := ⟨seq.toNat, by omega⟩
  have HAW := Lib.hid (JAwake.awake_any w hT)
  have HLAY := Lib.hid (fun w1 (hb : Below w.heap.size w w1) => Lay_any (q : Int) ws rs nw nr hnw hnr B A A' c c' hc hc' w1 (Nat.le_trans hB hb.size) (hA.below hb hB) (hA'.below_le hb hB) (Tab.below hT hb (Tab.lt hT)))
  have hq4 : q < 4294967296 := by omega
  have hfl := front_len (seq := (q : Int)) hw hr
  have hf6 := front_short hW hR h256
  have hly : lay (q : Int) ws rs = front (q : Int) ws rs ++ [recBytes (commR (q : Int) (sumB q (front (q : Int) ws rs)))] := rfl
  generalize front (q : Int) ws rs = F at *
  obtain ⟨sm, hsm⟩ : ∃ sm, sumB q F = sm := ⟨_, rfl⟩
  have hs4 : sm < 4294967296 := by rw [← hsm]; exact sumB_lt q hq4 F
  rw [hsm] at hly
  have hmay : recMay (commR (q : Int) sm) = true := by simp [recMay, commR, hasOk, restOk, hso]
  have HUB := Lib.hid (unp_back _ hmay hs4)
  have HL := Lib.hid (recBytes_len (recMay_iff.1 hmay).2.1)
  have HREC : Hid (∀ A c, recV (commR (q : Int) sm) A c = .agg #[.int .i64 2, .int .i64 (q : Int), .slice A 0 c, .int .u32 (sm : Int), .int .i64 0]) := Lib.hid (fun _ _ => rfl)
  obtain ⟨n, hn⟩ : ∃ n, F.length = n := ⟨_, rfl⟩
  rw [hn] at hfl
  have HLY := Lib.hid hly
  have HF6 := Lib.hid hf6
  have HSM := Lib.hid hsm
  have HN := Lib.hid hn
  have HOK := Lib.hid hok
  have HT := Lib.hid hT
  have htl := Tab.lt hT
  generalize recBytes (commR (q : Int) sm) = CB at *
  clear hT hA hA' hok hly hf6 hsm hn hmay hso hW hR h256 hw hr
  go_enter Tryd.func7, Tryd.ntmps7
  go_wp2_with fail
  refine HAW.out.mono ?_
  rintro e w1 ⟨rfl, hb1⟩
  have HB1 := Lib.hid hb1
  clear hb1
  go_wp2_with fail
  refine (HLAY.out w1 HB1.out).mono ?_
  rintro e w2 ⟨hyes, _, hb2⟩
  obtain ⟨v, nb, rfl, hB2⟩ := hyes HOK.out
  have HB2 := Lib.hid (below_up HB1.out hb2 HB1.out.size)
  rw [HLY.out] at hB2
  obtain ⟨vs, a1, a2, a3, a4, a5⟩ := hB2
  have hnb : nb = n + 1 := by rw [← a2]; simp [HN.out]
  obtain ⟨g, cb, rfl, _⟩ := a1.form (by omega)
  have hcell := a1.cells (g := g) rfl
  have hgl : g < w2.heap.size := (a1.lt g rfl).2
  obtain ⟨ad, had⟩ : ∃ ad : Addr, (⟨g, 0, none⟩ : Addr) = ad := ⟨_, rfl⟩
  have hadb : ad.block < w2.heap.size := by rw [← had]; exact hgl
  rw [had] at hcell ⊢
  have HC : Hid (∀ k (h : k < F.length), ∃ Au cu, w2.cell? (ad.add k) = some (.slice Au 256 cu) ∧ Sl w2 w2.heap.size Au (F[k].map u8v)) := Lib.hid (fun k h => by
    obtain ⟨u, hu, hO⟩ := a5 k (by simp; omega)
    rw [List.getElem_append_left h] at hO
    obtain ⟨Au, cu, rfl, hS, _⟩ := hO.sl
    refine ⟨Au, cu, ?_, hS⟩
    have := hcell k _ hu
    rwa [HF6.out _ (List.getElem_mem h)] at this)
  obtain ⟨Al, cl, hcl, hSl, hcl2⟩ : ∃ Au cu, w2.cell? (ad.add n) = some (.slice Au 256 cu) ∧ Sl w2 w2.heap.size Au (CB.map u8v) ∧ 256 ≤ cu := by
    obtain ⟨u, hu, hO⟩ := a5 n (by simp [HN.out])
    rw [List.getElem_append_right (by rw [HN.out]; exact Nat.le_refl _)] at hO
    simp only [HN.out, Nat.sub_self, List.getElem_cons_zero] at hO
    obtain ⟨Au, cu, rfl, hS, h3⟩ := hO.sl
    rw [HL.out] at h3
    refine ⟨Au, cu, ?_, hS, h3⟩
    have := hcell n _ hu
    rwa [HL.out] at this
  have HSl := Lib.hid hSl
  have hwn : IntKind.i64.wrap ((nb : Int) - 1) = (n : Int) := by rw [IntKind.wrap_i64]; omega
  have d1 : decide ((n : Int) < 0) = false := by simp
  have d2 : decide ((n : Int) < (nb : Int)) = true := by simp; omega
  have hn0 : (0 : Int) ≤ (n : Int) := by omega
  have hn1 : (n : Int) < (nb : Int) := by omega
  clear hyes hb2 a1 a2 a3 a4 a5 hcell hSl HLAY had hgl hnb
  go_wp2_with fail
  refine (Unpack_full 256 CB HL.out w2.heap.size Al cl hcl2 w2 (Nat.le_refl _) HSl.out (Tab.below HT.out HB2.out htl)).mono ?_
  rintro e w4 ⟨A4, c4, rfl, _, _, hb4⟩
  rw [HUB.out.1, HUB.out.2, HREC.out]
  have HB4 := Lib.hid hb4
  have hs24 := hb4.size
  clear hb4 hcl
  go_wp2_with fail
  have HX5 := Lib.hid (JMem.Boxed.start w4 [.int .i64 2, .int .i64 (q : Int), .slice A4 0 c4, .int .u32 (sm : Int), .int .i64 0] 33)
  have HB5 := Lib.hid (HB4.out.alloc hs24 (.cells #[.int .i64 2, .int .i64 (q : Int), .slice A4 0 c4, .int .u32 (sm : Int), .int .i64 0] 33))
  have hs45 : w4.heap.size < (w4.alloc (.cells #[.int .i64 2, .int .i64 (q : Int), .slice A4 0 c4, .int .u32 (sm : Int), .int .i64 0] 33)).heap.size := by simp
  generalize (w4.alloc (.cells #[.int .i64 2, .int .i64 (q : Int), .slice A4 0 c4, .int .u32 (sm : Int), .int .i64 0] 33)) = W5 at *
  go_loopw [17, 18] (fun x i wr => ∃ k : Nat, k ≤ n ∧ i = .int .i64 k ∧ wr.ownsRow W5.heap.size 5 1 x (256 * k) ((F.take k).flatten.map u8v) ∧ Below W5.heap.size W5 wr) (fun _ i _ => n - (intOf i).toNat)
  case atStart => exact ⟨0, Nat.zero_le _, rfl, by simpa using World.ownsRow_nil _ _ _ _, Below.refl _ _⟩
  case round =>
    obtain ⟨k, hk, rfl, hO, hbw⟩ := hrel
    by_cases hlt : k < n
    · have hlt' : k < F.length := by rw [HN.out]; exact hlt
      obtain ⟨Au, cu, hcu, hS⟩ := HC.out k hlt'
      have hsw := hbw.size
      have hbw2 : Below w2.heap.size w2 wr := HB5.out.trans (hbw.mono (by omega))
      have y0 : wr.cell? (ad.add k) = some (.slice Au 256 cu) := (hbw2.cell (by rw [addr_add_block]; exact hadb)).trans hcu
      have HS := Lib.hid (hS.below_le hbw2 (Nat.le_refl _))
      have HO := Lib.hid hO
      have HFT := Lib.hid (flat_take F k hlt')
      have HBW := Lib.hid hbw
      have hk0 : (0 : Int) ≤ (k : Int) := by omega
      have hk1 : (k : Int) < (nb : Int) := by omega
      have d3 : decide ((k : Int) < (n : Int)) = true := by simp; omega
      have HBK := Lib.hid (HF6.out F[k] (List.getElem_mem hlt'))
      generalize F[k] = bk at *
      clear hcu hS hO hbw hbw2
      go_wp2_with (at_builtin; go_loud (refine wl_append rfl (.tmp 54) (.tmp 58) 26 rfl W5.heap.size 5 1 elem8 u17 (256 * k) _ rfl HO.out w2.heap.size Au 256 cu (bk.map u8v) rfl (by simp [HBK.out]) HS.out (one_u8 _) (by omega) (by unfold maxLen; omega) hsw ?_); intro v' w3 h1 h2 h3)
      have HO1 := Lib.hid h1
      have HB1' := Lib.hid (HBW.out.grown h2 hsw (fun j hj => own_ge HO.out j hj))
      clear h1 h2 h3
      go_roundw
      case rel => exact ⟨k + 1, by omega, by go_num, by rw [HFT.out, List.map_append, show 256 * (k + 1) = 256 * k + 256 by omega]; exact HO1.out, HB1'.out⟩
      case measure => simp [intOf]; omega
    · obtain rfl : k = n := by omega
      have hfd : (F.take k).flatten = F.flatten := by rw [List.take_of_length_le (by rw [HN.out]; exact Nat.le_refl _)]
      rw [hfd] at hO
      have hDL : F.flatten.length = 256 * k := by rw [flat_len 256 F HF6.out, HN.out]
      have HSM2 : Hid (crc q F.flatten = sm) := Lib.hid (by rw [← sumB_flat F q hq4]; exact HSM.out)
      generalize F.flatten = D at *
      have HX6 := Lib.hid (HX5.out.go (hbw.mono (by omega)))
      have HBW := Lib.hid (below_up HB2.out (HB5.out.trans (hbw.mono (by have := HB5.out.size; omega))) HB2.out.size)
      have d3 : decide ((k : Int) < (k : Int)) = false := by simp
      have hwq : IntKind.u32.wrap (q : Int) = (q : Int) := by rw [IntKind.wrap_u32]; omega
      have hqq : ((q : Int) != (q : Int)) = false := by simp
      have hss : ((sm : Int) != (sm : Int)) = false := by simp
      obtain ⟨y0, y1, y2, y3, y4⟩ := HX6.out.five
      rw [← hDL] at hO
      have hO2 := Own.of_row hO
      clear hO hbw hfd
      rcases hO2 with ⟨rfl, rfl⟩ | ⟨gx, cx, rest, rfl, hgx, hlx, hRx⟩
      · have HCR : Hid (∀ m, Calls Tryd.prog 25 #[.int .u32 (q : Nat), .slice none 0 0] (wr.drewN m) fun e w' => e = .returned (.int .u32 (sm : Nat)) ∧ wr.drewN m = w') := Lib.hid (fun m => by
          have h := ref_crc q [] w2.heap.size none 0 (wr.drewN m) hq4 (by simp) (Sl.nil _ _ _)
          rw [HSM2.out] at h
          exact h)
        clear hDL
        go_wp2_with fail
        go_quiet ((go_at_call 25; exact quiet_left (HCR.out _)))
        go_wp2
        go_ret
        exact ⟨rfl, below_drewN HBW.out _⟩
      · obtain ⟨ln, hln⟩ : ∃ ln, D.length = ln := ⟨_, rfl⟩
        have HR := Lib.hid hRx
        have hgl := hRx.lt
        have HCR : Hid (∀ m, Calls Tryd.prog 25 #[.int .u32 (q : Nat), .slice (some ⟨gx, 0, none⟩) ln cx] (wr.drewN m) fun e w' => e = .returned (.int .u32 (sm : Nat)) ∧ wr.drewN m = w') := Lib.hid (fun m => by
          have h := ref_crc q D wr.heap.size (some ⟨gx, 0, none⟩) cx (wr.drewN m) hq4 (by omega) ((hRx.drewN m).sl hgl)
          rw [HSM2.out, hln] at h
          exact h)
        have HLN := Lib.hid hln
        have hl4 : ln ≤ 1126400 := by omega
        rw [hln] at hlx ⊢
        clear hDL hRx hln
        go_wp2_with fail
        go_quiet ((go_at_call 25; exact quiet_left (HCR.out _)))
        by_cases h0 : ln = 0
        · subst h0
          go_wp2
          go_ret
          exact ⟨rfl, below_drewN HBW.out _⟩
        · have hz0 : ((ln : Int) == 0) = false := by simp; omega
          obtain ⟨y, hy, hye⟩ := low24 byt
          have hmt : (y : Int).tmod (ln : Int) = ((y % ln : Nat) : Int) := by rw [Int.tmod_eq_emod_of_nonneg (by omega)]; rfl
          have hat : y % ln < ln := Nat.mod_lt _ (by omega)
          generalize y % ln = at_ at *
          have hwa : IntKind.i64.wrap (at_ : Int) = (at_ : Int) := by rw [IntKind.wrap_i64]; omega
          go_wp2_with fail
          obtain ⟨m, hm8, hme⟩ := low8 bit
          have hwm : IntKind.i64.wrap (m : Int) = (m : Int) := by rw [IntKind.wrap_i64]; omega
          have HR6 := Lib.hid (HR.out.drewN nq)
          have HB6 := Lib.hid (below_drewN HBW.out nq)
          have HX7 := Lib.hid (HX6.out.drewN nq)
          have hgl6 : gx < (wr.drewN nq).heap.size := hgl
          have hwx : w4.heap.size < gx := by omega
          have hwg : w.heap.size ≤ gx := by have := HB2.out.size; omega
          clear HCR HR HX6 HBW y0 y1 y2 y3 y4
          generalize wr.drewN nq = W6 at *
          have hat' : at_ < D.length := by rw [HLN.out]; exact hat
          have hc := HR6.out.cell hat'
          have hf := HR6.out.free at_
          obtain ⟨z, hz, hzn⟩ := flip D[at_] m hm8
          have HNE := Lib.hid (crc_set q D at_ hat' z hzn)
          have HRS := Lib.hid (HR6.out.set hat' z)
          have HLS : Hid ((D.set at_ z).length = ln) := Lib.hid ((List.length_set ..).trans HLN.out)
          have hox := byte_lt D[at_]
          generalize hold : D[at_] = old at *
          clear hold hzn
          have hatI : (at_ : Int) < (ln : Int) := by omega
          have hat0 : (0 : Int) ≤ (at_ : Int) := by omega
          go_still_tail 11, (by kernel_rfl)
          change wpList _ _ _ _ _ W6.drew
          have HB7 := Lib.hid ((HB6.out.setCell (p := ⟨gx, at_, none⟩) hwg (.int .u8 z.toNat)).drew)
          have x3 : ((W6.setCell ⟨gx, at_, none⟩ (.int .u8 z.toNat)).drew).cell? ⟨w4.heap.size, 3, none⟩ = some (.int .u32 (sm : Int)) := (World.cell?_of_block (Below.heap_setCell W6 ⟨gx, at_, none⟩ (.int .u8 z.toNat) w4.heap.size (by simp only; omega))).trans (HX7.out.cell 3 _ rfl)
          have HR7 : Hid (Row ((W6.setCell ⟨gx, at_, none⟩ (.int .u8 z.toNat)).drew) gx (D.set at_ z) rest) := Lib.hid (show Row _ _ _ _ from HRS.out)
          go_wp2_with fail
          generalize ((W6.setCell ⟨gx, at_, none⟩ (.int .u8 z.toNat)).drew) = W7 at *
          have HSM7 : Hid (crc q (D.set at_ z) ≠ sm) := Lib.hid (by rw [← HSM2.out]; exact HNE.out)
          generalize D.set at_ z = L2 at *
          have hgl7 := HR7.out.lt
          obtain ⟨s2, hs2'⟩ : ∃ s2, crc q L2 = s2 := ⟨_, rfl⟩
          have HCR2 : Hid (∀ m, Calls Tryd.prog 25 #[.int .u32 (q : Nat), .slice (some ⟨gx, 0, none⟩) ln cx] (W7.drewN m) fun e w' => e = .returned (.int .u32 (s2 : Nat)) ∧ W7.drewN m = w') := Lib.hid (fun m => by
            have h := ref_crc q L2 W7.heap.size (some ⟨gx, 0, none⟩) cx (W7.drewN m) hq4 (by rw [HLS.out]; omega) ((HR7.out.drewN m).sl hgl7)
            rw [hs2', HLS.out] at h
            exact h)
          have hne2 : ((s2 : Int) != (sm : Int)) = true := by
            have := HSM7.out
            rw [hs2'] at this
            simp only [bne_iff_ne, ne_eq]
            omega
          clear hs2' hz hc hf hme hye
          go_quiet ((go_at_call 25; exact quiet_left (HCR2.out _)))
          go_wp2
          go_ret
          exact ⟨rfl, below_drewN HB7.out _⟩
theorem told (seq : Int) (ws : List Wr) (rs : List Int) (byt bit : Int) (nw nr : Nat) (hnw : ws.length = nw) (hnr : rs.length = nr) (B : Nat) (A A' : Option Addr) (c c' : Nat) (hc : nw ≤ c) (hc' : nr ≤ c') (w : World) (hB : B ≤ w.heap.size)
    (hA : Wrs w B A ws) (hA' : Sl w B A' (rs.map i64v)) (hT : Tab w) :
    Calls Tryd.prog 7 #[.int .i64 seq, .slice A nw c, .slice A' nr c', .int .i64 byt, .int .i64 bit] w fun e w' => e = .returned (.bool true) ∧ Below w.heap.size w w' := by
  cases hok : layOk seq ws rs with
  | false => exact told_no seq ws rs hok byt bit nw nr hnw hnr B A A' c c' hc hc' w hB hA hA' hT
  | true => exact told_yes seq ws rs hok byt bit nw nr hnw hnr B A A' c c' hc hc' w hB hA hA' hT
end Go.Proofs.YtgegmoejhnjhjaaDoor.JLTold
