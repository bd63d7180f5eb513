/- The law WireBack, walked: what was packed is unpacked, what was sealed is known by its seal, and not when a single bit of it is turned. -/
import Derived.Test.YtlbolfjelhljjaaDoorLPacks
import Derived.Test.YtlbolfjelhljjaaDoorWTurn
namespace Go.Proofs.YtlbolfjelhljjaaDoor.LBack
open Go.RowKit WMem WPlain WGive WGet WPut WAppend WHelp WList WPack WUnpack WFace WFace2 WCrc WSeal WRef WAny WWide WRefList WRefPack WAwake WTurn LPacks

theorem clip (n : Int) : ∃ m : Nat, (if 0 < if 9 < n then 9 else n then if 9 < n then 9 else n else 0) = (m : Int) ∧ m ≤ 9 ∧ (1 ≤ n → n ≤ 8 → (m : Int) = n) := by
  refine ⟨(if 0 < if 9 < n then 9 else n then if 9 < n then 9 else n else 0 : Int).toNat, ?_, ?_, ?_⟩
  · split <;> (try split) <;> omega
  · split <;> (try split) <;> omega
  · intro h1 h2
    rw [if_neg (by omega : ¬ 9 < n), if_pos (by omega)]
    omega

theorem bytes_back (xs : List UInt64) (ws : List Int) (d : Nat) (h : packs xs ws (d : Int)) (hd : d = tot (nats ws)) : bytesOf_ xs ws (d : Int) = packed (nats ws) xs := by
  unfold bytesOf_ WPack.part
  rw [List.take_of_length_le (Nat.le_refl _), List.take_of_length_le (by rw [nats_len, h.1]; exact Nat.le_refl _), Int.toNat_natCast, hd]
  simp

theorem Seal_at (len : Nat) (l : List UInt8) (hlen : l.length = len) (c : Nat) (w : World) (rest : List Value) (g seed : Nat) (hs : seed < 4294967296) (hl : len ≤ 140737488355328) (hc : len ≤ c) (hR : Row w g l rest) (hT : Tab w) :
    Calls Tryd.prog 24 #[.slice (some ⟨g, 0, none⟩) len c, .int .u32 seed] w fun e w' => e = .returned (.int .i64 (sealE l)) ∧ Row w' g (sealL l seed) rest ∧ w.grownBy w' (some g) := by
  subst hlen
  exact Seal_any l c w rest g seed hs hl hc hR hT
theorem Sealed_at (n : Nat) (l : List UInt8) (h : l.length = n) (B : Nat) (A : Option Addr) (c seed : Nat) (w : World) (hs : seed < 4294967296) (hl : n ≤ 140737488355328) (hc : n ≤ c) (hA : Sl w B A (l.map u8v)) (hT : Tab w) :
    Calls Tryd.prog 22 #[.slice A n c, .int .u32 seed] w fun e w' => e = .returned (.bool (sealB l seed)) ∧ ∃ n, w' = w.drewN n := by
  subst h
  exact Sealed_any l B A c seed w hs hl hc hA hT
theorem row_own {w : World} {g base d : Nat} {l : List UInt8} (h : Row w g l []) (hb : base ≤ g) (hl : l.length = d) (hd : d ≤ 1000000) : w.ownsRow base 5 1 (.slice (some ⟨g, 0, none⟩) d d) d (l.map u8v) := by
  subst hl
  refine ⟨by simp, .inr ⟨g, l.length, _, rfl, hb, h, Nat.le_refl _, by unfold maxLen; omega, ?_, ?_⟩⟩
  · simp
  · simp [List.take_of_length_le]

/-- a byte with one bit turned is another byte -/
theorem flip (x : UInt8) (m : Nat) (hm : m < 8) : ∃ z : UInt8, bits BinOp.xor IntKind.u8 (x.toNat : Int) (IntKind.u8.wrap (2 ^ m)) = (z.toNat : Int) ∧ z ≠ x := by
  have hp : (2 ^ m : Nat) < 256 ∧ 0 < (2 ^ m : Nat) := by
    refine ⟨?_, Nat.two_pow_pos m⟩
    have : 2 ^ m ≤ 2 ^ 7 := Nat.pow_le_pow_right (by decide) (by omega)
    omega
  have e1 : IntKind.u8.wrap (2 ^ m) = ((2 ^ m : Nat) : Int) := by
    have e : ((2 : Int) ^ m) = ((2 ^ m : Nat) : Int) := by simp
    rw [IntKind.wrap_u8', e]
    omega
  refine ⟨x ^^^ UInt8.ofNat (2 ^ m), ?_, ?_⟩
  · rw [e1, u8_xor_nat _ _ (byte_lt x) hp.1, UInt8.toNat_xor]
    congr 2
    simp
    omega
  · intro h
    have h2 := congrArg UInt8.toNat h
    rw [UInt8.toNat_xor] at h2
    have h3 : (UInt8.ofNat (2 ^ m)).toNat = 2 ^ m := by simp; omega
    rw [h3] at h2
    have h4 : x.toNat ^^^ 2 ^ m = x.toNat ^^^ 0 := by simpa using h2
    have h5 := congrArg (x.toNat ^^^ ·) h4
    simp only [← Nat.xor_assoc, Nat.xor_self, Nat.zero_xor] at h5
    omega

/-- which bit is turned: whatever number comes in, one that lies in the bytes -/
theorem low24 (x : Int) : ∃ y : Nat, y < 16777216 ∧ bits BinOp.and IntKind.i64 x 16777215 = (y : Int) := by
  refine ⟨(BitVec.ofInt 64 x &&& BitVec.ofInt 64 16777215).toNat, ?_, ?_⟩
  · rw [BitVec.toNat_and]
    exact Nat.lt_of_le_of_lt Nat.and_le_right (by decide)
  · have h : (BitVec.ofInt 64 x &&& BitVec.ofInt 64 16777215).toNat < 16777216 := by
      rw [BitVec.toNat_and]
      exact Nat.lt_of_le_of_lt Nat.and_le_right (by decide)
    show IntKind.i64.wrap ((BitVec.ofInt 64 x &&& BitVec.ofInt 64 16777215).toNat : Int) = _
    rw [IntKind.wrap_i64]
    omega

set_option maxHeartbeats 1000000 in
theorem back (xs : List UInt64) (ws : List Int) (seed : Nat) (bit : Int) (B : Nat) (A A' : Option Addr) (c c' : Nat) (w : World) (hs : seed < 4294967296) (hl' : ws.length ≤ 17592186043904)
    (hA : Sl w B A (xs.map u64v)) (hA' : Sl w B A' (ws.map i64v)) (hB : B ≤ w.heap.size) (hT : Tab w) :
    Calls Tryd.prog 7 #[.slice A xs.length c, .slice A' ws.length c', .int .u32 seed, .int .i64 bit] w fun e w' => e = .returned (.bool true) ∧ Below w.heap.size w w' := by
  have h0 := Tab.lt hT
  have HT := Lib.hid hT
  have HA := Lib.hid hA
  have HA' := Lib.hid hA'
  clear hT hA hA'
  go_enter Tryd.func7, Tryd.ntmps7
  go_wp2_with fail
  refine (awake_any w HT.out).mono ?_
  rintro e w1 ⟨rfl, hb1⟩
  have s1 := hb1.size
  have HB1 := Lib.hid hb1
  have HA1' := Lib.hid (HA'.out.below_le hb1 hB)
  clear hb1
  go_wp2
  go_loop [10, 11] (fun v i => ∃ k d : Nat, k ≤ ws.length ∧ i = .int .i64 k ∧ v = .int .i64 d ∧ d ≤ 4105 ∧ (fineI ws → d = tot ((nats ws).take k))) (fun _ i => ws.length - (intOf i).toNat)
  case atStart => exact ⟨0, 0, Nat.zero_le _, rfl, rfl, by omega, fun _ => by simp [tot]⟩
  case round =>
    obtain ⟨k, d, hk, rfl, rfl, hd, hF⟩ := hrel
    have HK := Lib.hid hF
    clear hF
    by_cases hgo : k < ws.length ∧ d ≤ 4096
    · obtain ⟨hlt, hd4⟩ := hgo
      have d1 : decide ((d : Int) ≤ 4096) = true := by simp; omega
      have d1' : decide (d ≤ 4096) = true := by simpa using hd4
      obtain ⟨a', rfl, hab', hc'⟩ := HA1'.out.i64 hlt
      have HN := Lib.hid (nat_get ws · k hlt)
      have HTS := Lib.hid (tot_take_succ (nats ws) k (by rw [nats_len]; exact hlt))
      generalize ws[k] = n at hc' HN
      obtain ⟨m, hm, hm9, hmn⟩ := clip n
      have HM := Lib.hid hm
      have HMN := Lib.hid hmn
      clear hm hmn
      go_wp2
      go_round
      case rel =>
        rw [HM.out]
        refine ⟨k + 1, d + m, by omega, by go_num, by go_num, by omega, fun hf => ?_⟩
        have h1 := HN.out hf
        have h2 := fine_get (nats_fine ws hf) (k := k) (by rw [nats_len]; exact hlt)
        rw [HTS.out, ← HK.out hf]
        have h3 := HMN.out (by omega) (by omega)
        omega
      case measure => simp [intOf]; omega
    · have HGO := Lib.hid hgo
      have hsz : ∀ hf : fineI ws, d ≤ 4096 → d = tot (nats ws) := fun hf h4 => by
        have h1 := HK.out hf
        rwa [List.take_of_length_le (by rw [nats_len]; have := HGO.out; omega)] at h1
      have HSZ := Lib.hid hsz
      have dd : (decide (k < ws.length) = true ∧ decide ((d : Int) ≤ 4096) = false ∧ decide (d ≤ 4096) = false) ∨ decide (k < ws.length) = false := by
        by_cases h : k < ws.length
        · exact .inl ⟨by simpa using h, by simp; omega, by simp; omega⟩
        · exact .inr (by simpa using h)
      clear hgo hsz
      by_cases hok : packs xs ws (d : Int) ∧ fit (nats ws) xs
      · have HOK := Lib.hid hok
        have hde : d = tot (nats ws) := HSZ.out hok.1.2.1 (by have := hok.1.2.2.2; omega)
        have hd4 : d ≤ 4096 := by have := hok.1.2.2.2; omega
        have hpb := bytes_back xs ws d hok.1 hde
        have hpl := packed_length (nats ws) xs (by rw [nats_len]; exact hok.1.1.symm)
        have hup := unp_packed (nats ws) xs (by rw [nats_len]; exact hok.1.1.symm) hok.2
        have HPB := Lib.hid hpb
        have HPL : Hid ((packed (nats ws) xs).length = d) := by rw [hde]; exact hpl
        have HUP := Lib.hid hup
        have HXW := Lib.hid hok.1.1
        clear hok hde hpb hpl hup
        rcases dd with ⟨d1, d2, d3⟩ | d1
        · exact absurd hd4 (by simpa using d3)
        go_wp2_with fail
        refine (PackW_at xs.length xs rfl ws B A A' c c' w1 d (by omega) HOK.out.1 HOK.out.2 (HA.out.below_le HB1.out hB) HA1'.out).mono ?_
        rintro e w2 ⟨g, rfl, hg, hR, hb2⟩
        rw [HPB.out] at hR
        have s2 := hb2.size
        have HR2 := Lib.hid hR
        have HB2 : Hid (Below w.heap.size w w2) := HB1.out.trans (hb2.mono s1)
        have hgl := hR.lt
        clear hR hb2
        go_wp2_with fail
        refine (UnpackW_at d (packed (nats ws) xs) HPL.out ws w2.heap.size _ A' d c' w2 (Nat.le_refl _) HOK.out.1.2.1 (by rw [HPL.out]; exact (HSZ.out HOK.out.1.2.1 hd4).symm) (by omega) (by omega) (HR2.out.sl hgl) ((HA'.out.below_le HB2.out hB).up (by omega))).mono ?_
        rintro e w3 ⟨g3, rfl, hg3, hR3, hb3⟩
        rw [HUP.out] at hR3
        have s3 := hb3.size
        have HB3 : Hid (Below w.heap.size w w3) := HB2.out.trans (hb3.mono (by omega))
        have HR3 := Lib.hid (HR2.out.keep hb3 hgl)
        have HS3 := Lib.hid (hR3.sl hR3.lt)
        clear hR3 hb3
        go_wp2_with fail
        refine (same_yes ws.length xs.length xs HXW.out rfl _ _ _ A _ c w3 HS3.out (HA.out.below_le HB3.out hB) (by omega)).mono ?_
        rintro e w4 ⟨rfl, n4, rfl⟩
        have HO4 := Lib.hid ((row_own (HR3.out.drewN n4) hg HPL.out (by omega)).alloc (.cells #[u8v 0, u8v 0, u8v 0, u8v 0] 5))
        have HN4 : Hid (Sl ((w3.drewN n4).alloc (.cells #[u8v 0, u8v 0, u8v 0, u8v 0] 5)) (w3.heap.size + 1) (some ⟨w3.heap.size, 0, none⟩) [u8v 0, u8v 0, u8v 0, u8v 0]) := Sl.of_row (n := 4) (row_new (w3.drewN n4) _) (by omega) rfl
        have b4 : Below w.heap.size w ((w3.drewN n4).alloc (.cells #[u8v 0, u8v 0, u8v 0, u8v 0] 5)) := (below_drewN HB3.out n4).alloc (by simp; omega) _
        have HB4 := Lib.hid b4
        clear b4
        go_wp2_with (at_builtin; go_loud (refine wl_append rfl (.tmp 79) (.tmp 80) 23 rfl w1.heap.size 5 1 elem8 (.slice (some ⟨g, 0, none⟩) d d) d _ rfl HO4.out (w3.heap.size + 1) (some ⟨w3.heap.size, 0, none⟩) 4 4 [u8v 0, u8v 0, u8v 0, u8v 0] rfl rfl HN4.out (by simp [u8v, Value.oneCell']) (by omega) (by unfold maxLen; omega) (by simp; omega) ?_); intro v5 w5 h1 h2 h3
                     obtain ⟨g5, cap5, rest5, hv5, hg5, hcap5, hrow5, hlen5, hmax5⟩ := row_of_own h1 (by omega)
                     have HW5 := Lib.hid hrow5
                     have HG5 := Lib.hid h2
                     have HL5 := Lib.hid hg5
                     rw [hv5]
                     clear h1 h2 h3 hrow5 hlen5 hmax5 hv5 hg5)
        have hb5 : Below w.heap.size w w5 := HB4.out.trans (grown_below (g := g) HG5.out (by omega) (by simp; omega))
        obtain ⟨lk, hlk⟩ : ∃ lk, lk = packed (nats ws) xs ++ [0, 0, 0, 0] := ⟨_, rfl⟩
        have hlen : lk.length = d + 4 := by rw [hlk, List.length_append, HPL.out]; rfl
        have hR5 : Row w5 g5 lk rest5 := by
          unfold Row
          rw [HW5.out, hlk]
          simp
        have HR5 := Lib.hid hR5
        have HB5 := Lib.hid hb5
        have HLK := Lib.hid hlen
        have HT5 := Lib.hid (Tab.below HT.out hb5 h0)
        have s5 := hb5.size
        clear hR5 hb5 hlk hlen HW5 HG5 HB4 HN4 HO4 HS3 HR3 HB3 HR2 HB2 HUP HPB HPL
        refine (Seal_at (d + 4) lk HLK.out cap5 w5 rest5 g5 seed hs (by omega) (by omega) HR5.out HT5.out).mono ?_
        rintro e w6 ⟨rfl, hR6, hG6⟩
        have he6 : sealE lk = 0 := by unfold sealE; rw [if_pos (by have := HLK.out; omega)]
        have hsl : sealB (sealL lk seed) seed = true := sealed_sealL lk seed (by have := HLK.out; omega)
        have hll : (sealL lk seed).length = d + 4 := (sealL_len lk seed).trans HLK.out
        rw [he6]
        have s6 := hG6.size
        have hb6 : Below w.heap.size w w6 := HB5.out.grown hG6 s5 (fun k hk => by injection hk with hk; have := HL5.out; omega)
        generalize sealL lk seed = sl at *
        have HR6 := Lib.hid hR6
        have HB6 := Lib.hid hb6
        have HT6 := Lib.hid (Tab.below HT.out hb6 h0)
        have HSL := Lib.hid hsl
        have HLL := Lib.hid hll
        clear hR6 hG6 hb6 hsl hll he6 HR5 HB5 HT5 HLK
        go_wp2_with fail
        refine (Sealed_at (d + 4) sl HLL.out (g5 + 1) _ cap5 seed w6 hs (by omega) (by omega) (HR6.out.sl (by omega)) HT6.out).mono ?_
        rintro e w7 ⟨rfl, n7, hw7⟩
        have hR7 : Row w7 g5 sl rest5 := by rw [hw7]; exact HR6.out.drewN n7
        have hb7 : Below w.heap.size w w7 := by rw [hw7]; exact below_drewN HB6.out n7
        have s7 := hb7.size
        have HR7 := Lib.hid hR7
        have HB7 := Lib.hid hb7
        have HT7 := Lib.hid (Tab.below HT.out hb7 h0)
        clear hw7 hR7 hb7 HR6 HB6 HT6
        rw [HSL.out]
        obtain ⟨y, hy, hye⟩ := low24 bit
        obtain ⟨r, hr, hre⟩ : ∃ r : Nat, r < 8 * (d + 4) ∧ (y : Int) % (8 * ((d : Int) + 4)) = (r : Int) := ⟨y % (8 * (d + 4)), Nat.mod_lt _ (by omega), by simp⟩
        obtain ⟨q, hq, hqe⟩ : ∃ q : Nat, q < d + 4 ∧ (r : Int) / 8 = (q : Int) := ⟨r / 8, by omega, by omega⟩
        obtain ⟨m, hm, hme⟩ : ∃ m : Nat, m < 8 ∧ (r : Int) % 8 = (m : Int) := ⟨r % 8, by omega, by omega⟩
        have hmt : (r : Int).tmod 8 = (m : Int) := by rw [Int.tmod_eq_emod_of_nonneg (by omega)]; exact hme
        have hri : q < sl.length := by have := HLL.out; omega
        have hc := HR7.out.cell hri
        have hf := HR7.out.free q
        have hox := byte_lt sl[q]
        generalize hold : sl[q] = old at hc hox
        have HOLD := Lib.hid hold
        clear hold
        obtain ⟨z, hz, hzn⟩ := flip old m hm
        have HZN := Lib.hid hzn
        clear hzn
        have hwq : IntKind.i64.wrap (q : Int) = (q : Int) := by rw [IntKind.wrap_i64]; omega
        have hqI : (q : Int) < (d : Int) + 4 := by omega
        have hwm : IntKind.i64.wrap (m : Int) = (m : Int) := by rw [IntKind.wrap_i64]; omega
        go_wp2
        go_still_tail 13, (by kernel_rfl)
        change wpList _ _ _ _ _ w7.drew
        have hg50 : 0 ≠ g5 := by have := HL5.out; omega
        have hTs : Tab (w7.setCell ⟨g5, q, none⟩ (.int .u8 z.toNat)) := Tab.grown HT7.out (grown_set (grown_refl _ _) q _) (by simpa using hg50)
        have hRs := HR7.out.set hri z
        have HTS := Lib.hid hTs
        have HRS := Lib.hid hRs
        have hturn : sealB (sl.set q z) seed = false := turned sl seed q z HSL.out hri (by rw [HOLD.out]; exact HZN.out)
        have HTU := Lib.hid hturn
        have HLS : Hid ((sl.set q z).length = d + 4) := (List.length_set ..).trans HLL.out
        clear hTs hRs hturn
        go_wp2_with fail
        refine (Sealed_at (d + 4) (sl.set q z) HLS.out (g5 + 1) _ cap5 seed _ hs (by omega) (by omega) ((show Row (w7.setCell ⟨g5, q, none⟩ (.int .u8 z.toNat)).drew g5 _ rest5 from HRS.out).sl (by omega)) (show Tab (w7.setCell ⟨g5, q, none⟩ (.int .u8 z.toNat)).drew from HTS.out)).mono ?_
        rintro e w8 ⟨rfl, n8, hw8⟩
        have hb8 : Below w.heap.size w w8 := by
          rw [hw8]
          exact below_drewN (HB7.out.setCell (by have := HL5.out; show w.heap.size ≤ g5; omega) _).drew n8
        have HB8 := Lib.hid hb8
        clear hw8 hb8
        rw [HTU.out]
        go_wp2
        go_ret
        exact ⟨rfl, HB8.out⟩
      · have hE : (packE xs ws (d : Int) = 22 ∨ packE xs ws (d : Int) = 34) ∧ packB xs ws (d : Int) = [] := by
          unfold packE packB
          by_cases h1 : packs xs ws (d : Int)
          · have h2 : ¬ fit (nats ws) xs := fun h => hok ⟨h1, h⟩
            rw [if_pos h1, if_pos h1, if_neg h2, if_neg h2]
            exact ⟨.inr rfl, rfl⟩
          · rw [if_neg h1, if_neg h1]
            exact ⟨.inl rfl, rfl⟩
        obtain ⟨hE, hPB⟩ := hE
        have HE := Lib.hid hE
        have HPB := Lib.hid hPB
        clear hok hE hPB
        rcases dd with ⟨d1, d2, d3⟩ | d1
        all_goals
          go_wp2_with fail
          refine (Pack_any xs ws (d : Int) B A A' c c' w1 (by omega) hl' (HA.out.below_le HB1.out hB) HA1'.out).mono ?_
          rintro e w2 ⟨v, rfl, ⟨A3, c3, rfl, _⟩, hb2⟩
          have HB2 : Hid (Below w.heap.size w w2) := HB1.out.trans (hb2.mono s1)
          clear hb2
          rw [HPB.out]
          rcases HE.out with h22 | h34
          · rw [h22]
            clear h22
            go_wp2
            go_ret
            exact ⟨rfl, HB2.out⟩
          · rw [h34]
            clear h34
            go_wp2
            go_ret
            exact ⟨rfl, HB2.out⟩
end Go.Proofs.YtlbolfjelhljjaaDoor.LBack
