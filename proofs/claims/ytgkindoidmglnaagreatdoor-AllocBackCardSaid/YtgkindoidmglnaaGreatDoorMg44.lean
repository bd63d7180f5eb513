/- The allocator: small things about inodes. -/
import Derived.Test.YtgkindoidmglnaaGreatDoorMg40
import Derived.Test.YtgkindoidmglnaaGreatDoorMg49
namespace Go.Proofs.YtgkindoidmglnaaGreatDoor.AIno
open Go.RowKit Go.Shelf WMem WPlain WAppend WCrc WSeal TPlain TBits TSet TTurn TFace TTurnF TSame GPlain GGeo GGeo2 GFace Ext Map DPlain DMem EPlain EMem EFace EAny SPlain QPlain QMem APlain AMem AGeo AOpen ATurn

/-- is there such an inode? -/
def isI (A : Al) (x : Int) : Bool := inoB A.b A.p A.n A.j x
theorem isI_iff {A : Al} (h : May A.b A.p A.n A.j) (x : Int) : isI A x = true ↔ 1 ≤ x ∧ x ≤ (A.ng : Int) * A.n := by
  unfold isI inoB
  rw [groupsI_yes (may_iff.2 h), inB_true, ng_is h]
/-- the group in which it stands -/
def sof (A : Al) (x : Int) : Nat := if isI A x = true then ((x - 1) / A.n).toNat else 0
theorem sof_lt {A : Al} (h : May A.b A.p A.n A.j) (x : Int) : sof A x < A.ng := by
  have hg := ng_le h
  have hn := h.n0
  unfold sof
  split
  · rename_i hi
    rw [isI_iff h] at hi
    have h1 : (x - 1) / A.n < (A.ng : Int) := (Int.ediv_lt_iff_lt_mul (by omega)).2 (by omega)
    have h2 : 0 ≤ (x - 1) / A.n := Int.ediv_nonneg (by omega) (by omega)
    omega
  · omega
section
variable {A : Al} {w : World} {lb gb c b : Nat} {gs : List Grp} {fb fi : Int}
set_option maxHeartbeats 1000000 in
theorem isInode_any (hL : Led w lb gb c b A gs fb fi) (x : Int) :
    Calls Tryz.prog 74 #[.pointer (some ⟨lb, 0, none⟩), .int .i64 x] w fun e w' => e = .returned (.bool (isI A x)) ∧ Below w.heap.size w w' := by
  obtain ⟨c0, c1, c2, c3, c4, -⟩ := hL.cs
  clear hL
  have HC := Lib.hid (InodeAt_any A.b A.p A.n A.j w x)
  have he : ie A.b A.p A.n A.j x = if isI A x = true then 0 else 22 := rfl
  cases h : isI A x with
  | true =>
    rw [h] at he
    simp only [if_true] at he
    go_enter Tryz.func74, Tryz.ntmps74
    go_wp2_with fail
    refine HC.out.mono ?_
    rw [he]
    rintro e w1 ⟨rfl, hb1⟩
    go_wp2
    go_ret
    exact ⟨rfl, hb1⟩
  | false =>
    rw [h] at he
    simp only [Bool.false_eq_true, if_false] at he
    go_enter Tryz.func74, Tryz.ntmps74
    go_wp2_with fail
    refine HC.out.mono ?_
    rw [he]
    rintro e w1 ⟨rfl, hb1⟩
    go_wp2
    go_ret
    exact ⟨rfl, hb1⟩
set_option maxHeartbeats 1000000 in
theorem standsIn_any (hL : Led w lb gb c b A gs fb fi) (hM : May A.b A.p A.n A.j) (x : Int) :
    Calls Tryz.prog 69 #[.pointer (some ⟨lb, 0, none⟩), .int .i64 x] w fun e w' => e = .returned (.int .i64 (sof A x : Nat)) ∧ Below w.heap.size w w' := by
  have HC := Lib.hid (isInode_any hL x)
  have HL := Lib.hid hL
  have hn0 := hM.n0
  have hn1 := hM.n1
  have hg := ng_le hM
  clear hL
  cases h : isI A x with
  | false =>
    rw [h] at HC
    have e : sof A x = 0 := by unfold sof; rw [h]; rfl
    rw [e]
    go_enter Tryz.func69, Tryz.ntmps69
    go_wp2_with fail
    refine HC.out.mono ?_
    rintro e w1 ⟨rfl, hb1⟩
    go_wp2
    go_ret
    exact ⟨rfl, hb1⟩
  | true =>
    rw [h] at HC
    have hi := (isI_iff hM x).1 h
    have hx : x ≤ 14 * A.n := Int.le_trans hi.2 (Int.mul_le_mul_of_nonneg_right (by omega) (by omega))
    have e : ((sof A x : Nat) : Int) = (x - 1) / A.n := by
      unfold sof
      rw [h, if_pos rfl]
      exact Int.toNat_of_nonneg (Int.ediv_nonneg (by omega) (by omega))
    have d0 : IntKind.i64.wrap (x - 1) = x - 1 := IntWalk.i64_in _ (by omega)
    have d2 : (A.n == 0) = false := by rw [beq_eq_false_iff_ne]; omega
    have d3 : (x - 1).tdiv A.n = (x - 1) / A.n := Int.tdiv_eq_ediv_of_nonneg (by omega)
    have d4 : IntKind.i64.wrap ((x - 1) / A.n) = (x - 1) / A.n := IntWalk.i64_in _ (by
      have := Int.ediv_nonneg (show 0 ≤ x - 1 by omega) (show 0 ≤ A.n by omega)
      have := Int.ediv_le_self A.n (show 0 ≤ x - 1 by omega)
      omega)
    rw [e]
    clear hi hx
    go_enter Tryz.func69, Tryz.ntmps69
    go_wp2_with fail
    refine HC.out.mono ?_
    rintro e w1 ⟨rfl, hb1⟩
    obtain ⟨c0, c1, c2, c3, c4, -⟩ := (HL.out.below hb1).cs
    go_wp2
    go_ret
    exact ⟨rfl, hb1⟩
def dirN (d : Bool) : Int := if d = true then 1 else 0
theorem dirs_any (d : Bool) (w : World) : Calls Tryz.prog 73 #[.bool d] w fun e w' => e = .returned (.int .i64 (dirN d)) ∧ w' = w := by
  cases d with
  | true =>
    go_enter Tryz.func73, Tryz.ntmps73
    go_wp2
    go_ret
    exact ⟨rfl, rfl⟩
  | false =>
    go_enter Tryz.func73, Tryz.ntmps73
    go_wp2
    go_ret
    exact ⟨rfl, rfl⟩
/-- the first bit that is free -/
def firstI (l : Bk) (n : Nat) : Nat := (upFrom (fr l) 0 n).getD 0
def someI (l : Bk) (n : Nat) : Bool := (upFrom (fr l) 0 n).isSome
theorem up_found {P : Nat → Bool} {n k : Nat} (hk : k < n) (hP : P k = true) (hno : ∀ i, i < k → P i = false) : upFrom P 0 n = some k := by
  cases h : upFrom P 0 n with
  | none =>
    have := upFrom_none h k (Nat.zero_le _) (by omega)
    rw [hP] at this
    cases this
  | some r =>
    obtain ⟨_, h2, h3, h4⟩ := upFrom_some h
    rcases Nat.lt_trichotomy r k with hlt | heq | hgt
    · rw [hno r hlt] at h3; cases h3
    · rw [heq]
    · have := h4 k (Nat.zero_le _) hgt
      rw [hP] at this
      cases this
theorem up_no {P : Nat → Bool} {n : Nat} (hno : ∀ i, i < n → P i = false) : upFrom P 0 n = none := by
  cases h : upFrom P 0 n with
  | none => rfl
  | some r =>
    obtain ⟨_, h2, h3, _⟩ := upFrom_some h
    rw [hno r (by omega)] at h3
    cases h3
set_option maxHeartbeats 1000000 in
set_option maxRecDepth 100000 in
theorem firstFree_any {l : Bk} {rest : List Value} {n g c' : Nat} (x : Int) (hl : l.length = 256) (hn : n ≤ 2016) (hR : Row w g l rest) :
    Calls Tryz.prog 72 #[.agg #[.int .i64 x, .int .i64 (n : Int), .slice (some ⟨g, 0, none⟩) 256 c']] w fun e w' => e = .returned (.tuple #[.int .i64 (firstI l n : Nat), .bool (someI l n)]) ∧ Below w.heap.size w w' := by
  have hb := below_box (w := w) (.cells #[.int .i64 x, .int .i64 (n : Int), .slice (some ⟨g, 0, none⟩) 256 c'] 122)
  have r0 := rowV_new w [.int .i64 x, .int .i64 (n : Int), .slice (some ⟨g, 0, none⟩) 256 c'] 122
  have z1 := rowc r0 1 rfl
  have z2 := rowc r0 2 rfl
  have HR : Hid (Row (w.alloc (.cells #[.int .i64 x, .int .i64 (n : Int), .slice (some ⟨g, 0, none⟩) 256 c'] 122)) g l rest) := Lib.hid (row_alloc hR _)
  have HB := Lib.hid hb
  have HLL := Lib.hid hl
  clear hb hl hR r0
  go_enter Tryz.func72, Tryz.ntmps72
  go_wp2_with fail
  generalize w.alloc (.cells #[.int .i64 x, .int .i64 (n : Int), .slice (some ⟨g, 0, none⟩) 256 c'] 122) = W at *
  go_loopw [9] (fun i wr => ∃ k : Nat, k ≤ n ∧ i = .int .i64 k ∧ wr = W ∧ ∀ j, j < k → fr l j = false) (fun i _ => n - (RowKit.intOf i).toNat)
  case atStart => exact ⟨0, Nat.zero_le _, rfl, rfl, fun j hj => absurd hj (Nat.not_lt_zero _)⟩
  case round =>
    obtain ⟨k, hk, rfl, rfl, hno⟩ := hrel
    have HNO := Lib.hid hno
    clear hno
    by_cases hlt : k < n
    · have hpl : placeB (k : Int) = true := by unfold placeB; rw [decide_eq_true_iff]; omega
      have ht : tstB l (k : Int) = !fr l k := by unfold tstB; rw [hpl]; rfl
      have he : tstE (k : Int) = 0 := by unfold tstE; rw [hpl]; rfl
      have HT := Lib.hid (Test_any l 256 HLL.out wr.heap.size (some ⟨g, 0, none⟩) c' k wr (by omega) (HR.out.sl HR.out.lt))
      rw [ht, he] at HT
      clear ht he hpl
      cases hf : fr l k with
      | true =>
        rw [hf] at HT
        have hu := up_found hlt hf HNO.out
        have e1 : firstI l n = k := by unfold firstI; rw [hu]; rfl
        have e2 : someI l n = true := by unfold someI; rw [hu]; rfl
        have E1 := Lib.hid e1
        have E2 := Lib.hid e2
        clear hu e1 e2
        go_wp2_with fail
        refine HT.out.mono ?_
        rintro e w1 ⟨rfl, rfl⟩
        go_wp2
        go_ret2
        exact ⟨by rw [E1.out, E2.out]; rfl, HB.out⟩
      | false =>
        rw [hf] at HT
        have HF := Lib.hid hf
        go_wp2_with fail
        refine HT.out.mono ?_
        rintro e w1 ⟨rfl, rfl⟩
        go_wp2
        go_roundw
        case rel => exact ⟨k + 1, by omega, by go_num, by first | trivial | rfl, fun j hj => by
          by_cases e : j = k
          · rw [e]; exact HF.out
          · exact HNO.out j (by omega)⟩
        case measure => simp [RowKit.intOf]; omega
    · obtain rfl : k = n := by omega
      have hu := up_no HNO.out
      have e1 : firstI l k = 0 := by unfold firstI; rw [hu]; rfl
      have e2 : someI l k = false := by unfold someI; rw [hu]; rfl
      have E1 := Lib.hid e1
      have E2 := Lib.hid e2
      clear hu e1 e2
      go_wp2
      go_ret2
      exact ⟨by rw [E1.out, E2.out]; rfl, HB.out⟩
end
end Go.Proofs.YtgkindoidmglnaaGreatDoor.AIno
/- The allocator: the group with the most free inodes; a group's bitmap of inodes. -/
namespace Go.Proofs.YtgkindoidmglnaaGreatDoor.AIno2
open Go.RowKit Go.Shelf WMem WPlain WAppend WCrc WSeal TPlain TBits TSet TTurn TFace TTurnF TSame GPlain GGeo GGeo2 GFace Ext Map DPlain DMem EPlain EMem EFace EAny SPlain QPlain QMem APlain AMem AGeo AOpen ATurn AIno

/-- the one with the most, of several the first one -/
def rmst (F : Nat → Nat) : Nat → Nat
  | 0 => 0
  | k + 1 => if F (rmst F k) < F k then k else rmst F k
theorem rmst_lt (F : Nat → Nat) : ∀ k, rmst F k < k ∨ k = 0
  | 0 => .inr rfl
  | k + 1 => .inl (by
    have := rmst_lt F k
    simp only [rmst]
    split <;> (rcases this with h | h <;> first | omega | (subst h; simp [rmst])))
def rmA (A : Al) : Nat := rmst (fun i => TBits.zeros (A.im i)) A.ng
theorem rmA_lt {A : Al} (h : May A.b A.p A.n A.j) : rmA A < A.ng := by
  have := ng_le h
  rcases rmst_lt (fun i => TBits.zeros (A.im i)) A.ng with h | h
  · exact h
  · omega
section
variable {A : Al} {w : World} {lb gb c b : Nat} {fb fi : Int}
set_option maxHeartbeats 2000000 in
set_option maxRecDepth 100000 in
theorem roomiest_any (hL : Led w lb gb c b A A.gs fb fi) (hM : May A.b A.p A.n A.j) :
    Calls Tryz.prog 70 #[.pointer (some ⟨lb, 0, none⟩)] w fun e w' => e = .returned (.int .i64 (rmA A : Nat)) ∧ Below w.heap.size w w' := by
  obtain ⟨-, -, -, -, -, -, -, -, -, -, c10⟩ := hL.cs
  have hng := ng_le hM
  rw [gs_len] at c10
  obtain ⟨N, hN⟩ : ∃ N, A.ng = N := ⟨_, rfl⟩
  obtain ⟨F, hF⟩ : ∃ F : Nat → Nat, (fun i => TBits.zeros (A.im i)) = F := ⟨_, rfl⟩
  have hg : ∀ i, i < N → ∀ W, Below w.heap.size w W → W.cell? ⟨lb, 10, none⟩ = some (.slice (some ⟨gb, 0, none⟩) N c) ∧ W.cell? ⟨gb, i * 3, none⟩ = some (.int .i64 (A.grp i).fb) ∧ W.cell? ⟨gb, i * 3 + 1, none⟩ = some (.int .i64 (F i : Nat)) ∧ W.cell? ⟨gb, i * 3 + 2, none⟩ = some (.int .i64 (A.dirs i)) := fun i hi W hb => by
    obtain ⟨-, -, -, -, -, -, -, -, -, -, d10⟩ := (hL.below hb).cs
    obtain ⟨h1, h2, h3⟩ := (hL.below hb).gr (i := i) (by rw [gs_len]; omega)
    rw [gs_get] at h1 h2 h3
    rw [gs_len, hN] at d10
    rw [← hF]
    exact ⟨d10, h1, h2, h3⟩
  have HG := Lib.hid hg
  have hre : rmA A = rmst F N := by unfold rmA; rw [hF, hN]
  rw [hre]
  rw [hN] at c10 hng
  clear hL hM hg hN hF hre
  go_enter Tryz.func70, Tryz.ntmps70
  go_wp2_with fail
  go_loopw [3, 12] (fun m i wr => ∃ k : Nat, k ≤ N ∧ i = .int .i64 k ∧ m = .int .i64 (rmst F k : Nat) ∧ Below w.heap.size w wr) (fun _ i _ => N - (RowKit.intOf i).toNat)
  case atStart => exact ⟨0, Nat.zero_le _, rfl, rfl, Below.refl _ _⟩
  case round =>
    obtain ⟨k, hk, rfl, rfl, hB⟩ := hrel
    have HB := Lib.hid hB
    clear hB
    by_cases hlt : k < N
    · have hm : rmst F k < N := by
        rcases rmst_lt F k with h | h
        · omega
        · subst h; simp only [rmst]; omega
      obtain ⟨y10, y0, y1, y2⟩ := HG.out k hlt _ HB.out
      obtain ⟨fbk, hfk⟩ : ∃ x, (A.grp k).fb = x := ⟨_, rfl⟩
      obtain ⟨dk, hdk⟩ : ∃ x, A.dirs k = x := ⟨_, rfl⟩
      rw [hfk] at y0
      rw [hdk] at y2
      have HB1 : Hid (Below w.heap.size w (wr.alloc (.cells #[.int .i64 fbk, .int .i64 (F k : Nat), .int .i64 dk] 87))) := Lib.hid (HB.out.alloc HB.out.size _)
      obtain ⟨u10, u0, u1, u2⟩ := HG.out (rmst F k) hm _ HB1.out
      have r0 := rowV_new wr [.int .i64 fbk, .int .i64 (F k : Nat), .int .i64 dk] 87
      have x1 := rowc r0 1 rfl
      have E : Hid (rmst F (k + 1) = if F (rmst F k) < F k then k else rmst F k) := Lib.hid rfl
      obtain ⟨mm, hmm⟩ : ∃ mm, rmst F k = mm := ⟨_, rfl⟩
      rw [hmm] at hm u0 u1 u2 E
      obtain ⟨fk, hfk2⟩ : ∃ x, F k = x := ⟨_, rfl⟩
      obtain ⟨fm, hfm⟩ : ∃ x, F mm = x := ⟨_, rfl⟩
      rw [hfk2] at y1 x1 E HB1
      rw [hfm] at u1 E
      clear c10 r0 u0 u2 hfk hdk
      simp only [hmm, hfk2] at *
      by_cases hd : fm < fk
      · have d : decide ((fm : Int) < (fk : Int)) = true := by simp; omega
        have E2 : Hid (rmst F (k + 1) = k) := Lib.hid (by rw [E.out, if_pos hd])
        clear E
        go_wp2_with fail
        go_region
        go_wp2
        go_roundw
        case rel => exact ⟨k + 1, by omega, by go_num, by rw [E2.out], below_drewN HB1.out _⟩
        case measure => simp [RowKit.intOf]; omega
      · have d : decide ((fm : Int) < (fk : Int)) = false := by simp; omega
        have E2 : Hid (rmst F (k + 1) = mm) := Lib.hid (by rw [E.out, if_neg hd])
        clear E
        go_wp2_with fail
        go_region
        go_wp2
        go_roundw
        case rel => exact ⟨k + 1, by omega, by go_num, by rw [E2.out], below_drewN HB1.out _⟩
        case measure => simp [RowKit.intOf]; omega
    · obtain rfl : k = N := by omega
      go_wp2
      go_ret
      exact ⟨rfl, HB.out⟩
end
section
variable {a w : World} {B : Nat} {S : Nat → Prop} {b db : Nat} {s : Sto} {A : Al} {lb gb c : Nat} {gs : List Grp} {fb fi : Int}
set_option maxHeartbeats 2000000 in
set_option maxRecDepth 100000 in
theorem inodesOf_own (h : AS a B S w b db s) (hs : Says s A) (hL : Led w lb gb c b A gs fb fi) (hS1 : S lb) (_hS2 : S gb) (hT : Tab a) (hload : s.load ≤ 1073741824) {i x3 n : Nat} (hi : i < A.ng) (hx3 : A.bat i + 1 = x3) (hn : A.n = (n : Int)) :
    Calls Tryz.prog 71 #[.pointer (some ⟨lb, 0, none⟩), .int .i64 (i : Int)] w fun e w' => ∃ g c' rest, e = .returned (.tuple #[.agg #[.int .i64 (x3 : Int), .int .i64 (n : Int), .slice (some ⟨g, 0, none⟩) 256 c'], .int .i64 0]) ∧
      w.heap.size ≤ g ∧ 256 ≤ c' ∧ Row w' g (A.im i) rest ∧ AS a B (fun q => S q ∨ q = g) w' b db (s.read x3) ∧ Kp S w w' ∧ Rd s (s.read x3) 1 := by
  have hM := hs.fine.may
  have hn16 : n ≤ 2016 := by have := hM.n1; omega
  have hbt := hs.bat_lt hi
  have hm : isMap (A.im i) n x3 = true := by have := hs.fine.im i hi; rw [hn, hx3] at this; exact this
  have hv : s.val x3 = A.im i := by rw [← hx3]; exact hs.ims i hi
  have hpl := placeOf_any hM hi
  unfold plc at hpl
  rw [hx3] at hpl
  obtain ⟨z0, hz0⟩ : ∃ z, A.at_ i = z := ⟨_, rfl⟩
  obtain ⟨z1, hz1⟩ : ∃ z, A.at_ i + A.size i = z := ⟨_, rfl⟩
  obtain ⟨z2, hz2⟩ : ∃ z, A.bat i = z := ⟨_, rfl⟩
  obtain ⟨z4, hz4⟩ : ∃ z, A.bat i + 2 = z := ⟨_, rfl⟩
  obtain ⟨z5, hz5⟩ : ∃ z, A.at_ i + A.own i = z := ⟨_, rfl⟩
  rw [hz1, hz4, hz5, hz0, hz2] at hpl
  have HPL := Lib.hid hpl
  clear hpl hz0 hz1 hz2 hz4 hz5
  have hb0 := below_box (w := w) (.cells #[.int .i64 0, .int .i64 0, .slice none 0 0] 122)
  have hb1 := hb0.alloc (by simp) (.cells #[.int .i64 A.b, .int .i64 A.p, .int .i64 (n : Int), .int .i64 A.j] 23)
  have r0 := rowV_new w [.int .i64 0, .int .i64 0, .slice none 0 0] 122
  have r1 := rowV_new (w.alloc (.cells #[.int .i64 0, .int .i64 0, .slice none 0 0] 122)) [.int .i64 A.b, .int .i64 A.p, .int .i64 (n : Int), .int .i64 A.j] 23
  simp only [World.size_alloc] at r1
  obtain ⟨W0, hW0⟩ : ∃ W, (w.alloc (.cells #[.int .i64 0, .int .i64 0, .slice none 0 0] 122)).alloc (.cells #[.int .i64 A.b, .int .i64 A.p, .int .i64 (n : Int), .int .i64 A.j] 23) = W := ⟨_, rfl⟩
  have r0 := r0.alloc (.cells #[.int .i64 A.b, .int .i64 A.p, .int .i64 (n : Int), .int .i64 A.j] 23)
  have hsz0 : W0.heap.size = w.heap.size + 2 := by rw [← hW0]; simp
  rw [hW0] at hb1 r0
  have r1' : RowV W0 (w.heap.size + 1) 23 [.int .i64 A.b, .int .i64 A.p, .int .i64 (n : Int), .int .i64 A.j] := by rw [← hW0]; exact r1
  have HB0 := Lib.hid hb1
  have HA0 := Lib.hid (h.also hb1)
  have HL0 := Lib.hid (hL.below hb1)
  obtain ⟨c0, c1, c2, c3, c4, -⟩ := (hL.below hb0).cs
  rw [hn] at c3
  have HR0 := Lib.hid r0
  have HR1 := Lib.hid r1'
  have H := Lib.hid h
  have HS := Lib.hid hs
  have HT := Lib.hid hT
  have HV := Lib.hid hv
  have HM := Lib.hid hm
  have HI := Lib.hid hi
  have HSZ := Lib.hid hsz0
  have HX3 := Lib.hid hx3
  have HMM := Lib.hid hM
  have hN2 : A.n.toNat = n := by omega
  clear h hs hL hT hb0 hb1 r0 r1 r1' hM hm hv hsz0
  rw [hn] at HPL
  go_enter Tryz.func71, Tryz.ntmps71
  go_wp2_with fail
  try rw [hW0]
  refine wp_region_held_drew (S := (fun w' => RowV w' (w.heap.size + 1) 23 [.int .i64 A.b, .int .i64 A.p, .int .i64 (n : Int), .int .i64 A.j])) (by kernel_rfl) (HR1.out.drewN 1) (fun hHeld => ?_)
  -- WALKI begin
  refine wpAnyH_take (i := 0) (v := ?_) rfl (by kernel_rfl) (by kernel_rfl) (by kernel_rfl) (fun _ _ _ h => h) (Or.inl ⟨by rfl, ?_⟩) hHeld ?_
  rotate_left
  · intro wq hSw
    go_simp
    try with_reducible rfl
  try simp only [Act.put, List.getElem_toArray, List.getElem_cons_zero, List.setIfInBounds_toArray, List.set_cons_zero, List.set_cons_succ]
  refine wpAnyH_take (i := 1) (v := ?_) rfl (by kernel_rfl) (by kernel_rfl) (by kernel_rfl) (fun _ _ _ h => h) (Or.inl ⟨by rfl, ?_⟩) hHeld ?_
  rotate_left
  · intro wq hSw
    have p0 := rowc hSw 0 rfl
    have p1 := rowc hSw 1 rfl
    have p2 := rowc hSw 2 rfl
    have p3 := rowc hSw 3 rfl
    go_simp
    try with_reducible rfl
  try simp only [Act.put, List.getElem_toArray, List.getElem_cons_zero, List.getElem_cons_succ, List.setIfInBounds_toArray, List.set_cons_zero, List.set_cons_succ]
  refine wpAnyH_take (i := 2) (v := ?_) rfl (by kernel_rfl) (by kernel_rfl) (by kernel_rfl) (fun _ _ _ h => h) (Or.inl ⟨by rfl, ?_⟩) hHeld ?_
  rotate_left
  · intro wq hSw
    go_simp
    try with_reducible rfl
  try simp only [Act.put, List.getElem_toArray, List.getElem_cons_zero, List.getElem_cons_succ, List.setIfInBounds_toArray, List.set_cons_zero, List.set_cons_succ]
  refine wpAnyH_take (i := 5) (v := ?_) rfl (by kernel_rfl) (by kernel_rfl) (by kernel_rfl) (fun _ _ _ h => h) (Or.inl ⟨by rfl, ?_⟩) hHeld ?_
  rotate_left
  · intro wq hSw
    go_simp
    try with_reducible rfl
  try simp only [Act.put, List.getElem_toArray, List.getElem_cons_zero, List.getElem_cons_succ, List.setIfInBounds_toArray, List.set_cons_zero, List.set_cons_succ]
  refine wpAnyH_take (i := 6) (v := ?_) rfl (by kernel_rfl) (by kernel_rfl) (by kernel_rfl) (fun _ _ _ h => h) (Or.inl ⟨by rfl, ?_⟩) hHeld ?_
  rotate_left
  · intro wq hSw
    have p0 := rowc hSw 0 rfl
    have p1 := rowc hSw 1 rfl
    have p2 := rowc hSw 2 rfl
    have p3 := rowc hSw 3 rfl
    go_simp
    try with_reducible rfl
  try simp only [Act.put, List.getElem_toArray, List.getElem_cons_zero, List.getElem_cons_succ, List.setIfInBounds_toArray, List.set_cons_zero, List.set_cons_succ]
  refine wpAnyH_ready (rs := [3]) (by kernel_rfl) (by simp) ?_
  refine AllReadyH.cons (o := _) rfl (fun K hK => ?_) (AllReadyH.nil)
  go_simp
  go_at_call 61
  refine (HPL.out W0.drew).mono ?_
  rintro e W1 ⟨rfl, hb1⟩
  have HB1 := Lib.hid hb1
  have HR1b := Lib.hid ((HR1.out.drewN 1).keep hb1 (HR1.out.drewN 1).lt)
  have HR0b := Lib.hid ((HR0.out.drewN 1).keep hb1 (HR0.out.drewN 1).lt)
  clear hb1
  go_wp2_with fail
  refine hK.out _ _ HR1b.out (fun hHeld => ?_)
  clear hK K
  try simp only [Act.put, List.getElem_toArray, List.getElem_cons_zero, List.getElem_cons_succ, List.setIfInBounds_toArray, List.set_cons_zero, List.set_cons_succ]
  refine wpAnyH_take (i := 4) (v := .int .i64 (x3 : Int)) rfl (by kernel_rfl) (by kernel_rfl) (by kernel_rfl) (fun _ _ _ h => h) (Or.inl ⟨by rfl, ?_⟩) hHeld ?_
  · intro wq hSw
    first | kernel_rfl | rfl | (go_simp; rfl)
  try simp only [Act.put, List.getElem_toArray, List.getElem_cons_zero, List.getElem_cons_succ, List.setIfInBounds_toArray, List.set_cons_zero, List.set_cons_succ]
  refine wpAnyH_ready (rs := [7]) (by kernel_rfl) (by simp) ?_
  refine AllReadyH.cons (o := _) rfl (fun K hK => ?_) (AllReadyH.nil)
  go_simp
  go_at_call 62
  refine (read_own ((HA0.out.drewN 1).also HB1.out) ((HL0.out.drewN 1).below HB1.out) (.inl (.inl hS1)) HS.out.coh HT.out hload x3 n (A.im i) (by have := HS.out.bat_lt HI.out; have := HX3.out; omega) HV.out hn16 HM.out).mono ?_
  rintro e W2 ⟨g, c', rest, rfl, hg, hc', hR, hA2, hk2, hr2⟩
  have HG := Lib.hid (And.intro hg hc')
  have HR := Lib.hid hR
  have HA2 := Lib.hid hA2
  have HK2 := Lib.hid hk2
  have HRD := Lib.hid hr2
  have hz1 := HB1.out.size
  have hz0 := HSZ.out
  have R1c : RowV W2 (w.heap.size + 1) 23 [.int .i64 A.b, .int .i64 A.p, .int .i64 (n : Int), .int .i64 A.j] := (hk2 _ (.inl (.inr ⟨by omega, by omega⟩))).trans HR1b.out
  have R0c : RowV W2 w.heap.size 122 [.int .i64 0, .int .i64 0, .slice none 0 0] := (hk2 _ (.inl (.inr ⟨by omega, by omega⟩))).trans HR0b.out
  have HR1c := Lib.hid R1c
  have y0 := rowc R0c 0 rfl
  have y1 := rowc R0c 1 rfl
  have y2 := rowc R0c 2 rfl
  have yf := R0c.free
  have HR0c := Lib.hid R0c
  clear hg hc' hR hA2 hk2 hr2 R1c R0c
  go_wp2_with fail
  refine hK.out _ _ HR1c.out (fun hHeld => ?_)
  clear hK K
  try simp only [Act.put, List.getElem_toArray, List.getElem_cons_zero, List.getElem_cons_succ, List.setIfInBounds_toArray, List.set_cons_zero, List.set_cons_succ]
  refine wpAnyH_take (i := 8) (v := ?_) rfl (by kernel_rfl) (by kernel_rfl) (by kernel_rfl) (fun _ _ _ h => h) (Or.inl ⟨by rfl, ?_⟩) hHeld ?_
  rotate_left
  · intro wq hSw
    go_simp
    try with_reducible rfl
  try simp only [Act.put, List.getElem_toArray, List.getElem_cons_zero, List.getElem_cons_succ, List.setIfInBounds_toArray, List.set_cons_zero, List.set_cons_succ]
  refine wpAnyH_take (i := 9) (v := ?_) rfl (by kernel_rfl) (by kernel_rfl) (by kernel_rfl) (fun _ _ _ h => h) (Or.inl ⟨by rfl, ?_⟩) hHeld ?_
  rotate_left
  · intro wq hSw
    go_simp
    try with_reducible rfl
  try simp only [Act.put, List.getElem_toArray, List.getElem_cons_zero, List.getElem_cons_succ, List.setIfInBounds_toArray, List.set_cons_zero, List.set_cons_succ]
  refine wpAnyH_ready (rs := [10]) (by kernel_rfl) (by simp) ?_
  refine AllReadyH.cons (o := _) rfl (fun K hK => ?_) (AllReadyH.nil)
  go_simp
  refine hK.out _ _ (rowV_far (rowV_far (rowV_far HR1c.out ⟨w.heap.size, 0, none⟩ _ (by simp)) ⟨w.heap.size, 1, none⟩ _ (by simp)) ⟨w.heap.size, 2, none⟩ _ (by simp)) (fun hHeld => ?_)
  clear hK K
  try simp only [Act.put, List.getElem_toArray, List.getElem_cons_zero, List.getElem_cons_succ, List.setIfInBounds_toArray, List.set_cons_zero, List.set_cons_succ]
  refine wpAnyH_take (i := 11) (v := ?_) rfl (by kernel_rfl) (by kernel_rfl) (by kernel_rfl) (fun _ _ _ h => h) (Or.inl ⟨by rfl, ?_⟩) hHeld ?_
  rotate_left
  · intro wq hSw
    go_simp
    try with_reducible rfl
  try simp only [Act.put, List.getElem_toArray, List.getElem_cons_zero, List.getElem_cons_succ, List.setIfInBounds_toArray, List.set_cons_zero, List.set_cons_succ]
  refine wpAnyH_done (by kernel_rfl) ?_ _
  go_wp2
  have F := ((HR0c.out.set 0 (.int .i64 (x3 : Int))).set 1 (.int .i64 (n : Int))).set 2 (.slice (some ⟨g, 0, none⟩) 256 c')
  have f0 := rowc F 0 rfl
  have f1 := rowc F 1 rfl
  have f2 := rowc F 2 rfl
  refine bodyPost_ret_by (v := .tuple #[.agg #[.int .i64 (x3 : Int), .int .i64 (n : Int), .slice (some ⟨g, 0, none⟩) 256 c'], .int .i64 0]) (by simp [results, Tryz.results71, go_sem, f0, f1, f2]; try rfl) rfl ?_
  have ha : a.heap.size ≤ w.heap.size := H.out.below.size
  have hgw : w.heap.size < g := by have := HG.out.1; have := HB1.out.size; have := HSZ.out; have e : W0.drew.heap.size = W0.heap.size := rfl; omega
  have hA3 := ((HA2.out.cell ⟨w.heap.size, 0, none⟩ (.int .i64 (x3 : Int)) (.inl (.inl (.inr ⟨Nat.le_refl _, by have := HSZ.out; show w.heap.size < W0.heap.size; omega⟩))) (by show a.heap.size ≤ w.heap.size; exact ha)).cell ⟨w.heap.size, 1, none⟩ (.int .i64 (n : Int)) (.inl (.inl (.inr ⟨Nat.le_refl _, by have := HSZ.out; show w.heap.size < W0.heap.size; omega⟩))) (by show a.heap.size ≤ w.heap.size; exact ha)).cell ⟨w.heap.size, 2, none⟩ (.slice (some ⟨g, 0, none⟩) 256 c') (.inl (.inl (.inr ⟨Nat.le_refl _, by have := HSZ.out; show w.heap.size < W0.heap.size; omega⟩))) (by show a.heap.size ≤ w.heap.size; exact ha)
  refine ⟨g, c', rest, rfl, by omega, HG.out.2, ?_, hA3.less fun q hq => ?_, ?_, HRD.out⟩
  · exact (Below.heap_setCell _ ⟨w.heap.size, 2, none⟩ _ g (by show g ≠ w.heap.size; omega)).trans ((Below.heap_setCell _ ⟨w.heap.size, 1, none⟩ _ g (by show g ≠ w.heap.size; omega)).trans ((Below.heap_setCell _ ⟨w.heap.size, 0, none⟩ _ g (by show g ≠ w.heap.size; omega)).trans HR.out))
  · rcases hq with hq | hq
    · exact .inl (.inl (.inl hq))
    · exact .inr hq
  · have hnS : ¬ S w.heap.size := fun hq => Nat.lt_irrefl _ (H.out.there _ hq)
    have k1 : Kp S w W1 := ((H.out.kp HB0.out).trans (Kp.drewN _ _ 1)).trans (((HA0.out.drewN 1).kp HB1.out).less fun q hq => .inl hq)
    exact (((k1.trans (HK2.out.less fun q hq => .inl (.inl hq))).trans (Kp.cell _ ⟨w.heap.size, 0, none⟩ _ hnS)).trans (Kp.cell _ ⟨w.heap.size, 1, none⟩ _ hnS)).trans (Kp.cell _ ⟨w.heap.size, 2, none⟩ _ hnS)
  -- WALKI end
end
end Go.Proofs.YtgkindoidmglnaaGreatDoor.AIno2
/- The allocator: an inode is taken: what the walks share. -/
namespace Go.Proofs.YtgkindoidmglnaaGreatDoor.ATkI
open Go.RowKit Go.Shelf WMem WPlain WAppend WCrc WSeal TPlain TBits TSet TTurn TFace TTurnF TSame TFind TFacts GPlain GGeo GGeo2 GFace Ext Map DPlain DMem EPlain EMem EFace EBack EAny SPlain QPlain QMem QChunk APlain AMem AGeo AOpen ATurn ACount AHad ARound AIno AIno2

/-- is an inode free in a group? which? -/
def okI (A : Al) (i : Nat) : Bool := someI (A.im i) A.n.toNat
def atI (A : Al) (i : Nat) : Nat := firstI (A.im i) A.n.toNat
theorem okI_facts {A : Al} {i : Nat} (h : okI A i = true) : atI A i < A.n.toNat ∧ fr (A.im i) (atI A i) = true ∧ ∀ k, k < atI A i → fr (A.im i) k = false := by
  unfold okI someI at h
  unfold atI firstI
  cases e : upFrom (fr (A.im i)) 0 A.n.toNat with
  | none => rw [e] at h; cases h
  | some r =>
    obtain ⟨_, h2, h3, h4⟩ := upFrom_some e
    exact ⟨by simpa using h2, h3, fun k hk => h4 k (Nat.zero_le _) hk⟩
theorem okI_no {A : Al} {i : Nat} (h : okI A i = false) : ∀ k, k < A.n.toNat → fr (A.im i) k = false := by
  unfold okI someI at h
  cases e : upFrom (fr (A.im i)) 0 A.n.toNat with
  | none => exact fun k hk => upFrom_none e k (Nat.zero_le _) (by omega)
  | some r => rw [e] at h; cases h
/-- what is left when none was found, or one -/
def TookI (d : Nat) (A : Al) (s : Sto) (f : Nat) (dir : Bool) (v : Value) (s' : Sto) : Prop :=
  (upFrom (fun k => okI A (nth f A.ng k)) 0 A.ng = none ∧ v = .tuple #[.int .i64 0, .int .i64 28] ∧ Rd s s' d) ∨
  ∃ k i x l, upFrom (fun k => okI A (nth f A.ng k)) 0 A.ng = some k ∧ nth f A.ng k = i ∧ atI A i = x ∧ turnL (A.im i) x 1 (A.bat i + 1) = l ∧
    v = .tuple #[.int .i64 (i * A.n.toNat + x + 1 : Nat), .int .i64 0] ∧ ∃ s1, Rd s s1 d ∧ s' = ((s1.write (A.bat i + 1) l).write 1 (A.setI i l (dirN dir)).grps).write 0 (A.setI i l (dirN dir)).sup
theorem TookI.pre {d e : Nat} {A : Al} {s s0 s' : Sto} {f : Nat} {dir : Bool} {v : Value} (h : TookI d A s0 f dir v s') (hr : Rd s s0 e) : TookI (e + d) A s f dir v s' := by
  rcases h with ⟨h1, h2, h3⟩ | ⟨k, i, x, l, h1, h2, h3, h4, h5, s1, h7, h8⟩
  · exact .inl ⟨h1, h2, hr.trans h3⟩
  · exact .inr ⟨k, i, x, l, h1, h2, h3, h4, h5, s1, hr.trans h7, h8⟩
/-- the call's own boxes -/
def boxesI (w : World) (lb : Nat) (dir : Bool) : World :=
  (((w.alloc (.cells #[.pointer (some ⟨lb, 0, none⟩)] 61)).alloc (.cells #[.bool dir] 4)).alloc (.cells #[.int .i64 0] 3)).alloc (.cells #[.int .i64 0] 30)
structure BxI (w0 w : World) (lb : Nat) (dir : Bool) : Prop where
  b0 : RowV w w0.heap.size 61 [.pointer (some ⟨lb, 0, none⟩)]
  b1 : RowV w (w0.heap.size + 1) 4 [.bool dir]
  b2 : RowV w (w0.heap.size + 2) 3 [.int .i64 0]
  b3 : RowV w (w0.heap.size + 3) 30 [.int .i64 0]
theorem boxesI_is (w : World) (lb : Nat) (dir : Bool) : (boxesI w lb dir).heap.size = w.heap.size + 4 ∧ Below w.heap.size w (boxesI w lb dir) ∧ BxI w (boxesI w lb dir) lb dir := by
  unfold boxesI
  have h0 := rowV_new w [.pointer (some ⟨lb, 0, none⟩)] 61
  have h1 := rowV_new (w.alloc (.cells #[.pointer (some ⟨lb, 0, none⟩)] 61)) [.bool dir] 4
  have h2 := rowV_new ((w.alloc (.cells #[.pointer (some ⟨lb, 0, none⟩)] 61)).alloc (.cells #[.bool dir] 4)) [.int .i64 0] 3
  have h3 := rowV_new (((w.alloc (.cells #[.pointer (some ⟨lb, 0, none⟩)] 61)).alloc (.cells #[.bool dir] 4)).alloc (.cells #[.int .i64 0] 3)) [.int .i64 0] 30
  simp only [World.size_alloc, Nat.add_assoc, Nat.reduceAdd] at h1 h2 h3
  refine ⟨by simp, ?_, ⟨((h0.alloc _).alloc _).alloc _, (h1.alloc _).alloc _, h2.alloc _, h3⟩⟩
  refine ((((Below.refl _ _).alloc (Nat.le_refl _) _).alloc ?_ _).alloc ?_ _).alloc ?_ _ <;> simp <;> omega
theorem BxI.keep {w0 w w' : World} {lb : Nat} {dir : Bool} (h : BxI w0 w lb dir) (hk : ∀ q, w0.heap.size ≤ q → q < w0.heap.size + 4 → w'.heap[q]? = w.heap[q]?) : BxI w0 w' lb dir :=
  ⟨(hk _ (by omega) (by omega)).trans h.b0, (hk _ (by omega) (by omega)).trans h.b1, (hk _ (by omega) (by omega)).trans h.b2, (hk _ (by omega) (by omega)).trans h.b3⟩
/-- behind rounds in which none was found -/
def TII (a : World) (B : Nat) (b db : Nat) (s : Sto) (A : Al) (f : Nat) (Sx : Nat → Prop) (W1 : World) (pre : List Nat) (W : World) : Prop :=
  ∃ s1, Rd s s1 pre.length ∧ AS a B Sx W b db s1 ∧ Kp Sx W1 W ∧ (pre = List.range pre.length → ∀ y, y < pre.length → okI A (nth f A.ng y) = false)
/-- behind the one in which one was found -/
def TXI (a : World) (B : Nat) (b db : Nat) (s : Sto) (A : Al) (f : Nat) (dir : Bool) (Sx : Nat → Prop) (lb gb z : Nat) (W1 : World) (cc : Code) (pre : List Nat) (W : World) : Prop :=
  cc = .ret ∧ ∃ ini x i xx l s1, pre = ini ++ [x] ∧ (ini = List.range ini.length → ∀ y, y < ini.length → okI A (nth f A.ng y) = false) ∧ nth f A.ng x = i ∧ okI A i = true ∧ atI A i = xx ∧
    turnL (A.im i) xx 1 (A.bat i + 1) = l ∧ Rd s s1 14 ∧ AS a B Sx W b db (((s1.write (A.bat i + 1) l).write 1 (A.setI i l (dirN dir)).grps).write 0 (A.setI i l (dirN dir)).sup) ∧ Kp (fun q => Sx q ∧ q ≠ lb ∧ q ≠ gb ∧ q ≠ z + 2 ∧ q ≠ z + 3) W1 W ∧
    RowV W (z + 2) 3 [.int .i64 (i * A.n.toNat + xx + 1 : Nat)] ∧ RowV W (z + 3) 30 [.int .i64 0]
theorem kp_grown {Q : Nat → Prop} {W0 X Y : World} {row : Option Nat} (h : Kp Q W0 X) (hQ : ∀ q, Q q → q < W0.heap.size) (hX : W0.heap.size ≤ X.heap.size) (hg : X.grownBy Y row) (hr : ∀ r, row = some r → W0.heap.size ≤ r) : Kp Q W0 Y := fun q hq =>
  (hg.block q (Nat.lt_of_lt_of_le (hQ q hq) hX) (fun e => by have := hr q e.symm; have := hQ q hq; omega)).trans (h q hq)
section
variable {a W1 : World} {B b db : Nat} {s : Sto} {A : Al} {f : Nat} {dir : Bool} {Sx : Nat → Prop} {lb gb z : Nat}
theorem TII.own (hB : B ≤ W1.heap.size) (ha : a.heap.size ≤ W1.heap.size) (hS : ∀ q, Sx q → q < W1.heap.size) : OwnFrom W1.heap.size (fun pre W => TII a B b db s A f Sx W1 pre W ∧ W1.heap.size ≤ W.heap.size) := by
  rintro pre X Y row ⟨⟨s1, h1, h2, h3, h4⟩, hz⟩ hg hr
  exact ⟨⟨s1, h1, h2.grown hg (fun r e => ⟨by have := (hr r e).1; omega, by have := (hr r e).1; omega, (hr r e).2⟩), kp_grown h3 hS hz hg (fun r e => (hr r e).1), h4⟩, Nat.le_trans hz hg.size⟩
theorem TXI.own (hB : B ≤ W1.heap.size) (ha : a.heap.size ≤ W1.heap.size) (hS : ∀ q, Sx q → q < W1.heap.size) (hz6 : z + 4 ≤ W1.heap.size) (cc : Code) : OwnFrom W1.heap.size (fun pre W => TXI a B b db s A f dir Sx lb gb z W1 cc pre W ∧ W1.heap.size ≤ W.heap.size) := by
  rintro pre X Y row ⟨⟨h0, ini, x, i, xx, l, s1, h1, h2, h3, h4, h5, h7, h8, h9, h10, h11, h12⟩, hz⟩ hg hr
  have hk : ∀ q, q < W1.heap.size → Y.heap[q]? = X.heap[q]? := fun q hq => hg.block q (by omega) (fun e => by have := (hr q e.symm).1; omega)
  exact ⟨⟨h0, ini, x, i, xx, l, s1, h1, h2, h3, h4, h5, h7, h8, h9.grown hg (fun r e => ⟨by have := (hr r e).1; omega, by have := (hr r e).1; omega, (hr r e).2⟩), kp_grown h10 (fun q hq => hS q hq.1) hz hg (fun r e => (hr r e).1),
    (hk _ (by omega)).trans h11, (hk _ (by omega)).trans h12⟩, Nat.le_trans hz hg.size⟩
end
theorem up_none {P : Nat → Bool} {n : Nat} (h : ∀ y, y < n → P y = false) : upFrom P 0 n = none := up_no h
theorem up_some {P : Nat → Bool} {n x : Nat} (hx : x < n) (h : ∀ y, y < x → P y = false) (h1 : P x = true) : upFrom P 0 n = some x := up_found hx h1 h
/-- the cells that a round reads -/
structure RgI (w : World) (z lb : Nat) (dir : Bool) : Prop where
  r0 : RowV w z 61 [.pointer (some ⟨lb, 0, none⟩)]
  r1 : RowV w (z + 1) 4 [.bool dir]
theorem RgI.keep {w w' : World} {z lb : Nat} {dir : Bool} (h : RgI w z lb dir) (hb : Below w.heap.size w w') : RgI w' z lb dir := ⟨h.r0.keep hb h.r0.lt, h.r1.keep hb h.r1.lt⟩
/-- numbers -/
theorem num_ino {i n xx : Nat} (hi : i ≤ 14) (hn : n ≤ 2016) (hx : xx ≤ 2016) : wrap64 ((i : Int) * (n : Int)) = ((i * n : Nat) : Int) ∧ wrap64 (((i * n : Nat) : Int) + (xx : Int)) = ((i * n + xx : Nat) : Int) ∧ wrap64 (((i * n + xx : Nat) : Int) + 1) = ((i * n + xx + 1 : Nat) : Int) := by
  have h1 : i * n ≤ 14 * 2016 := Nat.mul_le_mul hi hn
  refine ⟨?_, ?_, ?_⟩
  · rw [← Int.natCast_mul]; exact IntWalk.wrap64_in _ ⟨by omega, by omega⟩
  · rw [← Int.natCast_add]; exact IntWalk.wrap64_in _ ⟨by omega, by omega⟩
  · exact IntWalk.wrap64_in _ ⟨by omega, by omega⟩
end Go.Proofs.YtgkindoidmglnaaGreatDoor.ATkI
