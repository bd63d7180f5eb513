/- The document's Pack: the block of a record. -/
import Derived.Test.YtkkcipjlinfieaaDoorJRMay
import Derived.Test.YtkkcipjlinfieaaDoorJPack
import Derived.Test.YtkkcipjlinfieaaDoorWRefPack
import Derived.Test.YtkkcipjlinfieaaDoorWRefSeal
namespace Go.Proofs.YtkkcipjlinfieaaDoor.JRPack
open Go.RowKit WMem WPlain WList WPack WHelp WAppend WWide WAny WCrc WSeal WRefPack WRefSeal SNums JPlain JMem JMay JWide JBody JPack JRMay

theorem elemI : Elem Tryd.prog 23 3 8 := ⟨by kernel_rfl, by
  obtain ⟨i, h1, h2, h3, h4⟩ := info_parts (P := Tryd.prog) (e := 3) (z := .int .i64 0) (size := 1) (bytes := 8) (by kernel_rfl)
  exact ⟨i, _, h1, h2, h3, h4, rfl⟩⟩
theorem Boxed.grownO {a w w' : World} {vs : List Value} {row : Option Nat} (h : Boxed a w vs) (hg : w.grownBy w' row) (hr : ∀ k, row = some k → a.heap.size < k) : Boxed a w' vs :=
  ⟨h.below.grown hg h.below.size (fun k hk => Nat.le_of_lt (hr k hk)), by have := h.lt; have := hg.size; omega, fun i v hv => (World.cell?_of_block (hg.block a.heap.size h.lt (fun e => by have := hr _ e.symm; omega))).trans (h.cell i v hv)⟩
theorem own_ge {w : World} {base : Nat} {e : TypeId} {size n : Nat} {v : Value} {zs : List Value} (h : w.ownsRow base e size v n zs) : ∀ g, v.ownBlock = some g → base ≤ g := by
  rcases h.2 with ⟨rfl, _⟩ | ⟨k, cap, cur, rfl, hb, _⟩
  · intro g hg; simp [Value.ownBlock] at hg
  · intro g hg
    simp only [Value.ownBlock, Option.some.injEq] at hg
    omega
/-- the record's box, and the two lists that grow -/
structure PK (w W : World) (cs : List Value) (v u : Value) (xs : List Value) (n : Nat) (ws : List Value) (m : Nat) : Prop where
  box : Boxed w W cs
  l : W.ownsRow (w.heap.size + 1) 66 1 v n xs
  s : W.ownsRow (w.heap.size + 1) 3 1 u m ws
section
variable {w W W' : World} {cs : List Value} {v u v' : Value} {xs xs' ws ws' : List Value} {n n' m m' : Nat}
theorem PK.alloc (h : PK w W cs v u xs n ws m) (o : Obj) : PK w (W.alloc o) cs v u xs n ws m := ⟨h.box.alloc o, h.l.alloc o, h.s.alloc o⟩
theorem PK.left (h : PK w W cs v u xs n ws m) (h1 : W'.ownsRow (w.heap.size + 1) 66 1 v' n' xs') (h2 : W.grownBy W' v.ownBlock) : PK w W' cs v' u xs' n' ws m :=
  ⟨Boxed.grownO h.box h2 (fun k hk => by have := own_ge h.l k hk; omega), h1, h.s.kept h2 ((owns_apart h.s h.l (by decide)))⟩
theorem PK.right (h : PK w W cs v u xs n ws m) (h1 : W'.ownsRow (w.heap.size + 1) 3 1 v' n' xs') (h2 : W.grownBy W' u.ownBlock) : PK w W' cs v v' xs n xs' n' :=
  ⟨Boxed.grownO h.box h2 (fun k hk => by have := own_ge h.s k hk; omega), h.l.kept h2 ((owns_apart h.l h.s (by decide))), h1⟩
theorem PK.lt (h : PK w W cs v u xs n ws m) : w.heap.size + 1 ≤ W.heap.size := h.box.lt
end
/-- an entry, in every world that grew out of this one -/
theorem Ents.fix {w : World} {B : Nat} {A : Option Addr} {l : List Ent} (h : Ents w B A l) (hB : B ≤ w.heap.size) {k : Nat} (hk : k < l.length) :
    ∃ a, A = some a ∧ ∀ W, Below w.heap.size w W → W.cell? (a.add (k * 2)) = some (.int .i64 l[k].blk) ∧ W.cell? ⟨(a.add (k * 2)).block, (a.add (k * 2)).off + 1, none⟩ = some (.bool l[k].esc) := by
  obtain ⟨a, hA, hab, c0, c1⟩ := h.at_ hk
  have hb : (a.add (k * 2)).block < w.heap.size := by rw [addr_add_block]; omega
  exact ⟨a, hA, fun W hW => ⟨(hW.cell hb).trans c0, (hW.cell (p := ⟨(a.add (k * 2)).block, (a.add (k * 2)).off + 1, none⟩) hb).trans c1⟩⟩
theorem altw_more (k : Nat) : (bodyW 1 (k + 1)).map i64v = (bodyW 1 k).map i64v ++ [.int .i64 4, .int .i64 1] := by
  have e : bodyW 1 (k + 1) = bodyW 1 k ++ [4, 1] := by
    have h : ∀ n, bodyW 1 n = (List.range (2 * n)).map alt := fun _ => rfl
    rw [h, h, show 2 * (k + 1) = 2 * k + 1 + 1 by omega, List.range_succ, List.range_succ]
    have e1 : alt (2 * k) = 4 := by unfold alt; rw [if_pos (by omega)]
    have e2 : alt (2 * k + 1) = 1 := by unfold alt; rw [if_neg (by omega)]
    simp [e1, e2]
  rw [e, List.map_append]
  rfl
theorem fourw_more (k : Nat) : (bodyW 3 (k + 1)).map i64v = (bodyW 3 k).map i64v ++ [.int .i64 4] := by
  have e : bodyW 3 (k + 1) = bodyW 3 k ++ [4] := by
    show List.replicate (k + 1) 4 = List.replicate k 4 ++ [4]
    rw [List.replicate_succ']
  rw [e, List.map_append]
  rfl
theorem one_int (x : Int) : ∀ u ∈ ([.int .i64 x] : List Value), u.oneCell' = true := by simp [Value.oneCell']
theorem own_sl {w : World} {B n : Nat} {e : TypeId} {v : Value} {xs : List Value} (h : w.ownsRow B e 1 v n xs) (hn : 0 < n) : ∃ g c, v = .slice (some ⟨g, 0, none⟩) n c ∧ Sl w w.heap.size (some ⟨g, 0, none⟩) xs := by
  obtain ⟨g, c, rfl, hb, hg⟩ := h.form hn
  exact ⟨g, c, rfl, sl_own h⟩
theorem refPackW_at (len : Nat) (xs : List UInt64) (hlen : xs.length = len) (len' : Nat) (ws : List Int) (hlen' : ws.length = len') (B : Nat) (A A' : Option Addr) (c c' : Nat) (w : World) (size : Nat) (hB : B ≤ w.heap.size) (h : packs xs ws (size : Int)) (hx : fit (nats ws) xs) (hA : Sl w B A (xs.map u64v)) (hA' : Sl w B A' (ws.map i64v)) :
    Calls Tryd.prog 42 #[.slice A len c, .slice A' len' c', .int .i64 (size : Int)] w fun e w' =>
      ∃ g, e = .returned (.tuple #[.slice (some ⟨g, 0, none⟩) size size, .int .i64 0]) ∧ w.heap.size ≤ g ∧ Row w' g (bytesOf_ xs ws (size : Int)) [] ∧ Below w.heap.size w w' := by
  subst hlen
  subst hlen'
  exact refPack_ok xs ws size B A A' c c' w hB h hx hA hA'
theorem refSeal_at (n : Nat) (l : List UInt8) (hn : l.length = n) (g : Nat) (seed : Nat) (w : World) (hs : seed < 4294967296) (hl : n ≤ 140737488355328) (hR : Row w g l []) :
    Calls Tryd.prog 43 #[.slice (some ⟨g, 0, none⟩) n n, .int .u32 seed] w fun e w' => e = .returned (.int .i64 (sealE l)) ∧ WAny.Own w' g (.slice (some ⟨g, 0, none⟩) n n) (sealL l seed) ∧ w.grownBy w' (some g) := by
  subst hn
  exact refSeal_any l g (.slice (some ⟨g, 0, none⟩) l.length l.length) seed w hs hl (.inr ⟨g, l.length, [], rfl, Nat.le_refl _, Nat.le_refl _, hR⟩)
theorem owns_len {w : World} {B n : Nat} {e : TypeId} {v : Value} {xs : List Value} (h : w.ownsRow B e 1 v n xs) : xs.length = n := by
  have := h.1
  omega
theorem lens_of {W : World} {B n m : Nat} {v u : Value} {xs : List UInt64} {ws : List Int} (h : W.ownsRow B 66 1 v n (xs.map u64v)) (h' : W.ownsRow B 3 1 u m (ws.map i64v)) : xs.length = n ∧ ws.length = m :=
  ⟨by have := owns_len h; rwa [List.length_map] at this, by have := owns_len h'; rwa [List.length_map] at this⟩
theorem own_base {w : World} {B B' : Nat} {v : Value} {l : List UInt8} (h : WAny.Own w B v l) (hB : B' ≤ B) : WAny.Own w B' v l := by
  rcases h with h | ⟨g, c, rest, h1, h2, h3⟩
  · exact .inl h
  · exact .inr ⟨g, c, rest, h1, Nat.le_trans hB h2, h3⟩
/-- what the document answers -/
def RefR (r : Rec) (w : World) (e : Ending) (w' : World) : Prop :=
  (recMay r = true → ∃ v, e = .returned (.tuple #[v, .int .i64 0]) ∧ WAny.Own w' w.heap.size v (recBytes r)) ∧
    (recMay r = false → e = .returned (.tuple #[.slice none 0 0, .int .i64 22])) ∧ Below w.heap.size w w'
set_option maxHeartbeats 2000000 in
theorem refPack_no (r : Rec) (h : recMay r = false) (B : Nat) (A : Option Addr) (c : Nat) (w : World) (hB : B ≤ w.heap.size) (hA : Ents w B A r.ents) (hl : r.ents.length ≤ 140737488355328) :
    Calls Tryd.prog 22 #[recV r A c] w fun e w' => e = .returned (.tuple #[.slice none 0 0, .int .i64 22]) ∧ Below w.heap.size w w' := by
  have HX := Lib.hid (Boxed.start w [.int .i64 r.kind, .int .i64 r.seq, .slice A r.ents.length c, .int .u32 (r.sum : Int), .int .i64 r.start] 61)
  have HM := Lib.hid (refMay_any r (B := B) A c (w.alloc (.cells #[.int .i64 r.kind, .int .i64 r.seq, .slice A r.ents.length c, .int .u32 (r.sum : Int), .int .i64 r.start] 61)) (by simp; omega) (hA.alloc hB _) hl)
  rw [h] at HM
  unfold recV at *
  clear hA h
  go_enter Tryd.func22, Tryd.ntmps22
  go_wp2_with fail
  refine HM.out.mono ?_
  rintro e w1 ⟨rfl, hb1⟩
  have HB1 := Lib.hid (HX.out.go hb1).below
  clear hb1
  go_wp2
  go_ret2
  exact ⟨rfl, HB1.out⟩
set_option maxRecDepth 100000 in
set_option maxHeartbeats 8000000 in
theorem refPack_1 (seq : Int) (l : List Ent) (sum : Nat) (start : Int) (h : recMay ⟨1, seq, l, sum, start⟩ = true) (hs : sum < 4294967296) (B : Nat) (A : Option Addr) (c : Nat) (w : World) (hB : B ≤ w.heap.size) (hA : Ents w B A l) :
    Calls Tryd.prog 22 #[.agg #[.int .i64 1, .int .i64 seq, .slice A l.length c, .int .u32 (sum : Int), .int .i64 start]] w fun e w' => (∃ v, e = .returned (.tuple #[v, .int .i64 0]) ∧ WAny.Own w' w.heap.size v (recBytes ⟨1, seq, l, sum, start⟩)) ∧ Below w.heap.size w w' := by
  obtain ⟨h1, h2, h3, h4⟩ := recMay_iff.1 h
  have q1 := seqOk_iff.1 h1
  simp only at q1
  have hn60 : l.length ≤ 60 := by rcases hasOk_cases h2 with e | e | e | e <;> simp only at e <;> omega
  obtain ⟨n, hn⟩ : ∃ n, l.length = n := ⟨_, rfl⟩
  have HN := Lib.hid hn
  have HX := Lib.hid (Boxed.start w [.int .i64 1, .int .i64 seq, .slice A l.length c, .int .u32 (sum : Int), .int .i64 start] 61)
  have HM := Lib.hid (refMay_any ⟨1, seq, l, sum, start⟩ (B := B) A c (w.alloc (.cells #[.int .i64 1, .int .i64 seq, .slice A l.length c, .int .u32 (sum : Int), .int .i64 start] 61)) (by simp; omega) (hA.alloc hB _) (by simp only; omega))
  rw [h] at HM
  unfold recV at HM
  simp only at HM
  have HVAL := Lib.hid (recN_vals h)
  have HPK := Lib.hid (rec_packs h2)
  have HFT := Lib.hid (rec_fit h hs)
  have HLN : Hid ((nums (recN ⟨1, seq, l, sum, start⟩)).length = (recW 1 l.length).length) := Lib.hid (by rw [nums_len]; exact recN_len h2)
  have HALL := Lib.hid h3
  have HA := Lib.hid hA
  obtain ⟨sq, rfl⟩ := Int.eq_ofNat_of_zero_le (show 0 ≤ seq by omega)
  rw [hn] at HX HM hn60 ⊢
  have sk : IntKind.u64.wrap (sq : Int) = (sq : Int) := by rw [IntKind.wrap_u64]; omega
  have sn : IntKind.u64.wrap (n : Int) = (n : Int) := by rw [IntKind.wrap_u64]; omega
  clear h1 h3 h4 h hA hn
  go_enter Tryd.func22, Tryd.ntmps22
  go_wp2_with fail
  refine HM.out.mono ?_
  rintro e w1 ⟨rfl, hb1⟩
  have HX1 := Lib.hid (HX.out.go hb1)
  obtain ⟨d0, d1, d2, d3, d4⟩ := HX1.out.five
  have hw1 := HX1.out.lt
  clear hb1
  have HP0 : Hid (PK w ((w1.alloc (.cells #[.int .u64 1213813321, .int .u64 1, .int .u64 (sq : Int), .int .u64 (n : Int)] 66)).alloc (.cells #[.int .i64 4, .int .i64 1, .int .i64 4, .int .i64 2] 3)) [.int .i64 1, .int .i64 (sq : Int), .slice A n c, .int .u32 (sum : Int), .int .i64 start] (.slice (some ⟨w1.heap.size, 0, none⟩) 4 4) (.slice (some ⟨w1.heap.size + 1, 0, none⟩) 4 4) [.int .u64 1213813321, .int .u64 1, .int .u64 (sq : Int), .int .u64 (n : Int)] 4 (headW.map i64v) 4) := Lib.hid (by
    have n0 := row_new w1 (.cells #[.int .u64 1213813321, .int .u64 1, .int .u64 (sq : Int), .int .u64 (n : Int)] 66)
    have n1 := row_new (w1.alloc (.cells #[.int .u64 1213813321, .int .u64 1, .int .u64 (sq : Int), .int .u64 (n : Int)] 66)) (.cells #[.int .i64 4, .int .i64 1, .int .i64 4, .int .i64 2] 3)
    rw [World.size_alloc] at n1
    exact ⟨(HX1.out.alloc _).alloc _, owns_of_rowV (T := 66) (row_alloc n0 _) (by omega) rfl (by decide), owns_of_rowV (T := 3) n1 (by omega) rfl (by decide)⟩)
  go_wp2_with fail
  go_loopw [4, 5, 6] (fun v u i wr => ∃ k : Nat, k ≤ n ∧ i = .int .i64 k ∧ PK w wr [.int .i64 1, .int .i64 (sq : Int), .slice A n c, .int .u32 (sum : Int), .int .i64 start] v u ([.int .u64 1213813321, .int .u64 1, .int .u64 (sq : Int), .int .u64 (n : Int)] ++ (nums ((l.take k).flatMap ent2)).map u64v) (4 + 2 * k) ((headW.map i64v) ++ (bodyW 1 k).map i64v) (4 + 2 * k)) (fun _ _ i _ => n - (intOf i).toNat)
  case atStart => exact ⟨0, Nat.zero_le _, rfl, by simpa [nums, bodyW] using HP0.out⟩
  case round =>
    obtain ⟨k, hk, rfl, hp⟩ := hrel
    have HP := Lib.hid hp
    clear d0 d1 d2 d3 d4
    obtain ⟨d0, d1, d2, d3, d4⟩ := hp.box.five
    have sB := hp.lt
    clear hp
    by_cases hlt : k < n
    · have hlt' : k < l.length := by rw [HN.out]; exact hlt
      obtain ⟨a, rfl, hfix⟩ := Ents.fix HA.out hB hlt'
      have hbk := blkOk_iff.1 (HALL.out l[k] (List.getElem_mem hlt'))
      have HXM := Lib.hid (ent2s_more l k hlt')
      have HF := Lib.hid hfix
      clear hfix
      generalize hx : l[k] = x at *
      obtain ⟨b, q⟩ := x
      simp only at hbk HF
      obtain ⟨b, rfl⟩ := Int.eq_ofNat_of_zero_le hbk.1
      have hb2 : b < 65536 := by omega
      have HXX := Lib.hid (HXM.out b q rfl hb2)
      have s0 : IntKind.u64.wrap (b : Int) = (b : Int) := by rw [IntKind.wrap_u64]; omega
      obtain ⟨c0, c1⟩ := HF.out _ HP.out.box.below
      clear hbk
      cases q with
      | true =>
        go_wp2_with (first
          | (at_builtin; (refine wl_append rfl (.tmp 32) (.tmp 40) 72 rfl (w.heap.size + 1) 66 8 elem64 u4 (4 + 2 * k) ([.int .u64 1213813321, .int .u64 1, .int .u64 (sq : Int), .int .u64 (n : Int)] ++ (nums ((l.take k).flatMap ent2)).map u64v) rfl ((HP.out.alloc (.cells #[.int .u64 (b : Int)] 66)).l) (wr.heap.size + 1) (some ⟨wr.heap.size, 0, none⟩) 1 1 [.int .u64 (b : Int)] rfl rfl (sl_new rfl [.int .u64 (b : Int)] _) (one_of _) (by omega) (by unfold maxLen; omega) (by have := HP.out.lt; simp; omega) ?_); intro v1 W1 h1 h2 h3
             have HP1 := Lib.hid ((HP.out.alloc (.cells #[.int .u64 (b : Int)] 66)).left h1 h2)
             obtain ⟨d0, d1, d2, d3, d4⟩ := HP1.out.box.five
             clear h1 h2 h3)
          | (at_builtin; (refine wl_append rfl (.tmp 42) (.tmp 43) 23 rfl (w.heap.size + 1) 3 8 elemI u5 (4 + 2 * k) ((headW.map i64v) ++ (bodyW 1 k).map i64v) rfl ((HP1.out.alloc (.cells #[.int .i64 4] 3)).s) (W1.heap.size + 1) (some ⟨W1.heap.size, 0, none⟩) 1 1 [.int .i64 4] rfl rfl (sl_new rfl [.int .i64 4] _) (one_int _) (by omega) (by unfold maxLen; omega) (by have := HP1.out.lt; simp; omega) ?_); intro v2 W2 h1 h2 h3
             have HP2 := Lib.hid ((HP1.out.alloc (.cells #[.int .i64 4] 3)).right h1 h2)
             obtain ⟨d0, d1, d2, d3, d4⟩ := HP2.out.box.five
             obtain ⟨c0, c1⟩ := HF.out _ HP2.out.box.below
             clear h1 h2 h3)
          | (at_builtin; (refine wl_append rfl (.tmp 54) (.tmp 56) 72 rfl (w.heap.size + 1) 66 8 elem64 v1 (4 + 2 * k + 1) (([.int .u64 1213813321, .int .u64 1, .int .u64 (sq : Int), .int .u64 (n : Int)] ++ (nums ((l.take k).flatMap ent2)).map u64v) ++ [.int .u64 (b : Int)]) rfl ((HP2.out.alloc (.cells #[.int .u64 1] 66)).l) (W2.heap.size + 1) (some ⟨W2.heap.size, 0, none⟩) 1 1 [.int .u64 1] rfl rfl (sl_new rfl [.int .u64 1] _) (one_of _) (by omega) (by unfold maxLen; omega) (by have := HP2.out.lt; simp; omega) ?_); intro v3 W3 h1 h2 h3
             have HP3 := Lib.hid ((HP2.out.alloc (.cells #[.int .u64 1] 66)).left h1 h2)
             obtain ⟨d0, d1, d2, d3, d4⟩ := HP3.out.box.five
             clear h1 h2 h3)
          | (at_builtin; (refine wl_append rfl (.tmp 58) (.tmp 59) 23 rfl (w.heap.size + 1) 3 8 elemI v2 (4 + 2 * k + 1) (((headW.map i64v) ++ (bodyW 1 k).map i64v) ++ [.int .i64 4]) rfl ((HP3.out.alloc (.cells #[.int .i64 1] 3)).s) (W3.heap.size + 1) (some ⟨W3.heap.size, 0, none⟩) 1 1 [.int .i64 1] rfl rfl (sl_new rfl [.int .i64 1] _) (one_int _) (by omega) (by unfold maxLen; omega) (by have := HP3.out.lt; simp; omega) ?_); intro v4 W4 h1 h2 h3
             have HP4 := Lib.hid ((HP3.out.alloc (.cells #[.int .i64 1] 3)).right h1 h2)
             obtain ⟨d0, d1, d2, d3, d4⟩ := HP4.out.box.five
             clear h1 h2 h3))
        go_roundw
        case rel =>
          refine ⟨k + 1, by omega, by go_num, ?_⟩
          have := HP4.out
          rw [HXX.out, altw_more]
          simpa [esc01, Nat.mul_succ, Nat.add_assoc] using this
        case measure => simp [intOf]; omega
      | false =>
        go_wp2_with (first
          | (at_builtin; (refine wl_append rfl (.tmp 32) (.tmp 40) 72 rfl (w.heap.size + 1) 66 8 elem64 u4 (4 + 2 * k) ([.int .u64 1213813321, .int .u64 1, .int .u64 (sq : Int), .int .u64 (n : Int)] ++ (nums ((l.take k).flatMap ent2)).map u64v) rfl ((HP.out.alloc (.cells #[.int .u64 (b : Int)] 66)).l) (wr.heap.size + 1) (some ⟨wr.heap.size, 0, none⟩) 1 1 [.int .u64 (b : Int)] rfl rfl (sl_new rfl [.int .u64 (b : Int)] _) (one_of _) (by omega) (by unfold maxLen; omega) (by have := HP.out.lt; simp; omega) ?_); intro v1 W1 h1 h2 h3
             have HP1 := Lib.hid ((HP.out.alloc (.cells #[.int .u64 (b : Int)] 66)).left h1 h2)
             obtain ⟨d0, d1, d2, d3, d4⟩ := HP1.out.box.five
             clear h1 h2 h3)
          | (at_builtin; (refine wl_append rfl (.tmp 42) (.tmp 43) 23 rfl (w.heap.size + 1) 3 8 elemI u5 (4 + 2 * k) ((headW.map i64v) ++ (bodyW 1 k).map i64v) rfl ((HP1.out.alloc (.cells #[.int .i64 4] 3)).s) (W1.heap.size + 1) (some ⟨W1.heap.size, 0, none⟩) 1 1 [.int .i64 4] rfl rfl (sl_new rfl [.int .i64 4] _) (one_int _) (by omega) (by unfold maxLen; omega) (by have := HP1.out.lt; simp; omega) ?_); intro v2 W2 h1 h2 h3
             have HP2 := Lib.hid ((HP1.out.alloc (.cells #[.int .i64 4] 3)).right h1 h2)
             obtain ⟨d0, d1, d2, d3, d4⟩ := HP2.out.box.five
             obtain ⟨c0, c1⟩ := HF.out _ HP2.out.box.below
             clear h1 h2 h3)
          | (at_builtin; (refine wl_append rfl (.tmp 54) (.tmp 56) 72 rfl (w.heap.size + 1) 66 8 elem64 v1 (4 + 2 * k + 1) (([.int .u64 1213813321, .int .u64 1, .int .u64 (sq : Int), .int .u64 (n : Int)] ++ (nums ((l.take k).flatMap ent2)).map u64v) ++ [.int .u64 (b : Int)]) rfl ((HP2.out.alloc (.cells #[.int .u64 0] 66)).l) (W2.heap.size + 1) (some ⟨W2.heap.size, 0, none⟩) 1 1 [.int .u64 0] rfl rfl (sl_new rfl [.int .u64 0] _) (one_of _) (by omega) (by unfold maxLen; omega) (by have := HP2.out.lt; simp; omega) ?_); intro v3 W3 h1 h2 h3
             have HP3 := Lib.hid ((HP2.out.alloc (.cells #[.int .u64 0] 66)).left h1 h2)
             obtain ⟨d0, d1, d2, d3, d4⟩ := HP3.out.box.five
             clear h1 h2 h3)
          | (at_builtin; (refine wl_append rfl (.tmp 58) (.tmp 59) 23 rfl (w.heap.size + 1) 3 8 elemI v2 (4 + 2 * k + 1) (((headW.map i64v) ++ (bodyW 1 k).map i64v) ++ [.int .i64 4]) rfl ((HP3.out.alloc (.cells #[.int .i64 1] 3)).s) (W3.heap.size + 1) (some ⟨W3.heap.size, 0, none⟩) 1 1 [.int .i64 1] rfl rfl (sl_new rfl [.int .i64 1] _) (one_int _) (by omega) (by unfold maxLen; omega) (by have := HP3.out.lt; simp; omega) ?_); intro v4 W4 h1 h2 h3
             have HP4 := Lib.hid ((HP3.out.alloc (.cells #[.int .i64 1] 3)).right h1 h2)
             obtain ⟨d0, d1, d2, d3, d4⟩ := HP4.out.box.five
             clear h1 h2 h3))
        go_roundw
        case rel =>
          refine ⟨k + 1, by omega, by go_num, ?_⟩
          have := HP4.out
          rw [HXX.out, altw_more]
          simpa [esc01, Nat.mul_succ, Nat.add_assoc] using this
        case measure => simp [intOf]; omega
    · obtain rfl : k = n := by omega
      have HPL : Hid (PK w wr [.int .i64 1, .int .i64 (sq : Int), .slice A k c, .int .u32 (sum : Int), .int .i64 start] u4 u5 ((nums (recN ⟨1, sq, l, sum, start⟩)).map u64v) (4 + 2 * k) ((recW 1 l.length).map i64v) (4 + 2 * k)) := Lib.hid (by
        have := HP.out
        rw [← HN.out, List.take_length] at this
        rw [HVAL.out, ← HN.out]
        simpa [headV, recW, bodyN] using this)
      have hPLL : (nums (recN ⟨1, sq, l, sum, start⟩)).length = 4 + 2 * k ∧ (recW 1 l.length).length = 4 + 2 * k := lens_of HPL.out.l HPL.out.s
      obtain ⟨g4, c4, rfl, hS4⟩ := own_sl HPL.out.l (by omega)
      obtain ⟨g5, c5, rfl, hS5⟩ := own_sl HPL.out.s (by omega)
      have HS4 := Lib.hid hS4
      have HS5 := Lib.hid hS5
      have e4 := hPLL.1
      have e5 := hPLL.2
      have HLA : Hid ((nums (recN ⟨1, sq, l, sum, start⟩)).length = 4 + 2 * k) := Lib.hid e4
      have HLB : Hid ((recW 1 l.length).length = 4 + 2 * k) := Lib.hid e5
      obtain ⟨d0, d1, d2, d3, d4⟩ := HPL.out.box.five
      have hwl := HPL.out.lt
      clear hS4 hS5 e4 e5 hPLL
      go_wp2_with fail
      refine (refPackW_at (4 + 2 * k) _ HLA.out (4 + 2 * k) _ HLB.out wr.heap.size (some ⟨g4, 0, none⟩) (some ⟨g5, 0, none⟩) c4 c5 wr 256 (Nat.le_refl _) HPK.out HFT.out HS4.out HS5.out).mono ?_
      rintro e wp ⟨g, rfl, hg, hR, hbp⟩
      have HXP := Lib.hid (HPL.out.box.go hbp)
      obtain ⟨d0, d1, d2, d3, d4⟩ := HXP.out.five
      have HBL : Hid ((bytesOf_ (nums (recN ⟨1, sq, l, sum, start⟩)) (recW 1 l.length) 256).length = 256) := Lib.hid (bytesOf_len _ _ 256 HPK.out)
      have HS := Lib.hid (refSeal_at 256 _ HBL.out g sq wp (by omega) (by decide) hR)
      have hgp := hR.lt
      clear hR hbp
      go_wp2_with fail
      refine HS.out.mono ?_
      rintro e wq ⟨rfl, hOq, hgq⟩
      have HBQ := Lib.hid (HXP.out.below.grown hgq HXP.out.below.size (fun k hk => by injection hk with hk; omega))
      have HOQ := Lib.hid hOq
      clear hOq hgq
      go_wp2
      go_ret2
      refine ⟨⟨.slice (some ⟨g, 0, none⟩) 256 256, rfl, ?_⟩, HBQ.out⟩
      exact own_base HOQ.out (by have := HPL.out.lt; omega)
set_option maxRecDepth 100000 in
set_option maxHeartbeats 8000000 in
theorem refPack_3 (seq : Int) (l : List Ent) (sum : Nat) (start : Int) (h : recMay ⟨3, seq, l, sum, start⟩ = true) (hs : sum < 4294967296) (B : Nat) (A : Option Addr) (c : Nat) (w : World) (hB : B ≤ w.heap.size) (hA : Ents w B A l) :
    Calls Tryd.prog 22 #[.agg #[.int .i64 3, .int .i64 seq, .slice A l.length c, .int .u32 (sum : Int), .int .i64 start]] w fun e w' => (∃ v, e = .returned (.tuple #[v, .int .i64 0]) ∧ WAny.Own w' w.heap.size v (recBytes ⟨3, seq, l, sum, start⟩)) ∧ Below w.heap.size w w' := by
  obtain ⟨h1, h2, h3, h4⟩ := recMay_iff.1 h
  have q1 := seqOk_iff.1 h1
  simp only at q1
  have hn60 : l.length ≤ 60 := by rcases hasOk_cases h2 with e | e | e | e <;> simp only at e <;> omega
  obtain ⟨n, hn⟩ : ∃ n, l.length = n := ⟨_, rfl⟩
  have HN := Lib.hid hn
  have HX := Lib.hid (Boxed.start w [.int .i64 3, .int .i64 seq, .slice A l.length c, .int .u32 (sum : Int), .int .i64 start] 61)
  have HM := Lib.hid (refMay_any ⟨3, seq, l, sum, start⟩ (B := B) A c (w.alloc (.cells #[.int .i64 3, .int .i64 seq, .slice A l.length c, .int .u32 (sum : Int), .int .i64 start] 61)) (by simp; omega) (hA.alloc hB _) (by simp only; omega))
  rw [h] at HM
  unfold recV at HM
  simp only at HM
  have HVAL := Lib.hid (recN_vals h)
  have HPK := Lib.hid (rec_packs h2)
  have HFT := Lib.hid (rec_fit h hs)
  have HLN : Hid ((nums (recN ⟨3, seq, l, sum, start⟩)).length = (recW 3 l.length).length) := Lib.hid (by rw [nums_len]; exact recN_len h2)
  have HALL := Lib.hid h3
  have HA := Lib.hid hA
  obtain ⟨sq, rfl⟩ := Int.eq_ofNat_of_zero_le (show 0 ≤ seq by omega)
  rw [hn] at HX HM hn60 ⊢
  have sk : IntKind.u64.wrap (sq : Int) = (sq : Int) := by rw [IntKind.wrap_u64]; omega
  have sn : IntKind.u64.wrap (n : Int) = (n : Int) := by rw [IntKind.wrap_u64]; omega
  clear h1 h3 h4 h hA hn
  go_enter Tryd.func22, Tryd.ntmps22
  go_wp2_with fail
  refine HM.out.mono ?_
  rintro e w1 ⟨rfl, hb1⟩
  have HX1 := Lib.hid (HX.out.go hb1)
  obtain ⟨d0, d1, d2, d3, d4⟩ := HX1.out.five
  have hw1 := HX1.out.lt
  clear hb1
  have HP0 : Hid (PK w ((w1.alloc (.cells #[.int .u64 1213813321, .int .u64 3, .int .u64 (sq : Int), .int .u64 (n : Int)] 66)).alloc (.cells #[.int .i64 4, .int .i64 1, .int .i64 4, .int .i64 2] 3)) [.int .i64 3, .int .i64 (sq : Int), .slice A n c, .int .u32 (sum : Int), .int .i64 start] (.slice (some ⟨w1.heap.size, 0, none⟩) 4 4) (.slice (some ⟨w1.heap.size + 1, 0, none⟩) 4 4) [.int .u64 1213813321, .int .u64 3, .int .u64 (sq : Int), .int .u64 (n : Int)] 4 (headW.map i64v) 4) := Lib.hid (by
    have n0 := row_new w1 (.cells #[.int .u64 1213813321, .int .u64 3, .int .u64 (sq : Int), .int .u64 (n : Int)] 66)
    have n1 := row_new (w1.alloc (.cells #[.int .u64 1213813321, .int .u64 3, .int .u64 (sq : Int), .int .u64 (n : Int)] 66)) (.cells #[.int .i64 4, .int .i64 1, .int .i64 4, .int .i64 2] 3)
    rw [World.size_alloc] at n1
    exact ⟨(HX1.out.alloc _).alloc _, owns_of_rowV (T := 66) (row_alloc n0 _) (by omega) rfl (by decide), owns_of_rowV (T := 3) n1 (by omega) rfl (by decide)⟩)
  go_wp2_with fail
  go_loopw [4, 5, 6] (fun v u i wr => ∃ k : Nat, k ≤ n ∧ i = .int .i64 k ∧ PK w wr [.int .i64 3, .int .i64 (sq : Int), .slice A n c, .int .u32 (sum : Int), .int .i64 start] v u ([.int .u64 1213813321, .int .u64 3, .int .u64 (sq : Int), .int .u64 (n : Int)] ++ (nums ((l.take k).map (·.blk.toNat))).map u64v) (4 + k) ((headW.map i64v) ++ (bodyW 3 k).map i64v) (4 + k)) (fun _ _ i _ => n - (intOf i).toNat)
  case atStart => exact ⟨0, Nat.zero_le _, rfl, by simpa [nums, bodyW] using HP0.out⟩
  case round =>
    obtain ⟨k, hk, rfl, hp⟩ := hrel
    have HP := Lib.hid hp
    clear d0 d1 d2 d3 d4
    obtain ⟨d0, d1, d2, d3, d4⟩ := hp.box.five
    have sB := hp.lt
    clear hp
    by_cases hlt : k < n
    · have hlt' : k < l.length := by rw [HN.out]; exact hlt
      obtain ⟨a, rfl, hfix⟩ := Ents.fix HA.out hB hlt'
      have hbk := blkOk_iff.1 (HALL.out l[k] (List.getElem_mem hlt'))
      have HXM := Lib.hid (ent1s_more l k hlt')
      have HF := Lib.hid hfix
      clear hfix
      generalize hx : l[k] = x at *
      obtain ⟨b, q⟩ := x
      simp only at hbk HF
      obtain ⟨b, rfl⟩ := Int.eq_ofNat_of_zero_le hbk.1
      have hb2 : b < 65536 := by omega
      have HXX := Lib.hid (HXM.out b q rfl hb2)
      have s0 : IntKind.u64.wrap (b : Int) = (b : Int) := by rw [IntKind.wrap_u64]; omega
      obtain ⟨c0, c1⟩ := HF.out _ HP.out.box.below
      clear hbk
      go_wp2_with (first
        | (at_builtin; (refine wl_append rfl (.tmp 32) (.tmp 40) 72 rfl (w.heap.size + 1) 66 8 elem64 u4 (4 + k) ([.int .u64 1213813321, .int .u64 3, .int .u64 (sq : Int), .int .u64 (n : Int)] ++ (nums ((l.take k).map (·.blk.toNat))).map u64v) rfl ((HP.out.alloc (.cells #[.int .u64 (b : Int)] 66)).l) (wr.heap.size + 1) (some ⟨wr.heap.size, 0, none⟩) 1 1 [.int .u64 (b : Int)] rfl rfl (sl_new rfl [.int .u64 (b : Int)] _) (one_of _) (by omega) (by unfold maxLen; omega) (by have := HP.out.lt; simp; omega) ?_); intro v1 W1 h1 h2 h3
           have HP1 := Lib.hid ((HP.out.alloc (.cells #[.int .u64 (b : Int)] 66)).left h1 h2)
           obtain ⟨d0, d1, d2, d3, d4⟩ := HP1.out.box.five
           clear h1 h2 h3)
        | (at_builtin; (refine wl_append rfl (.tmp 42) (.tmp 43) 23 rfl (w.heap.size + 1) 3 8 elemI u5 (4 + k) ((headW.map i64v) ++ (bodyW 3 k).map i64v) rfl ((HP1.out.alloc (.cells #[.int .i64 4] 3)).s) (W1.heap.size + 1) (some ⟨W1.heap.size, 0, none⟩) 1 1 [.int .i64 4] rfl rfl (sl_new rfl [.int .i64 4] _) (one_int _) (by omega) (by unfold maxLen; omega) (by have := HP1.out.lt; simp; omega) ?_); intro v2 W2 h1 h2 h3
           have HP2 := Lib.hid ((HP1.out.alloc (.cells #[.int .i64 4] 3)).right h1 h2)
           obtain ⟨d0, d1, d2, d3, d4⟩ := HP2.out.box.five
           clear h1 h2 h3))
      go_roundw
      case rel =>
        refine ⟨k + 1, by omega, by go_num, ?_⟩
        have := HP2.out
        rw [HXX.out, fourw_more]
        simpa [Nat.mul_succ, Nat.add_assoc] using this
      case measure => simp [intOf]; omega
    · obtain rfl : k = n := by omega
      have HPL : Hid (PK w wr [.int .i64 3, .int .i64 (sq : Int), .slice A k c, .int .u32 (sum : Int), .int .i64 start] u4 u5 ((nums (recN ⟨3, sq, l, sum, start⟩)).map u64v) (4 + k) ((recW 3 l.length).map i64v) (4 + k)) := Lib.hid (by
        have := HP.out
        rw [← HN.out, List.take_length] at this
        rw [HVAL.out, ← HN.out]
        simpa [headV, recW, bodyN] using this)
      have hPLL : (nums (recN ⟨3, sq, l, sum, start⟩)).length = 4 + k ∧ (recW 3 l.length).length = 4 + k := lens_of HPL.out.l HPL.out.s
      obtain ⟨g4, c4, rfl, hS4⟩ := own_sl HPL.out.l (by omega)
      obtain ⟨g5, c5, rfl, hS5⟩ := own_sl HPL.out.s (by omega)
      have HS4 := Lib.hid hS4
      have HS5 := Lib.hid hS5
      have e4 := hPLL.1
      have e5 := hPLL.2
      have HLA : Hid ((nums (recN ⟨3, sq, l, sum, start⟩)).length = 4 + k) := Lib.hid e4
      have HLB : Hid ((recW 3 l.length).length = 4 + k) := Lib.hid e5
      obtain ⟨d0, d1, d2, d3, d4⟩ := HPL.out.box.five
      have hwl := HPL.out.lt
      clear hS4 hS5 e4 e5 hPLL
      go_wp2_with fail
      refine (refPackW_at (4 + k) _ HLA.out (4 + k) _ HLB.out wr.heap.size (some ⟨g4, 0, none⟩) (some ⟨g5, 0, none⟩) c4 c5 wr 256 (Nat.le_refl _) HPK.out HFT.out HS4.out HS5.out).mono ?_
      rintro e wp ⟨g, rfl, hg, hR, hbp⟩
      have HXP := Lib.hid (HPL.out.box.go hbp)
      obtain ⟨d0, d1, d2, d3, d4⟩ := HXP.out.five
      have HBL : Hid ((bytesOf_ (nums (recN ⟨3, sq, l, sum, start⟩)) (recW 3 l.length) 256).length = 256) := Lib.hid (bytesOf_len _ _ 256 HPK.out)
      have HS := Lib.hid (refSeal_at 256 _ HBL.out g sq wp (by omega) (by decide) hR)
      have hgp := hR.lt
      clear hR hbp
      go_wp2_with fail
      refine HS.out.mono ?_
      rintro e wq ⟨rfl, hOq, hgq⟩
      have HBQ := Lib.hid (HXP.out.below.grown hgq HXP.out.below.size (fun k hk => by injection hk with hk; omega))
      have HOQ := Lib.hid hOq
      clear hOq hgq
      go_wp2
      go_ret2
      refine ⟨⟨.slice (some ⟨g, 0, none⟩) 256 256, rfl, ?_⟩, HBQ.out⟩
      exact own_base HOQ.out (by have := HPL.out.lt; omega)
set_option maxRecDepth 100000 in
set_option maxHeartbeats 8000000 in
theorem refPack_2 (seq : Int) (l : List Ent) (sum : Nat) (start : Int) (h : recMay ⟨2, seq, l, sum, start⟩ = true) (hs : sum < 4294967296) (B : Nat) (A : Option Addr) (c : Nat) (w : World) (hB : B ≤ w.heap.size) (hA : Ents w B A l) :
    Calls Tryd.prog 22 #[.agg #[.int .i64 2, .int .i64 seq, .slice A l.length c, .int .u32 (sum : Int), .int .i64 start]] w fun e w' => (∃ v, e = .returned (.tuple #[v, .int .i64 0]) ∧ WAny.Own w' w.heap.size v (recBytes ⟨2, seq, l, sum, start⟩)) ∧ Below w.heap.size w w' := by
  obtain ⟨h1, h2, h3, h4⟩ := recMay_iff.1 h
  have q1 := seqOk_iff.1 h1
  simp only at q1
  have hn60 : l.length ≤ 60 := by rcases hasOk_cases h2 with e | e | e | e <;> simp only at e <;> omega
  obtain ⟨n, hn⟩ : ∃ n, l.length = n := ⟨_, rfl⟩
  have HN := Lib.hid hn
  have HX := Lib.hid (Boxed.start w [.int .i64 2, .int .i64 seq, .slice A l.length c, .int .u32 (sum : Int), .int .i64 start] 61)
  have HM := Lib.hid (refMay_any ⟨2, seq, l, sum, start⟩ (B := B) A c (w.alloc (.cells #[.int .i64 2, .int .i64 seq, .slice A l.length c, .int .u32 (sum : Int), .int .i64 start] 61)) (by simp; omega) (hA.alloc hB _) (by simp only; omega))
  rw [h] at HM
  unfold recV at HM
  simp only at HM
  have HVAL := Lib.hid (recN_vals h)
  have HPK := Lib.hid (rec_packs h2)
  have HFT := Lib.hid (rec_fit h hs)
  have HLN : Hid ((nums (recN ⟨2, seq, l, sum, start⟩)).length = (recW 2 l.length).length) := Lib.hid (by rw [nums_len]; exact recN_len h2)
  have HALL := Lib.hid h3
  have HA := Lib.hid hA
  have hn0 : Hid (n = 0) := Lib.hid (by rcases hasOk_cases h2 with e | e | e | e <;> simp only at e <;> omega)
  obtain ⟨sq, rfl⟩ := Int.eq_ofNat_of_zero_le (show 0 ≤ seq by omega)
  rw [hn] at HX HM hn60 ⊢
  have sk : IntKind.u64.wrap (sq : Int) = (sq : Int) := by rw [IntKind.wrap_u64]; omega
  have sn : IntKind.u64.wrap (n : Int) = (n : Int) := by rw [IntKind.wrap_u64]; omega
  have ss : IntKind.u64.wrap (sum : Int) = (sum : Int) := by rw [IntKind.wrap_u64]; omega
  clear h1 h3 h4 h hA hn
  go_enter Tryd.func22, Tryd.ntmps22
  go_wp2_with fail
  refine HM.out.mono ?_
  rintro e w1 ⟨rfl, hb1⟩
  have HX1 := Lib.hid (HX.out.go hb1)
  obtain ⟨d0, d1, d2, d3, d4⟩ := HX1.out.five
  have hw1 := HX1.out.lt
  clear hb1
  have HP0 : Hid (PK w ((w1.alloc (.cells #[.int .u64 1213813321, .int .u64 2, .int .u64 (sq : Int), .int .u64 (n : Int)] 66)).alloc (.cells #[.int .i64 4, .int .i64 1, .int .i64 4, .int .i64 2] 3)) [.int .i64 2, .int .i64 (sq : Int), .slice A n c, .int .u32 (sum : Int), .int .i64 start] (.slice (some ⟨w1.heap.size, 0, none⟩) 4 4) (.slice (some ⟨w1.heap.size + 1, 0, none⟩) 4 4) [.int .u64 1213813321, .int .u64 2, .int .u64 (sq : Int), .int .u64 (n : Int)] 4 (headW.map i64v) 4) := Lib.hid (by
    have n0 := row_new w1 (.cells #[.int .u64 1213813321, .int .u64 2, .int .u64 (sq : Int), .int .u64 (n : Int)] 66)
    have n1 := row_new (w1.alloc (.cells #[.int .u64 1213813321, .int .u64 2, .int .u64 (sq : Int), .int .u64 (n : Int)] 66)) (.cells #[.int .i64 4, .int .i64 1, .int .i64 4, .int .i64 2] 3)
    rw [World.size_alloc] at n1
    exact ⟨(HX1.out.alloc _).alloc _, owns_of_rowV (T := 66) (row_alloc n0 _) (by omega) rfl (by decide), owns_of_rowV (T := 3) n1 (by omega) rfl (by decide)⟩)
  obtain rfl : n = 0 := hn0.out
  obtain rfl : l = [] := List.eq_nil_of_length_eq_zero HN.out
  go_wp2_with fail
  go_loopw [4, 5, 6] (fun v u i wr => i = .int .i64 0 ∧ PK w wr [.int .i64 2, .int .i64 (sq : Int), .slice A (0 : Nat) c, .int .u32 (sum : Int), .int .i64 start] v u [.int .u64 1213813321, .int .u64 2, .int .u64 (sq : Int), .int .u64 ((0 : Nat) : Int)] 4 (headW.map i64v) 4) (fun _ _ _ _ => 0)
  case atStart => exact ⟨rfl, HP0.out⟩
  case round =>
    obtain ⟨rfl, hp⟩ := hrel
    have HP := Lib.hid hp
    clear d0 d1 d2 d3 d4
    obtain ⟨d0, d1, d2, d3, d4⟩ := hp.box.five
    have sB := hp.lt
    clear hp
    go_wp2_with (first
      | (at_builtin; (refine wl_append rfl (.tmp 64) (.tmp 68) 72 rfl (w.heap.size + 1) 66 8 elem64 u4 (4) [.int .u64 1213813321, .int .u64 2, .int .u64 (sq : Int), .int .u64 ((0 : Nat) : Int)] rfl ((HP.out.alloc (.cells #[.int .u64 (sum : Int)] 66)).l) (wr.heap.size + 1) (some ⟨wr.heap.size, 0, none⟩) 1 1 [.int .u64 (sum : Int)] rfl rfl (sl_new rfl [.int .u64 (sum : Int)] _) (one_of _) (by omega) (by unfold maxLen; omega) (by have := HP.out.lt; simp; omega) ?_); intro v1 W1 h1 h2 h3
         have HP1 := Lib.hid ((HP.out.alloc (.cells #[.int .u64 (sum : Int)] 66)).left h1 h2)
         obtain ⟨d0, d1, d2, d3, d4⟩ := HP1.out.box.five
         clear h1 h2 h3)
      | (at_builtin; (refine wl_append rfl (.tmp 70) (.tmp 71) 23 rfl (w.heap.size + 1) 3 8 elemI u5 (4) (headW.map i64v) rfl ((HP1.out.alloc (.cells #[.int .i64 4] 3)).s) (W1.heap.size + 1) (some ⟨W1.heap.size, 0, none⟩) 1 1 [.int .i64 4] rfl rfl (sl_new rfl [.int .i64 4] _) (one_int _) (by omega) (by unfold maxLen; omega) (by have := HP1.out.lt; simp; omega) ?_); intro v2 W2 h1 h2 h3
         have HP2 := Lib.hid ((HP1.out.alloc (.cells #[.int .i64 4] 3)).right h1 h2)
         obtain ⟨d0, d1, d2, d3, d4⟩ := HP2.out.box.five
         clear h1 h2 h3))
    have HPL : Hid (PK w W2 [.int .i64 2, .int .i64 (sq : Int), .slice A (0 : Nat) c, .int .u32 (sum : Int), .int .i64 start] v1 v2 ((nums (recN ⟨2, sq, [], sum, start⟩)).map u64v) 5 ((recW 2 ([] : List Ent).length).map i64v) 5) := Lib.hid (by
      have := HP2.out
      rw [HVAL.out]
      have e : (nums (bodyN ⟨2, sq, [], sum, start⟩)).map u64v = [.int .u64 (sum : Int)] := by simp only [bodyN, nums]; simp; rw [u64_of (by omega)]
      rw [e]
      exact this)
    have hPLL : (nums (recN ⟨2, sq, [], sum, start⟩)).length = 5 ∧ (recW 2 ([] : List Ent).length).length = 5 := lens_of HPL.out.l HPL.out.s
    obtain ⟨g4, c4, rfl, hS4⟩ := own_sl HPL.out.l (by omega)
    obtain ⟨g5, c5, rfl, hS5⟩ := own_sl HPL.out.s (by omega)
    have HS4 := Lib.hid hS4
    have HS5 := Lib.hid hS5
    have e4 := hPLL.1
    have e5 := hPLL.2
    have HLA : Hid ((nums (recN ⟨2, sq, [], sum, start⟩)).length = 5) := Lib.hid e4
    have HLB : Hid ((recW 2 ([] : List Ent).length).length = 5) := Lib.hid e5
    obtain ⟨d0, d1, d2, d3, d4⟩ := HPL.out.box.five
    have hwl := HPL.out.lt
    clear hS4 hS5 e4 e5 hPLL
    go_wp2_with fail
    refine (refPackW_at (5) _ HLA.out (5) _ HLB.out W2.heap.size (some ⟨g4, 0, none⟩) (some ⟨g5, 0, none⟩) c4 c5 W2 256 (Nat.le_refl _) HPK.out HFT.out HS4.out HS5.out).mono ?_
    rintro e wp ⟨g, rfl, hg, hR, hbp⟩
    have HXP := Lib.hid (HPL.out.box.go hbp)
    obtain ⟨d0, d1, d2, d3, d4⟩ := HXP.out.five
    have HBL : Hid ((bytesOf_ (nums (recN ⟨2, sq, [], sum, start⟩)) (recW 2 ([] : List Ent).length) 256).length = 256) := Lib.hid (bytesOf_len _ _ 256 HPK.out)
    have HS := Lib.hid (refSeal_at 256 _ HBL.out g sq wp (by omega) (by decide) hR)
    have hgp := hR.lt
    clear hR hbp
    go_wp2_with fail
    refine HS.out.mono ?_
    rintro e wq ⟨rfl, hOq, hgq⟩
    have HBQ := Lib.hid (HXP.out.below.grown hgq HXP.out.below.size (fun k hk => by injection hk with hk; omega))
    have HOQ := Lib.hid hOq
    clear hOq hgq
    go_wp2
    go_ret2
    refine ⟨⟨.slice (some ⟨g, 0, none⟩) 256 256, rfl, ?_⟩, HBQ.out⟩
    exact own_base HOQ.out (by have := HPL.out.lt; omega)
set_option maxRecDepth 100000 in
set_option maxHeartbeats 8000000 in
theorem refPack_4 (seq : Int) (l : List Ent) (sum : Nat) (start : Int) (h : recMay ⟨4, seq, l, sum, start⟩ = true) (hs : sum < 4294967296) (B : Nat) (A : Option Addr) (c : Nat) (w : World) (hB : B ≤ w.heap.size) (hA : Ents w B A l) :
    Calls Tryd.prog 22 #[.agg #[.int .i64 4, .int .i64 seq, .slice A l.length c, .int .u32 (sum : Int), .int .i64 start]] w fun e w' => (∃ v, e = .returned (.tuple #[v, .int .i64 0]) ∧ WAny.Own w' w.heap.size v (recBytes ⟨4, seq, l, sum, start⟩)) ∧ Below w.heap.size w w' := by
  obtain ⟨h1, h2, h3, h4⟩ := recMay_iff.1 h
  have q1 := seqOk_iff.1 h1
  simp only at q1
  have hn60 : l.length ≤ 60 := by rcases hasOk_cases h2 with e | e | e | e <;> simp only at e <;> omega
  obtain ⟨n, hn⟩ : ∃ n, l.length = n := ⟨_, rfl⟩
  have HN := Lib.hid hn
  have HX := Lib.hid (Boxed.start w [.int .i64 4, .int .i64 seq, .slice A l.length c, .int .u32 (sum : Int), .int .i64 start] 61)
  have HM := Lib.hid (refMay_any ⟨4, seq, l, sum, start⟩ (B := B) A c (w.alloc (.cells #[.int .i64 4, .int .i64 seq, .slice A l.length c, .int .u32 (sum : Int), .int .i64 start] 61)) (by simp; omega) (hA.alloc hB _) (by simp only; omega))
  rw [h] at HM
  unfold recV at HM
  simp only at HM
  have HVAL := Lib.hid (recN_vals h)
  have HPK := Lib.hid (rec_packs h2)
  have HFT := Lib.hid (rec_fit h hs)
  have HLN : Hid ((nums (recN ⟨4, seq, l, sum, start⟩)).length = (recW 4 l.length).length) := Lib.hid (by rw [nums_len]; exact recN_len h2)
  have HALL := Lib.hid h3
  have HA := Lib.hid hA
  have hst : 0 ≤ start ∧ start ≤ 511 := by have := of_decide_eq_true (show decide (sum = 0 ∧ 0 ≤ start ∧ start ≤ 511) = true from h4); omega
  have hn0 : Hid (n = 0) := Lib.hid (by rcases hasOk_cases h2 with e | e | e | e <;> simp only at e <;> omega)
  obtain ⟨sq, rfl⟩ := Int.eq_ofNat_of_zero_le (show 0 ≤ seq by omega)
  obtain ⟨st, rfl⟩ := Int.eq_ofNat_of_zero_le hst.1
  rw [hn] at HX HM hn60 ⊢
  have sk : IntKind.u64.wrap (sq : Int) = (sq : Int) := by rw [IntKind.wrap_u64]; omega
  have sn : IntKind.u64.wrap (n : Int) = (n : Int) := by rw [IntKind.wrap_u64]; omega
  have ss : IntKind.u64.wrap (st : Int) = (st : Int) := by rw [IntKind.wrap_u64]; omega
  clear h1 h3 h4 h hA hn
  go_enter Tryd.func22, Tryd.ntmps22
  go_wp2_with fail
  refine HM.out.mono ?_
  rintro e w1 ⟨rfl, hb1⟩
  have HX1 := Lib.hid (HX.out.go hb1)
  obtain ⟨d0, d1, d2, d3, d4⟩ := HX1.out.five
  have hw1 := HX1.out.lt
  clear hb1
  have HP0 : Hid (PK w ((w1.alloc (.cells #[.int .u64 1213813321, .int .u64 4, .int .u64 (sq : Int), .int .u64 (n : Int)] 66)).alloc (.cells #[.int .i64 4, .int .i64 1, .int .i64 4, .int .i64 2] 3)) [.int .i64 4, .int .i64 (sq : Int), .slice A n c, .int .u32 (sum : Int), .int .i64 (st : Int)] (.slice (some ⟨w1.heap.size, 0, none⟩) 4 4) (.slice (some ⟨w1.heap.size + 1, 0, none⟩) 4 4) [.int .u64 1213813321, .int .u64 4, .int .u64 (sq : Int), .int .u64 (n : Int)] 4 (headW.map i64v) 4) := Lib.hid (by
    have n0 := row_new w1 (.cells #[.int .u64 1213813321, .int .u64 4, .int .u64 (sq : Int), .int .u64 (n : Int)] 66)
    have n1 := row_new (w1.alloc (.cells #[.int .u64 1213813321, .int .u64 4, .int .u64 (sq : Int), .int .u64 (n : Int)] 66)) (.cells #[.int .i64 4, .int .i64 1, .int .i64 4, .int .i64 2] 3)
    rw [World.size_alloc] at n1
    exact ⟨(HX1.out.alloc _).alloc _, owns_of_rowV (T := 66) (row_alloc n0 _) (by omega) rfl (by decide), owns_of_rowV (T := 3) n1 (by omega) rfl (by decide)⟩)
  obtain rfl : n = 0 := hn0.out
  obtain rfl : l = [] := List.eq_nil_of_length_eq_zero HN.out
  go_wp2_with fail
  go_loopw [4, 5, 6] (fun v u i wr => i = .int .i64 0 ∧ PK w wr [.int .i64 4, .int .i64 (sq : Int), .slice A (0 : Nat) c, .int .u32 (sum : Int), .int .i64 (st : Int)] v u [.int .u64 1213813321, .int .u64 4, .int .u64 (sq : Int), .int .u64 ((0 : Nat) : Int)] 4 (headW.map i64v) 4) (fun _ _ _ _ => 0)
  case atStart => exact ⟨rfl, HP0.out⟩
  case round =>
    obtain ⟨rfl, hp⟩ := hrel
    have HP := Lib.hid hp
    clear d0 d1 d2 d3 d4
    obtain ⟨d0, d1, d2, d3, d4⟩ := hp.box.five
    have sB := hp.lt
    clear hp
    go_wp2_with (first
      | (at_builtin; (refine wl_append rfl (.tmp 76) (.tmp 80) 72 rfl (w.heap.size + 1) 66 8 elem64 u4 (4) [.int .u64 1213813321, .int .u64 4, .int .u64 (sq : Int), .int .u64 ((0 : Nat) : Int)] rfl ((HP.out.alloc (.cells #[.int .u64 (st : Int)] 66)).l) (wr.heap.size + 1) (some ⟨wr.heap.size, 0, none⟩) 1 1 [.int .u64 (st : Int)] rfl rfl (sl_new rfl [.int .u64 (st : Int)] _) (one_of _) (by omega) (by unfold maxLen; omega) (by have := HP.out.lt; simp; omega) ?_); intro v1 W1 h1 h2 h3
         have HP1 := Lib.hid ((HP.out.alloc (.cells #[.int .u64 (st : Int)] 66)).left h1 h2)
         obtain ⟨d0, d1, d2, d3, d4⟩ := HP1.out.box.five
         clear h1 h2 h3)
      | (at_builtin; (refine wl_append rfl (.tmp 82) (.tmp 83) 23 rfl (w.heap.size + 1) 3 8 elemI u5 (4) (headW.map i64v) rfl ((HP1.out.alloc (.cells #[.int .i64 4] 3)).s) (W1.heap.size + 1) (some ⟨W1.heap.size, 0, none⟩) 1 1 [.int .i64 4] rfl rfl (sl_new rfl [.int .i64 4] _) (one_int _) (by omega) (by unfold maxLen; omega) (by have := HP1.out.lt; simp; omega) ?_); intro v2 W2 h1 h2 h3
         have HP2 := Lib.hid ((HP1.out.alloc (.cells #[.int .i64 4] 3)).right h1 h2)
         obtain ⟨d0, d1, d2, d3, d4⟩ := HP2.out.box.five
         clear h1 h2 h3))
    have HPL : Hid (PK w W2 [.int .i64 4, .int .i64 (sq : Int), .slice A (0 : Nat) c, .int .u32 (sum : Int), .int .i64 (st : Int)] v1 v2 ((nums (recN ⟨4, sq, [], sum, st⟩)).map u64v) 5 ((recW 4 ([] : List Ent).length).map i64v) 5) := Lib.hid (by
      have := HP2.out
      rw [HVAL.out]
      have e : (nums (bodyN ⟨4, sq, [], sum, st⟩)).map u64v = [.int .u64 (st : Int)] := by simp only [bodyN, nums]; simp; rw [u64_of (by omega)]
      rw [e]
      exact this)
    have hPLL : (nums (recN ⟨4, sq, [], sum, st⟩)).length = 5 ∧ (recW 4 ([] : List Ent).length).length = 5 := lens_of HPL.out.l HPL.out.s
    obtain ⟨g4, c4, rfl, hS4⟩ := own_sl HPL.out.l (by omega)
    obtain ⟨g5, c5, rfl, hS5⟩ := own_sl HPL.out.s (by omega)
    have HS4 := Lib.hid hS4
    have HS5 := Lib.hid hS5
    have e4 := hPLL.1
    have e5 := hPLL.2
    have HLA : Hid ((nums (recN ⟨4, sq, [], sum, st⟩)).length = 5) := Lib.hid e4
    have HLB : Hid ((recW 4 ([] : List Ent).length).length = 5) := Lib.hid e5
    obtain ⟨d0, d1, d2, d3, d4⟩ := HPL.out.box.five
    have hwl := HPL.out.lt
    clear hS4 hS5 e4 e5 hPLL
    go_wp2_with fail
    refine (refPackW_at (5) _ HLA.out (5) _ HLB.out W2.heap.size (some ⟨g4, 0, none⟩) (some ⟨g5, 0, none⟩) c4 c5 W2 256 (Nat.le_refl _) HPK.out HFT.out HS4.out HS5.out).mono ?_
    rintro e wp ⟨g, rfl, hg, hR, hbp⟩
    have HXP := Lib.hid (HPL.out.box.go hbp)
    obtain ⟨d0, d1, d2, d3, d4⟩ := HXP.out.five
    have HBL : Hid ((bytesOf_ (nums (recN ⟨4, sq, [], sum, st⟩)) (recW 4 ([] : List Ent).length) 256).length = 256) := Lib.hid (bytesOf_len _ _ 256 HPK.out)
    have HS := Lib.hid (refSeal_at 256 _ HBL.out g sq wp (by omega) (by decide) hR)
    have hgp := hR.lt
    clear hR hbp
    go_wp2_with fail
    refine HS.out.mono ?_
    rintro e wq ⟨rfl, hOq, hgq⟩
    have HBQ := Lib.hid (HXP.out.below.grown hgq HXP.out.below.size (fun k hk => by injection hk with hk; omega))
    have HOQ := Lib.hid hOq
    clear hOq hgq
    go_wp2
    go_ret2
    refine ⟨⟨.slice (some ⟨g, 0, none⟩) 256 256, rfl, ?_⟩, HBQ.out⟩
    exact own_base HOQ.out (by have := HPL.out.lt; omega)
theorem refPack_any (r : Rec) (hs : r.sum < 4294967296) (B : Nat) (A : Option Addr) (c : Nat) (w : World) (hB : B ≤ w.heap.size) (hA : Ents w B A r.ents) (hl : r.ents.length ≤ 140737488355328) :
    Calls Tryd.prog 22 #[recV r A c] w (RefR r w) := by
  cases h : recMay r with
  | false => exact (refPack_no r h B A c w hB hA hl).mono fun e w' ⟨h1, h2⟩ => ⟨fun h' => (by rw [h] at h'; cases h'), fun _ => h1, h2⟩
  | true =>
    have hk := hasOk_cases (recMay_iff.1 h).2.1
    obtain ⟨kind, seq, l, sum, start⟩ := r
    simp only at hk hs hA
    have key : Calls Tryd.prog 22 #[recV ⟨kind, seq, l, sum, start⟩ A c] w fun e w' => (∃ v, e = .returned (.tuple #[v, .int .i64 0]) ∧ WAny.Own w' w.heap.size v (recBytes ⟨kind, seq, l, sum, start⟩)) ∧ Below w.heap.size w w' := by
      rcases hk with ⟨rfl, _⟩ | ⟨rfl, _⟩ | ⟨rfl, _⟩ | ⟨rfl, _⟩
      · exact refPack_1 seq l sum start h hs B A c w hB hA
      · exact refPack_3 seq l sum start h hs B A c w hB hA
      · exact refPack_2 seq l sum start h hs B A c w hB hA
      · exact refPack_4 seq l sum start h hs B A c w hB hA
    exact key.mono fun e w' ⟨h1, h2⟩ => ⟨fun _ => h1, fun h' => (by rw [h] at h'; cases h'), h2⟩
end Go.Proofs.YtkkcipjlinfieaaDoor.JRPack
