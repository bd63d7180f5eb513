/- The first block, packed by the program. -/
import Derived.Test.YtgjcbfdhpbkhoaaGreatDoorMg15
import Derived.Test.YtgjcbfdhpbkhoaaGreatDoorMg17
import Derived.Test.YtgjcbfdhpbkhoaaGreatDoorMg10
import Derived.Test.YtgjcbfdhpbkhoaaGreatDoorMg14
namespace Go.Proofs.YtgjcbfdhpbkhoaaGreatDoor.SPack
open Go.RowKit WMem WPlain WWide WCrc WSeal GPlain GWithin GGeo GGeo2 GFace SNums SPlain SMayBe
def wcells : List Value := [.int .i64 4, .int .i64 2, .int .i64 4, .int .i64 4, .int .i64 4, .int .i64 4, .int .i64 4, .int .i64 4, .int .i64 4, .int .i64 4, .int .i64 1]
theorem wcells_eq : supW.map i64v = wcells := rfl
theorem sl_new {w : World} {g : Nat} (hg : w.heap.size = g) (cs : List Value) (T : TypeId) : Sl (w.alloc (.cells cs.toArray T)) (g + 1) (some ⟨g, 0, none⟩) cs := by
  subst hg
  exact Sl.of_row (n := cs.length) (row_new _ _) (by omega) (by simp)
theorem numbers_ex (len : Nat) (l : List Nat) (hlen : l.length = len) (B : Nat) (A : Option Addr) (c : Nat) (w : World) (hB : B ≤ w.heap.size) (hl : len ≤ 1000000) (hx : ∀ x ∈ l, x < 9223372036854775808) (hA : Sl w B A (l.map natv)) :
    Calls Tryz.prog 143 #[.slice A len c] w fun e w' =>
      ∃ g, e = .returned (.slice (some ⟨g, 0, none⟩) len len) ∧ RowV w' g 47 ((nums l).map u64v) ∧ Below w.heap.size w w' ∧ w.heap.size ≤ g ∧ g < w'.heap.size := by
  subst hlen
  exact (numbers_any l B A c w hB hl hx hA).mono fun e w' ⟨he, hR, hb, hs⟩ => ⟨_, he, hR, hb, Nat.le_refl _, hR.lt⟩
theorem superWidths_any (w : World) : Calls Tryz.prog 147 #[] w fun e w' => e = .returned (.slice (some ⟨w.heap.size, 0, none⟩) 11 11) ∧ RowV w' w.heap.size 3 (supW.map i64v) ∧ Below w.heap.size w w' ∧ w.heap.size < w'.heap.size := by
  go_enter Tryz.func147, Tryz.ntmps147
  go_wp2
  go_ret
  exact ⟨rfl, row_new _ _, below_box _, by simp⟩
theorem Boxed.nine {a w : World} {v0 v1 v2 v3 v4 v5 v6 v7 v8 : Value} (h : Boxed a w [v0, v1, v2, v3, v4, v5, v6, v7, v8]) :
    w.cell? ⟨a.heap.size, 0, none⟩ = some v0 ∧ w.cell? ⟨a.heap.size, 1, none⟩ = some v1 ∧ w.cell? ⟨a.heap.size, 2, none⟩ = some v2 ∧ w.cell? ⟨a.heap.size, 3, none⟩ = some v3 ∧ w.cell? ⟨a.heap.size, 4, none⟩ = some v4 ∧
      w.cell? ⟨a.heap.size, 5, none⟩ = some v5 ∧ w.cell? ⟨a.heap.size, 6, none⟩ = some v6 ∧ w.cell? ⟨a.heap.size, 7, none⟩ = some v7 ∧ w.cell? ⟨a.heap.size, 8, none⟩ = some v8 :=
  ⟨h.cell 0 _ rfl, h.cell 1 _ rfl, h.cell 2 _ rfl, h.cell 3 _ rfl, h.cell 4 _ rfl, h.cell 5 _ rfl, h.cell 6 _ rfl, h.cell 7 _ rfl, h.cell 8 _ rfl⟩
set_option maxHeartbeats 1000000 in
theorem PackSuper_no (b p n j fb fi oo mo : Int) (cl : Bool) (w : World) (h : supMay b p n j fb fi oo mo = false) :
    Calls Tryz.prog 119 #[.agg #[.int .i64 b, .int .i64 p, .int .i64 n, .int .i64 j, .int .i64 fb, .int .i64 fi, .int .i64 oo, .int .i64 mo, .bool cl]] w fun e w' => e = .returned (.tuple #[.slice none 0 0, .int .i64 22]) ∧ Below w.heap.size w w' := by
  have H := Lib.hid h
  have HX := Lib.hid (Boxed.start w [.int .i64 b, .int .i64 p, .int .i64 n, .int .i64 j, .int .i64 fb, .int .i64 fi, .int .i64 oo, .int .i64 mo, .bool cl] 124)
  clear h
  go_enter Tryz.func119, Tryz.ntmps119
  go_wp2_with (go_at_call 146; refine (superMayBe_is b p n j fb fi oo mo cl _ false H.out).mono ?_; rintro e w1 ⟨rfl, hb1⟩)
  go_ret2
  exact ⟨rfl, (HX.out.go hb1).below⟩
def lcells (b p n j fb fi oo mo : Nat) (cl : Nat) : List Value := [.int .i64 1213813321, .int .i64 1, .int .i64 (b : Int), .int .i64 (p : Int), .int .i64 (n : Int), .int .i64 (j : Int), .int .i64 (fb : Int), .int .i64 (fi : Int), .int .i64 (oo : Int), .int .i64 (mo : Int), .int .i64 (cl : Int)]
theorem lcells_eq (b p n j fb fi oo mo : Nat) (cl : Bool) : (supN b p n j fb fi oo mo cl).map natv = lcells b p n j fb fi oo mo (if cl = true then 1 else 0) := by
  simp [supN, lcells, natv]
set_option maxHeartbeats 2000000 in
theorem PackSuper_nat (b p n j fb fi oo mo : Nat) (cl : Bool) (w : World) (h : supMay b p n j fb fi oo mo = true) (hT : Tab w) :
    Calls Tryz.prog 119 #[.agg #[.int .i64 (b : Int), .int .i64 (p : Int), .int .i64 (n : Int), .int .i64 (j : Int), .int .i64 (fb : Int), .int .i64 (fi : Int), .int .i64 (oo : Int), .int .i64 (mo : Int), .bool cl]] w fun e w' => ∃ g, e = .returned (.tuple #[.slice (some ⟨g, 0, none⟩) 256 256, .int .i64 0]) ∧ w.heap.size ≤ g ∧ Row w' g (supBytes b p n j fb fi oo mo cl) [] ∧ Below w.heap.size w w' := by
  have HX := Lib.hid (Boxed.start w [.int .i64 (b : Int), .int .i64 (p : Int), .int .i64 (n : Int), .int .i64 (j : Int), .int .i64 (fb : Int), .int .i64 (fi : Int), .int .i64 (oo : Int), .int .i64 (mo : Int), .bool cl] 124)
  have hs := supMay_of h
  have HF := Lib.hid (sup_fit cl hs)
  have HSM := Lib.hid (sup_small cl hs)
  have HN := Lib.hid (lcells_eq b p n j fb fi oo mo cl)
  have HP := Lib.hid (sup_packs (supN b p n j fb fi oo mo cl) rfl)
  have H := Lib.hid h
  have HT := Lib.hid hT
  have htl := Tab.lt hT
  clear h hs hT
  cases cl
  all_goals
    go_enter Tryz.func119, Tryz.ntmps119
    go_wp2_with fail
    refine (superMayBe_is b p n j fb fi oo mo _ _ true H.out).mono ?_
    rintro e w1 ⟨rfl, hb1⟩
    have HY := Lib.hid (HX.out.go hb1)
    obtain ⟨c0, c1, c2, c3, c4, c5, c6, c7, c8⟩ := Boxed.nine HY.out
    have hlt := HY.out.lt
    clear hb1
    go_wp2_with fail
    refine (numbers_ex 11 _ rfl (w1.heap.size + 2) _ 11 _ (by simp) (by decide) (fun x hx => Nat.lt_trans (HSM.out x hx) (by decide)) ?_).mono ?_
    · rw [HN.out]; exact sl_new (by simp) (lcells b p n j fb fi oo mo _) _
    rintro e w2 ⟨g2, rfl, hR2, hb2, hg2, hg2'⟩
    have HY2 := Lib.hid (((HY.out.alloc _).alloc _).go hb2)
    have HR2 := Lib.hid hR2
    have hs2 := HY2.out.lt
    clear hR2 hb2 hg2 c0 c1 c2 c3 c4 c5 c6 c7 c8
    go_wp2_with fail
    refine (superWidths_any _).mono ?_
    rintro e w3 ⟨rfl, hR3, hb3, hs3⟩
    have HY3 := Lib.hid (HY2.out.go hb3)
    have HS2 := Lib.hid ((HR2.out.sl hg2').below hb3)
    have HS3 := Lib.hid (hR3.sl hR3.lt)
    have HT3 := Lib.hid (Tab.below HT.out HY3.out.below htl)
    have hs23 := hb3.size
    clear hR3 hb3
    go_wp2_with fail
    refine (block_ok 11 11 _ rfl _ rfl 0 (by decide) w3.heap.size _ _ _ _ w3 (Nat.le_refl _) HP.out HF.out (HS2.out.up hs23) HS3.out HT3.out).mono ?_
    rintro e w4 ⟨g4, rfl, hg4, hR4, hb4⟩
    have HY4 := Lib.hid (HY3.out.go hb4)
    have HR4 := Lib.hid hR4
    have hs4 := HY3.out.lt
    clear hR4 hb4
    go_wp2
    go_ret2
    exact ⟨g4, rfl, by omega, HR4.out, HY4.out.below⟩
theorem PackSuper_yes (b p n j fb fi oo mo : Int) (cl : Bool) (w : World) (h : supMay b p n j fb fi oo mo = true) (hT : Tab w) :
    Calls Tryz.prog 119 #[.agg #[.int .i64 b, .int .i64 p, .int .i64 n, .int .i64 j, .int .i64 fb, .int .i64 fi, .int .i64 oo, .int .i64 mo, .bool cl]] w fun e w' => ∃ g, e = .returned (.tuple #[.slice (some ⟨g, 0, none⟩) 256 256, .int .i64 0]) ∧ w.heap.size ≤ g ∧ Row w' g (supBytes b p n j fb fi oo mo cl) [] ∧ Below w.heap.size w w' := by
  have hs := supMay_of h
  obtain ⟨b, rfl⟩ := Int.eq_ofNat_of_zero_le hs.b0
  obtain ⟨p, rfl⟩ := Int.eq_ofNat_of_zero_le hs.p0
  obtain ⟨n, rfl⟩ := Int.eq_ofNat_of_zero_le hs.n0
  obtain ⟨j, rfl⟩ := Int.eq_ofNat_of_zero_le hs.j0
  obtain ⟨fb, rfl⟩ := Int.eq_ofNat_of_zero_le hs.fb0
  obtain ⟨fi, rfl⟩ := Int.eq_ofNat_of_zero_le hs.fi0
  obtain ⟨oo, rfl⟩ := Int.eq_ofNat_of_zero_le hs.oo0
  obtain ⟨mo, rfl⟩ := Int.eq_ofNat_of_zero_le hs.mo0
  exact PackSuper_nat b p n j fb fi oo mo cl w h hT
end Go.Proofs.YtgjcbfdhpbkhoaaGreatDoor.SPack
/- What tell writes when a super block is unpacked. -/
namespace Go.Proofs.YtgjcbfdhpbkhoaaGreatDoor.STold
open Go.RowKit WMem WPlain WWide SNums SPlain STell SSays GGeo
def zsup : List Value := [.int .i64 0, .int .i64 0, .int .i64 0, .int .i64 0, .int .i64 0, .int .i64 0, .int .i64 0, .int .i64 0, .bool false]
def one0 : List Value := [.int .i64 0]
def ptrs (z : Nat) : List Addr := [⟨z + 1, 0, none⟩, ⟨z + 1 + 1, 0, none⟩, ⟨z, 0, none⟩, ⟨z, 1, none⟩, ⟨z, 2, none⟩, ⟨z, 3, none⟩, ⟨z, 4, none⟩, ⟨z, 5, none⟩, ⟨z, 6, none⟩, ⟨z, 7, none⟩, ⟨z + 1 + 1 + 1, 0, none⟩]
def five (w : World) : World := ((((w.alloc (.cells zsup.toArray 124)).alloc (.cells one0.toArray 3)).alloc (.cells one0.toArray 3)).alloc (.cells one0.toArray 3)).alloc (.cells ((ptrs w.heap.size).map ptrv).toArray 205)
structure Five (w w' : World) : Prop where
  below : Below w.heap.size w w'
  size : w'.heap.size = w.heap.size + 5
  sup : RowV w' w.heap.size 124 zsup
  m1 : RowV w' (w.heap.size + 1) 3 one0
  m2 : RowV w' (w.heap.size + 1 + 1) 3 one0
  m3 : RowV w' (w.heap.size + 1 + 1 + 1) 3 one0
  pt : RowV w' (w.heap.size + 1 + 1 + 1 + 1) 205 ((ptrs w.heap.size).map ptrv)
theorem row_new' {w : World} {g : Nat} (hg : w.heap.size = g) (cs : List Value) (T : TypeId) : RowV (w.alloc (.cells cs.toArray T)) g T cs := by
  subst hg
  exact row_new _ _
theorem five_is (w : World) : Five w (five w) := by
  unfold five
  refine ⟨((((below_box _).alloc (by simp) _).alloc (by simp; omega) _).alloc (by simp; omega) _).alloc (by simp; omega) _, by simp, ?_, ?_, ?_, ?_, ?_⟩
  · exact ((((row_new' rfl zsup _).alloc _).alloc _).alloc _).alloc _
  · exact (((row_new' (by simp) one0 _).alloc _).alloc _).alloc _
  · exact ((row_new' (by simp) one0 _).alloc _).alloc _
  · exact (row_new' (by simp) one0 _).alloc _
  · exact row_new' (by simp) _ _
theorem Five.drew {w w' : World} (h : Five w w') : Five w w'.drew := ⟨below_drewN h.below 1, h.size, h.sup, h.m1, h.m2, h.m3, h.pt⟩
structure Told (w w' : World) (l : List UInt8) : Prop where
  below : Below w.heap.size w w'
  size : w'.heap.size = w.heap.size + 5
  c0 : w'.cell? ⟨w.heap.size, 0, none⟩ = some (.int .i64 (f4 l 6))
  c1 : w'.cell? ⟨w.heap.size, 1, none⟩ = some (.int .i64 (f4 l 10))
  c2 : w'.cell? ⟨w.heap.size, 2, none⟩ = some (.int .i64 (f4 l 14))
  c3 : w'.cell? ⟨w.heap.size, 3, none⟩ = some (.int .i64 (f4 l 18))
  c4 : w'.cell? ⟨w.heap.size, 4, none⟩ = some (.int .i64 (f4 l 22))
  c5 : w'.cell? ⟨w.heap.size, 5, none⟩ = some (.int .i64 (f4 l 26))
  c6 : w'.cell? ⟨w.heap.size, 6, none⟩ = some (.int .i64 (f4 l 30))
  c7 : w'.cell? ⟨w.heap.size, 7, none⟩ = some (.int .i64 (f4 l 34))
  c8 : w'.cell? ⟨w.heap.size, 8, none⟩ = some (.bool false)
  cl : w'.cell? ⟨w.heap.size + 1 + 1 + 1, 0, none⟩ = some (.int .i64 (f1 l 38))
  free : ∀ i, w'.frozen? ⟨w.heap.size, i, none⟩ = false
theorem ptrs_nodup (z : Nat) : (ptrs z).Nodup := by
  unfold ptrs
  simp
theorem ptrs_block (z : Nat) : ∀ p ∈ ptrs z, z ≤ p.block ∧ p.block ≤ z + 3 := by
  intro p hp
  simp only [ptrs, List.mem_cons, List.not_mem_nil, or_false] at hp
  rcases hp with h | h | h | h | h | h | h | h | h | h | h <;> (subst h; simp only; omega)
theorem five_some {w w' : World} (h : Five w w') : ∀ p ∈ ptrs w.heap.size, (∃ u, w'.cell? p = some u) ∧ w'.frozen? p = false := by
  intro p hp
  simp only [ptrs, List.mem_cons, List.not_mem_nil, or_false] at hp
  rcases hp with e | e | e | e | e | e | e | e | e | e | e <;> subst e
  · exact ⟨⟨_, h.m1.cell (by decide)⟩, h.m1.free _⟩
  · exact ⟨⟨_, h.m2.cell (by decide)⟩, h.m2.free _⟩
  · exact ⟨⟨_, h.sup.cell (by decide)⟩, h.sup.free _⟩
  · exact ⟨⟨_, h.sup.cell (by decide)⟩, h.sup.free _⟩
  · exact ⟨⟨_, h.sup.cell (by decide)⟩, h.sup.free _⟩
  · exact ⟨⟨_, h.sup.cell (by decide)⟩, h.sup.free _⟩
  · exact ⟨⟨_, h.sup.cell (by decide)⟩, h.sup.free _⟩
  · exact ⟨⟨_, h.sup.cell (by decide)⟩, h.sup.free _⟩
  · exact ⟨⟨_, h.sup.cell (by decide)⟩, h.sup.free _⟩
  · exact ⟨⟨_, h.sup.cell (by decide)⟩, h.sup.free _⟩
  · exact ⟨⟨_, h.m3.cell (by decide)⟩, h.m3.free _⟩
theorem told_of {w w' : World} (h : Five w w') (l : List UInt8) : Told w (tells (ptrs w.heap.size) (supX l) w') l := by
  have hs := five_some h
  have hn := ptrs_nodup w.heap.size
  have hg : ∀ (k : Nat) (hk : k < 11), (tells (ptrs w.heap.size) (supX l) w').cell? ((ptrs w.heap.size)[k]'hk) = some (.int .i64 (((supX l)[k]'(by rw [supX_len]; exact hk)).toNat : Int)) :=
    fun k hk => tells_get (ptrs w.heap.size) (supX l) w' k hk (by rw [supX_len]; exact hk) hn (hs _ (List.getElem_mem _)).1
  obtain ⟨a2, a3, a4, a5, a6, a7, a8, a9, a10⟩ := supX_at l
  refine ⟨tells_below _ _ _ _ _ h.below (fun p hp => (ptrs_block _ p hp).1), by rw [tells_size]; exact h.size, ?_, ?_, ?_, ?_, ?_, ?_, ?_, ?_, ?_, ?_, fun i => by rw [tells_free]; exact h.sup.free i⟩
  · have := hg 2 (by decide); rw [a2] at this; exact this
  · have := hg 3 (by decide); rw [a3] at this; exact this
  · have := hg 4 (by decide); rw [a4] at this; exact this
  · have := hg 5 (by decide); rw [a5] at this; exact this
  · have := hg 6 (by decide); rw [a6] at this; exact this
  · have := hg 7 (by decide); rw [a7] at this; exact this
  · have := hg 8 (by decide); rw [a8] at this; exact this
  · have := hg 9 (by decide); rw [a9] at this; exact this
  · rw [tells_miss _ _ _ _ (by unfold ptrs; simp)]
    exact h.sup.cell (i := 8) (by decide)
  · have := hg 10 (by decide); rw [a10] at this; exact this
theorem tell_sup (l : List UInt8) (w w' : World) (h : Five w w') (g : Nat) (c c' : Nat) (hR : RowV w g 47 ((supX l).map u64v)) :
    Calls Tryz.prog 150 #[.slice (some ⟨g, 0, none⟩) 11 c, .slice (some ⟨w.heap.size + 1 + 1 + 1 + 1, 0, none⟩) 11 c'] w' fun e w'' => e = .returned (.tuple #[]) ∧ Told w w'' l := by
  have hgl := hR.lt
  refine (tell_any (supX l) (ptrs w.heap.size) (supX_len l) (fun x hx => Nat.lt_trans (supX_small l x hx) (by decide)) (g + 1) (w.heap.size + 1 + 1 + 1 + 1 + 1) _ _ c c' w' (show 11 ≤ 1000000 by decide) ((hR.keep h.below hgl).sl (by omega)) (h.pt.sl (by omega)) (five_some h) ?_ ?_).mono ?_
  · intro p hp a ha
    injection ha with ha
    subst ha
    have := (ptrs_block _ p hp).1
    simp only
    omega
  · intro p hp a ha
    injection ha with ha
    subst ha
    have := (ptrs_block _ p hp).2
    simp only
    omega
  · rintro e w'' ⟨rfl, rfl⟩
    exact ⟨rfl, told_of h l⟩
end Go.Proofs.YtgjcbfdhpbkhoaaGreatDoor.STold
/- Which super blocks may be: the document's answer. -/
namespace Go.Proofs.YtgjcbfdhpbkhoaaGreatDoor.SRMay
open Go.RowKit WMem GPlain GWithin GGeo GGeo2 GFace GRef GRef2 SPlain
section
variable {P : Program} {ops : Array Oper} {Q : Exit → Act → World → Prop} {md : Region.Mode} {S : World → Prop} {oi : Oper} {fuel : Nat} {listed : Array Bool} {a : Act} {w : World}
theorem tk (i : Nat) (v : Value) (hi : ops[i]? = some oi) (hy : ∀ w, S w → (execOp a.eval oi).run P w = .ok (.value v) w) (hS : S w) (h : wpAnyH P md ops Q S fuel (listed.setIfInBounds i true) (a.put oi.dst v) w)
    (hs : Region.noSelect ops = true := by kernel_rfl) (hf : Region.free md ops listed i = true := by kernel_rfl) (hr : (Region.ready md ops listed).contains i = true := by kernel_rfl) (hQ : ∀ c a w, Q (.panic c) (a.put oi.dst v) w → Q (.panic c) a w := by exact fun _ _ _ h => h) (hg : Region.wanted oi (yielded ops a.tmps) = true := by rfl) : wpAnyH P md ops Q S (fuel + 1) listed a w :=
  wpAnyH_take hi hs hf hr hQ (.inl ⟨hg, hy⟩) hS h
theorem tn (i : Nat) (hi : ops[i]? = some oi) (hS : S w) (h : wpAnyH P md ops Q S fuel (listed.setIfInBounds i true) (a.put oi.dst undef) w)
    (hs : Region.noSelect ops = true := by kernel_rfl) (hf : Region.free md ops listed i = true := by kernel_rfl) (hr : (Region.ready md ops listed).contains i = true := by kernel_rfl) (hQ : ∀ c a w, Q (.panic c) (a.put oi.dst undef) w → Q (.panic c) a w := by exact fun _ _ _ h => h) (hg : Region.wanted oi (yielded ops a.tmps) = false := by rfl) : wpAnyH P md ops Q S (fuel + 1) listed a w :=
  wpAnyH_take hi hs hf hr hQ (.inr ⟨hg, rfl⟩) hS h
end
theorem Boxed.eight {a w : World} {v0 v1 v2 v3 v4 v5 v6 v7 v8 : Value} (h : Boxed a w [v0, v1, v2, v3, v4, v5, v6, v7, v8]) :
    w.cell? ⟨a.heap.size, 0, none⟩ = some v0 ∧ w.cell? ⟨a.heap.size, 1, none⟩ = some v1 ∧ w.cell? ⟨a.heap.size, 2, none⟩ = some v2 ∧ w.cell? ⟨a.heap.size, 3, none⟩ = some v3 ∧ w.cell? ⟨a.heap.size, 4, none⟩ = some v4 ∧
      w.cell? ⟨a.heap.size, 5, none⟩ = some v5 ∧ w.cell? ⟨a.heap.size, 6, none⟩ = some v6 ∧ w.cell? ⟨a.heap.size, 7, none⟩ = some v7 :=
  ⟨h.cell 0 _ rfl, h.cell 1 _ rfl, h.cell 2 _ rfl, h.cell 3 _ rfl, h.cell 4 _ rfl, h.cell 5 _ rfl, h.cell 6 _ rfl, h.cell 7 _ rfl⟩
section
variable (b p n j fb fi oo mo : Int) (cl : Bool) (w : World)
set_option maxHeartbeats 400000 in
theorem refsuperMay_1 (h1 : mayB b p n j = false) :
    Calls Tryz.prog 99 #[.agg #[.int .i64 b, .int .i64 p, .int .i64 n, .int .i64 j, .int .i64 fb, .int .i64 fi, .int .i64 oo, .int .i64 mo, .bool cl]] w fun e w' => e = .returned (.bool false) ∧ Below w.heap.size w w' := by
  have H1 := Lib.hid h1
  have HX := Lib.hid (Boxed.start w [.int .i64 b, .int .i64 p, .int .i64 n, .int .i64 j, .int .i64 fb, .int .i64 fi, .int .i64 oo, .int .i64 mo, .bool cl] 124)
  clear h1
  go_enter Tryz.func99, Tryz.ntmps99
  go_wp2_with (go_at_call 60; refine (refGroups_no b p n j _ H1.out).mono ?_; rintro e w1 ⟨rfl, hb1⟩)
  go_ret
  exact ⟨rfl, (HX.out.go hb1).below⟩
set_option maxHeartbeats 2000000 in
theorem refsuperMay_2 (h1 : mayB b p n j = true) (h2 : inB 0 (b - fixedI b p n j) fb = false) :
    Calls Tryz.prog 99 #[.agg #[.int .i64 b, .int .i64 p, .int .i64 n, .int .i64 j, .int .i64 fb, .int .i64 fi, .int .i64 oo, .int .i64 mo, .bool cl]] w fun e w' => e = .returned (.bool false) ∧ Below w.heap.size w w' := by
  have H1 := Lib.hid h1
  have HX := Lib.hid (Boxed.start w [.int .i64 b, .int .i64 p, .int .i64 n, .int .i64 j, .int .i64 fb, .int .i64 fi, .int .i64 oo, .int .i64 mo, .bool cl] 124)
  obtain ⟨hb0, hb1, hp0, hp1, hn0, hn1, hev, hj0, hj1, hg0, hg1, hlo, hhi, hf, hl⟩ := may_iff.1 h1
  obtain ⟨q0, q1⟩ := prod_bd (g := gN b p) (by omega) hg1 hn0 hn1
  have d0 : (gN b p == 0) = false := by simp; omega
  have s1 : IntKind.i64.wrap (b - fixedI b p n j) = b - fixedI b p n j := by
    have hx := fixedI_yes h1
    have hp := prod2_bd (g := gN b p) (by omega) hg1 hn0 hn1
    exact IntWalk.i64_in _ (by omega)
  clear h1 hev hhi hf hl hlo
  go_enter Tryz.func99, Tryz.ntmps99
  go_wp2_with (go_at_call 60; refine (refGroups_yes b p n j _ H1.out).mono ?_; rintro e w1 ⟨rfl, hbw⟩
               have HY := Lib.hid (HX.out.go hbw)
               obtain ⟨c0, c1, c2, c3, c4, c5, c6, c7⟩ := Boxed.eight HY.out
               clear hbw)
  refine wp_region_held_drew (S := (fun w' => w'.cell? ⟨w.heap.size, 0, none⟩ = some (.int .i64 b) ∧ w'.cell? ⟨w.heap.size, 1, none⟩ = some (.int .i64 p) ∧ w'.cell? ⟨w.heap.size, 2, none⟩ = some (.int .i64 n) ∧ w'.cell? ⟨w.heap.size, 3, none⟩ = some (.int .i64 j) ∧ w'.cell? ⟨w.heap.size, 4, none⟩ = some (.int .i64 fb) ∧ w'.cell? ⟨w.heap.size, 5, none⟩ = some (.int .i64 fi) ∧ w'.cell? ⟨w.heap.size, 6, none⟩ = some (.int .i64 oo) ∧ w'.cell? ⟨w.heap.size, 7, none⟩ = some (.int .i64 mo))) (by kernel_rfl) (Boxed.eight (HY.out.drewN 1)) (fun hHeld => ?_)
  have HY := Lib.hid (HY.out.drewN 1)
  refine tk 0 ?_ rfl ?_ hHeld ?_
  rotate_left
  · intro w hSw
    try dsimp only at hSw
    go_simp
    try with_reducible rfl
  simp only [Act.put, List.getElem_toArray, List.getElem_cons_zero, List.setIfInBounds_toArray, List.set_cons_zero, List.set_cons_succ]
  refine tk 1 ?_ rfl ?_ hHeld ?_
  rotate_left
  · intro w hSw
    try dsimp only at hSw
    go_simp
    try with_reducible rfl
  simp only [Act.put, lq1, lq2, lq3, lq4, lq5, lq6]
  refine tk 2 ?_ rfl ?_ hHeld ?_
  rotate_left
  · intro w hSw
    try dsimp only at hSw
    go_simp
    try with_reducible rfl
  simp only [Act.put, lq1, lq2, lq3, lq4, lq5, lq6]
  refine tk 3 ?_ rfl ?_ hHeld ?_
  rotate_left
  · intro w hSw
    try dsimp only at hSw
    go_simp
    try with_reducible rfl
  simp only [Act.put, lq1, lq2, lq3, lq4, lq5, lq6]
  refine tk 4 ?_ rfl ?_ hHeld ?_
  rotate_left
  · intro w hSw
    try dsimp only at hSw
    go_simp
    try with_reducible rfl
  simp only [Act.put, lq1, lq2, lq3, lq4, lq5, lq6]
  refine tk 5 ?_ rfl ?_ hHeld ?_
  rotate_left
  · intro w hSw
    try dsimp only at hSw
    go_simp
    try with_reducible rfl
  simp only [Act.put, lq1, lq2, lq3, lq4, lq5, lq6]
  refine tk 6 ?_ rfl ?_ hHeld ?_
  rotate_left
  · intro w hSw
    try dsimp only at hSw
    go_simp
    try with_reducible rfl
  simp only [Act.put, lq1, lq2, lq3, lq4, lq5, lq6]
  refine wpAnyH_ready (rs := [7]) (by kernel_rfl) (by simp) ?_
  refine AllReadyH.cons (o := _) rfl (fun K hK => ?_) AllReadyH.nil
  go_simp; go_at_call 66; refine (refFixed_any b p n j _).mono ?_; rintro e w2 ⟨rfl, hb2⟩
  have HY := Lib.hid (HY.out.go hb2)
  clear hb2
  go_wp2_with fail
  refine hK.out _ _ (Boxed.eight HY.out) (fun hHeld => ?_)
  clear hK K
  try simp only [Act.put, lq1, lq2, lq3, lq4, lq5, lq6]
  refine tk 8 ?_ rfl ?_ hHeld ?_
  rotate_left
  · intro w hSw
    try dsimp only at hSw
    go_simp
    try with_reducible rfl
  simp only [Act.put, lq1, lq2, lq3, lq4, lq5, lq6]
  refine wpAnyH_ready (rs := [9]) (by kernel_rfl) (by simp) ?_
  refine AllReadyH.cons (o := _) rfl (fun K hK => ?_) AllReadyH.nil
  go_simp; go_at_call 93; refine (refwithin_any _ _ _ _).mono ?_; rintro e w' ⟨rfl, rfl⟩
  go_wp2_with fail
  refine hK.out _ _ (Boxed.eight HY.out) (fun hHeld => ?_)
  clear hK K
  try simp only [Act.put, lq1, lq2, lq3, lq4, lq5, lq6]
  refine tk 10 ?_ rfl ?_ hHeld ?_
  rotate_left
  · intro w hSw
    try dsimp only at hSw
    go_simp
    try with_reducible rfl
  simp only [Act.put, lq1, lq2, lq3, lq4, lq5, lq6]
  refine tn 11 rfl hHeld ?_
  simp only [Act.put, lq1, lq2, lq3, lq4, lq5, lq6]
  refine tn 12 rfl hHeld ?_
  simp only [Act.put, lq1, lq2, lq3, lq4, lq5, lq6]
  refine tn 13 rfl hHeld ?_
  simp only [Act.put, lq1, lq2, lq3, lq4, lq5, lq6]
  refine tn 14 rfl hHeld ?_
  simp only [Act.put, lq1, lq2, lq3, lq4, lq5, lq6]
  refine tk 15 ?_ rfl ?_ hHeld ?_
  rotate_left
  · intro w hSw
    try dsimp only at hSw
    go_simp
    try with_reducible rfl
  simp only [Act.put, lq1, lq2, lq3, lq4, lq5, lq6]
  refine tk 16 ?_ rfl ?_ hHeld ?_
  rotate_left
  · intro w hSw
    try dsimp only at hSw
    go_simp
    try with_reducible rfl
  simp only [Act.put, lq1, lq2, lq3, lq4, lq5, lq6]
  refine tn 17 rfl hHeld ?_
  simp only [Act.put, lq1, lq2, lq3, lq4, lq5, lq6]
  refine tn 18 rfl hHeld ?_
  simp only [Act.put, lq1, lq2, lq3, lq4, lq5, lq6]
  refine tn 19 rfl hHeld ?_
  simp only [Act.put, lq1, lq2, lq3, lq4, lq5, lq6]
  refine tn 20 rfl hHeld ?_
  simp only [Act.put, lq1, lq2, lq3, lq4, lq5, lq6]
  refine tk 21 ?_ rfl ?_ hHeld ?_
  rotate_left
  · intro w hSw
    try dsimp only at hSw
    go_simp
    try with_reducible rfl
  simp only [Act.put, lq1, lq2, lq3, lq4, lq5, lq6]
  refine tk 22 ?_ rfl ?_ hHeld ?_
  rotate_left
  · intro w hSw
    try dsimp only at hSw
    go_simp
    try with_reducible rfl
  simp only [Act.put, lq1, lq2, lq3, lq4, lq5, lq6]
  refine tn 23 rfl hHeld ?_
  simp only [Act.put, lq1, lq2, lq3, lq4, lq5, lq6]
  refine tn 24 rfl hHeld ?_
  simp only [Act.put, lq1, lq2, lq3, lq4, lq5, lq6]
  refine tn 25 rfl hHeld ?_
  simp only [Act.put, lq1, lq2, lq3, lq4, lq5, lq6]
  refine tk 26 ?_ rfl ?_ hHeld ?_
  rotate_left
  · intro w hSw
    try dsimp only at hSw
    go_simp
    try with_reducible rfl
  simp only [Act.put, lq1, lq2, lq3, lq4, lq5, lq6]
  refine tk 27 ?_ rfl ?_ hHeld ?_
  rotate_left
  · intro w hSw
    try dsimp only at hSw
    go_simp
    try with_reducible rfl
  simp only [Act.put, lq1, lq2, lq3, lq4, lq5, lq6]
  refine wpAnyH_done (by kernel_rfl) ?_ _
  go_wp2
  go_ret
  exact ⟨rfl, HY.out.below⟩
set_option maxHeartbeats 2000000 in
theorem refsuperMay_3 (h1 : mayB b p n j = true) (h2 : inB 0 (b - fixedI b p n j) fb = true) (h3 : inB 0 (gN b p * n) fi = false) :
    Calls Tryz.prog 99 #[.agg #[.int .i64 b, .int .i64 p, .int .i64 n, .int .i64 j, .int .i64 fb, .int .i64 fi, .int .i64 oo, .int .i64 mo, .bool cl]] w fun e w' => e = .returned (.bool false) ∧ Below w.heap.size w w' := by
  have H1 := Lib.hid h1
  have HX := Lib.hid (Boxed.start w [.int .i64 b, .int .i64 p, .int .i64 n, .int .i64 j, .int .i64 fb, .int .i64 fi, .int .i64 oo, .int .i64 mo, .bool cl] 124)
  obtain ⟨hb0, hb1, hp0, hp1, hn0, hn1, hev, hj0, hj1, hg0, hg1, hlo, hhi, hf, hl⟩ := may_iff.1 h1
  obtain ⟨q0, q1⟩ := prod_bd (g := gN b p) (by omega) hg1 hn0 hn1
  have d0 : (gN b p == 0) = false := by simp; omega
  have s1 : IntKind.i64.wrap (b - fixedI b p n j) = b - fixedI b p n j := by
    have hx := fixedI_yes h1
    have hp := prod2_bd (g := gN b p) (by omega) hg1 hn0 hn1
    exact IntWalk.i64_in _ (by omega)
  clear h1 hev hhi hf hl hlo
  go_enter Tryz.func99, Tryz.ntmps99
  go_wp2_with (go_at_call 60; refine (refGroups_yes b p n j _ H1.out).mono ?_; rintro e w1 ⟨rfl, hbw⟩
               have HY := Lib.hid (HX.out.go hbw)
               obtain ⟨c0, c1, c2, c3, c4, c5, c6, c7⟩ := Boxed.eight HY.out
               clear hbw)
  refine wp_region_held_drew (S := (fun w' => w'.cell? ⟨w.heap.size, 0, none⟩ = some (.int .i64 b) ∧ w'.cell? ⟨w.heap.size, 1, none⟩ = some (.int .i64 p) ∧ w'.cell? ⟨w.heap.size, 2, none⟩ = some (.int .i64 n) ∧ w'.cell? ⟨w.heap.size, 3, none⟩ = some (.int .i64 j) ∧ w'.cell? ⟨w.heap.size, 4, none⟩ = some (.int .i64 fb) ∧ w'.cell? ⟨w.heap.size, 5, none⟩ = some (.int .i64 fi) ∧ w'.cell? ⟨w.heap.size, 6, none⟩ = some (.int .i64 oo) ∧ w'.cell? ⟨w.heap.size, 7, none⟩ = some (.int .i64 mo))) (by kernel_rfl) (Boxed.eight (HY.out.drewN 1)) (fun hHeld => ?_)
  have HY := Lib.hid (HY.out.drewN 1)
  refine tk 0 ?_ rfl ?_ hHeld ?_
  rotate_left
  · intro w hSw
    try dsimp only at hSw
    go_simp
    try with_reducible rfl
  simp only [Act.put, List.getElem_toArray, List.getElem_cons_zero, List.setIfInBounds_toArray, List.set_cons_zero, List.set_cons_succ]
  refine tk 1 ?_ rfl ?_ hHeld ?_
  rotate_left
  · intro w hSw
    try dsimp only at hSw
    go_simp
    try with_reducible rfl
  simp only [Act.put, lq1, lq2, lq3, lq4, lq5, lq6]
  refine tk 2 ?_ rfl ?_ hHeld ?_
  rotate_left
  · intro w hSw
    try dsimp only at hSw
    go_simp
    try with_reducible rfl
  simp only [Act.put, lq1, lq2, lq3, lq4, lq5, lq6]
  refine tk 3 ?_ rfl ?_ hHeld ?_
  rotate_left
  · intro w hSw
    try dsimp only at hSw
    go_simp
    try with_reducible rfl
  simp only [Act.put, lq1, lq2, lq3, lq4, lq5, lq6]
  refine tk 4 ?_ rfl ?_ hHeld ?_
  rotate_left
  · intro w hSw
    try dsimp only at hSw
    go_simp
    try with_reducible rfl
  simp only [Act.put, lq1, lq2, lq3, lq4, lq5, lq6]
  refine tk 5 ?_ rfl ?_ hHeld ?_
  rotate_left
  · intro w hSw
    try dsimp only at hSw
    go_simp
    try with_reducible rfl
  simp only [Act.put, lq1, lq2, lq3, lq4, lq5, lq6]
  refine tk 6 ?_ rfl ?_ hHeld ?_
  rotate_left
  · intro w hSw
    try dsimp only at hSw
    go_simp
    try with_reducible rfl
  simp only [Act.put, lq1, lq2, lq3, lq4, lq5, lq6]
  refine wpAnyH_ready (rs := [7]) (by kernel_rfl) (by simp) ?_
  refine AllReadyH.cons (o := _) rfl (fun K hK => ?_) AllReadyH.nil
  go_simp; go_at_call 66; refine (refFixed_any b p n j _).mono ?_; rintro e w2 ⟨rfl, hb2⟩
  have HY := Lib.hid (HY.out.go hb2)
  clear hb2
  go_wp2_with fail
  refine hK.out _ _ (Boxed.eight HY.out) (fun hHeld => ?_)
  clear hK K
  try simp only [Act.put, lq1, lq2, lq3, lq4, lq5, lq6]
  refine tk 8 ?_ rfl ?_ hHeld ?_
  rotate_left
  · intro w hSw
    try dsimp only at hSw
    go_simp
    try with_reducible rfl
  simp only [Act.put, lq1, lq2, lq3, lq4, lq5, lq6]
  refine wpAnyH_ready (rs := [9]) (by kernel_rfl) (by simp) ?_
  refine AllReadyH.cons (o := _) rfl (fun K hK => ?_) AllReadyH.nil
  go_simp; go_at_call 93; refine (refwithin_any _ _ _ _).mono ?_; rintro e w' ⟨rfl, rfl⟩
  go_wp2_with fail
  refine hK.out _ _ (Boxed.eight HY.out) (fun hHeld => ?_)
  clear hK K
  try simp only [Act.put, lq1, lq2, lq3, lq4, lq5, lq6]
  refine tk 10 ?_ rfl ?_ hHeld ?_
  rotate_left
  · intro w hSw
    try dsimp only at hSw
    go_simp
    try with_reducible rfl
  simp only [Act.put, lq1, lq2, lq3, lq4, lq5, lq6]
  refine tk 11 ?_ rfl ?_ hHeld ?_
  rotate_left
  · intro w hSw
    try dsimp only at hSw
    go_simp
    try with_reducible rfl
  simp only [Act.put, lq1, lq2, lq3, lq4, lq5, lq6]
  refine tk 12 ?_ rfl ?_ hHeld ?_
  rotate_left
  · intro w hSw
    try dsimp only at hSw
    go_simp
    try with_reducible rfl
  simp only [Act.put, lq1, lq2, lq3, lq4, lq5, lq6]
  refine tk 13 ?_ rfl ?_ hHeld ?_
  rotate_left
  · intro w hSw
    try dsimp only at hSw
    go_simp
    try with_reducible rfl
  simp only [Act.put, lq1, lq2, lq3, lq4, lq5, lq6]
  refine wpAnyH_ready (rs := [14]) (by kernel_rfl) (by simp) ?_
  refine AllReadyH.cons (o := _) rfl (fun K hK => ?_) AllReadyH.nil
  go_simp; go_at_call 93; refine (refwithin_any _ _ _ _).mono ?_; rintro e w' ⟨rfl, rfl⟩
  go_wp2_with fail
  refine hK.out _ _ (Boxed.eight HY.out) (fun hHeld => ?_)
  clear hK K
  try simp only [Act.put, lq1, lq2, lq3, lq4, lq5, lq6]
  refine tk 15 ?_ rfl ?_ hHeld ?_
  rotate_left
  · intro w hSw
    try dsimp only at hSw
    go_simp
    try with_reducible rfl
  simp only [Act.put, lq1, lq2, lq3, lq4, lq5, lq6]
  refine tk 16 ?_ rfl ?_ hHeld ?_
  rotate_left
  · intro w hSw
    try dsimp only at hSw
    go_simp
    try with_reducible rfl
  simp only [Act.put, lq1, lq2, lq3, lq4, lq5, lq6]
  refine tn 17 rfl hHeld ?_
  simp only [Act.put, lq1, lq2, lq3, lq4, lq5, lq6]
  refine tn 18 rfl hHeld ?_
  simp only [Act.put, lq1, lq2, lq3, lq4, lq5, lq6]
  refine tn 19 rfl hHeld ?_
  simp only [Act.put, lq1, lq2, lq3, lq4, lq5, lq6]
  refine tn 20 rfl hHeld ?_
  simp only [Act.put, lq1, lq2, lq3, lq4, lq5, lq6]
  refine tk 21 ?_ rfl ?_ hHeld ?_
  rotate_left
  · intro w hSw
    try dsimp only at hSw
    go_simp
    try with_reducible rfl
  simp only [Act.put, lq1, lq2, lq3, lq4, lq5, lq6]
  refine tk 22 ?_ rfl ?_ hHeld ?_
  rotate_left
  · intro w hSw
    try dsimp only at hSw
    go_simp
    try with_reducible rfl
  simp only [Act.put, lq1, lq2, lq3, lq4, lq5, lq6]
  refine tn 23 rfl hHeld ?_
  simp only [Act.put, lq1, lq2, lq3, lq4, lq5, lq6]
  refine tn 24 rfl hHeld ?_
  simp only [Act.put, lq1, lq2, lq3, lq4, lq5, lq6]
  refine tn 25 rfl hHeld ?_
  simp only [Act.put, lq1, lq2, lq3, lq4, lq5, lq6]
  refine tk 26 ?_ rfl ?_ hHeld ?_
  rotate_left
  · intro w hSw
    try dsimp only at hSw
    go_simp
    try with_reducible rfl
  simp only [Act.put, lq1, lq2, lq3, lq4, lq5, lq6]
  refine tk 27 ?_ rfl ?_ hHeld ?_
  rotate_left
  · intro w hSw
    try dsimp only at hSw
    go_simp
    try with_reducible rfl
  simp only [Act.put, lq1, lq2, lq3, lq4, lq5, lq6]
  refine wpAnyH_done (by kernel_rfl) ?_ _
  go_wp2
  go_ret
  exact ⟨rfl, HY.out.below⟩
set_option maxHeartbeats 2000000 in
theorem refsuperMay_4 (h1 : mayB b p n j = true) (h2 : inB 0 (b - fixedI b p n j) fb = true) (h3 : inB 0 (gN b p * n) fi = true) (h4 : inB 0 (gN b p * n) oo = false) :
    Calls Tryz.prog 99 #[.agg #[.int .i64 b, .int .i64 p, .int .i64 n, .int .i64 j, .int .i64 fb, .int .i64 fi, .int .i64 oo, .int .i64 mo, .bool cl]] w fun e w' => e = .returned (.bool false) ∧ Below w.heap.size w w' := by
  have H1 := Lib.hid h1
  have HX := Lib.hid (Boxed.start w [.int .i64 b, .int .i64 p, .int .i64 n, .int .i64 j, .int .i64 fb, .int .i64 fi, .int .i64 oo, .int .i64 mo, .bool cl] 124)
  obtain ⟨hb0, hb1, hp0, hp1, hn0, hn1, hev, hj0, hj1, hg0, hg1, hlo, hhi, hf, hl⟩ := may_iff.1 h1
  obtain ⟨q0, q1⟩ := prod_bd (g := gN b p) (by omega) hg1 hn0 hn1
  have d0 : (gN b p == 0) = false := by simp; omega
  have s1 : IntKind.i64.wrap (b - fixedI b p n j) = b - fixedI b p n j := by
    have hx := fixedI_yes h1
    have hp := prod2_bd (g := gN b p) (by omega) hg1 hn0 hn1
    exact IntWalk.i64_in _ (by omega)
  clear h1 hev hhi hf hl hlo
  go_enter Tryz.func99, Tryz.ntmps99
  go_wp2_with (go_at_call 60; refine (refGroups_yes b p n j _ H1.out).mono ?_; rintro e w1 ⟨rfl, hbw⟩
               have HY := Lib.hid (HX.out.go hbw)
               obtain ⟨c0, c1, c2, c3, c4, c5, c6, c7⟩ := Boxed.eight HY.out
               clear hbw)
  refine wp_region_held_drew (S := (fun w' => w'.cell? ⟨w.heap.size, 0, none⟩ = some (.int .i64 b) ∧ w'.cell? ⟨w.heap.size, 1, none⟩ = some (.int .i64 p) ∧ w'.cell? ⟨w.heap.size, 2, none⟩ = some (.int .i64 n) ∧ w'.cell? ⟨w.heap.size, 3, none⟩ = some (.int .i64 j) ∧ w'.cell? ⟨w.heap.size, 4, none⟩ = some (.int .i64 fb) ∧ w'.cell? ⟨w.heap.size, 5, none⟩ = some (.int .i64 fi) ∧ w'.cell? ⟨w.heap.size, 6, none⟩ = some (.int .i64 oo) ∧ w'.cell? ⟨w.heap.size, 7, none⟩ = some (.int .i64 mo))) (by kernel_rfl) (Boxed.eight (HY.out.drewN 1)) (fun hHeld => ?_)
  have HY := Lib.hid (HY.out.drewN 1)
  refine tk 0 ?_ rfl ?_ hHeld ?_
  rotate_left
  · intro w hSw
    try dsimp only at hSw
    go_simp
    try with_reducible rfl
  simp only [Act.put, List.getElem_toArray, List.getElem_cons_zero, List.setIfInBounds_toArray, List.set_cons_zero, List.set_cons_succ]
  refine tk 1 ?_ rfl ?_ hHeld ?_
  rotate_left
  · intro w hSw
    try dsimp only at hSw
    go_simp
    try with_reducible rfl
  simp only [Act.put, lq1, lq2, lq3, lq4, lq5, lq6]
  refine tk 2 ?_ rfl ?_ hHeld ?_
  rotate_left
  · intro w hSw
    try dsimp only at hSw
    go_simp
    try with_reducible rfl
  simp only [Act.put, lq1, lq2, lq3, lq4, lq5, lq6]
  refine tk 3 ?_ rfl ?_ hHeld ?_
  rotate_left
  · intro w hSw
    try dsimp only at hSw
    go_simp
    try with_reducible rfl
  simp only [Act.put, lq1, lq2, lq3, lq4, lq5, lq6]
  refine tk 4 ?_ rfl ?_ hHeld ?_
  rotate_left
  · intro w hSw
    try dsimp only at hSw
    go_simp
    try with_reducible rfl
  simp only [Act.put, lq1, lq2, lq3, lq4, lq5, lq6]
  refine tk 5 ?_ rfl ?_ hHeld ?_
  rotate_left
  · intro w hSw
    try dsimp only at hSw
    go_simp
    try with_reducible rfl
  simp only [Act.put, lq1, lq2, lq3, lq4, lq5, lq6]
  refine tk 6 ?_ rfl ?_ hHeld ?_
  rotate_left
  · intro w hSw
    try dsimp only at hSw
    go_simp
    try with_reducible rfl
  simp only [Act.put, lq1, lq2, lq3, lq4, lq5, lq6]
  refine wpAnyH_ready (rs := [7]) (by kernel_rfl) (by simp) ?_
  refine AllReadyH.cons (o := _) rfl (fun K hK => ?_) AllReadyH.nil
  go_simp; go_at_call 66; refine (refFixed_any b p n j _).mono ?_; rintro e w2 ⟨rfl, hb2⟩
  have HY := Lib.hid (HY.out.go hb2)
  clear hb2
  go_wp2_with fail
  refine hK.out _ _ (Boxed.eight HY.out) (fun hHeld => ?_)
  clear hK K
  try simp only [Act.put, lq1, lq2, lq3, lq4, lq5, lq6]
  refine tk 8 ?_ rfl ?_ hHeld ?_
  rotate_left
  · intro w hSw
    try dsimp only at hSw
    go_simp
    try with_reducible rfl
  simp only [Act.put, lq1, lq2, lq3, lq4, lq5, lq6]
  refine wpAnyH_ready (rs := [9]) (by kernel_rfl) (by simp) ?_
  refine AllReadyH.cons (o := _) rfl (fun K hK => ?_) AllReadyH.nil
  go_simp; go_at_call 93; refine (refwithin_any _ _ _ _).mono ?_; rintro e w' ⟨rfl, rfl⟩
  go_wp2_with fail
  refine hK.out _ _ (Boxed.eight HY.out) (fun hHeld => ?_)
  clear hK K
  try simp only [Act.put, lq1, lq2, lq3, lq4, lq5, lq6]
  refine tk 10 ?_ rfl ?_ hHeld ?_
  rotate_left
  · intro w hSw
    try dsimp only at hSw
    go_simp
    try with_reducible rfl
  simp only [Act.put, lq1, lq2, lq3, lq4, lq5, lq6]
  refine tk 11 ?_ rfl ?_ hHeld ?_
  rotate_left
  · intro w hSw
    try dsimp only at hSw
    go_simp
    try with_reducible rfl
  simp only [Act.put, lq1, lq2, lq3, lq4, lq5, lq6]
  refine tk 12 ?_ rfl ?_ hHeld ?_
  rotate_left
  · intro w hSw
    try dsimp only at hSw
    go_simp
    try with_reducible rfl
  simp only [Act.put, lq1, lq2, lq3, lq4, lq5, lq6]
  refine tk 13 ?_ rfl ?_ hHeld ?_
  rotate_left
  · intro w hSw
    try dsimp only at hSw
    go_simp
    try with_reducible rfl
  simp only [Act.put, lq1, lq2, lq3, lq4, lq5, lq6]
  refine wpAnyH_ready (rs := [14]) (by kernel_rfl) (by simp) ?_
  refine AllReadyH.cons (o := _) rfl (fun K hK => ?_) AllReadyH.nil
  go_simp; go_at_call 93; refine (refwithin_any _ _ _ _).mono ?_; rintro e w' ⟨rfl, rfl⟩
  go_wp2_with fail
  refine hK.out _ _ (Boxed.eight HY.out) (fun hHeld => ?_)
  clear hK K
  try simp only [Act.put, lq1, lq2, lq3, lq4, lq5, lq6]
  refine tk 15 ?_ rfl ?_ hHeld ?_
  rotate_left
  · intro w hSw
    try dsimp only at hSw
    go_simp
    try with_reducible rfl
  simp only [Act.put, lq1, lq2, lq3, lq4, lq5, lq6]
  refine tk 16 ?_ rfl ?_ hHeld ?_
  rotate_left
  · intro w hSw
    try dsimp only at hSw
    go_simp
    try with_reducible rfl
  simp only [Act.put, lq1, lq2, lq3, lq4, lq5, lq6]
  refine tk 17 ?_ rfl ?_ hHeld ?_
  rotate_left
  · intro w hSw
    try dsimp only at hSw
    go_simp
    try with_reducible rfl
  simp only [Act.put, lq1, lq2, lq3, lq4, lq5, lq6]
  refine tk 18 ?_ rfl ?_ hHeld ?_
  rotate_left
  · intro w hSw
    try dsimp only at hSw
    go_simp
    try with_reducible rfl
  simp only [Act.put, lq1, lq2, lq3, lq4, lq5, lq6]
  refine tk 19 ?_ rfl ?_ hHeld ?_
  rotate_left
  · intro w hSw
    try dsimp only at hSw
    go_simp
    try with_reducible rfl
  simp only [Act.put, lq1, lq2, lq3, lq4, lq5, lq6]
  refine wpAnyH_ready (rs := [20]) (by kernel_rfl) (by simp) ?_
  refine AllReadyH.cons (o := _) rfl (fun K hK => ?_) AllReadyH.nil
  go_simp; go_at_call 93; refine (refwithin_any _ _ _ _).mono ?_; rintro e w' ⟨rfl, rfl⟩
  go_wp2_with fail
  refine hK.out _ _ (Boxed.eight HY.out) (fun hHeld => ?_)
  clear hK K
  try simp only [Act.put, lq1, lq2, lq3, lq4, lq5, lq6]
  refine tk 21 ?_ rfl ?_ hHeld ?_
  rotate_left
  · intro w hSw
    try dsimp only at hSw
    go_simp
    try with_reducible rfl
  simp only [Act.put, lq1, lq2, lq3, lq4, lq5, lq6]
  refine tk 22 ?_ rfl ?_ hHeld ?_
  rotate_left
  · intro w hSw
    try dsimp only at hSw
    go_simp
    try with_reducible rfl
  simp only [Act.put, lq1, lq2, lq3, lq4, lq5, lq6]
  refine tn 23 rfl hHeld ?_
  simp only [Act.put, lq1, lq2, lq3, lq4, lq5, lq6]
  refine tn 24 rfl hHeld ?_
  simp only [Act.put, lq1, lq2, lq3, lq4, lq5, lq6]
  refine tn 25 rfl hHeld ?_
  simp only [Act.put, lq1, lq2, lq3, lq4, lq5, lq6]
  refine tk 26 ?_ rfl ?_ hHeld ?_
  rotate_left
  · intro w hSw
    try dsimp only at hSw
    go_simp
    try with_reducible rfl
  simp only [Act.put, lq1, lq2, lq3, lq4, lq5, lq6]
  refine tk 27 ?_ rfl ?_ hHeld ?_
  rotate_left
  · intro w hSw
    try dsimp only at hSw
    go_simp
    try with_reducible rfl
  simp only [Act.put, lq1, lq2, lq3, lq4, lq5, lq6]
  refine wpAnyH_done (by kernel_rfl) ?_ _
  go_wp2
  go_ret
  exact ⟨rfl, HY.out.below⟩
set_option maxHeartbeats 2000000 in
theorem refsuperMay_5 (h1 : mayB b p n j = true) (h2 : inB 0 (b - fixedI b p n j) fb = true) (h3 : inB 0 (gN b p * n) fi = true) (h4 : inB 0 (gN b p * n) oo = true) :
    Calls Tryz.prog 99 #[.agg #[.int .i64 b, .int .i64 p, .int .i64 n, .int .i64 j, .int .i64 fb, .int .i64 fi, .int .i64 oo, .int .i64 mo, .bool cl]] w fun e w' => e = .returned (.bool (inB 0 2147483647 mo)) ∧ Below w.heap.size w w' := by
  have H1 := Lib.hid h1
  have HX := Lib.hid (Boxed.start w [.int .i64 b, .int .i64 p, .int .i64 n, .int .i64 j, .int .i64 fb, .int .i64 fi, .int .i64 oo, .int .i64 mo, .bool cl] 124)
  obtain ⟨hb0, hb1, hp0, hp1, hn0, hn1, hev, hj0, hj1, hg0, hg1, hlo, hhi, hf, hl⟩ := may_iff.1 h1
  obtain ⟨q0, q1⟩ := prod_bd (g := gN b p) (by omega) hg1 hn0 hn1
  have d0 : (gN b p == 0) = false := by simp; omega
  have s1 : IntKind.i64.wrap (b - fixedI b p n j) = b - fixedI b p n j := by
    have hx := fixedI_yes h1
    have hp := prod2_bd (g := gN b p) (by omega) hg1 hn0 hn1
    exact IntWalk.i64_in _ (by omega)
  clear h1 hev hhi hf hl hlo
  go_enter Tryz.func99, Tryz.ntmps99
  go_wp2_with (go_at_call 60; refine (refGroups_yes b p n j _ H1.out).mono ?_; rintro e w1 ⟨rfl, hbw⟩
               have HY := Lib.hid (HX.out.go hbw)
               obtain ⟨c0, c1, c2, c3, c4, c5, c6, c7⟩ := Boxed.eight HY.out
               clear hbw)
  refine wp_region_held_drew (S := (fun w' => w'.cell? ⟨w.heap.size, 0, none⟩ = some (.int .i64 b) ∧ w'.cell? ⟨w.heap.size, 1, none⟩ = some (.int .i64 p) ∧ w'.cell? ⟨w.heap.size, 2, none⟩ = some (.int .i64 n) ∧ w'.cell? ⟨w.heap.size, 3, none⟩ = some (.int .i64 j) ∧ w'.cell? ⟨w.heap.size, 4, none⟩ = some (.int .i64 fb) ∧ w'.cell? ⟨w.heap.size, 5, none⟩ = some (.int .i64 fi) ∧ w'.cell? ⟨w.heap.size, 6, none⟩ = some (.int .i64 oo) ∧ w'.cell? ⟨w.heap.size, 7, none⟩ = some (.int .i64 mo))) (by kernel_rfl) (Boxed.eight (HY.out.drewN 1)) (fun hHeld => ?_)
  have HY := Lib.hid (HY.out.drewN 1)
  refine tk 0 ?_ rfl ?_ hHeld ?_
  rotate_left
  · intro w hSw
    try dsimp only at hSw
    go_simp
    try with_reducible rfl
  simp only [Act.put, List.getElem_toArray, List.getElem_cons_zero, List.setIfInBounds_toArray, List.set_cons_zero, List.set_cons_succ]
  refine tk 1 ?_ rfl ?_ hHeld ?_
  rotate_left
  · intro w hSw
    try dsimp only at hSw
    go_simp
    try with_reducible rfl
  simp only [Act.put, lq1, lq2, lq3, lq4, lq5, lq6]
  refine tk 2 ?_ rfl ?_ hHeld ?_
  rotate_left
  · intro w hSw
    try dsimp only at hSw
    go_simp
    try with_reducible rfl
  simp only [Act.put, lq1, lq2, lq3, lq4, lq5, lq6]
  refine tk 3 ?_ rfl ?_ hHeld ?_
  rotate_left
  · intro w hSw
    try dsimp only at hSw
    go_simp
    try with_reducible rfl
  simp only [Act.put, lq1, lq2, lq3, lq4, lq5, lq6]
  refine tk 4 ?_ rfl ?_ hHeld ?_
  rotate_left
  · intro w hSw
    try dsimp only at hSw
    go_simp
    try with_reducible rfl
  simp only [Act.put, lq1, lq2, lq3, lq4, lq5, lq6]
  refine tk 5 ?_ rfl ?_ hHeld ?_
  rotate_left
  · intro w hSw
    try dsimp only at hSw
    go_simp
    try with_reducible rfl
  simp only [Act.put, lq1, lq2, lq3, lq4, lq5, lq6]
  refine tk 6 ?_ rfl ?_ hHeld ?_
  rotate_left
  · intro w hSw
    try dsimp only at hSw
    go_simp
    try with_reducible rfl
  simp only [Act.put, lq1, lq2, lq3, lq4, lq5, lq6]
  refine wpAnyH_ready (rs := [7]) (by kernel_rfl) (by simp) ?_
  refine AllReadyH.cons (o := _) rfl (fun K hK => ?_) AllReadyH.nil
  go_simp; go_at_call 66; refine (refFixed_any b p n j _).mono ?_; rintro e w2 ⟨rfl, hb2⟩
  have HY := Lib.hid (HY.out.go hb2)
  clear hb2
  go_wp2_with fail
  refine hK.out _ _ (Boxed.eight HY.out) (fun hHeld => ?_)
  clear hK K
  try simp only [Act.put, lq1, lq2, lq3, lq4, lq5, lq6]
  refine tk 8 ?_ rfl ?_ hHeld ?_
  rotate_left
  · intro w hSw
    try dsimp only at hSw
    go_simp
    try with_reducible rfl
  simp only [Act.put, lq1, lq2, lq3, lq4, lq5, lq6]
  refine wpAnyH_ready (rs := [9]) (by kernel_rfl) (by simp) ?_
  refine AllReadyH.cons (o := _) rfl (fun K hK => ?_) AllReadyH.nil
  go_simp; go_at_call 93; refine (refwithin_any _ _ _ _).mono ?_; rintro e w' ⟨rfl, rfl⟩
  go_wp2_with fail
  refine hK.out _ _ (Boxed.eight HY.out) (fun hHeld => ?_)
  clear hK K
  try simp only [Act.put, lq1, lq2, lq3, lq4, lq5, lq6]
  refine tk 10 ?_ rfl ?_ hHeld ?_
  rotate_left
  · intro w hSw
    try dsimp only at hSw
    go_simp
    try with_reducible rfl
  simp only [Act.put, lq1, lq2, lq3, lq4, lq5, lq6]
  refine tk 11 ?_ rfl ?_ hHeld ?_
  rotate_left
  · intro w hSw
    try dsimp only at hSw
    go_simp
    try with_reducible rfl
  simp only [Act.put, lq1, lq2, lq3, lq4, lq5, lq6]
  refine tk 12 ?_ rfl ?_ hHeld ?_
  rotate_left
  · intro w hSw
    try dsimp only at hSw
    go_simp
    try with_reducible rfl
  simp only [Act.put, lq1, lq2, lq3, lq4, lq5, lq6]
  refine tk 13 ?_ rfl ?_ hHeld ?_
  rotate_left
  · intro w hSw
    try dsimp only at hSw
    go_simp
    try with_reducible rfl
  simp only [Act.put, lq1, lq2, lq3, lq4, lq5, lq6]
  refine wpAnyH_ready (rs := [14]) (by kernel_rfl) (by simp) ?_
  refine AllReadyH.cons (o := _) rfl (fun K hK => ?_) AllReadyH.nil
  go_simp; go_at_call 93; refine (refwithin_any _ _ _ _).mono ?_; rintro e w' ⟨rfl, rfl⟩
  go_wp2_with fail
  refine hK.out _ _ (Boxed.eight HY.out) (fun hHeld => ?_)
  clear hK K
  try simp only [Act.put, lq1, lq2, lq3, lq4, lq5, lq6]
  refine tk 15 ?_ rfl ?_ hHeld ?_
  rotate_left
  · intro w hSw
    try dsimp only at hSw
    go_simp
    try with_reducible rfl
  simp only [Act.put, lq1, lq2, lq3, lq4, lq5, lq6]
  refine tk 16 ?_ rfl ?_ hHeld ?_
  rotate_left
  · intro w hSw
    try dsimp only at hSw
    go_simp
    try with_reducible rfl
  simp only [Act.put, lq1, lq2, lq3, lq4, lq5, lq6]
  refine tk 17 ?_ rfl ?_ hHeld ?_
  rotate_left
  · intro w hSw
    try dsimp only at hSw
    go_simp
    try with_reducible rfl
  simp only [Act.put, lq1, lq2, lq3, lq4, lq5, lq6]
  refine tk 18 ?_ rfl ?_ hHeld ?_
  rotate_left
  · intro w hSw
    try dsimp only at hSw
    go_simp
    try with_reducible rfl
  simp only [Act.put, lq1, lq2, lq3, lq4, lq5, lq6]
  refine tk 19 ?_ rfl ?_ hHeld ?_
  rotate_left
  · intro w hSw
    try dsimp only at hSw
    go_simp
    try with_reducible rfl
  simp only [Act.put, lq1, lq2, lq3, lq4, lq5, lq6]
  refine wpAnyH_ready (rs := [20]) (by kernel_rfl) (by simp) ?_
  refine AllReadyH.cons (o := _) rfl (fun K hK => ?_) AllReadyH.nil
  go_simp; go_at_call 93; refine (refwithin_any _ _ _ _).mono ?_; rintro e w' ⟨rfl, rfl⟩
  go_wp2_with fail
  refine hK.out _ _ (Boxed.eight HY.out) (fun hHeld => ?_)
  clear hK K
  try simp only [Act.put, lq1, lq2, lq3, lq4, lq5, lq6]
  refine tk 21 ?_ rfl ?_ hHeld ?_
  rotate_left
  · intro w hSw
    try dsimp only at hSw
    go_simp
    try with_reducible rfl
  simp only [Act.put, lq1, lq2, lq3, lq4, lq5, lq6]
  refine tk 22 ?_ rfl ?_ hHeld ?_
  rotate_left
  · intro w hSw
    try dsimp only at hSw
    go_simp
    try with_reducible rfl
  simp only [Act.put, lq1, lq2, lq3, lq4, lq5, lq6]
  refine tk 23 ?_ rfl ?_ hHeld ?_
  rotate_left
  · intro w hSw
    try dsimp only at hSw
    go_simp
    try with_reducible rfl
  simp only [Act.put, lq1, lq2, lq3, lq4, lq5, lq6]
  refine tk 24 ?_ rfl ?_ hHeld ?_
  rotate_left
  · intro w hSw
    try dsimp only at hSw
    go_simp
    try with_reducible rfl
  simp only [Act.put, lq1, lq2, lq3, lq4, lq5, lq6]
  refine wpAnyH_ready (rs := [25]) (by kernel_rfl) (by simp) ?_
  refine AllReadyH.cons (o := _) rfl (fun K hK => ?_) AllReadyH.nil
  go_simp; go_at_call 93; refine (refwithin_any _ _ _ _).mono ?_; rintro e w' ⟨rfl, rfl⟩
  go_wp2_with fail
  refine hK.out _ _ (Boxed.eight HY.out) (fun hHeld => ?_)
  clear hK K
  try simp only [Act.put, lq1, lq2, lq3, lq4, lq5, lq6]
  refine tk 26 ?_ rfl ?_ hHeld ?_
  rotate_left
  · intro w hSw
    try dsimp only at hSw
    go_simp
    try with_reducible rfl
  simp only [Act.put, lq1, lq2, lq3, lq4, lq5, lq6]
  refine tk 27 ?_ rfl ?_ hHeld ?_
  rotate_left
  · intro w hSw
    try dsimp only at hSw
    go_simp
    try with_reducible rfl
  simp only [Act.put, lq1, lq2, lq3, lq4, lq5, lq6]
  refine wpAnyH_done (by kernel_rfl) ?_ _
  go_wp2
  go_ret
  exact ⟨rfl, HY.out.below⟩
theorem refsuperMay_is (q : Bool) (hq : supMay b p n j fb fi oo mo = q) :
    Calls Tryz.prog 99 #[.agg #[.int .i64 b, .int .i64 p, .int .i64 n, .int .i64 j, .int .i64 fb, .int .i64 fi, .int .i64 oo, .int .i64 mo, .bool cl]] w fun e w' => e = .returned (.bool q) ∧ Below w.heap.size w w' := by
  subst hq
  cases h1 : mayB b p n j with
  | false => rw [show supMay b p n j fb fi oo mo = false by simp only [supMay, h1]; rfl]; exact refsuperMay_1 b p n j fb fi oo mo cl w h1
  | true =>
    have hg := groupsI_yes h1
    cases h2 : inB 0 (b - fixedI b p n j) fb with
    | false => rw [show supMay b p n j fb fi oo mo = false by simp only [supMay, h1, h2]; rfl]; exact refsuperMay_2 b p n j fb fi oo mo cl w h1 h2
    | true =>
      cases h3 : inB 0 (gN b p * n) fi with
      | false => rw [show supMay b p n j fb fi oo mo = false by simp only [supMay, h1, h2, hg, allIn, List.all_cons, h3]; rfl]; exact refsuperMay_3 b p n j fb fi oo mo cl w h1 h2 h3
      | true =>
        cases h4 : inB 0 (gN b p * n) oo with
        | false => rw [show supMay b p n j fb fi oo mo = false by simp only [supMay, h1, h2, hg, allIn, List.all_cons, h3, h4]; rfl]; exact refsuperMay_4 b p n j fb fi oo mo cl w h1 h2 h3 h4
        | true => rw [show supMay b p n j fb fi oo mo = inB 0 2147483647 mo by simp only [supMay, h1, h2, hg, allIn, List.all_cons, List.all_nil, h3, h4]; rfl]; exact refsuperMay_5 b p n j fb fi oo mo cl w h1 h2 h3 h4
end
end Go.Proofs.YtgjcbfdhpbkhoaaGreatDoor.SRMay
