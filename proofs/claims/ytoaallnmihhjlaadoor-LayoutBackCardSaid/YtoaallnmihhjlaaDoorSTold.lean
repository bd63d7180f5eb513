/- What tell writes when a super block is unpacked. -/
import Derived.Test.YtoaallnmihhjlaaDoorSSays
import Derived.Test.YtoaallnmihhjlaaDoorSMayBe
namespace Go.Proofs.YtoaallnmihhjlaaDoor.STold
open Go.RowKit WMem WPlain WWide SNums SPlain STell SSays GGeo

def zsup : List Value := [.int .i64 0, .int .i64 0, .int .i64 0, .int .i64 0, .int .i64 0, .int .i64 0, .int .i64 0, .int .i64 0, .bool false]
def one0 : List Value := [.int .i64 0]
def ptrs (z : Nat) : List Addr := [⟨z + 1, 0, none⟩, ⟨z + 1 + 1, 0, none⟩, ⟨z, 0, none⟩, ⟨z, 1, none⟩, ⟨z, 2, none⟩, ⟨z, 3, none⟩, ⟨z, 4, none⟩, ⟨z, 5, none⟩, ⟨z, 6, none⟩, ⟨z, 7, none⟩, ⟨z + 1 + 1 + 1, 0, none⟩]
/-- the world in which tell is called -/
def five (w : World) : World := ((((w.alloc (.cells zsup.toArray 25)).alloc (.cells one0.toArray 3)).alloc (.cells one0.toArray 3)).alloc (.cells one0.toArray 3)).alloc (.cells ((ptrs w.heap.size).map ptrv).toArray 63)
structure Five (w w' : World) : Prop where
  below : Below w.heap.size w w'
  size : w'.heap.size = w.heap.size + 5
  sup : RowV w' w.heap.size 25 zsup
  m1 : RowV w' (w.heap.size + 1) 3 one0
  m2 : RowV w' (w.heap.size + 1 + 1) 3 one0
  m3 : RowV w' (w.heap.size + 1 + 1 + 1) 3 one0
  pt : RowV w' (w.heap.size + 1 + 1 + 1 + 1) 63 ((ptrs w.heap.size).map ptrv)
theorem row_new' {w : World} {g : Nat} (hg : w.heap.size = g) (cs : List Value) (T : TypeId) : RowV (w.alloc (.cells cs.toArray T)) g T cs := by
  subst hg
  exact row_new _ _
theorem five_is (w : World) : Five w (five w) := by
  unfold five
  refine ⟨((((below_box _).alloc (by simp) _).alloc (by simp; omega) _).alloc (by simp; omega) _).alloc (by simp; omega) _, by simp, ?_, ?_, ?_, ?_, ?_⟩
  · exact ((((row_new' rfl zsup _).alloc _).alloc _).alloc _).alloc _
  · exact (((row_new' (by simp) one0 _).alloc _).alloc _).alloc _
  · exact ((row_new' (by simp) one0 _).alloc _).alloc _
  · exact (row_new' (by simp) one0 _).alloc _
  · exact row_new' (by simp) _ _
theorem Five.drew {w w' : World} (h : Five w w') : Five w w'.drew := ⟨below_drewN h.below 1, h.size, h.sup, h.m1, h.m2, h.m3, h.pt⟩
/-- behind tell -/
structure Told (w w' : World) (l : List UInt8) : Prop where
  below : Below w.heap.size w w'
  size : w'.heap.size = w.heap.size + 5
  c0 : w'.cell? ⟨w.heap.size, 0, none⟩ = some (.int .i64 (f4 l 6))
  c1 : w'.cell? ⟨w.heap.size, 1, none⟩ = some (.int .i64 (f4 l 10))
  c2 : w'.cell? ⟨w.heap.size, 2, none⟩ = some (.int .i64 (f4 l 14))
  c3 : w'.cell? ⟨w.heap.size, 3, none⟩ = some (.int .i64 (f4 l 18))
  c4 : w'.cell? ⟨w.heap.size, 4, none⟩ = some (.int .i64 (f4 l 22))
  c5 : w'.cell? ⟨w.heap.size, 5, none⟩ = some (.int .i64 (f4 l 26))
  c6 : w'.cell? ⟨w.heap.size, 6, none⟩ = some (.int .i64 (f4 l 30))
  c7 : w'.cell? ⟨w.heap.size, 7, none⟩ = some (.int .i64 (f4 l 34))
  c8 : w'.cell? ⟨w.heap.size, 8, none⟩ = some (.bool false)
  cl : w'.cell? ⟨w.heap.size + 1 + 1 + 1, 0, none⟩ = some (.int .i64 (f1 l 38))
  free : ∀ i, w'.frozen? ⟨w.heap.size, i, none⟩ = false
theorem ptrs_nodup (z : Nat) : (ptrs z).Nodup := by
  unfold ptrs
  simp
theorem ptrs_block (z : Nat) : ∀ p ∈ ptrs z, z ≤ p.block ∧ p.block ≤ z + 3 := by
  intro p hp
  simp only [ptrs, List.mem_cons, List.not_mem_nil, or_false] at hp
  rcases hp with h | h | h | h | h | h | h | h | h | h | h <;> (subst h; simp only; omega)
theorem five_some {w w' : World} (h : Five w w') : ∀ p ∈ ptrs w.heap.size, (∃ u, w'.cell? p = some u) ∧ w'.frozen? p = false := by
  intro p hp
  simp only [ptrs, List.mem_cons, List.not_mem_nil, or_false] at hp
  rcases hp with e | e | e | e | e | e | e | e | e | e | e <;> subst e
  · exact ⟨⟨_, h.m1.cell (by decide)⟩, h.m1.free _⟩
  · exact ⟨⟨_, h.m2.cell (by decide)⟩, h.m2.free _⟩
  · exact ⟨⟨_, h.sup.cell (by decide)⟩, h.sup.free _⟩
  · exact ⟨⟨_, h.sup.cell (by decide)⟩, h.sup.free _⟩
  · exact ⟨⟨_, h.sup.cell (by decide)⟩, h.sup.free _⟩
  · exact ⟨⟨_, h.sup.cell (by decide)⟩, h.sup.free _⟩
  · exact ⟨⟨_, h.sup.cell (by decide)⟩, h.sup.free _⟩
  · exact ⟨⟨_, h.sup.cell (by decide)⟩, h.sup.free _⟩
  · exact ⟨⟨_, h.sup.cell (by decide)⟩, h.sup.free _⟩
  · exact ⟨⟨_, h.sup.cell (by decide)⟩, h.sup.free _⟩
  · exact ⟨⟨_, h.m3.cell (by decide)⟩, h.m3.free _⟩
theorem told_of {w w' : World} (h : Five w w') (l : List UInt8) : Told w (tells (ptrs w.heap.size) (supX l) w') l := by
  have hs := five_some h
  have hn := ptrs_nodup w.heap.size
  have hg : ∀ (k : Nat) (hk : k < 11), (tells (ptrs w.heap.size) (supX l) w').cell? ((ptrs w.heap.size)[k]'hk) = some (.int .i64 (((supX l)[k]'(by rw [supX_len]; exact hk)).toNat : Int)) :=
    fun k hk => tells_get (ptrs w.heap.size) (supX l) w' k hk (by rw [supX_len]; exact hk) hn (hs _ (List.getElem_mem _)).1
  obtain ⟨a2, a3, a4, a5, a6, a7, a8, a9, a10⟩ := supX_at l
  refine ⟨tells_below _ _ _ _ _ h.below (fun p hp => (ptrs_block _ p hp).1), by rw [tells_size]; exact h.size, ?_, ?_, ?_, ?_, ?_, ?_, ?_, ?_, ?_, ?_, fun i => by rw [tells_free]; exact h.sup.free i⟩
  · have := hg 2 (by decide); rw [a2] at this; exact this
  · have := hg 3 (by decide); rw [a3] at this; exact this
  · have := hg 4 (by decide); rw [a4] at this; exact this
  · have := hg 5 (by decide); rw [a5] at this; exact this
  · have := hg 6 (by decide); rw [a6] at this; exact this
  · have := hg 7 (by decide); rw [a7] at this; exact this
  · have := hg 8 (by decide); rw [a8] at this; exact this
  · have := hg 9 (by decide); rw [a9] at this; exact this
  · rw [tells_miss _ _ _ _ (by unfold ptrs; simp)]
    exact h.sup.cell (i := 8) (by decide)
  · have := hg 10 (by decide); rw [a10] at this; exact this
theorem tell_sup (l : List UInt8) (w w' : World) (h : Five w w') (g : Nat) (c c' : Nat) (hR : RowV w g 56 ((supX l).map u64v)) :
    Calls Tryd.prog 32 #[.slice (some ⟨g, 0, none⟩) 11 c, .slice (some ⟨w.heap.size + 1 + 1 + 1 + 1, 0, none⟩) 11 c'] w' fun e w'' => e = .returned (.tuple #[]) ∧ Told w w'' l := by
  have hgl := hR.lt
  refine (tell_any (supX l) (ptrs w.heap.size) (supX_len l) (fun x hx => Nat.lt_trans (supX_small l x hx) (by decide)) (g + 1) (w.heap.size + 1 + 1 + 1 + 1 + 1) _ _ c c' w' (show 11 ≤ 1000000 by decide) ((hR.keep h.below hgl).sl (by omega)) (h.pt.sl (by omega)) (five_some h) ?_ ?_).mono ?_
  · intro p hp a ha
    injection ha with ha
    subst ha
    have := (ptrs_block _ p hp).1
    simp only
    omega
  · intro p hp a ha
    injection ha with ha
    subst ha
    have := (ptrs_block _ p hp).2
    simp only
    omega
  · rintro e w'' ⟨rfl, rfl⟩
    exact ⟨rfl, told_of h l⟩
end Go.Proofs.YtoaallnmihhjlaaDoor.STold
