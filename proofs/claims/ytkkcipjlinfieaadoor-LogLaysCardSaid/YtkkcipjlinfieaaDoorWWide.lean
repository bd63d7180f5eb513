/- The faces Pack and Unpack, each by one contract for whatever it is called with. -/
import Derived.Test.YtkkcipjlinfieaaDoorWFace2
namespace Go.Proofs.YtkkcipjlinfieaaDoor.WWide
open Go.RowKit WMem WPlain WGive WGet WPut WAppend WHelp WList WPack WUnpack WFace WFace2

/-- each width may be -/
def fineI (ws : List Int) : Prop := ∀ n ∈ ws, 1 ≤ n ∧ n ≤ 8
def nats (ws : List Int) : List Nat := ws.map Int.toNat
theorem nats_len (ws : List Int) : (nats ws).length = ws.length := by simp [nats]
theorem nats_vals (ws : List Int) (h : fineI ws) : ws.map i64v = (nats ws).map natv := by
  rw [nats, List.map_map]
  apply List.map_congr_left
  intro n hn
  have := h n hn
  simp only [Function.comp, i64v, natv]
  congr 1
  omega
theorem nats_fine (ws : List Int) (h : fineI ws) : fine (nats ws) := by
  intro n hn
  obtain ⟨m, hm, rfl⟩ := List.mem_map.1 hn
  have := h m hm
  omega

section
variable (b : List UInt8) (ws : List Int) (B : Nat) (A A' : Option Addr) (c c' : Nat) (w : World)

theorem UnpackW_ok (hB : B ≤ w.heap.size) (hf : fineI ws) (ht : tot (nats ws) = b.length) (hl : b.length ≤ 140737488355328) (hl' : ws.length ≤ 17592186044416) (hA : Sl w B A (b.map u8v)) (hA' : Sl w B A' (ws.map i64v)) :
    Calls Tryd.prog 47 #[.slice A b.length c, .slice A' ws.length c'] w fun e w' =>
      ∃ g, e = .returned (.tuple #[.slice (some ⟨g, 0, none⟩) ws.length ws.length, .int .i64 0]) ∧ w.heap.size ≤ g ∧ RowV w' g 66 ((unp (nats ws) b).map u64v) ∧ Below w.heap.size w w' := by
  have h := Unpack_ok (nats ws) b B A A' c c' w hB (nats_fine ws hf) ht hl (by rw [nats_len]; exact hl') hA (by rw [← nats_vals ws hf]; exact hA')
  rw [nats_len] at h
  exact h
theorem UnpackW_no (hB : B ≤ w.heap.size) (h : ¬ (fineI ws ∧ tot (nats ws) = b.length)) (hl' : ws.length ≤ 17592186044416) (hA' : Sl w B A' (ws.map i64v)) :
    Calls Tryd.prog 47 #[.slice A b.length c, .slice A' ws.length c'] w fun e w' => e = .returned (.tuple #[.slice none 0 0, .int .i64 22]) ∧ Below w.heap.size w w' := by
  by_cases hf : fineI ws
  · have h2 := Unpack_len (nats ws) b.length B A A' c c' w hB (nats_fine ws hf) (fun e => h ⟨hf, e⟩) (by rw [nats_len]; exact hl') (by rw [← nats_vals ws hf]; exact hA')
    rw [nats_len] at h2
    exact h2
  · exact Unpack_width ws b.length B A A' c c' w hB hf hl' hA'

variable (xs : List UInt64)
/-- what Pack packs -/
def packs (xs : List UInt64) (ws : List Int) (size : Int) : Prop := xs.length = ws.length ∧ fineI ws ∧ (tot (nats ws) : Int) ≤ size ∧ size ≤ 4096
/-- its bytes -/
def bytesOf_ (xs : List UInt64) (ws : List Int) (size : Int) : List UInt8 := WPack.part size.toNat (nats ws) xs (nats ws).length
theorem bytesOf_len (size : Int) (h : packs xs ws size) : (bytesOf_ xs ws size).length = size.toNat := by
  obtain ⟨h1, h2, h3, h4⟩ := h
  exact part_len _ _ _ _ (by rw [nats_len, h1]) (by omega)
theorem PackW_ok (size : Int) (hB : B ≤ w.heap.size) (h : packs xs ws size) (hx : fit (nats ws) xs) (hA : Sl w B A (xs.map u64v)) (hA' : Sl w B A' (ws.map i64v)) :
    Calls Tryd.prog 31 #[.slice A xs.length c, .slice A' ws.length c', .int .i64 size] w fun e w' =>
      ∃ g, e = .returned (.tuple #[.slice (some ⟨g, 0, none⟩) size.toNat size.toNat, .int .i64 0]) ∧ w.heap.size ≤ g ∧ Row w' g (bytesOf_ xs ws size) [] ∧ Below w.heap.size w w' := by
  obtain ⟨h1, h2, h3, h4⟩ := h
  obtain ⟨size, rfl⟩ := Int.eq_ofNat_of_zero_le (show 0 ≤ size by omega)
  have h5 := Pack_ok (nats ws) xs size B A A' c c' w hB (by rw [nats_len, h1]) (nats_fine ws h2) hx (by omega) (by omega) hA (by rw [← nats_vals ws h2]; exact hA')
  rw [nats_len] at h5
  simp only [bytesOf_, Int.toNat_natCast, nats_len]
  exact h5
theorem PackW_big (size : Int) (hB : B ≤ w.heap.size) (h : packs xs ws size) (hx : ¬ fit (nats ws) xs) (hA : Sl w B A (xs.map u64v)) (hA' : Sl w B A' (ws.map i64v)) :
    Calls Tryd.prog 31 #[.slice A xs.length c, .slice A' ws.length c', .int .i64 size] w fun e w' => e = .returned (.tuple #[.slice none 0 0, .int .i64 34]) ∧ Below w.heap.size w w' := by
  obtain ⟨h1, h2, h3, h4⟩ := h
  obtain ⟨size, rfl⟩ := Int.eq_ofNat_of_zero_le (show 0 ≤ size by omega)
  have h5 := Pack_big (nats ws) xs size B A A' c c' w hB (by rw [nats_len, h1]) (nats_fine ws h2) hx (by omega) (by omega) hA (by rw [← nats_vals ws h2]; exact hA')
  rw [nats_len] at h5
  exact h5
theorem PackW_no (size : Int) (hB : B ≤ w.heap.size) (h : ¬ packs xs ws size) (hl' : ws.length ≤ 17592186044416) (hA' : Sl w B A' (ws.map i64v)) :
    Calls Tryd.prog 31 #[.slice A xs.length c, .slice A' ws.length c', .int .i64 size] w fun e w' => e = .returned (.tuple #[.slice none 0 0, .int .i64 22]) ∧ Below w.heap.size w w' := by
  by_cases h1 : xs.length = ws.length
  · by_cases h2 : fineI ws
    · have h5 := Pack_size (nats ws) xs.length size B A A' c c' w hB (by rw [nats_len, h1]) (nats_fine ws h2) (fun h3 => h ⟨h1, h2, h3⟩) (by rw [nats_len]; exact hl') (by rw [← nats_vals ws h2]; exact hA')
      rw [nats_len] at h5
      exact h5
    · exact Pack_width ws xs.length size B A A' c c' w hB h1 h2 hl' hA'
  · exact Pack_count xs.length ws.length size A A' c c' w h1
end
theorem UnpackW_at (len : Nat) (b : List UInt8) (hlen : b.length = len) (ws : List Int) (B : Nat) (A A' : Option Addr) (c c' : Nat) (w : World) (hB : B ≤ w.heap.size) (hf : fineI ws) (ht : tot (nats ws) = b.length) (hl : len ≤ 140737488355328) (hl' : ws.length ≤ 17592186044416) (hA : Sl w B A (b.map u8v)) (hA' : Sl w B A' (ws.map i64v)) :
    Calls Tryd.prog 47 #[.slice A len c, .slice A' ws.length c'] w fun e w' =>
      ∃ g, e = .returned (.tuple #[.slice (some ⟨g, 0, none⟩) ws.length ws.length, .int .i64 0]) ∧ w.heap.size ≤ g ∧ RowV w' g 66 ((unp (nats ws) b).map u64v) ∧ Below w.heap.size w w' := by
  subst hlen
  exact UnpackW_ok b ws B A A' c c' w hB hf ht hl hl' hA hA'
theorem PackW_at (len : Nat) (xs : List UInt64) (hlen : xs.length = len) (ws : List Int) (B : Nat) (A A' : Option Addr) (c c' : Nat) (w : World) (size : Nat) (hB : B ≤ w.heap.size) (h : packs xs ws (size : Int)) (hx : fit (nats ws) xs) (hA : Sl w B A (xs.map u64v)) (hA' : Sl w B A' (ws.map i64v)) :
    Calls Tryd.prog 31 #[.slice A len c, .slice A' ws.length c', .int .i64 (size : Int)] w fun e w' =>
      ∃ g, e = .returned (.tuple #[.slice (some ⟨g, 0, none⟩) size size, .int .i64 0]) ∧ w.heap.size ≤ g ∧ Row w' g (bytesOf_ xs ws (size : Int)) [] ∧ Below w.heap.size w w' := by
  subst hlen
  exact PackW_ok ws B A A' c c' w xs (size : Int) hB h hx hA hA'
end Go.Proofs.YtkkcipjlinfieaaDoor.WWide
