/- The document's examples, in plain mathematics. -/
import Derived.Test.YtphfidenjihgeaaEPlain
namespace Go.Proofs.Ytphfidenjihgeaa.EAwM
open DPlain EPlain

def d0 : St := St.new 128
def s0 : Sto := fresh d0 1 2
def s1 : Sto := s0.write 5 (full 7)
def s2 : Sto := s1.write 5 (full 8)
def s3 : Sto := s2.hold 9
def s4 : Sto := s3.back 1
def s5 : Sto := s4.read 5
def s6 : Sto := s5.commit
def s7 : Sto := s6.home 5 (full 7)
def t0 : Sto := fresh s7.d 1 2
def keys : List Nat := [1, 2, 1, 3, 1, 2]
def reads (s : Sto) (l : List Nat) : Sto := l.foldl Sto.read s
def tk (k : Nat) : Sto := reads t0 (keys.take k)
theorem s0_N : s0.N = 128 := by show (St.new 128).L.length = 128; simp [St.new]
theorem d7_L : s7.d.L.length = 128 := by
  show (St.new 128).L.length = 128
  simp [St.new]
theorem read_N (s : Sto) (n : Nat) : (s.read n).N = s.N := by
  unfold Sto.read Sto.N
  split
  · rfl
  · split <;> rfl
theorem read_d (s : Sto) (n : Nat) : (s.read n).d = s.d := by
  unfold Sto.read
  split
  · rfl
  · split <;> rfl
theorem s1_acts : s1.acts = [.unset 5] := rfl
theorem s2_acts : s2.acts = [.unset 5, .set 5 (full 7)] := rfl
theorem s3_acts : s3.acts = [.unset 5, .set 5 (full 7), .free 9] := rfl
theorem s4_chg5 : s4.now.chg 5 = some (full 7) := rfl
theorem s4_val : s4.val 5 = full 7 := rfl
theorem s5_hld : s5.now.hld 9 = false := rfl
theorem s5_chg (n : Nat) : s5.now.chg n = if n = 5 then some (full 7) else none := by
  show s4.now.chg n = _
  show (undoAll (s3.acts.drop 1) s3.now).chg n = _
  rw [s3_acts]
  simp only [List.drop_succ_cons, List.drop_zero, undoAll, Deed.undo]
  by_cases h : n = 5
  · rw [if_pos h, if_pos h]
  · rw [if_neg h, if_neg h]
    show (if n = 5 then _ else s1.now.chg n) = none
    rw [if_neg h]
    show (if n = 5 then _ else s0.now.chg n) = none
    rw [if_neg h]
    rfl
theorem s5_nums : numsOf s5.now.chg s5.N = [5] := by
  have hN : s5.N = 128 := by
    show (s4.read 5).N = 128
    rw [read_N]
    exact s0_N
  rw [hN]
  unfold numsOf
  have : (fun n => (s5.now.chg n).isSome) = fun n => decide (n = 5) := by
    funext n
    rw [s5_chg]
    by_cases h : n = 5 <;> simp [h]
  rw [this]
  decide
theorem s5_wrs : wrs s5.now.chg s5.N = [(5, full 7)] := by
  unfold wrs
  rw [s5_nums]
  simp [s5_chg]
theorem s6_wai : s6.wai 5 = some (full 7) := by
  show (match s5.now.chg 5 with | some l => some l | none => s5.wai 5) = _
  rw [s5_chg]
  rfl
theorem s7_wai (n : Nat) : s7.wai n = none := by
  have h : ∀ n, s6.wai n = if n = 5 then some (full 7) else none := fun n => by
    show (match s5.now.chg n with | some l => some l | none => s5.wai n) = _
    rw [s5_chg]
    by_cases h : n = 5
    · rw [if_pos h]
    · rw [if_neg h]
      rfl
  have e : s7.wai n = if n = 5 then none else s6.wai n := by
    show (s6.home 5 (full 7)).wai n = _
    unfold Sto.home
    split <;> rfl
  rw [e, h]
  split <;> rfl
theorem tk_succ {k : Nat} (h : k < 6) : tk (k + 1) = (tk k).read (keys.getD k 0) := by
  unfold tk reads
  have hk : k < keys.length := h
  rw [List.take_succ_eq_append_getElem hk, List.foldl_append, List.getD_eq_getElem?_getD, List.getElem?_eq_getElem hk]
  rfl
theorem keys_lt {k : Nat} : keys.getD k 0 < 128 := by
  by_cases h : k < 6
  · have : k = 0 ∨ k = 1 ∨ k = 2 ∨ k = 3 ∨ k = 4 ∨ k = 5 := by omega
    rcases this with h | h | h | h | h | h <;> subst h <;> decide
  · rw [List.getD_eq_getElem?_getD, List.getElem?_eq_none (by show 6 ≤ k; omega)]
    decide
theorem tk_N (k : Nat) : (tk k).N = 128 := by
  have : ∀ (l : List Nat) (s : Sto), (reads s l).N = s.N := fun l => by
    induction l with
    | nil => exact fun s => rfl
    | cons a r ih => exact fun s => (ih _).trans (read_N s a)
  exact (this _ _).trans d7_L
theorem tk_load (k : Nat) : (tk k).load ≤ s7.d.N + k := by
  have : ∀ (l : List Nat) (s : Sto), (reads s l).load ≤ s.load + l.length := fun l => by
    induction l with
    | nil => exact fun s => Nat.le_refl _
    | cons a r ih =>
      intro s
      have h1 := ih (s.read a)
      have h2 := Sto.load_read s a
      show (reads (s.read a) r).load ≤ _
      rw [List.length_cons]
      omega
  have h := this (keys.take k) t0
  have hl : (keys.take k).length ≤ k := List.length_take_le _ _
  have e : t0.load = s7.d.N := by show 0 + 0 + 0 + s7.d.N = _; omega
  unfold tk
  omega
theorem d7_N : s7.d.N ≤ 1 := by
  have e : s7.d = s6.d.write 5 (full 7) := by
    show (s6.home 5 (full 7)).d = _
    unfold Sto.home
    split <;> rfl
  have e2 : s6.d = d0 := by
    show s5.d = _
    show (s4.read 5).d = _
    rw [read_d]
    rfl
  rw [e, e2]
  exact Nat.le_refl _
theorem t_counts : (tk 6).found = 2 ∧ (tk 6).asked = 4 := by
  have hw : ∀ n, t0.inMem n = false := fun n => rfl
  constructor <;> rfl
theorem loads : s0.load ≤ 0 ∧ s1.load ≤ 1 ∧ s2.load ≤ 2 ∧ s3.load ≤ 3 ∧ s4.load ≤ 3 ∧ s5.load ≤ 4 ∧ s6.load ≤ 4 := by
  have h0 : s0.load ≤ 0 := Nat.le_refl _
  have h1 : s1.load ≤ s0.load + 1 := Sto.load_write ..
  have h2 : s2.load ≤ s1.load + 1 := Sto.load_write ..
  have h3 : s3.load ≤ s2.load + 1 := Sto.load_hold ..
  have h4 : s4.load ≤ s3.load := Sto.load_back ..
  have h5 : s5.load ≤ s4.load + 1 := Sto.load_read ..
  have h6 : s6.load ≤ s5.load := Sto.load_commit ..
  omega
end Go.Proofs.Ytphfidenjihgeaa.EAwM
