/- The document's store is made: New ends, in new memory. -/
import Derived.Test.YtgjcbfdhpbkhoaaGreatDoorMg49
import Derived.Test.YtgjcbfdhpbkhoaaGreatDoorMg13
import Derived.Deep.RegionHeld3
namespace Go.Proofs.YtgjcbfdhpbkhoaaGreatDoor.IR6
open Go.RowKit WMem WPlain Ext Map DPlain DMem Mk DBase DRead DPend DWrite RNew RRead RWrite RFlush TRef
section
variable {P : Program} {ops : Array Oper} {Q : Exit → Act → World → Prop} {md : Region.Mode} {S : World → Prop} {oi : Oper} {fuel : Nat} {listed : Array Bool} {a : Act} {w : World}
theorem tk (i : Nat) (v : Value) (hi : ops[i]? = some oi) (hy : ∀ w, S w → (execOp a.eval oi).run P w = .ok (.value v) w) (hS : S w) (h : wpAnyH P md ops Q S fuel (listed.setIfInBounds i true) (a.put oi.dst v) w)
    (hs : Region.noSelect ops = true := by kernel_rfl) (hf : Region.free md ops listed i = true := by kernel_rfl) (hr : (Region.ready md ops listed).contains i = true := by kernel_rfl) (hQ : ∀ c a w, Q (.panic c) (a.put oi.dst v) w → Q (.panic c) a w := by exact fun _ _ _ h => h) (hg : Region.wanted oi (yielded ops a.tmps) = true := by rfl) : wpAnyH P md ops Q S (fuel + 1) listed a w :=
  wpAnyH_take hi hs hf hr hQ (.inl ⟨hg, hy⟩) hS h
theorem tn (i : Nat) (hi : ops[i]? = some oi) (hS : S w) (h : wpAnyH P md ops Q S fuel (listed.setIfInBounds i true) (a.put oi.dst undef) w)
    (hs : Region.noSelect ops = true := by kernel_rfl) (hf : Region.free md ops listed i = true := by kernel_rfl) (hr : (Region.ready md ops listed).contains i = true := by kernel_rfl) (hQ : ∀ c a w, Q (.panic c) (a.put oi.dst undef) w → Q (.panic c) a w := by exact fun _ _ _ h => h) (hg : Region.wanted oi (yielded ops a.tmps) = false := by rfl) : wpAnyH P md ops Q S (fuel + 1) listed a w :=
  wpAnyH_take hi hs hf hr hQ (.inr ⟨hg, rfl⟩) hS h
end
def nils (n : Nat) : Array Value := (List.replicate n (Value.slice none 0 0)).toArray
theorem make_nils (n : Nat) (hn : n ≤ 4096) (w : World) : (Instr.makeSlice 110 (.int .i64 (n : Int)) (.int .i64 (n : Int))).run Tryz.prog w = .ok (.slice (some ⟨w.heap.size, 0, none⟩) n n) (w.alloc (.cells (nils n) 22)) := by
  obtain ⟨i, h1, h2, h3, h4⟩ := info_parts (P := Tryz.prog) (e := 22) (z := .slice none 0 0) (size := 1) (bytes := 24) (by kernel_rfl)
  have h := run_make (P := Tryz.prog) w 110 22 i (.slice none 0 0) (by kernel_rfl) h1 h2 .i64 .i64 n n (by omega) (by omega) (by rw [h4]; omega) (by omega)
  rw [h]
  simp only [Int.toNat_natCast, h3, Nat.mul_one]
  rw [nils, ← Mk.made_one]
  rfl
theorem make_nils4 (w : World) : (Instr.makeSlice 129 (.int .i64 4) (.int .i64 4)).run Tryz.prog w = .ok (.slice (some ⟨w.heap.size, 0, none⟩) 4 4) (w.alloc (.cells (nils 4) 50)) := by
  obtain ⟨i, h1, h2, h3, h4⟩ := info_parts (P := Tryz.prog) (e := 50) (z := .slice none 0 0) (size := 1) (bytes := 24) (by kernel_rfl)
  have h := run_make (P := Tryz.prog) w 129 50 i (.slice none 0 0) (by kernel_rfl) h1 h2 .i64 .i64 4 4 (by omega) (by omega) (by rw [h4]; omega) (by omega)
  refine h.trans ?_
  simp only [h3, Nat.mul_one]
  rw [nils, ← Mk.made_one]
  rfl
theorem rd_len {w : World} {S : Nat → Prop} {b : Nat} {s : St} (h : RD w S b s) : ∃ A c, w.cell? ⟨b, 0, none⟩ = some (.slice A s.L.length c) := by
  obtain ⟨_, _, _, _, hx⟩ := h
  have hc := hx.cL
  obtain ⟨A', cap', rfl, _, _⟩ := L_at hx.rowL hx.eachL
  exact ⟨_, _, hc⟩
set_option maxRecDepth 100000 in
set_option maxHeartbeats 4000000 in
theorem RNew6 (S : Nat → Prop) (dc n : Nat) (s : St) (w : World) (hd : RD w S dc s) (hn : s.L.length = n) (h0 : 1 ≤ n) (h1 : n ≤ 4096) :
    Calls Tryz.prog 36 #[.pointer (some ⟨dc, 0, none⟩), .int .i64 4, .int .i64 32] w fun e w' => (∃ v, e = .returned (.tuple #[v, .int .i64 0])) ∧ Below w.heap.size w w' := by
  obtain ⟨A, c, hc⟩ := rd_len hd
  rw [hn] at hc
  have hmn := fun W => make_nils n h1 W
  have hmb := fun W => made_bools n h1 W
  have hm4 := fun W => make_nils4 W
  have hz : ((n : Int) == 0) = false := by rw [beq_eq_false_iff_ne]; omega
  have hz2 : (n == 0) = false := by rw [beq_eq_false_iff_ne]; omega
  clear hd
  go_enter Tryz.func36, Tryz.ntmps36
  go_wp2_with fail
  refine wp_region_held_drew (S := (fun w' => Below w.heap.size w w')) (by kernel_rfl) (below_drewN (Below.refl _ w) 1) (fun hHeld => ?_)
  refine tk 0 ?_ rfl ?_ hHeld ?_
  rotate_left
  · intro wq hSw
    go_simp
    try with_reducible rfl
  try simp only [Act.put, List.getElem_toArray, List.getElem_cons_zero, List.setIfInBounds_toArray, List.set_cons_zero, List.set_cons_succ]
  refine tk 1 ?_ rfl ?_ hHeld ?_
  rotate_left
  · intro wq hSw
    go_simp
    try with_reducible rfl
  try simp only [Act.put, lq1, lq2, lq3, lq4, lq5, lq6]
  refine tk 2 ?_ rfl ?_ hHeld ?_
  rotate_left
  · intro wq hSw
    go_simp
    try with_reducible rfl
  try simp only [Act.put, lq1, lq2, lq3, lq4, lq5, lq6]
  refine tk 3 ?_ rfl ?_ hHeld ?_
  rotate_left
  · intro wq hSw
    go_simp
    try with_reducible rfl
  try simp only [Act.put, lq1, lq2, lq3, lq4, lq5, lq6]
  refine tk 5 ?_ rfl ?_ hHeld ?_
  rotate_left
  · intro wq hSw
    go_simp
    try with_reducible rfl
  try simp only [Act.put, lq1, lq2, lq3, lq4, lq5, lq6]
  refine tk 9 ?_ rfl ?_ hHeld ?_
  rotate_left
  · intro wq hSw
    go_simp
    try with_reducible rfl
  try simp only [Act.put, lq1, lq2, lq3, lq4, lq5, lq6]
  refine tk 11 ?_ rfl ?_ hHeld ?_
  rotate_left
  · intro wq hSw
    go_simp
    try with_reducible rfl
  try simp only [Act.put, lq1, lq2, lq3, lq4, lq5, lq6]
  refine wpAnyH_ready (rs := [4, 6, 10, 12]) (by kernel_rfl) (by simp) ?_
  refine AllReadyH.cons (o := _) rfl (fun K hK => ?_) (AllReadyH.cons (o := _) rfl (fun K hK => ?_) (AllReadyH.cons (o := _) rfl (fun K hK => ?_) (AllReadyH.cons (o := _) rfl (fun K hK => ?_) (AllReadyH.nil))))
  · go_simp
    refine hK.out _ _ (hHeld.alloc hHeld.size _) (fun hHeld => ?_)
    clear hK K
    try simp only [Act.put, lq1, lq2, lq3, lq4, lq5, lq6]
    refine wpAnyH_ready (rs := [6, 10, 12]) (by kernel_rfl) (by simp) ?_
    refine AllReadyH.cons (o := _) rfl (fun K hK => ?_) (AllReadyH.cons (o := _) rfl (fun K hK => ?_) (AllReadyH.cons (o := _) rfl (fun K hK => ?_) (AllReadyH.nil)))
    · go_simp
      refine hK.out _ _ (hHeld.alloc hHeld.size _) (fun hHeld => ?_)
      clear hK K
      try simp only [Act.put, lq1, lq2, lq3, lq4, lq5, lq6]
      refine tk 7 (.agg #[.slice (some ⟨w.heap.size, 0, none⟩) n n, .slice (some ⟨w.heap.size + 1, 0, none⟩) n n]) rfl ?_ hHeld ?_
      · intro wq hSw
        first | (go_simp; done) | kernel_rfl
      try simp only [Act.put, lq1, lq2, lq3, lq4, lq5, lq6]
      refine wpAnyH_ready (rs := [8, 10, 12]) (by kernel_rfl) (by simp) ?_
      refine AllReadyH.cons (o := _) rfl (fun K hK => ?_) (AllReadyH.cons (o := _) rfl (fun K hK => ?_) (AllReadyH.cons (o := _) rfl (fun K hK => ?_) (AllReadyH.nil)))
      · go_simp
        refine hK.out _ _ (hHeld.alloc hHeld.size _) (fun hHeld => ?_)
        clear hK K
        try simp only [Act.put, lq1, lq2, lq3, lq4, lq5, lq6]
        refine wpAnyH_ready (rs := [10, 12]) (by kernel_rfl) (by simp) ?_
        refine AllReadyH.cons (o := _) rfl (fun K hK => ?_) (AllReadyH.cons (o := _) rfl (fun K hK => ?_) (AllReadyH.nil))
        · go_simp
          refine hK.out _ _ (hHeld.alloc hHeld.size _) (fun hHeld => ?_)
          clear hK K
          try simp only [Act.put, lq1, lq2, lq3, lq4, lq5, lq6]
          refine wpAnyH_ready (rs := [12]) (by kernel_rfl) (by simp) ?_
          refine AllReadyH.cons (o := _) rfl (fun K hK => ?_) (AllReadyH.nil)
          · go_simp
            refine hK.out _ _ (hHeld.alloc hHeld.size _) (fun hHeld => ?_)
            clear hK K
            try simp only [Act.put, lq1, lq2, lq3, lq4, lq5, lq6]
            refine tk 13 (.agg #[.pointer (some ⟨dc, 0, none⟩), .int .i64 (n : Int), .int .i64 32, .slice (some ⟨w.heap.size + 2, 0, none⟩) 1 1, .slice (some ⟨w.heap.size + 3, 0, none⟩) n n, .slice (some ⟨w.heap.size + 4, 0, none⟩) 4 4, .int .i64 0, .int .i64 0]) rfl ?_ hHeld ?_
            · intro wq hSw
              first | (go_simp; done) | kernel_rfl
            try simp only [Act.put, lq1, lq2, lq3, lq4, lq5, lq6]
            refine wpAnyH_ready (rs := [14]) (by kernel_rfl) (by simp) ?_
            refine AllReadyH.cons (o := _) rfl (fun K hK => ?_) (AllReadyH.nil)
            · go_simp
              refine hK.out _ _ (hHeld.alloc hHeld.size _) (fun hHeld => ?_)
              clear hK K
              try simp only [Act.put, lq1, lq2, lq3, lq4, lq5, lq6]
              refine tk 15 ?_ rfl ?_ hHeld ?_
              rotate_left
              · intro wq hSw
                go_simp
                try with_reducible rfl
              try simp only [Act.put, lq1, lq2, lq3, lq4, lq5, lq6]
              refine tk 16 ?_ rfl ?_ hHeld ?_
              rotate_left
              · intro wq hSw
                go_simp
                try with_reducible rfl
              try simp only [Act.put, lq1, lq2, lq3, lq4, lq5, lq6]
              refine wpAnyH_done (by kernel_rfl) ?_ _
              go_wp2
              go_ret2
              exact ⟨⟨_, rfl⟩, hHeld⟩
        · go_simp
          refine hK.out _ _ (hHeld.alloc hHeld.size _) (fun hHeld => ?_)
          clear hK K
          try simp only [Act.put, lq1, lq2, lq3, lq4, lq5, lq6]
          refine wpAnyH_ready (rs := [10]) (by kernel_rfl) (by simp) ?_
          refine AllReadyH.cons (o := _) rfl (fun K hK => ?_) (AllReadyH.nil)
          · go_simp
            refine hK.out _ _ (hHeld.alloc hHeld.size _) (fun hHeld => ?_)
            clear hK K
            try simp only [Act.put, lq1, lq2, lq3, lq4, lq5, lq6]
            refine tk 13 (.agg #[.pointer (some ⟨dc, 0, none⟩), .int .i64 (n : Int), .int .i64 32, .slice (some ⟨w.heap.size + 2, 0, none⟩) 1 1, .slice (some ⟨w.heap.size + 4, 0, none⟩) n n, .slice (some ⟨w.heap.size + 3, 0, none⟩) 4 4, .int .i64 0, .int .i64 0]) rfl ?_ hHeld ?_
            · intro wq hSw
              first | (go_simp; done) | kernel_rfl
            try simp only [Act.put, lq1, lq2, lq3, lq4, lq5, lq6]
            refine wpAnyH_ready (rs := [14]) (by kernel_rfl) (by simp) ?_
            refine AllReadyH.cons (o := _) rfl (fun K hK => ?_) (AllReadyH.nil)
            · go_simp
              refine hK.out _ _ (hHeld.alloc hHeld.size _) (fun hHeld => ?_)
              clear hK K
              try simp only [Act.put, lq1, lq2, lq3, lq4, lq5, lq6]
              refine tk 15 ?_ rfl ?_ hHeld ?_
              rotate_left
              · intro wq hSw
                go_simp
                try with_reducible rfl
              try simp only [Act.put, lq1, lq2, lq3, lq4, lq5, lq6]
              refine tk 16 ?_ rfl ?_ hHeld ?_
              rotate_left
              · intro wq hSw
                go_simp
                try with_reducible rfl
              try simp only [Act.put, lq1, lq2, lq3, lq4, lq5, lq6]
              refine wpAnyH_done (by kernel_rfl) ?_ _
              go_wp2
              go_ret2
              exact ⟨⟨_, rfl⟩, hHeld⟩
      · go_simp
        refine hK.out _ _ (hHeld.alloc hHeld.size _) (fun hHeld => ?_)
        clear hK K
        try simp only [Act.put, lq1, lq2, lq3, lq4, lq5, lq6]
        refine wpAnyH_ready (rs := [8, 12]) (by kernel_rfl) (by simp) ?_
        refine AllReadyH.cons (o := _) rfl (fun K hK => ?_) (AllReadyH.cons (o := _) rfl (fun K hK => ?_) (AllReadyH.nil))
        · go_simp
          refine hK.out _ _ (hHeld.alloc hHeld.size _) (fun hHeld => ?_)
          clear hK K
          try simp only [Act.put, lq1, lq2, lq3, lq4, lq5, lq6]
          refine wpAnyH_ready (rs := [12]) (by kernel_rfl) (by simp) ?_
          refine AllReadyH.cons (o := _) rfl (fun K hK => ?_) (AllReadyH.nil)
          · go_simp
            refine hK.out _ _ (hHeld.alloc hHeld.size _) (fun hHeld => ?_)
            clear hK K
            try simp only [Act.put, lq1, lq2, lq3, lq4, lq5, lq6]
            refine tk 13 (.agg #[.pointer (some ⟨dc, 0, none⟩), .int .i64 (n : Int), .int .i64 32, .slice (some ⟨w.heap.size + 3, 0, none⟩) 1 1, .slice (some ⟨w.heap.size + 2, 0, none⟩) n n, .slice (some ⟨w.heap.size + 4, 0, none⟩) 4 4, .int .i64 0, .int .i64 0]) rfl ?_ hHeld ?_
            · intro wq hSw
              first | (go_simp; done) | kernel_rfl
            try simp only [Act.put, lq1, lq2, lq3, lq4, lq5, lq6]
            refine wpAnyH_ready (rs := [14]) (by kernel_rfl) (by simp) ?_
            refine AllReadyH.cons (o := _) rfl (fun K hK => ?_) (AllReadyH.nil)
            · go_simp
              refine hK.out _ _ (hHeld.alloc hHeld.size _) (fun hHeld => ?_)
              clear hK K
              try simp only [Act.put, lq1, lq2, lq3, lq4, lq5, lq6]
              refine tk 15 ?_ rfl ?_ hHeld ?_
              rotate_left
              · intro wq hSw
                go_simp
                try with_reducible rfl
              try simp only [Act.put, lq1, lq2, lq3, lq4, lq5, lq6]
              refine tk 16 ?_ rfl ?_ hHeld ?_
              rotate_left
              · intro wq hSw
                go_simp
                try with_reducible rfl
              try simp only [Act.put, lq1, lq2, lq3, lq4, lq5, lq6]
              refine wpAnyH_done (by kernel_rfl) ?_ _
              go_wp2
              go_ret2
              exact ⟨⟨_, rfl⟩, hHeld⟩
        · go_simp
          refine hK.out _ _ (hHeld.alloc hHeld.size _) (fun hHeld => ?_)
          clear hK K
          try simp only [Act.put, lq1, lq2, lq3, lq4, lq5, lq6]
          refine wpAnyH_ready (rs := [8]) (by kernel_rfl) (by simp) ?_
          refine AllReadyH.cons (o := _) rfl (fun K hK => ?_) (AllReadyH.nil)
          · go_simp
            refine hK.out _ _ (hHeld.alloc hHeld.size _) (fun hHeld => ?_)
            clear hK K
            try simp only [Act.put, lq1, lq2, lq3, lq4, lq5, lq6]
            refine tk 13 (.agg #[.pointer (some ⟨dc, 0, none⟩), .int .i64 (n : Int), .int .i64 32, .slice (some ⟨w.heap.size + 4, 0, none⟩) 1 1, .slice (some ⟨w.heap.size + 2, 0, none⟩) n n, .slice (some ⟨w.heap.size + 3, 0, none⟩) 4 4, .int .i64 0, .int .i64 0]) rfl ?_ hHeld ?_
            · intro wq hSw
              first | (go_simp; done) | kernel_rfl
            try simp only [Act.put, lq1, lq2, lq3, lq4, lq5, lq6]
            refine wpAnyH_ready (rs := [14]) (by kernel_rfl) (by simp) ?_
            refine AllReadyH.cons (o := _) rfl (fun K hK => ?_) (AllReadyH.nil)
            · go_simp
              refine hK.out _ _ (hHeld.alloc hHeld.size _) (fun hHeld => ?_)
              clear hK K
              try simp only [Act.put, lq1, lq2, lq3, lq4, lq5, lq6]
              refine tk 15 ?_ rfl ?_ hHeld ?_
              rotate_left
              · intro wq hSw
                go_simp
                try with_reducible rfl
              try simp only [Act.put, lq1, lq2, lq3, lq4, lq5, lq6]
              refine tk 16 ?_ rfl ?_ hHeld ?_
              rotate_left
              · intro wq hSw
                go_simp
                try with_reducible rfl
              try simp only [Act.put, lq1, lq2, lq3, lq4, lq5, lq6]
              refine wpAnyH_done (by kernel_rfl) ?_ _
              go_wp2
              go_ret2
              exact ⟨⟨_, rfl⟩, hHeld⟩
      · go_simp
        refine hK.out _ _ (hHeld.alloc hHeld.size _) (fun hHeld => ?_)
        clear hK K
        try simp only [Act.put, lq1, lq2, lq3, lq4, lq5, lq6]
        refine wpAnyH_ready (rs := [8, 10]) (by kernel_rfl) (by simp) ?_
        refine AllReadyH.cons (o := _) rfl (fun K hK => ?_) (AllReadyH.cons (o := _) rfl (fun K hK => ?_) (AllReadyH.nil))
        · go_simp
          refine hK.out _ _ (hHeld.alloc hHeld.size _) (fun hHeld => ?_)
          clear hK K
          try simp only [Act.put, lq1, lq2, lq3, lq4, lq5, lq6]
          refine wpAnyH_ready (rs := [10]) (by kernel_rfl) (by simp) ?_
          refine AllReadyH.cons (o := _) rfl (fun K hK => ?_) (AllReadyH.nil)
          · go_simp
            refine hK.out _ _ (hHeld.alloc hHeld.size _) (fun hHeld => ?_)
            clear hK K
            try simp only [Act.put, lq1, lq2, lq3, lq4, lq5, lq6]
            refine tk 13 (.agg #[.pointer (some ⟨dc, 0, none⟩), .int .i64 (n : Int), .int .i64 32, .slice (some ⟨w.heap.size + 3, 0, none⟩) 1 1, .slice (some ⟨w.heap.size + 4, 0, none⟩) n n, .slice (some ⟨w.heap.size + 2, 0, none⟩) 4 4, .int .i64 0, .int .i64 0]) rfl ?_ hHeld ?_
            · intro wq hSw
              first | (go_simp; done) | kernel_rfl
            try simp only [Act.put, lq1, lq2, lq3, lq4, lq5, lq6]
            refine wpAnyH_ready (rs := [14]) (by kernel_rfl) (by simp) ?_
            refine AllReadyH.cons (o := _) rfl (fun K hK => ?_) (AllReadyH.nil)
            · go_simp
              refine hK.out _ _ (hHeld.alloc hHeld.size _) (fun hHeld => ?_)
              clear hK K
              try simp only [Act.put, lq1, lq2, lq3, lq4, lq5, lq6]
              refine tk 15 ?_ rfl ?_ hHeld ?_
              rotate_left
              · intro wq hSw
                go_simp
                try with_reducible rfl
              try simp only [Act.put, lq1, lq2, lq3, lq4, lq5, lq6]
              refine tk 16 ?_ rfl ?_ hHeld ?_
              rotate_left
              · intro wq hSw
                go_simp
                try with_reducible rfl
              try simp only [Act.put, lq1, lq2, lq3, lq4, lq5, lq6]
              refine wpAnyH_done (by kernel_rfl) ?_ _
              go_wp2
              go_ret2
              exact ⟨⟨_, rfl⟩, hHeld⟩
        · go_simp
          refine hK.out _ _ (hHeld.alloc hHeld.size _) (fun hHeld => ?_)
          clear hK K
          try simp only [Act.put, lq1, lq2, lq3, lq4, lq5, lq6]
          refine wpAnyH_ready (rs := [8]) (by kernel_rfl) (by simp) ?_
          refine AllReadyH.cons (o := _) rfl (fun K hK => ?_) (AllReadyH.nil)
          · go_simp
            refine hK.out _ _ (hHeld.alloc hHeld.size _) (fun hHeld => ?_)
            clear hK K
            try simp only [Act.put, lq1, lq2, lq3, lq4, lq5, lq6]
            refine tk 13 (.agg #[.pointer (some ⟨dc, 0, none⟩), .int .i64 (n : Int), .int .i64 32, .slice (some ⟨w.heap.size + 4, 0, none⟩) 1 1, .slice (some ⟨w.heap.size + 3, 0, none⟩) n n, .slice (some ⟨w.heap.size + 2, 0, none⟩) 4 4, .int .i64 0, .int .i64 0]) rfl ?_ hHeld ?_
            · intro wq hSw
              first | (go_simp; done) | kernel_rfl
            try simp only [Act.put, lq1, lq2, lq3, lq4, lq5, lq6]
            refine wpAnyH_ready (rs := [14]) (by kernel_rfl) (by simp) ?_
            refine AllReadyH.cons (o := _) rfl (fun K hK => ?_) (AllReadyH.nil)
            · go_simp
              refine hK.out _ _ (hHeld.alloc hHeld.size _) (fun hHeld => ?_)
              clear hK K
              try simp only [Act.put, lq1, lq2, lq3, lq4, lq5, lq6]
              refine tk 15 ?_ rfl ?_ hHeld ?_
              rotate_left
              · intro wq hSw
                go_simp
                try with_reducible rfl
              try simp only [Act.put, lq1, lq2, lq3, lq4, lq5, lq6]
              refine tk 16 ?_ rfl ?_ hHeld ?_
              rotate_left
              · intro wq hSw
                go_simp
                try with_reducible rfl
              try simp only [Act.put, lq1, lq2, lq3, lq4, lq5, lq6]
              refine wpAnyH_done (by kernel_rfl) ?_ _
              go_wp2
              go_ret2
              exact ⟨⟨_, rfl⟩, hHeld⟩
    · go_simp
      refine hK.out _ _ (hHeld.alloc hHeld.size _) (fun hHeld => ?_)
      clear hK K
      try simp only [Act.put, lq1, lq2, lq3, lq4, lq5, lq6]
      refine wpAnyH_ready (rs := [6, 12]) (by kernel_rfl) (by simp) ?_
      refine AllReadyH.cons (o := _) rfl (fun K hK => ?_) (AllReadyH.cons (o := _) rfl (fun K hK => ?_) (AllReadyH.nil))
      · go_simp
        refine hK.out _ _ (hHeld.alloc hHeld.size _) (fun hHeld => ?_)
        clear hK K
        try simp only [Act.put, lq1, lq2, lq3, lq4, lq5, lq6]
        refine tk 7 (.agg #[.slice (some ⟨w.heap.size, 0, none⟩) n n, .slice (some ⟨w.heap.size + 2, 0, none⟩) n n]) rfl ?_ hHeld ?_
        · intro wq hSw
          first | (go_simp; done) | kernel_rfl
        try simp only [Act.put, lq1, lq2, lq3, lq4, lq5, lq6]
        refine wpAnyH_ready (rs := [8, 12]) (by kernel_rfl) (by simp) ?_
        refine AllReadyH.cons (o := _) rfl (fun K hK => ?_) (AllReadyH.cons (o := _) rfl (fun K hK => ?_) (AllReadyH.nil))
        · go_simp
          refine hK.out _ _ (hHeld.alloc hHeld.size _) (fun hHeld => ?_)
          clear hK K
          try simp only [Act.put, lq1, lq2, lq3, lq4, lq5, lq6]
          refine wpAnyH_ready (rs := [12]) (by kernel_rfl) (by simp) ?_
          refine AllReadyH.cons (o := _) rfl (fun K hK => ?_) (AllReadyH.nil)
          · go_simp
            refine hK.out _ _ (hHeld.alloc hHeld.size _) (fun hHeld => ?_)
            clear hK K
            try simp only [Act.put, lq1, lq2, lq3, lq4, lq5, lq6]
            refine tk 13 (.agg #[.pointer (some ⟨dc, 0, none⟩), .int .i64 (n : Int), .int .i64 32, .slice (some ⟨w.heap.size + 3, 0, none⟩) 1 1, .slice (some ⟨w.heap.size + 1, 0, none⟩) n n, .slice (some ⟨w.heap.size + 4, 0, none⟩) 4 4, .int .i64 0, .int .i64 0]) rfl ?_ hHeld ?_
            · intro wq hSw
              first | (go_simp; done) | kernel_rfl
            try simp only [Act.put, lq1, lq2, lq3, lq4, lq5, lq6]
            refine wpAnyH_ready (rs := [14]) (by kernel_rfl) (by simp) ?_
            refine AllReadyH.cons (o := _) rfl (fun K hK => ?_) (AllReadyH.nil)
            · go_simp
              refine hK.out _ _ (hHeld.alloc hHeld.size _) (fun hHeld => ?_)
              clear hK K
              try simp only [Act.put, lq1, lq2, lq3, lq4, lq5, lq6]
              refine tk 15 ?_ rfl ?_ hHeld ?_
              rotate_left
              · intro wq hSw
                go_simp
                try with_reducible rfl
              try simp only [Act.put, lq1, lq2, lq3, lq4, lq5, lq6]
              refine tk 16 ?_ rfl ?_ hHeld ?_
              rotate_left
              · intro wq hSw
                go_simp
                try with_reducible rfl
              try simp only [Act.put, lq1, lq2, lq3, lq4, lq5, lq6]
              refine wpAnyH_done (by kernel_rfl) ?_ _
              go_wp2
              go_ret2
              exact ⟨⟨_, rfl⟩, hHeld⟩
        · go_simp
          refine hK.out _ _ (hHeld.alloc hHeld.size _) (fun hHeld => ?_)
          clear hK K
          try simp only [Act.put, lq1, lq2, lq3, lq4, lq5, lq6]
          refine wpAnyH_ready (rs := [8]) (by kernel_rfl) (by simp) ?_
          refine AllReadyH.cons (o := _) rfl (fun K hK => ?_) (AllReadyH.nil)
          · go_simp
            refine hK.out _ _ (hHeld.alloc hHeld.size _) (fun hHeld => ?_)
            clear hK K
            try simp only [Act.put, lq1, lq2, lq3, lq4, lq5, lq6]
            refine tk 13 (.agg #[.pointer (some ⟨dc, 0, none⟩), .int .i64 (n : Int), .int .i64 32, .slice (some ⟨w.heap.size + 4, 0, none⟩) 1 1, .slice (some ⟨w.heap.size + 1, 0, none⟩) n n, .slice (some ⟨w.heap.size + 3, 0, none⟩) 4 4, .int .i64 0, .int .i64 0]) rfl ?_ hHeld ?_
            · intro wq hSw
              first | (go_simp; done) | kernel_rfl
            try simp only [Act.put, lq1, lq2, lq3, lq4, lq5, lq6]
            refine wpAnyH_ready (rs := [14]) (by kernel_rfl) (by simp) ?_
            refine AllReadyH.cons (o := _) rfl (fun K hK => ?_) (AllReadyH.nil)
            · go_simp
              refine hK.out _ _ (hHeld.alloc hHeld.size _) (fun hHeld => ?_)
              clear hK K
              try simp only [Act.put, lq1, lq2, lq3, lq4, lq5, lq6]
              refine tk 15 ?_ rfl ?_ hHeld ?_
              rotate_left
              · intro wq hSw
                go_simp
                try with_reducible rfl
              try simp only [Act.put, lq1, lq2, lq3, lq4, lq5, lq6]
              refine tk 16 ?_ rfl ?_ hHeld ?_
              rotate_left
              · intro wq hSw
                go_simp
                try with_reducible rfl
              try simp only [Act.put, lq1, lq2, lq3, lq4, lq5, lq6]
              refine wpAnyH_done (by kernel_rfl) ?_ _
              go_wp2
              go_ret2
              exact ⟨⟨_, rfl⟩, hHeld⟩
      · go_simp
        refine hK.out _ _ (hHeld.alloc hHeld.size _) (fun hHeld => ?_)
        clear hK K
        try simp only [Act.put, lq1, lq2, lq3, lq4, lq5, lq6]
        refine wpAnyH_ready (rs := [6]) (by kernel_rfl) (by simp) ?_
        refine AllReadyH.cons (o := _) rfl (fun K hK => ?_) (AllReadyH.nil)
        · go_simp
          refine hK.out _ _ (hHeld.alloc hHeld.size _) (fun hHeld => ?_)
          clear hK K
          try simp only [Act.put, lq1, lq2, lq3, lq4, lq5, lq6]
          refine tk 7 (.agg #[.slice (some ⟨w.heap.size, 0, none⟩) n n, .slice (some ⟨w.heap.size + 3, 0, none⟩) n n]) rfl ?_ hHeld ?_
          · intro wq hSw
            first | (go_simp; done) | kernel_rfl
          try simp only [Act.put, lq1, lq2, lq3, lq4, lq5, lq6]
          refine wpAnyH_ready (rs := [8]) (by kernel_rfl) (by simp) ?_
          refine AllReadyH.cons (o := _) rfl (fun K hK => ?_) (AllReadyH.nil)
          · go_simp
            refine hK.out _ _ (hHeld.alloc hHeld.size _) (fun hHeld => ?_)
            clear hK K
            try simp only [Act.put, lq1, lq2, lq3, lq4, lq5, lq6]
            refine tk 13 (.agg #[.pointer (some ⟨dc, 0, none⟩), .int .i64 (n : Int), .int .i64 32, .slice (some ⟨w.heap.size + 4, 0, none⟩) 1 1, .slice (some ⟨w.heap.size + 1, 0, none⟩) n n, .slice (some ⟨w.heap.size + 2, 0, none⟩) 4 4, .int .i64 0, .int .i64 0]) rfl ?_ hHeld ?_
            · intro wq hSw
              first | (go_simp; done) | kernel_rfl
            try simp only [Act.put, lq1, lq2, lq3, lq4, lq5, lq6]
            refine wpAnyH_ready (rs := [14]) (by kernel_rfl) (by simp) ?_
            refine AllReadyH.cons (o := _) rfl (fun K hK => ?_) (AllReadyH.nil)
            · go_simp
              refine hK.out _ _ (hHeld.alloc hHeld.size _) (fun hHeld => ?_)
              clear hK K
              try simp only [Act.put, lq1, lq2, lq3, lq4, lq5, lq6]
              refine tk 15 ?_ rfl ?_ hHeld ?_
              rotate_left
              · intro wq hSw
                go_simp
                try with_reducible rfl
              try simp only [Act.put, lq1, lq2, lq3, lq4, lq5, lq6]
              refine tk 16 ?_ rfl ?_ hHeld ?_
              rotate_left
              · intro wq hSw
                go_simp
                try with_reducible rfl
              try simp only [Act.put, lq1, lq2, lq3, lq4, lq5, lq6]
              refine wpAnyH_done (by kernel_rfl) ?_ _
              go_wp2
              go_ret2
              exact ⟨⟨_, rfl⟩, hHeld⟩
    · go_simp
      refine hK.out _ _ (hHeld.alloc hHeld.size _) (fun hHeld => ?_)
      clear hK K
      try simp only [Act.put, lq1, lq2, lq3, lq4, lq5, lq6]
      refine wpAnyH_ready (rs := [6, 10]) (by kernel_rfl) (by simp) ?_
      refine AllReadyH.cons (o := _) rfl (fun K hK => ?_) (AllReadyH.cons (o := _) rfl (fun K hK => ?_) (AllReadyH.nil))
      · go_simp
        refine hK.out _ _ (hHeld.alloc hHeld.size _) (fun hHeld => ?_)
        clear hK K
        try simp only [Act.put, lq1, lq2, lq3, lq4, lq5, lq6]
        refine tk 7 (.agg #[.slice (some ⟨w.heap.size, 0, none⟩) n n, .slice (some ⟨w.heap.size + 2, 0, none⟩) n n]) rfl ?_ hHeld ?_
        · intro wq hSw
          first | (go_simp; done) | kernel_rfl
        try simp only [Act.put, lq1, lq2, lq3, lq4, lq5, lq6]
        refine wpAnyH_ready (rs := [8, 10]) (by kernel_rfl) (by simp) ?_
        refine AllReadyH.cons (o := _) rfl (fun K hK => ?_) (AllReadyH.cons (o := _) rfl (fun K hK => ?_) (AllReadyH.nil))
        · go_simp
          refine hK.out _ _ (hHeld.alloc hHeld.size _) (fun hHeld => ?_)
          clear hK K
          try simp only [Act.put, lq1, lq2, lq3, lq4, lq5, lq6]
          refine wpAnyH_ready (rs := [10]) (by kernel_rfl) (by simp) ?_
          refine AllReadyH.cons (o := _) rfl (fun K hK => ?_) (AllReadyH.nil)
          · go_simp
            refine hK.out _ _ (hHeld.alloc hHeld.size _) (fun hHeld => ?_)
            clear hK K
            try simp only [Act.put, lq1, lq2, lq3, lq4, lq5, lq6]
            refine tk 13 (.agg #[.pointer (some ⟨dc, 0, none⟩), .int .i64 (n : Int), .int .i64 32, .slice (some ⟨w.heap.size + 3, 0, none⟩) 1 1, .slice (some ⟨w.heap.size + 4, 0, none⟩) n n, .slice (some ⟨w.heap.size + 1, 0, none⟩) 4 4, .int .i64 0, .int .i64 0]) rfl ?_ hHeld ?_
            · intro wq hSw
              first | (go_simp; done) | kernel_rfl
            try simp only [Act.put, lq1, lq2, lq3, lq4, lq5, lq6]
            refine wpAnyH_ready (rs := [14]) (by kernel_rfl) (by simp) ?_
            refine AllReadyH.cons (o := _) rfl (fun K hK => ?_) (AllReadyH.nil)
            · go_simp
              refine hK.out _ _ (hHeld.alloc hHeld.size _) (fun hHeld => ?_)
              clear hK K
              try simp only [Act.put, lq1, lq2, lq3, lq4, lq5, lq6]
              refine tk 15 ?_ rfl ?_ hHeld ?_
              rotate_left
              · intro wq hSw
                go_simp
                try with_reducible rfl
              try simp only [Act.put, lq1, lq2, lq3, lq4, lq5, lq6]
              refine tk 16 ?_ rfl ?_ hHeld ?_
              rotate_left
              · intro wq hSw
                go_simp
                try with_reducible rfl
              try simp only [Act.put, lq1, lq2, lq3, lq4, lq5, lq6]
              refine wpAnyH_done (by kernel_rfl) ?_ _
              go_wp2
              go_ret2
              exact ⟨⟨_, rfl⟩, hHeld⟩
        · go_simp
          refine hK.out _ _ (hHeld.alloc hHeld.size _) (fun hHeld => ?_)
          clear hK K
          try simp only [Act.put, lq1, lq2, lq3, lq4, lq5, lq6]
          refine wpAnyH_ready (rs := [8]) (by kernel_rfl) (by simp) ?_
          refine AllReadyH.cons (o := _) rfl (fun K hK => ?_) (AllReadyH.nil)
          · go_simp
            refine hK.out _ _ (hHeld.alloc hHeld.size _) (fun hHeld => ?_)
            clear hK K
            try simp only [Act.put, lq1, lq2, lq3, lq4, lq5, lq6]
            refine tk 13 (.agg #[.pointer (some ⟨dc, 0, none⟩), .int .i64 (n : Int), .int .i64 32, .slice (some ⟨w.heap.size + 4, 0, none⟩) 1 1, .slice (some ⟨w.heap.size + 3, 0, none⟩) n n, .slice (some ⟨w.heap.size + 1, 0, none⟩) 4 4, .int .i64 0, .int .i64 0]) rfl ?_ hHeld ?_
            · intro wq hSw
              first | (go_simp; done) | kernel_rfl
            try simp only [Act.put, lq1, lq2, lq3, lq4, lq5, lq6]
            refine wpAnyH_ready (rs := [14]) (by kernel_rfl) (by simp) ?_
            refine AllReadyH.cons (o := _) rfl (fun K hK => ?_) (AllReadyH.nil)
            · go_simp
              refine hK.out _ _ (hHeld.alloc hHeld.size _) (fun hHeld => ?_)
              clear hK K
              try simp only [Act.put, lq1, lq2, lq3, lq4, lq5, lq6]
              refine tk 15 ?_ rfl ?_ hHeld ?_
              rotate_left
              · intro wq hSw
                go_simp
                try with_reducible rfl
              try simp only [Act.put, lq1, lq2, lq3, lq4, lq5, lq6]
              refine tk 16 ?_ rfl ?_ hHeld ?_
              rotate_left
              · intro wq hSw
                go_simp
                try with_reducible rfl
              try simp only [Act.put, lq1, lq2, lq3, lq4, lq5, lq6]
              refine wpAnyH_done (by kernel_rfl) ?_ _
              go_wp2
              go_ret2
              exact ⟨⟨_, rfl⟩, hHeld⟩
      · go_simp
        refine hK.out _ _ (hHeld.alloc hHeld.size _) (fun hHeld => ?_)
        clear hK K
        try simp only [Act.put, lq1, lq2, lq3, lq4, lq5, lq6]
        refine wpAnyH_ready (rs := [6]) (by kernel_rfl) (by simp) ?_
        refine AllReadyH.cons (o := _) rfl (fun K hK => ?_) (AllReadyH.nil)
        · go_simp
          refine hK.out _ _ (hHeld.alloc hHeld.size _) (fun hHeld => ?_)
          clear hK K
          try simp only [Act.put, lq1, lq2, lq3, lq4, lq5, lq6]
          refine tk 7 (.agg #[.slice (some ⟨w.heap.size, 0, none⟩) n n, .slice (some ⟨w.heap.size + 3, 0, none⟩) n n]) rfl ?_ hHeld ?_
          · intro wq hSw
            first | (go_simp; done) | kernel_rfl
          try simp only [Act.put, lq1, lq2, lq3, lq4, lq5, lq6]
          refine wpAnyH_ready (rs := [8]) (by kernel_rfl) (by simp) ?_
          refine AllReadyH.cons (o := _) rfl (fun K hK => ?_) (AllReadyH.nil)
          · go_simp
            refine hK.out _ _ (hHeld.alloc hHeld.size _) (fun hHeld => ?_)
            clear hK K
            try simp only [Act.put, lq1, lq2, lq3, lq4, lq5, lq6]
            refine tk 13 (.agg #[.pointer (some ⟨dc, 0, none⟩), .int .i64 (n : Int), .int .i64 32, .slice (some ⟨w.heap.size + 4, 0, none⟩) 1 1, .slice (some ⟨w.heap.size + 2, 0, none⟩) n n, .slice (some ⟨w.heap.size + 1, 0, none⟩) 4 4, .int .i64 0, .int .i64 0]) rfl ?_ hHeld ?_
            · intro wq hSw
              first | (go_simp; done) | kernel_rfl
            try simp only [Act.put, lq1, lq2, lq3, lq4, lq5, lq6]
            refine wpAnyH_ready (rs := [14]) (by kernel_rfl) (by simp) ?_
            refine AllReadyH.cons (o := _) rfl (fun K hK => ?_) (AllReadyH.nil)
            · go_simp
              refine hK.out _ _ (hHeld.alloc hHeld.size _) (fun hHeld => ?_)
              clear hK K
              try simp only [Act.put, lq1, lq2, lq3, lq4, lq5, lq6]
              refine tk 15 ?_ rfl ?_ hHeld ?_
              rotate_left
              · intro wq hSw
                go_simp
                try with_reducible rfl
              try simp only [Act.put, lq1, lq2, lq3, lq4, lq5, lq6]
              refine tk 16 ?_ rfl ?_ hHeld ?_
              rotate_left
              · intro wq hSw
                go_simp
                try with_reducible rfl
              try simp only [Act.put, lq1, lq2, lq3, lq4, lq5, lq6]
              refine wpAnyH_done (by kernel_rfl) ?_ _
              go_wp2
              go_ret2
              exact ⟨⟨_, rfl⟩, hHeld⟩
  · go_simp
    refine hK.out _ _ (hHeld.alloc hHeld.size _) (fun hHeld => ?_)
    clear hK K
    try simp only [Act.put, lq1, lq2, lq3, lq4, lq5, lq6]
    refine wpAnyH_ready (rs := [4, 10, 12]) (by kernel_rfl) (by simp) ?_
    refine AllReadyH.cons (o := _) rfl (fun K hK => ?_) (AllReadyH.cons (o := _) rfl (fun K hK => ?_) (AllReadyH.cons (o := _) rfl (fun K hK => ?_) (AllReadyH.nil)))
    · go_simp
      refine hK.out _ _ (hHeld.alloc hHeld.size _) (fun hHeld => ?_)
      clear hK K
      try simp only [Act.put, lq1, lq2, lq3, lq4, lq5, lq6]
      refine tk 7 (.agg #[.slice (some ⟨w.heap.size + 1, 0, none⟩) n n, .slice (some ⟨w.heap.size, 0, none⟩) n n]) rfl ?_ hHeld ?_
      · intro wq hSw
        first | (go_simp; done) | kernel_rfl
      try simp only [Act.put, lq1, lq2, lq3, lq4, lq5, lq6]
      refine wpAnyH_ready (rs := [8, 10, 12]) (by kernel_rfl) (by simp) ?_
      refine AllReadyH.cons (o := _) rfl (fun K hK => ?_) (AllReadyH.cons (o := _) rfl (fun K hK => ?_) (AllReadyH.cons (o := _) rfl (fun K hK => ?_) (AllReadyH.nil)))
      · go_simp
        refine hK.out _ _ (hHeld.alloc hHeld.size _) (fun hHeld => ?_)
        clear hK K
        try simp only [Act.put, lq1, lq2, lq3, lq4, lq5, lq6]
        refine wpAnyH_ready (rs := [10, 12]) (by kernel_rfl) (by simp) ?_
        refine AllReadyH.cons (o := _) rfl (fun K hK => ?_) (AllReadyH.cons (o := _) rfl (fun K hK => ?_) (AllReadyH.nil))
        · go_simp
          refine hK.out _ _ (hHeld.alloc hHeld.size _) (fun hHeld => ?_)
          clear hK K
          try simp only [Act.put, lq1, lq2, lq3, lq4, lq5, lq6]
          refine wpAnyH_ready (rs := [12]) (by kernel_rfl) (by simp) ?_
          refine AllReadyH.cons (o := _) rfl (fun K hK => ?_) (AllReadyH.nil)
          · go_simp
            refine hK.out _ _ (hHeld.alloc hHeld.size _) (fun hHeld => ?_)
            clear hK K
            try simp only [Act.put, lq1, lq2, lq3, lq4, lq5, lq6]
            refine tk 13 (.agg #[.pointer (some ⟨dc, 0, none⟩), .int .i64 (n : Int), .int .i64 32, .slice (some ⟨w.heap.size + 2, 0, none⟩) 1 1, .slice (some ⟨w.heap.size + 3, 0, none⟩) n n, .slice (some ⟨w.heap.size + 4, 0, none⟩) 4 4, .int .i64 0, .int .i64 0]) rfl ?_ hHeld ?_
            · intro wq hSw
              first | (go_simp; done) | kernel_rfl
            try simp only [Act.put, lq1, lq2, lq3, lq4, lq5, lq6]
            refine wpAnyH_ready (rs := [14]) (by kernel_rfl) (by simp) ?_
            refine AllReadyH.cons (o := _) rfl (fun K hK => ?_) (AllReadyH.nil)
            · go_simp
              refine hK.out _ _ (hHeld.alloc hHeld.size _) (fun hHeld => ?_)
              clear hK K
              try simp only [Act.put, lq1, lq2, lq3, lq4, lq5, lq6]
              refine tk 15 ?_ rfl ?_ hHeld ?_
              rotate_left
              · intro wq hSw
                go_simp
                try with_reducible rfl
              try simp only [Act.put, lq1, lq2, lq3, lq4, lq5, lq6]
              refine tk 16 ?_ rfl ?_ hHeld ?_
              rotate_left
              · intro wq hSw
                go_simp
                try with_reducible rfl
              try simp only [Act.put, lq1, lq2, lq3, lq4, lq5, lq6]
              refine wpAnyH_done (by kernel_rfl) ?_ _
              go_wp2
              go_ret2
              exact ⟨⟨_, rfl⟩, hHeld⟩
        · go_simp
          refine hK.out _ _ (hHeld.alloc hHeld.size _) (fun hHeld => ?_)
          clear hK K
          try simp only [Act.put, lq1, lq2, lq3, lq4, lq5, lq6]
          refine wpAnyH_ready (rs := [10]) (by kernel_rfl) (by simp) ?_
          refine AllReadyH.cons (o := _) rfl (fun K hK => ?_) (AllReadyH.nil)
          · go_simp
            refine hK.out _ _ (hHeld.alloc hHeld.size _) (fun hHeld => ?_)
            clear hK K
            try simp only [Act.put, lq1, lq2, lq3, lq4, lq5, lq6]
            refine tk 13 (.agg #[.pointer (some ⟨dc, 0, none⟩), .int .i64 (n : Int), .int .i64 32, .slice (some ⟨w.heap.size + 2, 0, none⟩) 1 1, .slice (some ⟨w.heap.size + 4, 0, none⟩) n n, .slice (some ⟨w.heap.size + 3, 0, none⟩) 4 4, .int .i64 0, .int .i64 0]) rfl ?_ hHeld ?_
            · intro wq hSw
              first | (go_simp; done) | kernel_rfl
            try simp only [Act.put, lq1, lq2, lq3, lq4, lq5, lq6]
            refine wpAnyH_ready (rs := [14]) (by kernel_rfl) (by simp) ?_
            refine AllReadyH.cons (o := _) rfl (fun K hK => ?_) (AllReadyH.nil)
            · go_simp
              refine hK.out _ _ (hHeld.alloc hHeld.size _) (fun hHeld => ?_)
              clear hK K
              try simp only [Act.put, lq1, lq2, lq3, lq4, lq5, lq6]
              refine tk 15 ?_ rfl ?_ hHeld ?_
              rotate_left
              · intro wq hSw
                go_simp
                try with_reducible rfl
              try simp only [Act.put, lq1, lq2, lq3, lq4, lq5, lq6]
              refine tk 16 ?_ rfl ?_ hHeld ?_
              rotate_left
              · intro wq hSw
                go_simp
                try with_reducible rfl
              try simp only [Act.put, lq1, lq2, lq3, lq4, lq5, lq6]
              refine wpAnyH_done (by kernel_rfl) ?_ _
              go_wp2
              go_ret2
              exact ⟨⟨_, rfl⟩, hHeld⟩
      · go_simp
        refine hK.out _ _ (hHeld.alloc hHeld.size _) (fun hHeld => ?_)
        clear hK K
        try simp only [Act.put, lq1, lq2, lq3, lq4, lq5, lq6]
        refine wpAnyH_ready (rs := [8, 12]) (by kernel_rfl) (by simp) ?_
        refine AllReadyH.cons (o := _) rfl (fun K hK => ?_) (AllReadyH.cons (o := _) rfl (fun K hK => ?_) (AllReadyH.nil))
        · go_simp
          refine hK.out _ _ (hHeld.alloc hHeld.size _) (fun hHeld => ?_)
          clear hK K
          try simp only [Act.put, lq1, lq2, lq3, lq4, lq5, lq6]
          refine wpAnyH_ready (rs := [12]) (by kernel_rfl) (by simp) ?_
          refine AllReadyH.cons (o := _) rfl (fun K hK => ?_) (AllReadyH.nil)
          · go_simp
            refine hK.out _ _ (hHeld.alloc hHeld.size _) (fun hHeld => ?_)
            clear hK K
            try simp only [Act.put, lq1, lq2, lq3, lq4, lq5, lq6]
            refine tk 13 (.agg #[.pointer (some ⟨dc, 0, none⟩), .int .i64 (n : Int), .int .i64 32, .slice (some ⟨w.heap.size + 3, 0, none⟩) 1 1, .slice (some ⟨w.heap.size + 2, 0, none⟩) n n, .slice (some ⟨w.heap.size + 4, 0, none⟩) 4 4, .int .i64 0, .int .i64 0]) rfl ?_ hHeld ?_
            · intro wq hSw
              first | (go_simp; done) | kernel_rfl
            try simp only [Act.put, lq1, lq2, lq3, lq4, lq5, lq6]
            refine wpAnyH_ready (rs := [14]) (by kernel_rfl) (by simp) ?_
            refine AllReadyH.cons (o := _) rfl (fun K hK => ?_) (AllReadyH.nil)
            · go_simp
              refine hK.out _ _ (hHeld.alloc hHeld.size _) (fun hHeld => ?_)
              clear hK K
              try simp only [Act.put, lq1, lq2, lq3, lq4, lq5, lq6]
              refine tk 15 ?_ rfl ?_ hHeld ?_
              rotate_left
              · intro wq hSw
                go_simp
                try with_reducible rfl
              try simp only [Act.put, lq1, lq2, lq3, lq4, lq5, lq6]
              refine tk 16 ?_ rfl ?_ hHeld ?_
              rotate_left
              · intro wq hSw
                go_simp
                try with_reducible rfl
              try simp only [Act.put, lq1, lq2, lq3, lq4, lq5, lq6]
              refine wpAnyH_done (by kernel_rfl) ?_ _
              go_wp2
              go_ret2
              exact ⟨⟨_, rfl⟩, hHeld⟩
        · go_simp
          refine hK.out _ _ (hHeld.alloc hHeld.size _) (fun hHeld => ?_)
          clear hK K
          try simp only [Act.put, lq1, lq2, lq3, lq4, lq5, lq6]
          refine wpAnyH_ready (rs := [8]) (by kernel_rfl) (by simp) ?_
          refine AllReadyH.cons (o := _) rfl (fun K hK => ?_) (AllReadyH.nil)
          · go_simp
            refine hK.out _ _ (hHeld.alloc hHeld.size _) (fun hHeld => ?_)
            clear hK K
            try simp only [Act.put, lq1, lq2, lq3, lq4, lq5, lq6]
            refine tk 13 (.agg #[.pointer (some ⟨dc, 0, none⟩), .int .i64 (n : Int), .int .i64 32, .slice (some ⟨w.heap.size + 4, 0, none⟩) 1 1, .slice (some ⟨w.heap.size + 2, 0, none⟩) n n, .slice (some ⟨w.heap.size + 3, 0, none⟩) 4 4, .int .i64 0, .int .i64 0]) rfl ?_ hHeld ?_
            · intro wq hSw
              first | (go_simp; done) | kernel_rfl
            try simp only [Act.put, lq1, lq2, lq3, lq4, lq5, lq6]
            refine wpAnyH_ready (rs := [14]) (by kernel_rfl) (by simp) ?_
            refine AllReadyH.cons (o := _) rfl (fun K hK => ?_) (AllReadyH.nil)
            · go_simp
              refine hK.out _ _ (hHeld.alloc hHeld.size _) (fun hHeld => ?_)
              clear hK K
              try simp only [Act.put, lq1, lq2, lq3, lq4, lq5, lq6]
              refine tk 15 ?_ rfl ?_ hHeld ?_
              rotate_left
              · intro wq hSw
                go_simp
                try with_reducible rfl
              try simp only [Act.put, lq1, lq2, lq3, lq4, lq5, lq6]
              refine tk 16 ?_ rfl ?_ hHeld ?_
              rotate_left
              · intro wq hSw
                go_simp
                try with_reducible rfl
              try simp only [Act.put, lq1, lq2, lq3, lq4, lq5, lq6]
              refine wpAnyH_done (by kernel_rfl) ?_ _
              go_wp2
              go_ret2
              exact ⟨⟨_, rfl⟩, hHeld⟩
      · go_simp
        refine hK.out _ _ (hHeld.alloc hHeld.size _) (fun hHeld => ?_)
        clear hK K
        try simp only [Act.put, lq1, lq2, lq3, lq4, lq5, lq6]
        refine wpAnyH_ready (rs := [8, 10]) (by kernel_rfl) (by simp) ?_
        refine AllReadyH.cons (o := _) rfl (fun K hK => ?_) (AllReadyH.cons (o := _) rfl (fun K hK => ?_) (AllReadyH.nil))
        · go_simp
          refine hK.out _ _ (hHeld.alloc hHeld.size _) (fun hHeld => ?_)
          clear hK K
          try simp only [Act.put, lq1, lq2, lq3, lq4, lq5, lq6]
          refine wpAnyH_ready (rs := [10]) (by kernel_rfl) (by simp) ?_
          refine AllReadyH.cons (o := _) rfl (fun K hK => ?_) (AllReadyH.nil)
          · go_simp
            refine hK.out _ _ (hHeld.alloc hHeld.size _) (fun hHeld => ?_)
            clear hK K
            try simp only [Act.put, lq1, lq2, lq3, lq4, lq5, lq6]
            refine tk 13 (.agg #[.pointer (some ⟨dc, 0, none⟩), .int .i64 (n : Int), .int .i64 32, .slice (some ⟨w.heap.size + 3, 0, none⟩) 1 1, .slice (some ⟨w.heap.size + 4, 0, none⟩) n n, .slice (some ⟨w.heap.size + 2, 0, none⟩) 4 4, .int .i64 0, .int .i64 0]) rfl ?_ hHeld ?_
            · intro wq hSw
              first | (go_simp; done) | kernel_rfl
            try simp only [Act.put, lq1, lq2, lq3, lq4, lq5, lq6]
            refine wpAnyH_ready (rs := [14]) (by kernel_rfl) (by simp) ?_
            refine AllReadyH.cons (o := _) rfl (fun K hK => ?_) (AllReadyH.nil)
            · go_simp
              refine hK.out _ _ (hHeld.alloc hHeld.size _) (fun hHeld => ?_)
              clear hK K
              try simp only [Act.put, lq1, lq2, lq3, lq4, lq5, lq6]
              refine tk 15 ?_ rfl ?_ hHeld ?_
              rotate_left
              · intro wq hSw
                go_simp
                try with_reducible rfl
              try simp only [Act.put, lq1, lq2, lq3, lq4, lq5, lq6]
              refine tk 16 ?_ rfl ?_ hHeld ?_
              rotate_left
              · intro wq hSw
                go_simp
                try with_reducible rfl
              try simp only [Act.put, lq1, lq2, lq3, lq4, lq5, lq6]
              refine wpAnyH_done (by kernel_rfl) ?_ _
              go_wp2
              go_ret2
              exact ⟨⟨_, rfl⟩, hHeld⟩
        · go_simp
          refine hK.out _ _ (hHeld.alloc hHeld.size _) (fun hHeld => ?_)
          clear hK K
          try simp only [Act.put, lq1, lq2, lq3, lq4, lq5, lq6]
          refine wpAnyH_ready (rs := [8]) (by kernel_rfl) (by simp) ?_
          refine AllReadyH.cons (o := _) rfl (fun K hK => ?_) (AllReadyH.nil)
          · go_simp
            refine hK.out _ _ (hHeld.alloc hHeld.size _) (fun hHeld => ?_)
            clear hK K
            try simp only [Act.put, lq1, lq2, lq3, lq4, lq5, lq6]
            refine tk 13 (.agg #[.pointer (some ⟨dc, 0, none⟩), .int .i64 (n : Int), .int .i64 32, .slice (some ⟨w.heap.size + 4, 0, none⟩) 1 1, .slice (some ⟨w.heap.size + 3, 0, none⟩) n n, .slice (some ⟨w.heap.size + 2, 0, none⟩) 4 4, .int .i64 0, .int .i64 0]) rfl ?_ hHeld ?_
            · intro wq hSw
              first | (go_simp; done) | kernel_rfl
            try simp only [Act.put, lq1, lq2, lq3, lq4, lq5, lq6]
            refine wpAnyH_ready (rs := [14]) (by kernel_rfl) (by simp) ?_
            refine AllReadyH.cons (o := _) rfl (fun K hK => ?_) (AllReadyH.nil)
            · go_simp
              refine hK.out _ _ (hHeld.alloc hHeld.size _) (fun hHeld => ?_)
              clear hK K
              try simp only [Act.put, lq1, lq2, lq3, lq4, lq5, lq6]
              refine tk 15 ?_ rfl ?_ hHeld ?_
              rotate_left
              · intro wq hSw
                go_simp
                try with_reducible rfl
              try simp only [Act.put, lq1, lq2, lq3, lq4, lq5, lq6]
              refine tk 16 ?_ rfl ?_ hHeld ?_
              rotate_left
              · intro wq hSw
                go_simp
                try with_reducible rfl
              try simp only [Act.put, lq1, lq2, lq3, lq4, lq5, lq6]
              refine wpAnyH_done (by kernel_rfl) ?_ _
              go_wp2
              go_ret2
              exact ⟨⟨_, rfl⟩, hHeld⟩
    · go_simp
      refine hK.out _ _ (hHeld.alloc hHeld.size _) (fun hHeld => ?_)
      clear hK K
      try simp only [Act.put, lq1, lq2, lq3, lq4, lq5, lq6]
      refine wpAnyH_ready (rs := [4, 12]) (by kernel_rfl) (by simp) ?_
      refine AllReadyH.cons (o := _) rfl (fun K hK => ?_) (AllReadyH.cons (o := _) rfl (fun K hK => ?_) (AllReadyH.nil))
      · go_simp
        refine hK.out _ _ (hHeld.alloc hHeld.size _) (fun hHeld => ?_)
        clear hK K
        try simp only [Act.put, lq1, lq2, lq3, lq4, lq5, lq6]
        refine tk 7 (.agg #[.slice (some ⟨w.heap.size + 2, 0, none⟩) n n, .slice (some ⟨w.heap.size, 0, none⟩) n n]) rfl ?_ hHeld ?_
        · intro wq hSw
          first | (go_simp; done) | kernel_rfl
        try simp only [Act.put, lq1, lq2, lq3, lq4, lq5, lq6]
        refine wpAnyH_ready (rs := [8, 12]) (by kernel_rfl) (by simp) ?_
        refine AllReadyH.cons (o := _) rfl (fun K hK => ?_) (AllReadyH.cons (o := _) rfl (fun K hK => ?_) (AllReadyH.nil))
        · go_simp
          refine hK.out _ _ (hHeld.alloc hHeld.size _) (fun hHeld => ?_)
          clear hK K
          try simp only [Act.put, lq1, lq2, lq3, lq4, lq5, lq6]
          refine wpAnyH_ready (rs := [12]) (by kernel_rfl) (by simp) ?_
          refine AllReadyH.cons (o := _) rfl (fun K hK => ?_) (AllReadyH.nil)
          · go_simp
            refine hK.out _ _ (hHeld.alloc hHeld.size _) (fun hHeld => ?_)
            clear hK K
            try simp only [Act.put, lq1, lq2, lq3, lq4, lq5, lq6]
            refine tk 13 (.agg #[.pointer (some ⟨dc, 0, none⟩), .int .i64 (n : Int), .int .i64 32, .slice (some ⟨w.heap.size + 3, 0, none⟩) 1 1, .slice (some ⟨w.heap.size + 1, 0, none⟩) n n, .slice (some ⟨w.heap.size + 4, 0, none⟩) 4 4, .int .i64 0, .int .i64 0]) rfl ?_ hHeld ?_
            · intro wq hSw
              first | (go_simp; done) | kernel_rfl
            try simp only [Act.put, lq1, lq2, lq3, lq4, lq5, lq6]
            refine wpAnyH_ready (rs := [14]) (by kernel_rfl) (by simp) ?_
            refine AllReadyH.cons (o := _) rfl (fun K hK => ?_) (AllReadyH.nil)
            · go_simp
              refine hK.out _ _ (hHeld.alloc hHeld.size _) (fun hHeld => ?_)
              clear hK K
              try simp only [Act.put, lq1, lq2, lq3, lq4, lq5, lq6]
              refine tk 15 ?_ rfl ?_ hHeld ?_
              rotate_left
              · intro wq hSw
                go_simp
                try with_reducible rfl
              try simp only [Act.put, lq1, lq2, lq3, lq4, lq5, lq6]
              refine tk 16 ?_ rfl ?_ hHeld ?_
              rotate_left
              · intro wq hSw
                go_simp
                try with_reducible rfl
              try simp only [Act.put, lq1, lq2, lq3, lq4, lq5, lq6]
              refine wpAnyH_done (by kernel_rfl) ?_ _
              go_wp2
              go_ret2
              exact ⟨⟨_, rfl⟩, hHeld⟩
        · go_simp
          refine hK.out _ _ (hHeld.alloc hHeld.size _) (fun hHeld => ?_)
          clear hK K
          try simp only [Act.put, lq1, lq2, lq3, lq4, lq5, lq6]
          refine wpAnyH_ready (rs := [8]) (by kernel_rfl) (by simp) ?_
          refine AllReadyH.cons (o := _) rfl (fun K hK => ?_) (AllReadyH.nil)
          · go_simp
            refine hK.out _ _ (hHeld.alloc hHeld.size _) (fun hHeld => ?_)
            clear hK K
            try simp only [Act.put, lq1, lq2, lq3, lq4, lq5, lq6]
            refine tk 13 (.agg #[.pointer (some ⟨dc, 0, none⟩), .int .i64 (n : Int), .int .i64 32, .slice (some ⟨w.heap.size + 4, 0, none⟩) 1 1, .slice (some ⟨w.heap.size + 1, 0, none⟩) n n, .slice (some ⟨w.heap.size + 3, 0, none⟩) 4 4, .int .i64 0, .int .i64 0]) rfl ?_ hHeld ?_
            · intro wq hSw
              first | (go_simp; done) | kernel_rfl
            try simp only [Act.put, lq1, lq2, lq3, lq4, lq5, lq6]
            refine wpAnyH_ready (rs := [14]) (by kernel_rfl) (by simp) ?_
            refine AllReadyH.cons (o := _) rfl (fun K hK => ?_) (AllReadyH.nil)
            · go_simp
              refine hK.out _ _ (hHeld.alloc hHeld.size _) (fun hHeld => ?_)
              clear hK K
              try simp only [Act.put, lq1, lq2, lq3, lq4, lq5, lq6]
              refine tk 15 ?_ rfl ?_ hHeld ?_
              rotate_left
              · intro wq hSw
                go_simp
                try with_reducible rfl
              try simp only [Act.put, lq1, lq2, lq3, lq4, lq5, lq6]
              refine tk 16 ?_ rfl ?_ hHeld ?_
              rotate_left
              · intro wq hSw
                go_simp
                try with_reducible rfl
              try simp only [Act.put, lq1, lq2, lq3, lq4, lq5, lq6]
              refine wpAnyH_done (by kernel_rfl) ?_ _
              go_wp2
              go_ret2
              exact ⟨⟨_, rfl⟩, hHeld⟩
      · go_simp
        refine hK.out _ _ (hHeld.alloc hHeld.size _) (fun hHeld => ?_)
        clear hK K
        try simp only [Act.put, lq1, lq2, lq3, lq4, lq5, lq6]
        refine wpAnyH_ready (rs := [4]) (by kernel_rfl) (by simp) ?_
        refine AllReadyH.cons (o := _) rfl (fun K hK => ?_) (AllReadyH.nil)
        · go_simp
          refine hK.out _ _ (hHeld.alloc hHeld.size _) (fun hHeld => ?_)
          clear hK K
          try simp only [Act.put, lq1, lq2, lq3, lq4, lq5, lq6]
          refine tk 7 (.agg #[.slice (some ⟨w.heap.size + 3, 0, none⟩) n n, .slice (some ⟨w.heap.size, 0, none⟩) n n]) rfl ?_ hHeld ?_
          · intro wq hSw
            first | (go_simp; done) | kernel_rfl
          try simp only [Act.put, lq1, lq2, lq3, lq4, lq5, lq6]
          refine wpAnyH_ready (rs := [8]) (by kernel_rfl) (by simp) ?_
          refine AllReadyH.cons (o := _) rfl (fun K hK => ?_) (AllReadyH.nil)
          · go_simp
            refine hK.out _ _ (hHeld.alloc hHeld.size _) (fun hHeld => ?_)
            clear hK K
            try simp only [Act.put, lq1, lq2, lq3, lq4, lq5, lq6]
            refine tk 13 (.agg #[.pointer (some ⟨dc, 0, none⟩), .int .i64 (n : Int), .int .i64 32, .slice (some ⟨w.heap.size + 4, 0, none⟩) 1 1, .slice (some ⟨w.heap.size + 1, 0, none⟩) n n, .slice (some ⟨w.heap.size + 2, 0, none⟩) 4 4, .int .i64 0, .int .i64 0]) rfl ?_ hHeld ?_
            · intro wq hSw
              first | (go_simp; done) | kernel_rfl
            try simp only [Act.put, lq1, lq2, lq3, lq4, lq5, lq6]
            refine wpAnyH_ready (rs := [14]) (by kernel_rfl) (by simp) ?_
            refine AllReadyH.cons (o := _) rfl (fun K hK => ?_) (AllReadyH.nil)
            · go_simp
              refine hK.out _ _ (hHeld.alloc hHeld.size _) (fun hHeld => ?_)
              clear hK K
              try simp only [Act.put, lq1, lq2, lq3, lq4, lq5, lq6]
              refine tk 15 ?_ rfl ?_ hHeld ?_
              rotate_left
              · intro wq hSw
                go_simp
                try with_reducible rfl
              try simp only [Act.put, lq1, lq2, lq3, lq4, lq5, lq6]
              refine tk 16 ?_ rfl ?_ hHeld ?_
              rotate_left
              · intro wq hSw
                go_simp
                try with_reducible rfl
              try simp only [Act.put, lq1, lq2, lq3, lq4, lq5, lq6]
              refine wpAnyH_done (by kernel_rfl) ?_ _
              go_wp2
              go_ret2
              exact ⟨⟨_, rfl⟩, hHeld⟩
    · go_simp
      refine hK.out _ _ (hHeld.alloc hHeld.size _) (fun hHeld => ?_)
      clear hK K
      try simp only [Act.put, lq1, lq2, lq3, lq4, lq5, lq6]
      refine wpAnyH_ready (rs := [4, 10]) (by kernel_rfl) (by simp) ?_
      refine AllReadyH.cons (o := _) rfl (fun K hK => ?_) (AllReadyH.cons (o := _) rfl (fun K hK => ?_) (AllReadyH.nil))
      · go_simp
        refine hK.out _ _ (hHeld.alloc hHeld.size _) (fun hHeld => ?_)
        clear hK K
        try simp only [Act.put, lq1, lq2, lq3, lq4, lq5, lq6]
        refine tk 7 (.agg #[.slice (some ⟨w.heap.size + 2, 0, none⟩) n n, .slice (some ⟨w.heap.size, 0, none⟩) n n]) rfl ?_ hHeld ?_
        · intro wq hSw
          first | (go_simp; done) | kernel_rfl
        try simp only [Act.put, lq1, lq2, lq3, lq4, lq5, lq6]
        refine wpAnyH_ready (rs := [8, 10]) (by kernel_rfl) (by simp) ?_
        refine AllReadyH.cons (o := _) rfl (fun K hK => ?_) (AllReadyH.cons (o := _) rfl (fun K hK => ?_) (AllReadyH.nil))
        · go_simp
          refine hK.out _ _ (hHeld.alloc hHeld.size _) (fun hHeld => ?_)
          clear hK K
          try simp only [Act.put, lq1, lq2, lq3, lq4, lq5, lq6]
          refine wpAnyH_ready (rs := [10]) (by kernel_rfl) (by simp) ?_
          refine AllReadyH.cons (o := _) rfl (fun K hK => ?_) (AllReadyH.nil)
          · go_simp
            refine hK.out _ _ (hHeld.alloc hHeld.size _) (fun hHeld => ?_)
            clear hK K
            try simp only [Act.put, lq1, lq2, lq3, lq4, lq5, lq6]
            refine tk 13 (.agg #[.pointer (some ⟨dc, 0, none⟩), .int .i64 (n : Int), .int .i64 32, .slice (some ⟨w.heap.size + 3, 0, none⟩) 1 1, .slice (some ⟨w.heap.size + 4, 0, none⟩) n n, .slice (some ⟨w.heap.size + 1, 0, none⟩) 4 4, .int .i64 0, .int .i64 0]) rfl ?_ hHeld ?_
            · intro wq hSw
              first | (go_simp; done) | kernel_rfl
            try simp only [Act.put, lq1, lq2, lq3, lq4, lq5, lq6]
            refine wpAnyH_ready (rs := [14]) (by kernel_rfl) (by simp) ?_
            refine AllReadyH.cons (o := _) rfl (fun K hK => ?_) (AllReadyH.nil)
            · go_simp
              refine hK.out _ _ (hHeld.alloc hHeld.size _) (fun hHeld => ?_)
              clear hK K
              try simp only [Act.put, lq1, lq2, lq3, lq4, lq5, lq6]
              refine tk 15 ?_ rfl ?_ hHeld ?_
              rotate_left
              · intro wq hSw
                go_simp
                try with_reducible rfl
              try simp only [Act.put, lq1, lq2, lq3, lq4, lq5, lq6]
              refine tk 16 ?_ rfl ?_ hHeld ?_
              rotate_left
              · intro wq hSw
                go_simp
                try with_reducible rfl
              try simp only [Act.put, lq1, lq2, lq3, lq4, lq5, lq6]
              refine wpAnyH_done (by kernel_rfl) ?_ _
              go_wp2
              go_ret2
              exact ⟨⟨_, rfl⟩, hHeld⟩
        · go_simp
          refine hK.out _ _ (hHeld.alloc hHeld.size _) (fun hHeld => ?_)
          clear hK K
          try simp only [Act.put, lq1, lq2, lq3, lq4, lq5, lq6]
          refine wpAnyH_ready (rs := [8]) (by kernel_rfl) (by simp) ?_
          refine AllReadyH.cons (o := _) rfl (fun K hK => ?_) (AllReadyH.nil)
          · go_simp
            refine hK.out _ _ (hHeld.alloc hHeld.size _) (fun hHeld => ?_)
            clear hK K
            try simp only [Act.put, lq1, lq2, lq3, lq4, lq5, lq6]
            refine tk 13 (.agg #[.pointer (some ⟨dc, 0, none⟩), .int .i64 (n : Int), .int .i64 32, .slice (some ⟨w.heap.size + 4, 0, none⟩) 1 1, .slice (some ⟨w.heap.size + 3, 0, none⟩) n n, .slice (some ⟨w.heap.size + 1, 0, none⟩) 4 4, .int .i64 0, .int .i64 0]) rfl ?_ hHeld ?_
            · intro wq hSw
              first | (go_simp; done) | kernel_rfl
            try simp only [Act.put, lq1, lq2, lq3, lq4, lq5, lq6]
            refine wpAnyH_ready (rs := [14]) (by kernel_rfl) (by simp) ?_
            refine AllReadyH.cons (o := _) rfl (fun K hK => ?_) (AllReadyH.nil)
            · go_simp
              refine hK.out _ _ (hHeld.alloc hHeld.size _) (fun hHeld => ?_)
              clear hK K
              try simp only [Act.put, lq1, lq2, lq3, lq4, lq5, lq6]
              refine tk 15 ?_ rfl ?_ hHeld ?_
              rotate_left
              · intro wq hSw
                go_simp
                try with_reducible rfl
              try simp only [Act.put, lq1, lq2, lq3, lq4, lq5, lq6]
              refine tk 16 ?_ rfl ?_ hHeld ?_
              rotate_left
              · intro wq hSw
                go_simp
                try with_reducible rfl
              try simp only [Act.put, lq1, lq2, lq3, lq4, lq5, lq6]
              refine wpAnyH_done (by kernel_rfl) ?_ _
              go_wp2
              go_ret2
              exact ⟨⟨_, rfl⟩, hHeld⟩
      · go_simp
        refine hK.out _ _ (hHeld.alloc hHeld.size _) (fun hHeld => ?_)
        clear hK K
        try simp only [Act.put, lq1, lq2, lq3, lq4, lq5, lq6]
        refine wpAnyH_ready (rs := [4]) (by kernel_rfl) (by simp) ?_
        refine AllReadyH.cons (o := _) rfl (fun K hK => ?_) (AllReadyH.nil)
        · go_simp
          refine hK.out _ _ (hHeld.alloc hHeld.size _) (fun hHeld => ?_)
          clear hK K
          try simp only [Act.put, lq1, lq2, lq3, lq4, lq5, lq6]
          refine tk 7 (.agg #[.slice (some ⟨w.heap.size + 3, 0, none⟩) n n, .slice (some ⟨w.heap.size, 0, none⟩) n n]) rfl ?_ hHeld ?_
          · intro wq hSw
            first | (go_simp; done) | kernel_rfl
          try simp only [Act.put, lq1, lq2, lq3, lq4, lq5, lq6]
          refine wpAnyH_ready (rs := [8]) (by kernel_rfl) (by simp) ?_
          refine AllReadyH.cons (o := _) rfl (fun K hK => ?_) (AllReadyH.nil)
          · go_simp
            refine hK.out _ _ (hHeld.alloc hHeld.size _) (fun hHeld => ?_)
            clear hK K
            try simp only [Act.put, lq1, lq2, lq3, lq4, lq5, lq6]
            refine tk 13 (.agg #[.pointer (some ⟨dc, 0, none⟩), .int .i64 (n : Int), .int .i64 32, .slice (some ⟨w.heap.size + 4, 0, none⟩) 1 1, .slice (some ⟨w.heap.size + 2, 0, none⟩) n n, .slice (some ⟨w.heap.size + 1, 0, none⟩) 4 4, .int .i64 0, .int .i64 0]) rfl ?_ hHeld ?_
            · intro wq hSw
              first | (go_simp; done) | kernel_rfl
            try simp only [Act.put, lq1, lq2, lq3, lq4, lq5, lq6]
            refine wpAnyH_ready (rs := [14]) (by kernel_rfl) (by simp) ?_
            refine AllReadyH.cons (o := _) rfl (fun K hK => ?_) (AllReadyH.nil)
            · go_simp
              refine hK.out _ _ (hHeld.alloc hHeld.size _) (fun hHeld => ?_)
              clear hK K
              try simp only [Act.put, lq1, lq2, lq3, lq4, lq5, lq6]
              refine tk 15 ?_ rfl ?_ hHeld ?_
              rotate_left
              · intro wq hSw
                go_simp
                try with_reducible rfl
              try simp only [Act.put, lq1, lq2, lq3, lq4, lq5, lq6]
              refine tk 16 ?_ rfl ?_ hHeld ?_
              rotate_left
              · intro wq hSw
                go_simp
                try with_reducible rfl
              try simp only [Act.put, lq1, lq2, lq3, lq4, lq5, lq6]
              refine wpAnyH_done (by kernel_rfl) ?_ _
              go_wp2
              go_ret2
              exact ⟨⟨_, rfl⟩, hHeld⟩
  · go_simp
    refine hK.out _ _ (hHeld.alloc hHeld.size _) (fun hHeld => ?_)
    clear hK K
    try simp only [Act.put, lq1, lq2, lq3, lq4, lq5, lq6]
    refine wpAnyH_ready (rs := [4, 6, 12]) (by kernel_rfl) (by simp) ?_
    refine AllReadyH.cons (o := _) rfl (fun K hK => ?_) (AllReadyH.cons (o := _) rfl (fun K hK => ?_) (AllReadyH.cons (o := _) rfl (fun K hK => ?_) (AllReadyH.nil)))
    · go_simp
      refine hK.out _ _ (hHeld.alloc hHeld.size _) (fun hHeld => ?_)
      clear hK K
      try simp only [Act.put, lq1, lq2, lq3, lq4, lq5, lq6]
      refine wpAnyH_ready (rs := [6, 12]) (by kernel_rfl) (by simp) ?_
      refine AllReadyH.cons (o := _) rfl (fun K hK => ?_) (AllReadyH.cons (o := _) rfl (fun K hK => ?_) (AllReadyH.nil))
      · go_simp
        refine hK.out _ _ (hHeld.alloc hHeld.size _) (fun hHeld => ?_)
        clear hK K
        try simp only [Act.put, lq1, lq2, lq3, lq4, lq5, lq6]
        refine tk 7 (.agg #[.slice (some ⟨w.heap.size + 1, 0, none⟩) n n, .slice (some ⟨w.heap.size + 2, 0, none⟩) n n]) rfl ?_ hHeld ?_
        · intro wq hSw
          first | (go_simp; done) | kernel_rfl
        try simp only [Act.put, lq1, lq2, lq3, lq4, lq5, lq6]
        refine wpAnyH_ready (rs := [8, 12]) (by kernel_rfl) (by simp) ?_
        refine AllReadyH.cons (o := _) rfl (fun K hK => ?_) (AllReadyH.cons (o := _) rfl (fun K hK => ?_) (AllReadyH.nil))
        · go_simp
          refine hK.out _ _ (hHeld.alloc hHeld.size _) (fun hHeld => ?_)
          clear hK K
          try simp only [Act.put, lq1, lq2, lq3, lq4, lq5, lq6]
          refine wpAnyH_ready (rs := [12]) (by kernel_rfl) (by simp) ?_
          refine AllReadyH.cons (o := _) rfl (fun K hK => ?_) (AllReadyH.nil)
          · go_simp
            refine hK.out _ _ (hHeld.alloc hHeld.size _) (fun hHeld => ?_)
            clear hK K
            try simp only [Act.put, lq1, lq2, lq3, lq4, lq5, lq6]
            refine tk 13 (.agg #[.pointer (some ⟨dc, 0, none⟩), .int .i64 (n : Int), .int .i64 32, .slice (some ⟨w.heap.size + 3, 0, none⟩) 1 1, .slice (some ⟨w.heap.size, 0, none⟩) n n, .slice (some ⟨w.heap.size + 4, 0, none⟩) 4 4, .int .i64 0, .int .i64 0]) rfl ?_ hHeld ?_
            · intro wq hSw
              first | (go_simp; done) | kernel_rfl
            try simp only [Act.put, lq1, lq2, lq3, lq4, lq5, lq6]
            refine wpAnyH_ready (rs := [14]) (by kernel_rfl) (by simp) ?_
            refine AllReadyH.cons (o := _) rfl (fun K hK => ?_) (AllReadyH.nil)
            · go_simp
              refine hK.out _ _ (hHeld.alloc hHeld.size _) (fun hHeld => ?_)
              clear hK K
              try simp only [Act.put, lq1, lq2, lq3, lq4, lq5, lq6]
              refine tk 15 ?_ rfl ?_ hHeld ?_
              rotate_left
              · intro wq hSw
                go_simp
                try with_reducible rfl
              try simp only [Act.put, lq1, lq2, lq3, lq4, lq5, lq6]
              refine tk 16 ?_ rfl ?_ hHeld ?_
              rotate_left
              · intro wq hSw
                go_simp
                try with_reducible rfl
              try simp only [Act.put, lq1, lq2, lq3, lq4, lq5, lq6]
              refine wpAnyH_done (by kernel_rfl) ?_ _
              go_wp2
              go_ret2
              exact ⟨⟨_, rfl⟩, hHeld⟩
        · go_simp
          refine hK.out _ _ (hHeld.alloc hHeld.size _) (fun hHeld => ?_)
          clear hK K
          try simp only [Act.put, lq1, lq2, lq3, lq4, lq5, lq6]
          refine wpAnyH_ready (rs := [8]) (by kernel_rfl) (by simp) ?_
          refine AllReadyH.cons (o := _) rfl (fun K hK => ?_) (AllReadyH.nil)
          · go_simp
            refine hK.out _ _ (hHeld.alloc hHeld.size _) (fun hHeld => ?_)
            clear hK K
            try simp only [Act.put, lq1, lq2, lq3, lq4, lq5, lq6]
            refine tk 13 (.agg #[.pointer (some ⟨dc, 0, none⟩), .int .i64 (n : Int), .int .i64 32, .slice (some ⟨w.heap.size + 4, 0, none⟩) 1 1, .slice (some ⟨w.heap.size, 0, none⟩) n n, .slice (some ⟨w.heap.size + 3, 0, none⟩) 4 4, .int .i64 0, .int .i64 0]) rfl ?_ hHeld ?_
            · intro wq hSw
              first | (go_simp; done) | kernel_rfl
            try simp only [Act.put, lq1, lq2, lq3, lq4, lq5, lq6]
            refine wpAnyH_ready (rs := [14]) (by kernel_rfl) (by simp) ?_
            refine AllReadyH.cons (o := _) rfl (fun K hK => ?_) (AllReadyH.nil)
            · go_simp
              refine hK.out _ _ (hHeld.alloc hHeld.size _) (fun hHeld => ?_)
              clear hK K
              try simp only [Act.put, lq1, lq2, lq3, lq4, lq5, lq6]
              refine tk 15 ?_ rfl ?_ hHeld ?_
              rotate_left
              · intro wq hSw
                go_simp
                try with_reducible rfl
              try simp only [Act.put, lq1, lq2, lq3, lq4, lq5, lq6]
              refine tk 16 ?_ rfl ?_ hHeld ?_
              rotate_left
              · intro wq hSw
                go_simp
                try with_reducible rfl
              try simp only [Act.put, lq1, lq2, lq3, lq4, lq5, lq6]
              refine wpAnyH_done (by kernel_rfl) ?_ _
              go_wp2
              go_ret2
              exact ⟨⟨_, rfl⟩, hHeld⟩
      · go_simp
        refine hK.out _ _ (hHeld.alloc hHeld.size _) (fun hHeld => ?_)
        clear hK K
        try simp only [Act.put, lq1, lq2, lq3, lq4, lq5, lq6]
        refine wpAnyH_ready (rs := [6]) (by kernel_rfl) (by simp) ?_
        refine AllReadyH.cons (o := _) rfl (fun K hK => ?_) (AllReadyH.nil)
        · go_simp
          refine hK.out _ _ (hHeld.alloc hHeld.size _) (fun hHeld => ?_)
          clear hK K
          try simp only [Act.put, lq1, lq2, lq3, lq4, lq5, lq6]
          refine tk 7 (.agg #[.slice (some ⟨w.heap.size + 1, 0, none⟩) n n, .slice (some ⟨w.heap.size + 3, 0, none⟩) n n]) rfl ?_ hHeld ?_
          · intro wq hSw
            first | (go_simp; done) | kernel_rfl
          try simp only [Act.put, lq1, lq2, lq3, lq4, lq5, lq6]
          refine wpAnyH_ready (rs := [8]) (by kernel_rfl) (by simp) ?_
          refine AllReadyH.cons (o := _) rfl (fun K hK => ?_) (AllReadyH.nil)
          · go_simp
            refine hK.out _ _ (hHeld.alloc hHeld.size _) (fun hHeld => ?_)
            clear hK K
            try simp only [Act.put, lq1, lq2, lq3, lq4, lq5, lq6]
            refine tk 13 (.agg #[.pointer (some ⟨dc, 0, none⟩), .int .i64 (n : Int), .int .i64 32, .slice (some ⟨w.heap.size + 4, 0, none⟩) 1 1, .slice (some ⟨w.heap.size, 0, none⟩) n n, .slice (some ⟨w.heap.size + 2, 0, none⟩) 4 4, .int .i64 0, .int .i64 0]) rfl ?_ hHeld ?_
            · intro wq hSw
              first | (go_simp; done) | kernel_rfl
            try simp only [Act.put, lq1, lq2, lq3, lq4, lq5, lq6]
            refine wpAnyH_ready (rs := [14]) (by kernel_rfl) (by simp) ?_
            refine AllReadyH.cons (o := _) rfl (fun K hK => ?_) (AllReadyH.nil)
            · go_simp
              refine hK.out _ _ (hHeld.alloc hHeld.size _) (fun hHeld => ?_)
              clear hK K
              try simp only [Act.put, lq1, lq2, lq3, lq4, lq5, lq6]
              refine tk 15 ?_ rfl ?_ hHeld ?_
              rotate_left
              · intro wq hSw
                go_simp
                try with_reducible rfl
              try simp only [Act.put, lq1, lq2, lq3, lq4, lq5, lq6]
              refine tk 16 ?_ rfl ?_ hHeld ?_
              rotate_left
              · intro wq hSw
                go_simp
                try with_reducible rfl
              try simp only [Act.put, lq1, lq2, lq3, lq4, lq5, lq6]
              refine wpAnyH_done (by kernel_rfl) ?_ _
              go_wp2
              go_ret2
              exact ⟨⟨_, rfl⟩, hHeld⟩
    · go_simp
      refine hK.out _ _ (hHeld.alloc hHeld.size _) (fun hHeld => ?_)
      clear hK K
      try simp only [Act.put, lq1, lq2, lq3, lq4, lq5, lq6]
      refine wpAnyH_ready (rs := [4, 12]) (by kernel_rfl) (by simp) ?_
      refine AllReadyH.cons (o := _) rfl (fun K hK => ?_) (AllReadyH.cons (o := _) rfl (fun K hK => ?_) (AllReadyH.nil))
      · go_simp
        refine hK.out _ _ (hHeld.alloc hHeld.size _) (fun hHeld => ?_)
        clear hK K
        try simp only [Act.put, lq1, lq2, lq3, lq4, lq5, lq6]
        refine tk 7 (.agg #[.slice (some ⟨w.heap.size + 2, 0, none⟩) n n, .slice (some ⟨w.heap.size + 1, 0, none⟩) n n]) rfl ?_ hHeld ?_
        · intro wq hSw
          first | (go_simp; done) | kernel_rfl
        try simp only [Act.put, lq1, lq2, lq3, lq4, lq5, lq6]
        refine wpAnyH_ready (rs := [8, 12]) (by kernel_rfl) (by simp) ?_
        refine AllReadyH.cons (o := _) rfl (fun K hK => ?_) (AllReadyH.cons (o := _) rfl (fun K hK => ?_) (AllReadyH.nil))
        · go_simp
          refine hK.out _ _ (hHeld.alloc hHeld.size _) (fun hHeld => ?_)
          clear hK K
          try simp only [Act.put, lq1, lq2, lq3, lq4, lq5, lq6]
          refine wpAnyH_ready (rs := [12]) (by kernel_rfl) (by simp) ?_
          refine AllReadyH.cons (o := _) rfl (fun K hK => ?_) (AllReadyH.nil)
          · go_simp
            refine hK.out _ _ (hHeld.alloc hHeld.size _) (fun hHeld => ?_)
            clear hK K
            try simp only [Act.put, lq1, lq2, lq3, lq4, lq5, lq6]
            refine tk 13 (.agg #[.pointer (some ⟨dc, 0, none⟩), .int .i64 (n : Int), .int .i64 32, .slice (some ⟨w.heap.size + 3, 0, none⟩) 1 1, .slice (some ⟨w.heap.size, 0, none⟩) n n, .slice (some ⟨w.heap.size + 4, 0, none⟩) 4 4, .int .i64 0, .int .i64 0]) rfl ?_ hHeld ?_
            · intro wq hSw
              first | (go_simp; done) | kernel_rfl
            try simp only [Act.put, lq1, lq2, lq3, lq4, lq5, lq6]
            refine wpAnyH_ready (rs := [14]) (by kernel_rfl) (by simp) ?_
            refine AllReadyH.cons (o := _) rfl (fun K hK => ?_) (AllReadyH.nil)
            · go_simp
              refine hK.out _ _ (hHeld.alloc hHeld.size _) (fun hHeld => ?_)
              clear hK K
              try simp only [Act.put, lq1, lq2, lq3, lq4, lq5, lq6]
              refine tk 15 ?_ rfl ?_ hHeld ?_
              rotate_left
              · intro wq hSw
                go_simp
                try with_reducible rfl
              try simp only [Act.put, lq1, lq2, lq3, lq4, lq5, lq6]
              refine tk 16 ?_ rfl ?_ hHeld ?_
              rotate_left
              · intro wq hSw
                go_simp
                try with_reducible rfl
              try simp only [Act.put, lq1, lq2, lq3, lq4, lq5, lq6]
              refine wpAnyH_done (by kernel_rfl) ?_ _
              go_wp2
              go_ret2
              exact ⟨⟨_, rfl⟩, hHeld⟩
        · go_simp
          refine hK.out _ _ (hHeld.alloc hHeld.size _) (fun hHeld => ?_)
          clear hK K
          try simp only [Act.put, lq1, lq2, lq3, lq4, lq5, lq6]
          refine wpAnyH_ready (rs := [8]) (by kernel_rfl) (by simp) ?_
          refine AllReadyH.cons (o := _) rfl (fun K hK => ?_) (AllReadyH.nil)
          · go_simp
            refine hK.out _ _ (hHeld.alloc hHeld.size _) (fun hHeld => ?_)
            clear hK K
            try simp only [Act.put, lq1, lq2, lq3, lq4, lq5, lq6]
            refine tk 13 (.agg #[.pointer (some ⟨dc, 0, none⟩), .int .i64 (n : Int), .int .i64 32, .slice (some ⟨w.heap.size + 4, 0, none⟩) 1 1, .slice (some ⟨w.heap.size, 0, none⟩) n n, .slice (some ⟨w.heap.size + 3, 0, none⟩) 4 4, .int .i64 0, .int .i64 0]) rfl ?_ hHeld ?_
            · intro wq hSw
              first | (go_simp; done) | kernel_rfl
            try simp only [Act.put, lq1, lq2, lq3, lq4, lq5, lq6]
            refine wpAnyH_ready (rs := [14]) (by kernel_rfl) (by simp) ?_
            refine AllReadyH.cons (o := _) rfl (fun K hK => ?_) (AllReadyH.nil)
            · go_simp
              refine hK.out _ _ (hHeld.alloc hHeld.size _) (fun hHeld => ?_)
              clear hK K
              try simp only [Act.put, lq1, lq2, lq3, lq4, lq5, lq6]
              refine tk 15 ?_ rfl ?_ hHeld ?_
              rotate_left
              · intro wq hSw
                go_simp
                try with_reducible rfl
              try simp only [Act.put, lq1, lq2, lq3, lq4, lq5, lq6]
              refine tk 16 ?_ rfl ?_ hHeld ?_
              rotate_left
              · intro wq hSw
                go_simp
                try with_reducible rfl
              try simp only [Act.put, lq1, lq2, lq3, lq4, lq5, lq6]
              refine wpAnyH_done (by kernel_rfl) ?_ _
              go_wp2
              go_ret2
              exact ⟨⟨_, rfl⟩, hHeld⟩
      · go_simp
        refine hK.out _ _ (hHeld.alloc hHeld.size _) (fun hHeld => ?_)
        clear hK K
        try simp only [Act.put, lq1, lq2, lq3, lq4, lq5, lq6]
        refine wpAnyH_ready (rs := [4]) (by kernel_rfl) (by simp) ?_
        refine AllReadyH.cons (o := _) rfl (fun K hK => ?_) (AllReadyH.nil)
        · go_simp
          refine hK.out _ _ (hHeld.alloc hHeld.size _) (fun hHeld => ?_)
          clear hK K
          try simp only [Act.put, lq1, lq2, lq3, lq4, lq5, lq6]
          refine tk 7 (.agg #[.slice (some ⟨w.heap.size + 3, 0, none⟩) n n, .slice (some ⟨w.heap.size + 1, 0, none⟩) n n]) rfl ?_ hHeld ?_
          · intro wq hSw
            first | (go_simp; done) | kernel_rfl
          try simp only [Act.put, lq1, lq2, lq3, lq4, lq5, lq6]
          refine wpAnyH_ready (rs := [8]) (by kernel_rfl) (by simp) ?_
          refine AllReadyH.cons (o := _) rfl (fun K hK => ?_) (AllReadyH.nil)
          · go_simp
            refine hK.out _ _ (hHeld.alloc hHeld.size _) (fun hHeld => ?_)
            clear hK K
            try simp only [Act.put, lq1, lq2, lq3, lq4, lq5, lq6]
            refine tk 13 (.agg #[.pointer (some ⟨dc, 0, none⟩), .int .i64 (n : Int), .int .i64 32, .slice (some ⟨w.heap.size + 4, 0, none⟩) 1 1, .slice (some ⟨w.heap.size, 0, none⟩) n n, .slice (some ⟨w.heap.size + 2, 0, none⟩) 4 4, .int .i64 0, .int .i64 0]) rfl ?_ hHeld ?_
            · intro wq hSw
              first | (go_simp; done) | kernel_rfl
            try simp only [Act.put, lq1, lq2, lq3, lq4, lq5, lq6]
            refine wpAnyH_ready (rs := [14]) (by kernel_rfl) (by simp) ?_
            refine AllReadyH.cons (o := _) rfl (fun K hK => ?_) (AllReadyH.nil)
            · go_simp
              refine hK.out _ _ (hHeld.alloc hHeld.size _) (fun hHeld => ?_)
              clear hK K
              try simp only [Act.put, lq1, lq2, lq3, lq4, lq5, lq6]
              refine tk 15 ?_ rfl ?_ hHeld ?_
              rotate_left
              · intro wq hSw
                go_simp
                try with_reducible rfl
              try simp only [Act.put, lq1, lq2, lq3, lq4, lq5, lq6]
              refine tk 16 ?_ rfl ?_ hHeld ?_
              rotate_left
              · intro wq hSw
                go_simp
                try with_reducible rfl
              try simp only [Act.put, lq1, lq2, lq3, lq4, lq5, lq6]
              refine wpAnyH_done (by kernel_rfl) ?_ _
              go_wp2
              go_ret2
              exact ⟨⟨_, rfl⟩, hHeld⟩
    · go_simp
      refine hK.out _ _ (hHeld.alloc hHeld.size _) (fun hHeld => ?_)
      clear hK K
      try simp only [Act.put, lq1, lq2, lq3, lq4, lq5, lq6]
      refine wpAnyH_ready (rs := [4, 6]) (by kernel_rfl) (by simp) ?_
      refine AllReadyH.cons (o := _) rfl (fun K hK => ?_) (AllReadyH.cons (o := _) rfl (fun K hK => ?_) (AllReadyH.nil))
      · go_simp
        refine hK.out _ _ (hHeld.alloc hHeld.size _) (fun hHeld => ?_)
        clear hK K
        try simp only [Act.put, lq1, lq2, lq3, lq4, lq5, lq6]
        refine wpAnyH_ready (rs := [6]) (by kernel_rfl) (by simp) ?_
        refine AllReadyH.cons (o := _) rfl (fun K hK => ?_) (AllReadyH.nil)
        · go_simp
          refine hK.out _ _ (hHeld.alloc hHeld.size _) (fun hHeld => ?_)
          clear hK K
          try simp only [Act.put, lq1, lq2, lq3, lq4, lq5, lq6]
          refine tk 7 (.agg #[.slice (some ⟨w.heap.size + 2, 0, none⟩) n n, .slice (some ⟨w.heap.size + 3, 0, none⟩) n n]) rfl ?_ hHeld ?_
          · intro wq hSw
            first | (go_simp; done) | kernel_rfl
          try simp only [Act.put, lq1, lq2, lq3, lq4, lq5, lq6]
          refine wpAnyH_ready (rs := [8]) (by kernel_rfl) (by simp) ?_
          refine AllReadyH.cons (o := _) rfl (fun K hK => ?_) (AllReadyH.nil)
          · go_simp
            refine hK.out _ _ (hHeld.alloc hHeld.size _) (fun hHeld => ?_)
            clear hK K
            try simp only [Act.put, lq1, lq2, lq3, lq4, lq5, lq6]
            refine tk 13 (.agg #[.pointer (some ⟨dc, 0, none⟩), .int .i64 (n : Int), .int .i64 32, .slice (some ⟨w.heap.size + 4, 0, none⟩) 1 1, .slice (some ⟨w.heap.size, 0, none⟩) n n, .slice (some ⟨w.heap.size + 1, 0, none⟩) 4 4, .int .i64 0, .int .i64 0]) rfl ?_ hHeld ?_
            · intro wq hSw
              first | (go_simp; done) | kernel_rfl
            try simp only [Act.put, lq1, lq2, lq3, lq4, lq5, lq6]
            refine wpAnyH_ready (rs := [14]) (by kernel_rfl) (by simp) ?_
            refine AllReadyH.cons (o := _) rfl (fun K hK => ?_) (AllReadyH.nil)
            · go_simp
              refine hK.out _ _ (hHeld.alloc hHeld.size _) (fun hHeld => ?_)
              clear hK K
              try simp only [Act.put, lq1, lq2, lq3, lq4, lq5, lq6]
              refine tk 15 ?_ rfl ?_ hHeld ?_
              rotate_left
              · intro wq hSw
                go_simp
                try with_reducible rfl
              try simp only [Act.put, lq1, lq2, lq3, lq4, lq5, lq6]
              refine tk 16 ?_ rfl ?_ hHeld ?_
              rotate_left
              · intro wq hSw
                go_simp
                try with_reducible rfl
              try simp only [Act.put, lq1, lq2, lq3, lq4, lq5, lq6]
              refine wpAnyH_done (by kernel_rfl) ?_ _
              go_wp2
              go_ret2
              exact ⟨⟨_, rfl⟩, hHeld⟩
      · go_simp
        refine hK.out _ _ (hHeld.alloc hHeld.size _) (fun hHeld => ?_)
        clear hK K
        try simp only [Act.put, lq1, lq2, lq3, lq4, lq5, lq6]
        refine wpAnyH_ready (rs := [4]) (by kernel_rfl) (by simp) ?_
        refine AllReadyH.cons (o := _) rfl (fun K hK => ?_) (AllReadyH.nil)
        · go_simp
          refine hK.out _ _ (hHeld.alloc hHeld.size _) (fun hHeld => ?_)
          clear hK K
          try simp only [Act.put, lq1, lq2, lq3, lq4, lq5, lq6]
          refine tk 7 (.agg #[.slice (some ⟨w.heap.size + 3, 0, none⟩) n n, .slice (some ⟨w.heap.size + 2, 0, none⟩) n n]) rfl ?_ hHeld ?_
          · intro wq hSw
            first | (go_simp; done) | kernel_rfl
          try simp only [Act.put, lq1, lq2, lq3, lq4, lq5, lq6]
          refine wpAnyH_ready (rs := [8]) (by kernel_rfl) (by simp) ?_
          refine AllReadyH.cons (o := _) rfl (fun K hK => ?_) (AllReadyH.nil)
          · go_simp
            refine hK.out _ _ (hHeld.alloc hHeld.size _) (fun hHeld => ?_)
            clear hK K
            try simp only [Act.put, lq1, lq2, lq3, lq4, lq5, lq6]
            refine tk 13 (.agg #[.pointer (some ⟨dc, 0, none⟩), .int .i64 (n : Int), .int .i64 32, .slice (some ⟨w.heap.size + 4, 0, none⟩) 1 1, .slice (some ⟨w.heap.size, 0, none⟩) n n, .slice (some ⟨w.heap.size + 1, 0, none⟩) 4 4, .int .i64 0, .int .i64 0]) rfl ?_ hHeld ?_
            · intro wq hSw
              first | (go_simp; done) | kernel_rfl
            try simp only [Act.put, lq1, lq2, lq3, lq4, lq5, lq6]
            refine wpAnyH_ready (rs := [14]) (by kernel_rfl) (by simp) ?_
            refine AllReadyH.cons (o := _) rfl (fun K hK => ?_) (AllReadyH.nil)
            · go_simp
              refine hK.out _ _ (hHeld.alloc hHeld.size _) (fun hHeld => ?_)
              clear hK K
              try simp only [Act.put, lq1, lq2, lq3, lq4, lq5, lq6]
              refine tk 15 ?_ rfl ?_ hHeld ?_
              rotate_left
              · intro wq hSw
                go_simp
                try with_reducible rfl
              try simp only [Act.put, lq1, lq2, lq3, lq4, lq5, lq6]
              refine tk 16 ?_ rfl ?_ hHeld ?_
              rotate_left
              · intro wq hSw
                go_simp
                try with_reducible rfl
              try simp only [Act.put, lq1, lq2, lq3, lq4, lq5, lq6]
              refine wpAnyH_done (by kernel_rfl) ?_ _
              go_wp2
              go_ret2
              exact ⟨⟨_, rfl⟩, hHeld⟩
  · go_simp
    refine hK.out _ _ (hHeld.alloc hHeld.size _) (fun hHeld => ?_)
    clear hK K
    try simp only [Act.put, lq1, lq2, lq3, lq4, lq5, lq6]
    refine wpAnyH_ready (rs := [4, 6, 10]) (by kernel_rfl) (by simp) ?_
    refine AllReadyH.cons (o := _) rfl (fun K hK => ?_) (AllReadyH.cons (o := _) rfl (fun K hK => ?_) (AllReadyH.cons (o := _) rfl (fun K hK => ?_) (AllReadyH.nil)))
    · go_simp
      refine hK.out _ _ (hHeld.alloc hHeld.size _) (fun hHeld => ?_)
      clear hK K
      try simp only [Act.put, lq1, lq2, lq3, lq4, lq5, lq6]
      refine wpAnyH_ready (rs := [6, 10]) (by kernel_rfl) (by simp) ?_
      refine AllReadyH.cons (o := _) rfl (fun K hK => ?_) (AllReadyH.cons (o := _) rfl (fun K hK => ?_) (AllReadyH.nil))
      · go_simp
        refine hK.out _ _ (hHeld.alloc hHeld.size _) (fun hHeld => ?_)
        clear hK K
        try simp only [Act.put, lq1, lq2, lq3, lq4, lq5, lq6]
        refine tk 7 (.agg #[.slice (some ⟨w.heap.size + 1, 0, none⟩) n n, .slice (some ⟨w.heap.size + 2, 0, none⟩) n n]) rfl ?_ hHeld ?_
        · intro wq hSw
          first | (go_simp; done) | kernel_rfl
        try simp only [Act.put, lq1, lq2, lq3, lq4, lq5, lq6]
        refine wpAnyH_ready (rs := [8, 10]) (by kernel_rfl) (by simp) ?_
        refine AllReadyH.cons (o := _) rfl (fun K hK => ?_) (AllReadyH.cons (o := _) rfl (fun K hK => ?_) (AllReadyH.nil))
        · go_simp
          refine hK.out _ _ (hHeld.alloc hHeld.size _) (fun hHeld => ?_)
          clear hK K
          try simp only [Act.put, lq1, lq2, lq3, lq4, lq5, lq6]
          refine wpAnyH_ready (rs := [10]) (by kernel_rfl) (by simp) ?_
          refine AllReadyH.cons (o := _) rfl (fun K hK => ?_) (AllReadyH.nil)
          · go_simp
            refine hK.out _ _ (hHeld.alloc hHeld.size _) (fun hHeld => ?_)
            clear hK K
            try simp only [Act.put, lq1, lq2, lq3, lq4, lq5, lq6]
            refine tk 13 (.agg #[.pointer (some ⟨dc, 0, none⟩), .int .i64 (n : Int), .int .i64 32, .slice (some ⟨w.heap.size + 3, 0, none⟩) 1 1, .slice (some ⟨w.heap.size + 4, 0, none⟩) n n, .slice (some ⟨w.heap.size, 0, none⟩) 4 4, .int .i64 0, .int .i64 0]) rfl ?_ hHeld ?_
            · intro wq hSw
              first | (go_simp; done) | kernel_rfl
            try simp only [Act.put, lq1, lq2, lq3, lq4, lq5, lq6]
            refine wpAnyH_ready (rs := [14]) (by kernel_rfl) (by simp) ?_
            refine AllReadyH.cons (o := _) rfl (fun K hK => ?_) (AllReadyH.nil)
            · go_simp
              refine hK.out _ _ (hHeld.alloc hHeld.size _) (fun hHeld => ?_)
              clear hK K
              try simp only [Act.put, lq1, lq2, lq3, lq4, lq5, lq6]
              refine tk 15 ?_ rfl ?_ hHeld ?_
              rotate_left
              · intro wq hSw
                go_simp
                try with_reducible rfl
              try simp only [Act.put, lq1, lq2, lq3, lq4, lq5, lq6]
              refine tk 16 ?_ rfl ?_ hHeld ?_
              rotate_left
              · intro wq hSw
                go_simp
                try with_reducible rfl
              try simp only [Act.put, lq1, lq2, lq3, lq4, lq5, lq6]
              refine wpAnyH_done (by kernel_rfl) ?_ _
              go_wp2
              go_ret2
              exact ⟨⟨_, rfl⟩, hHeld⟩
        · go_simp
          refine hK.out _ _ (hHeld.alloc hHeld.size _) (fun hHeld => ?_)
          clear hK K
          try simp only [Act.put, lq1, lq2, lq3, lq4, lq5, lq6]
          refine wpAnyH_ready (rs := [8]) (by kernel_rfl) (by simp) ?_
          refine AllReadyH.cons (o := _) rfl (fun K hK => ?_) (AllReadyH.nil)
          · go_simp
            refine hK.out _ _ (hHeld.alloc hHeld.size _) (fun hHeld => ?_)
            clear hK K
            try simp only [Act.put, lq1, lq2, lq3, lq4, lq5, lq6]
            refine tk 13 (.agg #[.pointer (some ⟨dc, 0, none⟩), .int .i64 (n : Int), .int .i64 32, .slice (some ⟨w.heap.size + 4, 0, none⟩) 1 1, .slice (some ⟨w.heap.size + 3, 0, none⟩) n n, .slice (some ⟨w.heap.size, 0, none⟩) 4 4, .int .i64 0, .int .i64 0]) rfl ?_ hHeld ?_
            · intro wq hSw
              first | (go_simp; done) | kernel_rfl
            try simp only [Act.put, lq1, lq2, lq3, lq4, lq5, lq6]
            refine wpAnyH_ready (rs := [14]) (by kernel_rfl) (by simp) ?_
            refine AllReadyH.cons (o := _) rfl (fun K hK => ?_) (AllReadyH.nil)
            · go_simp
              refine hK.out _ _ (hHeld.alloc hHeld.size _) (fun hHeld => ?_)
              clear hK K
              try simp only [Act.put, lq1, lq2, lq3, lq4, lq5, lq6]
              refine tk 15 ?_ rfl ?_ hHeld ?_
              rotate_left
              · intro wq hSw
                go_simp
                try with_reducible rfl
              try simp only [Act.put, lq1, lq2, lq3, lq4, lq5, lq6]
              refine tk 16 ?_ rfl ?_ hHeld ?_
              rotate_left
              · intro wq hSw
                go_simp
                try with_reducible rfl
              try simp only [Act.put, lq1, lq2, lq3, lq4, lq5, lq6]
              refine wpAnyH_done (by kernel_rfl) ?_ _
              go_wp2
              go_ret2
              exact ⟨⟨_, rfl⟩, hHeld⟩
      · go_simp
        refine hK.out _ _ (hHeld.alloc hHeld.size _) (fun hHeld => ?_)
        clear hK K
        try simp only [Act.put, lq1, lq2, lq3, lq4, lq5, lq6]
        refine wpAnyH_ready (rs := [6]) (by kernel_rfl) (by simp) ?_
        refine AllReadyH.cons (o := _) rfl (fun K hK => ?_) (AllReadyH.nil)
        · go_simp
          refine hK.out _ _ (hHeld.alloc hHeld.size _) (fun hHeld => ?_)
          clear hK K
          try simp only [Act.put, lq1, lq2, lq3, lq4, lq5, lq6]
          refine tk 7 (.agg #[.slice (some ⟨w.heap.size + 1, 0, none⟩) n n, .slice (some ⟨w.heap.size + 3, 0, none⟩) n n]) rfl ?_ hHeld ?_
          · intro wq hSw
            first | (go_simp; done) | kernel_rfl
          try simp only [Act.put, lq1, lq2, lq3, lq4, lq5, lq6]
          refine wpAnyH_ready (rs := [8]) (by kernel_rfl) (by simp) ?_
          refine AllReadyH.cons (o := _) rfl (fun K hK => ?_) (AllReadyH.nil)
          · go_simp
            refine hK.out _ _ (hHeld.alloc hHeld.size _) (fun hHeld => ?_)
            clear hK K
            try simp only [Act.put, lq1, lq2, lq3, lq4, lq5, lq6]
            refine tk 13 (.agg #[.pointer (some ⟨dc, 0, none⟩), .int .i64 (n : Int), .int .i64 32, .slice (some ⟨w.heap.size + 4, 0, none⟩) 1 1, .slice (some ⟨w.heap.size + 2, 0, none⟩) n n, .slice (some ⟨w.heap.size, 0, none⟩) 4 4, .int .i64 0, .int .i64 0]) rfl ?_ hHeld ?_
            · intro wq hSw
              first | (go_simp; done) | kernel_rfl
            try simp only [Act.put, lq1, lq2, lq3, lq4, lq5, lq6]
            refine wpAnyH_ready (rs := [14]) (by kernel_rfl) (by simp) ?_
            refine AllReadyH.cons (o := _) rfl (fun K hK => ?_) (AllReadyH.nil)
            · go_simp
              refine hK.out _ _ (hHeld.alloc hHeld.size _) (fun hHeld => ?_)
              clear hK K
              try simp only [Act.put, lq1, lq2, lq3, lq4, lq5, lq6]
              refine tk 15 ?_ rfl ?_ hHeld ?_
              rotate_left
              · intro wq hSw
                go_simp
                try with_reducible rfl
              try simp only [Act.put, lq1, lq2, lq3, lq4, lq5, lq6]
              refine tk 16 ?_ rfl ?_ hHeld ?_
              rotate_left
              · intro wq hSw
                go_simp
                try with_reducible rfl
              try simp only [Act.put, lq1, lq2, lq3, lq4, lq5, lq6]
              refine wpAnyH_done (by kernel_rfl) ?_ _
              go_wp2
              go_ret2
              exact ⟨⟨_, rfl⟩, hHeld⟩
    · go_simp
      refine hK.out _ _ (hHeld.alloc hHeld.size _) (fun hHeld => ?_)
      clear hK K
      try simp only [Act.put, lq1, lq2, lq3, lq4, lq5, lq6]
      refine wpAnyH_ready (rs := [4, 10]) (by kernel_rfl) (by simp) ?_
      refine AllReadyH.cons (o := _) rfl (fun K hK => ?_) (AllReadyH.cons (o := _) rfl (fun K hK => ?_) (AllReadyH.nil))
      · go_simp
        refine hK.out _ _ (hHeld.alloc hHeld.size _) (fun hHeld => ?_)
        clear hK K
        try simp only [Act.put, lq1, lq2, lq3, lq4, lq5, lq6]
        refine tk 7 (.agg #[.slice (some ⟨w.heap.size + 2, 0, none⟩) n n, .slice (some ⟨w.heap.size + 1, 0, none⟩) n n]) rfl ?_ hHeld ?_
        · intro wq hSw
          first | (go_simp; done) | kernel_rfl
        try simp only [Act.put, lq1, lq2, lq3, lq4, lq5, lq6]
        refine wpAnyH_ready (rs := [8, 10]) (by kernel_rfl) (by simp) ?_
        refine AllReadyH.cons (o := _) rfl (fun K hK => ?_) (AllReadyH.cons (o := _) rfl (fun K hK => ?_) (AllReadyH.nil))
        · go_simp
          refine hK.out _ _ (hHeld.alloc hHeld.size _) (fun hHeld => ?_)
          clear hK K
          try simp only [Act.put, lq1, lq2, lq3, lq4, lq5, lq6]
          refine wpAnyH_ready (rs := [10]) (by kernel_rfl) (by simp) ?_
          refine AllReadyH.cons (o := _) rfl (fun K hK => ?_) (AllReadyH.nil)
          · go_simp
            refine hK.out _ _ (hHeld.alloc hHeld.size _) (fun hHeld => ?_)
            clear hK K
            try simp only [Act.put, lq1, lq2, lq3, lq4, lq5, lq6]
            refine tk 13 (.agg #[.pointer (some ⟨dc, 0, none⟩), .int .i64 (n : Int), .int .i64 32, .slice (some ⟨w.heap.size + 3, 0, none⟩) 1 1, .slice (some ⟨w.heap.size + 4, 0, none⟩) n n, .slice (some ⟨w.heap.size, 0, none⟩) 4 4, .int .i64 0, .int .i64 0]) rfl ?_ hHeld ?_
            · intro wq hSw
              first | (go_simp; done) | kernel_rfl
            try simp only [Act.put, lq1, lq2, lq3, lq4, lq5, lq6]
            refine wpAnyH_ready (rs := [14]) (by kernel_rfl) (by simp) ?_
            refine AllReadyH.cons (o := _) rfl (fun K hK => ?_) (AllReadyH.nil)
            · go_simp
              refine hK.out _ _ (hHeld.alloc hHeld.size _) (fun hHeld => ?_)
              clear hK K
              try simp only [Act.put, lq1, lq2, lq3, lq4, lq5, lq6]
              refine tk 15 ?_ rfl ?_ hHeld ?_
              rotate_left
              · intro wq hSw
                go_simp
                try with_reducible rfl
              try simp only [Act.put, lq1, lq2, lq3, lq4, lq5, lq6]
              refine tk 16 ?_ rfl ?_ hHeld ?_
              rotate_left
              · intro wq hSw
                go_simp
                try with_reducible rfl
              try simp only [Act.put, lq1, lq2, lq3, lq4, lq5, lq6]
              refine wpAnyH_done (by kernel_rfl) ?_ _
              go_wp2
              go_ret2
              exact ⟨⟨_, rfl⟩, hHeld⟩
        · go_simp
          refine hK.out _ _ (hHeld.alloc hHeld.size _) (fun hHeld => ?_)
          clear hK K
          try simp only [Act.put, lq1, lq2, lq3, lq4, lq5, lq6]
          refine wpAnyH_ready (rs := [8]) (by kernel_rfl) (by simp) ?_
          refine AllReadyH.cons (o := _) rfl (fun K hK => ?_) (AllReadyH.nil)
          · go_simp
            refine hK.out _ _ (hHeld.alloc hHeld.size _) (fun hHeld => ?_)
            clear hK K
            try simp only [Act.put, lq1, lq2, lq3, lq4, lq5, lq6]
            refine tk 13 (.agg #[.pointer (some ⟨dc, 0, none⟩), .int .i64 (n : Int), .int .i64 32, .slice (some ⟨w.heap.size + 4, 0, none⟩) 1 1, .slice (some ⟨w.heap.size + 3, 0, none⟩) n n, .slice (some ⟨w.heap.size, 0, none⟩) 4 4, .int .i64 0, .int .i64 0]) rfl ?_ hHeld ?_
            · intro wq hSw
              first | (go_simp; done) | kernel_rfl
            try simp only [Act.put, lq1, lq2, lq3, lq4, lq5, lq6]
            refine wpAnyH_ready (rs := [14]) (by kernel_rfl) (by simp) ?_
            refine AllReadyH.cons (o := _) rfl (fun K hK => ?_) (AllReadyH.nil)
            · go_simp
              refine hK.out _ _ (hHeld.alloc hHeld.size _) (fun hHeld => ?_)
              clear hK K
              try simp only [Act.put, lq1, lq2, lq3, lq4, lq5, lq6]
              refine tk 15 ?_ rfl ?_ hHeld ?_
              rotate_left
              · intro wq hSw
                go_simp
                try with_reducible rfl
              try simp only [Act.put, lq1, lq2, lq3, lq4, lq5, lq6]
              refine tk 16 ?_ rfl ?_ hHeld ?_
              rotate_left
              · intro wq hSw
                go_simp
                try with_reducible rfl
              try simp only [Act.put, lq1, lq2, lq3, lq4, lq5, lq6]
              refine wpAnyH_done (by kernel_rfl) ?_ _
              go_wp2
              go_ret2
              exact ⟨⟨_, rfl⟩, hHeld⟩
      · go_simp
        refine hK.out _ _ (hHeld.alloc hHeld.size _) (fun hHeld => ?_)
        clear hK K
        try simp only [Act.put, lq1, lq2, lq3, lq4, lq5, lq6]
        refine wpAnyH_ready (rs := [4]) (by kernel_rfl) (by simp) ?_
        refine AllReadyH.cons (o := _) rfl (fun K hK => ?_) (AllReadyH.nil)
        · go_simp
          refine hK.out _ _ (hHeld.alloc hHeld.size _) (fun hHeld => ?_)
          clear hK K
          try simp only [Act.put, lq1, lq2, lq3, lq4, lq5, lq6]
          refine tk 7 (.agg #[.slice (some ⟨w.heap.size + 3, 0, none⟩) n n, .slice (some ⟨w.heap.size + 1, 0, none⟩) n n]) rfl ?_ hHeld ?_
          · intro wq hSw
            first | (go_simp; done) | kernel_rfl
          try simp only [Act.put, lq1, lq2, lq3, lq4, lq5, lq6]
          refine wpAnyH_ready (rs := [8]) (by kernel_rfl) (by simp) ?_
          refine AllReadyH.cons (o := _) rfl (fun K hK => ?_) (AllReadyH.nil)
          · go_simp
            refine hK.out _ _ (hHeld.alloc hHeld.size _) (fun hHeld => ?_)
            clear hK K
            try simp only [Act.put, lq1, lq2, lq3, lq4, lq5, lq6]
            refine tk 13 (.agg #[.pointer (some ⟨dc, 0, none⟩), .int .i64 (n : Int), .int .i64 32, .slice (some ⟨w.heap.size + 4, 0, none⟩) 1 1, .slice (some ⟨w.heap.size + 2, 0, none⟩) n n, .slice (some ⟨w.heap.size, 0, none⟩) 4 4, .int .i64 0, .int .i64 0]) rfl ?_ hHeld ?_
            · intro wq hSw
              first | (go_simp; done) | kernel_rfl
            try simp only [Act.put, lq1, lq2, lq3, lq4, lq5, lq6]
            refine wpAnyH_ready (rs := [14]) (by kernel_rfl) (by simp) ?_
            refine AllReadyH.cons (o := _) rfl (fun K hK => ?_) (AllReadyH.nil)
            · go_simp
              refine hK.out _ _ (hHeld.alloc hHeld.size _) (fun hHeld => ?_)
              clear hK K
              try simp only [Act.put, lq1, lq2, lq3, lq4, lq5, lq6]
              refine tk 15 ?_ rfl ?_ hHeld ?_
              rotate_left
              · intro wq hSw
                go_simp
                try with_reducible rfl
              try simp only [Act.put, lq1, lq2, lq3, lq4, lq5, lq6]
              refine tk 16 ?_ rfl ?_ hHeld ?_
              rotate_left
              · intro wq hSw
                go_simp
                try with_reducible rfl
              try simp only [Act.put, lq1, lq2, lq3, lq4, lq5, lq6]
              refine wpAnyH_done (by kernel_rfl) ?_ _
              go_wp2
              go_ret2
              exact ⟨⟨_, rfl⟩, hHeld⟩
    · go_simp
      refine hK.out _ _ (hHeld.alloc hHeld.size _) (fun hHeld => ?_)
      clear hK K
      try simp only [Act.put, lq1, lq2, lq3, lq4, lq5, lq6]
      refine wpAnyH_ready (rs := [4, 6]) (by kernel_rfl) (by simp) ?_
      refine AllReadyH.cons (o := _) rfl (fun K hK => ?_) (AllReadyH.cons (o := _) rfl (fun K hK => ?_) (AllReadyH.nil))
      · go_simp
        refine hK.out _ _ (hHeld.alloc hHeld.size _) (fun hHeld => ?_)
        clear hK K
        try simp only [Act.put, lq1, lq2, lq3, lq4, lq5, lq6]
        refine wpAnyH_ready (rs := [6]) (by kernel_rfl) (by simp) ?_
        refine AllReadyH.cons (o := _) rfl (fun K hK => ?_) (AllReadyH.nil)
        · go_simp
          refine hK.out _ _ (hHeld.alloc hHeld.size _) (fun hHeld => ?_)
          clear hK K
          try simp only [Act.put, lq1, lq2, lq3, lq4, lq5, lq6]
          refine tk 7 (.agg #[.slice (some ⟨w.heap.size + 2, 0, none⟩) n n, .slice (some ⟨w.heap.size + 3, 0, none⟩) n n]) rfl ?_ hHeld ?_
          · intro wq hSw
            first | (go_simp; done) | kernel_rfl
          try simp only [Act.put, lq1, lq2, lq3, lq4, lq5, lq6]
          refine wpAnyH_ready (rs := [8]) (by kernel_rfl) (by simp) ?_
          refine AllReadyH.cons (o := _) rfl (fun K hK => ?_) (AllReadyH.nil)
          · go_simp
            refine hK.out _ _ (hHeld.alloc hHeld.size _) (fun hHeld => ?_)
            clear hK K
            try simp only [Act.put, lq1, lq2, lq3, lq4, lq5, lq6]
            refine tk 13 (.agg #[.pointer (some ⟨dc, 0, none⟩), .int .i64 (n : Int), .int .i64 32, .slice (some ⟨w.heap.size + 4, 0, none⟩) 1 1, .slice (some ⟨w.heap.size + 1, 0, none⟩) n n, .slice (some ⟨w.heap.size, 0, none⟩) 4 4, .int .i64 0, .int .i64 0]) rfl ?_ hHeld ?_
            · intro wq hSw
              first | (go_simp; done) | kernel_rfl
            try simp only [Act.put, lq1, lq2, lq3, lq4, lq5, lq6]
            refine wpAnyH_ready (rs := [14]) (by kernel_rfl) (by simp) ?_
            refine AllReadyH.cons (o := _) rfl (fun K hK => ?_) (AllReadyH.nil)
            · go_simp
              refine hK.out _ _ (hHeld.alloc hHeld.size _) (fun hHeld => ?_)
              clear hK K
              try simp only [Act.put, lq1, lq2, lq3, lq4, lq5, lq6]
              refine tk 15 ?_ rfl ?_ hHeld ?_
              rotate_left
              · intro wq hSw
                go_simp
                try with_reducible rfl
              try simp only [Act.put, lq1, lq2, lq3, lq4, lq5, lq6]
              refine tk 16 ?_ rfl ?_ hHeld ?_
              rotate_left
              · intro wq hSw
                go_simp
                try with_reducible rfl
              try simp only [Act.put, lq1, lq2, lq3, lq4, lq5, lq6]
              refine wpAnyH_done (by kernel_rfl) ?_ _
              go_wp2
              go_ret2
              exact ⟨⟨_, rfl⟩, hHeld⟩
      · go_simp
        refine hK.out _ _ (hHeld.alloc hHeld.size _) (fun hHeld => ?_)
        clear hK K
        try simp only [Act.put, lq1, lq2, lq3, lq4, lq5, lq6]
        refine wpAnyH_ready (rs := [4]) (by kernel_rfl) (by simp) ?_
        refine AllReadyH.cons (o := _) rfl (fun K hK => ?_) (AllReadyH.nil)
        · go_simp
          refine hK.out _ _ (hHeld.alloc hHeld.size _) (fun hHeld => ?_)
          clear hK K
          try simp only [Act.put, lq1, lq2, lq3, lq4, lq5, lq6]
          refine tk 7 (.agg #[.slice (some ⟨w.heap.size + 3, 0, none⟩) n n, .slice (some ⟨w.heap.size + 2, 0, none⟩) n n]) rfl ?_ hHeld ?_
          · intro wq hSw
            first | (go_simp; done) | kernel_rfl
          try simp only [Act.put, lq1, lq2, lq3, lq4, lq5, lq6]
          refine wpAnyH_ready (rs := [8]) (by kernel_rfl) (by simp) ?_
          refine AllReadyH.cons (o := _) rfl (fun K hK => ?_) (AllReadyH.nil)
          · go_simp
            refine hK.out _ _ (hHeld.alloc hHeld.size _) (fun hHeld => ?_)
            clear hK K
            try simp only [Act.put, lq1, lq2, lq3, lq4, lq5, lq6]
            refine tk 13 (.agg #[.pointer (some ⟨dc, 0, none⟩), .int .i64 (n : Int), .int .i64 32, .slice (some ⟨w.heap.size + 4, 0, none⟩) 1 1, .slice (some ⟨w.heap.size + 1, 0, none⟩) n n, .slice (some ⟨w.heap.size, 0, none⟩) 4 4, .int .i64 0, .int .i64 0]) rfl ?_ hHeld ?_
            · intro wq hSw
              first | (go_simp; done) | kernel_rfl
            try simp only [Act.put, lq1, lq2, lq3, lq4, lq5, lq6]
            refine wpAnyH_ready (rs := [14]) (by kernel_rfl) (by simp) ?_
            refine AllReadyH.cons (o := _) rfl (fun K hK => ?_) (AllReadyH.nil)
            · go_simp
              refine hK.out _ _ (hHeld.alloc hHeld.size _) (fun hHeld => ?_)
              clear hK K
              try simp only [Act.put, lq1, lq2, lq3, lq4, lq5, lq6]
              refine tk 15 ?_ rfl ?_ hHeld ?_
              rotate_left
              · intro wq hSw
                go_simp
                try with_reducible rfl
              try simp only [Act.put, lq1, lq2, lq3, lq4, lq5, lq6]
              refine tk 16 ?_ rfl ?_ hHeld ?_
              rotate_left
              · intro wq hSw
                go_simp
                try with_reducible rfl
              try simp only [Act.put, lq1, lq2, lq3, lq4, lq5, lq6]
              refine wpAnyH_done (by kernel_rfl) ?_ _
              go_wp2
              go_ret2
              exact ⟨⟨_, rfl⟩, hHeld⟩
end Go.Proofs.YtgjcbfdhpbkhoaaGreatDoor.IR6
