/- Writing: a pipeline's line, a step's line. Printed by gen_su21.py. -/
import Derived.Test.YtkiplcmndpdifaaGreatDoorSt

namespace Go.Proofs.YtkiplcmndpdifaaGreatDoor

open Go.RowKit

attribute [local go_sem] run_bits


theorem opT_len {o : Og} (h : o.ok) : (opT o).length ≤ 100 := by
  have h1 := itoa_len h.1
  have h2 := itoa_len h.2.1
  simp [opT, lineT, joinB, opW, hexRow_length]
  omega


set_option maxRecDepth 100000 in
set_option maxHeartbeats 8000000 in
theorem appendOp_walk {base : Nat} {w : World} {tv : Value} {l : Bs} {o : Og} (ht : TX base w tv l) (hb : base ≤ w.heap.size) (ho : o.ok) (htb : Tb w) (hl : l.length ≤ 1099511000000) :
    Calls Tryz.prog 23 #[tv, .agg #[.int .i64 o.K, .int .i64 o.N, .float .f64 o.X]] w (TxGot base (l ++ opT o) w) := by
  obtain ⟨oa, oc, rfl, _, _⟩ := own_form21 ht
  have HT : Hid (TX base w (.slice oa l.length oc) l ∧ base ≤ w.heap.size ∧ o.ok ∧ Tb w ∧ l.length ≤ 1099511000000) := ⟨ht, hb, ho, htb, hl⟩
  obtain ⟨g, hg⟩ : ∃ g, g = w.heap.size := ⟨_, rfl⟩
  obtain ⟨w1, hw1⟩ : ∃ w1, w1 = w.alloc (.cells #[.int .i64 o.K, .int .i64 o.N, .float .f64 o.X] 53) := ⟨_, rfl⟩
  have HW1 : Hid (w1 = w.alloc (.cells #[.int .i64 o.K, .int .i64 o.N, .float .f64 o.X] 53) ∧ g = w.heap.size) := ⟨hw1, hg⟩
  have HG1 : Hid (w1.heap[g]? = some (.cells #[.int .i64 o.K, .int .i64 o.N, .float .f64 o.X] 53 (0, 0)) ∧ Below w.heap.size w w1) := by rw [hw1]; exact ⟨alloc_at hg, below_alloc _ _⟩
  have HSS : Hid (w1.drew.heap[g]? = some (.cells #[.int .i64 o.K, .int .i64 o.N, .float .f64 o.X] 53 (0, 0))) := HG1.out.1
  have x0 : ∀ wx : World, wx.heap[g]? = some (.cells #[.int .i64 o.K, .int .i64 o.N, .float .f64 o.X] 53 (0, 0)) → wx.cell? ⟨g, 0, none⟩ = some (.int .i64 o.K) := fun wx h => by rw [blk_cell h]; rfl
  have x1 : ∀ wx : World, wx.heap[g]? = some (.cells #[.int .i64 o.K, .int .i64 o.N, .float .f64 o.X] 53 (0, 0)) → wx.cell? ⟨g, 1, none⟩ = some (.int .i64 o.N) := fun wx h => by rw [blk_cell h]; rfl
  have x2 : ∀ wx : World, wx.heap[g]? = some (.cells #[.int .i64 o.K, .int .i64 o.N, .float .f64 o.X] 53 (0, 0)) → wx.cell? ⟨g, 2, none⟩ = some (.float .f64 o.X) := fun wx h => by rw [blk_cell h]; rfl
  clear ht hb ho htb hl hw1 hg
  go_enter Tryz.func23, Tryz.ntmps23
  go_wp2_with fail
  rw [← HW1.out.2, ← HW1.out.1]
  clear HW1
  refine wp_region_noPanic ?_
  refine wp_region_held_drew (S := fun wx => wx.heap[g]? = some (.cells #[.int .i64 o.K, .int .i64 o.N, .float .f64 o.X] 53 (0, 0))) (by kernel_rfl) ?_ (fun hHeld => ?_)
  · exact HSS.out
  refine wpAnyH_take (i := 0) (oi := ⟨some 5, _, _, _, _, _⟩) (v := ?_) rfl (by kernel_rfl) (by kernel_rfl) (by kernel_rfl) (fun _ _ _ h => h) (Or.inl ⟨by rfl, ?_⟩) hHeld ?_
  rotate_left
  · intro w hSw; (try dsimp only at hSw); go_simp; all_goals (with_reducible rfl)
  try simp only [Act.put, List.setIfInBounds_toArray, List.set_cons_zero, List.set_cons_succ]
  refine wpAnyH_take (i := 1) (oi := ⟨some 6, _, _, _, _, _⟩) (v := ?_) rfl (by kernel_rfl) (by kernel_rfl) (by kernel_rfl) (fun _ _ _ h => h) (Or.inl ⟨by rfl, ?_⟩) hHeld ?_
  rotate_left
  · intro w hSw; (try dsimp only at hSw); go_simp; all_goals (with_reducible rfl)
  try simp only [Act.put, List.setIfInBounds_toArray, List.set_cons_zero, List.set_cons_succ]
  refine wpAnyH_take (i := 2) (oi := ⟨some 7, _, _, _, _, _⟩) (v := ?_) rfl (by kernel_rfl) (by kernel_rfl) (by kernel_rfl) (fun _ _ _ h => h) (Or.inl ⟨by rfl, ?_⟩) hHeld ?_
  rotate_left
  · intro w hSw; (try dsimp only at hSw); go_simp; all_goals (with_reducible rfl)
  try simp only [Act.put, List.setIfInBounds_toArray, List.set_cons_zero, List.set_cons_succ]
  refine wpAnyH_take (i := 4) (oi := ⟨some 9, _, _, _, _, _⟩) (v := ?_) rfl (by kernel_rfl) (by kernel_rfl) (by kernel_rfl) (fun _ _ _ h => h) (Or.inl ⟨by rfl, ?_⟩) hHeld ?_
  rotate_left
  · intro w hSw; (try dsimp only at hSw); go_simp; all_goals (with_reducible rfl)
  try simp only [Act.put, List.setIfInBounds_toArray, List.set_cons_zero, List.set_cons_succ]
  refine wpAnyH_take (i := 5) (oi := ⟨some 10, _, _, _, _, _⟩) (v := ?_) rfl (by kernel_rfl) (by kernel_rfl) (by kernel_rfl) (fun _ _ _ h => h) (Or.inl ⟨by rfl, ?_⟩) hHeld ?_
  rotate_left
  · intro w hSw; (try dsimp only at hSw); go_simp; all_goals (with_reducible rfl)
  try simp only [Act.put, List.setIfInBounds_toArray, List.set_cons_zero, List.set_cons_succ]
  refine wpAnyH_take (i := 7) (oi := ⟨some 12, _, _, _, _, _⟩) (v := ?_) rfl (by kernel_rfl) (by kernel_rfl) (by kernel_rfl) (fun _ _ _ h => h) (Or.inl ⟨by rfl, ?_⟩) hHeld ?_
  rotate_left
  · intro w hSw; (try dsimp only at hSw); go_simp; all_goals (with_reducible rfl)
  try simp only [Act.put, List.setIfInBounds_toArray, List.set_cons_zero, List.set_cons_succ]
  refine wpAnyH_take (i := 8) (oi := ⟨some 13, _, _, _, _, _⟩) (v := ?_) rfl (by kernel_rfl) (by kernel_rfl) (by kernel_rfl) (fun _ _ _ h => h) (Or.inl ⟨by rfl, ?_⟩) hHeld ?_
  rotate_left
  · intro w hSw; (try dsimp only at hSw); go_simp; all_goals (with_reducible rfl)
  try simp only [Act.put, List.setIfInBounds_toArray, List.set_cons_zero, List.set_cons_succ]
  refine wpAnyH_ready (rs := [3]) (by kernel_rfl) (by simp) ?_
  refine AllReadyH.cons (o := ⟨some 8, _, _, _, _, _⟩) rfl (fun K hK => ?_) AllReadyH.nil
  go_simp
  refine (ntext_walk o.K HT.out.2.2.1.1 _ (HT.out.2.2.2.1.below (below_trans HG1.out.2 (below_drew _)))).mono ?_
  rintro e9 w2 ⟨rfl, hB2⟩
  have HB2 : Hid (Below w.heap.size w w2) := below_trans (below_trans HG1.out.2 (below_drew _)) hB2
  refine hK.out _ _ ?_ (fun hHeld => ?_)
  · exact (blk_below hHeld hB2)
  clear hK K
  try simp only [Act.put, List.setIfInBounds_toArray, List.set_cons_zero, List.set_cons_succ]
  refine wpAnyH_ready (rs := [6]) (by kernel_rfl) (by simp) ?_
  refine AllReadyH.cons (o := ⟨some 11, _, _, _, _, _⟩) rfl (fun K hK => ?_) AllReadyH.nil
  go_simp
  refine (ntext_walk o.N HT.out.2.2.1.2.1 _ (HT.out.2.2.2.1.below HB2.out)).mono ?_
  rintro e9 w3 ⟨rfl, hB3⟩
  have HB3 : Hid (Below w.heap.size w w3) := below_trans HB2.out hB3
  refine hK.out _ _ ?_ (fun hHeld => ?_)
  · exact (blk_below hHeld hB3)
  clear hK K
  try simp only [Act.put, List.setIfInBounds_toArray, List.set_cons_zero, List.set_cons_succ]
  refine wpAnyH_take (i := 9) (oi := ⟨some 14, _, _, _, _, _⟩) (v := ?_) rfl (by kernel_rfl) (by kernel_rfl) (by kernel_rfl) (fun _ _ _ h => h) (Or.inl ⟨by rfl, ?_⟩) hHeld ?_
  rotate_left
  · intro w hSw; (try dsimp only at hSw); go_simp; all_goals (with_reducible rfl)
  try simp only [Act.put, List.setIfInBounds_toArray, List.set_cons_zero, List.set_cons_succ]
  refine wpAnyH_ready (rs := [10]) (by kernel_rfl) (by simp) ?_
  refine AllReadyH.cons (o := ⟨some 15, _, _, _, _, _⟩) rfl (fun K hK => ?_) AllReadyH.nil
  go_simp
  refine (ftext_walk o.X HT.out.2.2.1.2.2 _ (HT.out.2.2.2.1.below HB3.out)).mono ?_
  rintro e9 w4 ⟨rfl, hB4⟩
  have HB4 : Hid (Below w.heap.size w w4) := below_trans HB3.out hB4
  refine hK.out _ _ ?_ (fun hHeld => ?_)
  · exact (blk_below hHeld hB4)
  clear hK K
  try simp only [Act.put, List.setIfInBounds_toArray, List.set_cons_zero, List.set_cons_succ]
  refine wpAnyH_ready (rs := [11]) (by kernel_rfl) (by simp) ?_
  refine AllReadyH.cons (o := ⟨some 16, _, _, _, _, _⟩) rfl (fun K hK => ?_) AllReadyH.nil
  go_simp
  refine hK.out _ _ ?_ (fun hHeld => ?_)
  · exact (alloc_old hHeld)
  clear hK K
  try simp only [Act.put, List.setIfInBounds_toArray, List.set_cons_zero, List.set_cons_succ]
  refine wpAnyH_ready (rs := [12]) (by kernel_rfl) (by simp) ?_
  refine AllReadyH.cons (o := ⟨some 17, _, _, _, _, _⟩) rfl (fun K hK => ?_) AllReadyH.nil
  go_simp
  have har : AR (w4.alloc (.cells #[S (Lib.itoa o.K), S (Lib.itoa o.N), S (hexRow o.X 16)] 9)) (.slice (some ⟨w4.heap.size, 0, none⟩) 3 3) [Lib.itoa o.K, Lib.itoa o.N, hexRow o.X 16] := .inr ⟨w4.heap.size, 3, _, rfl, alloc_at rfl, fun i hi => by have hcs : i = 0 ∨ i = 1 ∨ i = 2 := (by simp at hi; omega); rcases hcs with rfl | rfl | rfl <;> rfl⟩
  refine (appendLine_walk (wd := opW) (tx_keep HT.out.1 (below_trans HB4.out (below_alloc _ _))) har (Nat.le_trans HT.out.2.1 (below_trans HB4.out (below_alloc w4 (.cells #[S (Lib.itoa o.K), S (Lib.itoa o.N), S (hexRow o.X 16)] 9))).size) (by have h1 := opT_len HT.out.2.2.1; have h2 := HT.out.2.2.2.2; show l.length + (opT o).length ≤ _; omega)).mono ?_
  rintro e9 w5 ⟨v5, rfl, h5, h6, h7, h8⟩
  have HF : Hid (TX base w5 v5 (l ++ opT o) ∧ Below base w w5 ∧ base ≤ w5.heap.size ∧ Kq w w5) := ⟨h5, ((below_trans HB4.out (below_alloc w4 (.cells #[S (Lib.itoa o.K), S (Lib.itoa o.N), S (hexRow o.X 16)] 9))).mono HT.out.2.1).trans h6, h7, (Kq.below (below_trans HB4.out (below_alloc w4 (.cells #[S (Lib.itoa o.K), S (Lib.itoa o.N), S (hexRow o.X 16)] 9)))).trans h8⟩
  clear h5 h6 h7 har
  refine hK.out _ _ ?_ (fun hHeld => ?_)
  · exact (by rw [h8 _ _ _ _ hHeld (by decide)]; exact hHeld)
  clear hK K
  try simp only [Act.put, List.setIfInBounds_toArray, List.set_cons_zero, List.set_cons_succ]
  refine wpAnyH_take (i := 13) (oi := ⟨some 4, _, _, _, _, _⟩) (v := ?_) rfl (by kernel_rfl) (by kernel_rfl) (by kernel_rfl) (fun _ _ _ h => h) (Or.inl ⟨by rfl, ?_⟩) hHeld ?_
  rotate_left
  · intro w hSw; (try dsimp only at hSw); go_simp; all_goals (with_reducible rfl)
  try simp only [Act.put, List.setIfInBounds_toArray, List.set_cons_zero, List.set_cons_succ]
  refine wpAnyH_done (by kernel_rfl) ?_ _
  refine NoPanic.normal ?_
  go_wp2_with fail
  go_ret
  exact ⟨_, rfl, HF.out.1, HF.out.2.1, HF.out.2.2.1, HF.out.2.2.2⟩
end Go.Proofs.YtkiplcmndpdifaaGreatDoor


