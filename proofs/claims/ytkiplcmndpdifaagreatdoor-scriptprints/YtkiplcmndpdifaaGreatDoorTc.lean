/- awake answers true. -/
import Derived.Test.YtkiplcmndpdifaaGreatDoorTa

namespace Go.Proofs.YtkiplcmndpdifaaGreatDoor

open Go.RowKit

attribute [local go_sem] run_store_float


theorem aw_row {w : World} {g : Nat} (h : w.heap[g]? = some (.cells #[.int .i64 1, .int .i64 0, .int .i64 0, .int .u64 7, .float .f64 4617315517961601024, .int .i64 3, .int .i64 0, .int .i64 0, .int .u64 0, .float .f64 0] 41 (0, 0))) : SVw w (.slice (some ⟨g, 0, none⟩) 2 2) awS :=
  own_gv (f := stF) (n := 5) (l := awS) (base := 0) (e := 41) (fun _ => rfl) ⟨rfl, .inr ⟨g, 2, _, rfl, Nat.zero_le _, h, Nat.le_refl _, by simp [maxLen], rfl, rfl⟩⟩


set_option maxRecDepth 100000 in
set_option maxHeartbeats 8000000 in
theorem awake_walk {w : World} (htb : Tb w) : Calls Tryz.prog 5 #[] w fun e w' => e = .returned (.bool true) ∧ Below w.heap.size w w' := by
  have HT : Hid (Tb w) := htb
  clear htb
  go_enter Tryz.func5, Tryz.ntmps5
  go_wp2_with fail
  refine (parse_walk aw1 w HT.out).mono ?_
  intro e9 w1 h
  rw [aw_read] at h
  obtain ⟨ov, sv, rfl, ho, hs, _, hB⟩ := h
  have HO : Hid (OVw w1 ov awO) := own_gv (f := opF) (n := 3) (l := awO) (fun _ => rfl) ho
  have HS : Hid (SVw w1 sv awS) := own_gv (f := stF) (n := 5) (l := awS) (fun _ => rfl) hs
  have HB : Hid (Below w.heap.size w w1) := hB
  obtain ⟨oa, oc, rfl, _, _⟩ := own_form21 ho
  obtain ⟨sa, sc, rfl, _, _⟩ := own_form21 hs
  clear ho hs hB
  simp only [PlV, awP, awO, awS, List.length_cons, List.length_nil] at HO HS ⊢
  obtain ⟨w2, hw2⟩ : ∃ w2, w2 = w1.alloc (.cells #[.int .i64 1, .int .i64 1, .int .i64 1, .slice oa 1 oc, .int .i64 2, .int .i64 4, .int .i64 2, .int .i64 8] 25) := ⟨_, rfl⟩
  obtain ⟨g, hg⟩ : ∃ g, g = w1.heap.size := ⟨_, rfl⟩
  have HW2 : Hid (w2 = w1.alloc (.cells #[.int .i64 1, .int .i64 1, .int .i64 1, .slice oa 1 oc, .int .i64 2, .int .i64 4, .int .i64 2, .int .i64 8] 25) ∧ g = w1.heap.size) := ⟨hw2, hg⟩
  have HB2 : Hid (Below w1.heap.size w1 w2 ∧ w2.heap[g]? = some (.cells #[.int .i64 1, .int .i64 1, .int .i64 1, .slice oa 1 oc, .int .i64 2, .int .i64 4, .int .i64 2, .int .i64 8] 25 (0, 0))) := by rw [hw2]; exact ⟨below_alloc _ _, alloc_at hg⟩
  clear hw2 hg
  go_wp2_with fail
  rw [← HW2.out.2, ← HW2.out.1]
  have HPW := print_walk (p := awP) (ops := awO) (sts := awS) (w := w2) (HO.out.below (fun _ => rfl) HB2.out.1) (HS.out.below (fun _ => rfl) HB2.out.1) (by simp [awP, Pl.ok, In64]) (by simp [awO, Og.ok, In64]) (by simp [awS, Sp.ok, In64]) (HT.out.below (below_trans HB.out HB2.out.1))
  simp only [PlV, awP] at HPW
  refine HPW.mono ?_
  clear HPW
  intro e9 w3 h
  have h0 : PrintGot awP awO awS w2 e9 w3 := h
  clear h
  unfold PrintGot at h0
  rw [aw_print.1, aw_print.2] at h0
  obtain ⟨rfl, hB3⟩ := h0
  unfold S
  obtain ⟨t, ht⟩ : ∃ t : ByteArray, t = ⟨aw2.toArray⟩ := ⟨_, rfl⟩
  rw [← ht]
  have HTT : Hid (t = ⟨aw2.toArray⟩) := ht
  have HB3 : Hid (Below w2.heap.size w2 w3) := hB3
  clear hB3 ht
  go_wp2_with fail
  refine (parse_walk aw3 w3 (HT.out.below (below_trans (below_trans HB.out HB2.out.1) HB3.out))).mono ?_
  intro e9 w4 h
  rw [aw_line] at h
  obtain ⟨rfl, hB4⟩ := h
  have HB4 : Hid (Below w2.heap.size w2 w4) := below_trans HB3.out hB4
  clear hB4 HB3
  simp only [PlV, Pl.zero]
  go_wp2_with fail
  refine (parse_walk aw4 _ (HT.out.below (below_trans (below_trans (below_trans HB.out HB2.out.1) HB4.out) (below_alloc _ _)))).mono ?_
  intro e9 w5 h
  rw [aw_word] at h
  obtain ⟨rfl, hB5⟩ := h
  have HB5 : Hid (Below w2.heap.size w2 w5) := below_trans (below_trans HB4.out (below_alloc _ _)) hB5
  clear hB5 HB4
  simp only [PlV, Pl.zero]
  have hgb := blk_below HB2.out.2 HB5.out
  have c7 : w5.cell? ⟨g, 7, none⟩ = some (.int .i64 8) := blk_cell hgb 7
  have c3 : w5.cell? ⟨g, 3, none⟩ = some (.slice oa 1 oc) := blk_cell hgb 3
  have hgl : g < w5.heap.size := cell_lt c7
  have hgn : ¬ g = w5.heap.size := by omega
  clear hgb
  go_wp2_with fail
  have HSA := same_walk (l := awS) (HS.out.below (fun _ => rfl) (below_trans (below_trans (below_trans HB2.out.1 HB5.out) (below_alloc w5 (.cells #[.int .i64 0, .int .i64 0, .int .i64 0, .slice none 0 0, .int .i64 0, .int .i64 0, .int .i64 0, .int .i64 0] 25))) (below_alloc _ _))) (aw_row (alloc_at (alloc_sz w5 (.cells #[.int .i64 0, .int .i64 0, .int .i64 0, .slice none 0 0, .int .i64 0, .int .i64 0, .int .i64 0, .int .i64 0] 25)).symm))
  refine HSA.mono ?_
  clear HSA
  rintro e9 w6 ⟨rfl, hB6⟩
  have HB6 : Hid (Below w.heap.size w w6) := below_trans (below_trans (below_trans (below_trans (below_trans HB.out HB2.out.1) HB5.out) (below_alloc _ _)) (below_alloc _ _)) hB6
  clear hB6 c7 c3 hgl hgn
  go_wp2_with fail
  · go_ret
    exact ⟨rfl, HB6.out⟩
  · rename_i hf
    refine absurd (eq_of_beq (str_eq_lit HTT.out ?_)) hf
    kernel_rfl
end Go.Proofs.YtkiplcmndpdifaaGreatDoor


