/- ScriptMemory, walked. Printed by gen_ug21.py. -/
import Derived.Test.YtkiplcmndpdifaaDoorUf

namespace Go.Proofs.YtkiplcmndpdifaaDoor

open Go.RowKit

attribute [local go_sem] run_store_float


theorem two_op (a b : Int) : ([⟨a, 0, 0⟩, ⟨b, 0, 0⟩] : List Og).length = 2 := rfl
theorem one_len {α : Type} (a : α) : ([a] : List α).length = 1 := rfl
theorem two_st (a b : Int) : ([⟨a, 0, 0, 0, 0⟩, ⟨b, 0, 0, 0, 0⟩] : List Sp).length = 2 := rfl


/-- A row's head holds the list's head. -/
theorem own_pre {α : Type} {f : α → List Value} {n : Nat} (hf : ∀ a, (f a).length = n) {l l2 : List α} {w : World} {base e k g cap q : Nat} (hq : q = l.length) (h : w.ownsRow base e n (.slice (some ⟨g, 0, none⟩) k cap) (l.length + l2.length) (l.flatMap f ++ l2.flatMap f)) : Gv w (.slice (some ⟨g, 0, none⟩) q cap) n f l := by
  have h1 : Gv w (.slice (some ⟨g, 0, none⟩) k cap) n f (l ++ l2) := own_gv (base := base) (e := e) hf (by rw [List.length_append, List.flatMap_append]; exact h)
  have h2 := h1.take (k := l.length) (by simp)
  rw [List.take_left] at h2
  rw [hq]
  exact h2


theorem row_at {α : Type} {f : α → List Value} {n : Nat} (hf : ∀ a, (f a).length = n) {l l2 : List α} {w : World} {base e k g cap q j : Nat} {u : Value} (hq : q = l.length) (h : w.ownsRow base e n (.slice (some ⟨g, 0, none⟩) k cap) (l.length + l2.length) (l.flatMap f ++ l2.flatMap f)) (hu : (l2.flatMap f)[j * n]? = some u) : w.cell? ⟨g, (q + j) * n, none⟩ = some u := by
  refine own_cell h ?_
  rw [List.getElem?_append_right (by rw [flat_len f n hf, hq]; exact Nat.mul_le_mul_right _ (by omega)), flat_len f n hf, hq, Nat.add_mul, Nat.add_sub_cancel_left]
  exact hu


set_option maxRecDepth 100000 in
set_option maxHeartbeats 16000000 in
theorem memory_walk {p : Pl} {ops : List Og} {sts : List Sp} {ov sv : Value} {w : World} (hov : OVw w ov ops) (hsv : SVw w sv sts) (hp : p.ok) (ho : ∀ x ∈ ops, x.ok) (hs : ∀ x ∈ sts, x.ok) (htb : Tb w) (hzo : ops.length * 24 ≤ 140737488351232) (hzs : sts.length * 40 ≤ 140737488351232) :
    Calls Tryd.prog 6 #[PlV p ov, sv] w fun e w' => e = .returned (.bool true) ∧ Below w.heap.size w w' := by
  have HT : Hid (Tb w) := htb
  have HO : Hid (OVw w ov ops) := hov
  have HS : Hid (SVw w sv sts) := hsv
  have HR : Hid (p.ok ∧ (∀ x ∈ ops, x.ok) ∧ (∀ x ∈ sts, x.ok)) := ⟨hp, ho, hs⟩
  obtain ⟨oa, oc, rfl, hoc, hom, _, _⟩ := hov
  obtain ⟨sa, sc, rfl, hsc, hsm, _, _⟩ := hsv
  obtain ⟨nO, hnO⟩ : ∃ n, n = ops.length := ⟨_, rfl⟩
  obtain ⟨m, hm⟩ : ∃ n, n = sts.length := ⟨_, rfl⟩
  rw [← hnO] at HO hoc hzo ⊢
  rw [← hm] at HS hsc hzs ⊢
  have HN : Hid (nO = ops.length ∧ m = sts.length ∧ nO * 24 ≤ 140737488351232 ∧ m * 40 ≤ 140737488351232) := ⟨hnO, hm, hzo, hzs⟩
  obtain ⟨g, hg⟩ : ∃ g, g = w.heap.size := ⟨_, rfl⟩
  obtain ⟨w0, hw0⟩ : ∃ w0, w0 = w.alloc (.cells #[.int .i64 p.P, .int .i64 p.S, .int .i64 p.W, .slice oa nO oc, .int .i64 p.A, .int .i64 p.B, .int .i64 p.N, .int .i64 p.G] 24) := ⟨_, rfl⟩
  have HW0 : Hid (w0 = w.alloc (.cells #[.int .i64 p.P, .int .i64 p.S, .int .i64 p.W, .slice oa nO oc, .int .i64 p.A, .int .i64 p.B, .int .i64 p.N, .int .i64 p.G] 24) ∧ g = w.heap.size) := ⟨hw0, hg⟩
  have HB0 : Hid (Below w.heap.size w w0 ∧ w0.heap[g]? = some (.cells (PlC p (.slice oa nO oc)) 24 (0, 0))) := by rw [hw0]; exact ⟨below_alloc _ _, alloc_at hg⟩
  have mk1 := make_op hzo
  have mk2 := make_st hzs
  have hwO : IntKind.i64.wrap ((nO : Int) + 2) = (nO : Int) + 2 := by rw [IntKind.wrap_i64]; omega
  have hwS : IntKind.i64.wrap ((m : Int) + 2) = (m : Int) + 2 := by rw [IntKind.wrap_i64]; omega
  have hwO1 : IntKind.i64.wrap ((nO : Int) + 1) = (nO : Int) + 1 := by rw [IntKind.wrap_i64]; omega
  have hwS1 : IntKind.i64.wrap ((m : Int) + 1) = (m : Int) + 1 := by rw [IntKind.wrap_i64]; omega
  unfold PlV
  clear htb hp ho hs hnO hm hoc hsc hom hsm hg hw0 hzo hzs
  go_enter Tryd.func6, Tryd.ntmps6
  go_wp2_with fail
  rw [← HW0.out.2, ← HW0.out.1]
  refine (awake_walk (HT.out.below HB0.out.1)).mono ?_
  rintro e9 w1 ⟨rfl, hB1⟩
  have HB1 : Hid (Below w0.heap.size w0 w1) := hB1
  obtain ⟨c0, c1, c2, c3, c4, c5, c6, c7⟩ := pl_cells (blk_below HB0.out.2 hB1)
  have hgl : g < w1.heap.size := cell_lt c0
  have hgn : ¬ g = w1.heap.size := by omega
  clear hB1
  obtain ⟨h9, hh9⟩ : ∃ g, g = w1.heap.size := ⟨_, rfl⟩
  obtain ⟨w2, hw2⟩ : ∃ w0, w0 = w1.alloc (.cells #[.int .i64 p.P, .int .i64 p.S, .int .i64 p.W, .slice oa nO oc, .int .i64 p.A, .int .i64 p.B, .int .i64 p.N, .int .i64 p.G] 24) := ⟨_, rfl⟩
  have HW2 : Hid (w2 = w1.alloc (.cells #[.int .i64 p.P, .int .i64 p.S, .int .i64 p.W, .slice oa nO oc, .int .i64 p.A, .int .i64 p.B, .int .i64 p.N, .int .i64 p.G] 24) ∧ h9 = w1.heap.size) := ⟨hw2, hh9⟩
  have HB2 : Hid (Below w1.heap.size w1 w2 ∧ w2.heap[h9]? = some (.cells (PlC p (.slice oa nO oc)) 24 (0, 0))) := by rw [hw2]; exact ⟨below_alloc _ _, alloc_at hh9⟩
  clear hw2 hh9
  go_upto_region 5 with fail
  rw [← HW2.out.2, ← HW2.out.1]
  clear c0 c1 c2 c3 c4 c5 c6 c7 hgl hgn
  go_upto_region 6 with fail
  obtain ⟨b0, hb0⟩ : ∃ g, g = w2.heap.size := ⟨_, rfl⟩
  obtain ⟨w3, hw3⟩ : ∃ w0, w0 = w2.alloc (.cells (madeCells #[.int .i64 0, .int .i64 0, .float .f64 0] ((nO + 2) * 3)) 46) := ⟨_, rfl⟩
  have HX3 : Hid (w3.ownsRow b0 46 3 (.slice (some ⟨b0, 0, none⟩) 0 (nO + 2)) 0 [] ∧ Below w2.heap.size w2 w3 ∧ b0 = w2.heap.size) := by
    rw [hw3, hb0]
    exact ⟨own_made w2 (by have := HN.out.2.2.1; unfold maxLen; omega), below_alloc _ _, rfl⟩
  rw [← hw3, ← hb0]
  have hc3 : w3.cell? ⟨g, 3, none⟩ = some (.slice oa nO oc) := (pl_cells (blk_below HB0.out.2 (below_trans HB1.out (below_trans HB2.out.1 HX3.out.2.1)))).2.2.2.1
  clear hw3 hb0 mk1
  go_upto_region 7 with (at_builtin; refine wpl_app_gv (base := b0) info_op Tryd.underlying22 (by rfl) (by decide) (fun _ => rfl) one_op (by rfl) (.tmp 31) (.tmp 33) (by rfl) (by rfl) HX3.out.1 (by rfl) (HO.out.below (fun _ => rfl) (below_trans HB0.out.1 (below_trans HB1.out (below_trans HB2.out.1 HX3.out.2.1)))) (by have := HN.out; unfold maxLen; omega) (by have := HN.out; omega) (by have := HX3.out.2; have := HX3.out.2.1.size; omega) ?_; intro v4 w4 hr4 hg4 _; rw [Nat.zero_add, ← HN.out.1, List.nil_append] at hr4; have HX4 : Hid (w4.ownsRow b0 46 3 v4 nO (opsF ops) ∧ Below w2.heap.size w2 w4 ∧ b0 ≤ w4.heap.size) := (by have h1 := HX3.out.2.2; have h2 := HX3.out.2.1.size; exact ⟨hr4, HX3.out.2.1.trans ((Below.refl _ w3).grown hg4 (by omega) (fun y hy => by have := (HX3.out.1.lt y hy).1; omega)), Nat.le_trans (by omega) hg4.size⟩); obtain ⟨xa4, xc4, hv4, _, _⟩ := own_form21 hr4; subst hv4; clear hr4 hg4)
  clear hc3

  go_upto_region 8 with (at_builtin; refine wpl_app_gv (base := b0) (l := [⟨71, 0, 0⟩, ⟨72, 0, 0⟩]) info_op Tryd.underlying22 (by rfl) (by decide) (fun _ => rfl) one_op (by rfl) (.tmp 35) (.tmp 38) (by rfl) (by rfl) (row_keep HX4.out.1 fun x hx => (below_alloc _ _).block x (HX4.out.1.lt x hx).2) (by rfl) (gv_lit (f := opF) (n := 3) (l := [⟨71, 0, 0⟩, ⟨72, 0, 0⟩]) (cs := #[.int .i64 71, .int .i64 0, .float .f64 0, .int .i64 72, .int .i64 0, .float .f64 0]) (t := 46) (fun _ => rfl) w4 rfl (by unfold maxLen; decide)) (by have := HN.out; unfold maxLen; rw [two_op]; omega) (by have := HN.out; rw [two_op]; omega) (by have := HX4.out.2.2; rw [alloc_sz]; omega) ?_; intro v5 w5 hr5 hg5 _; rw [two_op] at hr5; have HX5 : Hid (Below w2.heap.size w2 w5 ∧ b0 ≤ w5.heap.size) := (by have h1 := HX3.out.2.2; have h2 := HX4.out.2.2; have h3 := HX4.out.2.1.size; exact ⟨(HX4.out.2.1.alloc (by omega) _).trans ((Below.refl _ _).grown hg5 (by rw [alloc_sz]; omega) (fun y hy => by have := (HX4.out.1.lt y hy).1; omega)), Nat.le_trans (by rw [alloc_sz]; omega) hg5.size⟩); obtain ⟨b1, cap5, N2, hv5, hN2, hcp1, hcp2, hb1, hb2⟩ := row_form hr5 (by omega); subst hv5; have HR5 := hidH hr5; have HC5 : Hid (N2 = nO + 2 ∧ nO + 2 ≤ cap5 ∧ cap5 ≤ maxLen ∧ b0 ≤ b1 ∧ b1 < w5.heap.size) := ⟨hN2, hcp1, hcp2, hb1, hb2⟩; clear hr5 hg5 hN2 hcp1 hcp2 hb1 hb2)
  have hic : (nO : Int) ≤ (cap5 : Int) := by have := HC5.out; omega
  have hnc : nO ≤ cap5 := by have := HC5.out; omega
  have HG5 : Hid (w5.heap[h9]? = some (.cells (PlC p (.slice oa nO oc)) 24 (0, 0)) ∧ w5.heap[g]? = some (.cells (PlC p (.slice oa nO oc)) 24 (0, 0)) ∧ g < h9 ∧ h9 < b0) := ⟨blk_below HB2.out.2 HX5.out.1, blk_below (blk_below HB0.out.2 (below_trans HB1.out HB2.out.1)) HX5.out.1, by have h1 := HW0.out; have h2 := HW2.out.2; have h3 := blk_lt HB0.out.2; have h4 := HB1.out.size; omega, by have h1 := HX3.out.2.2; have h2 := blk_lt HB2.out.2; omega⟩
  have d3 := (pl_cells HG5.out.1).2.2.2.1
  have z3 := blk_soft HG5.out.1 3
  go_upto_region 9 with fail
  clear d3 z3
  obtain ⟨w6, hw6⟩ : ∃ w0, w0 = w5.setCell ⟨h9, 3, none⟩ (.slice (some ⟨b1, 0, none⟩) nO cap5) := ⟨_, rfl⟩
  rw [← hw6]
  have HB6 : Hid (Below w0.heap.size w0 w6 ∧ w6.heap[h9]? = some (.cells (PlC p (.slice (some ⟨b1, 0, none⟩) nO cap5)) 24 (0, 0)) ∧ w6.heap[g]? = some (.cells (PlC p (.slice oa nO oc)) 24 (0, 0)) ∧ w6.ownsRow b0 46 3 (.slice (some ⟨b1, 0, none⟩) N2 cap5) (nO + 2) (opsF ops ++ opsF [⟨71, 0, 0⟩, ⟨72, 0, 0⟩]) ∧ w5.heap.size ≤ w6.heap.size) := by
    have h1 := HG5.out
    have h2 := HC5.out
    have h3 := HW2.out.2
    have h4 := HB1.out.size
    rw [hw6]
    refine ⟨((HB1.out.trans ((HB2.out.1.trans (HX5.out.1.mono (by have := HB2.out.1.size; omega))).mono (by omega))).setCell (p := ⟨h9, 3, none⟩) (by show _ ≤ h9; omega) _), by rw [set_row h1.1]; rfl, by rw [set_other _ (by omega)]; exact h1.2.1, row_keep HR5.out fun x hx => ?_, ((Below.refl 0 w5).setCell (p := ⟨h9, 3, none⟩) (Nat.zero_le _) _).size⟩
    have := (HR5.out.lt x hx).1
    exact set_other _ (by omega)
  clear hw6 HR5 HG5 HX5 HX4 HX3
  go_upto_region 10 with fail
  obtain ⟨b3, hb3⟩ : ∃ g, g = w6.heap.size := ⟨_, rfl⟩
  obtain ⟨w7, hw7⟩ : ∃ w0, w0 = w6.alloc (.cells (madeCells #[.int .i64 0, .int .i64 0, .int .i64 0, .int .u64 0, .float .f64 0] ((m + 2) * 5)) 43) := ⟨_, rfl⟩
  have HX7 : Hid (w7.ownsRow b3 43 5 (.slice (some ⟨b3, 0, none⟩) 0 (m + 2)) 0 [] ∧ Below w6.heap.size w6 w7 ∧ b3 = w6.heap.size) := by
    rw [hw7, hb3]
    exact ⟨own_made w6 (by have := HN.out.2.2.2; unfold maxLen; omega), below_alloc _ _, rfl⟩
  rw [← hw7, ← hb3]
  clear hw7 hb3 mk2
  go_upto_region 11 with (at_builtin; refine wpl_app_gv (base := b3) info_st Tryd.underlying25 (by rfl) (by decide) (fun _ => rfl) one_st (by rfl) (.tmp 48) (.tmp 49) (by rfl) (by rfl) HX7.out.1 (by rfl) (HS.out.below (fun _ => rfl) (below_trans HB0.out.1 (below_trans HB6.out.1 HX7.out.2.1))) (by have := HN.out; unfold maxLen; omega) (by have := HN.out; omega) (by have := HX7.out.2; have := HX7.out.2.1.size; omega) ?_; intro v8 w8 hr8 hg8 _; rw [Nat.zero_add, ← HN.out.2.1, List.nil_append] at hr8; have HX8 : Hid (w8.ownsRow b3 43 5 v8 m (stsF sts) ∧ Below w6.heap.size w6 w8 ∧ b3 ≤ w8.heap.size) := (by have h1 := HX7.out.2.2; have h2 := HX7.out.2.1.size; exact ⟨hr8, HX7.out.2.1.trans ((Below.refl _ w7).grown hg8 (by omega) (fun y hy => by have := (HX7.out.1.lt y hy).1; omega)), Nat.le_trans (by omega) hg8.size⟩); obtain ⟨xa8, xc8, hv8, _, _⟩ := own_form21 hr8; subst hv8; clear hr8 hg8)
  go_upto_region 12 with (at_builtin; refine wpl_app_gv (base := b3) (l := [⟨73, 0, 0, 0, 0⟩, ⟨74, 0, 0, 0, 0⟩]) info_st Tryd.underlying25 (by rfl) (by decide) (fun _ => rfl) one_st (by rfl) (.tmp 51) (.tmp 54) (by rfl) (by rfl) (row_keep HX8.out.1 fun x hx => (below_alloc _ _).block x (HX8.out.1.lt x hx).2) (by rfl) (gv_lit (f := stF) (n := 5) (l := [⟨73, 0, 0, 0, 0⟩, ⟨74, 0, 0, 0, 0⟩]) (cs := #[.int .i64 73, .int .i64 0, .int .i64 0, .int .u64 0, .float .f64 0, .int .i64 74, .int .i64 0, .int .i64 0, .int .u64 0, .float .f64 0]) (t := 43) (fun _ => rfl) w8 rfl (by unfold maxLen; decide)) (by have := HN.out; unfold maxLen; rw [two_st]; omega) (by have := HN.out; rw [two_st]; omega) (by have := HX8.out.2.2; rw [alloc_sz]; omega) ?_; intro v9 w9 hr9 hg9 _; rw [two_st] at hr9; have HX9 : Hid (Below w6.heap.size w6 w9 ∧ b3 ≤ w9.heap.size) := (by have h1 := HX7.out.2.2; have h2 := HX8.out.2.2; have h3 := HX8.out.2.1.size; exact ⟨(HX8.out.2.1.alloc (by omega) _).trans ((Below.refl _ _).grown hg9 (by rw [alloc_sz]; omega) (fun y hy => by have := (HX8.out.1.lt y hy).1; omega)), Nat.le_trans (by rw [alloc_sz]; omega) hg9.size⟩); obtain ⟨b4, cap9, M2, hv9, hM2, hcp1, hcp2, hb1, hb2⟩ := row_form hr9 (by omega); subst hv9; have HR9 := hidH hr9; have HC9 : Hid (M2 = m + 2 ∧ m + 2 ≤ cap9 ∧ cap9 ≤ maxLen ∧ b3 ≤ b4 ∧ b4 < w9.heap.size) := ⟨hM2, hcp1, hcp2, hb1, hb2⟩; clear hr9 hg9 hM2 hcp1 hcp2 hb1 hb2)
  clear HX8
  have his : (m : Int) ≤ (cap9 : Int) := by have := HC9.out; omega
  have hms : m ≤ cap9 := by have := HC9.out; omega

  have HV9 : Hid (∀ wx, Below w9.heap.size w9 wx → (OVw wx (.slice (some ⟨b1, 0, none⟩) nO cap5) ops ∧ SVw wx (.slice (some ⟨b4, 0, none⟩) m cap9) sts ∧ OVw wx (.slice oa nO oc) ops ∧ SVw wx (.slice sa m sc) sts ∧ Tb wx) ∧ (wx.heap[g]? = some (.cells (PlC p (.slice oa nO oc)) 24 (0, 0)) ∧ wx.heap[h9]? = some (.cells (PlC p (.slice (some ⟨b1, 0, none⟩) nO cap5)) 24 (0, 0))) ∧ wx.cell? ⟨b1, (nO + 0) * 3, none⟩ = some (.int .i64 71) ∧ wx.cell? ⟨b1, (nO + 1) * 3, none⟩ = some (.int .i64 72) ∧ wx.cell? ⟨b4, (m + 0) * 5, none⟩ = some (.int .i64 73) ∧ wx.cell? ⟨b4, (m + 1) * 5, none⟩ = some (.int .i64 74)) := by
    intro wx hx
    have h0 := below_trans HB6.out.1 (below_trans HX9.out.1 hx)
    have hO : wx.ownsRow b0 46 3 (.slice (some ⟨b1, 0, none⟩) N2 cap5) (ops.length + ([⟨71, 0, 0⟩, ⟨72, 0, 0⟩] : List Og).length) (opsF ops ++ opsF [⟨71, 0, 0⟩, ⟨72, 0, 0⟩]) := by
      rw [two_op, ← HN.out.1]
      exact row_keep HB6.out.2.2.2.1 fun x hx2 => (below_trans HX9.out.1 hx).block x (HB6.out.2.2.2.1.lt x hx2).2
    have hS : wx.ownsRow b3 43 5 (.slice (some ⟨b4, 0, none⟩) M2 cap9) (sts.length + ([⟨73, 0, 0, 0, 0⟩, ⟨74, 0, 0, 0, 0⟩] : List Sp).length) (stsF sts ++ stsF [⟨73, 0, 0, 0, 0⟩, ⟨74, 0, 0, 0, 0⟩]) := by
      rw [two_st, ← HN.out.2.1]
      exact row_keep HR9.out fun x hx2 => hx.block x (HR9.out.lt x hx2).2
    exact ⟨⟨own_pre (f := opF) (n := 3) (fun _ => rfl) HN.out.1 hO, own_pre (f := stF) (n := 5) (fun _ => rfl) HN.out.2.1 hS, HO.out.below (fun _ => rfl) (below_trans HB0.out.1 h0), HS.out.below (fun _ => rfl) (below_trans HB0.out.1 h0), HT.out.below (below_trans HB0.out.1 h0)⟩, ⟨blk_below HB6.out.2.2.1 (below_trans HX9.out.1 hx), blk_below HB6.out.2.1 (below_trans HX9.out.1 hx)⟩, row_at (f := opF) (n := 3) (j := 0) (fun _ => rfl) HN.out.1 hO rfl, row_at (f := opF) (n := 3) (j := 1) (fun _ => rfl) HN.out.1 hO rfl, row_at (f := stF) (n := 5) (j := 0) (fun _ => rfl) HN.out.2.1 hS rfl, row_at (f := stF) (n := 5) (j := 1) (fun _ => rfl) HN.out.2.1 hS rfl⟩
  have HB9 : Hid (Below w0.heap.size w0 w9) := below_trans HB6.out.1 HX9.out.1
  have hiN : (nO : Int) < (N2 : Int) := by have := HC5.out.1; omega
  have hiN1 : (nO : Int) + 1 < (N2 : Int) := by have := HC5.out.1; omega
  have hiM : (m : Int) < (M2 : Int) := by have := HC9.out.1; omega
  have hiM1 : (m : Int) + 1 < (M2 : Int) := by have := HC9.out.1; omega
  obtain ⟨T1, hT1⟩ : ∃ T, T = printT p ops sts := ⟨_, rfl⟩
  obtain ⟨E, hE⟩ : ∃ E, E = printE p ops sts := ⟨_, rfl⟩
  obtain ⟨u1, hu1⟩ : ∃ u : ByteArray, u = ⟨T1.toArray⟩ := ⟨_, rfl⟩
  have HPR : Hid (∀ wx ov sv, OVw wx ov ops → SVw wx sv sts → Tb wx → Calls Tryd.prog 8 #[.agg #[.int .i64 p.P, .int .i64 p.S, .int .i64 p.W, ov, .int .i64 p.A, .int .i64 p.B, .int .i64 p.N, .int .i64 p.G], sv] wx fun e w' => e = .returned (.tuple #[.string u1, .int .i64 E]) ∧ Below wx.heap.size wx w') := by
    intro wx ov sv h1 h2 h3
    have h := print_walk (p := p) h1 h2 HR.out.1 HR.out.2.1 HR.out.2.2 h3
    unfold PrintGot at h
    rw [hu1, hT1, hE]
    exact h
  have HE : Hid (T1 = printT p ops sts ∧ E = printE p ops sts ∧ u1 = ⟨T1.toArray⟩) := ⟨hT1, hE, hu1⟩
  have hne1 : (u1.toList != u1.toList) = false := by simp
  have hne2 : (E != E) = false := by simp
  clear hT1 hE hu1 HB6 HX9 HR9 HX7 HC9 HC5 HW2 HB2 HB1 hwO hwS
  refine wp_region_noPanic ?_
  refine wp_region_held_drew (S := fun wx => wx.cell? ⟨h9, 0, none⟩ = some (.int .i64 p.P) ∧ wx.cell? ⟨h9, 1, none⟩ = some (.int .i64 p.S) ∧ wx.cell? ⟨h9, 2, none⟩ = some (.int .i64 p.W) ∧ wx.cell? ⟨h9, 3, none⟩ = some (.slice (some ⟨b1, 0, none⟩) nO cap5) ∧ wx.cell? ⟨h9, 4, none⟩ = some (.int .i64 p.A) ∧ wx.cell? ⟨h9, 5, none⟩ = some (.int .i64 p.B) ∧ wx.cell? ⟨h9, 6, none⟩ = some (.int .i64 p.N) ∧ wx.cell? ⟨h9, 7, none⟩ = some (.int .i64 p.G)) (by kernel_rfl) ?_ (fun hHeld => ?_)
  · exact (pl_cells (HV9.out _ (below_drewN w9 1)).2.1.2)
  refine wpAnyH_take (i := 0) (oi := ⟨some 57, _, _, _, _, _⟩) (v := ?_) rfl (by kernel_rfl) (by kernel_rfl) (by kernel_rfl) (fun _ _ _ h => h) (Or.inl ⟨by rfl, ?_⟩) hHeld ?_
  rotate_left
  · intro w hSw; (try dsimp only at hSw); go_simp; all_goals (with_reducible rfl)
  try simp only [Act.put, List.setIfInBounds_toArray, List.set_cons_zero, List.set_cons_succ]
  refine wpAnyH_take (i := 1) (oi := ⟨some 58, _, _, _, _, _⟩) (v := ?_) rfl (by kernel_rfl) (by kernel_rfl) (by kernel_rfl) (fun _ _ _ h => h) (Or.inl ⟨by rfl, ?_⟩) hHeld ?_
  rotate_left
  · intro w hSw; (try dsimp only at hSw); go_simp; all_goals (with_reducible rfl)
  try simp only [Act.put, List.setIfInBounds_toArray, List.set_cons_zero, List.set_cons_succ]
  refine wpAnyH_take (i := 2) (oi := ⟨some 59, _, _, _, _, _⟩) (v := ?_) rfl (by kernel_rfl) (by kernel_rfl) (by kernel_rfl) (fun _ _ _ h => h) (Or.inl ⟨by rfl, ?_⟩) hHeld ?_
  rotate_left
  · intro w hSw; (try dsimp only at hSw); go_simp; all_goals (with_reducible rfl)
  try simp only [Act.put, List.setIfInBounds_toArray, List.set_cons_zero, List.set_cons_succ]
  refine wpAnyH_take (i := 3) (oi := ⟨some 60, _, _, _, _, _⟩) (v := ?_) rfl (by kernel_rfl) (by kernel_rfl) (by kernel_rfl) (fun _ _ _ h => h) (Or.inl ⟨by rfl, ?_⟩) hHeld ?_
  rotate_left
  · intro w hSw; (try dsimp only at hSw); go_simp; all_goals (with_reducible rfl)
  try simp only [Act.put, List.setIfInBounds_toArray, List.set_cons_zero, List.set_cons_succ]
  refine wpAnyH_take (i := 4) (oi := ⟨some 61, _, _, _, _, _⟩) (v := ?_) rfl (by kernel_rfl) (by kernel_rfl) (by kernel_rfl) (fun _ _ _ h => h) (Or.inl ⟨by rfl, ?_⟩) hHeld ?_
  rotate_left
  · intro w hSw; (try dsimp only at hSw); go_simp; all_goals (with_reducible rfl)
  try simp only [Act.put, List.setIfInBounds_toArray, List.set_cons_zero, List.set_cons_succ]
  refine wpAnyH_ready (rs := [5]) (by kernel_rfl) (by simp) ?_
  refine AllReadyH.cons (o := ⟨some 62, _, _, _, _, _⟩) rfl (fun K hK => ?_) AllReadyH.nil
  go_simp
  refine (HPR.out _ (.slice (some ⟨b1, 0, none⟩) nO cap5) _ (HV9.out _ (below_drew w9)).1.1 (HV9.out _ (below_drew w9)).1.2.1 (HV9.out _ (below_drew w9)).1.2.2.2.2).mono ?_
  rintro e9 w10 ⟨rfl, hB10⟩
  have HB10 : Hid (Below w9.heap.size w9 w10) := below_trans (below_drew _) hB10
  clear hB10
  refine hK.out _ _ ?_ (fun hHeld => ?_)
  · exact (pl_cells (HV9.out _ HB10.out).2.1.2)
  clear hK K
  try simp only [Act.put, List.setIfInBounds_toArray, List.set_cons_zero, List.set_cons_succ]
  refine wpAnyH_take (i := 6) (oi := ⟨some 56, _, _, _, _, _⟩) (v := ?_) rfl (by kernel_rfl) (by kernel_rfl) (by kernel_rfl) (fun _ _ _ h => h) (Or.inl ⟨by rfl, ?_⟩) hHeld ?_
  rotate_left
  · intro w hSw; (try dsimp only at hSw); go_simp; all_goals (with_reducible rfl)
  try simp only [Act.put, List.setIfInBounds_toArray, List.set_cons_zero, List.set_cons_succ]
  refine wpAnyH_take (i := 7) (oi := ⟨some 63, _, _, _, _, _⟩) (v := ?_) rfl (by kernel_rfl) (by kernel_rfl) (by kernel_rfl) (fun _ _ _ h => h) (Or.inl ⟨by rfl, ?_⟩) hHeld ?_
  rotate_left
  · intro w hSw; (try dsimp only at hSw); go_simp; all_goals (with_reducible rfl)
  try simp only [Act.put, List.setIfInBounds_toArray, List.set_cons_zero, List.set_cons_succ]
  refine wpAnyH_take (i := 8) (oi := ⟨some 64, _, _, _, _, _⟩) (v := ?_) rfl (by kernel_rfl) (by kernel_rfl) (by kernel_rfl) (fun _ _ _ h => h) (Or.inl ⟨by rfl, ?_⟩) hHeld ?_
  rotate_left
  · intro w hSw; (try dsimp only at hSw); go_simp; all_goals (with_reducible rfl)
  try simp only [Act.put, List.setIfInBounds_toArray, List.set_cons_zero, List.set_cons_succ]
  refine wpAnyH_take (i := 9) (oi := ⟨some 9, _, _, _, _, _⟩) (v := ?_) rfl (by kernel_rfl) (by kernel_rfl) (by kernel_rfl) (fun _ _ _ h => h) (Or.inl ⟨by rfl, ?_⟩) hHeld ?_
  rotate_left
  · intro w hSw; (try dsimp only at hSw); go_simp; all_goals (with_reducible rfl)
  try simp only [Act.put, List.setIfInBounds_toArray, List.set_cons_zero, List.set_cons_succ]
  refine wpAnyH_take (i := 10) (oi := ⟨some 10, _, _, _, _, _⟩) (v := ?_) rfl (by kernel_rfl) (by kernel_rfl) (by kernel_rfl) (fun _ _ _ h => h) (Or.inl ⟨by rfl, ?_⟩) hHeld ?_
  rotate_left
  · intro w hSw; (try dsimp only at hSw); go_simp; all_goals (with_reducible rfl)
  try simp only [Act.put, List.setIfInBounds_toArray, List.set_cons_zero, List.set_cons_succ]
  refine wpAnyH_done (by kernel_rfl) ?_ _
  refine NoPanic.normal ?_
  obtain ⟨c0, c1, c2, c3, c4, c5, c6, c7⟩ := pl_cells (HV9.out w10 HB10.out).2.1.1
  go_wp2_with fail
  refine (HPR.out w10 (.slice oa nO oc) _ (HV9.out w10 HB10.out).1.2.2.1 (HV9.out w10 HB10.out).1.2.2.2.1 (HV9.out w10 HB10.out).1.2.2.2.2).mono ?_
  rintro e9 w11 ⟨rfl, hB11⟩
  have HB11 : Hid (Below w9.heap.size w9 w11) := below_trans HB10.out hB11
  clear hB11 c0 c1 c2 c3 c4 c5 c6 c7 HPR
  obtain ⟨c0, c1, c2, c3, c4, c5, c6, c7⟩ := pl_cells (HV9.out w11 HB11.out).2.1.1
  obtain ⟨d0, d1, d2, d3, d4, d5, d6, d7⟩ := pl_cells (HV9.out w11 HB11.out).2.1.2
  go_wp2_with fail
  have HPL := plans_walk (p := p) (l := ops) (av := .slice oa nO oc) (bv := .slice (some ⟨b1, 0, none⟩) nO cap5) (w := w11) (HV9.out w11 HB11.out).1.2.2.1 (HV9.out w11 HB11.out).1.1
  simp only [PlV] at HPL
  refine HPL.mono ?_
  rintro e9 w12 ⟨rfl, hB12⟩
  have HB12 : Hid (Below w9.heap.size w9 w12) := below_trans HB11.out hB12
  clear hB12 HPL c0 c1 c2 c3 c4 c5 c6 c7 d0 d1 d2 d3 d4 d5 d6 d7
  go_wp2_with fail
  refine (same_walk (l := sts) (HV9.out w12 HB12.out).1.2.1 (HV9.out w12 HB12.out).1.2.2.2.1).mono ?_
  rintro e9 w13 ⟨rfl, hB13⟩
  have HB13 : Hid (Below w9.heap.size w9 w13) := below_trans HB12.out hB13
  obtain ⟨k1, k2, k3, k4⟩ := (HV9.out w13 HB13.out).2.2
  rw [Nat.add_zero] at k1 k3
  clear hB13
  by_cases hE0 : E = 0
  case neg =>
    have hEb : (E != 0) = true := by rw [bne_iff_ne]; exact hE0
    clear hE0
    go_wp2_with fail
    go_ret
    exact ⟨rfl, below_trans HB0.out.1 (below_trans HB9.out HB13.out)⟩
  case pos =>
    have hEb : (E != 0) = false := by rw [hE0]; rfl
    have HPA : Hid (∀ wx, Tb wx → Calls Tryd.prog 9 #[.string u1] wx (ParseGot (.ok ⟨true, p, ops, sts⟩) wx)) := by
      intro wx hx
      have hz : printE p ops sts = 0 := by rw [← HE.out.2.1]; exact hE0
      obtain ⟨q1, q2, q3, q4⟩ := print_ok hz
      rw [HE.out.2.2, HE.out.1, q1, ← parse_back HR.out.1 HR.out.2.1 HR.out.2.2 q2 q3 q4]
      exact parse_walk _ _ hx
    clear hE0
    go_wp2_with fail
    refine (HPA.out w13 (HV9.out w13 HB13.out).1.2.2.2.2).mono ?_
    rintro e9 w14 ⟨ova, sva, rfl, hoa, hsa, hda, hB14⟩
    dsimp only at hoa hsa ⊢
    rw [← HN.out.1] at hoa
    rw [← HN.out.2.1] at hsa
    have HXA : Hid (w14.ownsRow w13.heap.size 46 3 ova nO (opsF ops) ∧ w14.ownsRow w13.heap.size 43 5 sva m (stsF sts)) := ⟨hoa, hsa⟩
    have HB14 : Hid (Below w13.heap.size w13 w14) := hB14
    obtain ⟨aa, ac, hva, hac1, hac2⟩ := own_form21 hoa
    obtain ⟨la, lc, hvl, hlc1, hlc2⟩ := own_form21 hsa
    subst hva
    subst hvl
    obtain ⟨ka, hka⟩ : ∃ g, g = w14.heap.size := ⟨_, rfl⟩
    obtain ⟨w15, hw15⟩ : ∃ w0, w0 = w14.alloc (.cells #[.int .i64 p.P, .int .i64 p.S, .int .i64 p.W, .slice aa nO ac, .int .i64 p.A, .int .i64 p.B, .int .i64 p.N, .int .i64 p.G] 24) := ⟨_, rfl⟩
    have HW15 : Hid (w15 = w14.alloc (.cells #[.int .i64 p.P, .int .i64 p.S, .int .i64 p.W, .slice aa nO ac, .int .i64 p.A, .int .i64 p.B, .int .i64 p.N, .int .i64 p.G] 24) ∧ ka = w14.heap.size) := ⟨hw15, hka⟩
    have HB15 : Hid (Below w14.heap.size w14 w15 ∧ w15.heap[ka]? = some (.cells (PlC p (.slice aa nO ac)) 24 (0, 0)) ∧ w15.heap.size = ka + 1) := by rw [hw15]; exact ⟨below_alloc _ _, alloc_at hka, by rw [alloc_sz, hka]⟩
    simp only [PlV]
    clear hoa hsa hda hB14 hac1 hac2 hlc1 hlc2 hka hw15 k1 k2 k3 k4
    go_wp2_with fail
    rw [← HW15.out.2, ← HW15.out.1]
    refine (HPA.out w15 (HV9.out w15 (below_trans HB13.out (below_trans HB14.out HB15.out.1))).1.2.2.2.2).mono ?_
    rintro e9 w16 ⟨ovb, svb, rfl, hob, hsb, hdb, hB16⟩
    dsimp only at hob hsb ⊢
    rw [← HN.out.1] at hob
    rw [← HN.out.2.1] at hsb
    have HXB : Hid (w16.ownsRow w15.heap.size 46 3 ovb nO (opsF ops) ∧ w16.ownsRow w15.heap.size 43 5 svb m (stsF sts)) := ⟨hob, hsb⟩
    have HB16 : Hid (Below w15.heap.size w15 w16) := hB16
    obtain ⟨ba, bc9, hvb, hac1, hac2⟩ := own_form21 hob
    obtain ⟨lb, lbc, hvl, hlc1, hlc2⟩ := own_form21 hsb
    subst hvb
    subst hvl
    obtain ⟨kb, hkb⟩ : ∃ g, g = w16.heap.size := ⟨_, rfl⟩
    obtain ⟨w17, hw17⟩ : ∃ w0, w0 = w16.alloc (.cells #[.int .i64 p.P, .int .i64 p.S, .int .i64 p.W, .slice ba nO bc9, .int .i64 p.A, .int .i64 p.B, .int .i64 p.N, .int .i64 p.G] 24) := ⟨_, rfl⟩
    have HW17 : Hid (w17 = w16.alloc (.cells #[.int .i64 p.P, .int .i64 p.S, .int .i64 p.W, .slice ba nO bc9, .int .i64 p.A, .int .i64 p.B, .int .i64 p.N, .int .i64 p.G] 24) ∧ kb = w16.heap.size) := ⟨hw17, hkb⟩
    have HB17 : Hid (Below w16.heap.size w16 w17 ∧ w17.heap[kb]? = some (.cells (PlC p (.slice ba nO bc9)) 24 (0, 0)) ∧ w17.heap.size = kb + 1) := by rw [hw17]; exact ⟨below_alloc _ _, alloc_at hkb, by rw [alloc_sz, hkb]⟩
    simp only [PlV]
    clear hob hsb hdb hB16 hac1 hac2 hlc1 hlc2 hkb hw17 HPA
    go_wp2_with fail
    rw [← HW17.out.2, ← HW17.out.1]
    obtain ⟨lo, hlo⟩ : ∃ lo, lo = w13.heap.size := ⟨_, rfl⟩
    obtain ⟨mid, hmid⟩ : ∃ lo, lo = w15.heap.size := ⟨_, rfl⟩
    have HLM : Hid (lo = w13.heap.size ∧ mid = w15.heap.size ∧ lo ≤ ka ∧ ka < mid ∧ mid ≤ kb ∧ kb < w17.heap.size ∧ lo ≤ w17.heap.size) := by
      have h1 := HB14.out.size
      have h2 := HB15.out.2.2
      have h3 := HW15.out.2
      have h4 := HB16.out.size
      have h5 := HB17.out.2.2
      have h6 := HW17.out.2
      exact ⟨hlo, hmid, by omega, by omega, by omega, by omega, by omega⟩
    have HLP : Hid (Lp lo mid ka w17 p nO m (.slice aa nO ac) (.slice la m lc) w17) := by
      have hb : Below w14.heap.size w14 w17 := below_trans HB15.out.1 (below_trans HB16.out HB17.out.1)
      have hz := HB15.out.1.size
      rw [hlo, hmid]
      exact ⟨Below.refl _ _, fun _ _ _ => rfl, blk_below HB15.out.2.1 (below_trans HB16.out HB17.out.1), ⟨_, row_keep HXA.out.1 fun x hx => hb.block x (HXA.out.1.lt x hx).2⟩, fun x hx => .inl (by have := (HXA.out.1.lt x hx).2; omega), ⟨_, row_keep HXA.out.2 fun x hx => hb.block x (HXA.out.2.lt x hx).2⟩, fun x hx => .inl (by have := (HXA.out.2.lt x hx).2; omega)⟩
    clear hlo hmid
    have hnb : (nO : Int) ≤ 140737488351232 := by have := HN.out.2.2.1; omega
    have hmb : (m : Int) ≤ 140737488351232 := by have := HN.out.2.2.2; omega
    go_loopw [19] (fun v19 wr => ∃ i : Nat, i ≤ nO ∧ v19 = .int .i64 i ∧ Lp lo mid ka w17 p nO m (.slice aa nO ac) (.slice la m lc) wr) (fun v19 _ => nO - (intOf v19).toNat)
    case atStart => exact ⟨0, Nat.zero_le _, rfl, HLP.out⟩
    case round =>
      obtain ⟨i, hi, rfl, hlp⟩ := hrel
      have HQ : Hid (Lp lo mid ka w17 p nO m (.slice aa nO ac) (.slice la m lc) wr) := hlp
      have e3 : wr.cell? ⟨ka, 3, none⟩ = some (.slice aa nO ac) := (pl_cells hlp.pl).2.2.2.1
      clear hlp
      by_cases hlt : i < nO
      · have hli : (i : Int) < (nO : Int) := by omega
        obtain ⟨xs, hx⟩ := HQ.out.rowO
        obtain ⟨gx, cx, kx, hv, _⟩ := row_form hx (by omega)
        have haa : aa = some ⟨gx, 0, none⟩ := by cases hv; rfl
        clear hv
        subst haa
        obtain ⟨⟨cur, hcur⟩, _⟩ := row_type hx (x := gx) rfl
        have hcs : nO * 3 ≤ cur.size := by
          rcases hx.2 with ⟨h3, _⟩ | ⟨g', cap', cur', e1, _, hh, hnc, _, hcs, _⟩
          · cases h3
          · cases e1
            rw [hcur] at hh
            cases hh
            rw [hcs]
            exact Nat.mul_le_mul_right _ hnc
        obtain ⟨y0, r0⟩ : ∃ y, wr.cell? ⟨gx, i * 3, none⟩ = some y := ⟨cur[i * 3]'(by omega), by rw [blk_cell hcur]; exact Array.getElem?_eq_getElem _⟩
        obtain ⟨y1, r1⟩ : ∃ y, wr.cell? ⟨gx, i * 3 + 1, none⟩ = some y := ⟨cur[i * 3 + 1]'(by omega), by rw [blk_cell hcur]; exact Array.getElem?_eq_getElem _⟩
        obtain ⟨y2, r2⟩ : ∃ y, wr.cell? ⟨gx, i * 3 + 2, none⟩ = some y := ⟨cur[i * 3 + 2]'(by omega), by rw [blk_cell hcur]; exact Array.getElem?_eq_getElem _⟩
        have z0 := blk_soft hcur (i * 3)
        have z1 := blk_soft hcur (i * 3 + 1)
        have z2 := blk_soft hcur (i * 3 + 2)
        clear hx hcur hcs
        go_wp2_with fail
        exact ⟨⟨i + 1, by omega, by (congr 1), ((HQ.out.setO _ _).setO _ _).setO _ _⟩, by simp [intOf]; omega⟩
      · have hni : ¬ (i : Int) < (nO : Int) := by omega
        clear HLP
        go_wp2_with fail
        clear e3
        go_loopw [20] (fun v20 wr => ∃ i : Nat, i ≤ m ∧ v20 = .int .i64 i ∧ Lp lo mid ka w17 p nO m (.slice aa nO ac) (.slice la m lc) wr) (fun v20 _ => m - (intOf v20).toNat)
        case atStart => exact ⟨0, Nat.zero_le _, rfl, HQ.out⟩
        case round =>
          obtain ⟨j, hj, rfl, hlp⟩ := hrel
          clear HQ
          have HQ : Hid (Lp lo mid ka w17 p nO m (.slice aa nO ac) (.slice la m lc) wr) := hlp
          clear hlp
          by_cases hlt2 : j < m
          · have hli2 : (j : Int) < (m : Int) := by omega
            obtain ⟨xs, hx⟩ := HQ.out.rowS
            obtain ⟨gx, cx, kx, hv, _⟩ := row_form hx (by omega)
            have haa : la = some ⟨gx, 0, none⟩ := by cases hv; rfl
            clear hv
            subst haa
            obtain ⟨⟨cur, hcur⟩, _⟩ := row_type hx (x := gx) rfl
            have hcs : m * 5 ≤ cur.size := by
              rcases hx.2 with ⟨h3, _⟩ | ⟨g', cap', cur', e1, _, hh, hnc, _, hcs, _⟩
              · cases h3
              · cases e1
                rw [hcur] at hh
                cases hh
                rw [hcs]
                exact Nat.mul_le_mul_right _ hnc
            obtain ⟨y0, r0⟩ : ∃ y, wr.cell? ⟨gx, j * 5, none⟩ = some y := ⟨cur[j * 5]'(by omega), by rw [blk_cell hcur]; exact Array.getElem?_eq_getElem _⟩
            have z0 := blk_soft hcur (j * 5)
            obtain ⟨y1, r1⟩ : ∃ y, wr.cell? ⟨gx, j * 5 + 1, none⟩ = some y := ⟨cur[j * 5 + 1]'(by omega), by rw [blk_cell hcur]; exact Array.getElem?_eq_getElem _⟩
            have z1 := blk_soft hcur (j * 5 + 1)
            obtain ⟨y2, r2⟩ : ∃ y, wr.cell? ⟨gx, j * 5 + 2, none⟩ = some y := ⟨cur[j * 5 + 2]'(by omega), by rw [blk_cell hcur]; exact Array.getElem?_eq_getElem _⟩
            have z2 := blk_soft hcur (j * 5 + 2)
            obtain ⟨y3, r3⟩ : ∃ y, wr.cell? ⟨gx, j * 5 + 3, none⟩ = some y := ⟨cur[j * 5 + 3]'(by omega), by rw [blk_cell hcur]; exact Array.getElem?_eq_getElem _⟩
            have z3 := blk_soft hcur (j * 5 + 3)
            obtain ⟨y4, r4⟩ : ∃ y, wr.cell? ⟨gx, j * 5 + 4, none⟩ = some y := ⟨cur[j * 5 + 4]'(by omega), by rw [blk_cell hcur]; exact Array.getElem?_eq_getElem _⟩
            have z4 := blk_soft hcur (j * 5 + 4)
            clear hx hcur hcs
            go_wp2_with fail
            exact ⟨⟨j + 1, by omega, by (congr 1), ((((HQ.out.setS _ _).setS _ _).setS _ _).setS _ _).setS _ _⟩, by simp [intOf]; omega⟩
          · have hnj : ¬ (j : Int) < (m : Int) := by omega
            go_wp2_with fail
            go_loopw [14, 21] (fun v14 v21 wr => ∃ k : Nat, k ≤ 9 ∧ v21 = .int .i64 k ∧ ∃ ov', Lp lo mid ka w17 p (nO + k) (m + k) ov' v14 wr) (fun _ v21 _ => 9 - (intOf v21).toNat)
            case atStart => exact ⟨0, by omega, rfl, _, HQ.out⟩
            case round =>
              obtain ⟨k, hk, rfl, ov', hlp⟩ := hrel
              clear HQ
              have HQ : Hid (Lp lo mid ka w17 p (nO + k) (m + k) ov' _ wr) := hlp
              obtain ⟨xs, hx⟩ := hlp.rowO
              obtain ⟨ys, hy⟩ := hlp.rowS
              obtain ⟨va, vc, hv, _, _⟩ := own_form21 hx
              obtain ⟨ya, yc, hyv, _, _⟩ := own_form21 hy
              subst hv
              subst hyv
              obtain ⟨nk, hnk⟩ : ∃ n, n = nO + k := ⟨_, rfl⟩
              obtain ⟨mk, hmk⟩ : ∃ n, n = m + k := ⟨_, rfl⟩
              rw [← hnk, ← hmk] at HQ
              rw [← hnk] at hx
              rw [← hmk] at hy ⊢
              have HNM : Hid (nk = nO + k ∧ mk = m + k) := ⟨hnk, hmk⟩
              have HXO := hidH hx
              have HXS := hidH hy
              have e3 : wr.cell? ⟨ka, 3, none⟩ = some (.slice va nk vc) := (pl_cells HQ.out.pl).2.2.2.1
              have hkl : ka < wr.heap.size := cell_lt e3
              have hkn : ¬ ka = wr.heap.size := by omega
              clear hlp hx hy hnk hmk
              by_cases h9 : k < 9
              · have h9i : (k : Int) < 9 := by omega
                have HLO : Hid (lo ≤ wr.heap.size ∧ lo ≤ w17.heap.size) := ⟨Nat.le_trans HLM.out.2.2.2.2.2.2 HQ.out.bel.size, HLM.out.2.2.2.2.2.2⟩
                go_upto_region 32 with (at_builtin; refine wpl_app_gv (base := lo) (l := [⟨8, 0, 0⟩]) info_op Tryd.underlying22 (by rfl) (by decide) (fun _ => rfl) one_op (by rfl) (.tmp 173) (.tmp 175) (by rfl) (by rfl) (row_keep HXO.out fun x hx => (below_alloc _ _).block x (HXO.out.lt x hx).2) (by rfl) (gv_lit (f := opF) (n := 3) (l := [⟨8, 0, 0⟩]) (cs := #[.int .i64 8, .int .i64 0, .float .f64 0]) (t := 46) (fun _ => rfl) wr rfl (by unfold maxLen; decide)) (by have := HN.out; have := HNM.out; unfold maxLen; rw [one_len]; omega) (by have := HN.out; have := HNM.out; rw [one_len]; omega) (by have := HLO.out.1; rw [alloc_sz]; omega) ?_; intro v22 w22 hr22 hg22 hat22; rw [one_len] at hr22; have HQ22 : Hid (Lp lo mid ka w17 p (nk + 1) mk v22 (.slice ya mk yc) (w22.setCell ⟨ka, 3, none⟩ v22)) := (HQ.out.alloc HLO.out.2 _).growO HLO.out.2 ⟨HLM.out.2.2.1, HLM.out.2.2.2.1⟩ hr22 hg22 hat22; have hpl22 := (HQ.out.alloc HLO.out.2 _).plO hg22; have e22 : w22.cell? ⟨ka, 3, none⟩ = some (.slice va nk vc) := (pl_cells hpl22).2.2.2.1; have z22 := blk_soft hpl22 3; obtain ⟨va2, vc2, hv22, _, _⟩ := own_form21 hr22; obtain ⟨nk2, hnk2⟩ : ∃ n, n = nk + 1 := ⟨_, rfl⟩; rw [← hnk2] at hv22 HQ22; subst hv22; have HNK := hidH hnk2; clear hr22 hg22 hat22 hpl22 hnk2)
                clear e22 z22 e3 hkl hkn
                obtain ⟨w23, hw23⟩ : ∃ w0, w0 = w22.setCell ⟨ka, 3, none⟩ (.slice va2 nk2 vc2) := ⟨_, rfl⟩
                rw [← hw23] at HQ22 ⊢
                clear hw23
                have HLO2 : Hid (lo ≤ w23.heap.size) := Nat.le_trans HLM.out.2.2.2.2.2.2 HQ22.out.bel.size
                obtain ⟨ys2, hy2⟩ := HQ22.out.rowS
                have HXS2 := hidH hy2
                clear hy2
                go_wp2_with (at_builtin; refine wpl_app_gv (base := lo) (l := [⟨8, 0, 0, 0, 0⟩]) info_st Tryd.underlying25 (by rfl) (by decide) (fun _ => rfl) one_st (by rfl) (.tmp 178) (.tmp 180) (by rfl) (by rfl) (row_keep HXS2.out fun x hx => (below_alloc _ _).block x (HXS2.out.lt x hx).2) (by rfl) (gv_lit (f := stF) (n := 5) (l := [⟨8, 0, 0, 0, 0⟩]) (cs := #[.int .i64 8, .int .i64 0, .int .i64 0, .int .u64 0, .float .f64 0]) (t := 43) (fun _ => rfl) w23 rfl (by unfold maxLen; decide)) (by have := HN.out; have := HNM.out; unfold maxLen; rw [one_len]; omega) (by have := HN.out; have := HNM.out; rw [one_len]; omega) (by have := HLO2.out; rw [alloc_sz]; omega) ?_; intro v24 w24 hr24 hg24 hat24; rw [one_len] at hr24; have HQ24 : Hid (Lp lo mid ka w17 p nk2 (mk + 1) (.slice va2 nk2 vc2) v24 w24) := (HQ22.out.alloc HLO.out.2 _).growS HLO.out.2 hr24 hg24 hat24; clear hr24 hg24 hat24)
                refine ⟨⟨k + 1, by omega, by (congr 1), .slice va2 nk2 vc2, ?_⟩, by simp [intOf]; omega⟩
                rw [show nO + (k + 1) = nk2 by have h1 := HNK.out; have h2 := HNM.out.1; omega, show m + (k + 1) = mk + 1 by have h2 := HNM.out.2; omega]
                exact HQ24.out
              · have h9i : ¬ (k : Int) < 9 := by omega
                have hmk9 : ((mk : Int) == (m : Int) + 9) = true := by have := HNM.out.2; rw [beq_iff_eq]; omega
                have hwm : IntKind.i64.wrap ((m : Int) + 9) = (m : Int) + 9 := by rw [IntKind.wrap_i64]; omega
                have HB18 : Hid (Below w9.heap.size w9 wr ∧ Below w13.heap.size w13 wr) := by
                  have h1 := HQ.out.bel
                  rw [HLM.out.1] at h1
                  have h2 : Below w13.heap.size w13 wr := (below_trans HB14.out (below_trans HB15.out.1 (below_trans HB16.out HB17.out.1))).trans h1
                  exact ⟨below_trans HB13.out h2, h2⟩
                have HKB : Hid (wr.heap[kb]? = some (.cells (PlC p (.slice ba nO bc9)) 24 (0, 0)) ∧ OVw wr (.slice ba nO bc9) ops ∧ SVw wr (.slice lb m lbc) sts) := by
                  have hm := HLM.out
                  have hkk : ∀ x, w15.heap.size ≤ x → x < w16.heap.size → wr.heap[x]? = w16.heap[x]? := by
                    intro x h1 h2
                    have h3 := HB17.out.1.size
                    rw [HQ.out.kept x (by omega) (by omega), HB17.out.1.block x h2]
                  refine ⟨by rw [HQ.out.kept kb hm.2.2.2.2.1 hm.2.2.2.2.2.1]; exact HB17.out.2.1, ?_, ?_⟩
                  · refine own_gv (f := opF) (n := 3) (l := ops) (fun _ => rfl) (base := w15.heap.size) (e := 46) ?_
                    rw [← HN.out.1]
                    exact row_keep HXB.out.1 fun x hx => hkk x (HXB.out.1.lt x hx).1 (HXB.out.1.lt x hx).2
                  · refine own_gv (f := stF) (n := 5) (l := sts) (fun _ => rfl) (base := w15.heap.size) (e := 43) ?_
                    rw [← HN.out.2.1]
                    exact row_keep HXB.out.2 fun x hx => hkk x (HXB.out.2.lt x hx).1 (HXB.out.2.lt x hx).2
                obtain ⟨c0, c1, c2, c3, c4, c5, c6, c7⟩ := pl_cells (HV9.out wr HB18.out.1).2.1.1
                obtain ⟨d0, d1, d2, d3, d4, d5, d6, d7⟩ := pl_cells HKB.out.1
                clear e3 hkl hkn hnb hmb
                go_wp2_with fail
                have HPL := plans_walk (p := p) (l := ops) (av := .slice ba nO bc9) (bv := .slice oa nO oc) (w := wr) HKB.out.2.1 (HV9.out wr HB18.out.1).1.2.2.1
                simp only [PlV] at HPL
                refine HPL.mono ?_
                rintro e9 w18 ⟨rfl, hB18⟩
                have HB19 : Hid (Below wr.heap.size wr w18) := hB18
                clear hB18 HPL c0 c1 c2 c3 c4 c5 c6 c7 d0 d1 d2 d3 d4 d5 d6 d7
                go_wp2_with fail
                refine (same_walk (l := sts) (HKB.out.2.2.below (fun _ => rfl) HB19.out) (HV9.out w18 (below_trans HB18.out.1 HB19.out)).1.2.2.2.1).mono ?_
                rintro e9 w19 ⟨rfl, hB20⟩
                have HB20 : Hid (Below w.heap.size w w19) := below_trans HB0.out.1 (below_trans HB9.out (below_trans HB18.out.1 (below_trans HB19.out hB20)))
                clear hB20
                go_wp2_with fail
                go_ret
                exact ⟨rfl, HB20.out⟩
end Go.Proofs.YtkiplcmndpdifaaDoor


