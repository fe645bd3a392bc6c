/- The reference's journal: follows. -/
import Derived.Test.YtnnammlipfappaaRd

namespace Go.Proofs.Ytnnammlipfappaa

open Ieee Go.RowKit

section

variable {K : Nat → Prop} {w w' : World} {v dv pv cv : Value} {q : Int} {J : Jn} {n : Nt} {jb : Nat}

set_option maxRecDepth 100000 in
set_option maxHeartbeats 4000000 in
theorem rfol_walk (h : Rj K w v dv q J) (hp : Nv w pv n.p) (hc : Nv w cv n.c) :
    Calls Try.prog 48 #[v, .agg #[.int .i64 n.b, pv, cv, .int .i64 n.a]] w fun e w' => e = .returned (.bool (folB n J.n)) ∧ Below w.heap.size w w' := by
  obtain ⟨jb, hpv, hcv, rfl, h⟩ := h
  have HB1 : Hid (J.n.b < 9223372036854775807 ∧ 0 ≤ J.n.b) := ⟨by have := h.ok.r.b1; omega, h.ok.r.b0⟩
  obtain ⟨po, pc, rfl, hlp, _⟩ := hp.form
  obtain ⟨co, cc, rfl, hlc, _⟩ := hc.form
  obtain ⟨⟨ro, rc, rfl, _⟩, _⟩ := h.np
  obtain ⟨⟨so, sc, rfl, _⟩, _⟩ := h.nc
  obtain ⟨w0, hw0⟩ : ∃ w0, w0 = ((w.alloc (Obj.cells #[.int .i64 n.b, .slice po n.p.length pc, .slice co n.c.length cc, .int .i64 n.a] 41)).alloc (Obj.cells #[.int .i64 n.b, .slice po n.p.length pc, .slice co n.c.length cc] 39)).alloc (Obj.cells #[.int .i64 J.n.b, .slice ro J.n.p.length rc, .slice so J.n.c.length sc] 39) := ⟨_, rfl⟩
  have HW0 : Hid (w0 = ((w.alloc (Obj.cells #[.int .i64 n.b, .slice po n.p.length pc, .slice co n.c.length cc, .int .i64 n.a] 41)).alloc (Obj.cells #[.int .i64 n.b, .slice po n.p.length pc, .slice co n.c.length cc] 39)).alloc (Obj.cells #[.int .i64 J.n.b, .slice ro J.n.p.length rc, .slice so J.n.c.length sc] 39)) := hw0
  have HB0 : Hid (Below w.heap.size w w0) := by show Below _ _ _; rw [hw0]; exact below_trans (below_trans (below_alloc _ _) (below_alloc _ _)) (below_alloc _ _)
  have HN : Hid (w0.heap[w.heap.size]? = some (.cells #[.int .i64 n.b, .slice po n.p.length pc, .slice co n.c.length cc, .int .i64 n.a] 41 (0, 0))) := by show _ = _; rw [hw0]; exact alloc_old (alloc_old (alloc_at rfl))
  have HT : Hid (w0.heap[w.heap.size + 1]? = some (.cells #[.int .i64 n.b, .slice po n.p.length pc, .slice co n.c.length cc] 39 (0, 0))) := by show _ = _; rw [hw0]; exact alloc_old (alloc_at (by simp))
  have HO : Hid (w0.heap[w.heap.size + 1 + 1]? = some (.cells #[.int .i64 J.n.b, .slice ro J.n.p.length rc, .slice so J.n.c.length sc] 39 (0, 0))) := by show _ = _; rw [hw0]; exact alloc_at (by simp)
  have HM : Hid (RM K w0 jb (.slice ro J.n.p.length rc) (.slice so J.n.c.length sc) dv q J) := h.below HB0.out
  have HP : Hid (Nv w0 (.slice po n.p.length pc) n.p) := hp.below HB0.out
  have HC : Hid (Nv w0 (.slice co n.c.length cc) n.c) := hc.below HB0.out
  have c2 : w.cell? ⟨jb, 2, none⟩ = some (.int .i64 J.n.b) := by rw [h.cell]; rfl
  have c3 : w.cell? ⟨jb, 3, none⟩ = some (.slice ro J.n.p.length rc) := by rw [h.cell]; rfl
  have c4 : w.cell? ⟨jb, 4, none⟩ = some (.slice so J.n.c.length sc) := by rw [h.cell]; rfl
  have hjl : jb < w.heap.size := h.kl _ h.kj
  have hjn : ¬ jb = w.heap.size := by omega
  have hjn1 : ¬ jb = w.heap.size + 1 := by omega
  have HKK : Hid (∀ w1, Below w0.heap.size w0 w1 → w1.cell? ⟨w.heap.size + 1, 2, none⟩ = some (.slice co n.c.length cc) ∧ w1.cell? ⟨w.heap.size + 1 + 1, 2, none⟩ = some (.slice so J.n.c.length sc)) := fun w1 hB => ⟨by rw [blk_cell (blk_below HT.out hB)]; rfl, by rw [blk_cell (blk_below HO.out hB)]; rfl⟩
  clear h hp hc hw0
  go_enter Try.func48, Try.ntmps48
  go_upto_region 3 with fail
  rw [← HW0.out]
  have k3 : ∀ wx, Below w0.heap.size w0 wx → wx.cell? ⟨w.heap.size, 3, none⟩ = some (.int .i64 n.a) := fun wx hb => by rw [blk_cell (blk_below HN.out hb)]; rfl
  have d5 : ∀ wx, Below w0.heap.size w0 wx → wx.cell? ⟨jb, 5, none⟩ = some (.int .i64 J.n.a) := fun wx hb => by rw [(HM.out.below hb).cell]; rfl
  clear c2 c3 c4
  refine wp_region_noPanic ?_
  refine wp_region_held_drew (S := fun wx => Below w0.heap.size w0 wx) (by kernel_rfl) ?_ (fun hHeld => ?_)
  · exact below_drewN w0 1
  refine wpAnyH_take (i := 0) (oi := ⟨some 14, _, _, _, _, _⟩) (v := ?_) rfl (by kernel_rfl) (by kernel_rfl) (by kernel_rfl) (fun _ _ _ h => h) (Or.inl ⟨by rfl, ?_⟩) hHeld ?_
  rotate_left
  · intro w hSw; (try dsimp only at hSw); go_simp; all_goals (with_reducible rfl)
  try simp only [Act.put, List.setIfInBounds_toArray, List.set_cons_zero, List.set_cons_succ]
  refine wpAnyH_take (i := 1) (oi := ⟨some 15, _, _, _, _, _⟩) (v := ?_) rfl (by kernel_rfl) (by kernel_rfl) (by kernel_rfl) (fun _ _ _ h => h) (Or.inl ⟨by rfl, ?_⟩) hHeld ?_
  rotate_left
  · intro w hSw; (try dsimp only at hSw); go_simp; all_goals (with_reducible rfl)
  try simp only [Act.put, List.setIfInBounds_toArray, List.set_cons_zero, List.set_cons_succ]
  refine wpAnyH_take (i := 2) (oi := ⟨some 16, _, _, _, _, _⟩) (v := ?_) rfl (by kernel_rfl) (by kernel_rfl) (by kernel_rfl) (fun _ _ _ h => h) (Or.inl ⟨by rfl, ?_⟩) hHeld ?_
  rotate_left
  · intro w hSw; (try dsimp only at hSw); go_simp; all_goals (with_reducible rfl)
  try simp only [Act.put, List.setIfInBounds_toArray, List.set_cons_zero, List.set_cons_succ]
  refine wpAnyH_take (i := 3) (oi := ⟨some 17, _, _, _, _, _⟩) (v := ?_) rfl (by kernel_rfl) (by kernel_rfl) (by kernel_rfl) (fun _ _ _ h => h) (Or.inl ⟨by rfl, ?_⟩) hHeld ?_
  rotate_left
  · intro w hSw; (try dsimp only at hSw); go_simp; all_goals (with_reducible rfl)
  try simp only [Act.put, List.setIfInBounds_toArray, List.set_cons_zero, List.set_cons_succ]
  refine wpAnyH_take (i := 4) (oi := ⟨some 18, _, _, _, _, _⟩) (v := ?_) rfl (by kernel_rfl) (by kernel_rfl) (by kernel_rfl) (fun _ _ _ h => h) (Or.inl ⟨by rfl, ?_⟩) hHeld ?_
  rotate_left
  · intro w hSw; (try dsimp only at hSw); go_simp; all_goals (with_reducible rfl)
  try simp only [Act.put, List.setIfInBounds_toArray, List.set_cons_zero, List.set_cons_succ]
  refine wpAnyH_take (i := 5) (oi := ⟨some 19, _, _, _, _, _⟩) (v := ?_) rfl (by kernel_rfl) (by kernel_rfl) (by kernel_rfl) (fun _ _ _ h => h) (Or.inl ⟨by rfl, ?_⟩) hHeld ?_
  rotate_left
  · intro w hSw; (try dsimp only at hSw); go_simp; all_goals (with_reducible rfl)
  try simp only [Act.put, List.setIfInBounds_toArray, List.set_cons_zero, List.set_cons_succ]
  refine wpAnyH_take (i := 6) (oi := ⟨some 20, _, _, _, _, _⟩) (v := ?_) rfl (by kernel_rfl) (by kernel_rfl) (by kernel_rfl) (fun _ _ _ h => h) (Or.inl ⟨by rfl, ?_⟩) hHeld ?_
  rotate_left
  · intro w hSw; (try dsimp only at hSw); go_simp; all_goals (with_reducible rfl)
  try simp only [Act.put, List.setIfInBounds_toArray, List.set_cons_zero, List.set_cons_succ]
  refine wpAnyH_take (i := 7) (oi := ⟨some 21, _, _, _, _, _⟩) (v := ?_) rfl (by kernel_rfl) (by kernel_rfl) (by kernel_rfl) (fun _ _ _ h => h) (Or.inl ⟨by rfl, ?_⟩) hHeld ?_
  rotate_left
  · intro w hSw; (try dsimp only at hSw); go_simp; all_goals (with_reducible rfl)
  try simp only [Act.put, List.setIfInBounds_toArray, List.set_cons_zero, List.set_cons_succ]
  refine wpAnyH_done (by kernel_rfl) ?_ _
  refine NoPanic.normal ?_
  obtain ⟨wd, hwd⟩ : ∃ wd, wd = w0.drew := ⟨_, rfl⟩
  have hBd : Below w0.heap.size w0 wd := by rw [hwd]; exact below_drewN w0 1
  rw [← hwd]
  have t0 : wd.cell? ⟨w.heap.size + 1, 0, none⟩ = some (.int .i64 n.b) := by rw [blk_cell (blk_below HT.out hBd)]; rfl
  have t1 : wd.cell? ⟨w.heap.size + 1, 1, none⟩ = some (.slice po n.p.length pc) := by rw [blk_cell (blk_below HT.out hBd)]; rfl
  have o0 : wd.cell? ⟨w.heap.size + 1 + 1, 0, none⟩ = some (.int .i64 J.n.b) := by rw [blk_cell (blk_below HO.out hBd)]; rfl
  have o1 : wd.cell? ⟨w.heap.size + 1 + 1, 1, none⟩ = some (.slice ro J.n.p.length rc) := by rw [blk_cell (blk_below HO.out hBd)]; rfl
  have o2 : wd.cell? ⟨w.heap.size + 1 + 1, 2, none⟩ = some (.slice so J.n.c.length sc) := by rw [blk_cell (blk_below HO.out hBd)]; rfl
  have HBD : Hid (Below w0.heap.size w0 wd) := hBd
  have HE0 : Hid (Below w.heap.size w wd) := below_trans HB0.out hBd
  clear hwd hBd k3 d5
  by_cases ha : n.a < J.n.a
  · have HD : Hid (folB n J.n = false) := by show _ = _; unfold folB; rw [decide_eq_false (by omega)]; rfl
    go_wp2_with fail
    go_ret
    exact ⟨by rw [HD.out]; rfl, HE0.out⟩
  have HF : Hid (folB n J.n = (if n.b = J.n.b then decide (n.p = J.n.p) && decide (n.c = J.n.c) else decide (n.b = J.n.b + 1) && decide (n.p = J.n.c))) := by show _ = _; unfold folB; rw [decide_eq_true (by omega), Bool.true_and]
  by_cases hbb : n.b = J.n.b
  · have hbt : (n.b == J.n.b) = true := by simp [hbb]
    have HG : Hid (folB n J.n = (decide (n.p = J.n.p) && decide (n.c = J.n.c))) := by show _ = _; rw [HF.out, if_pos hbb]
    clear hbb
    by_cases hPR : n.p = J.n.p
    · have HX : Hid (decide (n.p = J.n.p) = true) := decide_eq_true hPR
      clear hPR
      go_wp2_with fail
      refine (rints_walk (HP.out.below HBD.out) (HM.out.np.below HBD.out)).mono ?_
      rw [HX.out]
      rintro e w1 ⟨rfl, hB1⟩
      obtain ⟨y2, z2⟩ := HKK.out w1 (below_trans HBD.out hB1)
      go_wp2_with fail
      refine (rints_walk ((HC.out.below HBD.out).below hB1) ((HM.out.nc.below HBD.out).below hB1)).mono ?_
      rintro e w2 ⟨rfl, hB2⟩
      go_wp2_with fail
      go_ret
      exact ⟨by rw [HG.out, HX.out, Bool.true_and]; rfl, below_trans HE0.out (below_trans hB1 hB2)⟩
    · have HX : Hid (decide (n.p = J.n.p) = false) := decide_eq_false hPR
      clear hPR
      go_wp2_with fail
      refine (rints_walk (HP.out.below HBD.out) (HM.out.np.below HBD.out)).mono ?_
      rw [HX.out]
      rintro e w1 ⟨rfl, hB1⟩
      go_wp2_with fail
      go_ret
      exact ⟨by rw [HG.out, HX.out]; rfl, below_trans HE0.out hB1⟩
  · have hbt : (n.b == J.n.b) = false := by simp [hbb]
    have HG : Hid (folB n J.n = (decide (n.b = J.n.b + 1) && decide (n.p = J.n.c))) := by show _ = _; rw [HF.out, if_neg hbb]
    clear hbb
    have r1 : IntKind.i64.wrap (J.n.b + 1) = J.n.b + 1 := wrapU (by have := HB1.out; omega) (by have := HB1.out; omega)
    by_cases hn1 : n.b = J.n.b + 1
    · have hnt : (n.b == J.n.b + 1) = true := by simp [hn1]
      have HX : Hid (decide (n.b = J.n.b + 1) = true) := decide_eq_true hn1
      clear hn1
      go_wp2_with fail
      refine (rints_walk (HP.out.below HBD.out) (HM.out.nc.below HBD.out)).mono ?_
      rintro e w1 ⟨rfl, hB1⟩
      go_wp2_with fail
      go_ret
      exact ⟨by rw [HG.out, HX.out, Bool.true_and]; rfl, below_trans HE0.out hB1⟩
    · have hnt : (n.b == J.n.b + 1) = false := by simp [hn1]
      have HX : Hid (decide (n.b = J.n.b + 1) = false) := decide_eq_false hn1
      clear hn1
      go_wp2_with fail
      go_ret
      exact ⟨by rw [HG.out, HX.out]; rfl, HE0.out⟩
end

end Go.Proofs.Ytnnammlipfappaa


