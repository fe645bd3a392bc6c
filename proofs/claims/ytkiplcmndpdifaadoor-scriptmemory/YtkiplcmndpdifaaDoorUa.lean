/- ScriptBack, walked. Printed by gen_ua21.py. -/
import Derived.Test.YtkiplcmndpdifaaDoorTk

import Derived.Test.YtkiplcmndpdifaaDoorTh

namespace Go.Proofs.YtkiplcmndpdifaaDoor

open Go.RowKit

attribute [local go_sem] run_store_float


theorem pl_cells {w : World} {g : Nat} {p : Pl} {ov : Value} {t : TypeId} {fr : Nat × Nat} (h : w.heap[g]? = some (.cells (PlC p ov) t fr)) : w.cell? ⟨g, 0, none⟩ = some (.int .i64 p.P) ∧ w.cell? ⟨g, 1, none⟩ = some (.int .i64 p.S) ∧ w.cell? ⟨g, 2, none⟩ = some (.int .i64 p.W) ∧ w.cell? ⟨g, 3, none⟩ = some ov ∧ w.cell? ⟨g, 4, none⟩ = some (.int .i64 p.A) ∧ w.cell? ⟨g, 5, none⟩ = some (.int .i64 p.B) ∧ w.cell? ⟨g, 6, none⟩ = some (.int .i64 p.N) ∧ w.cell? ⟨g, 7, none⟩ = some (.int .i64 p.G) :=
  ⟨cell_of_row w g 0 _ t fr h, cell_of_row w g 1 _ t fr h, cell_of_row w g 2 _ t fr h, cell_of_row w g 3 _ t fr h, cell_of_row w g 4 _ t fr h, cell_of_row w g 5 _ t fr h, cell_of_row w g 6 _ t fr h, cell_of_row w g 7 _ t fr h⟩


theorem rem_n (a : Int) (n : Nat) : ∃ k : Nat, k ≤ n ∧ (IntKind.u64.wrap a).tmod ((n : Int) + 1) = (k : Int) ∧ (IntKind.u64.wrap a) % ((n : Int) + 1) = (k : Int) := by
  have h0 : 0 ≤ IntKind.u64.wrap a := by rw [IntKind.wrap_u64]; omega
  have h1 := Int.emod_lt_of_pos (IntKind.u64.wrap a) (show (0 : Int) < (n : Int) + 1 by omega)
  have h2 := Int.emod_nonneg (IntKind.u64.wrap a) (show (n : Int) + 1 ≠ 0 by omega)
  refine ⟨((IntKind.u64.wrap a) % ((n : Int) + 1)).toNat, by omega, ?_, by omega⟩
  rw [Int.tmod_eq_emod_of_nonneg h0]
  omega


theorem Gl.take {α : Type} {w : World} {ao : Option Addr} {n : Nat} {f : α → List Value} {l : List α} (h : Gl w ao n f l) (k : Nat) : Gl w ao n f (l.take k) := by
  intro i hi
  rw [List.length_take] at hi
  obtain ⟨b, off, e, hc⟩ := h i (by omega)
  exact ⟨b, off, e, fun j hj => by rw [List.getElem_take]; exact hc j hj⟩


/-- The first k elements of a slice. -/
theorem Gv.take {α : Type} {w : World} {ao : Option Addr} {m cap n : Nat} {f : α → List Value} {l : List α} (h : Gv w (.slice ao m cap) n f l) {k : Nat} (hk : k ≤ l.length) : Gv w (.slice ao k cap) n f (l.take k) := by
  obtain ⟨a, c, e, h1, h2, h3, h4⟩ := h
  cases e
  exact ⟨_, _, by rw [List.length_take, Nat.min_eq_left hk], by rw [List.length_take]; omega, h2, h3, h4.take k⟩


set_option maxRecDepth 100000 in
set_option maxHeartbeats 8000000 in
theorem back_walk {p : Pl} {ops : List Og} {sts : List Sp} {ov sv : Value} {cut : Int} {w : World} (hov : OVw w ov ops) (hsv : SVw w sv sts) (hp : p.ok) (ho : ∀ x ∈ ops, x.ok) (hs : ∀ x ∈ sts, x.ok) (htb : Tb w) :
    Calls Tryd.prog 3 #[PlV p ov, sv, .int .i64 cut] w fun e w' => e = .returned (.bool true) ∧ Below w.heap.size w w' := by
  have HT : Hid (Tb w) := htb
  have HO : Hid (OVw w ov ops) := hov
  have HS : Hid (SVw w sv sts) := hsv
  have HR : Hid (p.ok ∧ (∀ x ∈ ops, x.ok) ∧ (∀ x ∈ sts, x.ok)) := ⟨hp, ho, hs⟩
  obtain ⟨oa, oc, rfl, _, _, _, _⟩ := hov
  obtain ⟨sa, sc, rfl, hsc, hsm, _, _⟩ := hsv
  obtain ⟨n, hn⟩ : ∃ n, n = sts.length := ⟨_, rfl⟩
  rw [← hn] at HS hsc ⊢
  have HN : Hid (n = sts.length ∧ n ≤ sc ∧ sc ≤ maxLen) := ⟨hn, hsc, hsm⟩
  obtain ⟨g, hg⟩ : ∃ g, g = w.heap.size := ⟨_, rfl⟩
  obtain ⟨w0, hw0⟩ : ∃ w0, w0 = w.alloc (.cells #[.int .i64 p.P, .int .i64 p.S, .int .i64 p.W, .slice oa ops.length oc, .int .i64 p.A, .int .i64 p.B, .int .i64 p.N, .int .i64 p.G] 24) := ⟨_, rfl⟩
  have HW0 : Hid (w0 = w.alloc (.cells #[.int .i64 p.P, .int .i64 p.S, .int .i64 p.W, .slice oa ops.length oc, .int .i64 p.A, .int .i64 p.B, .int .i64 p.N, .int .i64 p.G] 24) ∧ g = w.heap.size) := ⟨hw0, hg⟩
  have HB0 : Hid (Below w.heap.size w w0 ∧ w0.heap[g]? = some (.cells (PlC p (.slice oa ops.length oc)) 24 (0, 0))) := by rw [hw0]; exact ⟨below_alloc _ _, alloc_at hg⟩
  unfold PlV
  clear htb hp ho hs hn hsc hsm hg hw0
  go_enter Tryd.func3, Tryd.ntmps3
  go_wp2_with fail
  rw [← HW0.out.2, ← HW0.out.1]
  refine (awake_walk (HT.out.below HB0.out.1)).mono ?_
  rintro e9 w1 ⟨rfl, hB1⟩
  have HB1 : Hid (Below w0.heap.size w0 w1) := hB1
  obtain ⟨c0, c1, c2, c3, c4, c5, c6, c7⟩ := pl_cells (blk_below HB0.out.2 hB1)
  clear hB1
  by_cases h300 : 300 < n
  · have hi : (300 : Int) < (n : Int) := by omega
    clear h300
    go_wp2_with fail
    go_ret
    exact ⟨rfl, below_trans HB0.out.1 HB1.out⟩
  · have hi : ¬ (300 : Int) < (n : Int) := by omega
    have HN3 : Hid (n ≤ 300) := by show n ≤ 300; omega
    clear h300
    go_wp2_with fail
    have HPR := print_walk (p := p) (ops := ops) (sts := sts) (ov := .slice oa ops.length oc) (sv := .slice sa n sc) (w := w1) (HO.out.below (fun _ => rfl) (below_trans HB0.out.1 HB1.out)) (HS.out.below (fun _ => rfl) (below_trans HB0.out.1 HB1.out)) HR.out.1 HR.out.2.1 HR.out.2.2 (HT.out.below (below_trans HB0.out.1 HB1.out))
    simp only [PlV] at HPR
    refine HPR.mono ?_
    clear HPR c0 c1 c2 c3 c4 c5 c6 c7
    intro e9 w2 h
    unfold PrintGot at h
    by_cases hE : printE p ops sts = 0
    · obtain ⟨q1, q2, q3, q4⟩ := print_ok hE
      have HQ : Hid (parseT (bodyT p ops sts) = .ok ⟨true, p, ops, sts⟩) := parse_back HR.out.1 HR.out.2.1 HR.out.2.2 q2 q3 q4
      have HPP : Hid (∀ k, printE p ops (sts.take k) = 0 ∧ printT p ops (sts.take k) = bodyT p ops (sts.take k)) := fun k => print_pre hE k
      rw [hE, q1] at h
      obtain ⟨rfl, hB2⟩ := h
      have HB2 : Hid (Below w0.heap.size w0 w2) := below_trans HB1.out hB2
      obtain ⟨B, hBB⟩ : ∃ B, B = bodyT p ops sts := ⟨_, rfl⟩
      rw [← hBB] at HQ ⊢
      obtain ⟨t, ht⟩ : ∃ t : ByteArray, t = ⟨B.toArray⟩ := ⟨_, rfl⟩
      obtain ⟨m, hm⟩ : ∃ m, m = B.length := ⟨_, rfl⟩
      have htsz : t.size = m := by rw [ht, size_mk, hm]
      have HTT : Hid (t = ⟨B.toArray⟩ ∧ m = B.length ∧ B = bodyT p ops sts) := ⟨ht, hm, hBB⟩
      simp only [S]
      rw [← ht]
      have HPA : Hid (Calls Tryd.prog 9 #[.string t] w2 (ParseGot (.ok ⟨true, p, ops, sts⟩) w2)) := by
        rw [ht, ← HQ.out]
        exact parse_walk B w2 (HT.out.below (below_trans HB0.out.1 HB2.out))
      clear q1 q2 q3 q4 hE hB2 hBB ht hm HQ HB1
      go_wp2_with fail
      refine HPA.out.mono ?_
      rintro e9 w3 ⟨ov2, sv2, rfl, ho2, hs2, _, hB3⟩
      clear HPA
      have HB3 : Hid (Below w0.heap.size w0 w3) := below_trans HB2.out hB3
      have HO2 : Hid (OVw w3 ov2 ops) := own_gv (f := opF) (n := 3) (l := ops) (fun _ => rfl) ho2
      have HS2 : Hid (SVw w3 sv2 sts) := own_gv (f := stF) (n := 5) (l := sts) (fun _ => rfl) hs2
      obtain ⟨oa2, oc2, rfl, _, _⟩ := own_form21 ho2
      obtain ⟨sa2, sc2, rfl, _, _⟩ := own_form21 hs2
      dsimp only at HO2 HS2 ⊢
      rw [← HN.out.1] at HS2 ⊢
      obtain ⟨c0, c1, c2, c3, c4, c5, c6, c7⟩ := pl_cells (blk_below HB0.out.2 HB3.out)
      have hgl : g < w3.heap.size := cell_lt c0
      have hgn : ¬ g = w3.heap.size := by omega
      simp only [PlV]
      clear ho2 hs2 hB3 HB2
      go_wp2_with fail
      have HPL := plans_walk (p := p) (l := ops) (av := .slice oa ops.length oc) (bv := .slice oa2 ops.length oc2) (w := w3.alloc (.cells #[.int .i64 p.P, .int .i64 p.S, .int .i64 p.W, .slice oa2 ops.length oc2, .int .i64 p.A, .int .i64 p.B, .int .i64 p.N, .int .i64 p.G] 24)) (HO.out.below (fun _ => rfl) (below_trans (below_trans HB0.out.1 HB3.out) (below_alloc _ _))) (HO2.out.below (fun _ => rfl) (below_alloc _ _))
      simp only [PlV] at HPL
      refine HPL.mono ?_
      clear HPL c0 c1 c2 c3 c4 c5 c6 c7 hgl hgn
      rintro e9 w4 ⟨rfl, hB4⟩
      have HB4 : Hid (Below w3.heap.size w3 w4) := below_trans (below_alloc _ _) hB4
      clear hB4
      go_wp2_with fail
      refine (same_walk (l := sts) (HS2.out.below (fun _ => rfl) HB4.out) (HS.out.below (fun _ => rfl) (below_trans (below_trans HB0.out.1 HB3.out) HB4.out))).mono ?_
      rintro e9 w5 ⟨rfl, hB5⟩
      have HB5 : Hid (Below w0.heap.size w0 w5) := below_trans (below_trans HB3.out HB4.out) hB5
      clear hB5 HB4 HB3 HO2 HS2
      obtain ⟨k, hk, hr1, hr2⟩ := rem_n cut n
      have hw1 : IntKind.u64.wrap ((n : Int) + 1) = (n : Int) + 1 := by rw [IntKind.wrap_u64]; have := HN3.out; omega
      have hw2 : IntKind.i64.wrap ((n : Int) + 1) = (n : Int) + 1 := by rw [IntKind.wrap_i64]; have := HN3.out; omega
      have hw3 : IntKind.i64.wrap (k : Int) = (k : Int) := by rw [IntKind.wrap_i64]; have := HN3.out; omega
      have hnz : ¬ ((n : Int) + 1 = 0) := by omega
      have hksc : (k : Int) ≤ (sc : Int) := by have := HN.out.2.1; omega
      have hksc' : k ≤ sc := by omega
      have HK : Hid (k ≤ n) := hk
      clear hk
      go_upto_region 12 with fail
      refine wp_region_noPanic ?_
      refine wp_region_held_drew (S := fun wx => wx.cell? ⟨g, 0, none⟩ = some (.int .i64 p.P) ∧ wx.cell? ⟨g, 1, none⟩ = some (.int .i64 p.S) ∧ wx.cell? ⟨g, 2, none⟩ = some (.int .i64 p.W) ∧ wx.cell? ⟨g, 3, none⟩ = some (.slice oa ops.length oc) ∧ wx.cell? ⟨g, 4, none⟩ = some (.int .i64 p.A) ∧ wx.cell? ⟨g, 5, none⟩ = some (.int .i64 p.B) ∧ wx.cell? ⟨g, 6, none⟩ = some (.int .i64 p.N) ∧ wx.cell? ⟨g, 7, none⟩ = some (.int .i64 p.G)) (by kernel_rfl) ?_ (fun hHeld => ?_)
      · exact (pl_cells (blk_below HB0.out.2 (below_trans HB5.out (below_drewN w5 1))))
      refine wpAnyH_take (i := 0) (oi := ⟨some 75, _, _, _, _, _⟩) (v := ?_) rfl (by kernel_rfl) (by kernel_rfl) (by kernel_rfl) (fun _ _ _ h => h) (Or.inl ⟨by rfl, ?_⟩) hHeld ?_
      rotate_left
      · intro w hSw; (try dsimp only at hSw); go_simp; all_goals (with_reducible rfl)
      try simp only [Act.put, List.setIfInBounds_toArray, List.set_cons_zero, List.set_cons_succ]
      refine wpAnyH_take (i := 1) (oi := ⟨some 76, _, _, _, _, _⟩) (v := ?_) rfl (by kernel_rfl) (by kernel_rfl) (by kernel_rfl) (fun _ _ _ h => h) (Or.inl ⟨by rfl, ?_⟩) hHeld ?_
      rotate_left
      · intro w hSw; (try dsimp only at hSw); go_simp; all_goals (with_reducible rfl)
      try simp only [Act.put, List.setIfInBounds_toArray, List.set_cons_zero, List.set_cons_succ]
      refine wpAnyH_take (i := 2) (oi := ⟨some 77, _, _, _, _, _⟩) (v := ?_) rfl (by kernel_rfl) (by kernel_rfl) (by kernel_rfl) (fun _ _ _ h => h) (Or.inl ⟨by rfl, ?_⟩) hHeld ?_
      rotate_left
      · intro w hSw; (try dsimp only at hSw); go_simp; all_goals (with_reducible rfl)
      try simp only [Act.put, List.setIfInBounds_toArray, List.set_cons_zero, List.set_cons_succ]
      refine wpAnyH_take (i := 3) (oi := ⟨some 78, _, _, _, _, _⟩) (v := ?_) rfl (by kernel_rfl) (by kernel_rfl) (by kernel_rfl) (fun _ _ _ h => h) (Or.inl ⟨by rfl, ?_⟩) hHeld ?_
      rotate_left
      · intro w hSw; (try dsimp only at hSw); go_simp; all_goals (with_reducible rfl)
      try simp only [Act.put, List.setIfInBounds_toArray, List.set_cons_zero, List.set_cons_succ]
      refine wpAnyH_ready (rs := [4]) (by kernel_rfl) (by simp) ?_
      refine AllReadyH.cons (o := ⟨some 79, _, _, _, _, _⟩) rfl (fun K hK => ?_) AllReadyH.nil
      go_simp
      have HPR := print_walk (p := p) (ops := ops) (sts := sts.take k) (ov := .slice oa ops.length oc) (sv := .slice sa k sc) (w := w5.drew) (HO.out.below (fun _ => rfl) (below_trans (below_trans HB0.out.1 HB5.out) (below_drew _))) ((HS.out.take (by have := HN.out.1; have := HK.out; omega)).below (fun _ => rfl) (below_trans (below_trans HB0.out.1 HB5.out) (below_drew _))) HR.out.1 HR.out.2.1 (fun x hx => HR.out.2.2 x (List.mem_of_mem_take hx)) (HT.out.below (below_trans (below_trans HB0.out.1 HB5.out) (below_drew _)))
      simp only [PlV] at HPR
      refine HPR.mono ?_
      clear HPR
      intro e9 w6 h
      unfold PrintGot at h
      rw [(HPP.out k).1, (HPP.out k).2] at h
      obtain ⟨rfl, hB6⟩ := h
      have HB6 : Hid (Below w0.heap.size w0 w6) := below_trans (below_trans HB5.out (below_drew _)) hB6
      clear hB6
      refine hK.out _ _ ?_ (fun hHeld => ?_)
      · exact (pl_cells (blk_below HB0.out.2 HB6.out))
      clear hK K
      try simp only [Act.put, List.setIfInBounds_toArray, List.set_cons_zero, List.set_cons_succ]
      refine wpAnyH_take (i := 5) (oi := ⟨some 74, _, _, _, _, _⟩) (v := ?_) rfl (by kernel_rfl) (by kernel_rfl) (by kernel_rfl) (fun _ _ _ h => h) (Or.inl ⟨by rfl, ?_⟩) hHeld ?_
      rotate_left
      · intro w hSw; (try dsimp only at hSw); go_simp; all_goals (with_reducible rfl)
      try simp only [Act.put, List.setIfInBounds_toArray, List.set_cons_zero, List.set_cons_succ]
      refine wpAnyH_take (i := 6) (oi := ⟨some 80, _, _, _, _, _⟩) (v := ?_) rfl (by kernel_rfl) (by kernel_rfl) (by kernel_rfl) (fun _ _ _ h => h) (Or.inl ⟨by rfl, ?_⟩) hHeld ?_
      rotate_left
      · intro w hSw; (try dsimp only at hSw); go_simp; all_goals (with_reducible rfl)
      try simp only [Act.put, List.setIfInBounds_toArray, List.set_cons_zero, List.set_cons_succ]
      refine wpAnyH_take (i := 7) (oi := ⟨some 81, _, _, _, _, _⟩) (v := ?_) rfl (by kernel_rfl) (by kernel_rfl) (by kernel_rfl) (fun _ _ _ h => h) (Or.inl ⟨by rfl, ?_⟩) hHeld ?_
      rotate_left
      · intro w hSw; (try dsimp only at hSw); go_simp; all_goals (with_reducible rfl)
      try simp only [Act.put, List.setIfInBounds_toArray, List.set_cons_zero, List.set_cons_succ]
      refine wpAnyH_take (i := 8) (oi := ⟨some 13, _, _, _, _, _⟩) (v := ?_) rfl (by kernel_rfl) (by kernel_rfl) (by kernel_rfl) (fun _ _ _ h => h) (Or.inl ⟨by rfl, ?_⟩) hHeld ?_
      rotate_left
      · intro w hSw; (try dsimp only at hSw); go_simp; all_goals (with_reducible rfl)
      try simp only [Act.put, List.setIfInBounds_toArray, List.set_cons_zero, List.set_cons_succ]
      refine wpAnyH_take (i := 9) (oi := ⟨some 8, _, _, _, _, _⟩) (v := ?_) rfl (by kernel_rfl) (by kernel_rfl) (by kernel_rfl) (fun _ _ _ h => h) (Or.inl ⟨by rfl, ?_⟩) hHeld ?_
      rotate_left
      · intro w hSw; (try dsimp only at hSw); go_simp; all_goals (with_reducible rfl)
      try simp only [Act.put, List.setIfInBounds_toArray, List.set_cons_zero, List.set_cons_succ]
      refine wpAnyH_done (by kernel_rfl) ?_ _
      refine NoPanic.normal ?_
      obtain ⟨B2, hB2⟩ : ∃ B2, B2 = bodyT p ops (sts.take k) := ⟨_, rfl⟩
      obtain ⟨R, hR⟩ : ∃ R, B = B2 ++ R := ⟨_, by rw [HTT.out.2.2, hB2]; exact body_pre p ops sts k⟩
      obtain ⟨u, hu⟩ : ∃ t : ByteArray, t = ⟨B2.toArray⟩ := ⟨_, rfl⟩
      obtain ⟨m2, hm2⟩ : ∃ m, m = B2.length := ⟨_, rfl⟩
      have husz : u.size = m2 := by rw [hu, size_mk, hm2]
      have hle : (m2 : Int) ≤ (m : Int) := by have := HTT.out.2.1; rw [hR, List.length_append] at this; omega
      have hle2 : m2 ≤ m := by omega
      have hex : t.extract 0 m2 = u := by
        rw [HTT.out.1, ext_mid, hu, hR]
        simp [hm2]
      simp only [S]
      rw [← hB2, ← hu]
      clear hR hB2 hu hm2
      go_wp2_with fail
      go_ret
      exact ⟨rfl, below_trans HB0.out.1 HB6.out⟩
    · have hv := printE_vals (p := p) (ops := ops) (sts := sts) (by have h1 := HN3.out; have h2 := HN.out.1; omega)
      rw [printT_bad hE] at h
      have hvv : printE p ops sts = 200 ∨ printE p ops sts = 1 ∨ printE p ops sts = 6 := hv.resolve_left hE
      clear hv hE
      obtain ⟨rfl, hB2⟩ := h
      have HB2 : Hid (Below w0.heap.size w0 w2) := below_trans HB1.out hB2
      clear hB2
      simp only [S]
      rcases hvv with hv | hv | hv
      all_goals
        rw [hv]
        clear hv
        go_wp2_with fail
        go_ret
        exact ⟨rfl, below_trans HB0.out.1 HB2.out⟩
end Go.Proofs.YtkiplcmndpdifaaDoor


