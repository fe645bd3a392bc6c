/- Contract of the reference's Apply. -/
import Derived.Test.YtnppgeokbhecfaaCe
namespace Go.Proofs.Ytnppgeokbhecfaa
open Ieee Go.RowKit

set_option maxRecDepth 100000 in
set_option maxHeartbeats 4000000 in
theorem rapply_walk (k : Int) {c : Cl} (hc : c.ok) (b : Int) {v : Vl} (hv : v.ok) (w : World) :
    Calls Try.prog 10 #[.int .i64 k, .agg #[.int .u64 c.k, .bool c.p.h, .int .u64 c.p.b, .bool c.c.h, .int .u64 c.c.b, .int .i64 c.n], .int .i64 b, .agg #[.bool v.h, .int .u64 v.b]] w fun e w' => e = .returned (.tuple #[.agg #[.int .u64 (appC k c b v).k, .bool (appC k c b v).p.h, .int .u64 (appC k c b v).p.b, .bool (appC k c b v).c.h, .int .u64 (appC k c b v).c.b, .int .i64 (appC k c b v).n], .int .i64 (appI k c b)]) ∧ Below w.heap.size w w' := by
  cases hk : knownB k
  · have e : appI k c b = 1 := if_pos (.inl hk)
    have e2 : appC k c b v = zeroC := by unfold appC; rw [e]; rfl
    rw [e, e2]
    clear e e2
    unfold zeroC noV
    go_enter Try.func10, Try.ntmps10
    go_wp2_with (go_at_call 24; refine (rknown_walk _ _).mono ?_; rintro e w' ⟨rfl, rfl⟩)
    all_goals (refine bodyPost_ret (by simp [results, Try.results10, go_sem]) rfl ⟨rfl, ?_⟩; exact below_three _ _ _ _)
  by_cases hb1 : b < 1
  · have e : appI k c b = 1 := if_pos (.inr hb1)
    have e2 : appC k c b v = zeroC := by unfold appC; rw [e]; rfl
    rw [e, e2]
    clear e e2
    unfold zeroC noV
    go_enter Try.func10, Try.ntmps10
    go_wp2_with (go_at_call 24; refine (rknown_walk _ _).mono ?_; rintro e w' ⟨rfl, rfl⟩)
    all_goals (refine bodyPost_ret (by simp [results, Try.results10, go_sem]) rfl ⟨rfl, ?_⟩; exact below_three _ _ _ _)
  replace hb1 : 1 ≤ b := by omega
  by_cases h2 : b < c.n
  · have e : appI k c b = 100 := by unfold appI; rw [if_neg (by simp [hk]; omega), if_pos h2]
    have e2 : appC k c b v = zeroC := by unfold appC; rw [e]; rfl
    rw [e, e2]
    clear e e2
    unfold zeroC noV
    go_enter Try.func10, Try.ntmps10
    go_wp2_with (go_at_call 24; refine (rknown_walk _ _).mono ?_; rintro e w' ⟨rfl, rfl⟩)
    all_goals (refine bodyPost_ret (by simp [results, Try.results10, go_sem]) rfl ⟨rfl, ?_⟩; exact below_three _ _ _ _)
  have e : appI k c b = 0 := by unfold appI; rw [if_neg (by simp [hk]; omega), if_neg h2]
  have e2 : appC k c b v = ⟨c.k, aheadC c b, mergeV k (aheadC c b) v, b⟩ := by unfold appC; rw [e]; rfl
  rw [e, e2]
  clear e e2
  obtain ⟨P, hP⟩ : ∃ P, P = aheadC c b := ⟨_, rfl⟩
  have HPO : Hid P.ok := by show P.ok; rw [hP]; unfold aheadC; split; exact hc.2; exact hc.1
  have HVO : Hid v.ok := hv
  obtain ⟨M, hM⟩ : ∃ M, M = mergeV k P v := ⟨_, rfl⟩
  have HM : Hid (mergeV k P v = M) := hM.symm
  rw [← hP, ← hM]
  clear hM hv
  go_enter Try.func10, Try.ntmps10
  by_cases h3 : c.n < b
  · obtain rfl : P = c.c := by rw [hP]; exact if_pos h3
    clear hc hP
    go_upto_region 7 with (go_at_call 24; refine (rknown_walk _ _).mono ?_; rintro e w' ⟨rfl, rfl⟩)
    all_goals try (exfalso; omega)
    generalize hg : ((w.alloc (Obj.cells #[.int .u64 c.k, .bool c.c.h, .int .u64 c.c.b, .bool c.c.h, .int .u64 c.c.b, .int .i64 c.n] 26)).alloc (Obj.cells #[.bool v.h, .int .u64 v.b] 24)).alloc (Obj.cells #[.int .u64 0, .bool false, .int .u64 0, .bool false, .int .u64 0, .int .i64 0] 26) = w1
    obtain ⟨HA, HV, HZ, HB⟩ := three_cb (A := ⟨c.k, c.c, c.c, c.n⟩) (Z := zeroC) hg
    clear hg
    obtain ⟨c0, c1, c2, c3, c4, c5, zz⟩ := HA.out
    obtain ⟨v0, v1, _, _⟩ := HV.out
    obtain ⟨d0, d1, d2, d3, d4, d5, yy⟩ := HZ.out
    go_cut [9] (fun g wx => g = .int .i64 0 ∧ CB wx (w.heap.size + 1 + 1) ⟨c.k, c.c, M, b⟩ ∧ Below w.heap.size w wx)
    case first =>
      have k0 : ∀ wx, Below (w.heap.size + 1 + 1) w1 wx → wx.cell? ⟨w.heap.size, 0, none⟩ = some (.int .u64 c.k) := fun wx h => (HA.out.below h (by omega)).c0
      have k1 : ∀ wx, Below (w.heap.size + 1 + 1) w1 wx → wx.cell? ⟨w.heap.size, 1, none⟩ = some (.bool c.c.h) := fun wx h => (HA.out.below h (by omega)).c1
      have k2 : ∀ wx, Below (w.heap.size + 1 + 1) w1 wx → wx.cell? ⟨w.heap.size, 2, none⟩ = some (.int .u64 c.c.b) := fun wx h => (HA.out.below h (by omega)).c2
      have k3 : ∀ wx, Below (w.heap.size + 1 + 1) w1 wx → wx.cell? ⟨w.heap.size, 3, none⟩ = some (.bool c.c.h) := fun wx h => (HA.out.below h (by omega)).c3
      have k4 : ∀ wx, Below (w.heap.size + 1 + 1) w1 wx → wx.cell? ⟨w.heap.size, 4, none⟩ = some (.int .u64 c.c.b) := fun wx h => (HA.out.below h (by omega)).c4
      have k5 : ∀ wx, Below (w.heap.size + 1 + 1) w1 wx → wx.cell? ⟨w.heap.size, 5, none⟩ = some (.int .i64 c.n) := fun wx h => (HA.out.below h (by omega)).c5
      have k6 : ∀ wx, Below (w.heap.size + 1 + 1) w1 wx → wx.cell? ⟨w.heap.size + 1, 0, none⟩ = some (.bool v.h) := fun wx h => (HV.out.below h (by omega)).c0
      have k7 : ∀ wx, Below (w.heap.size + 1 + 1) w1 wx → wx.cell? ⟨w.heap.size + 1, 1, none⟩ = some (.int .u64 v.b) := fun wx h => (HV.out.below h (by omega)).c1
      clear c0 c1 c2 c3 c4 c5 zz v0 v1 d0 d1 d2 d3 d4 d5 yy
      refine wp_region_noPanic ?_
      refine wp_region_held_drew (S := fun wx => Below (w.heap.size + 1 + 1) w1 wx) (by kernel_rfl) ?_ (fun hHeld => ?_)
      · exact (Below.refl _ _).drew
      refine wpAnyH_take (i := 0) (oi := ⟨some 30, _, _, _, _, _⟩) (v := ?_) rfl (by kernel_rfl) (by kernel_rfl) (by kernel_rfl) (fun _ _ _ h => h) (Or.inl ⟨by rfl, ?_⟩) hHeld ?_
      rotate_left
      · intro w hSw; (try dsimp only at hSw); go_simp; all_goals (with_reducible rfl)
      try simp only [Act.put, List.setIfInBounds_toArray, List.set_cons_zero, List.set_cons_succ]
      refine wpAnyH_take (i := 1) (oi := ⟨some 31, _, _, _, _, _⟩) (v := ?_) rfl (by kernel_rfl) (by kernel_rfl) (by kernel_rfl) (fun _ _ _ h => h) (Or.inl ⟨by rfl, ?_⟩) hHeld ?_
      rotate_left
      · intro w hSw; (try dsimp only at hSw); go_simp; all_goals (with_reducible rfl)
      try simp only [Act.put, List.setIfInBounds_toArray, List.set_cons_zero, List.set_cons_succ]
      refine wpAnyH_take (i := 2) (oi := ⟨some 32, _, _, _, _, _⟩) (v := ?_) rfl (by kernel_rfl) (by kernel_rfl) (by kernel_rfl) (fun _ _ _ h => h) (Or.inl ⟨by rfl, ?_⟩) hHeld ?_
      rotate_left
      · intro w hSw; (try dsimp only at hSw); go_simp; all_goals (with_reducible rfl)
      try simp only [Act.put, List.setIfInBounds_toArray, List.set_cons_zero, List.set_cons_succ]
      refine wpAnyH_take (i := 3) (oi := ⟨some 33, _, _, _, _, _⟩) (v := ?_) rfl (by kernel_rfl) (by kernel_rfl) (by kernel_rfl) (fun _ _ _ h => h) (Or.inl ⟨by rfl, ?_⟩) hHeld ?_
      rotate_left
      · intro w hSw; (try dsimp only at hSw); go_simp; all_goals (with_reducible rfl)
      try simp only [Act.put, List.setIfInBounds_toArray, List.set_cons_zero, List.set_cons_succ]
      refine wpAnyH_take (i := 4) (oi := ⟨some 34, _, _, _, _, _⟩) (v := ?_) rfl (by kernel_rfl) (by kernel_rfl) (by kernel_rfl) (fun _ _ _ h => h) (Or.inl ⟨by rfl, ?_⟩) hHeld ?_
      rotate_left
      · intro w hSw; (try dsimp only at hSw); go_simp; all_goals (with_reducible rfl)
      try simp only [Act.put, List.setIfInBounds_toArray, List.set_cons_zero, List.set_cons_succ]
      refine wpAnyH_take (i := 5) (oi := ⟨some 35, _, _, _, _, _⟩) (v := ?_) rfl (by kernel_rfl) (by kernel_rfl) (by kernel_rfl) (fun _ _ _ h => h) (Or.inl ⟨by rfl, ?_⟩) hHeld ?_
      rotate_left
      · intro w hSw; (try dsimp only at hSw); go_simp; all_goals (with_reducible rfl)
      try simp only [Act.put, List.setIfInBounds_toArray, List.set_cons_zero, List.set_cons_succ]
      refine wpAnyH_take (i := 6) (oi := ⟨some 36, _, _, _, _, _⟩) (v := ?_) rfl (by kernel_rfl) (by kernel_rfl) (by kernel_rfl) (fun _ _ _ h => h) (Or.inl ⟨by rfl, ?_⟩) hHeld ?_
      rotate_left
      · intro w hSw; (try dsimp only at hSw); go_simp; all_goals (with_reducible rfl)
      try simp only [Act.put, List.setIfInBounds_toArray, List.set_cons_zero, List.set_cons_succ]
      refine wpAnyH_take (i := 7) (oi := ⟨some 37, _, _, _, _, _⟩) (v := ?_) rfl (by kernel_rfl) (by kernel_rfl) (by kernel_rfl) (fun _ _ _ h => h) (Or.inl ⟨by rfl, ?_⟩) hHeld ?_
      rotate_left
      · intro w hSw; (try dsimp only at hSw); go_simp; all_goals (with_reducible rfl)
      try simp only [Act.put, List.setIfInBounds_toArray, List.set_cons_zero, List.set_cons_succ]
      refine wpAnyH_take (i := 9) (oi := ⟨some 39, _, _, _, _, _⟩) (v := ?_) rfl (by kernel_rfl) (by kernel_rfl) (by kernel_rfl) (fun _ _ _ h => h) (Or.inl ⟨by rfl, ?_⟩) hHeld ?_
      rotate_left
      · intro w hSw; (try dsimp only at hSw); go_simp; all_goals (with_reducible rfl)
      try simp only [Act.put, List.setIfInBounds_toArray, List.set_cons_zero, List.set_cons_succ]
      refine wpAnyH_ready (rs := [8]) (by kernel_rfl) (by simp) ?_
      refine AllReadyH.cons (o := ⟨some 38, _, _, _, _, _⟩) rfl (fun K hK => ?_) AllReadyH.nil
      go_simp
      refine (rmerge_walk k HPO.out HVO.out _).mono ?_
      rw [HM.out]
      rintro e w9 ⟨rfl, hB9⟩
      have hS9 : Below w1.heap.size w1 w9 := below_trans (Below.refl _ _).drew hB9
      have hT9 : Below (w.heap.size + 1 + 1) w1 w9 := hS9.mono (Nat.le_of_lt (cell_lt HZ.out.c0))
      obtain ⟨d0, d1, d2, d3, d4, d5, yy⟩ := HZ.out.below hS9 (cell_lt HZ.out.c0)
      clear hB9 hHeld
      go_simp
      refine hK.out _ _ ?_ (fun hHeld => ?_)
      · exact hT9
      clear hK K
      try simp only [Act.put, List.setIfInBounds_toArray, List.set_cons_zero, List.set_cons_succ]
      refine wpAnyH_take (i := 10) (oi := ⟨some 40, _, _, _, _, _⟩) (v := ?_) rfl (by kernel_rfl) (by kernel_rfl) (by kernel_rfl) (fun _ _ _ h => h) (Or.inl ⟨by rfl, ?_⟩) hHeld ?_
      rotate_left
      · intro w hSw; (try dsimp only at hSw); go_simp; all_goals (with_reducible rfl)
      try simp only [Act.put, List.setIfInBounds_toArray, List.set_cons_zero, List.set_cons_succ]
      refine wpAnyH_ready (rs := [11]) (by kernel_rfl) (by simp) ?_
      refine AllReadyH.cons (o := ⟨none, _, _, _, _, _⟩) rfl (fun K hK => ?_) AllReadyH.nil
      go_simp
      refine hK.out _ _ ?_ (fun hHeld => ?_)
      · exact keep_cellB hT9 _ (Nat.le_refl _) _ _ _ _ _ _
      clear hK K
      try simp only [Act.put, List.setIfInBounds_toArray, List.set_cons_zero, List.set_cons_succ]
      refine wpAnyH_take (i := 12) (oi := ⟨some 9, _, _, _, _, _⟩) (v := ?_) rfl (by kernel_rfl) (by kernel_rfl) (by kernel_rfl) (fun _ _ _ h => h) (Or.inl ⟨by rfl, ?_⟩) hHeld ?_
      rotate_left
      · intro w hSw; (try dsimp only at hSw); go_simp; all_goals (with_reducible rfl)
      try simp only [Act.put, List.setIfInBounds_toArray, List.set_cons_zero, List.set_cons_succ]
      refine wpAnyH_done (by kernel_rfl) ?_ _
      refine NoPanic.normal ?_
      go_wp2_with fail
      go_meet
      exact ⟨rfl, CB.set (HZ.out.below hS9 (cell_lt HZ.out.c0)) ⟨c.k, c.c, M, b⟩, keep_cell (below_trans HB.out hS9) _ (by omega) _ _ _ _ _ _⟩
    case rest =>
      obtain ⟨rfl, hZ, hB⟩ := hcut
      have HB2 : Hid (Below w.heap.size w wc) := hB
      obtain ⟨d0, d1, d2, d3, d4, d5, yy⟩ := hZ
      clear hB HA HV HZ HB
      go_wp2_with fail
      refine bodyPost_ret (by simp [results, Try.results10, go_sem, d0, d1, d2, d3, d4, d5]) rfl ⟨rfl, HB2.out⟩
  · obtain rfl : P = c.p := by rw [hP]; exact if_neg h3
    obtain rfl : b = c.n := by omega
    clear hc hP
    go_upto_region 7 with (go_at_call 24; refine (rknown_walk _ _).mono ?_; rintro e w' ⟨rfl, rfl⟩)
    all_goals try (exfalso; omega)
    generalize hg : ((w.alloc (Obj.cells #[.int .u64 c.k, .bool c.p.h, .int .u64 c.p.b, .bool c.c.h, .int .u64 c.c.b, .int .i64 c.n] 26)).alloc (Obj.cells #[.bool v.h, .int .u64 v.b] 24)).alloc (Obj.cells #[.int .u64 0, .bool false, .int .u64 0, .bool false, .int .u64 0, .int .i64 0] 26) = w1
    obtain ⟨HA, HV, HZ, HB⟩ := three_cb (A := ⟨c.k, c.p, c.c, c.n⟩) (Z := zeroC) hg
    clear hg
    obtain ⟨c0, c1, c2, c3, c4, c5, zz⟩ := HA.out
    obtain ⟨v0, v1, _, _⟩ := HV.out
    obtain ⟨d0, d1, d2, d3, d4, d5, yy⟩ := HZ.out
    go_cut [9] (fun g wx => g = .int .i64 0 ∧ CB wx (w.heap.size + 1 + 1) ⟨c.k, c.p, M, c.n⟩ ∧ Below w.heap.size w wx)
    case first =>
      have k0 : ∀ wx, Below (w.heap.size + 1 + 1) w1 wx → wx.cell? ⟨w.heap.size, 0, none⟩ = some (.int .u64 c.k) := fun wx h => (HA.out.below h (by omega)).c0
      have k1 : ∀ wx, Below (w.heap.size + 1 + 1) w1 wx → wx.cell? ⟨w.heap.size, 1, none⟩ = some (.bool c.p.h) := fun wx h => (HA.out.below h (by omega)).c1
      have k2 : ∀ wx, Below (w.heap.size + 1 + 1) w1 wx → wx.cell? ⟨w.heap.size, 2, none⟩ = some (.int .u64 c.p.b) := fun wx h => (HA.out.below h (by omega)).c2
      have k3 : ∀ wx, Below (w.heap.size + 1 + 1) w1 wx → wx.cell? ⟨w.heap.size, 3, none⟩ = some (.bool c.c.h) := fun wx h => (HA.out.below h (by omega)).c3
      have k4 : ∀ wx, Below (w.heap.size + 1 + 1) w1 wx → wx.cell? ⟨w.heap.size, 4, none⟩ = some (.int .u64 c.c.b) := fun wx h => (HA.out.below h (by omega)).c4
      have k5 : ∀ wx, Below (w.heap.size + 1 + 1) w1 wx → wx.cell? ⟨w.heap.size, 5, none⟩ = some (.int .i64 c.n) := fun wx h => (HA.out.below h (by omega)).c5
      have k6 : ∀ wx, Below (w.heap.size + 1 + 1) w1 wx → wx.cell? ⟨w.heap.size + 1, 0, none⟩ = some (.bool v.h) := fun wx h => (HV.out.below h (by omega)).c0
      have k7 : ∀ wx, Below (w.heap.size + 1 + 1) w1 wx → wx.cell? ⟨w.heap.size + 1, 1, none⟩ = some (.int .u64 v.b) := fun wx h => (HV.out.below h (by omega)).c1
      clear c0 c1 c2 c3 c4 c5 zz v0 v1 d0 d1 d2 d3 d4 d5 yy
      refine wp_region_noPanic ?_
      refine wp_region_held_drew (S := fun wx => Below (w.heap.size + 1 + 1) w1 wx) (by kernel_rfl) ?_ (fun hHeld => ?_)
      · exact (Below.refl _ _).drew
      refine wpAnyH_take (i := 0) (oi := ⟨some 30, _, _, _, _, _⟩) (v := ?_) rfl (by kernel_rfl) (by kernel_rfl) (by kernel_rfl) (fun _ _ _ h => h) (Or.inl ⟨by rfl, ?_⟩) hHeld ?_
      rotate_left
      · intro w hSw; (try dsimp only at hSw); go_simp; all_goals (with_reducible rfl)
      try simp only [Act.put, List.setIfInBounds_toArray, List.set_cons_zero, List.set_cons_succ]
      refine wpAnyH_take (i := 1) (oi := ⟨some 31, _, _, _, _, _⟩) (v := ?_) rfl (by kernel_rfl) (by kernel_rfl) (by kernel_rfl) (fun _ _ _ h => h) (Or.inl ⟨by rfl, ?_⟩) hHeld ?_
      rotate_left
      · intro w hSw; (try dsimp only at hSw); go_simp; all_goals (with_reducible rfl)
      try simp only [Act.put, List.setIfInBounds_toArray, List.set_cons_zero, List.set_cons_succ]
      refine wpAnyH_take (i := 2) (oi := ⟨some 32, _, _, _, _, _⟩) (v := ?_) rfl (by kernel_rfl) (by kernel_rfl) (by kernel_rfl) (fun _ _ _ h => h) (Or.inl ⟨by rfl, ?_⟩) hHeld ?_
      rotate_left
      · intro w hSw; (try dsimp only at hSw); go_simp; all_goals (with_reducible rfl)
      try simp only [Act.put, List.setIfInBounds_toArray, List.set_cons_zero, List.set_cons_succ]
      refine wpAnyH_take (i := 3) (oi := ⟨some 33, _, _, _, _, _⟩) (v := ?_) rfl (by kernel_rfl) (by kernel_rfl) (by kernel_rfl) (fun _ _ _ h => h) (Or.inl ⟨by rfl, ?_⟩) hHeld ?_
      rotate_left
      · intro w hSw; (try dsimp only at hSw); go_simp; all_goals (with_reducible rfl)
      try simp only [Act.put, List.setIfInBounds_toArray, List.set_cons_zero, List.set_cons_succ]
      refine wpAnyH_take (i := 4) (oi := ⟨some 34, _, _, _, _, _⟩) (v := ?_) rfl (by kernel_rfl) (by kernel_rfl) (by kernel_rfl) (fun _ _ _ h => h) (Or.inl ⟨by rfl, ?_⟩) hHeld ?_
      rotate_left
      · intro w hSw; (try dsimp only at hSw); go_simp; all_goals (with_reducible rfl)
      try simp only [Act.put, List.setIfInBounds_toArray, List.set_cons_zero, List.set_cons_succ]
      refine wpAnyH_take (i := 5) (oi := ⟨some 35, _, _, _, _, _⟩) (v := ?_) rfl (by kernel_rfl) (by kernel_rfl) (by kernel_rfl) (fun _ _ _ h => h) (Or.inl ⟨by rfl, ?_⟩) hHeld ?_
      rotate_left
      · intro w hSw; (try dsimp only at hSw); go_simp; all_goals (with_reducible rfl)
      try simp only [Act.put, List.setIfInBounds_toArray, List.set_cons_zero, List.set_cons_succ]
      refine wpAnyH_take (i := 6) (oi := ⟨some 36, _, _, _, _, _⟩) (v := ?_) rfl (by kernel_rfl) (by kernel_rfl) (by kernel_rfl) (fun _ _ _ h => h) (Or.inl ⟨by rfl, ?_⟩) hHeld ?_
      rotate_left
      · intro w hSw; (try dsimp only at hSw); go_simp; all_goals (with_reducible rfl)
      try simp only [Act.put, List.setIfInBounds_toArray, List.set_cons_zero, List.set_cons_succ]
      refine wpAnyH_take (i := 7) (oi := ⟨some 37, _, _, _, _, _⟩) (v := ?_) rfl (by kernel_rfl) (by kernel_rfl) (by kernel_rfl) (fun _ _ _ h => h) (Or.inl ⟨by rfl, ?_⟩) hHeld ?_
      rotate_left
      · intro w hSw; (try dsimp only at hSw); go_simp; all_goals (with_reducible rfl)
      try simp only [Act.put, List.setIfInBounds_toArray, List.set_cons_zero, List.set_cons_succ]
      refine wpAnyH_take (i := 9) (oi := ⟨some 39, _, _, _, _, _⟩) (v := ?_) rfl (by kernel_rfl) (by kernel_rfl) (by kernel_rfl) (fun _ _ _ h => h) (Or.inl ⟨by rfl, ?_⟩) hHeld ?_
      rotate_left
      · intro w hSw; (try dsimp only at hSw); go_simp; all_goals (with_reducible rfl)
      try simp only [Act.put, List.setIfInBounds_toArray, List.set_cons_zero, List.set_cons_succ]
      refine wpAnyH_ready (rs := [8]) (by kernel_rfl) (by simp) ?_
      refine AllReadyH.cons (o := ⟨some 38, _, _, _, _, _⟩) rfl (fun K hK => ?_) AllReadyH.nil
      go_simp
      refine (rmerge_walk k HPO.out HVO.out _).mono ?_
      rw [HM.out]
      rintro e w9 ⟨rfl, hB9⟩
      have hS9 : Below w1.heap.size w1 w9 := below_trans (Below.refl _ _).drew hB9
      have hT9 : Below (w.heap.size + 1 + 1) w1 w9 := hS9.mono (Nat.le_of_lt (cell_lt HZ.out.c0))
      obtain ⟨d0, d1, d2, d3, d4, d5, yy⟩ := HZ.out.below hS9 (cell_lt HZ.out.c0)
      clear hB9 hHeld
      go_simp
      refine hK.out _ _ ?_ (fun hHeld => ?_)
      · exact hT9
      clear hK K
      try simp only [Act.put, List.setIfInBounds_toArray, List.set_cons_zero, List.set_cons_succ]
      refine wpAnyH_take (i := 10) (oi := ⟨some 40, _, _, _, _, _⟩) (v := ?_) rfl (by kernel_rfl) (by kernel_rfl) (by kernel_rfl) (fun _ _ _ h => h) (Or.inl ⟨by rfl, ?_⟩) hHeld ?_
      rotate_left
      · intro w hSw; (try dsimp only at hSw); go_simp; all_goals (with_reducible rfl)
      try simp only [Act.put, List.setIfInBounds_toArray, List.set_cons_zero, List.set_cons_succ]
      refine wpAnyH_ready (rs := [11]) (by kernel_rfl) (by simp) ?_
      refine AllReadyH.cons (o := ⟨none, _, _, _, _, _⟩) rfl (fun K hK => ?_) AllReadyH.nil
      go_simp
      refine hK.out _ _ ?_ (fun hHeld => ?_)
      · exact keep_cellB hT9 _ (Nat.le_refl _) _ _ _ _ _ _
      clear hK K
      try simp only [Act.put, List.setIfInBounds_toArray, List.set_cons_zero, List.set_cons_succ]
      refine wpAnyH_take (i := 12) (oi := ⟨some 9, _, _, _, _, _⟩) (v := ?_) rfl (by kernel_rfl) (by kernel_rfl) (by kernel_rfl) (fun _ _ _ h => h) (Or.inl ⟨by rfl, ?_⟩) hHeld ?_
      rotate_left
      · intro w hSw; (try dsimp only at hSw); go_simp; all_goals (with_reducible rfl)
      try simp only [Act.put, List.setIfInBounds_toArray, List.set_cons_zero, List.set_cons_succ]
      refine wpAnyH_done (by kernel_rfl) ?_ _
      refine NoPanic.normal ?_
      go_wp2_with fail
      go_meet
      exact ⟨rfl, CB.set (HZ.out.below hS9 (cell_lt HZ.out.c0)) ⟨c.k, c.p, M, c.n⟩, keep_cell (below_trans HB.out hS9) _ (by omega) _ _ _ _ _ _⟩
    case rest =>
      obtain ⟨rfl, hZ, hB⟩ := hcut
      have HB2 : Hid (Below w.heap.size w wc) := hB
      obtain ⟨d0, d1, d2, d3, d4, d5, yy⟩ := hZ
      clear hB HA HV HZ HB
      go_wp2_with fail
      refine bodyPost_ret (by simp [results, Try.results10, go_sem, d0, d1, d2, d3, d4, d5]) rfl ⟨rfl, HB2.out⟩
end Go.Proofs.Ytnppgeokbhecfaa
