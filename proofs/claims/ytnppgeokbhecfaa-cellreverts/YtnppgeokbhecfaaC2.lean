/- The walk of CellReverts. -/
import Derived.Test.YtnppgeokbhecfaaCj
namespace Go.Proofs.Ytnppgeokbhecfaa
open Ieee Go.RowKit

set_option maxRecDepth 100000 in
set_option maxHeartbeats 8000000 in
theorem cellreverts_walk (k : Int) {c : Cl} (hc : c.ok) {b : Int} (hb : -9223372036854775808 ≤ b ∧ b < 9223372036854775808) {pv bv : Value} {ps : List Vl} {w : World} (hp : Gv w pv 2 valF ps) (ho : ∀ x ∈ ps, x.ok) {o : Int} (hor : o < 9223372036854775808) :
    Calls Try.prog 5 #[.agg #[.int .i64 k, .int .u64 c.k, .bool c.p.h, .int .u64 c.p.b, .bool c.c.h, .int .u64 c.c.b, .int .i64 c.n, .int .i64 b, pv, bv], .int .i64 o] w fun e w' => e = .returned (.bool true) ∧ Below w.heap.size w w' := by
  have HCO : Hid c.ok := hc
  have HPO : Hid (∀ x ∈ ps, x.ok) := ho
  have HBR : Hid (-9223372036854775808 ≤ b ∧ b < 9223372036854775808) := hb
  have HOR : Hid (o < 9223372036854775808) := hor
  obtain ⟨ao, cap, rfl, hl1, hl2, hl3, hgl⟩ := hp
  have HGL : Hid (Gl w ao 2 valF ps) := hgl
  have HLN : Hid (ps.length ≤ maxLen) := Nat.le_trans hl1 hl2
  clear hc ho hb hor hl1 hl2 hl3 hgl
  have hg1 := guard_val
  have hg2 := guard_cell
  go_enter Try.func5, Try.ntmps5
  go_wp2_with fail
  have H1 : Hid (XB (w.alloc (Obj.cells #[.int .i64 k, .int .u64 c.k, .bool c.p.h, .int .u64 c.p.b, .bool c.c.h, .int .u64 c.c.b, .int .i64 c.n, .int .i64 b, .slice ao ps.length cap, bv] 43)) w.heap.size k c b (.slice ao ps.length cap) bv) := xb_new _ _ _ _ _ _
  have H2 : Hid (Below w.heap.size w (w.alloc (Obj.cells #[.int .i64 k, .int .u64 c.k, .bool c.p.h, .int .u64 c.p.b, .bool c.c.h, .int .u64 c.c.b, .int .i64 c.n, .int .i64 b, .slice ao ps.length cap, bv] 43))) := below_alloc _ _
  generalize w.alloc (Obj.cells #[.int .i64 k, .int .u64 c.k, .bool c.p.h, .int .u64 c.p.b, .bool c.c.h, .int .u64 c.c.b, .int .i64 c.n, .int .i64 b, .slice ao ps.length cap, bv] 43) = w1 at H1 H2 ⊢
  refine (awake_walk _).mono ?_
  rintro e w2 ⟨rfl, hB2⟩
  have HX : Hid (XB w2 w.heap.size k c b (.slice ao ps.length cap) bv) := H1.out.below hB2 (cell_lt H1.out.c0)
  have HB : Hid (Below w.heap.size w w2) := below_trans H2.out hB2
  clear hB2 H1 H2
  obtain ⟨c0, c1, c2, c3, c4, c5, c6, c7, c8, c9⟩ := HX.out
  cases hf : fitC k c
  · go_wp2_with (go_at_call 15; refine (cfit_walk k HCO.out _).mono ?_; rw [hf]; rintro e w3 ⟨rfl, hB3⟩)
    go_ret
    exact ⟨rfl, below_trans HB.out (by assumption)⟩
  obtain ⟨hk, _, hfc, hn0, hn1⟩ := fit_gives hf
  by_cases hbn : b ≤ c.n
  · have hbd : decide (b ≤ c.n) = true := decide_eq_true hbn
    clear hfc hn0 hn1
    go_wp2_with (go_at_call 15; refine (cfit_walk k HCO.out _).mono ?_; rw [hf]; rintro e w3 ⟨rfl, hB3⟩; obtain ⟨c0, c1, c2, c3, c4, c5, c6, c7, c8, c9⟩ := HX.out.below hB3 (cell_lt HX.out.c0))
    go_ret
    exact ⟨rfl, below_trans HB.out (by assumption)⟩
  have hbd : decide (b ≤ c.n) = false := decide_eq_false hbn
  have hb1 : 1 ≤ b := by omega
  have HN : Hid (1 ≤ b ∧ c.n < b ∧ 0 ≤ c.n) := ⟨hb1, by omega, hn0⟩
  have HK : Hid (knownB k = true ∧ fitV k c.c = c.c) := ⟨hk, hfc⟩
  have HF : Hid (fitC k c = true) := hf
  clear hn0 hn1 hfc hb1 hk
  by_cases hp0 : ps.length = 0
  · have hpd : ((ps.length : Int) == 0) = true := by rw [hp0]; rfl
    go_wp2_with (go_at_call 15; refine (cfit_walk k HCO.out _).mono ?_; rw [hf]; rintro e w3 ⟨rfl, hB3⟩; obtain ⟨c0, c1, c2, c3, c4, c5, c6, c7, c8, c9⟩ := HX.out.below hB3 (cell_lt HX.out.c0))
    all_goals (go_ret; exact ⟨rfl, below_trans HB.out (by assumption)⟩)
  have hpd : ((ps.length : Int) == 0) = false := by rw [beq_eq_false_iff_ne]; omega
  have hpos : 0 < ps.length := by omega
  have hposi : (0 : Int) < (ps.length : Int) := by omega
  go_upto_region 5 with (go_at_call 15; refine (cfit_walk k HCO.out _).mono ?_; rw [hf]; rintro e w3 ⟨rfl, hB3⟩; obtain ⟨c0, c1, c2, c3, c4, c5, c6, c7, c8, c9⟩ := HX.out.below hB3 (cell_lt HX.out.c0))
  have HX3 : Hid (XB w3 w.heap.size k c b (.slice ao ps.length cap) bv) := HX.out.below hB3 (cell_lt HX.out.c0)
  have HB3 : Hid (Below w.heap.size w w3) := below_trans HB.out hB3
  clear hB3 HX HB c0 c1 c2 c3 c4 c5 c6 c7 c8 c9
  obtain ⟨pb, poff, rfl, hpc⟩ := HGL.out 0 hpos
  have hp0c := hpc 0 (by omega)
  have hp1c := hpc 1 (by omega)
  obtain ⟨q, hq⟩ : ∃ q, q = ps[0] := ⟨_, rfl⟩
  rw [← hq] at hp0c hp1c
  have HQO : Hid q.ok := by rw [hq]; exact HPO.out _ (List.getElem_mem _)
  clear hpc hq hp0
  have r0 : ∀ wx, Below w3.heap.size w3 wx → wx.cell? ⟨pb, poff, none⟩ = some (.bool q.h) := fun wx h => by
    have h1 : w.cell? ⟨pb, poff, none⟩ = some (.bool q.h) := hp0c
    rw [(below_trans HB3.out h).cell (p := ⟨pb, poff, none⟩) (cell_lt h1)]; exact h1
  have r1 : ∀ wx, Below w3.heap.size w3 wx → wx.cell? ⟨pb, poff + 1, none⟩ = some (.int .u64 q.b) := fun wx h => by
    have h1 : w.cell? ⟨pb, poff + 1, none⟩ = some (.int .u64 q.b) := hp1c
    rw [(below_trans HB3.out h).cell (p := ⟨pb, poff + 1, none⟩) (cell_lt h1)]; exact h1
  clear hp0c hp1c
  obtain ⟨M, hM⟩ : ∃ M, M = mergeV k c.c q := ⟨_, rfl⟩
  have HMO : Hid M.ok := by rw [hM]; exact mergeV_ok k HCO.out.2 HQO.out
  have HAI : Hid (appI k c b = 0) := app_ok HK.out.1 HN.out.1 (Int.le_of_lt HN.out.2.1)
  have HAC : Hid (appC k c b q = ⟨c.k, c.c, M, b⟩) := by rw [hM]; exact app_up HK.out.1 HN.out.1 HN.out.2.1
  clear hM
  have k0 : ∀ wx, Below w3.heap.size w3 wx → wx.cell? ⟨w.heap.size, 0, none⟩ = some (.int .i64 k) := fun wx h => (HX3.out.below h (cell_lt HX3.out.c0)).c0
  have k1 : ∀ wx, Below w3.heap.size w3 wx → wx.cell? ⟨w.heap.size, 1, none⟩ = some (.int .u64 c.k) := fun wx h => (HX3.out.below h (cell_lt HX3.out.c0)).c1
  have k2 : ∀ wx, Below w3.heap.size w3 wx → wx.cell? ⟨w.heap.size, 2, none⟩ = some (.bool c.p.h) := fun wx h => (HX3.out.below h (cell_lt HX3.out.c0)).c2
  have k3 : ∀ wx, Below w3.heap.size w3 wx → wx.cell? ⟨w.heap.size, 3, none⟩ = some (.int .u64 c.p.b) := fun wx h => (HX3.out.below h (cell_lt HX3.out.c0)).c3
  have k4 : ∀ wx, Below w3.heap.size w3 wx → wx.cell? ⟨w.heap.size, 4, none⟩ = some (.bool c.c.h) := fun wx h => (HX3.out.below h (cell_lt HX3.out.c0)).c4
  have k5 : ∀ wx, Below w3.heap.size w3 wx → wx.cell? ⟨w.heap.size, 5, none⟩ = some (.int .u64 c.c.b) := fun wx h => (HX3.out.below h (cell_lt HX3.out.c0)).c5
  have k6 : ∀ wx, Below w3.heap.size w3 wx → wx.cell? ⟨w.heap.size, 6, none⟩ = some (.int .i64 c.n) := fun wx h => (HX3.out.below h (cell_lt HX3.out.c0)).c6
  have k7 : ∀ wx, Below w3.heap.size w3 wx → wx.cell? ⟨w.heap.size, 7, none⟩ = some (.int .i64 b) := fun wx h => (HX3.out.below h (cell_lt HX3.out.c0)).c7
  have k8 : ∀ wx, Below w3.heap.size w3 wx → wx.cell? ⟨w.heap.size, 8, none⟩ = some (.slice (some ⟨pb, poff, none⟩) ps.length cap) := fun wx h => (HX3.out.below h (cell_lt HX3.out.c0)).c8
  have k9 : ∀ wx, Below w3.heap.size w3 wx → wx.cell? ⟨w.heap.size, 9, none⟩ = some (bv) := fun wx h => (HX3.out.below h (cell_lt HX3.out.c0)).c9
  go_cut [5, 6] (fun uv ev wx => Nu w3 ⟨c.k, c.c, M, b⟩ 0 uv ev wx)
  case first =>
    refine wp_region_noPanic ?_
    refine wp_region_held_drew (S := fun wx => Below w3.heap.size w3 wx) (by kernel_rfl) ?_ (fun hHeld => ?_)
    · exact (Below.refl _ _).drew
    refine wpAnyH_take (i := 0) (oi := ⟨some 31, _, _, _, _, _⟩) (v := ?_) rfl (by kernel_rfl) (by kernel_rfl) (by kernel_rfl) (fun _ _ _ h => h) (Or.inl ⟨by rfl, ?_⟩) hHeld ?_
    rotate_left
    · intro w hSw; (try dsimp only at hSw); go_simp; all_goals (with_reducible rfl)
    try simp only [Act.put, List.setIfInBounds_toArray, List.set_cons_zero, List.set_cons_succ]
    refine wpAnyH_take (i := 1) (oi := ⟨some 32, _, _, _, _, _⟩) (v := ?_) rfl (by kernel_rfl) (by kernel_rfl) (by kernel_rfl) (fun _ _ _ h => h) (Or.inl ⟨by rfl, ?_⟩) hHeld ?_
    rotate_left
    · intro w hSw; (try dsimp only at hSw); go_simp; all_goals (with_reducible rfl)
    try simp only [Act.put, List.setIfInBounds_toArray, List.set_cons_zero, List.set_cons_succ]
    refine wpAnyH_take (i := 2) (oi := ⟨some 33, _, _, _, _, _⟩) (v := ?_) rfl (by kernel_rfl) (by kernel_rfl) (by kernel_rfl) (fun _ _ _ h => h) (Or.inl ⟨by rfl, ?_⟩) hHeld ?_
    rotate_left
    · intro w hSw; (try dsimp only at hSw); go_simp; all_goals (with_reducible rfl)
    try simp only [Act.put, List.setIfInBounds_toArray, List.set_cons_zero, List.set_cons_succ]
    refine wpAnyH_take (i := 3) (oi := ⟨some 34, _, _, _, _, _⟩) (v := ?_) rfl (by kernel_rfl) (by kernel_rfl) (by kernel_rfl) (fun _ _ _ h => h) (Or.inl ⟨by rfl, ?_⟩) hHeld ?_
    rotate_left
    · intro w hSw; (try dsimp only at hSw); go_simp; all_goals (with_reducible rfl)
    try simp only [Act.put, List.setIfInBounds_toArray, List.set_cons_zero, List.set_cons_succ]
    refine wpAnyH_take (i := 4) (oi := ⟨some 35, _, _, _, _, _⟩) (v := ?_) rfl (by kernel_rfl) (by kernel_rfl) (by kernel_rfl) (fun _ _ _ h => h) (Or.inl ⟨by rfl, ?_⟩) hHeld ?_
    rotate_left
    · intro w hSw; (try dsimp only at hSw); go_simp; all_goals (with_reducible rfl)
    try simp only [Act.put, List.setIfInBounds_toArray, List.set_cons_zero, List.set_cons_succ]
    refine wpAnyH_take (i := 5) (oi := ⟨some 36, _, _, _, _, _⟩) (v := ?_) rfl (by kernel_rfl) (by kernel_rfl) (by kernel_rfl) (fun _ _ _ h => h) (Or.inl ⟨by rfl, ?_⟩) hHeld ?_
    rotate_left
    · intro w hSw; (try dsimp only at hSw); go_simp; all_goals (with_reducible rfl)
    try simp only [Act.put, List.setIfInBounds_toArray, List.set_cons_zero, List.set_cons_succ]
    refine wpAnyH_take (i := 6) (oi := ⟨some 37, _, _, _, _, _⟩) (v := ?_) rfl (by kernel_rfl) (by kernel_rfl) (by kernel_rfl) (fun _ _ _ h => h) (Or.inl ⟨by rfl, ?_⟩) hHeld ?_
    rotate_left
    · intro w hSw; (try dsimp only at hSw); go_simp; all_goals (with_reducible rfl)
    try simp only [Act.put, List.setIfInBounds_toArray, List.set_cons_zero, List.set_cons_succ]
    refine wpAnyH_take (i := 7) (oi := ⟨some 38, _, _, _, _, _⟩) (v := ?_) rfl (by kernel_rfl) (by kernel_rfl) (by kernel_rfl) (fun _ _ _ h => h) (Or.inl ⟨by rfl, ?_⟩) hHeld ?_
    rotate_left
    · intro w hSw; (try dsimp only at hSw); go_simp; all_goals (with_reducible rfl)
    try simp only [Act.put, List.setIfInBounds_toArray, List.set_cons_zero, List.set_cons_succ]
    refine wpAnyH_take (i := 8) (oi := ⟨some 39, _, _, _, _, _⟩) (v := ?_) rfl (by kernel_rfl) (by kernel_rfl) (by kernel_rfl) (fun _ _ _ h => h) (Or.inl ⟨by rfl, ?_⟩) hHeld ?_
    rotate_left
    · intro w hSw; (try dsimp only at hSw); go_simp; all_goals (with_reducible rfl)
    try simp only [Act.put, List.setIfInBounds_toArray, List.set_cons_zero, List.set_cons_succ]
    refine wpAnyH_take (i := 9) (oi := ⟨some 40, _, _, _, _, _⟩) (v := ?_) rfl (by kernel_rfl) (by kernel_rfl) (by kernel_rfl) (fun _ _ _ h => h) (Or.inl ⟨by rfl, ?_⟩) hHeld ?_
    rotate_left
    · intro w hSw; (try dsimp only at hSw); go_simp; all_goals (with_reducible rfl)
    try simp only [Act.put, List.setIfInBounds_toArray, List.set_cons_zero, List.set_cons_succ]
    refine wpAnyH_ready (rs := [10, 14]) (by kernel_rfl) (by simp) ?_
    refine AllReadyH.cons (o := ⟨some 41, _, _, _, _, _⟩) rfl (fun K hK => ?_) (AllReadyH.cons (o := ⟨some 5, _, _, _, _, _⟩) rfl (fun K hK => ?_) AllReadyH.nil)
    · go_simp
      refine (apply_walk k HCO.out b HQO.out _).mono ?_
      rw [HAC.out, HAI.out]
      rintro e w9 ⟨rfl, hB9⟩
      have hS9 : Below w3.heap.size w3 w9 := below_trans hHeld hB9
      clear hB9 hHeld
      go_simp
      refine hK.out _ _ ?_ (fun hHeld => ?_)
      · exact hS9
      clear hK K
      try simp only [Act.put, List.setIfInBounds_toArray, List.set_cons_zero, List.set_cons_succ]
      refine wpAnyH_take (i := 11) (oi := ⟨some 30, _, _, _, _, _⟩) (v := ?_) rfl (by kernel_rfl) (by kernel_rfl) (by kernel_rfl) (fun _ _ _ h => h) (Or.inl ⟨by rfl, ?_⟩) hHeld ?_
      rotate_left
      · intro w hSw; (try dsimp only at hSw); go_simp; all_goals (with_reducible rfl)
      try simp only [Act.put, List.setIfInBounds_toArray, List.set_cons_zero, List.set_cons_succ]
      refine wpAnyH_take (i := 12) (oi := ⟨some 42, _, _, _, _, _⟩) (v := ?_) rfl (by kernel_rfl) (by kernel_rfl) (by kernel_rfl) (fun _ _ _ h => h) (Or.inl ⟨by rfl, ?_⟩) hHeld ?_
      rotate_left
      · intro w hSw; (try dsimp only at hSw); go_simp; all_goals (with_reducible rfl)
      try simp only [Act.put, List.setIfInBounds_toArray, List.set_cons_zero, List.set_cons_succ]
      refine wpAnyH_take (i := 13) (oi := ⟨some 43, _, _, _, _, _⟩) (v := ?_) rfl (by kernel_rfl) (by kernel_rfl) (by kernel_rfl) (fun _ _ _ h => h) (Or.inl ⟨by rfl, ?_⟩) hHeld ?_
      rotate_left
      · intro w hSw; (try dsimp only at hSw); go_simp; all_goals (with_reducible rfl)
      try simp only [Act.put, List.setIfInBounds_toArray, List.set_cons_zero, List.set_cons_succ]
      refine wpAnyH_ready (rs := [14]) (by kernel_rfl) (by simp) ?_
      refine AllReadyH.cons (o := ⟨some 5, _, _, _, _, _⟩) rfl (fun K hK => ?_) AllReadyH.nil
      go_simp
      refine hK.out _ _ ?_ (fun hHeld => ?_)
      · exact by first | exact hHeld.alloc hHeld.size _ | exact (below_alloc _ _).drew
      clear hK K
      try simp only [Act.put, List.setIfInBounds_toArray, List.set_cons_zero, List.set_cons_succ]
      refine wpAnyH_ready (rs := [15]) (by kernel_rfl) (by simp) ?_
      refine AllReadyH.cons (o := ⟨none, _, _, _, _, _⟩) rfl (fun K hK => ?_) AllReadyH.nil
      go_simp
      refine hK.out _ _ ?_ (fun hHeld => ?_)
      · exact hS9.alloc hS9.size _
      clear hK K
      try simp only [Act.put, List.setIfInBounds_toArray, List.set_cons_zero, List.set_cons_succ]
      refine wpAnyH_take (i := 16) (oi := ⟨some 6, _, _, _, _, _⟩) (v := ?_) rfl (by kernel_rfl) (by kernel_rfl) (by kernel_rfl) (fun _ _ _ h => h) (Or.inl ⟨by rfl, ?_⟩) hHeld ?_
      rotate_left
      · intro w hSw; (try dsimp only at hSw); go_simp; all_goals (with_reducible rfl)
      try simp only [Act.put, List.setIfInBounds_toArray, List.set_cons_zero, List.set_cons_succ]
      refine wpAnyH_done (by kernel_rfl) ?_ _
      refine NoPanic.normal ?_
      go_wp2_with fail
      go_meet
      exact nu_new hS9 ⟨c.k, c.c, M, b⟩ 0
    · go_simp
      refine hK.out _ _ ?_ (fun hHeld => ?_)
      · exact by first | exact hHeld.alloc hHeld.size _ | exact (below_alloc _ _).drew
      clear hK K
      try simp only [Act.put, List.setIfInBounds_toArray, List.set_cons_zero, List.set_cons_succ]
      refine wpAnyH_ready (rs := [10]) (by kernel_rfl) (by simp) ?_
      refine AllReadyH.cons (o := ⟨some 41, _, _, _, _, _⟩) rfl (fun K hK => ?_) AllReadyH.nil
      go_simp
      refine (apply_walk k HCO.out b HQO.out _).mono ?_
      rw [HAC.out, HAI.out]
      rintro e w9 ⟨rfl, hB9⟩
      have hS9 : Below w3.heap.size w3 w9 := below_trans hHeld hB9
      have hz9 := zero_boxd hB9
      have hz := hz9
      obtain ⟨d0, d1, d2, d3, d4, d5, yy⟩ := hz9
      clear hB9 hHeld
      go_simp
      refine hK.out _ _ ?_ (fun hHeld => ?_)
      · exact hS9
      clear hK K
      try simp only [Act.put, List.setIfInBounds_toArray, List.set_cons_zero, List.set_cons_succ]
      refine wpAnyH_take (i := 11) (oi := ⟨some 30, _, _, _, _, _⟩) (v := ?_) rfl (by kernel_rfl) (by kernel_rfl) (by kernel_rfl) (fun _ _ _ h => h) (Or.inl ⟨by rfl, ?_⟩) hHeld ?_
      rotate_left
      · intro w hSw; (try dsimp only at hSw); go_simp; all_goals (with_reducible rfl)
      try simp only [Act.put, List.setIfInBounds_toArray, List.set_cons_zero, List.set_cons_succ]
      refine wpAnyH_take (i := 12) (oi := ⟨some 42, _, _, _, _, _⟩) (v := ?_) rfl (by kernel_rfl) (by kernel_rfl) (by kernel_rfl) (fun _ _ _ h => h) (Or.inl ⟨by rfl, ?_⟩) hHeld ?_
      rotate_left
      · intro w hSw; (try dsimp only at hSw); go_simp; all_goals (with_reducible rfl)
      try simp only [Act.put, List.setIfInBounds_toArray, List.set_cons_zero, List.set_cons_succ]
      refine wpAnyH_take (i := 13) (oi := ⟨some 43, _, _, _, _, _⟩) (v := ?_) rfl (by kernel_rfl) (by kernel_rfl) (by kernel_rfl) (fun _ _ _ h => h) (Or.inl ⟨by rfl, ?_⟩) hHeld ?_
      rotate_left
      · intro w hSw; (try dsimp only at hSw); go_simp; all_goals (with_reducible rfl)
      try simp only [Act.put, List.setIfInBounds_toArray, List.set_cons_zero, List.set_cons_succ]
      refine wpAnyH_ready (rs := [15]) (by kernel_rfl) (by simp) ?_
      refine AllReadyH.cons (o := ⟨none, _, _, _, _, _⟩) rfl (fun K hK => ?_) AllReadyH.nil
      go_simp
      refine hK.out _ _ ?_ (fun hHeld => ?_)
      · exact keep_cell hS9 _ (Nat.le_refl _) _ _ _ _ _ _
      clear hK K
      try simp only [Act.put, List.setIfInBounds_toArray, List.set_cons_zero, List.set_cons_succ]
      refine wpAnyH_take (i := 16) (oi := ⟨some 6, _, _, _, _, _⟩) (v := ?_) rfl (by kernel_rfl) (by kernel_rfl) (by kernel_rfl) (fun _ _ _ h => h) (Or.inl ⟨by rfl, ?_⟩) hHeld ?_
      rotate_left
      · intro w hSw; (try dsimp only at hSw); go_simp; all_goals (with_reducible rfl)
      try simp only [Act.put, List.setIfInBounds_toArray, List.set_cons_zero, List.set_cons_succ]
      refine wpAnyH_done (by kernel_rfl) ?_ _
      refine NoPanic.normal ?_
      go_wp2_with fail
      go_meet
      exact nu_old hS9 (Nat.le_refl _) hz ⟨c.k, c.c, M, b⟩ 0
  case rest =>
    clear k0 k1 k2 k3 k4 k5 k6 k7 k8 k9 r0 r1
    obtain ⟨U, rfl, rfl, hU, hle, hBx⟩ := hcut
    obtain ⟨w4, hw4⟩ : ∃ w4, w4 = wc := ⟨_, rfl⟩
    rw [← hw4] at hU hBx ⊢
    clear hw4 hle
    have HU : Hid (CB w4 U ⟨c.k, c.c, M, b⟩) := hU
    have HX4 : Hid (XB w4 w.heap.size k c b (.slice (some ⟨pb, poff, none⟩) ps.length cap) bv) := HX3.out.below hBx (cell_lt HX3.out.c0)
    have HB4 : Hid (Below w.heap.size w w4) := below_trans HB3.out hBx
    clear hU hBx HX3 HB3 HGL
    obtain ⟨c0, c1, c2, c3, c4, c5, c6, c7, c8, c9⟩ := HX4.out
    obtain ⟨d0, d1, d2, d3, d4, d5, yy⟩ := HU.out
    have HRV : Hid (revC ⟨c.k, c.c, M, b⟩ b = ⟨c.k, c.c, c.c, b - 1⟩) := rev_at (c := ⟨c.k, c.c, M, b⟩) HN.out.1
    go_upto_region 7 with (go_at_call 11; refine (revert_walk ⟨c.k, c.c, M, b⟩ (b := b) (by have := HBR.out; omega) _).mono ?_; rw [HRV.out]; rintro e w5 ⟨rfl, hB5⟩)
    clear c0 c1 c2 c3 c4 c5 c6 c7 c8 c9 d0 d1 d2 d3 d4 d5 yy
    have HV : Hid (CB (w5.alloc (Obj.cells #[.int .u64 c.k, .bool c.c.h, .int .u64 c.c.b, .bool c.c.h, .int .u64 c.c.b, .int .i64 (b - 1)] 26)) w5.heap.size ⟨c.k, c.c, c.c, b - 1⟩) := cb_new w5 ⟨c.k, c.c, c.c, b - 1⟩
    have hBz : Below w4.heap.size w4 (w5.alloc (Obj.cells #[.int .u64 c.k, .bool c.c.h, .int .u64 c.c.b, .bool c.c.h, .int .u64 c.c.b, .int .i64 (b - 1)] 26)) := below_trans hB5 (below_alloc _ _)
    generalize w5.alloc (Obj.cells #[.int .u64 c.k, .bool c.c.h, .int .u64 c.c.b, .bool c.c.h, .int .u64 c.c.b, .int .i64 (b - 1)] 26) = w6 at HV hBz ⊢
    have HU6 : Hid (CB w6 U ⟨c.k, c.c, M, b⟩) := HU.out.below hBz (cell_lt HU.out.c0)
    have HX6 : Hid (XB w6 w.heap.size k c b (.slice (some ⟨pb, poff, none⟩) ps.length cap) bv) := HX4.out.below hBz (cell_lt HX4.out.c0)
    have HB6 : Hid (Below w.heap.size w w6) := below_trans HB4.out hBz
    clear hBz hB5 HU HX4 HB4
    have k0 : ∀ wx, Below w6.heap.size w6 wx → wx.cell? ⟨w.heap.size, 0, none⟩ = some (.int .i64 k) := fun wx h => (HX6.out.below h (cell_lt HX6.out.c0)).c0
    have k1 : ∀ wx, Below w6.heap.size w6 wx → wx.cell? ⟨w.heap.size, 1, none⟩ = some (.int .u64 c.k) := fun wx h => (HX6.out.below h (cell_lt HX6.out.c0)).c1
    have k2 : ∀ wx, Below w6.heap.size w6 wx → wx.cell? ⟨w.heap.size, 2, none⟩ = some (.bool c.p.h) := fun wx h => (HX6.out.below h (cell_lt HX6.out.c0)).c2
    have k3 : ∀ wx, Below w6.heap.size w6 wx → wx.cell? ⟨w.heap.size, 3, none⟩ = some (.int .u64 c.p.b) := fun wx h => (HX6.out.below h (cell_lt HX6.out.c0)).c3
    have k4 : ∀ wx, Below w6.heap.size w6 wx → wx.cell? ⟨w.heap.size, 4, none⟩ = some (.bool c.c.h) := fun wx h => (HX6.out.below h (cell_lt HX6.out.c0)).c4
    have k5 : ∀ wx, Below w6.heap.size w6 wx → wx.cell? ⟨w.heap.size, 5, none⟩ = some (.int .u64 c.c.b) := fun wx h => (HX6.out.below h (cell_lt HX6.out.c0)).c5
    have k6 : ∀ wx, Below w6.heap.size w6 wx → wx.cell? ⟨w.heap.size, 6, none⟩ = some (.int .i64 c.n) := fun wx h => (HX6.out.below h (cell_lt HX6.out.c0)).c6
    have k7 : ∀ wx, Below w6.heap.size w6 wx → wx.cell? ⟨w.heap.size, 7, none⟩ = some (.int .i64 b) := fun wx h => (HX6.out.below h (cell_lt HX6.out.c0)).c7
    have k8 : ∀ wx, Below w6.heap.size w6 wx → wx.cell? ⟨w.heap.size, 8, none⟩ = some (.slice (some ⟨pb, poff, none⟩) ps.length cap) := fun wx h => (HX6.out.below h (cell_lt HX6.out.c0)).c8
    have k9 : ∀ wx, Below w6.heap.size w6 wx → wx.cell? ⟨w.heap.size, 9, none⟩ = some (bv) := fun wx h => (HX6.out.below h (cell_lt HX6.out.c0)).c9
    have l0 : ∀ wx, Below w6.heap.size w6 wx → wx.cell? ⟨U, 0, none⟩ = some (.int .u64 c.k) := fun wx h => (HU6.out.below h (cell_lt HU6.out.c0)).c0
    have l1 : ∀ wx, Below w6.heap.size w6 wx → wx.cell? ⟨U, 1, none⟩ = some (.bool c.c.h) := fun wx h => (HU6.out.below h (cell_lt HU6.out.c0)).c1
    have l2 : ∀ wx, Below w6.heap.size w6 wx → wx.cell? ⟨U, 2, none⟩ = some (.int .u64 c.c.b) := fun wx h => (HU6.out.below h (cell_lt HU6.out.c0)).c2
    have l3 : ∀ wx, Below w6.heap.size w6 wx → wx.cell? ⟨U, 3, none⟩ = some (.bool M.h) := fun wx h => (HU6.out.below h (cell_lt HU6.out.c0)).c3
    have l4 : ∀ wx, Below w6.heap.size w6 wx → wx.cell? ⟨U, 4, none⟩ = some (.int .u64 M.b) := fun wx h => (HU6.out.below h (cell_lt HU6.out.c0)).c4
    have l5 : ∀ wx, Below w6.heap.size w6 wx → wx.cell? ⟨U, 5, none⟩ = some (.int .i64 b) := fun wx h => (HU6.out.below h (cell_lt HU6.out.c0)).c5
    have n1 := neq_cell ⟨c.k, c.c, M, b⟩
    have n2 := neq_cell ⟨c.k, c.c, c.c, b - 1⟩
    have n3 := neq_val c.c
    have hsb : IntKind.i64.wrap (b - 1) = b - 1 := sub_one HN.out.1 (by have := HBR.out; omega)
    dsimp only at n1 n2
    go_cut [62] (fun g wx => g = .bool false ∧ Below w6.heap.size w6 wx)
    case first =>
      by_cases hob : o = b
      · have e1 : (o != b) = false := by rw [hob]; simp
        refine wp_region_noPanic ?_
        refine wp_region_held_drew (S := fun wx => Below w6.heap.size w6 wx) (by kernel_rfl) ?_ (fun hHeld => ?_)
        · exact (Below.refl _ _).drew
        refine wpAnyH_take (i := 0) (oi := ⟨some 48, _, _, _, _, _⟩) (v := ?_) rfl (by kernel_rfl) (by kernel_rfl) (by kernel_rfl) (fun _ _ _ h => h) (Or.inl ⟨by rfl, ?_⟩) hHeld ?_
        rotate_left
        · intro w hSw; (try dsimp only at hSw); go_simp; all_goals (with_reducible rfl)
        try simp only [Act.put, List.setIfInBounds_toArray, List.set_cons_zero, List.set_cons_succ]
        refine wpAnyH_take (i := 1) (oi := ⟨some 49, _, _, _, _, _⟩) (v := ?_) rfl (by kernel_rfl) (by kernel_rfl) (by kernel_rfl) (fun _ _ _ h => h) (Or.inl ⟨by rfl, ?_⟩) hHeld ?_
        rotate_left
        · intro w hSw; (try dsimp only at hSw); go_simp; all_goals (with_reducible rfl)
        try simp only [Act.put, List.setIfInBounds_toArray, List.set_cons_zero, List.set_cons_succ]
        refine wpAnyH_take (i := 2) (oi := ⟨some 50, _, _, _, _, _⟩) (v := ?_) rfl (by kernel_rfl) (by kernel_rfl) (by kernel_rfl) (fun _ _ _ h => h) (Or.inl ⟨by rfl, ?_⟩) hHeld ?_
        rotate_left
        · intro w hSw; (try dsimp only at hSw); go_simp; all_goals (with_reducible rfl)
        try simp only [Act.put, List.setIfInBounds_toArray, List.set_cons_zero, List.set_cons_succ]
        refine wpAnyH_take (i := 3) (oi := ⟨some 51, _, _, _, _, _⟩) (v := ?_) rfl (by kernel_rfl) (by kernel_rfl) (by kernel_rfl) (fun _ _ _ h => h) (Or.inl ⟨by rfl, ?_⟩) hHeld ?_
        rotate_left
        · intro w hSw; (try dsimp only at hSw); go_simp; all_goals (with_reducible rfl)
        try simp only [Act.put, List.setIfInBounds_toArray, List.set_cons_zero, List.set_cons_succ]
        refine wpAnyH_take (i := 4) (oi := ⟨some 52, _, _, _, _, _⟩) (v := ?_) rfl (by kernel_rfl) (by kernel_rfl) (by kernel_rfl) (fun _ _ _ h => h) (Or.inl ⟨by rfl, ?_⟩) hHeld ?_
        rotate_left
        · intro w hSw; (try dsimp only at hSw); go_simp; all_goals (with_reducible rfl)
        try simp only [Act.put, List.setIfInBounds_toArray, List.set_cons_zero, List.set_cons_succ]
        refine wpAnyH_take (i := 5) (oi := ⟨some 53, _, _, _, _, _⟩) (v := ?_) rfl (by kernel_rfl) (by kernel_rfl) (by kernel_rfl) (fun _ _ _ h => h) (Or.inl ⟨by rfl, ?_⟩) hHeld ?_
        rotate_left
        · intro w hSw; (try dsimp only at hSw); go_simp; all_goals (with_reducible rfl)
        try simp only [Act.put, List.setIfInBounds_toArray, List.set_cons_zero, List.set_cons_succ]
        refine wpAnyH_take (i := 6) (oi := ⟨some 54, _, _, _, _, _⟩) (v := ?_) rfl (by kernel_rfl) (by kernel_rfl) (by kernel_rfl) (fun _ _ _ h => h) (Or.inl ⟨by rfl, ?_⟩) hHeld ?_
        rotate_left
        · intro w hSw; (try dsimp only at hSw); go_simp; all_goals (with_reducible rfl)
        try simp only [Act.put, List.setIfInBounds_toArray, List.set_cons_zero, List.set_cons_succ]
        refine wpAnyH_take (i := 7) (oi := ⟨some 55, _, _, _, _, _⟩) (v := ?_) rfl (by kernel_rfl) (by kernel_rfl) (by kernel_rfl) (fun _ _ _ h => h) (Or.inl ⟨by rfl, ?_⟩) hHeld ?_
        rotate_left
        · intro w hSw; (try dsimp only at hSw); go_simp; all_goals (with_reducible rfl)
        try simp only [Act.put, List.setIfInBounds_toArray, List.set_cons_zero, List.set_cons_succ]
        refine wpAnyH_take (i := 8) (oi := ⟨some 56, _, _, _, _, _⟩) (v := undef) rfl (by kernel_rfl) (by kernel_rfl) (by kernel_rfl) (fun _ _ _ h => h) (Or.inr ⟨by rfl, rfl⟩) hHeld ?_
        try simp only [Act.put, List.setIfInBounds_toArray, List.set_cons_zero, List.set_cons_succ]
        refine wpAnyH_take (i := 9) (oi := ⟨some 57, _, _, _, _, _⟩) (v := undef) rfl (by kernel_rfl) (by kernel_rfl) (by kernel_rfl) (fun _ _ _ h => h) (Or.inr ⟨by rfl, rfl⟩) hHeld ?_
        try simp only [Act.put, List.setIfInBounds_toArray, List.set_cons_zero, List.set_cons_succ]
        refine wpAnyH_take (i := 10) (oi := ⟨some 58, _, _, _, _, _⟩) (v := undef) rfl (by kernel_rfl) (by kernel_rfl) (by kernel_rfl) (fun _ _ _ h => h) (Or.inr ⟨by rfl, rfl⟩) hHeld ?_
        try simp only [Act.put, List.setIfInBounds_toArray, List.set_cons_zero, List.set_cons_succ]
        refine wpAnyH_take (i := 11) (oi := ⟨some 59, _, _, _, _, _⟩) (v := undef) rfl (by kernel_rfl) (by kernel_rfl) (by kernel_rfl) (fun _ _ _ h => h) (Or.inr ⟨by rfl, rfl⟩) hHeld ?_
        try simp only [Act.put, List.setIfInBounds_toArray, List.set_cons_zero, List.set_cons_succ]
        refine wpAnyH_take (i := 12) (oi := ⟨some 60, _, _, _, _, _⟩) (v := undef) rfl (by kernel_rfl) (by kernel_rfl) (by kernel_rfl) (fun _ _ _ h => h) (Or.inr ⟨by rfl, rfl⟩) hHeld ?_
        try simp only [Act.put, List.setIfInBounds_toArray, List.set_cons_zero, List.set_cons_succ]
        refine wpAnyH_take (i := 13) (oi := ⟨some 61, _, _, _, _, _⟩) (v := ?_) rfl (by kernel_rfl) (by kernel_rfl) (by kernel_rfl) (fun _ _ _ h => h) (Or.inl ⟨by rfl, ?_⟩) hHeld ?_
        rotate_left
        · intro w hSw; (try dsimp only at hSw); go_simp; all_goals (with_reducible rfl)
        try simp only [Act.put, List.setIfInBounds_toArray, List.set_cons_zero, List.set_cons_succ]
        refine wpAnyH_take (i := 14) (oi := ⟨some 62, _, _, _, _, _⟩) (v := ?_) rfl (by kernel_rfl) (by kernel_rfl) (by kernel_rfl) (fun _ _ _ h => h) (Or.inl ⟨by rfl, ?_⟩) hHeld ?_
        rotate_left
        · intro w hSw; (try dsimp only at hSw); go_simp; all_goals (with_reducible rfl)
        try simp only [Act.put, List.setIfInBounds_toArray, List.set_cons_zero, List.set_cons_succ]
        refine wpAnyH_done (by kernel_rfl) ?_ _
        refine NoPanic.normal ?_
        go_wp2_with fail
        go_meet
        exact ⟨rfl, hHeld⟩
      · have e1 : (o != b) = true := by simp [hob]
        have HRO : Hid (revC ⟨c.k, c.c, M, b⟩ o = ⟨c.k, c.c, M, b⟩) := rev_other hob
        refine wp_region_noPanic ?_
        refine wp_region_held_drew (S := fun wx => Below w6.heap.size w6 wx) (by kernel_rfl) ?_ (fun hHeld => ?_)
        · exact (Below.refl _ _).drew
        refine wpAnyH_take (i := 0) (oi := ⟨some 48, _, _, _, _, _⟩) (v := ?_) rfl (by kernel_rfl) (by kernel_rfl) (by kernel_rfl) (fun _ _ _ h => h) (Or.inl ⟨by rfl, ?_⟩) hHeld ?_
        rotate_left
        · intro w hSw; (try dsimp only at hSw); go_simp; all_goals (with_reducible rfl)
        try simp only [Act.put, List.setIfInBounds_toArray, List.set_cons_zero, List.set_cons_succ]
        refine wpAnyH_take (i := 1) (oi := ⟨some 49, _, _, _, _, _⟩) (v := ?_) rfl (by kernel_rfl) (by kernel_rfl) (by kernel_rfl) (fun _ _ _ h => h) (Or.inl ⟨by rfl, ?_⟩) hHeld ?_
        rotate_left
        · intro w hSw; (try dsimp only at hSw); go_simp; all_goals (with_reducible rfl)
        try simp only [Act.put, List.setIfInBounds_toArray, List.set_cons_zero, List.set_cons_succ]
        refine wpAnyH_take (i := 2) (oi := ⟨some 50, _, _, _, _, _⟩) (v := ?_) rfl (by kernel_rfl) (by kernel_rfl) (by kernel_rfl) (fun _ _ _ h => h) (Or.inl ⟨by rfl, ?_⟩) hHeld ?_
        rotate_left
        · intro w hSw; (try dsimp only at hSw); go_simp; all_goals (with_reducible rfl)
        try simp only [Act.put, List.setIfInBounds_toArray, List.set_cons_zero, List.set_cons_succ]
        refine wpAnyH_take (i := 3) (oi := ⟨some 51, _, _, _, _, _⟩) (v := ?_) rfl (by kernel_rfl) (by kernel_rfl) (by kernel_rfl) (fun _ _ _ h => h) (Or.inl ⟨by rfl, ?_⟩) hHeld ?_
        rotate_left
        · intro w hSw; (try dsimp only at hSw); go_simp; all_goals (with_reducible rfl)
        try simp only [Act.put, List.setIfInBounds_toArray, List.set_cons_zero, List.set_cons_succ]
        refine wpAnyH_take (i := 4) (oi := ⟨some 52, _, _, _, _, _⟩) (v := ?_) rfl (by kernel_rfl) (by kernel_rfl) (by kernel_rfl) (fun _ _ _ h => h) (Or.inl ⟨by rfl, ?_⟩) hHeld ?_
        rotate_left
        · intro w hSw; (try dsimp only at hSw); go_simp; all_goals (with_reducible rfl)
        try simp only [Act.put, List.setIfInBounds_toArray, List.set_cons_zero, List.set_cons_succ]
        refine wpAnyH_take (i := 5) (oi := ⟨some 53, _, _, _, _, _⟩) (v := ?_) rfl (by kernel_rfl) (by kernel_rfl) (by kernel_rfl) (fun _ _ _ h => h) (Or.inl ⟨by rfl, ?_⟩) hHeld ?_
        rotate_left
        · intro w hSw; (try dsimp only at hSw); go_simp; all_goals (with_reducible rfl)
        try simp only [Act.put, List.setIfInBounds_toArray, List.set_cons_zero, List.set_cons_succ]
        refine wpAnyH_take (i := 6) (oi := ⟨some 54, _, _, _, _, _⟩) (v := ?_) rfl (by kernel_rfl) (by kernel_rfl) (by kernel_rfl) (fun _ _ _ h => h) (Or.inl ⟨by rfl, ?_⟩) hHeld ?_
        rotate_left
        · intro w hSw; (try dsimp only at hSw); go_simp; all_goals (with_reducible rfl)
        try simp only [Act.put, List.setIfInBounds_toArray, List.set_cons_zero, List.set_cons_succ]
        refine wpAnyH_take (i := 7) (oi := ⟨some 55, _, _, _, _, _⟩) (v := ?_) rfl (by kernel_rfl) (by kernel_rfl) (by kernel_rfl) (fun _ _ _ h => h) (Or.inl ⟨by rfl, ?_⟩) hHeld ?_
        rotate_left
        · intro w hSw; (try dsimp only at hSw); go_simp; all_goals (with_reducible rfl)
        try simp only [Act.put, List.setIfInBounds_toArray, List.set_cons_zero, List.set_cons_succ]
        refine wpAnyH_take (i := 8) (oi := ⟨some 56, _, _, _, _, _⟩) (v := ?_) rfl (by kernel_rfl) (by kernel_rfl) (by kernel_rfl) (fun _ _ _ h => h) (Or.inl ⟨by rfl, ?_⟩) hHeld ?_
        rotate_left
        · intro w hSw; (try dsimp only at hSw); go_simp; all_goals (with_reducible rfl)
        try simp only [Act.put, List.setIfInBounds_toArray, List.set_cons_zero, List.set_cons_succ]
        refine wpAnyH_take (i := 9) (oi := ⟨some 57, _, _, _, _, _⟩) (v := ?_) rfl (by kernel_rfl) (by kernel_rfl) (by kernel_rfl) (fun _ _ _ h => h) (Or.inl ⟨by rfl, ?_⟩) hHeld ?_
        rotate_left
        · intro w hSw; (try dsimp only at hSw); go_simp; all_goals (with_reducible rfl)
        try simp only [Act.put, List.setIfInBounds_toArray, List.set_cons_zero, List.set_cons_succ]
        refine wpAnyH_take (i := 11) (oi := ⟨some 59, _, _, _, _, _⟩) (v := ?_) rfl (by kernel_rfl) (by kernel_rfl) (by kernel_rfl) (fun _ _ _ h => h) (Or.inl ⟨by rfl, ?_⟩) hHeld ?_
        rotate_left
        · intro w hSw; (try dsimp only at hSw); go_simp; all_goals (with_reducible rfl)
        try simp only [Act.put, List.setIfInBounds_toArray, List.set_cons_zero, List.set_cons_succ]
        refine wpAnyH_ready (rs := [10]) (by kernel_rfl) (by simp) ?_
        refine AllReadyH.cons (o := ⟨some 58, _, _, _, _, _⟩) rfl (fun K hK => ?_) AllReadyH.nil
        go_simp
        refine (revert_walk ⟨c.k, c.c, M, b⟩ (b := o) (by have := HOR.out; omega) _).mono ?_
        rw [HRO.out]
        rintro e w9 ⟨rfl, hB9⟩
        have hS9 := below_trans hHeld hB9
        clear hB9 hHeld
        go_simp
        refine hK.out _ _ ?_ (fun hHeld => ?_)
        · exact hS9
        clear hK K
        try simp only [Act.put, List.setIfInBounds_toArray, List.set_cons_zero, List.set_cons_succ]
        refine wpAnyH_take (i := 12) (oi := ⟨some 60, _, _, _, _, _⟩) (v := ?_) rfl (by kernel_rfl) (by kernel_rfl) (by kernel_rfl) (fun _ _ _ h => h) (Or.inl ⟨by rfl, ?_⟩) hHeld ?_
        rotate_left
        · intro w hSw; (try dsimp only at hSw); go_simp; all_goals (with_reducible rfl)
        try simp only [Act.put, List.setIfInBounds_toArray, List.set_cons_zero, List.set_cons_succ]
        refine wpAnyH_take (i := 13) (oi := ⟨some 61, _, _, _, _, _⟩) (v := ?_) rfl (by kernel_rfl) (by kernel_rfl) (by kernel_rfl) (fun _ _ _ h => h) (Or.inl ⟨by rfl, ?_⟩) hHeld ?_
        rotate_left
        · intro w hSw; (try dsimp only at hSw); go_simp; all_goals (with_reducible rfl)
        try simp only [Act.put, List.setIfInBounds_toArray, List.set_cons_zero, List.set_cons_succ]
        refine wpAnyH_take (i := 14) (oi := ⟨some 62, _, _, _, _, _⟩) (v := ?_) rfl (by kernel_rfl) (by kernel_rfl) (by kernel_rfl) (fun _ _ _ h => h) (Or.inl ⟨by rfl, ?_⟩) hHeld ?_
        rotate_left
        · intro w hSw; (try dsimp only at hSw); go_simp; all_goals (with_reducible rfl)
        try simp only [Act.put, List.setIfInBounds_toArray, List.set_cons_zero, List.set_cons_succ]
        refine wpAnyH_done (by kernel_rfl) ?_ _
        refine NoPanic.normal ?_
        go_wp2_with fail
        go_meet
        exact ⟨rfl, hHeld⟩
    case rest =>
      clear k0 k1 k2 k3 k4 k5 k6 k7 k8 k9 l0 l1 l2 l3 l4 l5 n1
      obtain ⟨rfl, hBc⟩ := hcut
      have HV7 : Hid (CB wc w5.heap.size ⟨c.k, c.c, c.c, b - 1⟩) := HV.out.below hBc (cell_lt HV.out.c0)
      have HX7 : Hid (XB wc w.heap.size k c b (.slice (some ⟨pb, poff, none⟩) ps.length cap) bv) := HX6.out.below hBc (cell_lt HX6.out.c0)
      have HB7 : Hid (Below w.heap.size w wc) := below_trans HB6.out hBc
      clear hBc HU6 HX6 HB6 HV
      obtain ⟨w7, hw7⟩ : ∃ w7, w7 = wc := ⟨_, rfl⟩
      rw [← hw7] at HV7 HX7 HB7 ⊢
      clear hw7
      have k0 : ∀ wx, Below w7.heap.size w7 wx → wx.cell? ⟨w.heap.size, 0, none⟩ = some (.int .i64 k) := fun wx h => (HX7.out.below h (cell_lt HX7.out.c0)).c0
      have k1 : ∀ wx, Below w7.heap.size w7 wx → wx.cell? ⟨w.heap.size, 1, none⟩ = some (.int .u64 c.k) := fun wx h => (HX7.out.below h (cell_lt HX7.out.c0)).c1
      have k2 : ∀ wx, Below w7.heap.size w7 wx → wx.cell? ⟨w.heap.size, 2, none⟩ = some (.bool c.p.h) := fun wx h => (HX7.out.below h (cell_lt HX7.out.c0)).c2
      have k3 : ∀ wx, Below w7.heap.size w7 wx → wx.cell? ⟨w.heap.size, 3, none⟩ = some (.int .u64 c.p.b) := fun wx h => (HX7.out.below h (cell_lt HX7.out.c0)).c3
      have k4 : ∀ wx, Below w7.heap.size w7 wx → wx.cell? ⟨w.heap.size, 4, none⟩ = some (.bool c.c.h) := fun wx h => (HX7.out.below h (cell_lt HX7.out.c0)).c4
      have k5 : ∀ wx, Below w7.heap.size w7 wx → wx.cell? ⟨w.heap.size, 5, none⟩ = some (.int .u64 c.c.b) := fun wx h => (HX7.out.below h (cell_lt HX7.out.c0)).c5
      have k6 : ∀ wx, Below w7.heap.size w7 wx → wx.cell? ⟨w.heap.size, 6, none⟩ = some (.int .i64 c.n) := fun wx h => (HX7.out.below h (cell_lt HX7.out.c0)).c6
      have k7 : ∀ wx, Below w7.heap.size w7 wx → wx.cell? ⟨w.heap.size, 7, none⟩ = some (.int .i64 b) := fun wx h => (HX7.out.below h (cell_lt HX7.out.c0)).c7
      have k8 : ∀ wx, Below w7.heap.size w7 wx → wx.cell? ⟨w.heap.size, 8, none⟩ = some (.slice (some ⟨pb, poff, none⟩) ps.length cap) := fun wx h => (HX7.out.below h (cell_lt HX7.out.c0)).c8
      have k9 : ∀ wx, Below w7.heap.size w7 wx → wx.cell? ⟨w.heap.size, 9, none⟩ = some (bv) := fun wx h => (HX7.out.below h (cell_lt HX7.out.c0)).c9
      have m0 : ∀ wx, Below w7.heap.size w7 wx → wx.cell? ⟨w5.heap.size, 0, none⟩ = some (.int .u64 c.k) := fun wx h => (HV7.out.below h (cell_lt HV7.out.c0)).c0
      have m1 : ∀ wx, Below w7.heap.size w7 wx → wx.cell? ⟨w5.heap.size, 1, none⟩ = some (.bool c.c.h) := fun wx h => (HV7.out.below h (cell_lt HV7.out.c0)).c1
      have m2 : ∀ wx, Below w7.heap.size w7 wx → wx.cell? ⟨w5.heap.size, 2, none⟩ = some (.int .u64 c.c.b) := fun wx h => (HV7.out.below h (cell_lt HV7.out.c0)).c2
      have m3 : ∀ wx, Below w7.heap.size w7 wx → wx.cell? ⟨w5.heap.size, 3, none⟩ = some (.bool c.c.h) := fun wx h => (HV7.out.below h (cell_lt HV7.out.c0)).c3
      have m4 : ∀ wx, Below w7.heap.size w7 wx → wx.cell? ⟨w5.heap.size, 4, none⟩ = some (.int .u64 c.c.b) := fun wx h => (HV7.out.below h (cell_lt HV7.out.c0)).c4
      have m5 : ∀ wx, Below w7.heap.size w7 wx → wx.cell? ⟨w5.heap.size, 5, none⟩ = some (.int .i64 (b - 1)) := fun wx h => (HV7.out.below h (cell_lt HV7.out.c0)).c5
      go_upto_region 9 with fail
      go_cut [100] (fun g wx => g = .bool false ∧ Below w7.heap.size w7 wx)
      case first =>
        have HRO : Hid (revC ⟨c.k, c.c, c.c, b - 1⟩ b = ⟨c.k, c.c, c.c, b - 1⟩) := rev_other (by show b ≠ b - 1; omega)
        refine wp_region_noPanic ?_
        refine wp_region_held_drew (S := fun wx => Below w7.heap.size w7 wx) (by kernel_rfl) ?_ (fun hHeld => ?_)
        · exact (Below.refl _ _).drew
        refine wpAnyH_take (i := 0) (oi := ⟨some 63, _, _, _, _, _⟩) (v := ?_) rfl (by kernel_rfl) (by kernel_rfl) (by kernel_rfl) (fun _ _ _ h => h) (Or.inl ⟨by rfl, ?_⟩) hHeld ?_
        rotate_left
        · intro w hSw; (try dsimp only at hSw); go_simp; all_goals (with_reducible rfl)
        try simp only [Act.put, List.setIfInBounds_toArray, List.set_cons_zero, List.set_cons_succ]
        refine wpAnyH_take (i := 1) (oi := ⟨some 64, _, _, _, _, _⟩) (v := ?_) rfl (by kernel_rfl) (by kernel_rfl) (by kernel_rfl) (fun _ _ _ h => h) (Or.inl ⟨by rfl, ?_⟩) hHeld ?_
        rotate_left
        · intro w hSw; (try dsimp only at hSw); go_simp; all_goals (with_reducible rfl)
        try simp only [Act.put, List.setIfInBounds_toArray, List.set_cons_zero, List.set_cons_succ]
        refine wpAnyH_take (i := 2) (oi := ⟨some 65, _, _, _, _, _⟩) (v := ?_) rfl (by kernel_rfl) (by kernel_rfl) (by kernel_rfl) (fun _ _ _ h => h) (Or.inl ⟨by rfl, ?_⟩) hHeld ?_
        rotate_left
        · intro w hSw; (try dsimp only at hSw); go_simp; all_goals (with_reducible rfl)
        try simp only [Act.put, List.setIfInBounds_toArray, List.set_cons_zero, List.set_cons_succ]
        refine wpAnyH_take (i := 3) (oi := ⟨some 66, _, _, _, _, _⟩) (v := ?_) rfl (by kernel_rfl) (by kernel_rfl) (by kernel_rfl) (fun _ _ _ h => h) (Or.inl ⟨by rfl, ?_⟩) hHeld ?_
        rotate_left
        · intro w hSw; (try dsimp only at hSw); go_simp; all_goals (with_reducible rfl)
        try simp only [Act.put, List.setIfInBounds_toArray, List.set_cons_zero, List.set_cons_succ]
        refine wpAnyH_take (i := 4) (oi := ⟨some 67, _, _, _, _, _⟩) (v := ?_) rfl (by kernel_rfl) (by kernel_rfl) (by kernel_rfl) (fun _ _ _ h => h) (Or.inl ⟨by rfl, ?_⟩) hHeld ?_
        rotate_left
        · intro w hSw; (try dsimp only at hSw); go_simp; all_goals (with_reducible rfl)
        try simp only [Act.put, List.setIfInBounds_toArray, List.set_cons_zero, List.set_cons_succ]
        refine wpAnyH_take (i := 5) (oi := ⟨some 68, _, _, _, _, _⟩) (v := ?_) rfl (by kernel_rfl) (by kernel_rfl) (by kernel_rfl) (fun _ _ _ h => h) (Or.inl ⟨by rfl, ?_⟩) hHeld ?_
        rotate_left
        · intro w hSw; (try dsimp only at hSw); go_simp; all_goals (with_reducible rfl)
        try simp only [Act.put, List.setIfInBounds_toArray, List.set_cons_zero, List.set_cons_succ]
        refine wpAnyH_take (i := 6) (oi := ⟨some 69, _, _, _, _, _⟩) (v := ?_) rfl (by kernel_rfl) (by kernel_rfl) (by kernel_rfl) (fun _ _ _ h => h) (Or.inl ⟨by rfl, ?_⟩) hHeld ?_
        rotate_left
        · intro w hSw; (try dsimp only at hSw); go_simp; all_goals (with_reducible rfl)
        try simp only [Act.put, List.setIfInBounds_toArray, List.set_cons_zero, List.set_cons_succ]
        refine wpAnyH_take (i := 7) (oi := ⟨some 70, _, _, _, _, _⟩) (v := ?_) rfl (by kernel_rfl) (by kernel_rfl) (by kernel_rfl) (fun _ _ _ h => h) (Or.inl ⟨by rfl, ?_⟩) hHeld ?_
        rotate_left
        · intro w hSw; (try dsimp only at hSw); go_simp; all_goals (with_reducible rfl)
        try simp only [Act.put, List.setIfInBounds_toArray, List.set_cons_zero, List.set_cons_succ]
        refine wpAnyH_take (i := 8) (oi := ⟨some 71, _, _, _, _, _⟩) (v := ?_) rfl (by kernel_rfl) (by kernel_rfl) (by kernel_rfl) (fun _ _ _ h => h) (Or.inl ⟨by rfl, ?_⟩) hHeld ?_
        rotate_left
        · intro w hSw; (try dsimp only at hSw); go_simp; all_goals (with_reducible rfl)
        try simp only [Act.put, List.setIfInBounds_toArray, List.set_cons_zero, List.set_cons_succ]
        refine wpAnyH_take (i := 9) (oi := ⟨some 72, _, _, _, _, _⟩) (v := ?_) rfl (by kernel_rfl) (by kernel_rfl) (by kernel_rfl) (fun _ _ _ h => h) (Or.inl ⟨by rfl, ?_⟩) hHeld ?_
        rotate_left
        · intro w hSw; (try dsimp only at hSw); go_simp; all_goals (with_reducible rfl)
        try simp only [Act.put, List.setIfInBounds_toArray, List.set_cons_zero, List.set_cons_succ]
        refine wpAnyH_take (i := 10) (oi := ⟨some 73, _, _, _, _, _⟩) (v := ?_) rfl (by kernel_rfl) (by kernel_rfl) (by kernel_rfl) (fun _ _ _ h => h) (Or.inl ⟨by rfl, ?_⟩) hHeld ?_
        rotate_left
        · intro w hSw; (try dsimp only at hSw); go_simp; all_goals (with_reducible rfl)
        try simp only [Act.put, List.setIfInBounds_toArray, List.set_cons_zero, List.set_cons_succ]
        refine wpAnyH_take (i := 11) (oi := ⟨some 74, _, _, _, _, _⟩) (v := ?_) rfl (by kernel_rfl) (by kernel_rfl) (by kernel_rfl) (fun _ _ _ h => h) (Or.inl ⟨by rfl, ?_⟩) hHeld ?_
        rotate_left
        · intro w hSw; (try dsimp only at hSw); go_simp; all_goals (with_reducible rfl)
        try simp only [Act.put, List.setIfInBounds_toArray, List.set_cons_zero, List.set_cons_succ]
        refine wpAnyH_take (i := 12) (oi := ⟨some 75, _, _, _, _, _⟩) (v := ?_) rfl (by kernel_rfl) (by kernel_rfl) (by kernel_rfl) (fun _ _ _ h => h) (Or.inl ⟨by rfl, ?_⟩) hHeld ?_
        rotate_left
        · intro w hSw; (try dsimp only at hSw); go_simp; all_goals (with_reducible rfl)
        try simp only [Act.put, List.setIfInBounds_toArray, List.set_cons_zero, List.set_cons_succ]
        refine wpAnyH_take (i := 13) (oi := ⟨some 76, _, _, _, _, _⟩) (v := ?_) rfl (by kernel_rfl) (by kernel_rfl) (by kernel_rfl) (fun _ _ _ h => h) (Or.inl ⟨by rfl, ?_⟩) hHeld ?_
        rotate_left
        · intro w hSw; (try dsimp only at hSw); go_simp; all_goals (with_reducible rfl)
        try simp only [Act.put, List.setIfInBounds_toArray, List.set_cons_zero, List.set_cons_succ]
        refine wpAnyH_take (i := 14) (oi := ⟨some 77, _, _, _, _, _⟩) (v := ?_) rfl (by kernel_rfl) (by kernel_rfl) (by kernel_rfl) (fun _ _ _ h => h) (Or.inl ⟨by rfl, ?_⟩) hHeld ?_
        rotate_left
        · intro w hSw; (try dsimp only at hSw); go_simp; all_goals (with_reducible rfl)
        try simp only [Act.put, List.setIfInBounds_toArray, List.set_cons_zero, List.set_cons_succ]
        refine wpAnyH_take (i := 15) (oi := ⟨some 78, _, _, _, _, _⟩) (v := ?_) rfl (by kernel_rfl) (by kernel_rfl) (by kernel_rfl) (fun _ _ _ h => h) (Or.inl ⟨by rfl, ?_⟩) hHeld ?_
        rotate_left
        · intro w hSw; (try dsimp only at hSw); go_simp; all_goals (with_reducible rfl)
        try simp only [Act.put, List.setIfInBounds_toArray, List.set_cons_zero, List.set_cons_succ]
        refine wpAnyH_take (i := 16) (oi := ⟨some 79, _, _, _, _, _⟩) (v := ?_) rfl (by kernel_rfl) (by kernel_rfl) (by kernel_rfl) (fun _ _ _ h => h) (Or.inl ⟨by rfl, ?_⟩) hHeld ?_
        rotate_left
        · intro w hSw; (try dsimp only at hSw); go_simp; all_goals (with_reducible rfl)
        try simp only [Act.put, List.setIfInBounds_toArray, List.set_cons_zero, List.set_cons_succ]
        refine wpAnyH_take (i := 17) (oi := ⟨some 80, _, _, _, _, _⟩) (v := ?_) rfl (by kernel_rfl) (by kernel_rfl) (by kernel_rfl) (fun _ _ _ h => h) (Or.inl ⟨by rfl, ?_⟩) hHeld ?_
        rotate_left
        · intro w hSw; (try dsimp only at hSw); go_simp; all_goals (with_reducible rfl)
        try simp only [Act.put, List.setIfInBounds_toArray, List.set_cons_zero, List.set_cons_succ]
        refine wpAnyH_take (i := 18) (oi := ⟨some 81, _, _, _, _, _⟩) (v := ?_) rfl (by kernel_rfl) (by kernel_rfl) (by kernel_rfl) (fun _ _ _ h => h) (Or.inl ⟨by rfl, ?_⟩) hHeld ?_
        rotate_left
        · intro w hSw; (try dsimp only at hSw); go_simp; all_goals (with_reducible rfl)
        try simp only [Act.put, List.setIfInBounds_toArray, List.set_cons_zero, List.set_cons_succ]
        refine wpAnyH_take (i := 19) (oi := ⟨some 82, _, _, _, _, _⟩) (v := ?_) rfl (by kernel_rfl) (by kernel_rfl) (by kernel_rfl) (fun _ _ _ h => h) (Or.inl ⟨by rfl, ?_⟩) hHeld ?_
        rotate_left
        · intro w hSw; (try dsimp only at hSw); go_simp; all_goals (with_reducible rfl)
        try simp only [Act.put, List.setIfInBounds_toArray, List.set_cons_zero, List.set_cons_succ]
        refine wpAnyH_take (i := 20) (oi := ⟨some 83, _, _, _, _, _⟩) (v := ?_) rfl (by kernel_rfl) (by kernel_rfl) (by kernel_rfl) (fun _ _ _ h => h) (Or.inl ⟨by rfl, ?_⟩) hHeld ?_
        rotate_left
        · intro w hSw; (try dsimp only at hSw); go_simp; all_goals (with_reducible rfl)
        try simp only [Act.put, List.setIfInBounds_toArray, List.set_cons_zero, List.set_cons_succ]
        refine wpAnyH_take (i := 21) (oi := ⟨some 84, _, _, _, _, _⟩) (v := ?_) rfl (by kernel_rfl) (by kernel_rfl) (by kernel_rfl) (fun _ _ _ h => h) (Or.inl ⟨by rfl, ?_⟩) hHeld ?_
        rotate_left
        · intro w hSw; (try dsimp only at hSw); go_simp; all_goals (with_reducible rfl)
        try simp only [Act.put, List.setIfInBounds_toArray, List.set_cons_zero, List.set_cons_succ]
        refine wpAnyH_take (i := 22) (oi := ⟨some 85, _, _, _, _, _⟩) (v := ?_) rfl (by kernel_rfl) (by kernel_rfl) (by kernel_rfl) (fun _ _ _ h => h) (Or.inl ⟨by rfl, ?_⟩) hHeld ?_
        rotate_left
        · intro w hSw; (try dsimp only at hSw); go_simp; all_goals (with_reducible rfl)
        try simp only [Act.put, List.setIfInBounds_toArray, List.set_cons_zero, List.set_cons_succ]
        refine wpAnyH_take (i := 23) (oi := ⟨some 86, _, _, _, _, _⟩) (v := ?_) rfl (by kernel_rfl) (by kernel_rfl) (by kernel_rfl) (fun _ _ _ h => h) (Or.inl ⟨by rfl, ?_⟩) hHeld ?_
        rotate_left
        · intro w hSw; (try dsimp only at hSw); go_simp; all_goals (with_reducible rfl)
        try simp only [Act.put, List.setIfInBounds_toArray, List.set_cons_zero, List.set_cons_succ]
        refine wpAnyH_take (i := 24) (oi := ⟨some 87, _, _, _, _, _⟩) (v := ?_) rfl (by kernel_rfl) (by kernel_rfl) (by kernel_rfl) (fun _ _ _ h => h) (Or.inl ⟨by rfl, ?_⟩) hHeld ?_
        rotate_left
        · intro w hSw; (try dsimp only at hSw); go_simp; all_goals (with_reducible rfl)
        try simp only [Act.put, List.setIfInBounds_toArray, List.set_cons_zero, List.set_cons_succ]
        refine wpAnyH_take (i := 25) (oi := ⟨some 88, _, _, _, _, _⟩) (v := ?_) rfl (by kernel_rfl) (by kernel_rfl) (by kernel_rfl) (fun _ _ _ h => h) (Or.inl ⟨by rfl, ?_⟩) hHeld ?_
        rotate_left
        · intro w hSw; (try dsimp only at hSw); go_simp; all_goals (with_reducible rfl)
        try simp only [Act.put, List.setIfInBounds_toArray, List.set_cons_zero, List.set_cons_succ]
        refine wpAnyH_take (i := 26) (oi := ⟨some 89, _, _, _, _, _⟩) (v := ?_) rfl (by kernel_rfl) (by kernel_rfl) (by kernel_rfl) (fun _ _ _ h => h) (Or.inl ⟨by rfl, ?_⟩) hHeld ?_
        rotate_left
        · intro w hSw; (try dsimp only at hSw); go_simp; all_goals (with_reducible rfl)
        try simp only [Act.put, List.setIfInBounds_toArray, List.set_cons_zero, List.set_cons_succ]
        refine wpAnyH_take (i := 27) (oi := ⟨some 90, _, _, _, _, _⟩) (v := ?_) rfl (by kernel_rfl) (by kernel_rfl) (by kernel_rfl) (fun _ _ _ h => h) (Or.inl ⟨by rfl, ?_⟩) hHeld ?_
        rotate_left
        · intro w hSw; (try dsimp only at hSw); go_simp; all_goals (with_reducible rfl)
        try simp only [Act.put, List.setIfInBounds_toArray, List.set_cons_zero, List.set_cons_succ]
        refine wpAnyH_take (i := 28) (oi := ⟨some 91, _, _, _, _, _⟩) (v := ?_) rfl (by kernel_rfl) (by kernel_rfl) (by kernel_rfl) (fun _ _ _ h => h) (Or.inl ⟨by rfl, ?_⟩) hHeld ?_
        rotate_left
        · intro w hSw; (try dsimp only at hSw); go_simp; all_goals (with_reducible rfl)
        try simp only [Act.put, List.setIfInBounds_toArray, List.set_cons_zero, List.set_cons_succ]
        refine wpAnyH_take (i := 29) (oi := ⟨some 92, _, _, _, _, _⟩) (v := ?_) rfl (by kernel_rfl) (by kernel_rfl) (by kernel_rfl) (fun _ _ _ h => h) (Or.inl ⟨by rfl, ?_⟩) hHeld ?_
        rotate_left
        · intro w hSw; (try dsimp only at hSw); go_simp; all_goals (with_reducible rfl)
        try simp only [Act.put, List.setIfInBounds_toArray, List.set_cons_zero, List.set_cons_succ]
        refine wpAnyH_take (i := 30) (oi := ⟨some 93, _, _, _, _, _⟩) (v := ?_) rfl (by kernel_rfl) (by kernel_rfl) (by kernel_rfl) (fun _ _ _ h => h) (Or.inl ⟨by rfl, ?_⟩) hHeld ?_
        rotate_left
        · intro w hSw; (try dsimp only at hSw); go_simp; all_goals (with_reducible rfl)
        try simp only [Act.put, List.setIfInBounds_toArray, List.set_cons_zero, List.set_cons_succ]
        refine wpAnyH_take (i := 31) (oi := ⟨some 94, _, _, _, _, _⟩) (v := ?_) rfl (by kernel_rfl) (by kernel_rfl) (by kernel_rfl) (fun _ _ _ h => h) (Or.inl ⟨by rfl, ?_⟩) hHeld ?_
        rotate_left
        · intro w hSw; (try dsimp only at hSw); go_simp; all_goals (with_reducible rfl)
        try simp only [Act.put, List.setIfInBounds_toArray, List.set_cons_zero, List.set_cons_succ]
        refine wpAnyH_take (i := 32) (oi := ⟨some 95, _, _, _, _, _⟩) (v := ?_) rfl (by kernel_rfl) (by kernel_rfl) (by kernel_rfl) (fun _ _ _ h => h) (Or.inl ⟨by rfl, ?_⟩) hHeld ?_
        rotate_left
        · intro w hSw; (try dsimp only at hSw); go_simp; all_goals (with_reducible rfl)
        try simp only [Act.put, List.setIfInBounds_toArray, List.set_cons_zero, List.set_cons_succ]
        refine wpAnyH_take (i := 33) (oi := ⟨some 96, _, _, _, _, _⟩) (v := ?_) rfl (by kernel_rfl) (by kernel_rfl) (by kernel_rfl) (fun _ _ _ h => h) (Or.inl ⟨by rfl, ?_⟩) hHeld ?_
        rotate_left
        · intro w hSw; (try dsimp only at hSw); go_simp; all_goals (with_reducible rfl)
        try simp only [Act.put, List.setIfInBounds_toArray, List.set_cons_zero, List.set_cons_succ]
        refine wpAnyH_take (i := 35) (oi := ⟨some 98, _, _, _, _, _⟩) (v := ?_) rfl (by kernel_rfl) (by kernel_rfl) (by kernel_rfl) (fun _ _ _ h => h) (Or.inl ⟨by rfl, ?_⟩) hHeld ?_
        rotate_left
        · intro w hSw; (try dsimp only at hSw); go_simp; all_goals (with_reducible rfl)
        try simp only [Act.put, List.setIfInBounds_toArray, List.set_cons_zero, List.set_cons_succ]
        refine wpAnyH_ready (rs := [34]) (by kernel_rfl) (by simp) ?_
        refine AllReadyH.cons (o := ⟨some 97, _, _, _, _, _⟩) rfl (fun K hK => ?_) AllReadyH.nil
        go_simp
        refine (revert_walk ⟨c.k, c.c, c.c, b - 1⟩ (b := b) (by have := HBR.out; omega) _).mono ?_
        rw [HRO.out]
        rintro e w9 ⟨rfl, hB9⟩
        have hS9 := below_trans hHeld hB9
        clear hB9 hHeld
        go_simp
        refine hK.out _ _ ?_ (fun hHeld => ?_)
        · exact hS9
        clear hK K
        try simp only [Act.put, List.setIfInBounds_toArray, List.set_cons_zero, List.set_cons_succ]
        refine wpAnyH_take (i := 36) (oi := ⟨some 99, _, _, _, _, _⟩) (v := ?_) rfl (by kernel_rfl) (by kernel_rfl) (by kernel_rfl) (fun _ _ _ h => h) (Or.inl ⟨by rfl, ?_⟩) hHeld ?_
        rotate_left
        · intro w hSw; (try dsimp only at hSw); go_simp; all_goals (with_reducible rfl)
        try simp only [Act.put, List.setIfInBounds_toArray, List.set_cons_zero, List.set_cons_succ]
        refine wpAnyH_take (i := 37) (oi := ⟨some 100, _, _, _, _, _⟩) (v := ?_) rfl (by kernel_rfl) (by kernel_rfl) (by kernel_rfl) (fun _ _ _ h => h) (Or.inl ⟨by rfl, ?_⟩) hHeld ?_
        rotate_left
        · intro w hSw; (try dsimp only at hSw); go_simp; all_goals (with_reducible rfl)
        try simp only [Act.put, List.setIfInBounds_toArray, List.set_cons_zero, List.set_cons_succ]
        refine wpAnyH_done (by kernel_rfl) ?_ _
        refine NoPanic.normal ?_
        go_wp2_with fail
        go_meet
        exact ⟨rfl, hHeld⟩
      case rest =>
        clear k0 k1 k2 k3 k4 k5 k6 k7 k8 k9 m0 m1 m2 m3 m4 m5 n2 n3
        obtain ⟨rfl, hBc⟩ := hcut
        have HV8 : Hid (CB wc w5.heap.size ⟨c.k, c.c, c.c, b - 1⟩) := HV7.out.below hBc (cell_lt HV7.out.c0)
        have HX8 : Hid (XB wc w.heap.size k c b (.slice (some ⟨pb, poff, none⟩) ps.length cap) bv) := HX7.out.below hBc (cell_lt HX7.out.c0)
        have HB8 : Hid (Below w.heap.size w wc) := below_trans HB7.out hBc
        clear hBc HX7 HB7 HV7
        obtain ⟨w8, hw8⟩ : ∃ w8, w8 = wc := ⟨_, rfl⟩
        rw [← hw8] at HV8 HX8 HB8 ⊢
        clear hw8
        have k0 : ∀ wx, Below w8.heap.size w8 wx → wx.cell? ⟨w.heap.size, 0, none⟩ = some (.int .i64 k) := fun wx h => (HX8.out.below h (cell_lt HX8.out.c0)).c0
        have k1 : ∀ wx, Below w8.heap.size w8 wx → wx.cell? ⟨w.heap.size, 1, none⟩ = some (.int .u64 c.k) := fun wx h => (HX8.out.below h (cell_lt HX8.out.c0)).c1
        have k2 : ∀ wx, Below w8.heap.size w8 wx → wx.cell? ⟨w.heap.size, 2, none⟩ = some (.bool c.p.h) := fun wx h => (HX8.out.below h (cell_lt HX8.out.c0)).c2
        have k3 : ∀ wx, Below w8.heap.size w8 wx → wx.cell? ⟨w.heap.size, 3, none⟩ = some (.int .u64 c.p.b) := fun wx h => (HX8.out.below h (cell_lt HX8.out.c0)).c3
        have k4 : ∀ wx, Below w8.heap.size w8 wx → wx.cell? ⟨w.heap.size, 4, none⟩ = some (.bool c.c.h) := fun wx h => (HX8.out.below h (cell_lt HX8.out.c0)).c4
        have k5 : ∀ wx, Below w8.heap.size w8 wx → wx.cell? ⟨w.heap.size, 5, none⟩ = some (.int .u64 c.c.b) := fun wx h => (HX8.out.below h (cell_lt HX8.out.c0)).c5
        have k6 : ∀ wx, Below w8.heap.size w8 wx → wx.cell? ⟨w.heap.size, 6, none⟩ = some (.int .i64 c.n) := fun wx h => (HX8.out.below h (cell_lt HX8.out.c0)).c6
        have k7 : ∀ wx, Below w8.heap.size w8 wx → wx.cell? ⟨w.heap.size, 7, none⟩ = some (.int .i64 b) := fun wx h => (HX8.out.below h (cell_lt HX8.out.c0)).c7
        have k8 : ∀ wx, Below w8.heap.size w8 wx → wx.cell? ⟨w.heap.size, 8, none⟩ = some (.slice (some ⟨pb, poff, none⟩) ps.length cap) := fun wx h => (HX8.out.below h (cell_lt HX8.out.c0)).c8
        have k9 : ∀ wx, Below w8.heap.size w8 wx → wx.cell? ⟨w.heap.size, 9, none⟩ = some (bv) := fun wx h => (HX8.out.below h (cell_lt HX8.out.c0)).c9
        have m0 : ∀ wx, Below w8.heap.size w8 wx → wx.cell? ⟨w5.heap.size, 0, none⟩ = some (.int .u64 c.k) := fun wx h => (HV8.out.below h (cell_lt HV8.out.c0)).c0
        have m1 : ∀ wx, Below w8.heap.size w8 wx → wx.cell? ⟨w5.heap.size, 1, none⟩ = some (.bool c.c.h) := fun wx h => (HV8.out.below h (cell_lt HV8.out.c0)).c1
        have m2 : ∀ wx, Below w8.heap.size w8 wx → wx.cell? ⟨w5.heap.size, 2, none⟩ = some (.int .u64 c.c.b) := fun wx h => (HV8.out.below h (cell_lt HV8.out.c0)).c2
        have m3 : ∀ wx, Below w8.heap.size w8 wx → wx.cell? ⟨w5.heap.size, 3, none⟩ = some (.bool c.c.h) := fun wx h => (HV8.out.below h (cell_lt HV8.out.c0)).c3
        have m4 : ∀ wx, Below w8.heap.size w8 wx → wx.cell? ⟨w5.heap.size, 4, none⟩ = some (.int .u64 c.c.b) := fun wx h => (HV8.out.below h (cell_lt HV8.out.c0)).c4
        have m5 : ∀ wx, Below w8.heap.size w8 wx → wx.cell? ⟨w5.heap.size, 5, none⟩ = some (.int .i64 (b - 1)) := fun wx h => (HV8.out.below h (cell_lt HV8.out.c0)).c5
        have HE : Hid (empC ⟨c.k, c.c, c.c, b - 1⟩ = !c.c.h) := by show (!c.c.h && !c.c.h) = !c.c.h; simp
        go_upto_region 11 with fail
        refine wp_region_noPanic ?_
        refine wp_region_held_drew (S := fun wx => Below w8.heap.size w8 wx) (by kernel_rfl) ?_ (fun hHeld => ?_)
        · exact (Below.refl _ _).drew
        refine wpAnyH_take (i := 0) (oi := ⟨some 101, _, _, _, _, _⟩) (v := ?_) rfl (by kernel_rfl) (by kernel_rfl) (by kernel_rfl) (fun _ _ _ h => h) (Or.inl ⟨by rfl, ?_⟩) hHeld ?_
        rotate_left
        · intro w hSw; (try dsimp only at hSw); go_simp; all_goals (with_reducible rfl)
        try simp only [Act.put, List.setIfInBounds_toArray, List.set_cons_zero, List.set_cons_succ]
        refine wpAnyH_take (i := 2) (oi := ⟨some 103, _, _, _, _, _⟩) (v := ?_) rfl (by kernel_rfl) (by kernel_rfl) (by kernel_rfl) (fun _ _ _ h => h) (Or.inl ⟨by rfl, ?_⟩) hHeld ?_
        rotate_left
        · intro w hSw; (try dsimp only at hSw); go_simp; all_goals (with_reducible rfl)
        try simp only [Act.put, List.setIfInBounds_toArray, List.set_cons_zero, List.set_cons_succ]
        refine wpAnyH_take (i := 3) (oi := ⟨some 104, _, _, _, _, _⟩) (v := ?_) rfl (by kernel_rfl) (by kernel_rfl) (by kernel_rfl) (fun _ _ _ h => h) (Or.inl ⟨by rfl, ?_⟩) hHeld ?_
        rotate_left
        · intro w hSw; (try dsimp only at hSw); go_simp; all_goals (with_reducible rfl)
        try simp only [Act.put, List.setIfInBounds_toArray, List.set_cons_zero, List.set_cons_succ]
        refine wpAnyH_take (i := 4) (oi := ⟨some 105, _, _, _, _, _⟩) (v := ?_) rfl (by kernel_rfl) (by kernel_rfl) (by kernel_rfl) (fun _ _ _ h => h) (Or.inl ⟨by rfl, ?_⟩) hHeld ?_
        rotate_left
        · intro w hSw; (try dsimp only at hSw); go_simp; all_goals (with_reducible rfl)
        try simp only [Act.put, List.setIfInBounds_toArray, List.set_cons_zero, List.set_cons_succ]
        refine wpAnyH_take (i := 5) (oi := ⟨some 106, _, _, _, _, _⟩) (v := ?_) rfl (by kernel_rfl) (by kernel_rfl) (by kernel_rfl) (fun _ _ _ h => h) (Or.inl ⟨by rfl, ?_⟩) hHeld ?_
        rotate_left
        · intro w hSw; (try dsimp only at hSw); go_simp; all_goals (with_reducible rfl)
        try simp only [Act.put, List.setIfInBounds_toArray, List.set_cons_zero, List.set_cons_succ]
        refine wpAnyH_take (i := 6) (oi := ⟨some 107, _, _, _, _, _⟩) (v := ?_) rfl (by kernel_rfl) (by kernel_rfl) (by kernel_rfl) (fun _ _ _ h => h) (Or.inl ⟨by rfl, ?_⟩) hHeld ?_
        rotate_left
        · intro w hSw; (try dsimp only at hSw); go_simp; all_goals (with_reducible rfl)
        try simp only [Act.put, List.setIfInBounds_toArray, List.set_cons_zero, List.set_cons_succ]
        refine wpAnyH_ready (rs := [1]) (by kernel_rfl) (by simp) ?_
        refine AllReadyH.cons (o := ⟨some 102, _, _, _, _, _⟩) rfl (fun K hK => ?_) AllReadyH.nil
        go_simp
        refine (empty_walk ⟨c.k, c.c, c.c, b - 1⟩ _).mono ?_
        rw [HE.out]
        rintro e w9 ⟨rfl, hB9⟩
        have hS9 := below_trans hHeld hB9
        clear hB9 hHeld
        go_simp
        refine hK.out _ _ ?_ (fun hHeld => ?_)
        · exact hS9
        clear hK K
        try simp only [Act.put, List.setIfInBounds_toArray, List.set_cons_zero, List.set_cons_succ]
        refine wpAnyH_take (i := 7) (oi := ⟨some 108, _, _, _, _, _⟩) (v := ?_) rfl (by kernel_rfl) (by kernel_rfl) (by kernel_rfl) (fun _ _ _ h => h) (Or.inl ⟨by rfl, ?_⟩) hHeld ?_
        rotate_left
        · intro w hSw; (try dsimp only at hSw); go_simp; all_goals (with_reducible rfl)
        try simp only [Act.put, List.setIfInBounds_toArray, List.set_cons_zero, List.set_cons_succ]
        refine wpAnyH_take (i := 8) (oi := ⟨some 4, _, _, _, _, _⟩) (v := ?_) rfl (by kernel_rfl) (by kernel_rfl) (by kernel_rfl) (fun _ _ _ h => h) (Or.inl ⟨by rfl, ?_⟩) hHeld ?_
        rotate_left
        · intro w hSw; (try dsimp only at hSw); go_simp; all_goals (with_reducible rfl)
        try simp only [Act.put, List.setIfInBounds_toArray, List.set_cons_zero, List.set_cons_succ]
        refine wpAnyH_done (by kernel_rfl) ?_ _
        refine NoPanic.normal ?_
        go_wp2_with fail
        go_ret
        exact ⟨rfl, below_trans HB8.out hHeld⟩
end Go.Proofs.Ytnppgeokbhecfaa
