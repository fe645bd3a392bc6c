/- StoreOf; the reference's Check, Nodes, Kind, WorkerOf, StoreOf. -/
import Derived.Test.YtlblpjookbomjaaOd

namespace Go.Proofs.Ytlblpjookbomjaa

open Go.RowKit



theorem place_lt {p : Pn} (k : Nat) (hp : p.is = true) : p.place k < 4 ∧ p.place k < p.S.toNat := by
  obtain ⟨_, ⟨s1, s2⟩, _⟩ := Pn.is_num hp
  have : p.place k < p.S.toNat := Nat.mod_lt _ (by omega)
  omega
section

variable {p : Pn} {w : World} {ov : Value}

theorem store_walk (k : Nat) (hk : k < 18446744073709551616) (ho : Ov w ov p.l) : Calls Try.prog 17 #[.agg #[.int .i64 p.P, .int .i64 p.S, .int .i64 p.W, ov, .int .i64 p.A, .int .i64 p.B, .int .i64 p.N, .int .i64 p.G], .int .u64 k] w fun e w' => e = .returned (.int .i64 (p.store k)) ∧ Below w.heap.size w w' := by
  have HO : Hid (Ov w ov p.l) := ho
  clear ho
  have HN : Hid (p.store k = if p.is then 1 + p.W + (p.place k : Int) else -1) := rfl
  cases hp : p.is
  · rw [HN.out, hp]
    go_enter Try.func17, Try.ntmps17
    go_wp2_with fail
    refine (isplan_walk (HO.out.below (below_alloc _ _))).mono ?_
    rw [hp]
    rintro e w1 ⟨rfl, hB1⟩
    go_wp2_with fail
    go_ret
    exact ⟨rfl, below_trans (below_alloc _ _) hB1⟩
  · rw [HN.out, hp]
    obtain ⟨_, ⟨s1, s2⟩, ⟨w1, w2⟩, _⟩ := Pn.is_num hp
    have hr4 := (place_lt k hp).1
    go_enter Try.func17, Try.ntmps17
    go_wp2_with fail
    refine (isplan_walk (HO.out.below (below_alloc _ _))).mono ?_
    rw [hp]
    rintro e w1 ⟨rfl, hB1⟩
    have HB1 : Hid (Below w.heap.size w w1) := below_trans (below_alloc _ _) hB1
    have HX := (box_then hB1).all (box_lt hB1)
    have c0 := fun wx h => (HX wx h).c0
    have c1 := fun wx h => (HX wx h).c1
    have c2 := fun wx h => (HX wx h).c2
    have c3 := fun wx h => (HX wx h).c3
    have c4 := fun wx h => (HX wx h).c4
    have c5 := fun wx h => (HX wx h).c5
    have c6 := fun wx h => (HX wx h).c6
    have c7 := fun wx h => (HX wx h).c7
    clear hB1 HX
    go_wp2_with fail
    refine wp_region_noPanic ?_
    refine wp_region_held_drew (S := fun wx => Below w1.heap.size w1 wx) (by kernel_rfl) ?_ (fun hHeld => ?_)
    · exact below_drw _
    refine wpAnyH_take (i := 0) (oi := ⟨some 8, _, _, _, _, _⟩) (v := ?_) rfl (by kernel_rfl) (by kernel_rfl) (by kernel_rfl) (fun _ _ _ h => h) (Or.inl ⟨by rfl, ?_⟩) hHeld ?_
    rotate_left
    · intro w hSw; (try dsimp only at hSw); go_simp; all_goals (with_reducible rfl)
    try simp only [Act.put, List.setIfInBounds_toArray, List.set_cons_zero, List.set_cons_succ]
    refine wpAnyH_take (i := 2) (oi := ⟨some 10, _, _, _, _, _⟩) (v := ?_) rfl (by kernel_rfl) (by kernel_rfl) (by kernel_rfl) (fun _ _ _ h => h) (Or.inl ⟨by rfl, ?_⟩) hHeld ?_
    rotate_left
    · intro w hSw; (try dsimp only at hSw); go_simp; all_goals (with_reducible rfl)
    try simp only [Act.put, List.setIfInBounds_toArray, List.set_cons_zero, List.set_cons_succ]
    refine wpAnyH_take (i := 3) (oi := ⟨some 11, _, _, _, _, _⟩) (v := ?_) rfl (by kernel_rfl) (by kernel_rfl) (by kernel_rfl) (fun _ _ _ h => h) (Or.inl ⟨by rfl, ?_⟩) hHeld ?_
    rotate_left
    · intro w hSw; (try dsimp only at hSw); go_simp; all_goals (with_reducible rfl)
    try simp only [Act.put, List.setIfInBounds_toArray, List.set_cons_zero, List.set_cons_succ]
    refine wpAnyH_ready (rs := [1]) (by kernel_rfl) (by simp) ?_
    refine AllReadyH.cons (o := ⟨some 9, _, _, _, _, _⟩) rfl (fun K hK => ?_) AllReadyH.nil
    go_simp
    refine (first_walk _ hp _).mono ?_
    rintro e w2 ⟨rfl, hB2⟩
    refine hK.out _ _ ?_ (fun hHeld => ?_)
    · exact below_trans hHeld hB2
    clear hK K
    try simp only [Act.put, List.setIfInBounds_toArray, List.set_cons_zero, List.set_cons_succ]
    refine wpAnyH_ready (rs := [4]) (by kernel_rfl) (by simp) ?_
    refine AllReadyH.cons (o := ⟨some 12, _, _, _, _, _⟩) rfl (fun K hK => ?_) AllReadyH.nil
    go_simp
    refine (place_walk k hk hp).mono ?_
    rintro e w3 ⟨rfl, hB3⟩
    refine hK.out _ _ ?_ (fun hHeld => ?_)
    · exact below_trans hHeld hB3
    clear hK K
    try simp only [Act.put, List.setIfInBounds_toArray, List.set_cons_zero, List.set_cons_succ]
    refine wpAnyH_take (i := 5) (oi := ⟨some 13, _, _, _, _, _⟩) (v := ?_) rfl (by kernel_rfl) (by kernel_rfl) (by kernel_rfl) (fun _ _ _ h => h) (Or.inl ⟨by rfl, ?_⟩) hHeld ?_
    rotate_left
    · intro w hSw; (try dsimp only at hSw); go_simp; all_goals (with_reducible rfl)
    try simp only [Act.put, List.setIfInBounds_toArray, List.set_cons_zero, List.set_cons_succ]
    refine wpAnyH_take (i := 6) (oi := ⟨some 4, _, _, _, _, _⟩) (v := ?_) rfl (by kernel_rfl) (by kernel_rfl) (by kernel_rfl) (fun _ _ _ h => h) (Or.inl ⟨by rfl, ?_⟩) hHeld ?_
    rotate_left
    · intro w hSw; (try dsimp only at hSw); go_simp; all_goals (with_reducible rfl)
    try simp only [Act.put, List.setIfInBounds_toArray, List.set_cons_zero, List.set_cons_succ]
    refine wpAnyH_done (by kernel_rfl) ?_ _
    refine NoPanic.normal ?_
    go_wp2_with fail
    go_ret
    exact ⟨ret_int (by rw [IntKind.wrap_i64]; omega), below_trans HB1.out hHeld⟩


theorem rpcheck_walk (ho : Ov w ov p.l) : Calls Try.prog 10 #[.agg #[.int .i64 p.P, .int .i64 p.S, .int .i64 p.W, ov, .int .i64 p.A, .int .i64 p.B, .int .i64 p.N, .int .i64 p.G]] w fun e w' => e = .returned (.int .i64 p.chk) ∧ Below w.heap.size w w' := by
  obtain ⟨⟨ao, cap, rfl, o1, o2, o3, o4⟩, _⟩ := ho
  have HO : Hid (Ol w ao p.l) := o4
  have HL : Hid (p.l.length ≤ maxLen) := Nat.le_trans o1 o2
  clear o1 o2 o3 o4
  have HC : Hid (p.chk = if ((btw p.P 1 4 && btw p.S 1 4 && btw p.W 1 4) && knownB p.A && (btw p.B 1 16 && btw p.N 1 4 && btw p.G 8 64)) then chkI p.l else 140) := rfl
  have HG : Hid (btw p.G 8 64 = (decide (8 ≤ p.G) && decide (p.G ≤ 64))) := rfl
  cases h0 : btw p.P 1 4
  · rw [HC.out, h0]
    clear HC HG
    go_enter Try.func10, Try.ntmps10
    go_wp2_with (go_at_call 27; refine (rwithin_walk _ _ _).mono ?_; simp only [h0]; rintro e w9 ⟨rfl, h9⟩; replace h9 := h9.symm; subst h9)
    go_ret
    exact ⟨by simp, below_alloc _ _⟩
  cases h1 : btw p.S 1 4
  · rw [HC.out, h0, h1]
    clear HC HG
    go_enter Try.func10, Try.ntmps10
    go_wp2_with (go_at_call 27; refine (rwithin_walk _ _ _).mono ?_; simp only [h0, h1]; rintro e w9 ⟨rfl, h9⟩; replace h9 := h9.symm; subst h9)
    go_ret
    exact ⟨by simp, below_alloc _ _⟩
  cases h2 : btw p.W 1 4
  · rw [HC.out, h0, h1, h2]
    clear HC HG
    go_enter Try.func10, Try.ntmps10
    go_wp2_with (go_at_call 27; refine (rwithin_walk _ _ _).mono ?_; simp only [h0, h1, h2]; rintro e w9 ⟨rfl, h9⟩; replace h9 := h9.symm; subst h9)
    go_ret
    exact ⟨by simp, below_alloc _ _⟩
  cases h3 : knownB p.A
  · rw [HC.out, h0, h1, h2, h3]
    clear HC HG
    go_enter Try.func10, Try.ntmps10
    go_wp2_with (first | (go_at_call 27; refine (rwithin_walk _ _ _).mono ?_; simp only [h0, h1, h2]; rintro e w9 ⟨rfl, h9⟩; replace h9 := h9.symm; subst h9) | (go_at_call 28; refine (rknown_walk _ _).mono ?_; rw [h3]; rintro e w9 ⟨rfl, h9⟩; replace h9 := h9.symm; subst h9))
    go_ret
    exact ⟨by simp, below_alloc _ _⟩
  cases h4 : btw p.B 1 16
  · rw [HC.out, h0, h1, h2, h3, h4]
    clear HC HG
    go_enter Try.func10, Try.ntmps10
    go_wp2_with (first | (go_at_call 27; refine (rwithin_walk _ _ _).mono ?_; simp only [h0, h1, h2, h4]; rintro e w9 ⟨rfl, h9⟩; replace h9 := h9.symm; subst h9) | (go_at_call 28; refine (rknown_walk _ _).mono ?_; rw [h3]; rintro e w9 ⟨rfl, h9⟩; replace h9 := h9.symm; subst h9))
    go_ret
    exact ⟨by simp, below_alloc _ _⟩
  cases h5 : btw p.N 1 4
  · rw [HC.out, h0, h1, h2, h3, h4, h5]
    clear HC HG
    go_enter Try.func10, Try.ntmps10
    go_wp2_with (first | (go_at_call 27; refine (rwithin_walk _ _ _).mono ?_; simp only [h0, h1, h2, h4, h5]; rintro e w9 ⟨rfl, h9⟩; replace h9 := h9.symm; subst h9) | (go_at_call 28; refine (rknown_walk _ _).mono ?_; rw [h3]; rintro e w9 ⟨rfl, h9⟩; replace h9 := h9.symm; subst h9))
    go_ret
    exact ⟨by simp, below_alloc _ _⟩
  by_cases g1 : p.G < 8
  · have hg : btw p.G 8 64 = false := by rw [HG.out, decide_eq_false (by omega)]; rfl
    rw [HC.out, h0, h1, h2, h3, h4, h5, hg]
    clear HC HG
    go_enter Try.func10, Try.ntmps10
    go_wp2_with (first | (go_at_call 27; refine (rwithin_walk _ _ _).mono ?_; simp only [h0, h1, h2, h4, h5]; rintro e w9 ⟨rfl, h9⟩; replace h9 := h9.symm; subst h9) | (go_at_call 28; refine (rknown_walk _ _).mono ?_; rw [h3]; rintro e w9 ⟨rfl, h9⟩; replace h9 := h9.symm; subst h9))
    go_ret
    exact ⟨by simp, below_alloc _ _⟩
  by_cases g2 : 64 < p.G
  · have hg : btw p.G 8 64 = false := by rw [HG.out, decide_eq_false (show ¬ p.G ≤ 64 by omega), Bool.and_false]
    rw [HC.out, h0, h1, h2, h3, h4, h5, hg]
    clear HC HG
    go_enter Try.func10, Try.ntmps10
    go_wp2_with (first | (go_at_call 27; refine (rwithin_walk _ _ _).mono ?_; simp only [h0, h1, h2, h4, h5]; rintro e w9 ⟨rfl, h9⟩; replace h9 := h9.symm; subst h9) | (go_at_call 28; refine (rknown_walk _ _).mono ?_; rw [h3]; rintro e w9 ⟨rfl, h9⟩; replace h9 := h9.symm; subst h9))
    go_ret
    exact ⟨by simp, below_alloc _ _⟩
  · have hg : btw p.G 8 64 = true := by rw [HG.out, decide_eq_true (show p.G ≤ 64 by omega), decide_eq_true (by omega)]; rfl
    rw [HC.out, h0, h1, h2, h3, h4, h5, hg]
    clear HC HG
    go_enter Try.func10, Try.ntmps10
    go_wp2_with (first | (go_at_call 27; refine (rwithin_walk _ _ _).mono ?_; simp only [h0, h1, h2, h4, h5]; rintro e w9 ⟨rfl, h9⟩; replace h9 := h9.symm; subst h9) | (go_at_call 28; refine (rknown_walk _ _).mono ?_; rw [h3]; rintro e w9 ⟨rfl, h9⟩; replace h9 := h9.symm; subst h9))
    refine (rcheck_walk HL.out (HO.out.below (below_alloc _ _))).mono ?_
    rintro e w1 ⟨rfl, hB1⟩
    go_wp2_with fail
    go_ret
    exact ⟨by simp, below_trans (below_alloc _ _) hB1⟩
theorem rnodes_walk (ho : Ov w ov p.l) : Calls Try.prog 14 #[.agg #[.int .i64 p.P, .int .i64 p.S, .int .i64 p.W, ov, .int .i64 p.A, .int .i64 p.B, .int .i64 p.N, .int .i64 p.G]] w fun e w' => e = .returned (.int .i64 p.nodes) ∧ Below w.heap.size w w' := by
  have HO : Hid (Ov w ov p.l) := ho
  clear ho
  have HN : Hid (p.nodes = if p.is then 1 + p.W + p.S else 0) := rfl
  cases hp : p.is
  · have hc := Pn.chk_no hp
    rw [HN.out, hp]
    go_enter Try.func14, Try.ntmps14
    go_wp2_with fail
    refine (rpcheck_walk (HO.out.below (below_alloc _ _))).mono ?_
    rintro e w1 ⟨rfl, hB1⟩
    go_wp2_with fail
    go_ret
    exact ⟨rfl, below_trans (below_alloc _ _) hB1⟩
  · have hc := Pn.chk_ok hp
    rw [HN.out, hp]
    obtain ⟨_, ⟨s1, s2⟩, ⟨w1, w2⟩, _⟩ := Pn.is_num hp
    go_enter Try.func14, Try.ntmps14
    go_wp2_with fail
    refine (rpcheck_walk (HO.out.below (below_alloc _ _))).mono ?_
    rw [hc]
    rintro e w1 ⟨rfl, hB1⟩
    have HB1 : Hid (Below w.heap.size w w1) := below_trans (below_alloc _ _) hB1
    obtain ⟨c0, c1, c2, c3, c4, c5, c6, c7⟩ := box_then hB1
    clear hB1
    go_wp2_with fail
    go_ret
    exact ⟨rfl, HB1.out⟩
theorem rkind_walk (n : Int) (ho : Ov w ov p.l) : Calls Try.prog 12 #[.agg #[.int .i64 p.P, .int .i64 p.S, .int .i64 p.W, ov, .int .i64 p.A, .int .i64 p.B, .int .i64 p.N, .int .i64 p.G], .int .i64 n] w fun e w' => e = .returned (.int .i64 (p.kind n)) ∧ Below w.heap.size w w' := by
  have HO : Hid (Ov w ov p.l) := ho
  clear ho
  have HN : Hid (p.kind n = if n < 0 ∨ p.nodes ≤ n then 0 else if n < 1 then 1 else if n < 1 + p.W then 2 else 3) := rfl
  by_cases h0 : n < 0
  · rw [HN.out, if_pos (.inl h0)]
    go_enter Try.func12, Try.ntmps12
    go_wp2_with fail
    go_ret
    exact ⟨rfl, below_alloc _ _⟩
  by_cases h1 : p.nodes ≤ n
  · rw [HN.out, if_pos (.inr h1)]
    go_enter Try.func12, Try.ntmps12
    go_wp2_with fail
    refine (rnodes_walk (HO.out.below (below_alloc _ _))).mono ?_
    rintro e w1 ⟨rfl, hB1⟩
    go_wp2_with fail
    go_ret
    exact ⟨rfl, below_trans (below_alloc _ _) hB1⟩
  have hp := kind_in h0 h1
  have HP : Hid (p.is = true) := hp
  obtain ⟨_, ⟨s1, s2⟩, ⟨w1, w2⟩, _⟩ := Pn.is_num hp
  clear hp
  rw [HN.out, if_neg (by omega)]
  clear HN
  by_cases h2 : n < 1
  · have h3 : n = 0 := by omega
    subst h3
    rw [if_pos h2]
    go_enter Try.func12, Try.ntmps12
    go_wp2_with fail
    refine (rnodes_walk (HO.out.below (below_alloc _ _))).mono ?_
    rintro e w1 ⟨rfl, hB1⟩
    go_wp2_with fail
    go_ret
    exact ⟨rfl, below_trans (below_alloc _ _) hB1⟩
  rw [if_neg h2]
  have h4 : ¬ n = 0 := by omega
  by_cases h3 : n < 1 + p.W
  · rw [if_pos h3]
    have h5 : n ≤ p.W := by omega
    go_enter Try.func12, Try.ntmps12
    go_wp2_with fail
    refine (rnodes_walk (HO.out.below (below_alloc _ _))).mono ?_
    rintro e w1 ⟨rfl, hB1⟩
    have HB1 : Hid (Below w.heap.size w w1) := below_trans (below_alloc _ _) hB1
    obtain ⟨c0, c1, c2, c3, c4, c5, c6, c7⟩ := box_then hB1
    clear hB1
    go_wp2_with fail
    go_ret
    exact ⟨rfl, HB1.out⟩
  · rw [if_neg h3]
    have h5 : ¬ n ≤ p.W := by omega
    go_enter Try.func12, Try.ntmps12
    go_wp2_with fail
    refine (rnodes_walk (HO.out.below (below_alloc _ _))).mono ?_
    rintro e w1 ⟨rfl, hB1⟩
    have HB1 : Hid (Below w.heap.size w w1) := below_trans (below_alloc _ _) hB1
    obtain ⟨c0, c1, c2, c3, c4, c5, c6, c7⟩ := box_then hB1
    clear hB1
    go_wp2_with fail
    go_ret
    exact ⟨rfl, HB1.out⟩
theorem rworker_walk (a : Int) (ha : a < 9223372036854775808) (ho : Ov w ov p.l) : Calls Try.prog 16 #[.agg #[.int .i64 p.P, .int .i64 p.S, .int .i64 p.W, ov, .int .i64 p.A, .int .i64 p.B, .int .i64 p.N, .int .i64 p.G], .int .i64 a] w fun e w' => e = .returned (.int .i64 (p.worker a)) ∧ Below w.heap.size w w' := by
  have HO : Hid (Ov w ov p.l) := ho
  clear ho
  have HN : Hid (p.worker a = if p.is && decide (1 ≤ a) then 1 + a % p.W else -1) := rfl
  cases hp : p.is
  · have hc := Pn.chk_no hp
    have hc1 : ¬ p.chk = 0 := by simpa using hc
    have hc2 : (p.chk != 0) = true := by simpa using hc
    rw [HN.out, hp]
    go_enter Try.func16, Try.ntmps16
    go_wp2_with fail
    refine (rpcheck_walk (HO.out.below (below_alloc _ _))).mono ?_
    rintro e w1 ⟨rfl, hB1⟩
    go_wp2_with fail
    go_ret
    exact ⟨rfl, below_trans (below_alloc _ _) hB1⟩
  obtain ⟨_, ⟨s1, s2⟩, ⟨w1, w2⟩, _⟩ := Pn.is_num hp
  have hc := Pn.chk_ok hp
  by_cases h1 : a < 1
  · rw [HN.out, hp, decide_eq_false (by omega)]
    go_enter Try.func16, Try.ntmps16
    go_wp2_with fail
    refine (rpcheck_walk (HO.out.below (below_alloc _ _))).mono ?_
    rw [hc]
    rintro e w1 ⟨rfl, hB1⟩
    go_wp2_with fail
    go_ret
    exact ⟨rfl, below_trans (below_alloc _ _) hB1⟩
  · rw [HN.out, hp, decide_eq_true (by omega)]
    have hm1 : a.tmod p.W = a % p.W := Int.tmod_eq_emod_of_nonneg (by omega)
    have hm2 : 0 ≤ a % p.W := Int.emod_nonneg _ (by omega)
    have hm3 : a % p.W < p.W := Int.emod_lt_of_pos _ (by omega)
    have hw0 : ¬ p.W = 0 := by omega
    go_enter Try.func16, Try.ntmps16
    go_wp2_with fail
    refine (rpcheck_walk (HO.out.below (below_alloc _ _))).mono ?_
    rw [hc]
    rintro e w1 ⟨rfl, hB1⟩
    have HB1 : Hid (Below w.heap.size w w1) := below_trans (below_alloc _ _) hB1
    obtain ⟨c0, c1, c2, c3, c4, c5, c6, c7⟩ := box_then hB1
    clear hB1
    go_wp2_with fail
    go_ret
    exact ⟨rfl, HB1.out⟩
theorem rstore_walk (k : Nat) (hk : k < 18446744073709551616) (ho : Ov w ov p.l) : Calls Try.prog 18 #[.agg #[.int .i64 p.P, .int .i64 p.S, .int .i64 p.W, ov, .int .i64 p.A, .int .i64 p.B, .int .i64 p.N, .int .i64 p.G], .int .u64 k] w fun e w' => e = .returned (.int .i64 (p.store k)) ∧ Below w.heap.size w w' := by
  have HO : Hid (Ov w ov p.l) := ho
  clear ho
  have HN : Hid (p.store k = if p.is then 1 + p.W + (p.place k : Int) else -1) := rfl
  cases hp : p.is
  · have hc := Pn.chk_no hp
    rw [HN.out, hp]
    go_enter Try.func18, Try.ntmps18
    go_wp2_with fail
    refine (rpcheck_walk (HO.out.below (below_alloc _ _))).mono ?_
    rintro e w1 ⟨rfl, hB1⟩
    go_wp2_with fail
    go_ret
    exact ⟨rfl, below_trans (below_alloc _ _) hB1⟩
  · have hc := Pn.chk_ok hp
    rw [HN.out, hp]
    obtain ⟨_, ⟨s1, s2⟩, ⟨w1, w2⟩, _⟩ := Pn.is_num hp
    have hr4 := (place_lt k hp).1
    obtain ⟨r, hr⟩ : ∃ r : Nat, r = p.place k := ⟨_, rfl⟩
    have hm : (k : Int) % p.S = r := by
      rw [hr, show p.place k = k % p.S.toNat from rfl, show p.S = ((p.S.toNat : Nat) : Int) by omega]
      simp
    have hm' : (k : Int).tmod p.S = r := by rw [Int.tmod_eq_emod_of_nonneg (by omega)]; exact hm
    rw [← hr] at hr4 ⊢
    have hw0 : ¬ p.S = 0 := by omega
    have hwS : IntKind.u64.wrap p.S = p.S := by rw [IntKind.wrap_u64]; omega
    have hwr : IntKind.i64.wrap (r : Int) = r := by rw [IntKind.wrap_i64]; omega
    have HR : Hid (r = p.place k) := hr
    clear hr
    go_enter Try.func18, Try.ntmps18
    go_wp2_with fail
    refine (rpcheck_walk (HO.out.below (below_alloc _ _))).mono ?_
    rw [hc]
    rintro e w1 ⟨rfl, hB1⟩
    have HB1 : Hid (Below w.heap.size w w1) := below_trans (below_alloc _ _) hB1
    have HX := (box_then hB1).all (box_lt hB1)
    have c0 := fun wx h => (HX wx h).c0
    have c1 := fun wx h => (HX wx h).c1
    have c2 := fun wx h => (HX wx h).c2
    have c3 := fun wx h => (HX wx h).c3
    have c4 := fun wx h => (HX wx h).c4
    have c5 := fun wx h => (HX wx h).c5
    have c6 := fun wx h => (HX wx h).c6
    have c7 := fun wx h => (HX wx h).c7
    clear hB1 HX
    go_wp2_with fail
    refine wp_region_noPanic ?_
    refine wp_region_held_drew (S := fun wx => Below w1.heap.size w1 wx) (by kernel_rfl) ?_ (fun hHeld => ?_)
    · exact below_drw _
    refine wpAnyH_take (i := 0) (oi := ⟨some 8, _, _, _, _, _⟩) (v := ?_) rfl (by kernel_rfl) (by kernel_rfl) (by kernel_rfl) (fun _ _ _ h => h) (Or.inl ⟨by rfl, ?_⟩) hHeld ?_
    rotate_left
    · intro w hSw; (try dsimp only at hSw); go_simp; all_goals (with_reducible rfl)
    try simp only [Act.put, List.setIfInBounds_toArray, List.set_cons_zero, List.set_cons_succ]
    refine wpAnyH_take (i := 1) (oi := ⟨some 9, _, _, _, _, _⟩) (v := ?_) rfl (by kernel_rfl) (by kernel_rfl) (by kernel_rfl) (fun _ _ _ h => h) (Or.inl ⟨by rfl, ?_⟩) hHeld ?_
    rotate_left
    · intro w hSw; (try dsimp only at hSw); go_simp; all_goals (with_reducible rfl)
    try simp only [Act.put, List.setIfInBounds_toArray, List.set_cons_zero, List.set_cons_succ]
    refine wpAnyH_take (i := 2) (oi := ⟨some 10, _, _, _, _, _⟩) (v := ?_) rfl (by kernel_rfl) (by kernel_rfl) (by kernel_rfl) (fun _ _ _ h => h) (Or.inl ⟨by rfl, ?_⟩) hHeld ?_
    rotate_left
    · intro w hSw; (try dsimp only at hSw); go_simp; all_goals (with_reducible rfl)
    try simp only [Act.put, List.setIfInBounds_toArray, List.set_cons_zero, List.set_cons_succ]
    refine wpAnyH_take (i := 3) (oi := ⟨some 11, _, _, _, _, _⟩) (v := ?_) rfl (by kernel_rfl) (by kernel_rfl) (by kernel_rfl) (fun _ _ _ h => h) (Or.inl ⟨by rfl, ?_⟩) hHeld ?_
    rotate_left
    · intro w hSw; (try dsimp only at hSw); go_simp; all_goals (with_reducible rfl)
    try simp only [Act.put, List.setIfInBounds_toArray, List.set_cons_zero, List.set_cons_succ]
    refine wpAnyH_take (i := 4) (oi := ⟨some 12, _, _, _, _, _⟩) (v := ?_) rfl (by kernel_rfl) (by kernel_rfl) (by kernel_rfl) (fun _ _ _ h => h) (Or.inl ⟨by rfl, ?_⟩) hHeld ?_
    rotate_left
    · intro w hSw; (try dsimp only at hSw); go_simp; all_goals (with_reducible rfl)
    try simp only [Act.put, List.setIfInBounds_toArray, List.set_cons_zero, List.set_cons_succ]
    refine wpAnyH_take (i := 5) (oi := ⟨some 13, _, _, _, _, _⟩) (v := ?_) rfl (by kernel_rfl) (by kernel_rfl) (by kernel_rfl) (fun _ _ _ h => h) (Or.inl ⟨by rfl, ?_⟩) hHeld ?_
    rotate_left
    · intro w hSw; (try dsimp only at hSw); go_simp; all_goals (with_reducible rfl)
    try simp only [Act.put, List.setIfInBounds_toArray, List.set_cons_zero, List.set_cons_succ]
    refine wpAnyH_take (i := 6) (oi := ⟨some 14, _, _, _, _, _⟩) (v := ?_) rfl (by kernel_rfl) (by kernel_rfl) (by kernel_rfl) (fun _ _ _ h => h) (Or.inl ⟨by rfl, ?_⟩) hHeld ?_
    rotate_left
    · intro w hSw; (try dsimp only at hSw); go_simp; all_goals (with_reducible rfl)
    try simp only [Act.put, List.setIfInBounds_toArray, List.set_cons_zero, List.set_cons_succ]
    refine wpAnyH_take (i := 7) (oi := ⟨some 15, _, _, _, _, _⟩) (v := ?_) rfl (by kernel_rfl) (by kernel_rfl) (by kernel_rfl) (fun _ _ _ h => h) (Or.inl ⟨by rfl, ?_⟩) hHeld ?_
    rotate_left
    · intro w hSw; (try dsimp only at hSw); go_simp; all_goals (with_reducible rfl)
    try simp only [Act.put, List.setIfInBounds_toArray, List.set_cons_zero, List.set_cons_succ]
    refine wpAnyH_take (i := 8) (oi := ⟨some 16, _, _, _, _, _⟩) (v := ?_) rfl (by kernel_rfl) (by kernel_rfl) (by kernel_rfl) (fun _ _ _ h => h) (Or.inl ⟨by rfl, ?_⟩) hHeld ?_
    rotate_left
    · intro w hSw; (try dsimp only at hSw); go_simp; all_goals (with_reducible rfl)
    try simp only [Act.put, List.setIfInBounds_toArray, List.set_cons_zero, List.set_cons_succ]
    refine wpAnyH_take (i := 9) (oi := ⟨some 17, _, _, _, _, _⟩) (v := ?_) rfl (by kernel_rfl) (by kernel_rfl) (by kernel_rfl) (fun _ _ _ h => h) (Or.inl ⟨by rfl, ?_⟩) hHeld ?_
    rotate_left
    · intro w hSw; (try dsimp only at hSw); go_simp; all_goals (with_reducible rfl)
    try simp only [Act.put, List.setIfInBounds_toArray, List.set_cons_zero, List.set_cons_succ]
    refine wpAnyH_take (i := 10) (oi := ⟨some 4, _, _, _, _, _⟩) (v := ?_) rfl (by kernel_rfl) (by kernel_rfl) (by kernel_rfl) (fun _ _ _ h => h) (Or.inl ⟨by rfl, ?_⟩) hHeld ?_
    rotate_left
    · intro w hSw; (try dsimp only at hSw); go_simp; all_goals (with_reducible rfl)
    try simp only [Act.put, List.setIfInBounds_toArray, List.set_cons_zero, List.set_cons_succ]
    refine wpAnyH_done (by kernel_rfl) ?_ _
    refine NoPanic.normal ?_
    go_wp2_with fail
    go_ret
    exact ⟨ret_int (by rw [IntKind.wrap_i64, IntKind.wrap_i64]; omega), below_trans HB1.out hHeld⟩
end

end Go.Proofs.Ytlblpjookbomjaa


