/- StoreOf; the reference's Check, Nodes, Kind, WorkerOf, StoreOf. -/
import Derived.Test.YtopjedgknbbgkaaGreatM11
namespace Go.Proofs.YtopjedgknbbgkaaGreat

open Go.RowKit



theorem place_lt {p : Pn} (k : Nat) (hp : p.is = true) : p.place k < 4 ∧ p.place k < p.S.toNat := by
  obtain ⟨_, ⟨s1, s2⟩, _⟩ := Pn.is_num hp
  have : p.place k < p.S.toNat := Nat.mod_lt _ (by omega)
  omega
section

variable {p : Pn} {w : World} {ov : Value}

theorem store_walk (k : Nat) (hk : k < 18446744073709551616) (ho : Ov w ov p.l) : Calls Tryz.prog 19 #[.agg #[.int .i64 p.P, .int .i64 p.S, .int .i64 p.W, ov, .int .i64 p.A, .int .i64 p.B, .int .i64 p.N, .int .i64 p.G], .int .u64 k] w fun e w' => e = .returned (.int .i64 (p.store k)) ∧ Below w.heap.size w w' := by
  have HO : Hid (Ov w ov p.l) := ho
  clear ho
  have HN : Hid (p.store k = if p.is then 1 + p.W + (p.place k : Int) else -1) := rfl
  cases hp : p.is
  · rw [HN.out, hp]
    go_enter Tryz.func19, Tryz.ntmps19
    go_wp2_with fail
    refine (isplan_walk (HO.out.below (below_alloc _ _))).mono ?_
    rw [hp]
    rintro e w1 ⟨rfl, hB1⟩
    go_wp2_with fail
    go_ret
    exact ⟨rfl, below_trans (below_alloc _ _) hB1⟩
  · rw [HN.out, hp]
    obtain ⟨_, ⟨s1, s2⟩, ⟨w1, w2⟩, _⟩ := Pn.is_num hp
    have hr4 := (place_lt k hp).1
    go_enter Tryz.func19, Tryz.ntmps19
    go_wp2_with fail
    refine (isplan_walk (HO.out.below (below_alloc _ _))).mono ?_
    rw [hp]
    rintro e w1 ⟨rfl, hB1⟩
    have HB1 : Hid (Below w.heap.size w w1) := below_trans (below_alloc _ _) hB1
    have HX := (box_then hB1).all (box_lt hB1)
    have c0 := fun wx h => (HX wx h).c0
    have c1 := fun wx h => (HX wx h).c1
    have c2 := fun wx h => (HX wx h).c2
    have c3 := fun wx h => (HX wx h).c3
    have c4 := fun wx h => (HX wx h).c4
    have c5 := fun wx h => (HX wx h).c5
    have c6 := fun wx h => (HX wx h).c6
    have c7 := fun wx h => (HX wx h).c7
    clear hB1 HX
    go_wp2_with fail
    refine wp_region_noPanic ?_
    refine wp_region_held_drew (S := fun wx => Below w1.heap.size w1 wx) (by kernel_rfl) ?_ (fun hHeld => ?_)
    · exact below_drw _
    refine wpAnyH_take (i := 0) (oi := ⟨some 8, _, _, _, _, _⟩) (v := ?_) rfl (by kernel_rfl) (by kernel_rfl) (by kernel_rfl) (fun _ _ _ h => h) (Or.inl ⟨by rfl, ?_⟩) hHeld ?_
    rotate_left
    · intro w hSw; (try dsimp only at hSw); go_simp; all_goals (with_reducible rfl)
    try simp only [Act.put, List.setIfInBounds_toArray, List.set_cons_zero, List.set_cons_succ]
    refine wpAnyH_take (i := 2) (oi := ⟨some 10, _, _, _, _, _⟩) (v := ?_) rfl (by kernel_rfl) (by kernel_rfl) (by kernel_rfl) (fun _ _ _ h => h) (Or.inl ⟨by rfl, ?_⟩) hHeld ?_
    rotate_left
    · intro w hSw; (try dsimp only at hSw); go_simp; all_goals (with_reducible rfl)
    try simp only [Act.put, List.setIfInBounds_toArray, List.set_cons_zero, List.set_cons_succ]
    refine wpAnyH_take (i := 3) (oi := ⟨some 11, _, _, _, _, _⟩) (v := ?_) rfl (by kernel_rfl) (by kernel_rfl) (by kernel_rfl) (fun _ _ _ h => h) (Or.inl ⟨by rfl, ?_⟩) hHeld ?_
    rotate_left
    · intro w hSw; (try dsimp only at hSw); go_simp; all_goals (with_reducible rfl)
    try simp only [Act.put, List.setIfInBounds_toArray, List.set_cons_zero, List.set_cons_succ]
    refine wpAnyH_ready (rs := [1]) (by kernel_rfl) (by simp) ?_
    refine AllReadyH.cons (o := ⟨some 9, _, _, _, _, _⟩) rfl (fun K hK => ?_) AllReadyH.nil
    go_simp
    refine (first_walk _ hp _).mono ?_
    rintro e w2 ⟨rfl, hB2⟩
    refine hK.out _ _ ?_ (fun hHeld => ?_)
    · exact below_trans hHeld hB2
    clear hK K
    try simp only [Act.put, List.setIfInBounds_toArray, List.set_cons_zero, List.set_cons_succ]
    refine wpAnyH_ready (rs := [4]) (by kernel_rfl) (by simp) ?_
    refine AllReadyH.cons (o := ⟨some 12, _, _, _, _, _⟩) rfl (fun K hK => ?_) AllReadyH.nil
    go_simp
    refine (place_walk k hk hp).mono ?_
    rintro e w3 ⟨rfl, hB3⟩
    refine hK.out _ _ ?_ (fun hHeld => ?_)
    · exact below_trans hHeld hB3
    clear hK K
    try simp only [Act.put, List.setIfInBounds_toArray, List.set_cons_zero, List.set_cons_succ]
    refine wpAnyH_take (i := 5) (oi := ⟨some 13, _, _, _, _, _⟩) (v := ?_) rfl (by kernel_rfl) (by kernel_rfl) (by kernel_rfl) (fun _ _ _ h => h) (Or.inl ⟨by rfl, ?_⟩) hHeld ?_
    rotate_left
    · intro w hSw; (try dsimp only at hSw); go_simp; all_goals (with_reducible rfl)
    try simp only [Act.put, List.setIfInBounds_toArray, List.set_cons_zero, List.set_cons_succ]
    refine wpAnyH_take (i := 6) (oi := ⟨some 4, _, _, _, _, _⟩) (v := ?_) rfl (by kernel_rfl) (by kernel_rfl) (by kernel_rfl) (fun _ _ _ h => h) (Or.inl ⟨by rfl, ?_⟩) hHeld ?_
    rotate_left
    · intro w hSw; (try dsimp only at hSw); go_simp; all_goals (with_reducible rfl)
    try simp only [Act.put, List.setIfInBounds_toArray, List.set_cons_zero, List.set_cons_succ]
    refine wpAnyH_done (by kernel_rfl) ?_ _
    refine NoPanic.normal ?_
    go_wp2_with fail
    go_ret
    exact ⟨ret_int (by rw [IntKind.wrap_i64]; omega), below_trans HB1.out hHeld⟩


end

end Go.Proofs.YtopjedgknbbgkaaGreat
