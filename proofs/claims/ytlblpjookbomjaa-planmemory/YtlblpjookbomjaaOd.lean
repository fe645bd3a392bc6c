/- Contracts of plan's Nodes, Kind, WorkerOf, StoreOf, of the reference's. -/
import Derived.Test.YtlblpjookbomjaaOc

namespace Go.Proofs.Ytlblpjookbomjaa

open Go.RowKit



theorem Bx.all {w1 : World} {g : Nat} {p : Pn} {ov : Value} (h : Bx w1 g p ov) (hg : g < w1.heap.size) : ∀ wx, Below w1.heap.size w1 wx → Bx wx g p ov := fun _ hb => h.below hb hg
theorem box_lt {w w1 : World} {p : Pn} {ov : Value} (hb : Below (w.alloc (.cells #[.int .i64 p.P, .int .i64 p.S, .int .i64 p.W, ov, .int .i64 p.A, .int .i64 p.B, .int .i64 p.N, .int .i64 p.G] 24)).heap.size (w.alloc (.cells #[.int .i64 p.P, .int .i64 p.S, .int .i64 p.W, ov, .int .i64 p.A, .int .i64 p.B, .int .i64 p.N, .int .i64 p.G] 24)) w1) : w.heap.size < w1.heap.size := by
  have := hb.size
  simp at this
  omega


section

variable {p : Pn} {w : World} {ov : Value}

theorem nodes_walk (ho : Ov w ov p.l) : Calls Try.prog 13 #[.agg #[.int .i64 p.P, .int .i64 p.S, .int .i64 p.W, ov, .int .i64 p.A, .int .i64 p.B, .int .i64 p.N, .int .i64 p.G]] w fun e w' => e = .returned (.int .i64 p.nodes) ∧ Below w.heap.size w w' := by
  have HO : Hid (Ov w ov p.l) := ho
  clear ho
  have HN : Hid (p.nodes = if p.is then 1 + p.W + p.S else 0) := rfl
  cases hp : p.is
  · rw [HN.out, hp]
    go_enter Try.func13, Try.ntmps13
    go_wp2_with fail
    refine (isplan_walk (HO.out.below (below_alloc _ _))).mono ?_
    rw [hp]
    rintro e w1 ⟨rfl, hB1⟩
    go_wp2_with fail
    go_ret
    exact ⟨rfl, below_trans (below_alloc _ _) hB1⟩
  · rw [HN.out, hp]
    obtain ⟨_, ⟨s1, s2⟩, ⟨w1, w2⟩, _⟩ := Pn.is_num hp
    go_enter Try.func13, Try.ntmps13
    go_wp2_with fail
    refine (isplan_walk (HO.out.below (below_alloc _ _))).mono ?_
    rw [hp]
    rintro e w1 ⟨rfl, hB1⟩
    have HB1 : Hid (Below w.heap.size w w1) := below_trans (below_alloc _ _) hB1
    have HX := (box_then hB1).all (box_lt hB1)
    have c0 := fun wx h => (HX wx h).c0
    have c1 := fun wx h => (HX wx h).c1
    have c2 := fun wx h => (HX wx h).c2
    have c3 := fun wx h => (HX wx h).c3
    have c4 := fun wx h => (HX wx h).c4
    have c5 := fun wx h => (HX wx h).c5
    have c6 := fun wx h => (HX wx h).c6
    have c7 := fun wx h => (HX wx h).c7
    clear hB1 HX
    go_wp2_with fail
    refine wp_region_noPanic ?_
    refine wp_region_held_drew (S := fun wx => Below w1.heap.size w1 wx) (by kernel_rfl) ?_ (fun hHeld => ?_)
    · exact below_drw _
    refine wpAnyH_take (i := 0) (oi := ⟨some 6, _, _, _, _, _⟩) (v := ?_) rfl (by kernel_rfl) (by kernel_rfl) (by kernel_rfl) (fun _ _ _ h => h) (Or.inl ⟨by rfl, ?_⟩) hHeld ?_
    rotate_left
    · intro w hSw; (try dsimp only at hSw); go_simp; all_goals (with_reducible rfl)
    try simp only [Act.put, List.setIfInBounds_toArray, List.set_cons_zero, List.set_cons_succ]
    refine wpAnyH_take (i := 2) (oi := ⟨some 8, _, _, _, _, _⟩) (v := ?_) rfl (by kernel_rfl) (by kernel_rfl) (by kernel_rfl) (fun _ _ _ h => h) (Or.inl ⟨by rfl, ?_⟩) hHeld ?_
    rotate_left
    · intro w hSw; (try dsimp only at hSw); go_simp; all_goals (with_reducible rfl)
    try simp only [Act.put, List.setIfInBounds_toArray, List.set_cons_zero, List.set_cons_succ]
    refine wpAnyH_take (i := 3) (oi := ⟨some 9, _, _, _, _, _⟩) (v := ?_) rfl (by kernel_rfl) (by kernel_rfl) (by kernel_rfl) (fun _ _ _ h => h) (Or.inl ⟨by rfl, ?_⟩) hHeld ?_
    rotate_left
    · intro w hSw; (try dsimp only at hSw); go_simp; all_goals (with_reducible rfl)
    try simp only [Act.put, List.setIfInBounds_toArray, List.set_cons_zero, List.set_cons_succ]
    refine wpAnyH_ready (rs := [1]) (by kernel_rfl) (by simp) ?_
    refine AllReadyH.cons (o := ⟨some 7, _, _, _, _, _⟩) rfl (fun K hK => ?_) AllReadyH.nil
    go_simp
    refine (first_walk _ hp _).mono ?_
    rintro e w2 ⟨rfl, hB2⟩
    refine hK.out _ _ ?_ (fun hHeld => ?_)
    · exact below_trans hHeld hB2
    clear hK K
    try simp only [Act.put, List.setIfInBounds_toArray, List.set_cons_zero, List.set_cons_succ]
    refine wpAnyH_take (i := 4) (oi := ⟨some 10, _, _, _, _, _⟩) (v := ?_) rfl (by kernel_rfl) (by kernel_rfl) (by kernel_rfl) (fun _ _ _ h => h) (Or.inl ⟨by rfl, ?_⟩) hHeld ?_
    rotate_left
    · intro w hSw; (try dsimp only at hSw); go_simp; all_goals (with_reducible rfl)
    try simp only [Act.put, List.setIfInBounds_toArray, List.set_cons_zero, List.set_cons_succ]
    refine wpAnyH_take (i := 5) (oi := ⟨some 2, _, _, _, _, _⟩) (v := ?_) rfl (by kernel_rfl) (by kernel_rfl) (by kernel_rfl) (fun _ _ _ h => h) (Or.inl ⟨by rfl, ?_⟩) hHeld ?_
    rotate_left
    · intro w hSw; (try dsimp only at hSw); go_simp; all_goals (with_reducible rfl)
    try simp only [Act.put, List.setIfInBounds_toArray, List.set_cons_zero, List.set_cons_succ]
    refine wpAnyH_done (by kernel_rfl) ?_ _
    refine NoPanic.normal ?_
    go_wp2_with fail
    go_ret
    exact ⟨ret_int (by rw [IntKind.wrap_i64]; omega), below_trans HB1.out hHeld⟩
theorem kind_in {n : Int} (h0 : ¬ n < 0) (hn : ¬ p.nodes ≤ n) : p.is = true := by
  cases h : p.is
  · unfold Pn.nodes at hn
    rw [h] at hn
    simp at hn
    omega
  · rfl
theorem kind_walk (n : Int) (ho : Ov w ov p.l) : Calls Try.prog 11 #[.agg #[.int .i64 p.P, .int .i64 p.S, .int .i64 p.W, ov, .int .i64 p.A, .int .i64 p.B, .int .i64 p.N, .int .i64 p.G], .int .i64 n] w fun e w' => e = .returned (.int .i64 (p.kind n)) ∧ Below w.heap.size w w' := by
  have HO : Hid (Ov w ov p.l) := ho
  clear ho
  have HN : Hid (p.kind n = if n < 0 ∨ p.nodes ≤ n then 0 else if n < 1 then 1 else if n < 1 + p.W then 2 else 3) := rfl
  by_cases h0 : n < 0
  · rw [HN.out, if_pos (.inl h0)]
    go_enter Try.func11, Try.ntmps11
    go_wp2_with fail
    go_ret
    exact ⟨rfl, below_alloc _ _⟩
  by_cases h1 : p.nodes ≤ n
  · rw [HN.out, if_pos (.inr h1)]
    go_enter Try.func11, Try.ntmps11
    go_wp2_with fail
    refine (nodes_walk (HO.out.below (below_alloc _ _))).mono ?_
    rintro e w1 ⟨rfl, hB1⟩
    go_wp2_with fail
    go_ret
    exact ⟨rfl, below_trans (below_alloc _ _) hB1⟩
  have hp := kind_in h0 h1
  have HP : Hid (p.is = true) := hp
  obtain ⟨_, ⟨s1, s2⟩, ⟨w1, w2⟩, _⟩ := Pn.is_num hp
  clear hp
  rw [HN.out, if_neg (by omega)]
  clear HN
  by_cases h2 : n < 1
  · rw [if_pos h2]
    go_enter Try.func11, Try.ntmps11
    go_wp2_with fail
    refine (nodes_walk (HO.out.below (below_alloc _ _))).mono ?_
    rintro e w1 ⟨rfl, hB1⟩
    go_wp2_with fail
    go_ret
    exact ⟨rfl, below_trans (below_alloc _ _) hB1⟩
  rw [if_neg h2]
  by_cases h3 : n < 1 + p.W
  · rw [if_pos h3]
    go_enter Try.func11, Try.ntmps11
    go_wp2_with fail
    refine (nodes_walk (HO.out.below (below_alloc _ _))).mono ?_
    rintro e w1 ⟨rfl, hB1⟩
    have HB1 : Hid (Below w.heap.size w w1) := below_trans (below_alloc _ _) hB1
    obtain ⟨c0, c1, c2, c3, c4, c5, c6, c7⟩ := box_then hB1
    clear hB1
    go_wp2_with fail
    refine (first_walk _ HP.out _).mono ?_
    rintro e w2 ⟨rfl, hB2⟩
    go_wp2_with fail
    go_ret
    exact ⟨rfl, below_trans HB1.out hB2⟩
  · rw [if_neg h3]
    go_enter Try.func11, Try.ntmps11
    go_wp2_with fail
    refine (nodes_walk (HO.out.below (below_alloc _ _))).mono ?_
    rintro e w1 ⟨rfl, hB1⟩
    have HB1 : Hid (Below w.heap.size w w1) := below_trans (below_alloc _ _) hB1
    obtain ⟨c0, c1, c2, c3, c4, c5, c6, c7⟩ := box_then hB1
    clear hB1
    go_wp2_with fail
    refine (first_walk _ HP.out _).mono ?_
    rintro e w2 ⟨rfl, hB2⟩
    go_wp2_with fail
    go_ret
    exact ⟨rfl, below_trans HB1.out hB2⟩
theorem worker_walk (a : Int) (ha : a < 9223372036854775808) (ho : Ov w ov p.l) : Calls Try.prog 15 #[.agg #[.int .i64 p.P, .int .i64 p.S, .int .i64 p.W, ov, .int .i64 p.A, .int .i64 p.B, .int .i64 p.N, .int .i64 p.G], .int .i64 a] w fun e w' => e = .returned (.int .i64 (p.worker a)) ∧ Below w.heap.size w w' := by
  have HO : Hid (Ov w ov p.l) := ho
  clear ho
  have HN : Hid (p.worker a = if p.is && decide (1 ≤ a) then 1 + a % p.W else -1) := rfl
  cases hp : p.is
  · rw [HN.out, hp]
    go_enter Try.func15, Try.ntmps15
    go_wp2_with fail
    refine (isplan_walk (HO.out.below (below_alloc _ _))).mono ?_
    rw [hp]
    rintro e w1 ⟨rfl, hB1⟩
    go_wp2_with fail
    go_ret
    exact ⟨rfl, below_trans (below_alloc _ _) hB1⟩
  obtain ⟨_, ⟨s1, s2⟩, ⟨w1, w2⟩, _⟩ := Pn.is_num hp
  by_cases h1 : a < 1
  · rw [HN.out, hp, decide_eq_false (by omega)]
    go_enter Try.func15, Try.ntmps15
    go_wp2_with fail
    refine (isplan_walk (HO.out.below (below_alloc _ _))).mono ?_
    rw [hp]
    rintro e w1 ⟨rfl, hB1⟩
    go_wp2_with fail
    go_ret
    exact ⟨rfl, below_trans (below_alloc _ _) hB1⟩
  · rw [HN.out, hp, decide_eq_true (by omega)]
    have hm1 : a.tmod p.W = a % p.W := Int.tmod_eq_emod_of_nonneg (by omega)
    have hm2 : 0 ≤ a % p.W := Int.emod_nonneg _ (by omega)
    have hm3 : a % p.W < p.W := Int.emod_lt_of_pos _ (by omega)
    have hw0 : ¬ p.W = 0 := by omega
    go_enter Try.func15, Try.ntmps15
    go_wp2_with fail
    refine (isplan_walk (HO.out.below (below_alloc _ _))).mono ?_
    rw [hp]
    rintro e w1 ⟨rfl, hB1⟩
    have HB1 : Hid (Below w.heap.size w w1) := below_trans (below_alloc _ _) hB1
    obtain ⟨c0, c1, c2, c3, c4, c5, c6, c7⟩ := box_then hB1
    clear hB1
    go_wp2_with fail
    go_ret
    exact ⟨rfl, HB1.out⟩
theorem place_walk (k : Nat) (hk : k < 18446744073709551616) (hp : p.is = true) : Calls Try.prog 32 #[.agg #[.int .i64 p.P, .int .i64 p.S, .int .i64 p.W, ov, .int .i64 p.A, .int .i64 p.B, .int .i64 p.N, .int .i64 p.G], .int .u64 k] w fun e w' => e = .returned (.int .i64 (p.place k)) ∧ Below w.heap.size w w' := by
  obtain ⟨_, ⟨s1, s2⟩, ⟨w1, w2⟩, _⟩ := Pn.is_num hp
  have HP : Hid (p.place k = k % p.S.toNat) := rfl
  have hlt : p.place k < p.S.toNat := by rw [HP.out]; exact Nat.mod_lt _ (by omega)
  obtain ⟨r, hr⟩ : ∃ r : Nat, r = p.place k := ⟨_, rfl⟩
  have hm : (k : Int) % p.S = r := by
    rw [hr, HP.out, show p.S = ((p.S.toNat : Nat) : Int) by omega]
    simp
  have hm' : (k : Int).tmod p.S = r := by rw [Int.tmod_eq_emod_of_nonneg (by omega)]; exact hm
  have hr4 : r < 4 := by omega
  rw [← hr]
  have hw0 : ¬ p.S = 0 := by omega
  have HR : Hid (r = p.place k) := hr
  clear hr hlt
  go_enter Try.func32, Try.ntmps32
  go_wp2_with fail
  go_ret
  exact ⟨rfl, below_alloc _ _⟩
end

end Go.Proofs.Ytlblpjookbomjaa


