/- PlanShares: the walk. -/
import Derived.Test.YtlblpjookbomjaaOl

import Derived.Deep.DeepCutAuto

namespace Go.Proofs.Ytlblpjookbomjaa

open Go.RowKit



set_option maxRecDepth 20000 in
theorem shares_no {p : Pn} {ov tv : Value} {t : List Pr} {at_ : Int} {w : World} (hp : p.is = false) (hat : at_ < 9223372036854775808) (ho : Ov w ov p.l) (hq : Qv w tv t) (hsz : t.length * 24 ≤ 140737488355328) :
    Calls Try.prog 6 #[.agg #[.int .i64 p.P, .int .i64 p.S, .int .i64 p.W, ov, .int .i64 p.A, .int .i64 p.B, .int .i64 p.N, .int .i64 p.G], tv, .int .i64 at_] w fun e w' => e = .returned (.bool true) ∧ Below w.heap.size w w' := by
  have HAT : Hid (at_ < 9223372036854775808) := hat
  clear hat
  have HO : Hid (Ov w ov p.l) := ho
  have HQ : Hid (Qv w tv t) := hq
  have HOK : Hid (okT t) := hq.2
  have HSZ : Hid (t.length * 24 ≤ 140737488355328) := hsz
  obtain ⟨ta, tc, rfl, hl, hql⟩ := hq.form
  have HQL : Hid (Ql w ta t) := hql
  have hli : (t.length : Int) ≤ 9223372036854775807 := by omega
  clear ho hq hsz hl hql
  go_enter Try.func6, Try.ntmps6
  go_wp2_with fail
  refine (awake_walk _).mono ?_
  rintro e w1 ⟨rfl, hB1⟩
  have HB1 : Hid (Below w.heap.size w w1) := below_trans (below_alloc _ _) hB1
  have HXB : Hid (Bx w1 w.heap.size p ov) := box_then hB1
  have HXL : Hid (w.heap.size < w1.heap.size) := box_lt hB1
  obtain ⟨c0, c1, c2, c3, c4, c5, c6, c7⟩ := box_then hB1
  clear hB1
  go_wp2_with fail
  refine (deal_walk (HO.out.below HB1.out) (HQ.out.below HB1.out) HSZ.out).mono ?_
  rintro e w2 ⟨v, rfl, ⟨vs, hD, hN⟩, hB2⟩
  have HR2 : Hid (Below w1.heap.size w1 w2) := hB2
  have HD2 : Hid (Dl w1.heap.size w2 v p.n vs (dealF p t)) := hD
  obtain ⟨vo, vc, hv, _, _⟩ := row_form hD.row
  subst hv
  clear hB2 hD hN
  clear c0 c1 c2 c3 c4 c5 c6 c7
  obtain ⟨c0, c1, c2, c3, c4, c5, c6, c7⟩ := HXB.out.below HR2.out HXL.out
  go_wp2_with fail
  refine (pcheck_walk ((HO.out.below HB1.out).below HR2.out)).mono ?_
  have hc := Pn.chk_no hp
  have hc1 : ¬ p.chk = 0 := by simpa using hc
  have hn0 : p.n = 0 := by unfold Pn.n; rw [hp]; rfl
  rintro e w3 ⟨rfl, hB3⟩
  have HR3 : Hid (Below w1.heap.size w1 w3) := below_trans HR2.out hB3
  clear hB3
  clear c0 c1 c2 c3 c4 c5 c6 c7
  obtain ⟨c0, c1, c2, c3, c4, c5, c6, c7⟩ := HXB.out.below HR3.out HXL.out
  go_wp2_with fail
  refine (nodes_walk ((HO.out.below HB1.out).below HR3.out)).mono ?_
  rw [show p.nodes = 0 from by unfold Pn.nodes; rw [hp]; rfl]
  rintro e w4 ⟨rfl, hB4⟩
  have HR4 : Hid (Below w1.heap.size w1 w4) := below_trans HR3.out hB4
  clear hB4
  clear c0 c1 c2 c3 c4 c5 c6 c7
  obtain ⟨c0, c1, c2, c3, c4, c5, c6, c7⟩ := HXB.out.below HR4.out HXL.out
  go_wp2_with fail
  refine (worker_walk at_ HAT.out ((HO.out.below HB1.out).below HR4.out)).mono ?_
  rw [show p.worker at_ = -1 from by unfold Pn.worker; rw [hp]; rfl]
  rintro e w5 ⟨rfl, hB5⟩
  have HR5 : Hid (Below w1.heap.size w1 w5) := below_trans HR4.out hB5
  clear hB5
  clear c0 c1 c2 c3 c4 c5 c6 c7
  obtain ⟨c0, c1, c2, c3, c4, c5, c6, c7⟩ := HXB.out.below HR5.out HXL.out
  go_wp2_with fail
  refine (store_walk 5 (by omega) ((HO.out.below HB1.out).below HR5.out)).mono ?_
  rw [show p.store 5 = -1 from by unfold Pn.store; rw [hp]; rfl]
  rintro e w6 ⟨rfl, hB6⟩
  have HR6 : Hid (Below w1.heap.size w1 w6) := below_trans HR5.out hB6
  clear hB6
  clear c0 c1 c2 c3 c4 c5 c6 c7
  obtain ⟨c0, c1, c2, c3, c4, c5, c6, c7⟩ := HXB.out.below HR6.out HXL.out
  go_wp2_with fail
  refine (kind_walk 0 ((HO.out.below HB1.out).below HR6.out)).mono ?_
  rw [show p.kind 0 = 0 from by unfold Pn.kind Pn.nodes; rw [hp]; simp]
  rintro e w7 ⟨rfl, hB7⟩
  have HR7 : Hid (Below w1.heap.size w1 w7) := below_trans HR6.out hB7
  clear hB7
  clear c0 c1 c2 c3 c4 c5 c6 c7
  obtain ⟨c0, c1, c2, c3, c4, c5, c6, c7⟩ := HXB.out.below HR7.out HXL.out
  go_wp2_with fail
  go_ret
  exact ⟨rfl, below_trans HB1.out HR7.out⟩


/-- Where the first loop stands. -/
def S1 (w4 : World) (A n : Nat) (p : Pn) (t : List Pr) (iv : Value) (wr : World) : Prop :=
  ∃ i : Nat, i ≤ t.length ∧ iv = .int .i64 i ∧ Below w4.heap.size w4 wr ∧ A < wr.heap.size ∧ AtF wr A n (fun j => (dealF p (t.take i) j).length)


/-- Where the last loop stands. -/
def S3 (w9 : World) (C W n : Nat) (iv : Value) (wr : World) : Prop :=
  ∃ a : Nat, a ≤ 14 ∧ iv = .int .i64 ((a : Int) - 2) ∧ Below w9.heap.size w9 wr ∧ C < wr.heap.size ∧ AtF wr C 4 (cntK W n a)


set_option maxRecDepth 100000 in
set_option maxHeartbeats 4000000 in
theorem shares_yes {p : Pn} {ov tv : Value} {t : List Pr} {at_ : Int} {w : World} (hp : p.is = true) (hat : at_ < 9223372036854775808) (ho : Ov w ov p.l) (hq : Qv w tv t) (hsz : t.length * 24 ≤ 140737488355328) :
    Calls Try.prog 6 #[.agg #[.int .i64 p.P, .int .i64 p.S, .int .i64 p.W, ov, .int .i64 p.A, .int .i64 p.B, .int .i64 p.N, .int .i64 p.G], tv, .int .i64 at_] w fun e w' => e = .returned (.bool true) ∧ Below w.heap.size w w' := by
  have HAT : Hid (at_ < 9223372036854775808) := hat
  clear hat
  obtain ⟨_, ⟨s1, s2⟩, ⟨r1, r2⟩, _⟩ := Pn.is_num hp
  have hmk := make_at hp
  obtain ⟨n, hn⟩ : ∃ n, n = p.S.toNat := ⟨_, rfl⟩
  have HN : Hid (n = p.S.toNat) := hn
  have hn4 : n ≤ 4 := by omega
  have hnp : 1 ≤ n := by omega
  have hnS : ((n : Int) != p.S) = false := by simp; omega
  rw [← hn] at hmk
  have HPN : Hid (p.n = n) := by show _ = _; unfold Pn.n; rw [hp, hn]; rfl
  clear hn
  obtain ⟨Z, hZ⟩ : ∃ Z, Z = madeCells #[Value.int .i64 0] (n * 1) := ⟨_, rfl⟩
  rw [← hZ] at hmk
  have HZ : Hid (Z = madeCells #[Value.int .i64 0] (n * 1)) := hZ
  clear hZ
  have HO : Hid (Ov w ov p.l) := ho
  have HQ : Hid (Qv w tv t) := hq
  have HOK : Hid (okT t) := hq.2
  have HSZ : Hid (t.length * 24 ≤ 140737488355328) := hsz
  obtain ⟨ta, tc, rfl, hl, hql⟩ := hq.form
  have HQL : Hid (Ql w ta t) := hql
  have hli : (t.length : Int) ≤ 9223372036854775807 := by omega
  clear ho hq hsz hl hql
  go_enter Try.func6, Try.ntmps6
  go_wp2_with fail
  refine (awake_walk _).mono ?_
  rintro e w1 ⟨rfl, hB1⟩
  have HB1 : Hid (Below w.heap.size w w1) := below_trans (below_alloc _ _) hB1
  have HXB : Hid (Bx w1 w.heap.size p ov) := box_then hB1
  have HXL : Hid (w.heap.size < w1.heap.size) := box_lt hB1
  obtain ⟨c0, c1, c2, c3, c4, c5, c6, c7⟩ := box_then hB1
  clear hB1
  go_wp2_with fail
  refine (deal_walk (HO.out.below HB1.out) (HQ.out.below HB1.out) HSZ.out).mono ?_
  rintro e w2 ⟨v, rfl, ⟨vs, hD, hN⟩, hB2⟩
  have HR2 : Hid (Below w1.heap.size w1 w2) := hB2
  have HD2 : Hid (Dl w1.heap.size w2 v p.n vs (dealF p t)) := hD
  obtain ⟨vo, vc, hv, _, _⟩ := row_form hD.row
  subst hv
  clear hB2 hD hN
  clear c0 c1 c2 c3 c4 c5 c6 c7
  obtain ⟨c0, c1, c2, c3, c4, c5, c6, c7⟩ := HXB.out.below HR2.out HXL.out
  go_wp2_with fail
  refine (pcheck_walk ((HO.out.below HB1.out).below HR2.out)).mono ?_
  rw [Pn.chk_ok hp]
  rintro e w3 ⟨rfl, hB3⟩
  have HR3 : Hid (Below w1.heap.size w1 w3) := below_trans HR2.out hB3
  have HD3 : Hid (Dl w1.heap.size w3 (.slice vo n vc) n vs (dealF p t)) := by
    have h := HD2.out.below hB3
    rw [HPN.out] at h
    exact h
  have HXB3 : Hid (Bx w3 w.heap.size p ov) := HXB.out.below HR3.out HXL.out
  have HXL3 : Hid (w.heap.size < w3.heap.size) := Nat.lt_of_lt_of_le HXL.out HR3.out.size
  clear hB3 HD2
  clear c0 c1 c2 c3 c4 c5 c6 c7
  rw [HPN.out]
  have hw1 : IntKind.i64.wrap (1 + p.W) = 1 + p.W := by rw [IntKind.wrap_i64]; omega
  have hw2 : IntKind.i64.wrap (1 + p.W + p.S) = 1 + p.W + p.S := by rw [IntKind.wrap_i64]; omega
  have hb1 : decide ((9 : Int) < 1 + p.W + p.S) = false := decide_eq_false (by omega)
  have hnd : p.nodes = 1 + p.W + p.S := by unfold Pn.nodes; rw [hp]; rfl
  have HND : Hid (p.nodes = 1 + p.W + p.S) := hnd
  clear hnd
  have HX := HXB3.out.all HXL3.out
  have c0 := fun wx h => (HX wx h).c0
  have c1 := fun wx h => (HX wx h).c1
  have c2 := fun wx h => (HX wx h).c2
  have c3 := fun wx h => (HX wx h).c3
  have c4 := fun wx h => (HX wx h).c4
  have c5 := fun wx h => (HX wx h).c5
  have c6 := fun wx h => (HX wx h).c6
  have c7 := fun wx h => (HX wx h).c7
  clear HX
  go_wp2_with fail
  refine wp_region_noPanic ?_
  refine wp_region_held_drew (S := fun wx => Below w3.heap.size w3 wx) (by kernel_rfl) ?_ (fun hHeld => ?_)
  · exact below_drw _
  refine wpAnyH_take (i := 0) (oi := ⟨some 48, _, _, _, _, _⟩) (v := ?_) rfl (by kernel_rfl) (by kernel_rfl) (by kernel_rfl) (fun _ _ _ h => h) (Or.inl ⟨by rfl, ?_⟩) hHeld ?_
  rotate_left
  · intro w hSw; (try dsimp only at hSw); go_simp; all_goals (with_reducible rfl)
  try simp only [Act.put, List.setIfInBounds_toArray, List.set_cons_zero, List.set_cons_succ]
  refine wpAnyH_take (i := 1) (oi := ⟨some 49, _, _, _, _, _⟩) (v := ?_) rfl (by kernel_rfl) (by kernel_rfl) (by kernel_rfl) (fun _ _ _ h => h) (Or.inl ⟨by rfl, ?_⟩) hHeld ?_
  rotate_left
  · intro w hSw; (try dsimp only at hSw); go_simp; all_goals (with_reducible rfl)
  try simp only [Act.put, List.setIfInBounds_toArray, List.set_cons_zero, List.set_cons_succ]
  refine wpAnyH_take (i := 2) (oi := ⟨some 50, _, _, _, _, _⟩) (v := ?_) rfl (by kernel_rfl) (by kernel_rfl) (by kernel_rfl) (fun _ _ _ h => h) (Or.inl ⟨by rfl, ?_⟩) hHeld ?_
  rotate_left
  · intro w hSw; (try dsimp only at hSw); go_simp; all_goals (with_reducible rfl)
  try simp only [Act.put, List.setIfInBounds_toArray, List.set_cons_zero, List.set_cons_succ]
  refine wpAnyH_take (i := 3) (oi := ⟨some 51, _, _, _, _, _⟩) (v := ?_) rfl (by kernel_rfl) (by kernel_rfl) (by kernel_rfl) (fun _ _ _ h => h) (Or.inl ⟨by rfl, ?_⟩) hHeld ?_
  rotate_left
  · intro w hSw; (try dsimp only at hSw); go_simp; all_goals (with_reducible rfl)
  try simp only [Act.put, List.setIfInBounds_toArray, List.set_cons_zero, List.set_cons_succ]
  refine wpAnyH_take (i := 4) (oi := ⟨some 52, _, _, _, _, _⟩) (v := ?_) rfl (by kernel_rfl) (by kernel_rfl) (by kernel_rfl) (fun _ _ _ h => h) (Or.inl ⟨by rfl, ?_⟩) hHeld ?_
  rotate_left
  · intro w hSw; (try dsimp only at hSw); go_simp; all_goals (with_reducible rfl)
  try simp only [Act.put, List.setIfInBounds_toArray, List.set_cons_zero, List.set_cons_succ]
  refine wpAnyH_take (i := 5) (oi := ⟨some 53, _, _, _, _, _⟩) (v := ?_) rfl (by kernel_rfl) (by kernel_rfl) (by kernel_rfl) (fun _ _ _ h => h) (Or.inl ⟨by rfl, ?_⟩) hHeld ?_
  rotate_left
  · intro w hSw; (try dsimp only at hSw); go_simp; all_goals (with_reducible rfl)
  try simp only [Act.put, List.setIfInBounds_toArray, List.set_cons_zero, List.set_cons_succ]
  refine wpAnyH_take (i := 6) (oi := ⟨some 54, _, _, _, _, _⟩) (v := ?_) rfl (by kernel_rfl) (by kernel_rfl) (by kernel_rfl) (fun _ _ _ h => h) (Or.inl ⟨by rfl, ?_⟩) hHeld ?_
  rotate_left
  · intro w hSw; (try dsimp only at hSw); go_simp; all_goals (with_reducible rfl)
  try simp only [Act.put, List.setIfInBounds_toArray, List.set_cons_zero, List.set_cons_succ]
  refine wpAnyH_ready (rs := [7]) (by kernel_rfl) (by simp) ?_
  refine AllReadyH.cons (o := ⟨some 55, _, _, _, _, _⟩) rfl (fun K hK => ?_) AllReadyH.nil
  go_simp
  refine (nodes_walk (((HO.out.below HB1.out).below HR3.out).below hHeld)).mono ?_
  rw [HND.out]
  rintro e x1 ⟨rfl, hV1⟩
  refine hK.out _ _ ?_ (fun hHeld => ?_)
  · exact below_trans hHeld hV1
  clear hK K
  try simp only [Act.put, List.setIfInBounds_toArray, List.set_cons_zero, List.set_cons_succ]
  refine wpAnyH_take (i := 8) (oi := ⟨some 56, _, _, _, _, _⟩) (v := ?_) rfl (by kernel_rfl) (by kernel_rfl) (by kernel_rfl) (fun _ _ _ h => h) (Or.inl ⟨by rfl, ?_⟩) hHeld ?_
  rotate_left
  · intro w hSw; (try dsimp only at hSw); go_simp; all_goals (with_reducible rfl)
  try simp only [Act.put, List.setIfInBounds_toArray, List.set_cons_zero, List.set_cons_succ]
  refine wpAnyH_take (i := 9) (oi := ⟨some 57, _, _, _, _, _⟩) (v := ?_) rfl (by kernel_rfl) (by kernel_rfl) (by kernel_rfl) (fun _ _ _ h => h) (Or.inl ⟨by rfl, ?_⟩) hHeld ?_
  rotate_left
  · intro w hSw; (try dsimp only at hSw); go_simp; all_goals (with_reducible rfl)
  try simp only [Act.put, List.setIfInBounds_toArray, List.set_cons_zero, List.set_cons_succ]
  refine wpAnyH_take (i := 10) (oi := ⟨some 58, _, _, _, _, _⟩) (v := ?_) rfl (by kernel_rfl) (by kernel_rfl) (by kernel_rfl) (fun _ _ _ h => h) (Or.inl ⟨by rfl, ?_⟩) hHeld ?_
  rotate_left
  · intro w hSw; (try dsimp only at hSw); go_simp; all_goals (with_reducible rfl)
  try simp only [Act.put, List.setIfInBounds_toArray, List.set_cons_zero, List.set_cons_succ]
  refine wpAnyH_take (i := 11) (oi := ⟨some 59, _, _, _, _, _⟩) (v := ?_) rfl (by kernel_rfl) (by kernel_rfl) (by kernel_rfl) (fun _ _ _ h => h) (Or.inl ⟨by rfl, ?_⟩) hHeld ?_
  rotate_left
  · intro w hSw; (try dsimp only at hSw); go_simp; all_goals (with_reducible rfl)
  try simp only [Act.put, List.setIfInBounds_toArray, List.set_cons_zero, List.set_cons_succ]
  refine wpAnyH_take (i := 13) (oi := ⟨some 61, _, _, _, _, _⟩) (v := ?_) rfl (by kernel_rfl) (by kernel_rfl) (by kernel_rfl) (fun _ _ _ h => h) (Or.inl ⟨by rfl, ?_⟩) hHeld ?_
  rotate_left
  · intro w hSw; (try dsimp only at hSw); go_simp; all_goals (with_reducible rfl)
  try simp only [Act.put, List.setIfInBounds_toArray, List.set_cons_zero, List.set_cons_succ]
  refine wpAnyH_take (i := 14) (oi := ⟨some 62, _, _, _, _, _⟩) (v := ?_) rfl (by kernel_rfl) (by kernel_rfl) (by kernel_rfl) (fun _ _ _ h => h) (Or.inl ⟨by rfl, ?_⟩) hHeld ?_
  rotate_left
  · intro w hSw; (try dsimp only at hSw); go_simp; all_goals (with_reducible rfl)
  try simp only [Act.put, List.setIfInBounds_toArray, List.set_cons_zero, List.set_cons_succ]
  refine wpAnyH_take (i := 15) (oi := ⟨some 63, _, _, _, _, _⟩) (v := ?_) rfl (by kernel_rfl) (by kernel_rfl) (by kernel_rfl) (fun _ _ _ h => h) (Or.inl ⟨by rfl, ?_⟩) hHeld ?_
  rotate_left
  · intro w hSw; (try dsimp only at hSw); go_simp; all_goals (with_reducible rfl)
  try simp only [Act.put, List.setIfInBounds_toArray, List.set_cons_zero, List.set_cons_succ]
  refine wpAnyH_take (i := 16) (oi := ⟨some 64, _, _, _, _, _⟩) (v := ?_) rfl (by kernel_rfl) (by kernel_rfl) (by kernel_rfl) (fun _ _ _ h => h) (Or.inl ⟨by rfl, ?_⟩) hHeld ?_
  rotate_left
  · intro w hSw; (try dsimp only at hSw); go_simp; all_goals (with_reducible rfl)
  try simp only [Act.put, List.setIfInBounds_toArray, List.set_cons_zero, List.set_cons_succ]
  refine wpAnyH_take (i := 17) (oi := ⟨some 65, _, _, _, _, _⟩) (v := ?_) rfl (by kernel_rfl) (by kernel_rfl) (by kernel_rfl) (fun _ _ _ h => h) (Or.inl ⟨by rfl, ?_⟩) hHeld ?_
  rotate_left
  · intro w hSw; (try dsimp only at hSw); go_simp; all_goals (with_reducible rfl)
  try simp only [Act.put, List.setIfInBounds_toArray, List.set_cons_zero, List.set_cons_succ]
  refine wpAnyH_take (i := 18) (oi := ⟨some 66, _, _, _, _, _⟩) (v := ?_) rfl (by kernel_rfl) (by kernel_rfl) (by kernel_rfl) (fun _ _ _ h => h) (Or.inl ⟨by rfl, ?_⟩) hHeld ?_
  rotate_left
  · intro w hSw; (try dsimp only at hSw); go_simp; all_goals (with_reducible rfl)
  try simp only [Act.put, List.setIfInBounds_toArray, List.set_cons_zero, List.set_cons_succ]
  refine wpAnyH_ready (rs := [12]) (by kernel_rfl) (by simp) ?_
  refine AllReadyH.cons (o := ⟨some 60, _, _, _, _, _⟩) rfl (fun K hK => ?_) AllReadyH.nil
  go_simp
  refine (nodes_walk (((HO.out.below HB1.out).below HR3.out).below hHeld)).mono ?_
  rw [HND.out]
  rintro e w4 ⟨rfl, hV2⟩
  refine hK.out _ _ ?_ (fun hHeld => ?_)
  · exact below_trans hHeld hV2
  clear hK K
  try simp only [Act.put, List.setIfInBounds_toArray, List.set_cons_zero, List.set_cons_succ]
  refine wpAnyH_take (i := 19) (oi := ⟨some 67, _, _, _, _, _⟩) (v := ?_) rfl (by kernel_rfl) (by kernel_rfl) (by kernel_rfl) (fun _ _ _ h => h) (Or.inl ⟨by rfl, ?_⟩) hHeld ?_
  rotate_left
  · intro w hSw; (try dsimp only at hSw); go_simp; all_goals (with_reducible rfl)
  try simp only [Act.put, List.setIfInBounds_toArray, List.set_cons_zero, List.set_cons_succ]
  refine wpAnyH_take (i := 20) (oi := ⟨some 68, _, _, _, _, _⟩) (v := ?_) rfl (by kernel_rfl) (by kernel_rfl) (by kernel_rfl) (fun _ _ _ h => h) (Or.inl ⟨by rfl, ?_⟩) hHeld ?_
  rotate_left
  · intro w hSw; (try dsimp only at hSw); go_simp; all_goals (with_reducible rfl)
  try simp only [Act.put, List.setIfInBounds_toArray, List.set_cons_zero, List.set_cons_succ]
  refine wpAnyH_done (by kernel_rfl) ?_ _
  refine NoPanic.normal ?_
  have HR4 : Hid (Below w3.heap.size w3 w4) := hHeld
  have HD4 : Hid (Dl w1.heap.size w4 (.slice vo n vc) n vs (dealF p t)) := HD3.out.below hHeld
  have HXB4 : Hid (Bx w4 w.heap.size p ov) := HXB3.out.below hHeld HXL3.out
  have HXL4 : Hid (w.heap.size < w4.heap.size) := Nat.lt_of_lt_of_le HXL3.out HR4.out.size
  have HB4 : Hid (Below w.heap.size w w4) := below_trans HB1.out (below_trans HR3.out hHeld)
  clear hHeld hV1 hV2 hw1 hw2 hb1 HR3 HR2 HD3 HXB3 HXL3
  clear c0 c1 c2 c3 c4 c5 c6 c7
  obtain ⟨c0, c1, c2, c3, c4, c5, c6, c7⟩ := HXB4.out
  obtain ⟨A, hA⟩ : ∃ A, A = w4.heap.size := ⟨_, rfl⟩
  have HA : Hid (A = w4.heap.size) := hA
  have HST : Hid (S1 w4 A n p t (.int .i64 0) (w4.alloc (.cells Z 3))) := by
    refine ⟨0, Nat.zero_le _, rfl, below_alloc _ _, by rw [hA]; simp, ?_⟩
    rw [HZ.out, hA]
    exact made_at w4
  go_wp2_with fail
  rw [← hA]
  clear hA
  go_loopw [9] (fun iv wr => S1 w4 A n p t iv wr) (fun iv _ => t.length - (intOf iv).toNat)
  case atStart => exact HST.out
  case round =>
    obtain ⟨i, hi, rfl, hBr, hAl, hAt⟩ := hrel
    clear c0 c1 c2 c3 c4 c5 c6 c7
    clear HST
    have HBR : Hid (Below w4.heap.size w4 wr) := hBr
    have HWR : Hid (w4.heap.size ≤ wr.heap.size) := hBr.size
    have HAL : Hid (A < wr.heap.size) := hAl
    have HAT1 : Hid (AtF wr A n (fun j => (dealF p (t.take i) j).length)) := hAt
    have HDR : Hid (Dl w1.heap.size wr (.slice vo n vc) n vs (dealF p t)) := HD4.out.below hBr
    have HXR : Hid (Bx wr w.heap.size p ov) := HXB4.out.below hBr HXL4.out
    have HXLR : Hid (w.heap.size < wr.heap.size) := Nat.lt_of_lt_of_le HXL4.out hBr.size
    have HOR : Hid (Ov wr ov p.l) := (HO.out.below HB4.out).below hBr
    clear hBr hAl hAt
    by_cases hlt : i < t.length
    · obtain ⟨b, off, hto, d0, d1, d2⟩ := (HQL.out.below HB4.out).below HBR.out i hlt
      subst hto
      obtain ⟨q, hqe⟩ : ∃ q, q = t[i] := ⟨_, rfl⟩
      rw [← hqe] at d0 d1 d2
      have HQE : Hid (q = t[i]) := hqe
      have HQK : Hid (q.k < 18446744073709551616) := by rw [hqe]; exact (HOK.out _ (List.getElem_mem hlt)).1
      clear hqe
      obtain ⟨K, hK⟩ : ∃ K, K = p.place q.k := ⟨_, rfl⟩
      have HK : Hid (K = p.place q.k) := hK
      have hKn : K < n := by rw [hK, HN.out]; exact (place_lt q.k hp).2
      have HKN : Hid (K < n) := hKn
      have hK4 : K < 4 := by omega
      obtain ⟨x, hx⟩ : ∃ x, x = p.store q.k := ⟨_, rfl⟩
      have HXS : Hid (x = p.store q.k) := hx
      have hxe : x = 1 + p.W + (K : Int) := by rw [hx, hK]; exact store_is hp q.k
      have hxk : x - 1 - p.W = (K : Int) := by omega
      have hx1 : 1 ≤ x := by omega
      have hx9 : x ≤ 9 := by omega
      have HKX : Hid (p.kind x = 3) := by rw [hx]; exact kind_store hp q.k
      clear hK hx hxe
      obtain ⟨hL, hLe⟩ := deal_at (A := K) hlt (by rw [HK.out, HQE.out])
      obtain ⟨L, hL0⟩ : ∃ L, L = (dealF p (t.take i) K).length := ⟨_, rfl⟩
      have HL0 : Hid (L = (dealF p (t.take i) K).length) := hL0
      obtain ⟨M, hM0⟩ : ∃ M, M = (dealF p t K).length := ⟨_, rfl⟩
      have HM0 : Hid (M = (dealF p t K).length) := hM0
      have hLM : L < M := by rw [hL0, hM0]; exact hL
      have HMB : Hid (M ≤ t.length) := by rw [hM0]; exact deal_len p t K
      have a0 : wr.cell? ⟨A, K, none⟩ = some (.int .i64 L) := by rw [hL0]; exact (HAT1.out K hKn).1
      have hOWN := HDR.out.own K hKn
      rw [← hM0] at hOWN
      have hMq : ∃ g cap, vs K = .slice (some ⟨g, 0, none⟩) M cap ∧ Mq wr g (dealF p t K) := by
        have hh := hOWN
        rcases hh.2 with ⟨_, h0⟩ | ⟨g, cap, cur, e, _⟩
        · omega
        · rw [e] at hh
          exact ⟨g, cap, e, own_mq hh⟩
      obtain ⟨g, cap, hvK, hmq⟩ := hMq
      have hmc := (hmq (dealF p (t.take i) K).length hL).1
      rw [hLe, ← HQE.out, ← hL0] at hmc
      obtain ⟨m0, m1, m2⟩ := hmc
      have hrow := HDR.out.row
      have hvo : ∃ G, vo = some ⟨G, 0, none⟩ := by
        rcases hrow.2 with ⟨_, h0⟩ | ⟨G, cap, cur, e, _⟩
        · omega
        · simp at e
          exact ⟨G, e.1⟩
      obtain ⟨G, hG⟩ := hvo
      rw [hG] at hrow
      have v0 := (row1_cell hrow hKn).1
      rw [hvK] at v0
      clear hrow hOWN hmq hvK hL hLe hL0 hM0
      have hMi : (M : Int) ≤ 9223372036854775807 := by have := HMB.out; omega
      have k0 : ∀ wx, Below wr.heap.size wr wx → wx.cell? ⟨b, off + i * 3, none⟩ = some (.int .u64 q.k) := fun wx h => by rw [h.cell (p := ⟨b, off + i * 3, none⟩) (cell_lt d0)]; exact d0
      have HX := HXR.out.all HXLR.out
      have c0 := fun wx h => (HX wx h).c0
      have c1 := fun wx h => (HX wx h).c1
      have c2 := fun wx h => (HX wx h).c2
      have c3 := fun wx h => (HX wx h).c3
      have c4 := fun wx h => (HX wx h).c4
      have c5 := fun wx h => (HX wx h).c5
      have c6 := fun wx h => (HX wx h).c6
      have c7 := fun wx h => (HX wx h).c7
      clear HX
      subst hG
      go_wp2_with fail
      refine wp_region_noPanic ?_
      refine wp_region_held_drew (S := fun wx => Below wr.heap.size wr wx) (by kernel_rfl) ?_ (fun hHeld => ?_)
      · exact below_drw _
      refine wpAnyH_take (i := 0) (oi := ⟨some 78, _, _, _, _, _⟩) (v := ?_) rfl (by kernel_rfl) (by kernel_rfl) (by kernel_rfl) (fun _ _ _ h => h) (Or.inl ⟨by rfl, ?_⟩) hHeld ?_
      rotate_left
      · intro w hSw; (try dsimp only at hSw); go_simp; all_goals (with_reducible rfl)
      try simp only [Act.put, List.setIfInBounds_toArray, List.set_cons_zero, List.set_cons_succ]
      refine wpAnyH_take (i := 1) (oi := ⟨some 79, _, _, _, _, _⟩) (v := ?_) rfl (by kernel_rfl) (by kernel_rfl) (by kernel_rfl) (fun _ _ _ h => h) (Or.inl ⟨by rfl, ?_⟩) hHeld ?_
      rotate_left
      · intro w hSw; (try dsimp only at hSw); go_simp; all_goals (with_reducible rfl)
      try simp only [Act.put, List.setIfInBounds_toArray, List.set_cons_zero, List.set_cons_succ]
      refine wpAnyH_take (i := 2) (oi := ⟨some 80, _, _, _, _, _⟩) (v := ?_) rfl (by kernel_rfl) (by kernel_rfl) (by kernel_rfl) (fun _ _ _ h => h) (Or.inl ⟨by rfl, ?_⟩) hHeld ?_
      rotate_left
      · intro w hSw; (try dsimp only at hSw); go_simp; all_goals (with_reducible rfl)
      try simp only [Act.put, List.setIfInBounds_toArray, List.set_cons_zero, List.set_cons_succ]
      refine wpAnyH_take (i := 3) (oi := ⟨some 81, _, _, _, _, _⟩) (v := ?_) rfl (by kernel_rfl) (by kernel_rfl) (by kernel_rfl) (fun _ _ _ h => h) (Or.inl ⟨by rfl, ?_⟩) hHeld ?_
      rotate_left
      · intro w hSw; (try dsimp only at hSw); go_simp; all_goals (with_reducible rfl)
      try simp only [Act.put, List.setIfInBounds_toArray, List.set_cons_zero, List.set_cons_succ]
      refine wpAnyH_take (i := 4) (oi := ⟨some 82, _, _, _, _, _⟩) (v := ?_) rfl (by kernel_rfl) (by kernel_rfl) (by kernel_rfl) (fun _ _ _ h => h) (Or.inl ⟨by rfl, ?_⟩) hHeld ?_
      rotate_left
      · intro w hSw; (try dsimp only at hSw); go_simp; all_goals (with_reducible rfl)
      try simp only [Act.put, List.setIfInBounds_toArray, List.set_cons_zero, List.set_cons_succ]
      refine wpAnyH_take (i := 5) (oi := ⟨some 83, _, _, _, _, _⟩) (v := ?_) rfl (by kernel_rfl) (by kernel_rfl) (by kernel_rfl) (fun _ _ _ h => h) (Or.inl ⟨by rfl, ?_⟩) hHeld ?_
      rotate_left
      · intro w hSw; (try dsimp only at hSw); go_simp; all_goals (with_reducible rfl)
      try simp only [Act.put, List.setIfInBounds_toArray, List.set_cons_zero, List.set_cons_succ]
      refine wpAnyH_ready (rs := [6]) (by kernel_rfl) (by simp) ?_
      refine AllReadyH.cons (o := ⟨some 84, _, _, _, _, _⟩) rfl (fun K hK => ?_) AllReadyH.nil
      go_simp
      refine (store_walk q.k HQK.out (HOR.out.below hHeld)).mono ?_
      rw [← HXS.out]
      rintro e w5 ⟨rfl, hV5⟩
      refine hK.out _ _ ?_ (fun hHeld => ?_)
      · exact below_trans hHeld hV5
      clear hK K
      try simp only [Act.put, List.setIfInBounds_toArray, List.set_cons_zero, List.set_cons_succ]
      refine wpAnyH_take (i := 7) (oi := ⟨some 10, _, _, _, _, _⟩) (v := ?_) rfl (by kernel_rfl) (by kernel_rfl) (by kernel_rfl) (fun _ _ _ h => h) (Or.inl ⟨by rfl, ?_⟩) hHeld ?_
      rotate_left
      · intro w hSw; (try dsimp only at hSw); go_simp; all_goals (with_reducible rfl)
      try simp only [Act.put, List.setIfInBounds_toArray, List.set_cons_zero, List.set_cons_succ]
      refine wpAnyH_done (by kernel_rfl) ?_ _
      refine NoPanic.normal ?_
      have HR5 : Hid (Below wr.heap.size wr w5) := hHeld
      have HXB5 : Hid (Bx w5 w.heap.size p ov) := HXR.out.below hHeld HXLR.out
      have HXL5 : Hid (w.heap.size < w5.heap.size) := Nat.lt_of_lt_of_le HXLR.out HR5.out.size
      have a1 : ∀ wx, Below w5.heap.size w5 wx → wx.cell? ⟨A, K, none⟩ = some (.int .i64 L) := fun wx h => by rw [(below_trans HR5.out h).cell (p := ⟨A, K, none⟩) (cell_lt a0)]; exact a0
      have v1 : ∀ wx, Below w5.heap.size w5 wx → wx.cell? ⟨G, K, none⟩ = some (.slice (some ⟨g, 0, none⟩) M cap) := fun wx h => by rw [(below_trans HR5.out h).cell (p := ⟨G, K, none⟩) (cell_lt v0)]; exact v0
      have n0 : ∀ wx, Below w5.heap.size w5 wx → wx.cell? ⟨g, L * 3, none⟩ = some (.int .u64 q.k) := fun wx h => by rw [(below_trans HR5.out h).cell (p := ⟨g, L * 3, none⟩) (cell_lt m0)]; exact m0
      have n1 : ∀ wx, Below w5.heap.size w5 wx → wx.cell? ⟨g, L * 3 + 1, none⟩ = some (.bool q.v.h) := fun wx h => by rw [(below_trans HR5.out h).cell (p := ⟨g, L * 3 + 1, none⟩) (cell_lt m1)]; exact m1
      have n2 : ∀ wx, Below w5.heap.size w5 wx → wx.cell? ⟨g, L * 3 + 2, none⟩ = some (.int .u64 q.v.b) := fun wx h => by rw [(below_trans HR5.out h).cell (p := ⟨g, L * 3 + 2, none⟩) (cell_lt m2)]; exact m2
      have e0 : ∀ wx, Below w5.heap.size w5 wx → wx.cell? ⟨b, off + i * 3, none⟩ = some (.int .u64 q.k) := fun wx h => by rw [(below_trans HR5.out h).cell (p := ⟨b, off + i * 3, none⟩) (cell_lt d0)]; exact d0
      have e1 : ∀ wx, Below w5.heap.size w5 wx → wx.cell? ⟨b, off + i * 3 + 1, none⟩ = some (.bool q.v.h) := fun wx h => by rw [(below_trans HR5.out h).cell (p := ⟨b, off + i * 3 + 1, none⟩) (cell_lt d1)]; exact d1
      have e2 : ∀ wx, Below w5.heap.size w5 wx → wx.cell? ⟨b, off + i * 3 + 2, none⟩ = some (.int .u64 q.v.b) := fun wx h => by rw [(below_trans HR5.out h).cell (p := ⟨b, off + i * 3 + 2, none⟩) (cell_lt d2)]; exact d2
      clear c0 c1 c2 c3 c4 c5 c6 c7
      clear hHeld hV5 k0 d0 d1 d2 m0 m1 m2 v0
      obtain ⟨c0, c1, c2, c3, c4, c5, c6, c7⟩ := HXB5.out
      go_wp2_with fail
      clear c0 c1 c2 c3 c4 c5 c6 c7
      have HX := HXB5.out.all HXL5.out
      have c0 := fun wx h => (HX wx h).c0
      have c1 := fun wx h => (HX wx h).c1
      have c2 := fun wx h => (HX wx h).c2
      have c3 := fun wx h => (HX wx h).c3
      have c4 := fun wx h => (HX wx h).c4
      have c5 := fun wx h => (HX wx h).c5
      have c6 := fun wx h => (HX wx h).c6
      have c7 := fun wx h => (HX wx h).c7
      clear HX
      have hqq := neq_pair q
      have hgd := guard_pair
      have f1 : decide ((K : Int) < 0) = false := decide_eq_false (by omega)
      have f2 : decide (p.S ≤ (K : Int)) = false := decide_eq_false (by have := HN.out; omega)
      have f3 : decide ((M : Int) ≤ (L : Int)) = false := decide_eq_false (by omega)
      have f4 : decide (M ≤ L) = false := decide_eq_false (by omega)
      refine wp_region_noPanic ?_
      refine wp_region_held_drew (S := fun wx => Below w5.heap.size w5 wx) (by kernel_rfl) ?_ (fun hHeld => ?_)
      · exact below_drw _
      refine wpAnyH_take (i := 0) (oi := ⟨some 90, _, _, _, _, _⟩) (v := ?_) rfl (by kernel_rfl) (by kernel_rfl) (by kernel_rfl) (fun _ _ _ h => h) (Or.inl ⟨by rfl, ?_⟩) hHeld ?_
      rotate_left
      · intro w hSw; (try dsimp only at hSw); go_simp; all_goals (with_reducible rfl)
      try simp only [Act.put, List.setIfInBounds_toArray, List.set_cons_zero, List.set_cons_succ]
      refine wpAnyH_take (i := 1) (oi := ⟨some 91, _, _, _, _, _⟩) (v := ?_) rfl (by kernel_rfl) (by kernel_rfl) (by kernel_rfl) (fun _ _ _ h => h) (Or.inl ⟨by rfl, ?_⟩) hHeld ?_
      rotate_left
      · intro w hSw; (try dsimp only at hSw); go_simp; all_goals (with_reducible rfl)
      try simp only [Act.put, List.setIfInBounds_toArray, List.set_cons_zero, List.set_cons_succ]
      refine wpAnyH_ready (rs := [2]) (by kernel_rfl) (by simp) ?_
      refine AllReadyH.cons (o := ⟨some 92, _, _, _, _, _⟩) rfl (fun K hK => ?_) AllReadyH.nil
      go_simp
      refine (kind_walk _ ((HOR.out.below HR5.out).below hHeld)).mono ?_
      rw [HKX.out]
      rintro e w6 ⟨rfl, hV6⟩
      refine hK.out _ _ ?_ (fun hHeld => ?_)
      · exact below_trans hHeld hV6
      clear hK K
      try simp only [Act.put, List.setIfInBounds_toArray, List.set_cons_zero, List.set_cons_succ]
      refine wpAnyH_take (i := 3) (oi := ⟨some 93, _, _, _, _, _⟩) (v := ?_) rfl (by kernel_rfl) (by kernel_rfl) (by kernel_rfl) (fun _ _ _ h => h) (Or.inl ⟨by rfl, ?_⟩) hHeld ?_
      rotate_left
      · intro w hSw; (try dsimp only at hSw); go_simp; all_goals (with_reducible rfl)
      try simp only [Act.put, List.setIfInBounds_toArray, List.set_cons_zero, List.set_cons_succ]
      refine wpAnyH_take (i := 4) (oi := ⟨some 94, _, _, _, _, _⟩) (v := ?_) rfl (by kernel_rfl) (by kernel_rfl) (by kernel_rfl) (fun _ _ _ h => h) (Or.inl ⟨by rfl, ?_⟩) hHeld ?_
      rotate_left
      · intro w hSw; (try dsimp only at hSw); go_simp; all_goals (with_reducible rfl)
      try simp only [Act.put, List.setIfInBounds_toArray, List.set_cons_zero, List.set_cons_succ]
      refine wpAnyH_take (i := 5) (oi := ⟨some 95, _, _, _, _, _⟩) (v := ?_) rfl (by kernel_rfl) (by kernel_rfl) (by kernel_rfl) (fun _ _ _ h => h) (Or.inl ⟨by rfl, ?_⟩) hHeld ?_
      rotate_left
      · intro w hSw; (try dsimp only at hSw); go_simp; all_goals (with_reducible rfl)
      try simp only [Act.put, List.setIfInBounds_toArray, List.set_cons_zero, List.set_cons_succ]
      refine wpAnyH_take (i := 6) (oi := ⟨some 96, _, _, _, _, _⟩) (v := ?_) rfl (by kernel_rfl) (by kernel_rfl) (by kernel_rfl) (fun _ _ _ h => h) (Or.inl ⟨by rfl, ?_⟩) hHeld ?_
      rotate_left
      · intro w hSw; (try dsimp only at hSw); go_simp; all_goals (with_reducible rfl)
      try simp only [Act.put, List.setIfInBounds_toArray, List.set_cons_zero, List.set_cons_succ]
      refine wpAnyH_take (i := 7) (oi := ⟨some 97, _, _, _, _, _⟩) (v := ?_) rfl (by kernel_rfl) (by kernel_rfl) (by kernel_rfl) (fun _ _ _ h => h) (Or.inl ⟨by rfl, ?_⟩) hHeld ?_
      rotate_left
      · intro w hSw; (try dsimp only at hSw); go_simp; all_goals (with_reducible rfl)
      try simp only [Act.put, List.setIfInBounds_toArray, List.set_cons_zero, List.set_cons_succ]
      refine wpAnyH_take (i := 8) (oi := ⟨some 98, _, _, _, _, _⟩) (v := ?_) rfl (by kernel_rfl) (by kernel_rfl) (by kernel_rfl) (fun _ _ _ h => h) (Or.inl ⟨by rfl, ?_⟩) hHeld ?_
      rotate_left
      · intro w hSw; (try dsimp only at hSw); go_simp; all_goals (with_reducible rfl)
      try simp only [Act.put, List.setIfInBounds_toArray, List.set_cons_zero, List.set_cons_succ]
      refine wpAnyH_take (i := 9) (oi := ⟨some 99, _, _, _, _, _⟩) (v := ?_) rfl (by kernel_rfl) (by kernel_rfl) (by kernel_rfl) (fun _ _ _ h => h) (Or.inl ⟨by rfl, ?_⟩) hHeld ?_
      rotate_left
      · intro w hSw; (try dsimp only at hSw); go_simp; all_goals (with_reducible rfl)
      try simp only [Act.put, List.setIfInBounds_toArray, List.set_cons_zero, List.set_cons_succ]
      refine wpAnyH_take (i := 10) (oi := ⟨some 100, _, _, _, _, _⟩) (v := ?_) rfl (by kernel_rfl) (by kernel_rfl) (by kernel_rfl) (fun _ _ _ h => h) (Or.inl ⟨by rfl, ?_⟩) hHeld ?_
      rotate_left
      · intro w hSw; (try dsimp only at hSw); go_simp; all_goals (with_reducible rfl)
      try simp only [Act.put, List.setIfInBounds_toArray, List.set_cons_zero, List.set_cons_succ]
      refine wpAnyH_take (i := 11) (oi := ⟨some 101, _, _, _, _, _⟩) (v := ?_) rfl (by kernel_rfl) (by kernel_rfl) (by kernel_rfl) (fun _ _ _ h => h) (Or.inl ⟨by rfl, ?_⟩) hHeld ?_
      rotate_left
      · intro w hSw; (try dsimp only at hSw); go_simp; all_goals (with_reducible rfl)
      try simp only [Act.put, List.setIfInBounds_toArray, List.set_cons_zero, List.set_cons_succ]
      refine wpAnyH_take (i := 12) (oi := ⟨some 102, _, _, _, _, _⟩) (v := ?_) rfl (by kernel_rfl) (by kernel_rfl) (by kernel_rfl) (fun _ _ _ h => h) (Or.inl ⟨by rfl, ?_⟩) hHeld ?_
      rotate_left
      · intro w hSw; (try dsimp only at hSw); go_simp; all_goals (with_reducible rfl)
      try simp only [Act.put, List.setIfInBounds_toArray, List.set_cons_zero, List.set_cons_succ]
      refine wpAnyH_take (i := 13) (oi := ⟨some 103, _, _, _, _, _⟩) (v := ?_) rfl (by kernel_rfl) (by kernel_rfl) (by kernel_rfl) (fun _ _ _ h => h) (Or.inl ⟨by rfl, ?_⟩) hHeld ?_
      rotate_left
      · intro w hSw; (try dsimp only at hSw); go_simp; all_goals (with_reducible rfl)
      try simp only [Act.put, List.setIfInBounds_toArray, List.set_cons_zero, List.set_cons_succ]
      refine wpAnyH_take (i := 14) (oi := ⟨some 104, _, _, _, _, _⟩) (v := ?_) rfl (by kernel_rfl) (by kernel_rfl) (by kernel_rfl) (fun _ _ _ h => h) (Or.inl ⟨by rfl, ?_⟩) hHeld ?_
      rotate_left
      · intro w hSw; (try dsimp only at hSw); go_simp; all_goals (with_reducible rfl)
      try simp only [Act.put, List.setIfInBounds_toArray, List.set_cons_zero, List.set_cons_succ]
      refine wpAnyH_take (i := 15) (oi := ⟨some 105, _, _, _, _, _⟩) (v := ?_) rfl (by kernel_rfl) (by kernel_rfl) (by kernel_rfl) (fun _ _ _ h => h) (Or.inl ⟨by rfl, ?_⟩) hHeld ?_
      rotate_left
      · intro w hSw; (try dsimp only at hSw); go_simp; all_goals (with_reducible rfl)
      try simp only [Act.put, List.setIfInBounds_toArray, List.set_cons_zero, List.set_cons_succ]
      refine wpAnyH_take (i := 16) (oi := ⟨some 106, _, _, _, _, _⟩) (v := ?_) rfl (by kernel_rfl) (by kernel_rfl) (by kernel_rfl) (fun _ _ _ h => h) (Or.inl ⟨by rfl, ?_⟩) hHeld ?_
      rotate_left
      · intro w hSw; (try dsimp only at hSw); go_simp; all_goals (with_reducible rfl)
      try simp only [Act.put, List.setIfInBounds_toArray, List.set_cons_zero, List.set_cons_succ]
      refine wpAnyH_take (i := 17) (oi := ⟨some 107, _, _, _, _, _⟩) (v := ?_) rfl (by kernel_rfl) (by kernel_rfl) (by kernel_rfl) (fun _ _ _ h => h) (Or.inl ⟨by rfl, ?_⟩) hHeld ?_
      rotate_left
      · intro w hSw; (try dsimp only at hSw); go_simp; all_goals (with_reducible rfl)
      try simp only [Act.put, List.setIfInBounds_toArray, List.set_cons_zero, List.set_cons_succ]
      refine wpAnyH_take (i := 18) (oi := ⟨some 108, _, _, _, _, _⟩) (v := ?_) rfl (by kernel_rfl) (by kernel_rfl) (by kernel_rfl) (fun _ _ _ h => h) (Or.inl ⟨by rfl, ?_⟩) hHeld ?_
      rotate_left
      · intro w hSw; (try dsimp only at hSw); go_simp; all_goals (with_reducible rfl)
      try simp only [Act.put, List.setIfInBounds_toArray, List.set_cons_zero, List.set_cons_succ]
      refine wpAnyH_take (i := 19) (oi := ⟨some 109, _, _, _, _, _⟩) (v := ?_) rfl (by kernel_rfl) (by kernel_rfl) (by kernel_rfl) (fun _ _ _ h => h) (Or.inl ⟨by rfl, ?_⟩) hHeld ?_
      rotate_left
      · intro w hSw; (try dsimp only at hSw); go_simp; all_goals (with_reducible rfl)
      try simp only [Act.put, List.setIfInBounds_toArray, List.set_cons_zero, List.set_cons_succ]
      refine wpAnyH_take (i := 20) (oi := ⟨some 110, _, _, _, _, _⟩) (v := ?_) rfl (by kernel_rfl) (by kernel_rfl) (by kernel_rfl) (fun _ _ _ h => h) (Or.inl ⟨by rfl, ?_⟩) hHeld ?_
      rotate_left
      · intro w hSw; (try dsimp only at hSw); go_simp; all_goals (with_reducible rfl)
      try simp only [Act.put, List.setIfInBounds_toArray, List.set_cons_zero, List.set_cons_succ]
      refine wpAnyH_take (i := 21) (oi := ⟨some 111, _, _, _, _, _⟩) (v := ?_) rfl (by kernel_rfl) (by kernel_rfl) (by kernel_rfl) (fun _ _ _ h => h) (Or.inl ⟨by rfl, ?_⟩) hHeld ?_
      rotate_left
      · intro w hSw; (try dsimp only at hSw); go_simp; all_goals (with_reducible rfl)
      try simp only [Act.put, List.setIfInBounds_toArray, List.set_cons_zero, List.set_cons_succ]
      refine wpAnyH_take (i := 22) (oi := ⟨some 112, _, _, _, _, _⟩) (v := ?_) rfl (by kernel_rfl) (by kernel_rfl) (by kernel_rfl) (fun _ _ _ h => h) (Or.inl ⟨by rfl, ?_⟩) hHeld ?_
      rotate_left
      · intro w hSw; (try dsimp only at hSw); go_simp; all_goals (with_reducible rfl)
      try simp only [Act.put, List.setIfInBounds_toArray, List.set_cons_zero, List.set_cons_succ]
      refine wpAnyH_take (i := 23) (oi := ⟨some 113, _, _, _, _, _⟩) (v := ?_) rfl (by kernel_rfl) (by kernel_rfl) (by kernel_rfl) (fun _ _ _ h => h) (Or.inl ⟨by rfl, ?_⟩) hHeld ?_
      rotate_left
      · intro w hSw; (try dsimp only at hSw); go_simp; all_goals (with_reducible rfl)
      try simp only [Act.put, List.setIfInBounds_toArray, List.set_cons_zero, List.set_cons_succ]
      refine wpAnyH_take (i := 24) (oi := ⟨some 114, _, _, _, _, _⟩) (v := ?_) rfl (by kernel_rfl) (by kernel_rfl) (by kernel_rfl) (fun _ _ _ h => h) (Or.inl ⟨by rfl, ?_⟩) hHeld ?_
      rotate_left
      · intro w hSw; (try dsimp only at hSw); go_simp; all_goals (with_reducible rfl)
      try simp only [Act.put, List.setIfInBounds_toArray, List.set_cons_zero, List.set_cons_succ]
      refine wpAnyH_take (i := 25) (oi := ⟨some 115, _, _, _, _, _⟩) (v := ?_) rfl (by kernel_rfl) (by kernel_rfl) (by kernel_rfl) (fun _ _ _ h => h) (Or.inl ⟨by rfl, ?_⟩) hHeld ?_
      rotate_left
      · intro w hSw; (try dsimp only at hSw); go_simp; all_goals (with_reducible rfl)
      try simp only [Act.put, List.setIfInBounds_toArray, List.set_cons_zero, List.set_cons_succ]
      refine wpAnyH_take (i := 26) (oi := ⟨some 116, _, _, _, _, _⟩) (v := ?_) rfl (by kernel_rfl) (by kernel_rfl) (by kernel_rfl) (fun _ _ _ h => h) (Or.inl ⟨by rfl, ?_⟩) hHeld ?_
      rotate_left
      · intro w hSw; (try dsimp only at hSw); go_simp; all_goals (with_reducible rfl)
      try simp only [Act.put, List.setIfInBounds_toArray, List.set_cons_zero, List.set_cons_succ]
      refine wpAnyH_take (i := 27) (oi := ⟨some 117, _, _, _, _, _⟩) (v := ?_) rfl (by kernel_rfl) (by kernel_rfl) (by kernel_rfl) (fun _ _ _ h => h) (Or.inl ⟨by rfl, ?_⟩) hHeld ?_
      rotate_left
      · intro w hSw; (try dsimp only at hSw); go_simp; all_goals (with_reducible rfl)
      try simp only [Act.put, List.setIfInBounds_toArray, List.set_cons_zero, List.set_cons_succ]
      refine wpAnyH_take (i := 28) (oi := ⟨some 118, _, _, _, _, _⟩) (v := ?_) rfl (by kernel_rfl) (by kernel_rfl) (by kernel_rfl) (fun _ _ _ h => h) (Or.inl ⟨by rfl, ?_⟩) hHeld ?_
      rotate_left
      · intro w hSw; (try dsimp only at hSw); go_simp; all_goals (with_reducible rfl)
      try simp only [Act.put, List.setIfInBounds_toArray, List.set_cons_zero, List.set_cons_succ]
      refine wpAnyH_take (i := 29) (oi := ⟨some 119, _, _, _, _, _⟩) (v := ?_) rfl (by kernel_rfl) (by kernel_rfl) (by kernel_rfl) (fun _ _ _ h => h) (Or.inl ⟨by rfl, ?_⟩) hHeld ?_
      rotate_left
      · intro w hSw; (try dsimp only at hSw); go_simp; all_goals (with_reducible rfl)
      try simp only [Act.put, List.setIfInBounds_toArray, List.set_cons_zero, List.set_cons_succ]
      refine wpAnyH_take (i := 30) (oi := ⟨some 120, _, _, _, _, _⟩) (v := ?_) rfl (by kernel_rfl) (by kernel_rfl) (by kernel_rfl) (fun _ _ _ h => h) (Or.inl ⟨by rfl, ?_⟩) hHeld ?_
      rotate_left
      · intro w hSw; (try dsimp only at hSw); go_simp; all_goals (with_reducible rfl)
      try simp only [Act.put, List.setIfInBounds_toArray, List.set_cons_zero, List.set_cons_succ]
      refine wpAnyH_take (i := 31) (oi := ⟨some 121, _, _, _, _, _⟩) (v := ?_) rfl (by kernel_rfl) (by kernel_rfl) (by kernel_rfl) (fun _ _ _ h => h) (Or.inl ⟨by rfl, ?_⟩) hHeld ?_
      rotate_left
      · intro w hSw; (try dsimp only at hSw); go_simp; all_goals (with_reducible rfl)
      try simp only [Act.put, List.setIfInBounds_toArray, List.set_cons_zero, List.set_cons_succ]
      refine wpAnyH_take (i := 32) (oi := ⟨some 122, _, _, _, _, _⟩) (v := ?_) rfl (by kernel_rfl) (by kernel_rfl) (by kernel_rfl) (fun _ _ _ h => h) (Or.inl ⟨by rfl, ?_⟩) hHeld ?_
      rotate_left
      · intro w hSw; (try dsimp only at hSw); go_simp; all_goals (with_reducible rfl)
      try simp only [Act.put, List.setIfInBounds_toArray, List.set_cons_zero, List.set_cons_succ]
      refine wpAnyH_take (i := 33) (oi := ⟨some 123, _, _, _, _, _⟩) (v := ?_) rfl (by kernel_rfl) (by kernel_rfl) (by kernel_rfl) (fun _ _ _ h => h) (Or.inl ⟨by rfl, ?_⟩) hHeld ?_
      rotate_left
      · intro w hSw; (try dsimp only at hSw); go_simp; all_goals (with_reducible rfl)
      try simp only [Act.put, List.setIfInBounds_toArray, List.set_cons_zero, List.set_cons_succ]
      refine wpAnyH_take (i := 34) (oi := ⟨some 124, _, _, _, _, _⟩) (v := ?_) rfl (by kernel_rfl) (by kernel_rfl) (by kernel_rfl) (fun _ _ _ h => h) (Or.inl ⟨by rfl, ?_⟩) hHeld ?_
      rotate_left
      · intro w hSw; (try dsimp only at hSw); go_simp; all_goals (with_reducible rfl)
      try simp only [Act.put, List.setIfInBounds_toArray, List.set_cons_zero, List.set_cons_succ]
      refine wpAnyH_take (i := 35) (oi := ⟨some 125, _, _, _, _, _⟩) (v := ?_) rfl (by kernel_rfl) (by kernel_rfl) (by kernel_rfl) (fun _ _ _ h => h) (Or.inl ⟨by rfl, ?_⟩) hHeld ?_
      rotate_left
      · intro w hSw; (try dsimp only at hSw); go_simp; all_goals (with_reducible rfl)
      try simp only [Act.put, List.setIfInBounds_toArray, List.set_cons_zero, List.set_cons_succ]
      refine wpAnyH_take (i := 36) (oi := ⟨some 126, _, _, _, _, _⟩) (v := ?_) rfl (by kernel_rfl) (by kernel_rfl) (by kernel_rfl) (fun _ _ _ h => h) (Or.inl ⟨by rfl, ?_⟩) hHeld ?_
      rotate_left
      · intro w hSw; (try dsimp only at hSw); go_simp; all_goals (with_reducible rfl)
      try simp only [Act.put, List.setIfInBounds_toArray, List.set_cons_zero, List.set_cons_succ]
      refine wpAnyH_take (i := 37) (oi := ⟨some 127, _, _, _, _, _⟩) (v := ?_) rfl (by kernel_rfl) (by kernel_rfl) (by kernel_rfl) (fun _ _ _ h => h) (Or.inl ⟨by rfl, ?_⟩) hHeld ?_
      rotate_left
      · intro w hSw; (try dsimp only at hSw); go_simp; all_goals (with_reducible rfl)
      try simp only [Act.put, List.setIfInBounds_toArray, List.set_cons_zero, List.set_cons_succ]
      refine wpAnyH_take (i := 38) (oi := ⟨some 128, _, _, _, _, _⟩) (v := ?_) rfl (by kernel_rfl) (by kernel_rfl) (by kernel_rfl) (fun _ _ _ h => h) (Or.inl ⟨by rfl, ?_⟩) hHeld ?_
      rotate_left
      · intro w hSw; (try dsimp only at hSw); go_simp; all_goals (with_reducible rfl)
      try simp only [Act.put, List.setIfInBounds_toArray, List.set_cons_zero, List.set_cons_succ]
      refine wpAnyH_take (i := 39) (oi := ⟨some 129, _, _, _, _, _⟩) (v := ?_) rfl (by kernel_rfl) (by kernel_rfl) (by kernel_rfl) (fun _ _ _ h => h) (Or.inl ⟨by rfl, ?_⟩) hHeld ?_
      rotate_left
      · intro w hSw; (try dsimp only at hSw); go_simp; all_goals (with_reducible rfl)
      try simp only [Act.put, List.setIfInBounds_toArray, List.set_cons_zero, List.set_cons_succ]
      refine wpAnyH_take (i := 40) (oi := ⟨some 130, _, _, _, _, _⟩) (v := ?_) rfl (by kernel_rfl) (by kernel_rfl) (by kernel_rfl) (fun _ _ _ h => h) (Or.inl ⟨by rfl, ?_⟩) hHeld ?_
      rotate_left
      · intro w hSw; (try dsimp only at hSw); go_simp; all_goals (with_reducible rfl)
      try simp only [Act.put, List.setIfInBounds_toArray, List.set_cons_zero, List.set_cons_succ]
      refine wpAnyH_take (i := 41) (oi := ⟨some 131, _, _, _, _, _⟩) (v := ?_) rfl (by kernel_rfl) (by kernel_rfl) (by kernel_rfl) (fun _ _ _ h => h) (Or.inl ⟨by rfl, ?_⟩) hHeld ?_
      rotate_left
      · intro w hSw; (try dsimp only at hSw); go_simp; all_goals (with_reducible rfl)
      try simp only [Act.put, List.setIfInBounds_toArray, List.set_cons_zero, List.set_cons_succ]
      refine wpAnyH_take (i := 42) (oi := ⟨some 132, _, _, _, _, _⟩) (v := ?_) rfl (by kernel_rfl) (by kernel_rfl) (by kernel_rfl) (fun _ _ _ h => h) (Or.inl ⟨by rfl, ?_⟩) hHeld ?_
      rotate_left
      · intro w hSw; (try dsimp only at hSw); go_simp; all_goals (with_reducible rfl)
      try simp only [Act.put, List.setIfInBounds_toArray, List.set_cons_zero, List.set_cons_succ]
      refine wpAnyH_done (by kernel_rfl) ?_ _
      refine NoPanic.normal ?_
      have HR6 : Hid (Below wr.heap.size wr w6) := below_trans HR5.out hHeld
      have HAT6 : Hid (AtF w6 A n (fun j => (dealF p (t.take i) j).length)) := HAT1.out.below HR6.out HAL.out
      have a6 : w6.cell? ⟨A, K, none⟩ = some (.int .i64 L) := by rw [HL0.out]; exact (HAT6.out K hKn).1
      have z6 : w6.frozen? ⟨A, K, none⟩ = false := (HAT6.out K hKn).2
      have HRI : Hid (S1 w4 A n p t (.int .i64 ((i : Int) + 1)) (w6.setCell ⟨A, K, none⟩ (.int .i64 ((L : Int) + 1)))) := by
        have h6 : Below w4.heap.size w4 w6 := HBR.out.trans (HR6.out.mono HWR.out)
        refine ⟨i + 1, hlt, by simp, h6.setCell (p := ⟨A, K, none⟩) (by rw [HA.out]; exact Nat.le_refl _) _, ?_, ?_⟩
        · have := HAL.out
          have := HR6.out.size
          simp
          omega
        · have h := HAT6.out.set (i := K) (L + 1)
          have e : (fun j => (dealF p (t.take (i + 1)) j).length) = setF (fun j => (dealF p (t.take i) j).length) K (L + 1) := by
            funext j
            rw [deal_step p t hlt, ← HQE.out, ← HK.out]
            by_cases hj : j = K
            · subst hj
              rw [setF_at, setF_at, List.length_append, HL0.out]
              rfl
            · rw [setF_ne _ _ hj, setF_ne _ _ hj]
          rw [e]
          exact h
      clear hHeld hV6 a1 v1 n0 n1 n2 e0 e1 e2 hqq hgd f1 f2 f3 f4
      clear c0 c1 c2 c3 c4 c5 c6 c7
      go_wp2_with fail
      go_roundw
      case rel => exact HRI.out
      case measure => simp [intOf]; omega
    · obtain rfl : i = t.length := by omega
      have HATT : Hid (AtF wr A n (fun j => (dealF p t j).length)) := by
        have h := HAT1.out
        rw [List.take_length] at h
        exact h
      clear HAT1
      obtain ⟨w7, hw7⟩ : ∃ w7, w7 = wr := ⟨_, rfl⟩
      subst hw7
      obtain ⟨c0, c1, c2, c3, c4, c5, c6, c7⟩ := HXR.out
      go_wp2_with fail
      go_loopw [12] (fun iv wr => ∃ k : Nat, k ≤ n ∧ iv = .int .i64 k ∧ Below w7.heap.size w7 wr) (fun iv _ => n - (intOf iv).toNat)
      case atStart => exact ⟨0, Nat.zero_le _, rfl, below_same _⟩
      case round =>
        clear c0 c1 c2 c3 c4 c5 c6 c7
        obtain ⟨k, hk, rfl, hB8⟩ := hrel
        have HB8 : Hid (Below w7.heap.size w7 wr) := hB8
        have HX8 : Hid (Bx wr w.heap.size p ov) := HXR.out.below hB8 HXLR.out
        have HXL8 : Hid (w.heap.size < wr.heap.size) := Nat.lt_of_lt_of_le HXLR.out hB8.size
        clear hB8
        obtain ⟨c0, c1, c2, c3, c4, c5, c6, c7⟩ := HX8.out
        by_cases hlt2 : k < n
        · have hkS : (k : Int) < p.S := by have := HN.out; omega
          have HD8 := HDR.out.below HB8.out
          have hrow := HD8.row
          have hvo : ∃ G, vo = some ⟨G, 0, none⟩ := by
            rcases hrow.2 with ⟨_, h0⟩ | ⟨G, cap, cur, e, _⟩
            · omega
            · simp at e
              exact ⟨G, e.1⟩
          obtain ⟨G, hG⟩ := hvo
          rw [hG] at hrow
          have v0 := (row1_cell hrow hlt2).1
          obtain ⟨so, sc, hsv, _, _⟩ := row_form (HD8.own k hlt2)
          rw [hsv] at v0
          have a0 := ((HATT.out.below HB8.out HAL.out) k hlt2).1
          obtain ⟨M, hM⟩ : ∃ M, M = (dealF p t k).length := ⟨_, rfl⟩
          rw [← hM] at v0
          have a1 : wr.cell? ⟨A, k, none⟩ = some (.int .i64 M) := by rw [hM]; exact a0
          have HM : Hid (M = (dealF p t k).length) := hM
          have hMi : (M : Int) ≤ 9223372036854775807 := by have := deal_len p t k; omega
          clear HD8 hrow hsv a0 hM
          subst hG
          have v2 : ∀ wx, Below wr.heap.size wr wx → wx.cell? ⟨G, k, none⟩ = some (.slice so M sc) := fun wx h => by rw [h.cell (p := ⟨G, k, none⟩) (cell_lt v0)]; exact v0
          have a2 : ∀ wx, Below wr.heap.size wr wx → wx.cell? ⟨A, k, none⟩ = some (.int .i64 M) := fun wx h => by rw [h.cell (p := ⟨A, k, none⟩) (cell_lt a1)]; exact a1
          clear v0 a1
          go_wp2_with fail
          refine wp_region_noPanic ?_
          refine wp_region_held_drew (S := fun wx => Below wr.heap.size wr wx) (by kernel_rfl) ?_ (fun hHeld => ?_)
          · exact below_drw _
          refine wpAnyH_take (i := 0) (oi := ⟨some 145, _, _, _, _, _⟩) (v := ?_) rfl (by kernel_rfl) (by kernel_rfl) (by kernel_rfl) (fun _ _ _ h => h) (Or.inl ⟨by rfl, ?_⟩) hHeld ?_
          rotate_left
          · intro w hSw; (try dsimp only at hSw); go_simp; all_goals (with_reducible rfl)
          try simp only [Act.put, List.setIfInBounds_toArray, List.set_cons_zero, List.set_cons_succ]
          refine wpAnyH_take (i := 1) (oi := ⟨some 146, _, _, _, _, _⟩) (v := ?_) rfl (by kernel_rfl) (by kernel_rfl) (by kernel_rfl) (fun _ _ _ h => h) (Or.inl ⟨by rfl, ?_⟩) hHeld ?_
          rotate_left
          · intro w hSw; (try dsimp only at hSw); go_simp; all_goals (with_reducible rfl)
          try simp only [Act.put, List.setIfInBounds_toArray, List.set_cons_zero, List.set_cons_succ]
          refine wpAnyH_take (i := 2) (oi := ⟨some 147, _, _, _, _, _⟩) (v := ?_) rfl (by kernel_rfl) (by kernel_rfl) (by kernel_rfl) (fun _ _ _ h => h) (Or.inl ⟨by rfl, ?_⟩) hHeld ?_
          rotate_left
          · intro w hSw; (try dsimp only at hSw); go_simp; all_goals (with_reducible rfl)
          try simp only [Act.put, List.setIfInBounds_toArray, List.set_cons_zero, List.set_cons_succ]
          refine wpAnyH_take (i := 3) (oi := ⟨some 148, _, _, _, _, _⟩) (v := ?_) rfl (by kernel_rfl) (by kernel_rfl) (by kernel_rfl) (fun _ _ _ h => h) (Or.inl ⟨by rfl, ?_⟩) hHeld ?_
          rotate_left
          · intro w hSw; (try dsimp only at hSw); go_simp; all_goals (with_reducible rfl)
          try simp only [Act.put, List.setIfInBounds_toArray, List.set_cons_zero, List.set_cons_succ]
          refine wpAnyH_take (i := 4) (oi := ⟨some 149, _, _, _, _, _⟩) (v := ?_) rfl (by kernel_rfl) (by kernel_rfl) (by kernel_rfl) (fun _ _ _ h => h) (Or.inl ⟨by rfl, ?_⟩) hHeld ?_
          rotate_left
          · intro w hSw; (try dsimp only at hSw); go_simp; all_goals (with_reducible rfl)
          try simp only [Act.put, List.setIfInBounds_toArray, List.set_cons_zero, List.set_cons_succ]
          refine wpAnyH_take (i := 5) (oi := ⟨some 150, _, _, _, _, _⟩) (v := ?_) rfl (by kernel_rfl) (by kernel_rfl) (by kernel_rfl) (fun _ _ _ h => h) (Or.inl ⟨by rfl, ?_⟩) hHeld ?_
          rotate_left
          · intro w hSw; (try dsimp only at hSw); go_simp; all_goals (with_reducible rfl)
          try simp only [Act.put, List.setIfInBounds_toArray, List.set_cons_zero, List.set_cons_succ]
          refine wpAnyH_take (i := 6) (oi := ⟨some 151, _, _, _, _, _⟩) (v := ?_) rfl (by kernel_rfl) (by kernel_rfl) (by kernel_rfl) (fun _ _ _ h => h) (Or.inl ⟨by rfl, ?_⟩) hHeld ?_
          rotate_left
          · intro w hSw; (try dsimp only at hSw); go_simp; all_goals (with_reducible rfl)
          try simp only [Act.put, List.setIfInBounds_toArray, List.set_cons_zero, List.set_cons_succ]
          refine wpAnyH_take (i := 7) (oi := ⟨some 152, _, _, _, _, _⟩) (v := ?_) rfl (by kernel_rfl) (by kernel_rfl) (by kernel_rfl) (fun _ _ _ h => h) (Or.inl ⟨by rfl, ?_⟩) hHeld ?_
          rotate_left
          · intro w hSw; (try dsimp only at hSw); go_simp; all_goals (with_reducible rfl)
          try simp only [Act.put, List.setIfInBounds_toArray, List.set_cons_zero, List.set_cons_succ]
          refine wpAnyH_take (i := 8) (oi := ⟨some 153, _, _, _, _, _⟩) (v := ?_) rfl (by kernel_rfl) (by kernel_rfl) (by kernel_rfl) (fun _ _ _ h => h) (Or.inl ⟨by rfl, ?_⟩) hHeld ?_
          rotate_left
          · intro w hSw; (try dsimp only at hSw); go_simp; all_goals (with_reducible rfl)
          try simp only [Act.put, List.setIfInBounds_toArray, List.set_cons_zero, List.set_cons_succ]
          refine wpAnyH_take (i := 9) (oi := ⟨some 154, _, _, _, _, _⟩) (v := ?_) rfl (by kernel_rfl) (by kernel_rfl) (by kernel_rfl) (fun _ _ _ h => h) (Or.inl ⟨by rfl, ?_⟩) hHeld ?_
          rotate_left
          · intro w hSw; (try dsimp only at hSw); go_simp; all_goals (with_reducible rfl)
          try simp only [Act.put, List.setIfInBounds_toArray, List.set_cons_zero, List.set_cons_succ]
          refine wpAnyH_done (by kernel_rfl) ?_ _
          refine NoPanic.normal ?_
          have HB9 : Hid (Below w7.heap.size w7 wr.drew) := below_trans HB8.out hHeld
          clear hHeld v2 a2
          clear c0 c1 c2 c3 c4 c5 c6 c7
          go_wp2_with fail
          go_roundw
          case rel => exact ⟨k + 1, by omega, by simp, HB9.out⟩
          case measure => simp [intOf]; omega
        · have hkS : ¬ (k : Int) < p.S := by have := HN.out; omega
          obtain ⟨w8, hw8⟩ : ∃ w8, w8 = wr := ⟨_, rfl⟩
          subst hw8
          have HO8 : Hid (Ov w8 ov p.l) := HOR.out.below HB8.out
          go_wp2_with fail
          go_cut [164] (fun bv wx => bv = .bool false ∧ Below w8.heap.size w8 wx)
          case first =>
            by_cases ha : 1 ≤ at_
            · have HKW : Hid (p.kind (p.worker at_) = 2) := kind_worker hp ha
              have ha1 : decide (1 ≤ at_) = true := decide_eq_true ha
              clear c0 c1 c2 c3 c4 c5 c6 c7
              have HX := HX8.out.all HXL8.out
              have c0 := fun wx h => (HX wx h).c0
              have c1 := fun wx h => (HX wx h).c1
              have c2 := fun wx h => (HX wx h).c2
              have c3 := fun wx h => (HX wx h).c3
              have c4 := fun wx h => (HX wx h).c4
              have c5 := fun wx h => (HX wx h).c5
              have c6 := fun wx h => (HX wx h).c6
              have c7 := fun wx h => (HX wx h).c7
              clear HX
              refine wp_region_noPanic ?_
              refine wp_region_held_drew (S := fun wx => Below w8.heap.size w8 wx) (by kernel_rfl) ?_ (fun hHeld => ?_)
              · exact below_drw _
              refine wpAnyH_take (i := 0) (oi := ⟨some 155, _, _, _, _, _⟩) (v := ?_) rfl (by kernel_rfl) (by kernel_rfl) (by kernel_rfl) (fun _ _ _ h => h) (Or.inl ⟨by rfl, ?_⟩) hHeld ?_
              rotate_left
              · intro w hSw; (try dsimp only at hSw); go_simp; all_goals (with_reducible rfl)
              try simp only [Act.put, List.setIfInBounds_toArray, List.set_cons_zero, List.set_cons_succ]
              refine wpAnyH_take (i := 1) (oi := ⟨some 156, _, _, _, _, _⟩) (v := ?_) rfl (by kernel_rfl) (by kernel_rfl) (by kernel_rfl) (fun _ _ _ h => h) (Or.inl ⟨by rfl, ?_⟩) hHeld ?_
              rotate_left
              · intro w hSw; (try dsimp only at hSw); go_simp; all_goals (with_reducible rfl)
              try simp only [Act.put, List.setIfInBounds_toArray, List.set_cons_zero, List.set_cons_succ]
              refine wpAnyH_take (i := 2) (oi := ⟨some 157, _, _, _, _, _⟩) (v := ?_) rfl (by kernel_rfl) (by kernel_rfl) (by kernel_rfl) (fun _ _ _ h => h) (Or.inl ⟨by rfl, ?_⟩) hHeld ?_
              rotate_left
              · intro w hSw; (try dsimp only at hSw); go_simp; all_goals (with_reducible rfl)
              try simp only [Act.put, List.setIfInBounds_toArray, List.set_cons_zero, List.set_cons_succ]
              refine wpAnyH_take (i := 3) (oi := ⟨some 158, _, _, _, _, _⟩) (v := ?_) rfl (by kernel_rfl) (by kernel_rfl) (by kernel_rfl) (fun _ _ _ h => h) (Or.inl ⟨by rfl, ?_⟩) hHeld ?_
              rotate_left
              · intro w hSw; (try dsimp only at hSw); go_simp; all_goals (with_reducible rfl)
              try simp only [Act.put, List.setIfInBounds_toArray, List.set_cons_zero, List.set_cons_succ]
              refine wpAnyH_take (i := 4) (oi := ⟨some 159, _, _, _, _, _⟩) (v := ?_) rfl (by kernel_rfl) (by kernel_rfl) (by kernel_rfl) (fun _ _ _ h => h) (Or.inl ⟨by rfl, ?_⟩) hHeld ?_
              rotate_left
              · intro w hSw; (try dsimp only at hSw); go_simp; all_goals (with_reducible rfl)
              try simp only [Act.put, List.setIfInBounds_toArray, List.set_cons_zero, List.set_cons_succ]
              refine wpAnyH_take (i := 5) (oi := ⟨some 160, _, _, _, _, _⟩) (v := ?_) rfl (by kernel_rfl) (by kernel_rfl) (by kernel_rfl) (fun _ _ _ h => h) (Or.inl ⟨by rfl, ?_⟩) hHeld ?_
              rotate_left
              · intro w hSw; (try dsimp only at hSw); go_simp; all_goals (with_reducible rfl)
              try simp only [Act.put, List.setIfInBounds_toArray, List.set_cons_zero, List.set_cons_succ]
              refine wpAnyH_ready (rs := [6]) (by kernel_rfl) (by simp) ?_
              refine AllReadyH.cons (o := ⟨some 161, _, _, _, _, _⟩) rfl (fun K hK => ?_) AllReadyH.nil
              go_simp
              refine (worker_walk at_ HAT.out (HO8.out.below hHeld)).mono ?_
              rintro e y1 ⟨rfl, hY1⟩
              refine hK.out _ _ ?_ (fun hHeld => ?_)
              · exact below_trans hHeld hY1
              clear hK K
              try simp only [Act.put, List.setIfInBounds_toArray, List.set_cons_zero, List.set_cons_succ]
              refine wpAnyH_ready (rs := [7]) (by kernel_rfl) (by simp) ?_
              refine AllReadyH.cons (o := ⟨some 162, _, _, _, _, _⟩) rfl (fun K hK => ?_) AllReadyH.nil
              go_simp
              refine (kind_walk _ (HO8.out.below hHeld)).mono ?_
              rw [HKW.out]
              rintro e y2 ⟨rfl, hY2⟩
              refine hK.out _ _ ?_ (fun hHeld => ?_)
              · exact below_trans hHeld hY2
              clear hK K
              try simp only [Act.put, List.setIfInBounds_toArray, List.set_cons_zero, List.set_cons_succ]
              refine wpAnyH_take (i := 8) (oi := ⟨some 163, _, _, _, _, _⟩) (v := ?_) rfl (by kernel_rfl) (by kernel_rfl) (by kernel_rfl) (fun _ _ _ h => h) (Or.inl ⟨by rfl, ?_⟩) hHeld ?_
              rotate_left
              · intro w hSw; (try dsimp only at hSw); go_simp; all_goals (with_reducible rfl)
              try simp only [Act.put, List.setIfInBounds_toArray, List.set_cons_zero, List.set_cons_succ]
              refine wpAnyH_take (i := 9) (oi := ⟨some 164, _, _, _, _, _⟩) (v := ?_) rfl (by kernel_rfl) (by kernel_rfl) (by kernel_rfl) (fun _ _ _ h => h) (Or.inl ⟨by rfl, ?_⟩) hHeld ?_
              rotate_left
              · intro w hSw; (try dsimp only at hSw); go_simp; all_goals (with_reducible rfl)
              try simp only [Act.put, List.setIfInBounds_toArray, List.set_cons_zero, List.set_cons_succ]
              refine wpAnyH_done (by kernel_rfl) ?_ _
              refine NoPanic.normal ?_
              go_wp2_with fail
              go_meet
              exact ⟨rfl, hHeld⟩
            · have ha1 : decide (1 ≤ at_) = false := decide_eq_false ha
              refine wp_region_noPanic ?_
              refine wp_region_held_drew (S := fun wx => Below w8.heap.size w8 wx) (by kernel_rfl) ?_ (fun hHeld => ?_)
              · exact below_drw _
              refine wpAnyH_take (i := 0) (oi := ⟨some 155, _, _, _, _, _⟩) (v := ?_) rfl (by kernel_rfl) (by kernel_rfl) (by kernel_rfl) (fun _ _ _ h => h) (Or.inl ⟨by rfl, ?_⟩) hHeld ?_
              rotate_left
              · intro w hSw; (try dsimp only at hSw); go_simp; all_goals (with_reducible rfl)
              try simp only [Act.put, List.setIfInBounds_toArray, List.set_cons_zero, List.set_cons_succ]
              refine wpAnyH_take (i := 1) (oi := ⟨some 156, _, _, _, _, _⟩) (v := ?_) rfl (by kernel_rfl) (by kernel_rfl) (by kernel_rfl) (fun _ _ _ h => h) (Or.inl ⟨by rfl, ?_⟩) hHeld ?_
              rotate_left
              · intro w hSw; (try dsimp only at hSw); go_simp; all_goals (with_reducible rfl)
              try simp only [Act.put, List.setIfInBounds_toArray, List.set_cons_zero, List.set_cons_succ]
              refine wpAnyH_take (i := 2) (oi := ⟨some 157, _, _, _, _, _⟩) (v := ?_) rfl (by kernel_rfl) (by kernel_rfl) (by kernel_rfl) (fun _ _ _ h => h) (Or.inl ⟨by rfl, ?_⟩) hHeld ?_
              rotate_left
              · intro w hSw; (try dsimp only at hSw); go_simp; all_goals (with_reducible rfl)
              try simp only [Act.put, List.setIfInBounds_toArray, List.set_cons_zero, List.set_cons_succ]
              refine wpAnyH_take (i := 3) (oi := ⟨some 158, _, _, _, _, _⟩) (v := undef) rfl (by kernel_rfl) (by kernel_rfl) (by kernel_rfl) (fun _ _ _ h => h) (Or.inr ⟨by rfl, rfl⟩) hHeld ?_
              try simp only [Act.put, List.setIfInBounds_toArray, List.set_cons_zero, List.set_cons_succ]
              refine wpAnyH_take (i := 4) (oi := ⟨some 159, _, _, _, _, _⟩) (v := undef) rfl (by kernel_rfl) (by kernel_rfl) (by kernel_rfl) (fun _ _ _ h => h) (Or.inr ⟨by rfl, rfl⟩) hHeld ?_
              try simp only [Act.put, List.setIfInBounds_toArray, List.set_cons_zero, List.set_cons_succ]
              refine wpAnyH_take (i := 5) (oi := ⟨some 160, _, _, _, _, _⟩) (v := undef) rfl (by kernel_rfl) (by kernel_rfl) (by kernel_rfl) (fun _ _ _ h => h) (Or.inr ⟨by rfl, rfl⟩) hHeld ?_
              try simp only [Act.put, List.setIfInBounds_toArray, List.set_cons_zero, List.set_cons_succ]
              refine wpAnyH_take (i := 6) (oi := ⟨some 161, _, _, _, _, _⟩) (v := undef) rfl (by kernel_rfl) (by kernel_rfl) (by kernel_rfl) (fun _ _ _ h => h) (Or.inr ⟨by rfl, rfl⟩) hHeld ?_
              try simp only [Act.put, List.setIfInBounds_toArray, List.set_cons_zero, List.set_cons_succ]
              refine wpAnyH_take (i := 7) (oi := ⟨some 162, _, _, _, _, _⟩) (v := undef) rfl (by kernel_rfl) (by kernel_rfl) (by kernel_rfl) (fun _ _ _ h => h) (Or.inr ⟨by rfl, rfl⟩) hHeld ?_
              try simp only [Act.put, List.setIfInBounds_toArray, List.set_cons_zero, List.set_cons_succ]
              refine wpAnyH_take (i := 8) (oi := ⟨some 163, _, _, _, _, _⟩) (v := undef) rfl (by kernel_rfl) (by kernel_rfl) (by kernel_rfl) (fun _ _ _ h => h) (Or.inr ⟨by rfl, rfl⟩) hHeld ?_
              try simp only [Act.put, List.setIfInBounds_toArray, List.set_cons_zero, List.set_cons_succ]
              refine wpAnyH_take (i := 9) (oi := ⟨some 164, _, _, _, _, _⟩) (v := ?_) rfl (by kernel_rfl) (by kernel_rfl) (by kernel_rfl) (fun _ _ _ h => h) (Or.inl ⟨by rfl, ?_⟩) hHeld ?_
              rotate_left
              · intro w hSw; (try dsimp only at hSw); go_simp; all_goals (with_reducible rfl)
              try simp only [Act.put, List.setIfInBounds_toArray, List.set_cons_zero, List.set_cons_succ]
              refine wpAnyH_done (by kernel_rfl) ?_ _
              refine NoPanic.normal ?_
              go_wp2_with fail
              go_meet
              exact ⟨rfl, hHeld⟩
          case rest =>
            obtain ⟨hcv, hB9⟩ := hcut
            subst hcv
            obtain ⟨w9, hw9⟩ : ∃ w9, w9 = wc := ⟨_, rfl⟩
            subst hw9
            clear c0 c1 c2 c3 c4 c5 c6 c7
            have HX9 : Hid (Bx w9 w.heap.size p ov) := HX8.out.below hB9 HXL8.out
            have HXL9 : Hid (w.heap.size < w9.heap.size) := Nat.lt_of_lt_of_le HXL8.out hB9.size
            have HO9 : Hid (Ov w9 ov p.l) := HO8.out.below hB9
            have HB9 : Hid (Below w.heap.size w w9) := below_trans HB4.out (below_trans HBR.out (below_trans HB8.out hB9))
            clear hB9
            obtain ⟨WW, hWW⟩ : ∃ m, m = p.W.toNat := ⟨_, rfl⟩
            have HWW : Hid (WW = p.W.toNat) := hWW
            clear hWW
            obtain ⟨C, hC⟩ : ∃ C, C = w9.heap.size := ⟨_, rfl⟩
            have HC : Hid (C = w9.heap.size) := hC
            have HC0 : Hid (∀ e, S3 w9 C WW n (.int .i64 (-2)) (w9.alloc (.cells #[.int .i64 0, .int .i64 0, .int .i64 0, .int .i64 0] e))) := fun e => by
              refine ⟨0, by omega, rfl, below_alloc _ _, by rw [hC]; simp, ?_⟩
              rw [hC]
              intro j hj
              have h4 : j = 0 ∨ j = 1 ∨ j = 2 ∨ j = 3 := by omega
              rcases h4 with rfl | rfl | rfl | rfl
              all_goals exact ⟨by simp [go_sem, cntK], by simp [go_sem]⟩
            obtain ⟨c0, c1, c2, c3, c4, c5, c6, c7⟩ := HX9.out
            go_wp2_with fail
            rw [← hC]
            clear hC
            go_loopw [14] (fun iv wr => S3 w9 C WW n iv wr) (fun iv _ => (12 - intOf iv).toNat)
            case atStart => exact HC0.out _
            case round =>
              clear c0 c1 c2 c3 c4 c5 c6 c7
              clear HC0
              obtain ⟨a, ha, rfl, hBa, hCa, hAa⟩ := hrel
              have HBA : Hid (Below w9.heap.size w9 wr) := hBa
              have HCA : Hid (C < wr.heap.size) := hCa
              have HAA : Hid (AtF wr C 4 (cntK WW n a)) := hAa
              have HWA : Hid (w9.heap.size ≤ wr.heap.size) := hBa.size
              obtain ⟨c0, c1, c2, c3, c4, c5, c6, c7⟩ := HX9.out.below hBa HXL9.out
              clear hBa hCa hAa
              by_cases hla : a < 14
              · obtain ⟨κ, hκ⟩ : ∃ κ, κ = kd WW n a := ⟨_, rfl⟩
                have HKP : Hid (κ = kd WW n a) := hκ
                have hκ4 : κ < 4 := by rw [hκ]; exact kd_lt _ _ _
                have HKI : Hid (p.kind ((a : Int) - 2) = (κ : Int)) := by rw [hκ, HWW.out, HN.out]; exact kind_kd hp a
                clear hκ
                go_wp2_with fail
                refine (kind_walk _ (HO9.out.below HBA.out)).mono ?_
                rw [HKI.out]
                rintro e wa ⟨rfl, hBx⟩
                clear c0 c1 c2 c3 c4 c5 c6 c7
                have HRX : Hid (Below wr.heap.size wr wa) := hBx
                have HAX : Hid (AtF wa C 4 (cntK WW n a)) := HAA.out.below hBx HCA.out
                clear hBx
                obtain ⟨c, hc⟩ : ∃ c, c = cntK WW n a κ := ⟨_, rfl⟩
                have HCC : Hid (c = cntK WW n a κ) := hc
                have hc14 : c ≤ 14 := by rw [hc]; exact Nat.le_trans (cnt_le _ _ _ _) (by omega)
                have a0 : wa.cell? ⟨C, κ, none⟩ = some (.int .i64 c) := by rw [hc]; exact (HAX.out κ hκ4).1
                have z0 := (HAX.out κ hκ4).2
                clear hc
                have HRI : Hid (S3 w9 C WW n (.int .i64 ((a : Int) - 2 + 1)) (wa.setCell ⟨C, κ, none⟩ (.int .i64 ((c : Int) + 1)))) := by
                  have h6 : Below w9.heap.size w9 wa := HBA.out.trans (HRX.out.mono HWA.out)
                  refine ⟨a + 1, by omega, by simp; omega, h6.setCell (p := ⟨C, κ, none⟩) (by rw [HC.out]; exact Nat.le_refl _) _, ?_, ?_⟩
                  · have h1 := HCA.out
                    have h2 := HRX.out.size
                    simp
                    omega
                  · rw [cnt_step, ← HKP.out, ← HCC.out]
                    exact HAX.out.set (c + 1)
                go_wp2_with fail
                go_roundw
                case rel => exact HRI.out
                case measure => simp [intOf]; omega
              · obtain rfl : a = 14 := by omega
                have hall := cnt_all WW (by rw [HWW.out]; omega) n (by omega) (by rw [HWW.out]; omega) hnp
                have y1 : wr.cell? ⟨C, 1, none⟩ = some (.int .i64 1) := by have h := (HAA.out 1 (by omega)).1; rw [hall.1] at h; exact h
                have y2 : wr.cell? ⟨C, 2, none⟩ = some (.int .i64 p.W) := by have h := (HAA.out 2 (by omega)).1; rw [hall.2.1, HWW.out, show ((p.W.toNat : Nat) : Int) = p.W by omega] at h; exact h
                have y3 : wr.cell? ⟨C, 3, none⟩ = some (.int .i64 p.S) := by have h := (HAA.out 3 (by omega)).1; rw [hall.2.2, HN.out, show ((p.S.toNat : Nat) : Int) = p.S by omega] at h; exact h
                go_wp2_with fail
                go_ret
                exact ⟨by simp, below_trans HB9.out HBA.out⟩


theorem planshares_walk {p : Pn} {ov tv : Value} {t : List Pr} {at_ : Int} {w : World} (ho : Ov w ov p.l) (hq : Qv w tv t) (hat : at_ < 9223372036854775808) (hsz : t.length * 24 ≤ 140737488355328) :
    Calls Try.prog 6 #[.agg #[.int .i64 p.P, .int .i64 p.S, .int .i64 p.W, ov, .int .i64 p.A, .int .i64 p.B, .int .i64 p.N, .int .i64 p.G], tv, .int .i64 at_] w fun e w' => e = .returned (.bool true) ∧ Below w.heap.size w w' := by
  cases hp : p.is
  · exact shares_no hp hat ho hq hsz
  · exact shares_yes hp hat ho hq hsz
end Go.Proofs.Ytlblpjookbomjaa


