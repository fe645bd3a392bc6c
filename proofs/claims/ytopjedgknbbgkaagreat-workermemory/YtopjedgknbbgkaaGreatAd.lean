/- Contracts of the worker's small functions. -/
import Derived.Test.YtopjedgknbbgkaaGreatM17
import Derived.Deep.RegionHeld3
import Derived.Deep.DeepCutAuto
namespace Go.Proofs.YtopjedgknbbgkaaGreat

open Go.RowKit



theorem Wm.ov {w : World} {P b : Nat} {ov : Value} {p : Pn} {nd : Int} {L : List At} (h : Wm w P b ov p nd L) : Ov w ov p.l := own_ovS h.ops h.lok
theorem Wm.nodes {w : World} {P b : Nat} {ov : Value} {p : Pn} {nd : Int} {L : List At} (h : Wm w P b ov p nd L) : p.nodes = 1 + p.W + p.S := by unfold Pn.nodes; rw [h.is]; rfl
set_option maxRecDepth 100000 in
set_option maxHeartbeats 4000000 in
theorem fstore_walk {w : World} {P b : Nat} {ov : Value} {p : Pn} {nd : Int} {L : List At} (hn : Wm w P b ov p nd L) : Calls Tryz.prog 95 #[.pointer (some ⟨P, 0, none⟩)] w fun e w' => e = .returned (.int .i64 (1 + p.W)) ∧ Below w.heap.size w w' := by
  have HN : Hid (Wm w P b ov p nd L) := hn
  have HNO : Hid (p.nodes = 1 + p.W + p.S) := hn.nodes
  obtain ⟨_, ⟨s1, s2⟩, ⟨w1, w2⟩, _⟩ := Pn.is_num hn.is
  obtain ⟨oa, oc, hov⟩ := own_formN hn.ops
  subst hov
  clear hn
  have c0 := fun wx (h : Below w.heap.size w wx) => (HN.out.below h).cells.1
  have c1 := fun wx (h : Below w.heap.size w wx) => (HN.out.below h).cells.2.1
  have c2 := fun wx (h : Below w.heap.size w wx) => (HN.out.below h).cells.2.2.1
  have c3 := fun wx (h : Below w.heap.size w wx) => (HN.out.below h).cells.2.2.2.1
  have c4 := fun wx (h : Below w.heap.size w wx) => (HN.out.below h).cells.2.2.2.2.1
  have c5 := fun wx (h : Below w.heap.size w wx) => (HN.out.below h).cells.2.2.2.2.2.1
  have c6 := fun wx (h : Below w.heap.size w wx) => (HN.out.below h).cells.2.2.2.2.2.2.1
  have c7 := fun wx (h : Below w.heap.size w wx) => (HN.out.below h).cells.2.2.2.2.2.2.2.1
  have c8 := fun wx (h : Below w.heap.size w wx) => (HN.out.below h).cells.2.2.2.2.2.2.2.2.1
  have c9 := fun wx (h : Below w.heap.size w wx) => (HN.out.below h).cells.2.2.2.2.2.2.2.2.2
  go_enter Tryz.func95, Tryz.ntmps95
  go_upto_region 1 with fail
  refine wp_region_noPanic ?_
  refine wp_region_held_drew (S := fun wx => Below w.heap.size w wx) (by kernel_rfl) ?_ (fun hHeld => ?_)
  · exact below_drewN w 1
  refine wpAnyH_take (i := 0) (oi := ⟨some 3, _, _, _, _, _⟩) (v := ?_) rfl (by kernel_rfl) (by kernel_rfl) (by kernel_rfl) (fun _ _ _ h => h) (Or.inl ⟨by rfl, ?_⟩) hHeld ?_
  rotate_left
  · intro w hSw; (try dsimp only at hSw); go_simp; all_goals (with_reducible rfl)
  try simp only [Act.put, List.setIfInBounds_toArray, List.set_cons_zero, List.set_cons_succ]
  refine wpAnyH_take (i := 1) (oi := ⟨some 4, _, _, _, _, _⟩) (v := ?_) rfl (by kernel_rfl) (by kernel_rfl) (by kernel_rfl) (fun _ _ _ h => h) (Or.inl ⟨by rfl, ?_⟩) hHeld ?_
  rotate_left
  · intro w hSw; (try dsimp only at hSw); go_simp; all_goals (with_reducible rfl)
  try simp only [Act.put, List.setIfInBounds_toArray, List.set_cons_zero, List.set_cons_succ]
  refine wpAnyH_take (i := 2) (oi := ⟨some 5, _, _, _, _, _⟩) (v := ?_) rfl (by kernel_rfl) (by kernel_rfl) (by kernel_rfl) (fun _ _ _ h => h) (Or.inl ⟨by rfl, ?_⟩) hHeld ?_
  rotate_left
  · intro w hSw; (try dsimp only at hSw); go_simp; all_goals (with_reducible rfl)
  try simp only [Act.put, List.setIfInBounds_toArray, List.set_cons_zero, List.set_cons_succ]
  refine wpAnyH_take (i := 3) (oi := ⟨some 6, _, _, _, _, _⟩) (v := ?_) rfl (by kernel_rfl) (by kernel_rfl) (by kernel_rfl) (fun _ _ _ h => h) (Or.inl ⟨by rfl, ?_⟩) hHeld ?_
  rotate_left
  · intro w hSw; (try dsimp only at hSw); go_simp; all_goals (with_reducible rfl)
  try simp only [Act.put, List.setIfInBounds_toArray, List.set_cons_zero, List.set_cons_succ]
  refine wpAnyH_take (i := 5) (oi := ⟨some 8, _, _, _, _, _⟩) (v := ?_) rfl (by kernel_rfl) (by kernel_rfl) (by kernel_rfl) (fun _ _ _ h => h) (Or.inl ⟨by rfl, ?_⟩) hHeld ?_
  rotate_left
  · intro w hSw; (try dsimp only at hSw); go_simp; all_goals (with_reducible rfl)
  try simp only [Act.put, List.setIfInBounds_toArray, List.set_cons_zero, List.set_cons_succ]
  refine wpAnyH_take (i := 6) (oi := ⟨some 9, _, _, _, _, _⟩) (v := ?_) rfl (by kernel_rfl) (by kernel_rfl) (by kernel_rfl) (fun _ _ _ h => h) (Or.inl ⟨by rfl, ?_⟩) hHeld ?_
  rotate_left
  · intro w hSw; (try dsimp only at hSw); go_simp; all_goals (with_reducible rfl)
  try simp only [Act.put, List.setIfInBounds_toArray, List.set_cons_zero, List.set_cons_succ]
  refine wpAnyH_take (i := 7) (oi := ⟨some 10, _, _, _, _, _⟩) (v := ?_) rfl (by kernel_rfl) (by kernel_rfl) (by kernel_rfl) (fun _ _ _ h => h) (Or.inl ⟨by rfl, ?_⟩) hHeld ?_
  rotate_left
  · intro w hSw; (try dsimp only at hSw); go_simp; all_goals (with_reducible rfl)
  try simp only [Act.put, List.setIfInBounds_toArray, List.set_cons_zero, List.set_cons_succ]
  refine wpAnyH_take (i := 8) (oi := ⟨some 11, _, _, _, _, _⟩) (v := ?_) rfl (by kernel_rfl) (by kernel_rfl) (by kernel_rfl) (fun _ _ _ h => h) (Or.inl ⟨by rfl, ?_⟩) hHeld ?_
  rotate_left
  · intro w hSw; (try dsimp only at hSw); go_simp; all_goals (with_reducible rfl)
  try simp only [Act.put, List.setIfInBounds_toArray, List.set_cons_zero, List.set_cons_succ]
  refine wpAnyH_take (i := 9) (oi := ⟨some 12, _, _, _, _, _⟩) (v := ?_) rfl (by kernel_rfl) (by kernel_rfl) (by kernel_rfl) (fun _ _ _ h => h) (Or.inl ⟨by rfl, ?_⟩) hHeld ?_
  rotate_left
  · intro w hSw; (try dsimp only at hSw); go_simp; all_goals (with_reducible rfl)
  try simp only [Act.put, List.setIfInBounds_toArray, List.set_cons_zero, List.set_cons_succ]
  refine wpAnyH_ready (rs := [4]) (by kernel_rfl) (by simp) ?_
  refine AllReadyH.cons (o := ⟨some 7, _, _, _, _, _⟩) rfl (fun K hK => ?_) AllReadyH.nil
  go_simp
  refine (nodes_walk (p := p) (HN.out.below (below_drewN w 1)).ov).mono ?_
  rintro e w3 ⟨he, hB⟩
  rw [HNO.out] at he
  subst he
  have HB3 : Hid (Below w.heap.size w w3) := below_trans (below_drewN w 1) hB
  clear hB
  refine hK.out _ _ ?_ (fun hHeld => ?_)
  · exact HB3.out
  clear hK K
  try simp only [Act.put, List.setIfInBounds_toArray, List.set_cons_zero, List.set_cons_succ]
  refine wpAnyH_take (i := 10) (oi := ⟨some 13, _, _, _, _, _⟩) (v := ?_) rfl (by kernel_rfl) (by kernel_rfl) (by kernel_rfl) (fun _ _ _ h => h) (Or.inl ⟨by rfl, ?_⟩) hHeld ?_
  rotate_left
  · intro w hSw; (try dsimp only at hSw); go_simp; all_goals (with_reducible rfl)
  try simp only [Act.put, List.setIfInBounds_toArray, List.set_cons_zero, List.set_cons_succ]
  refine wpAnyH_take (i := 11) (oi := ⟨some 2, _, _, _, _, _⟩) (v := ?_) rfl (by kernel_rfl) (by kernel_rfl) (by kernel_rfl) (fun _ _ _ h => h) (Or.inl ⟨by rfl, ?_⟩) hHeld ?_
  rotate_left
  · intro w hSw; (try dsimp only at hSw); go_simp; all_goals (with_reducible rfl)
  try simp only [Act.put, List.setIfInBounds_toArray, List.set_cons_zero, List.set_cons_succ]
  refine wpAnyH_done (by kernel_rfl) ?_ _
  refine NoPanic.normal ?_
  go_wp2_with fail
  go_ret
  exact ⟨by rw [wrap_small (by omega) (by omega)]; rfl, HB3.out⟩
/-- What find answers. -/
def fndA (L : List At) (m : Ms) : Value := match atK kA L m.B with | some x => if x.h.a = m.A then ptA x else .pointer none | none => .pointer none
set_option maxRecDepth 100000 in
set_option maxHeartbeats 4000000 in
theorem find_walk {w : World} {P b : Nat} {ov : Value} {p : Pn} {nd : Int} {L : List At} {m : Ms} {ea qa pa : Option Addr} {en ec qn qc pn pc : Nat} (hn : Wm w P b ov p nd L) (hk : in64 m.B) : Calls Tryz.prog 74 #[.pointer (some ⟨P, 0, none⟩), .agg #[.int .i64 m.K, .int .i64 m.F, .int .i64 m.T, .int .i64 m.B, .int .i64 m.A, .int .i64 m.C, .slice ea en ec, .slice qa qn qc, .slice pa pn pc]] w fun e w' => e = .returned (fndA L m) ∧ Below w.heap.size w w' := by
  have HN : Hid (Wm w P b ov p nd L) := hn
  have HX0 : Hid _ := mx_new w m (.slice ea en ec) (.slice qa qn qc) (.slice pa pn pc)
  have HB0 : Hid _ := below_alloc w (Obj.cells #[.int .i64 m.K, .int .i64 m.F, .int .i64 m.T, .int .i64 m.B, .int .i64 m.A, .int .i64 m.C, .slice ea en ec, .slice qa qn qc, .slice pa pn pc] 44)
  clear hn
  go_enter Tryz.func74, Tryz.ntmps74
  go_upto_region 1 with fail
  obtain ⟨Q, hQ⟩ : ∃ Q, Q = w.heap.size := ⟨_, rfl⟩
  have HQ : Hid (Q = w.heap.size) := hQ
  rw [← hQ] at HX0 ⊢
  clear hQ
  generalize w.alloc (Obj.cells #[.int .i64 m.K, .int .i64 m.F, .int .i64 m.T, .int .i64 m.B, .int .i64 m.A, .int .i64 m.C, .slice ea en ec, .slice qa qn qc, .slice pa pn pc] 44) = w1 at HX0 HB0 ⊢
  have HN1 : Hid _ := HN.out.below HB0.out
  have p9 := HN1.out.cells.2.2.2.2.2.2.2.2.2
  have hlk : ∀ n, (Instr.lookup 94 (.map (some b)) (.int .i64 m.B) false).run Tryz.prog (w1.drewN n) = .ok (lkA L m.B) (w1.drewN n) := fun n => look_A (own_mapB HN1.out.own (below_drewN w1 n)) hk
  have x3 := HX0.out.c3
  have x4 := HX0.out.c4
  cases hat : atK kA L m.B with
  | none =>
    have e1 : lkA L m.B = .pointer none := by unfold lkA; rw [hat]
    have e2 : fndA L m = .pointer none := by unfold fndA; rw [hat]
    rw [e1] at hlk
    have HE : Hid (fndA L m = .pointer none) := e2
    clear e1 e2
    go_quiet (fail)
    go_upto_region 2 with fail
    go_quiet (fail)
    go_wp2_with fail
    go_ret
    exact ⟨by rw [HE.out]; rfl, below_trans HB0.out (below_trans (below_drewN _ _) (below_drewN _ _))⟩
  | some x =>
    have e1 : lkA L m.B = .pointer (some ⟨x.x, 0, none⟩) := by unfold lkA; rw [hat]; rfl
    have hx := HN1.out.ent x (atK_mem hat).1
    have a0 := hx.cells.1
    rw [e1] at hlk
    clear e1
    by_cases hA : x.h.a = m.A
    · have e2 : fndA L m = .pointer (some ⟨x.x, 0, none⟩) := by unfold fndA; rw [hat]; simp only; rw [if_pos hA]; rfl
      have HE : Hid (fndA L m = .pointer (some ⟨x.x, 0, none⟩)) := e2
      rw [hA] at a0
      clear e2 hx
      go_quiet (fail)
      go_upto_region 2 with fail
      go_quiet (fail)
      go_wp2_with fail
      go_ret
      exact ⟨by rw [HE.out]; rfl, below_trans HB0.out (below_trans (below_drewN _ _) (below_drewN _ _))⟩
    · have e2 : fndA L m = .pointer none := by unfold fndA; rw [hat]; simp only; rw [if_neg hA]
      have HE : Hid (fndA L m = .pointer none) := e2
      clear e2 hx
      go_quiet (fail)
      go_upto_region 2 with fail
      go_quiet (fail)
      go_wp2_with fail
      go_ret
      exact ⟨by rw [HE.out]; rfl, below_trans HB0.out (below_trans (below_drewN _ _) (below_drewN _ _))⟩
end Go.Proofs.YtopjedgknbbgkaaGreat
