/- PlanMemory: the walk. -/
import Derived.Test.YtlblpjookbomjaaOn

import Derived.Deep.DeepCutAuto

namespace Go.Proofs.Ytlblpjookbomjaa

open Go.RowKit



set_option maxRecDepth 100000 in
set_option maxHeartbeats 4000000 in
theorem mem_no {p : Pn} {ov tv : Value} {t : List Pr} {w : World} (hn0 : p.n = 0) (ho : Ov w ov p.l) (hq : Qv w tv t) (hsz : t.length * 24 ≤ 140737488351232) :
    Calls Try.prog 7 #[.agg #[.int .i64 p.P, .int .i64 p.S, .int .i64 p.W, ov, .int .i64 p.A, .int .i64 p.B, .int .i64 p.N, .int .i64 p.G], tv] w fun e w' => e = .returned (.bool true) ∧ Below w.heap.size w w' := by
  have HN0 : Hid (p.n = 0) := hn0
  clear hn0
  have HO : Hid (Ov w ov p.l) := ho
  have HQ : Hid (Qv w tv t) := hq
  have HOK : Hid (okT t) := hq.2
  have HSZ : Hid (t.length * 24 ≤ 140737488351232) := hsz
  obtain ⟨ta, tc, rfl, hl, hql⟩ := hq.form
  have hli : (t.length : Int) ≤ 5864062014634 := by omega
  obtain ⟨c, hc⟩ : ∃ c, c = t.length + 2 := ⟨_, rfl⟩
  have HC : Hid (c = t.length + 2) := hc
  have hmk : ∀ wx : World, (Instr.makeSlice 34 (.int .i64 0) (.int .i64 ((t.length : Int) + 2))).run Try.prog wx = .ok (.slice (some ⟨wx.heap.size, 0, none⟩) 0 c) (wx.alloc (.cells (madeCells #[.int .u64 0, .bool false, .int .u64 0] (c * 3)) 43)) := fun wx => by
    obtain ⟨i0, hi0, hz0, hz1, hz2⟩ := info_partsQ info_pair
    have := run_make (P := Try.prog) wx 34 43 i0 (.agg #[.int .u64 0, .bool false, .int .u64 0]) Try.underlying34 hi0 hz0 .i64 .i64 0 ((t.length : Int) + 2) (by omega) (by omega) (by rw [hz2]; omega) (by omega)
    rw [hz1, show ((t.length : Int) + 2).toNat = c by omega] at this
    exact this
  obtain ⟨Z, hZ⟩ : ∃ Z, Z = madeCells #[Value.int .u64 0, .bool false, .int .u64 0] (c * 3) := ⟨_, rfl⟩
  rw [← hZ] at hmk
  have HZ : Hid (Z = madeCells #[Value.int .u64 0, .bool false, .int .u64 0] (c * 3)) := hZ
  obtain ⟨i0, hi0, hz0, hz1, hz2⟩ := info_partsQ info_pair
  have HI0 : Hid (Try.prog.info? 43 = some i0) := hi0
  have HI1 : Hid (i0.size = 3) := hz1
  have hcl : t.length ≤ c := by omega
  have hc0 : ¬ c = 0 := by omega
  have HCM : Hid (c ≤ maxLen) := by show _ ≤ _; simp only [maxLen]; omega
  clear hi0 hz0 hz1 hz2 hZ ho hq hsz hl hql hc
  go_enter Try.func7, Try.ntmps7
  go_wp2_with fail
  refine (awake_walk _).mono ?_
  rintro e w1 ⟨rfl, hB1⟩
  have HB1 : Hid (Below w.heap.size w w1) := below_trans (below_alloc _ _) hB1
  have HXB : Hid (Bx w1 w.heap.size p ov) := box_then hB1
  have HXL : Hid (w.heap.size < w1.heap.size) := box_lt hB1
  clear hB1
  have HOM : Hid ((w1.alloc (.cells Z 43)).ownsRow w1.heap.size 43 3 (.slice (some ⟨w1.heap.size, 0, none⟩) 0 c) 0 (flatQ [])) := by
    rw [HZ.out]
    exact ⟨by simp [flatQ], .inr ⟨_, c, _, rfl, Nat.le_refl _, heap_alloc_new w1 _, Nat.zero_le _, HCM.out, by rw [size_madeCells], by simp [flatQ]⟩⟩
  go_upto_region 6 with (at_builtin; refine wpList_append_qv (by rfl) (.tmp 22) (.tmp 23) 34 (by rfl) w1.heap.size 43 i0 Try.underlying34 HI0.out HI1.out w1.heap.size 0 c [] (by rfl) HOM.out _ t (by rfl) ((HQ.out.below HB1.out).below (below_alloc _ _)) (by omega) ?_; intro w2 hown2 hg2)
  simp only [Nat.zero_add, List.nil_append] at hown2 ⊢
  obtain ⟨M, hM⟩ : ∃ M, M = w1.heap.size := ⟨_, rfl⟩
  have HM : Hid (M = w1.heap.size) := hM
  have HB2 : Hid (Below w1.heap.size w1 w2) := by
    have h8 : Below w1.heap.size w1 (w1.alloc (.cells Z 43)) := below_alloc _ _
    exact h8.grown hg2 h8.size (fun x hx => by cases hx; exact Nat.le_refl _)
  have HO2 : Hid (w2.ownsRow w1.heap.size 43 3 (.slice (some ⟨M, 0, none⟩) t.length c) t.length (flatQ t)) := by rw [hM]; exact hown2
  rw [← hM]
  clear hown2 hg2 hM hmk HOM
  go_upto_region 7 with (at_builtin; refine wpList_append_qv (by rfl) (.tmp 25) (.tmp 28) 34 (by rfl) w1.heap.size 43 i0 Try.underlying34 HI0.out HI1.out M t.length c t (by rfl) (HO2.out.alloc _) _ [kv 71, kv 72] (by rfl) (qv_lit w2 43 [kv 71, kv 72] (by simp) (two_ok (by omega) (by omega))) (by have := HC.out; simp; omega) ?_; intro w3 hown3 hg3)
  simp only [List.length_cons, List.length_nil, Nat.zero_add, Nat.reduceAdd] at hown3 ⊢
  have HB3 : Hid (Below w1.heap.size w1 w3) := by
    have h8 : Below w1.heap.size w1 (w2.alloc (.cells (flatQ [kv 71, kv 72]).toArray 43)) := HB2.out.trans ((below_alloc _ _).mono HB2.out.size)
    exact h8.grown hg3 h8.size (fun x hx => by cases hx; rw [HM.out]; exact Nat.le_refl _)
  have HMQ : Hid (Mq w3 M (t ++ [kv 71, kv 72])) := own_mq hown3
  have HML : Hid (M < w3.heap.size) := (hown3.lt M rfl).2
  have HQM : Hid (Qv w3 (.slice (some ⟨M, 0, none⟩) t.length c) t) := by
    have h := mq_qv (cap := c) (n := t.length) HMQ.out (by simp) (by have := HC.out; simp; omega) HCM.out (by
      intro o ho
      rcases List.mem_append.1 ho with h | h
      · exact HOK.out o h
      · exact two_ok (by omega) (by omega) o h)
    rw [List.take_left'] at h
    · exact h
    · rfl
  have HBW3 : Hid (Below w.heap.size w w3) := HB1.out.trans (HB3.out.mono HB1.out.size)
  have HX3 : Hid (Bx w3 w.heap.size p ov) := HXB.out.below HB3.out HXL.out
  have HXL3 : Hid (w.heap.size < w3.heap.size) := Nat.lt_of_lt_of_le HXL.out HB3.out.size
  have HQ3 : Hid (Qv w3 (.slice ta t.length tc) t) := HQ.out.below HBW3.out
  have HO3 : Hid (Ov w3 ov p.l) := HO.out.below HBW3.out
  have HSZ2 : Hid (t.length * 24 ≤ 140737488355328) := by have := HSZ.out; show _ ≤ _; omega
  rw [← HC.out]
  clear hown3 hg3 HB2 HO2 HB1 HXB HXL HI0 HI1 HZ
  have HX := HX3.out.all HXL3.out
  have c0 := fun wx h => (HX wx h).c0
  have c1 := fun wx h => (HX wx h).c1
  have c2 := fun wx h => (HX wx h).c2
  have c3 := fun wx h => (HX wx h).c3
  have c4 := fun wx h => (HX wx h).c4
  have c5 := fun wx h => (HX wx h).c5
  have c6 := fun wx h => (HX wx h).c6
  have c7 := fun wx h => (HX wx h).c7
  clear HX
  go_wp2_with fail
  refine wp_region_noPanic ?_
  refine wp_region_held_drew (S := fun wx => Below w3.heap.size w3 wx) (by kernel_rfl) ?_ (fun hHeld => ?_)
  · exact below_drw _
  refine wpAnyH_take (i := 0) (oi := ⟨some 30, _, _, _, _, _⟩) (v := ?_) rfl (by kernel_rfl) (by kernel_rfl) (by kernel_rfl) (fun _ _ _ h => h) (Or.inl ⟨by rfl, ?_⟩) hHeld ?_
  rotate_left
  · intro w hSw; (try dsimp only at hSw); go_simp; all_goals (with_reducible rfl)
  try simp only [Act.put, List.setIfInBounds_toArray, List.set_cons_zero, List.set_cons_succ]
  refine wpAnyH_take (i := 1) (oi := ⟨some 31, _, _, _, _, _⟩) (v := ?_) rfl (by kernel_rfl) (by kernel_rfl) (by kernel_rfl) (fun _ _ _ h => h) (Or.inl ⟨by rfl, ?_⟩) hHeld ?_
  rotate_left
  · intro w hSw; (try dsimp only at hSw); go_simp; all_goals (with_reducible rfl)
  try simp only [Act.put, List.setIfInBounds_toArray, List.set_cons_zero, List.set_cons_succ]
  refine wpAnyH_take (i := 2) (oi := ⟨some 32, _, _, _, _, _⟩) (v := ?_) rfl (by kernel_rfl) (by kernel_rfl) (by kernel_rfl) (fun _ _ _ h => h) (Or.inl ⟨by rfl, ?_⟩) hHeld ?_
  rotate_left
  · intro w hSw; (try dsimp only at hSw); go_simp; all_goals (with_reducible rfl)
  try simp only [Act.put, List.setIfInBounds_toArray, List.set_cons_zero, List.set_cons_succ]
  refine wpAnyH_take (i := 3) (oi := ⟨some 33, _, _, _, _, _⟩) (v := ?_) rfl (by kernel_rfl) (by kernel_rfl) (by kernel_rfl) (fun _ _ _ h => h) (Or.inl ⟨by rfl, ?_⟩) hHeld ?_
  rotate_left
  · intro w hSw; (try dsimp only at hSw); go_simp; all_goals (with_reducible rfl)
  try simp only [Act.put, List.setIfInBounds_toArray, List.set_cons_zero, List.set_cons_succ]
  refine wpAnyH_ready (rs := [4]) (by kernel_rfl) (by simp) ?_
  refine AllReadyH.cons (o := ⟨some 34, _, _, _, _, _⟩) rfl (fun K hK => ?_) AllReadyH.nil
  go_simp
  refine (deal_walk (HO3.out.below hHeld) (HQM.out.below hHeld) HSZ2.out).mono ?_
  rintro e w4 ⟨va, rfl, ⟨vs, hDA, hNA⟩, hB4⟩
  obtain ⟨ao, ac, hva, _, _⟩ := row_form hDA.row
  subst hva
  have HDA : Hid (Dl w3.heap.size w4 (.slice ao p.n ac) p.n vs (dealF p t)) := hDA
  have HNA : Hid (Ne p.n vs) := hNA
  clear hDA hNA
  refine hK.out _ _ ?_ (fun hHeld => ?_)
  · exact below_trans hHeld hB4
  clear hK K
  try simp only [Act.put, List.setIfInBounds_toArray, List.set_cons_zero, List.set_cons_succ]
  refine wpAnyH_take (i := 5) (oi := ⟨some 7, _, _, _, _, _⟩) (v := ?_) rfl (by kernel_rfl) (by kernel_rfl) (by kernel_rfl) (fun _ _ _ h => h) (Or.inl ⟨by rfl, ?_⟩) hHeld ?_
  rotate_left
  · intro w hSw; (try dsimp only at hSw); go_simp; all_goals (with_reducible rfl)
  try simp only [Act.put, List.setIfInBounds_toArray, List.set_cons_zero, List.set_cons_succ]
  refine wpAnyH_done (by kernel_rfl) ?_ _
  refine NoPanic.normal ?_
  have HB4 : Hid (Below w3.heap.size w3 w4) := hHeld
  have HX4 : Hid (Bx w4 w.heap.size p ov) := HX3.out.below hHeld HXL3.out
  have HXL4 : Hid (w.heap.size < w4.heap.size) := Nat.lt_of_lt_of_le HXL3.out HB4.out.size
  clear hHeld hB4
  clear c0 c1 c2 c3 c4 c5 c6 c7
  have HX := HX4.out.all HXL4.out
  have c0 := fun wx h => (HX wx h).c0
  have c1 := fun wx h => (HX wx h).c1
  have c2 := fun wx h => (HX wx h).c2
  have c3 := fun wx h => (HX wx h).c3
  have c4 := fun wx h => (HX wx h).c4
  have c5 := fun wx h => (HX wx h).c5
  have c6 := fun wx h => (HX wx h).c6
  have c7 := fun wx h => (HX wx h).c7
  clear HX
  go_wp2_with fail
  refine wp_region_noPanic ?_
  refine wp_region_held_drew (S := fun wx => Below w4.heap.size w4 wx) (by kernel_rfl) ?_ (fun hHeld => ?_)
  · exact below_drw _
  refine wpAnyH_take (i := 0) (oi := ⟨some 35, _, _, _, _, _⟩) (v := ?_) rfl (by kernel_rfl) (by kernel_rfl) (by kernel_rfl) (fun _ _ _ h => h) (Or.inl ⟨by rfl, ?_⟩) hHeld ?_
  rotate_left
  · intro w hSw; (try dsimp only at hSw); go_simp; all_goals (with_reducible rfl)
  try simp only [Act.put, List.setIfInBounds_toArray, List.set_cons_zero, List.set_cons_succ]
  refine wpAnyH_take (i := 1) (oi := ⟨some 36, _, _, _, _, _⟩) (v := ?_) rfl (by kernel_rfl) (by kernel_rfl) (by kernel_rfl) (fun _ _ _ h => h) (Or.inl ⟨by rfl, ?_⟩) hHeld ?_
  rotate_left
  · intro w hSw; (try dsimp only at hSw); go_simp; all_goals (with_reducible rfl)
  try simp only [Act.put, List.setIfInBounds_toArray, List.set_cons_zero, List.set_cons_succ]
  refine wpAnyH_take (i := 2) (oi := ⟨some 37, _, _, _, _, _⟩) (v := ?_) rfl (by kernel_rfl) (by kernel_rfl) (by kernel_rfl) (fun _ _ _ h => h) (Or.inl ⟨by rfl, ?_⟩) hHeld ?_
  rotate_left
  · intro w hSw; (try dsimp only at hSw); go_simp; all_goals (with_reducible rfl)
  try simp only [Act.put, List.setIfInBounds_toArray, List.set_cons_zero, List.set_cons_succ]
  refine wpAnyH_take (i := 3) (oi := ⟨some 38, _, _, _, _, _⟩) (v := ?_) rfl (by kernel_rfl) (by kernel_rfl) (by kernel_rfl) (fun _ _ _ h => h) (Or.inl ⟨by rfl, ?_⟩) hHeld ?_
  rotate_left
  · intro w hSw; (try dsimp only at hSw); go_simp; all_goals (with_reducible rfl)
  try simp only [Act.put, List.setIfInBounds_toArray, List.set_cons_zero, List.set_cons_succ]
  refine wpAnyH_ready (rs := [4]) (by kernel_rfl) (by simp) ?_
  refine AllReadyH.cons (o := ⟨some 39, _, _, _, _, _⟩) rfl (fun K hK => ?_) AllReadyH.nil
  go_simp
  refine (deal_walk ((HO3.out.below HB4.out).below hHeld) ((HQM.out.below HB4.out).below hHeld) HSZ2.out).mono ?_
  rintro e w5 ⟨vb, rfl, ⟨vsb, hDB, hNB⟩, hB5⟩
  obtain ⟨bo, bc, hvb, _, _⟩ := row_form hDB.row
  subst hvb
  have HDB5 : Hid (Dl w4.heap.size w5 (.slice bo p.n bc) p.n vsb (dealF p t)) := hDB
  clear hDB hNB
  refine hK.out _ _ ?_ (fun hHeld => ?_)
  · exact below_trans hHeld hB5
  clear hK K
  try simp only [Act.put, List.setIfInBounds_toArray, List.set_cons_zero, List.set_cons_succ]
  refine wpAnyH_take (i := 5) (oi := ⟨some 8, _, _, _, _, _⟩) (v := ?_) rfl (by kernel_rfl) (by kernel_rfl) (by kernel_rfl) (fun _ _ _ h => h) (Or.inl ⟨by rfl, ?_⟩) hHeld ?_
  rotate_left
  · intro w hSw; (try dsimp only at hSw); go_simp; all_goals (with_reducible rfl)
  try simp only [Act.put, List.setIfInBounds_toArray, List.set_cons_zero, List.set_cons_succ]
  refine wpAnyH_done (by kernel_rfl) ?_ _
  refine NoPanic.normal ?_
  have HB5 : Hid (Below w4.heap.size w4 w5) := hHeld
  clear hHeld hB5
  clear c0 c1 c2 c3 c4 c5 c6 c7
  go_wp2_with fail
  refine (lists_walk ((HDA.out.below HB5.out).lq (fun i _ => deal_ok HOK.out i)) (HDB5.out.lq (fun i _ => deal_ok HOK.out i))).mono ?_
  rintro e w6 ⟨rfl, hB6⟩
  have HB6 : Hid (Below w4.heap.size w4 w6) := HB5.out.trans (hB6.mono HB5.out.size)
  have HDB6 : Hid (Dl w4.heap.size w6 (.slice bo p.n bc) p.n vsb (dealF p t)) := HDB5.out.below hB6
  clear hB6 HDB5 HB5
  go_wp2_with fail
  refine (samev_walk ((HQM.out.below HB4.out).below HB6.out) ((HQ3.out.below HB4.out).below HB6.out)).mono ?_
  rintro e w7 ⟨rfl, hB7⟩
  have HB7 : Hid (Below w4.heap.size w4 w7) := HB6.out.trans (hB7.mono HB6.out.size)
  have HDB : Hid (Dl w4.heap.size w7 (.slice bo p.n bc) p.n vsb (dealF p t)) := HDB6.out.below hB7
  have HDA7 : Hid (Dl w3.heap.size w7 (.slice ao p.n ac) p.n vs (dealF p t)) := HDA.out.below HB7.out
  have HB37 : Hid (Below w3.heap.size w3 w7) := HB4.out.trans (HB7.out.mono HB4.out.size)
  clear hB7 HB6 HDB6
  have hm1 := (HMQ.out.below HB37.out HML.out t.length (by simp)).1
  have hm2 := (HMQ.out.below HB37.out HML.out (t.length + 1) (by simp)).1
  rw [List.getElem_append_right (by omega)] at hm1 hm2
  simp only [Nat.sub_self, List.getElem_cons_zero, Nat.add_sub_cancel_left, List.getElem_cons_succ] at hm1 hm2
  obtain ⟨m0, m1, m2⟩ := hm1
  obtain ⟨m3, m4, m5⟩ := hm2
  dsimp only [kv] at m0 m1 m2 m3 m4 m5
  have q71 : ∀ wx : World, (binOp .neq 43 (.agg #[.int .u64 71, .bool false, .int .u64 0]) (.agg #[.int .u64 71, .bool false, .int .u64 0])).run Try.prog wx = .ok (.bool false) wx := neq_pair (kv 71)
  have q72 : ∀ wx : World, (binOp .neq 43 (.agg #[.int .u64 72, .bool false, .int .u64 0]) (.agg #[.int .u64 72, .bool false, .int .u64 0])).run Try.prog wx = .ok (.bool false) wx := neq_pair (kv 72)
  have hgd := guard_pair
  have hcl1 : t.length < c := by have := HC.out; omega
  have hcl2 : t.length + 1 < c := by have := HC.out; omega
  have h00 : ¬ (0 : Int) < (p.n : Int) := by have := HN0.out; omega
  go_wp2_with fail
  go_loopw [9] (fun iv wr => iv = .int .i64 0 ∧ wr = w7) (fun _ _ => 0)
  case atStart => exact ⟨rfl, rfl⟩
  case round =>
    obtain ⟨rfl, hwr⟩ := hrel
    replace hwr := hwr.symm
    subst hwr
    go_wp2_with fail
    go_loopw [11] (fun iv wr => iv = .int .i64 0 ∧ wr = w7) (fun _ _ => 0)
    case atStart => exact ⟨rfl, rfl⟩
    case round =>
      obtain ⟨rfl, hwr⟩ := hrel
      replace hwr := hwr.symm
      subst hwr
      go_wp2_with fail
      go_loopw [13] (fun iv wr => iv = .int .i64 0 ∧ wr = w7) (fun _ _ => 0)
      case atStart => exact ⟨rfl, rfl⟩
      case round =>
        obtain ⟨rfl, hwr⟩ := hrel
        replace hwr := hwr.symm
        subst hwr
        have HBF : Hid (Below w3.heap.size w3 w7) := HB37.out
        have HDF : Hid (Dl w4.heap.size w7 (.slice bo p.n bc) p.n vsb (dealF p t)) := HDB.out
        have HXF : Hid (Bx w7 w.heap.size p ov) := HX3.out.below HBF.out HXL3.out
        obtain ⟨c0, c1, c2, c3, c4, c5, c6, c7⟩ := HXF.out
        go_wp2_with fail
        refine (deal_walk (HO3.out.below HBF.out) (HQ3.out.below HBF.out) HSZ2.out).mono ?_
        rintro e wy ⟨ve, rfl, ⟨vse, hDE, _⟩, hBY⟩
        have HBY : Hid (Below w3.heap.size w3 wy) := HBF.out.trans (hBY.mono HBF.out.size)
        have HLE : Hid (Lq wy ve p.n (dealF p t)) := hDE.lq (fun i _ => deal_ok HOK.out i)
        obtain ⟨eo, ec, hve, _, _⟩ := row_form hDE.row
        subst hve
        have HLB : Hid (Lq wy (.slice bo p.n bc) p.n (dealF p t)) := (HDF.out.below hBY).lq (fun i _ => deal_ok HOK.out i)
        clear hDE hBY c0 c1 c2 c3 c4 c5 c6 c7
        go_wp2_with fail
        refine (lists_walk HLB.out HLE.out).mono ?_
        rintro e wz ⟨rfl, hBZ⟩
        have HBZ : Hid (Below w3.heap.size w3 wz) := HBY.out.trans (hBZ.mono HBY.out.size)
        clear hBZ
        go_wp2_with fail
        refine (samev_walk (HQM.out.below HBZ.out) (HQ3.out.below HBZ.out)).mono ?_
        rintro e wv ⟨rfl, hBV⟩
        go_wp2_with fail
        go_ret
        exact ⟨rfl, HBW3.out.trans ((HBZ.out.trans (hBV.mono HBZ.out.size)).mono HBW3.out.size)⟩




set_option maxRecDepth 100000 in
set_option maxHeartbeats 8000000 in
theorem mem_yes {p : Pn} {ov tv : Value} {t : List Pr} {w : World} (hn1 : 1 ≤ p.n) (hn4 : p.n ≤ 4) (ho : Ov w ov p.l) (hq : Qv w tv t) (hsz : t.length * 24 ≤ 140737488351232) :
    Calls Try.prog 7 #[.agg #[.int .i64 p.P, .int .i64 p.S, .int .i64 p.W, ov, .int .i64 p.A, .int .i64 p.B, .int .i64 p.N, .int .i64 p.G], tv] w fun e w' => e = .returned (.bool true) ∧ Below w.heap.size w w' := by
  have HN1 : Hid (1 ≤ p.n) := hn1
  have HN4 : Hid (p.n ≤ 4) := hn4
  clear hn1 hn4
  have HO : Hid (Ov w ov p.l) := ho
  have HQ : Hid (Qv w tv t) := hq
  have HOK : Hid (okT t) := hq.2
  have HSZ : Hid (t.length * 24 ≤ 140737488351232) := hsz
  obtain ⟨ta, tc, rfl, hl, hql⟩ := hq.form
  have hli : (t.length : Int) ≤ 5864062014634 := by omega
  obtain ⟨c, hc⟩ : ∃ c, c = t.length + 2 := ⟨_, rfl⟩
  have HC : Hid (c = t.length + 2) := hc
  have hmk : ∀ wx : World, (Instr.makeSlice 34 (.int .i64 0) (.int .i64 ((t.length : Int) + 2))).run Try.prog wx = .ok (.slice (some ⟨wx.heap.size, 0, none⟩) 0 c) (wx.alloc (.cells (madeCells #[.int .u64 0, .bool false, .int .u64 0] (c * 3)) 43)) := fun wx => by
    obtain ⟨i0, hi0, hz0, hz1, hz2⟩ := info_partsQ info_pair
    have := run_make (P := Try.prog) wx 34 43 i0 (.agg #[.int .u64 0, .bool false, .int .u64 0]) Try.underlying34 hi0 hz0 .i64 .i64 0 ((t.length : Int) + 2) (by omega) (by omega) (by rw [hz2]; omega) (by omega)
    rw [hz1, show ((t.length : Int) + 2).toNat = c by omega] at this
    exact this
  obtain ⟨Z, hZ⟩ : ∃ Z, Z = madeCells #[Value.int .u64 0, .bool false, .int .u64 0] (c * 3) := ⟨_, rfl⟩
  rw [← hZ] at hmk
  have HZ : Hid (Z = madeCells #[Value.int .u64 0, .bool false, .int .u64 0] (c * 3)) := hZ
  obtain ⟨i0, hi0, hz0, hz1, hz2⟩ := info_partsQ info_pair
  have HI0 : Hid (Try.prog.info? 43 = some i0) := hi0
  have HI1 : Hid (i0.size = 3) := hz1
  have hcl : t.length ≤ c := by omega
  have hc0 : ¬ c = 0 := by omega
  have HCM : Hid (c ≤ maxLen) := by show _ ≤ _; simp only [maxLen]; omega
  clear hi0 hz0 hz1 hz2 hZ ho hq hsz hl hql hc
  go_enter Try.func7, Try.ntmps7
  go_wp2_with fail
  refine (awake_walk _).mono ?_
  rintro e w1 ⟨rfl, hB1⟩
  have HB1 : Hid (Below w.heap.size w w1) := below_trans (below_alloc _ _) hB1
  have HXB : Hid (Bx w1 w.heap.size p ov) := box_then hB1
  have HXL : Hid (w.heap.size < w1.heap.size) := box_lt hB1
  clear hB1
  have HOM : Hid ((w1.alloc (.cells Z 43)).ownsRow w1.heap.size 43 3 (.slice (some ⟨w1.heap.size, 0, none⟩) 0 c) 0 (flatQ [])) := by
    rw [HZ.out]
    exact ⟨by simp [flatQ], .inr ⟨_, c, _, rfl, Nat.le_refl _, heap_alloc_new w1 _, Nat.zero_le _, HCM.out, by rw [size_madeCells], by simp [flatQ]⟩⟩
  go_upto_region 6 with (at_builtin; refine wpList_append_qv (by rfl) (.tmp 22) (.tmp 23) 34 (by rfl) w1.heap.size 43 i0 Try.underlying34 HI0.out HI1.out w1.heap.size 0 c [] (by rfl) HOM.out _ t (by rfl) ((HQ.out.below HB1.out).below (below_alloc _ _)) (by omega) ?_; intro w2 hown2 hg2)
  simp only [Nat.zero_add, List.nil_append] at hown2 ⊢
  obtain ⟨M, hM⟩ : ∃ M, M = w1.heap.size := ⟨_, rfl⟩
  have HM : Hid (M = w1.heap.size) := hM
  have HB2 : Hid (Below w1.heap.size w1 w2) := by
    have h8 : Below w1.heap.size w1 (w1.alloc (.cells Z 43)) := below_alloc _ _
    exact h8.grown hg2 h8.size (fun x hx => by cases hx; exact Nat.le_refl _)
  have HO2 : Hid (w2.ownsRow w1.heap.size 43 3 (.slice (some ⟨M, 0, none⟩) t.length c) t.length (flatQ t)) := by rw [hM]; exact hown2
  rw [← hM]
  clear hown2 hg2 hM hmk HOM
  go_upto_region 7 with (at_builtin; refine wpList_append_qv (by rfl) (.tmp 25) (.tmp 28) 34 (by rfl) w1.heap.size 43 i0 Try.underlying34 HI0.out HI1.out M t.length c t (by rfl) (HO2.out.alloc _) _ [kv 71, kv 72] (by rfl) (qv_lit w2 43 [kv 71, kv 72] (by simp) (two_ok (by omega) (by omega))) (by have := HC.out; simp; omega) ?_; intro w3 hown3 hg3)
  simp only [List.length_cons, List.length_nil, Nat.zero_add, Nat.reduceAdd] at hown3 ⊢
  have HB3 : Hid (Below w1.heap.size w1 w3) := by
    have h8 : Below w1.heap.size w1 (w2.alloc (.cells (flatQ [kv 71, kv 72]).toArray 43)) := HB2.out.trans ((below_alloc _ _).mono HB2.out.size)
    exact h8.grown hg3 h8.size (fun x hx => by cases hx; rw [HM.out]; exact Nat.le_refl _)
  have HMQ : Hid (Mq w3 M (t ++ [kv 71, kv 72])) := own_mq hown3
  have HML : Hid (M < w3.heap.size) := (hown3.lt M rfl).2
  have HQM : Hid (Qv w3 (.slice (some ⟨M, 0, none⟩) t.length c) t) := by
    have h := mq_qv (cap := c) (n := t.length) HMQ.out (by simp) (by have := HC.out; simp; omega) HCM.out (by
      intro o ho
      rcases List.mem_append.1 ho with h | h
      · exact HOK.out o h
      · exact two_ok (by omega) (by omega) o h)
    rw [List.take_left'] at h
    · exact h
    · rfl
  have HBW3 : Hid (Below w.heap.size w w3) := HB1.out.trans (HB3.out.mono HB1.out.size)
  have HX3 : Hid (Bx w3 w.heap.size p ov) := HXB.out.below HB3.out HXL.out
  have HXL3 : Hid (w.heap.size < w3.heap.size) := Nat.lt_of_lt_of_le HXL.out HB3.out.size
  have HQ3 : Hid (Qv w3 (.slice ta t.length tc) t) := HQ.out.below HBW3.out
  have HO3 : Hid (Ov w3 ov p.l) := HO.out.below HBW3.out
  have HSZ2 : Hid (t.length * 24 ≤ 140737488355328) := by have := HSZ.out; show _ ≤ _; omega
  rw [← HC.out]
  clear hown3 hg3 HB2 HO2 HB1 HXB HXL HI0 HI1 HZ
  have HX := HX3.out.all HXL3.out
  have c0 := fun wx h => (HX wx h).c0
  have c1 := fun wx h => (HX wx h).c1
  have c2 := fun wx h => (HX wx h).c2
  have c3 := fun wx h => (HX wx h).c3
  have c4 := fun wx h => (HX wx h).c4
  have c5 := fun wx h => (HX wx h).c5
  have c6 := fun wx h => (HX wx h).c6
  have c7 := fun wx h => (HX wx h).c7
  clear HX
  go_wp2_with fail
  refine wp_region_noPanic ?_
  refine wp_region_held_drew (S := fun wx => Below w3.heap.size w3 wx) (by kernel_rfl) ?_ (fun hHeld => ?_)
  · exact below_drw _
  refine wpAnyH_take (i := 0) (oi := ⟨some 30, _, _, _, _, _⟩) (v := ?_) rfl (by kernel_rfl) (by kernel_rfl) (by kernel_rfl) (fun _ _ _ h => h) (Or.inl ⟨by rfl, ?_⟩) hHeld ?_
  rotate_left
  · intro w hSw; (try dsimp only at hSw); go_simp; all_goals (with_reducible rfl)
  try simp only [Act.put, List.setIfInBounds_toArray, List.set_cons_zero, List.set_cons_succ]
  refine wpAnyH_take (i := 1) (oi := ⟨some 31, _, _, _, _, _⟩) (v := ?_) rfl (by kernel_rfl) (by kernel_rfl) (by kernel_rfl) (fun _ _ _ h => h) (Or.inl ⟨by rfl, ?_⟩) hHeld ?_
  rotate_left
  · intro w hSw; (try dsimp only at hSw); go_simp; all_goals (with_reducible rfl)
  try simp only [Act.put, List.setIfInBounds_toArray, List.set_cons_zero, List.set_cons_succ]
  refine wpAnyH_take (i := 2) (oi := ⟨some 32, _, _, _, _, _⟩) (v := ?_) rfl (by kernel_rfl) (by kernel_rfl) (by kernel_rfl) (fun _ _ _ h => h) (Or.inl ⟨by rfl, ?_⟩) hHeld ?_
  rotate_left
  · intro w hSw; (try dsimp only at hSw); go_simp; all_goals (with_reducible rfl)
  try simp only [Act.put, List.setIfInBounds_toArray, List.set_cons_zero, List.set_cons_succ]
  refine wpAnyH_take (i := 3) (oi := ⟨some 33, _, _, _, _, _⟩) (v := ?_) rfl (by kernel_rfl) (by kernel_rfl) (by kernel_rfl) (fun _ _ _ h => h) (Or.inl ⟨by rfl, ?_⟩) hHeld ?_
  rotate_left
  · intro w hSw; (try dsimp only at hSw); go_simp; all_goals (with_reducible rfl)
  try simp only [Act.put, List.setIfInBounds_toArray, List.set_cons_zero, List.set_cons_succ]
  refine wpAnyH_ready (rs := [4]) (by kernel_rfl) (by simp) ?_
  refine AllReadyH.cons (o := ⟨some 34, _, _, _, _, _⟩) rfl (fun K hK => ?_) AllReadyH.nil
  go_simp
  refine (deal_walk (HO3.out.below hHeld) (HQM.out.below hHeld) HSZ2.out).mono ?_
  rintro e w4 ⟨va, rfl, ⟨vs, hDA, hNA⟩, hB4⟩
  obtain ⟨ao, ac, hva, _, _⟩ := row_form hDA.row
  subst hva
  have HDA : Hid (Dl w3.heap.size w4 (.slice ao p.n ac) p.n vs (dealF p t)) := hDA
  have HNA : Hid (Ne p.n vs) := hNA
  clear hDA hNA
  refine hK.out _ _ ?_ (fun hHeld => ?_)
  · exact below_trans hHeld hB4
  clear hK K
  try simp only [Act.put, List.setIfInBounds_toArray, List.set_cons_zero, List.set_cons_succ]
  refine wpAnyH_take (i := 5) (oi := ⟨some 7, _, _, _, _, _⟩) (v := ?_) rfl (by kernel_rfl) (by kernel_rfl) (by kernel_rfl) (fun _ _ _ h => h) (Or.inl ⟨by rfl, ?_⟩) hHeld ?_
  rotate_left
  · intro w hSw; (try dsimp only at hSw); go_simp; all_goals (with_reducible rfl)
  try simp only [Act.put, List.setIfInBounds_toArray, List.set_cons_zero, List.set_cons_succ]
  refine wpAnyH_done (by kernel_rfl) ?_ _
  refine NoPanic.normal ?_
  have HB4 : Hid (Below w3.heap.size w3 w4) := hHeld
  have HX4 : Hid (Bx w4 w.heap.size p ov) := HX3.out.below hHeld HXL3.out
  have HXL4 : Hid (w.heap.size < w4.heap.size) := Nat.lt_of_lt_of_le HXL3.out HB4.out.size
  clear hHeld hB4
  clear c0 c1 c2 c3 c4 c5 c6 c7
  have HX := HX4.out.all HXL4.out
  have c0 := fun wx h => (HX wx h).c0
  have c1 := fun wx h => (HX wx h).c1
  have c2 := fun wx h => (HX wx h).c2
  have c3 := fun wx h => (HX wx h).c3
  have c4 := fun wx h => (HX wx h).c4
  have c5 := fun wx h => (HX wx h).c5
  have c6 := fun wx h => (HX wx h).c6
  have c7 := fun wx h => (HX wx h).c7
  clear HX
  go_wp2_with fail
  refine wp_region_noPanic ?_
  refine wp_region_held_drew (S := fun wx => Below w4.heap.size w4 wx) (by kernel_rfl) ?_ (fun hHeld => ?_)
  · exact below_drw _
  refine wpAnyH_take (i := 0) (oi := ⟨some 35, _, _, _, _, _⟩) (v := ?_) rfl (by kernel_rfl) (by kernel_rfl) (by kernel_rfl) (fun _ _ _ h => h) (Or.inl ⟨by rfl, ?_⟩) hHeld ?_
  rotate_left
  · intro w hSw; (try dsimp only at hSw); go_simp; all_goals (with_reducible rfl)
  try simp only [Act.put, List.setIfInBounds_toArray, List.set_cons_zero, List.set_cons_succ]
  refine wpAnyH_take (i := 1) (oi := ⟨some 36, _, _, _, _, _⟩) (v := ?_) rfl (by kernel_rfl) (by kernel_rfl) (by kernel_rfl) (fun _ _ _ h => h) (Or.inl ⟨by rfl, ?_⟩) hHeld ?_
  rotate_left
  · intro w hSw; (try dsimp only at hSw); go_simp; all_goals (with_reducible rfl)
  try simp only [Act.put, List.setIfInBounds_toArray, List.set_cons_zero, List.set_cons_succ]
  refine wpAnyH_take (i := 2) (oi := ⟨some 37, _, _, _, _, _⟩) (v := ?_) rfl (by kernel_rfl) (by kernel_rfl) (by kernel_rfl) (fun _ _ _ h => h) (Or.inl ⟨by rfl, ?_⟩) hHeld ?_
  rotate_left
  · intro w hSw; (try dsimp only at hSw); go_simp; all_goals (with_reducible rfl)
  try simp only [Act.put, List.setIfInBounds_toArray, List.set_cons_zero, List.set_cons_succ]
  refine wpAnyH_take (i := 3) (oi := ⟨some 38, _, _, _, _, _⟩) (v := ?_) rfl (by kernel_rfl) (by kernel_rfl) (by kernel_rfl) (fun _ _ _ h => h) (Or.inl ⟨by rfl, ?_⟩) hHeld ?_
  rotate_left
  · intro w hSw; (try dsimp only at hSw); go_simp; all_goals (with_reducible rfl)
  try simp only [Act.put, List.setIfInBounds_toArray, List.set_cons_zero, List.set_cons_succ]
  refine wpAnyH_ready (rs := [4]) (by kernel_rfl) (by simp) ?_
  refine AllReadyH.cons (o := ⟨some 39, _, _, _, _, _⟩) rfl (fun K hK => ?_) AllReadyH.nil
  go_simp
  refine (deal_walk ((HO3.out.below HB4.out).below hHeld) ((HQM.out.below HB4.out).below hHeld) HSZ2.out).mono ?_
  rintro e w5 ⟨vb, rfl, ⟨vsb, hDB, hNB⟩, hB5⟩
  obtain ⟨bo, bc, hvb, _, _⟩ := row_form hDB.row
  subst hvb
  have HDB5 : Hid (Dl w4.heap.size w5 (.slice bo p.n bc) p.n vsb (dealF p t)) := hDB
  clear hDB hNB
  refine hK.out _ _ ?_ (fun hHeld => ?_)
  · exact below_trans hHeld hB5
  clear hK K
  try simp only [Act.put, List.setIfInBounds_toArray, List.set_cons_zero, List.set_cons_succ]
  refine wpAnyH_take (i := 5) (oi := ⟨some 8, _, _, _, _, _⟩) (v := ?_) rfl (by kernel_rfl) (by kernel_rfl) (by kernel_rfl) (fun _ _ _ h => h) (Or.inl ⟨by rfl, ?_⟩) hHeld ?_
  rotate_left
  · intro w hSw; (try dsimp only at hSw); go_simp; all_goals (with_reducible rfl)
  try simp only [Act.put, List.setIfInBounds_toArray, List.set_cons_zero, List.set_cons_succ]
  refine wpAnyH_done (by kernel_rfl) ?_ _
  refine NoPanic.normal ?_
  have HB5 : Hid (Below w4.heap.size w4 w5) := hHeld
  clear hHeld hB5
  clear c0 c1 c2 c3 c4 c5 c6 c7
  go_wp2_with fail
  refine (lists_walk ((HDA.out.below HB5.out).lq (fun i _ => deal_ok HOK.out i)) (HDB5.out.lq (fun i _ => deal_ok HOK.out i))).mono ?_
  rintro e w6 ⟨rfl, hB6⟩
  have HB6 : Hid (Below w4.heap.size w4 w6) := HB5.out.trans (hB6.mono HB5.out.size)
  have HDB6 : Hid (Dl w4.heap.size w6 (.slice bo p.n bc) p.n vsb (dealF p t)) := HDB5.out.below hB6
  clear hB6 HDB5 HB5
  go_wp2_with fail
  refine (samev_walk ((HQM.out.below HB4.out).below HB6.out) ((HQ3.out.below HB4.out).below HB6.out)).mono ?_
  rintro e w7 ⟨rfl, hB7⟩
  have HB7 : Hid (Below w4.heap.size w4 w7) := HB6.out.trans (hB7.mono HB6.out.size)
  have HDB : Hid (Dl w4.heap.size w7 (.slice bo p.n bc) p.n vsb (dealF p t)) := HDB6.out.below hB7
  have HDA7 : Hid (Dl w3.heap.size w7 (.slice ao p.n ac) p.n vs (dealF p t)) := HDA.out.below HB7.out
  have HB37 : Hid (Below w3.heap.size w3 w7) := HB4.out.trans (HB7.out.mono HB4.out.size)
  clear hB7 HB6 HDB6
  have hm1 := (HMQ.out.below HB37.out HML.out t.length (by simp)).1
  have hm2 := (HMQ.out.below HB37.out HML.out (t.length + 1) (by simp)).1
  rw [List.getElem_append_right (by omega)] at hm1 hm2
  simp only [Nat.sub_self, List.getElem_cons_zero, Nat.add_sub_cancel_left, List.getElem_cons_succ] at hm1 hm2
  obtain ⟨m0, m1, m2⟩ := hm1
  obtain ⟨m3, m4, m5⟩ := hm2
  dsimp only [kv] at m0 m1 m2 m3 m4 m5
  have q71 : ∀ wx : World, (binOp .neq 43 (.agg #[.int .u64 71, .bool false, .int .u64 0]) (.agg #[.int .u64 71, .bool false, .int .u64 0])).run Try.prog wx = .ok (.bool false) wx := neq_pair (kv 71)
  have q72 : ∀ wx : World, (binOp .neq 43 (.agg #[.int .u64 72, .bool false, .int .u64 0]) (.agg #[.int .u64 72, .bool false, .int .u64 0])).run Try.prog wx = .ok (.bool false) wx := neq_pair (kv 72)
  have hgd := guard_pair
  have hcl1 : t.length < c := by have := HC.out; omega
  have hcl2 : t.length + 1 < c := by have := HC.out; omega
  go_wp2_with fail
  clear m0 m1 m2 m3 m4 m5 q71 q72 hcl1 hcl2
  obtain ⟨n, hn⟩ : ∃ n, n = p.n := ⟨_, rfl⟩
  have HN : Hid (n = p.n) := hn
  have hn1 : 1 ≤ n := by rw [hn]; exact HN1.out
  have hn4 : n ≤ 4 := by rw [hn]; exact HN4.out
  rw [← hn]
  have hfa : ∃ g, ao = some ⟨g, 0, none⟩ := by
    rcases HDA7.out.row.2 with ⟨_, h0⟩ | ⟨g, cap, cur, e, _⟩
    · omega
    · simp at e
      exact ⟨g, e.1⟩
  obtain ⟨g, hg⟩ := hfa
  subst hg
  have hfb : ∃ g, bo = some ⟨g, 0, none⟩ := by
    rcases HDB.out.row.2 with ⟨_, h0⟩ | ⟨g, cap, cur, e, _⟩
    · omega
    · simp at e
      exact ⟨g, e.1⟩
  obtain ⟨gb, hgb⟩ := hfb
  subst hgb
  have HSM : Hid (Sm w3.heap.size w4.heap.size w7 g n ac vs (lsW p t 0 0) w7) := by
    have hd : Dl w3.heap.size w4 (.slice (some ⟨g, 0, none⟩) n ac) n vs (dealF p t) := by rw [hn]; exact HDA.out
    have hd7 : Dl w3.heap.size w7 (.slice (some ⟨g, 0, none⟩) n ac) n vs (dealF p t) := by rw [hn]; exact HDA7.out
    refine ⟨by rw [lsW_start]; exact hd7, by rw [hn]; exact HNA.out, fun i hi x hx => .inl ((hd.own i hi).lt x hx).2, (hd.row.lt g rfl).2, Kq.refl⟩
  clear hn
  go_loopw [9] (fun iv wr => ∃ i : Nat, i ≤ n ∧ iv = .int .i64 i ∧ Sm w3.heap.size w4.heap.size w7 g n ac vs (lsW p t i 0) wr) (fun iv _ => n - (intOf iv).toNat)
  case atStart => exact ⟨0, Nat.zero_le _, rfl, HSM.out⟩
  case round =>
    clear HSM
    obtain ⟨i, hi, rfl, hS⟩ := hrel
    have HS : Hid (Sm w3.heap.size w4.heap.size w7 g n ac vs (lsW p t i 0) wr) := hS
    clear hS
    by_cases hlt : i < n
    · obtain ⟨L, hL⟩ : ∃ L, L = (dealF p t i).length := ⟨_, rfl⟩
      have HL : Hid (L = (dealF p t i).length) := hL
      have hLb : (L : Int) ≤ 5864062014634 := by have := deal_len p t i; omega
      have hvi : ∃ so sc, vs i = .slice so L sc := by
        obtain ⟨so, sc, e, _, _⟩ := row_form (HS.out.dl.own i hlt)
        rw [lsW_len p t (by omega), ← hL] at e
        exact ⟨so, sc, e⟩
      obtain ⟨so, sc, hvi⟩ := hvi
      have HVI : Hid (vs i = .slice so L sc) := hvi
      clear hL hvi
      go_wp2_with fail
      go_loopw [10] (fun jv wx => ∃ k : Nat, k ≤ L ∧ jv = .int .i64 k ∧ Sm w3.heap.size w4.heap.size w7 g n ac vs (lsW p t i k) wx) (fun jv _ => L - (intOf jv).toNat)
      case atStart => exact ⟨0, Nat.zero_le _, rfl, HS.out⟩
      case round =>
        obtain ⟨k, hk, rfl, hS2⟩ := hrel
        have HS2 : Hid (Sm w3.heap.size w4.heap.size w7 g n ac vs (lsW p t i k) wr) := hS2
        have a0 := (row1_cell hS2.dl.row hlt).1
        rw [HVI.out] at a0
        clear hS2
        by_cases hlk : k < L
        · have hfm : ∃ h0, so = some ⟨h0, 0, none⟩ ∧ Mq wr h0 (lsW p t i k i) := by
            have ho := HS2.out.dl.own i hlt
            rw [HVI.out] at ho
            rcases ho.2 with ⟨_, h0⟩ | ⟨h0, cap, cur, e, _⟩
            · rw [lsW_len p t (by rw [← HL.out]; omega), ← HL.out] at h0
              omega
            · simp at e
              rw [e.1, lsW_len p t (by rw [← HL.out]; omega), ← HL.out] at ho
              exact ⟨h0, e.1, own_mq ho⟩
          obtain ⟨h0, hso, hmq⟩ := hfm
          obtain ⟨⟨x0, x1, x2⟩, y0, y1, y2⟩ := hmq k (by rw [lsW_len p t (by rw [← HL.out]; omega), ← HL.out]; exact hlk)
          have HSN : Hid (Sm w3.heap.size w4.heap.size w7 g n ac vs (lsW p t i (k + 1)) (((wr.setCell ⟨h0, k * 3, none⟩ (.int .u64 99)).setCell ⟨h0, k * 3 + 1, none⟩ (.bool false)).setCell ⟨h0, k * 3 + 2, none⟩ (.int .u64 0))) := by
            have h := HS2.out.put (k := k) (kv 99) hlt (h0 := h0) (cap := sc) (by rw [HVI.out, hso, lsW_len p t (by rw [← HL.out]; omega), ← HL.out])
            rw [lsW_step p t (by rw [← HL.out]; exact hlk)] at h
            exact h
          rw [hso] at a0
          clear hmq hso
          go_wp2_with fail
          go_roundw
          case rel => exact ⟨k + 1, by omega, by simp, HSN.out⟩
          case measure => simp [intOf]; omega
        · obtain rfl : k = L := by omega
          have HSE : Hid (Sm w3.heap.size w4.heap.size w7 g n ac vs (lsW p t (i + 1) 0) wr) := by
            have h := HS2.out
            rw [HL.out, lsW_next] at h
            exact h
          go_wp2_with fail
          go_roundw
          case rel => exact ⟨i + 1, by omega, by simp, HSE.out⟩
          case measure => simp [intOf]; omega
    · obtain rfl : i = n := by omega
      have HSA : Hid (Sm w3.heap.size w4.heap.size w7 g i ac vs (lsA p t 0 0) wr) := HS.out.same (lsA_start p t)
      clear HS hlt
      obtain ⟨n, hni⟩ : ∃ n, n = i := ⟨_, rfl⟩
      subst hni
      go_wp2_with fail
      go_loopw [11] (fun iv wr => ∃ (i : Nat) (vs : Nat → Value), i ≤ n ∧ iv = .int .i64 i ∧ Sm w3.heap.size w4.heap.size w7 g n ac vs (lsA p t i 0) wr) (fun iv _ => n - (intOf iv).toNat)
      case atStart => exact ⟨0, vs, Nat.zero_le _, rfl, HSA.out⟩
      case round =>
        clear HSA
        obtain ⟨i, vs, hi, rfl, hS⟩ := hrel
        have HS : Hid (Sm w3.heap.size w4.heap.size w7 g n ac vs (lsA p t i 0) wr) := hS
        clear hS
        by_cases hlt : i < n
        · go_wp2_with fail
          go_loopw [12] (fun jv wx => ∃ (k : Nat) (vs : Nat → Value), k ≤ 9 ∧ jv = .int .i64 k ∧ Sm w3.heap.size w4.heap.size w7 g n ac vs (lsA p t i k) wx) (fun jv _ => (9 - intOf jv).toNat)
          case atStart => exact ⟨0, vs, Nat.zero_le _, rfl, HS.out⟩
          case round =>
            clear HS vs
            obtain ⟨k, vs, hk, rfl, hS2⟩ := hrel
            have HS2 : Hid (Sm w3.heap.size w4.heap.size w7 g n ac vs (lsA p t i k) wr) := hS2
            clear hS2
            by_cases hlk : k < 9
            · obtain ⟨L, hL⟩ : ∃ L, L = (lsA p t i k i).length := ⟨_, rfl⟩
              have HL : Hid (L = (lsA p t i k i).length) := hL
              have hLb : (L : Int) ≤ 5864062014643 := by
                have h1 := deal_len p t i
                rw [lsA_len] at hL
                omega
              have HBD : Hid (((lsA p t i k i).length + 1) * 24 ≤ 140737488355328) := by
                show _ ≤ _
                rw [← hL]
                omega
              have ho := HS2.out.dl.own i hlt
              obtain ⟨so, sc, hvi, _, _⟩ := row_form ho
              have a0 := (row1_cell HS2.out.dl.row hlt).1
              rw [hvi, ← hL] at a0
              have HOW : Hid (wr.ownsRow w3.heap.size 43 3 (.slice so L sc) (lsA p t i k i).length (flatQ (lsA p t i k i))) := by
                rw [hvi, ← hL] at ho
                rw [← hL]
                exact ho
              have HVI : Hid (vs i = .slice so L sc) := by show _ = _; rw [hvi, hL]
              have HLO : Hid (w3.heap.size ≤ wr.heap.size) := Nat.le_trans HB37.out.size HS2.out.kq.size
              clear ho hvi hL
              go_upto_region 23 with (at_builtin; refine app_pr rfl (.tmp 106) (.tmp 108) rfl (.slice so L sc) (lsA p t i k i) (by rfl) (HOW.out.alloc _) wr.heap.size (kv 98) (by rfl) (by simp [go_sem, kv]) (by simp [go_sem, kv]) (by simp [go_sem, kv]) HBD.out (Nat.le_trans HLO.out (below_alloc _ _).size) ?_; intro v9 w9 hown9 hg9 hat9; obtain ⟨v9o, v9c, hv9, hsn, b0, b1⟩ := HS2.out.more hlt HVI.out hown9 hg9 hat9; subst hv9; have HSN : Hid (Sm w3.heap.size w4.heap.size w7 g n ac (setF vs i (.slice v9o ((lsA p t i k i).length + 1) v9c)) (lsA p t i (k + 1)) (w9.setCell ⟨g, i, none⟩ (.slice v9o ((lsA p t i k i).length + 1) v9c))) := hsn; clear hsn hown9 hg9 hat9)
              clear a0
              go_wp2_with fail
              go_roundw
              case rel => exact ⟨k + 1, _, by omega, by simp, HSN.out⟩
              case measure => simp [intOf]; omega
            · obtain rfl : k = 9 := by omega
              have HSE : Hid (Sm w3.heap.size w4.heap.size w7 g n ac vs (lsA p t (i + 1) 0) wr) := by
                have h := HS2.out
                rw [lsA_next] at h
                exact h
              go_wp2_with fail
              go_roundw
              case rel => exact ⟨i + 1, vs, by omega, by simp, HSE.out⟩
              case measure => simp [intOf]; omega
        · obtain rfl : i = n := by omega
          clear hlt
          obtain ⟨n, hni⟩ : ∃ n, n = i := ⟨_, rfl⟩
          subst hni
          obtain ⟨w8, hw8⟩ : ∃ w8, w8 = wr := ⟨_, rfl⟩
          subst hw8
          have HBF : Hid (Below w3.heap.size w3 w8) := HS.out.kq.old HB37.out (Nat.le_refl _) (Nat.le_refl _)
          have HDF : Hid (Dl w4.heap.size w8 (.slice (some ⟨gb, 0, none⟩) n bc) n vsb (dealF p t)) := by
            have h := HDB.out.keep (w' := w8) (fun x h1 h2 => HS.out.kq.block x h2 (.inr h1))
            rw [← HN.out] at h
            exact h
          go_wp2_with fail
          go_loopw [13] (fun iv wr => ∃ i : Nat, i ≤ n ∧ iv = .int .i64 i ∧ wr = w8) (fun iv _ => n - (intOf iv).toNat)
          case atStart => exact ⟨0, Nat.zero_le _, rfl, rfl⟩
          case round =>
            obtain ⟨i, hi, rfl, hwr⟩ := hrel
            replace hwr := hwr.symm
            subst hwr
            by_cases hlt : i < n
            · obtain ⟨L, hL⟩ : ∃ L, L = (dealF p t i).length := ⟨_, rfl⟩
              have hLb : (L : Int) ≤ 5864062014634 := by have := deal_len p t i; omega
              have ho := HS.out.dl.own i hlt
              have hll : (lsA p t n 0 i).length = L + 9 := by rw [lsA_end p t hlt, hL]; simp [rep]
              obtain ⟨N9, hN9⟩ : ∃ N9, N9 = L + 9 := ⟨_, rfl⟩
              have hLN : L + 9 = N9 := hN9.symm
              have HLN : Hid (L + 9 = N9) := hLN
              rw [hll, ← hN9] at ho
              have hfm : ∃ h0 sc, vs i = .slice (some ⟨h0, 0, none⟩) N9 sc ∧ Mq w8 h0 (rep 99 L ++ rep 98 9) := by
                rcases ho.2 with ⟨_, h0⟩ | ⟨h0, cap, cur, e, _⟩
                · omega
                · rw [e] at ho
                  have := own_mq ho
                  rw [lsA_end p t hlt, ← hL] at this
                  exact ⟨h0, cap, e, this⟩
              obtain ⟨h0, sc, hvi, hmq⟩ := hfm
              have HMQ9 : Hid (Mq w8 h0 (rep 99 L ++ rep 98 9)) := hmq
              have a0 := (row1_cell HS.out.dl.row hlt).1
              rw [hvi] at a0
              have b0 := (row1_cell HDF.out.row hlt).1
              obtain ⟨bo2, bc2, hvb, _, _⟩ := row_form (HDF.out.own i hlt)
              rw [hvb, ← hL] at b0
              have hN9b : (N9 : Int) ≤ 5864062014643 := by omega
              have hN9p : (L : Int) < (N9 : Int) := by omega
              clear hvb hvi hmq ho hll hL hN9 hLN
              go_wp2_with fail
              go_loopw [14] (fun jv wx => ∃ k : Nat, k ≤ N9 ∧ jv = .int .i64 k ∧ wx = w8) (fun jv _ => N9 - (intOf jv).toNat)
              case atStart => exact ⟨0, Nat.zero_le _, rfl, rfl⟩
              case round =>
                obtain ⟨k, hk, rfl, hwr⟩ := hrel
                replace hwr := hwr.symm
                subst hwr
                by_cases hlk : k < N9
                · by_cases hkL : k < L
                  · have hx := (HMQ9.out k (by simp [rep]; omega)).1
                    rw [List.getElem_append_left (by simpa [rep] using hkL)] at hx
                    simp only [rep, List.getElem_replicate] at hx
                    obtain ⟨x0, x1, x2⟩ := hx
                    dsimp only [kv] at x0 x1 x2
                    have q99 : ∀ wx : World, (binOp .neq 43 (.agg #[.int .u64 99, .bool false, .int .u64 0]) (.agg #[.int .u64 99, .bool false, .int .u64 0])).run Try.prog wx = .ok (.bool false) wx := neq_pair (kv 99)
                    go_wp2_with fail
                    go_roundw
                    case rel => exact ⟨k + 1, by omega, by simp, by trivial⟩
                    case measure => simp [intOf]; omega
                  · have hx := (HMQ9.out k (by have := HLN.out; simp [rep]; omega)).1
                    rw [List.getElem_append_right (by simp [rep]; omega)] at hx
                    simp only [rep, List.getElem_replicate] at hx
                    obtain ⟨x0, x1, x2⟩ := hx
                    dsimp only [kv] at x0 x1 x2
                    have q98 : ∀ wx : World, (binOp .neq 43 (.agg #[.int .u64 98, .bool false, .int .u64 0]) (.agg #[.int .u64 98, .bool false, .int .u64 0])).run Try.prog wx = .ok (.bool false) wx := neq_pair (kv 98)
                    go_wp2_with fail
                    go_roundw
                    case rel => exact ⟨k + 1, by omega, by simp, by trivial⟩
                    case measure => simp [intOf]; omega
                · obtain rfl : k = N9 := by omega
                  go_wp2_with fail
                  go_roundw
                  case rel => exact ⟨i + 1, by omega, by simp, by trivial⟩
                  case measure => simp [intOf]; omega
            · obtain rfl : i = n := by omega
              clear hlt
              have HXF : Hid (Bx w8 w.heap.size p ov) := HX3.out.below HBF.out HXL3.out
              obtain ⟨c0, c1, c2, c3, c4, c5, c6, c7⟩ := HXF.out
              go_wp2_with fail
              refine (deal_walk (HO3.out.below HBF.out) (HQ3.out.below HBF.out) HSZ2.out).mono ?_
              rintro e wy ⟨ve, rfl, ⟨vse, hDE, _⟩, hBY⟩
              have HBY : Hid (Below w3.heap.size w3 wy) := HBF.out.trans (hBY.mono HBF.out.size)
              have HLE : Hid (Lq wy ve p.n (dealF p t)) := hDE.lq (fun i _ => deal_ok HOK.out i)
              obtain ⟨eo, ec, hve, _, _⟩ := row_form hDE.row
              subst hve
              have HLB : Hid (Lq wy (.slice (some ⟨gb, 0, none⟩) i bc) p.n (dealF p t)) := by rw [← HN.out]; exact (HDF.out.below hBY).lq (fun i _ => deal_ok HOK.out i)
              clear hDE hBY c0 c1 c2 c3 c4 c5 c6 c7
              go_wp2_with fail
              refine (lists_walk HLB.out HLE.out).mono ?_
              rintro e wz ⟨rfl, hBZ⟩
              have HBZ : Hid (Below w3.heap.size w3 wz) := HBY.out.trans (hBZ.mono HBY.out.size)
              clear hBZ
              go_wp2_with fail
              refine (samev_walk (HQM.out.below HBZ.out) (HQ3.out.below HBZ.out)).mono ?_
              rintro e wv ⟨rfl, hBV⟩
              go_wp2_with fail
              go_ret
              exact ⟨rfl, HBW3.out.trans ((HBZ.out.trans (hBV.mono HBZ.out.size)).mono HBW3.out.size)⟩
theorem planmemory_walk {p : Pn} {ov tv : Value} {t : List Pr} {w : World} (ho : Ov w ov p.l) (hq : Qv w tv t) (hsz : t.length * 24 ≤ 140737488351232) :
    Calls Try.prog 7 #[.agg #[.int .i64 p.P, .int .i64 p.S, .int .i64 p.W, ov, .int .i64 p.A, .int .i64 p.B, .int .i64 p.N, .int .i64 p.G], tv] w fun e w' => e = .returned (.bool true) ∧ Below w.heap.size w w' := by
  cases hp : p.is
  · exact mem_no (by unfold Pn.n; rw [hp]; rfl) ho hq hsz
  · obtain ⟨_, ⟨s1, s2⟩, _⟩ := Pn.is_num hp
    have e : p.n = p.S.toNat := by unfold Pn.n; rw [hp]; rfl
    exact mem_yes (by omega) (by omega) ho hq hsz
end Go.Proofs.Ytlblpjookbomjaa


