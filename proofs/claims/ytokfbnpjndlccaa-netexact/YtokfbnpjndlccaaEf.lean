/- Contract of repriselaw16's right. -/
import Derived.Test.YtokfbnpjndlccaaEe

namespace Go.Proofs.Ytokfbnpjndlccaa

open Go.RowKit



/-- A call in a block of its own. -/
structure OZ (w : World) (O : Nat) (x : Oq) (ev qv pv : Value) : Prop where
  c0 : w.cell? ⟨O, 0, none⟩ = some (.int .i64 x.c)
  c2 : w.cell? ⟨O, 2, none⟩ = some (.int .i64 x.k)
  m0 : w.cell? ⟨O, 3, none⟩ = some (.int .i64 x.m.K)
  m1 : w.cell? ⟨O, 4, none⟩ = some (.int .i64 x.m.F)
  m2 : w.cell? ⟨O, 5, none⟩ = some (.int .i64 x.m.T)
  m3 : w.cell? ⟨O, 6, none⟩ = some (.int .i64 x.m.B)
  m4 : w.cell? ⟨O, 7, none⟩ = some (.int .i64 x.m.A)
  m5 : w.cell? ⟨O, 8, none⟩ = some (.int .i64 x.m.C)
  m6 : w.cell? ⟨O, 9, none⟩ = some ev
  m7 : w.cell? ⟨O, 10, none⟩ = some qv
  m8 : w.cell? ⟨O, 11, none⟩ = some pv
theorem oz_new (w : World) (x : Oq) (ev qv pv : Value) : OZ (w.alloc (Obj.cells #[.int .i64 x.c, .int .i64 x.o, .int .i64 x.k, .int .i64 x.m.K, .int .i64 x.m.F, .int .i64 x.m.T, .int .i64 x.m.B, .int .i64 x.m.A, .int .i64 x.m.C, ev, qv, pv] 37)) w.heap.size x ev qv pv := by
  constructor <;> simp [go_sem]
theorem OZ.ch {D : Nat → Prop} {w w' : World} {O : Nat} {x : Oq} {ev qv pv : Value} (h : OZ w O x ev qv pv) (hc : Ch D w w') (hd : ¬ D O) : OZ w' O x ev qv pv :=
  ⟨hc.cell h.c0 hd, hc.cell h.c2 hd, hc.cell h.m0 hd, hc.cell h.m1 hd, hc.cell h.m2 hd, hc.cell h.m3 hd, hc.cell h.m4 hd, hc.cell h.m5 hd, hc.cell h.m6 hd, hc.cell h.m7 hd, hc.cell h.m8 hd⟩
theorem OZ.below {w w' : World} {O : Nat} {x : Oq} {ev qv pv : Value} (h : OZ w O x ev qv pv) (hb : Below w.heap.size w w') : OZ w' O x ev qv pv := h.ch (D := fun _ => False) (Ch.of_below hb) (fun e => e)
theorem OZ.lt {w : World} {O : Nat} {x : Oq} {ev qv pv : Value} (h : OZ w O x ev qv pv) : O < w.heap.size := cell_lt h.c0
/-- What right leaves. -/
def RyGot (w0 : World) (P b R B r nx : Nat) (e : Ending) (w' : World) : Prop := e = .returned (.bool true) ∧ ∃ nx', nx' ≤ nx + 1 ∧ Py w0 P b R B r nx' w'
theorem zero_ml (w : World) : ML w zeroMs (.slice none 0 0) (.slice none 0 0) (.slice none 0 0) := ⟨Sv.nil _ w, Sv.nil _ w, ⟨⟨none, 0, rfl, Nat.le_refl _, by simp [maxLen], fun _ => rfl, fun i hi => by simp [zeroMs] at hi⟩, by simp [zeroMs]⟩⟩
theorem in64_z : in64 0 := ⟨by decide, by decide⟩
theorem zero_ok : zeroMs.ok := ⟨in64_z, in64_z, in64_z, in64_z, in64_z, in64_z, by simp [zeroMs], fun x hx => by simp [zeroMs] at hx, fun x hx => by simp [zeroMs] at hx⟩
set_option maxRecDepth 100000 in
set_option maxHeartbeats 4000000 in
theorem right_nil {w : World} {x : Oq} (hml : ML w x.m x.e x.q x.p) (hok : x.ok) :
    Calls Try.prog 10 #[.pointer none, .pointer none, .agg #[.int .i64 x.c, .int .i64 x.o, .int .i64 x.k, .int .i64 x.m.K, .int .i64 x.m.F, .int .i64 x.m.T, .int .i64 x.m.B, .int .i64 x.m.A, .int .i64 x.m.C, x.e, x.q, x.p]] w fun e w' => e = .returned (.bool true) ∧ Below w.heap.size w w' := by
  have HOK : Hid x.ok := hok
  obtain ⟨ea, en, ec, qa, qn, qc, pa, pn, pc, e1, e2, e3⟩ := ml_form hml
  have HML : Hid (ML w x.m (.slice ea en ec) (.slice qa qn qc) (.slice pa pn pc)) := by have k := hml; rw [e1, e2, e3] at k; exact k
  rw [e1, e2, e3]
  clear hml hok e1 e2 e3
  have HO0 : Hid _ := oz_new w x (.slice ea en ec) (.slice qa qn qc) (.slice pa pn pc)
  have HB0 : Hid _ := below_alloc w (Obj.cells #[.int .i64 x.c, .int .i64 x.o, .int .i64 x.k, .int .i64 x.m.K, .int .i64 x.m.F, .int .i64 x.m.T, .int .i64 x.m.B, .int .i64 x.m.A, .int .i64 x.m.C, .slice ea en ec, .slice qa qn qc, .slice pa pn pc] 37)
  go_enter Try.func10, Try.ntmps10
  go_upto_region 1 with fail
  obtain ⟨O, hO⟩ : ∃ O, O = w.heap.size := ⟨_, rfl⟩
  have HOL : Hid (O = w.heap.size) := hO
  rw [← hO] at HO0 ⊢
  clear hO
  generalize w.alloc (Obj.cells #[.int .i64 x.c, .int .i64 x.o, .int .i64 x.k, .int .i64 x.m.K, .int .i64 x.m.F, .int .i64 x.m.T, .int .i64 x.m.B, .int .i64 x.m.A, .int .i64 x.m.C, .slice ea en ec, .slice qa qn qc, .slice pa pn pc] 37) = w1 at HO0 HB0 ⊢
  have HML1 : Hid _ := HML.out.below HB0.out
  have o0 := HO0.out.c0
  by_cases hk1 : x.c = 1
  · have hkk : (x.c == 1) = true := by simp [hk1]
    have o3 := HO0.out.m0
    have o4 := HO0.out.m1
    have o5 := HO0.out.m2
    have o6 := HO0.out.m3
    have o7 := HO0.out.m4
    have o8 := HO0.out.m5
    have o9 := HO0.out.m6
    have o10 := HO0.out.m7
    have o11 := HO0.out.m8
    go_wp2_with fail
    refine (send_nil _).mono ?_
    rintro e w2 ⟨rfl, hB⟩
    have HB2 : Hid (Below w.heap.size w w2) := below_trans HB0.out hB
    have HO2 : Hid _ := HO0.out.below hB
    clear hB o0 o3 o4 o5 o6 o7 o8 o9 o10 o11
    have o3 := HO2.out.m0
    have o4 := HO2.out.m1
    have o5 := HO2.out.m2
    have o6 := HO2.out.m3
    have o7 := HO2.out.m4
    have o8 := HO2.out.m5
    have o9 := HO2.out.m6
    have o10 := HO2.out.m7
    have o11 := HO2.out.m8
    go_wp2_with fail
    refine (rsend_nil _).mono ?_
    rintro e w3 ⟨rfl, hB⟩
    have HB3 : Hid (Below w.heap.size w w3) := below_trans HB2.out hB
    clear hB o3 o4 o5 o6 o7 o8 o9 o10 o11
    go_wp2_with fail
    go_ret
    exact ⟨rfl, HB3.out⟩
  have hf1 : (x.c == 1) = false := by simp [hk1]
  by_cases hk2 : x.c = 2
  · have hkk : (x.c == 2) = true := by simp [hk2]
    have o2 := HO0.out.c2
    go_wp2_with fail
    refine (deliver_nil x.k _).mono ?_
    rintro e w2 ⟨he, hB⟩
    unfold zMsg at he
    subst he
    have HB2 : Hid (Below w.heap.size w w2) := below_trans HB0.out hB
    have HO2 : Hid _ := HO0.out.below hB
    clear hB o0 o2
    go_upto_region 8 with fail
    rw [mc_zero]
    have HY : Hid _ := mx_zero w2
    have HB2a : Hid _ := below_alloc w2 (Obj.cells #[.int .i64 0, .int .i64 0, .int .i64 0, .int .i64 0, .int .i64 0, .int .i64 0, .slice none 0 0, .slice none 0 0, .slice none 0 0] 35)
    have HO2a : Hid _ := HO2.out.below HB2a.out
    obtain ⟨Y, hY⟩ : ∃ Y, Y = w2.heap.size := ⟨_, rfl⟩
    rw [← hY] at HY ⊢
    clear hY
    generalize w2.alloc (Obj.cells #[.int .i64 0, .int .i64 0, .int .i64 0, .int .i64 0, .int .i64 0, .int .i64 0, .slice none 0 0, .slice none 0 0, .slice none 0 0] 35) = w3 at HY HB2a HO2a ⊢
    have o2 := HO2a.out.c2
    go_wp2_with fail
    refine (rdeliver_nil x.k _).mono ?_
    rintro e w4 ⟨he, hB⟩
    unfold zMsg at he
    subst he
    have HB4 : Hid (Below w.heap.size w w4) := below_trans (below_trans HB2.out HB2a.out) hB
    have HY4 : Hid _ := HY.out.keep hB
    clear hB o2
    go_upto_region 9 with fail
    rw [mc_zero]
    have HZ : Hid _ := mx_zero w4
    have HB4a : Hid _ := below_alloc w4 (Obj.cells #[.int .i64 0, .int .i64 0, .int .i64 0, .int .i64 0, .int .i64 0, .int .i64 0, .slice none 0 0, .slice none 0 0, .slice none 0 0] 35)
    have HY5 : Hid _ := HY4.out.keep HB4a.out
    obtain ⟨Z, hZ⟩ : ∃ Z, Z = w4.heap.size := ⟨_, rfl⟩
    rw [← hZ] at HZ ⊢
    clear hZ
    generalize w4.alloc (Obj.cells #[.int .i64 0, .int .i64 0, .int .i64 0, .int .i64 0, .int .i64 0, .int .i64 0, .slice none 0 0, .slice none 0 0, .slice none 0 0] 35) = w5 at HZ HB4a HY5 ⊢
    have y0 := HY5.out.c0
    have y1 := HY5.out.c1
    have y2 := HY5.out.c2
    have y3 := HY5.out.c3
    have y4 := HY5.out.c4
    have y5 := HY5.out.c5
    have y6 := HY5.out.c6
    have y7 := HY5.out.c7
    have y8 := HY5.out.c8
    have z0 := HZ.out.c0
    have z1 := HZ.out.c1
    have z2 := HZ.out.c2
    have z3 := HZ.out.c3
    have z4 := HZ.out.c4
    have z5 := HZ.out.c5
    have z6 := HZ.out.c6
    have z7 := HZ.out.c7
    have z8 := HZ.out.c8
    go_wp2_with fail
    refine (same_walk (m := zeroMs) (zero_ml _) (zero_ml _) zero_ok).mono ?_
    rintro e w6 ⟨rfl, hB⟩
    have HB6 : Hid (Below w.heap.size w w6) := below_trans (below_trans HB4.out HB4a.out) hB
    clear hB y0 y1 y2 y3 y4 y5 y6 y7 y8 z0 z1 z2 z3 z4 z5 z6 z7 z8
    go_wp2_with fail
    go_ret
    exact ⟨rfl, HB6.out⟩
  have hf2 : (x.c == 2) = false := by simp [hk2]
  by_cases hk3 : x.c = 3
  · have hkk : (x.c == 3) = true := by simp [hk3]
    have k2 : ∀ wx, Below w1.heap.size w1 wx → wx.cell? ⟨O, 2, none⟩ = some (.int .i64 x.k) := fun wx hx => (HO0.out.below hx).c2
    go_upto_region 11 with fail
    refine wp_region_noPanic ?_
    refine wp_region_held_drew (S := fun wx => Below w1.heap.size w1 wx) (by kernel_rfl) ?_ (fun hHeld => ?_)
    · exact below_drewN w1 1
    refine wpAnyH_take (i := 0) (oi := ⟨some 71, _, _, _, _, _⟩) (v := ?_) rfl (by kernel_rfl) (by kernel_rfl) (by kernel_rfl) (fun _ _ _ h => h) (Or.inl ⟨by rfl, ?_⟩) hHeld ?_
    rotate_left
    · intro w hSw; (try dsimp only at hSw); go_simp; all_goals (with_reducible rfl)
    try simp only [Act.put, List.setIfInBounds_toArray, List.set_cons_zero, List.set_cons_succ]
    refine wpAnyH_take (i := 1) (oi := ⟨some 72, _, _, _, _, _⟩) (v := ?_) rfl (by kernel_rfl) (by kernel_rfl) (by kernel_rfl) (fun _ _ _ h => h) (Or.inl ⟨by rfl, ?_⟩) hHeld ?_
    rotate_left
    · intro w hSw; (try dsimp only at hSw); go_simp; all_goals (with_reducible rfl)
    try simp only [Act.put, List.setIfInBounds_toArray, List.set_cons_zero, List.set_cons_succ]
    refine wpAnyH_take (i := 2) (oi := ⟨some 73, _, _, _, _, _⟩) (v := ?_) rfl (by kernel_rfl) (by kernel_rfl) (by kernel_rfl) (fun _ _ _ h => h) (Or.inl ⟨by rfl, ?_⟩) hHeld ?_
    rotate_left
    · intro w hSw; (try dsimp only at hSw); go_simp; all_goals (with_reducible rfl)
    try simp only [Act.put, List.setIfInBounds_toArray, List.set_cons_zero, List.set_cons_succ]
    refine wpAnyH_take (i := 4) (oi := ⟨some 75, _, _, _, _, _⟩) (v := ?_) rfl (by kernel_rfl) (by kernel_rfl) (by kernel_rfl) (fun _ _ _ h => h) (Or.inl ⟨by rfl, ?_⟩) hHeld ?_
    rotate_left
    · intro w hSw; (try dsimp only at hSw); go_simp; all_goals (with_reducible rfl)
    try simp only [Act.put, List.setIfInBounds_toArray, List.set_cons_zero, List.set_cons_succ]
    refine wpAnyH_take (i := 5) (oi := ⟨some 76, _, _, _, _, _⟩) (v := ?_) rfl (by kernel_rfl) (by kernel_rfl) (by kernel_rfl) (fun _ _ _ h => h) (Or.inl ⟨by rfl, ?_⟩) hHeld ?_
    rotate_left
    · intro w hSw; (try dsimp only at hSw); go_simp; all_goals (with_reducible rfl)
    try simp only [Act.put, List.setIfInBounds_toArray, List.set_cons_zero, List.set_cons_succ]
    refine wpAnyH_take (i := 6) (oi := ⟨some 77, _, _, _, _, _⟩) (v := ?_) rfl (by kernel_rfl) (by kernel_rfl) (by kernel_rfl) (fun _ _ _ h => h) (Or.inl ⟨by rfl, ?_⟩) hHeld ?_
    rotate_left
    · intro w hSw; (try dsimp only at hSw); go_simp; all_goals (with_reducible rfl)
    try simp only [Act.put, List.setIfInBounds_toArray, List.set_cons_zero, List.set_cons_succ]
    refine wpAnyH_ready (rs := [3]) (by kernel_rfl) (by simp) ?_
    refine AllReadyH.cons (o := ⟨some 74, _, _, _, _, _⟩) rfl (fun K hK => ?_) AllReadyH.nil
    go_simp
    refine (drop_nil x.k _).mono ?_
    rintro e w2 ⟨rfl, hB⟩
    have HB2 : Hid (Below w1.heap.size w1 w2) := below_trans (below_drewN w1 1) hB
    clear hB
    refine hK.out _ _ ?_ (fun hHeld => ?_)
    · exact HB2.out
    clear hK K
    try simp only [Act.put, List.setIfInBounds_toArray, List.set_cons_zero, List.set_cons_succ]
    refine wpAnyH_ready (rs := [7]) (by kernel_rfl) (by simp) ?_
    refine AllReadyH.cons (o := ⟨some 78, _, _, _, _, _⟩) rfl (fun K hK => ?_) AllReadyH.nil
    go_simp
    refine (rdrop_nil x.k _).mono ?_
    rintro e w3 ⟨rfl, hB⟩
    have HB3 : Hid (Below w1.heap.size w1 w3) := below_trans HB2.out hB
    clear hB
    refine hK.out _ _ ?_ (fun hHeld => ?_)
    · exact HB3.out
    clear hK K
    try simp only [Act.put, List.setIfInBounds_toArray, List.set_cons_zero, List.set_cons_succ]
    refine wpAnyH_take (i := 8) (oi := ⟨some 79, _, _, _, _, _⟩) (v := ?_) rfl (by kernel_rfl) (by kernel_rfl) (by kernel_rfl) (fun _ _ _ h => h) (Or.inl ⟨by rfl, ?_⟩) hHeld ?_
    rotate_left
    · intro w hSw; (try dsimp only at hSw); go_simp; all_goals (with_reducible rfl)
    try simp only [Act.put, List.setIfInBounds_toArray, List.set_cons_zero, List.set_cons_succ]
    refine wpAnyH_take (i := 9) (oi := ⟨some 6, _, _, _, _, _⟩) (v := ?_) rfl (by kernel_rfl) (by kernel_rfl) (by kernel_rfl) (fun _ _ _ h => h) (Or.inl ⟨by rfl, ?_⟩) hHeld ?_
    rotate_left
    · intro w hSw; (try dsimp only at hSw); go_simp; all_goals (with_reducible rfl)
    try simp only [Act.put, List.setIfInBounds_toArray, List.set_cons_zero, List.set_cons_succ]
    refine wpAnyH_done (by kernel_rfl) ?_ _
    refine NoPanic.normal ?_
    go_wp2_with fail
    go_ret
    exact ⟨rfl, below_trans HB0.out HB3.out⟩
  have hf3 : (x.c == 3) = false := by simp [hk3]
  by_cases hk4 : x.c = 4
  · have hkk : (x.c == 4) = true := by simp [hk4]
    have o2 := HO0.out.c2
    go_wp2_with fail
    refine (copy_nil x.k _).mono ?_
    rintro e w2 ⟨rfl, hB⟩
    have HB2 : Hid (Below w.heap.size w w2) := below_trans HB0.out hB
    have HO2 : Hid _ := HO0.out.below hB
    clear hB o0 o2
    have o2 := HO2.out.c2
    go_wp2_with fail
    refine (rcopy_nil x.k _).mono ?_
    rintro e w3 ⟨rfl, hw3⟩
    rw [← hw3] at HB2
    clear hw3 o2
    go_wp2_with fail
    go_ret
    exact ⟨rfl, HB2.out⟩
  have hf4 : (x.c == 4) = false := by simp [hk4]
  by_cases hk5 : x.c = 5
  · have hkk : (x.c == 5) = true := by simp [hk5]
    go_wp2_with fail
    refine (flights_nilp _).mono ?_
    rintro e w2 ⟨rfl, hw2⟩
    rw [← hw2] at HB0
    clear hw2 HO0 o0 HML1
    go_wp2_with fail
    refine (rflights_nil _).mono ?_
    rintro e w3 ⟨v3, F, rfl, hfr, hnm, hB⟩
    have HFV : Hid _ := hfr.fv
    obtain ⟨fa, fc, hfa⟩ := own_formN hfr.own
    subst hfa
    have HB3 : Hid (Below w.heap.size w w3) := below_trans HB0.out hB
    have HNM : Hid (([] : List En).map nmE = F.map nmE) := hnm.symm
    clear hfr hnm hB
    go_wp2_with fail
    refine (flights_same (fv_nil w3) HFV.out HNM.out).mono ?_
    rintro e w4 ⟨rfl, hB⟩
    have HB4 : Hid (Below w.heap.size w w4) := below_trans HB3.out hB
    clear hB
    go_wp2_with fail
    go_ret
    exact ⟨rfl, HB4.out⟩
  have hf5 : (x.c == 5) = false := by simp [hk5]
  go_wp2_with fail
  refine (next_nil _).mono ?_
  rintro e w2 ⟨rfl, hw2⟩
  rw [← hw2] at HB0
  clear hw2 HO0 o0 HML1
  go_wp2_with fail
  refine (rnext_nil _).mono ?_
  rintro e w3 ⟨rfl, hw3⟩
  rw [← hw3] at HB0
  clear hw3
  go_wp2_with fail
  go_ret
  exact ⟨rfl, HB0.out⟩
end Go.Proofs.Ytokfbnpjndlccaa


