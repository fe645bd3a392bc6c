/- The walk of MsgBytes. -/
import Derived.Test.YthkkbdmbmkgjpaaJn

import Derived.Test.YthkkbdmbmkgjpaaJp

namespace Go.Proofs.Ythkkbdmbmkgjpaa

open Go.RowKit



theorem encS_lt {m : Ms} (hk : m.ok) : ∀ c ∈ (encS m).1, c < 256 := by
  unfold encS
  cases h : sndM m
  · simp
  · simp only [if_true]
    exact bytS_lt h hk
set_option maxRecDepth 100000 in
set_option maxHeartbeats 8000000 in
theorem msgbytes_walk {w : World} {m : Ms} {ev qv pv : Value} (h : ML w m ev qv pv) (hok : m.ok) :
    Calls Try.prog 3 #[.agg #[.int .i64 m.K, .int .i64 m.F, .int .i64 m.T, .int .i64 m.B, .int .i64 m.A, .int .i64 m.C, ev, qv, pv]] w fun e w' => e = .returned (.bool true) ∧ Below w.heap.size w w' := by
  have HL : Hid (ML w m ev qv pv) := h
  have HOK : Hid m.ok := hok
  have HX0 : Hid (MX (w.alloc (Obj.cells #[.int .i64 m.K, .int .i64 m.F, .int .i64 m.T, .int .i64 m.B, .int .i64 m.A, .int .i64 m.C, ev, qv, pv] 26)) w.heap.size m ev qv pv) := mx_new w m ev qv pv
  have HB0 : Hid (Below w.heap.size w (w.alloc (Obj.cells #[.int .i64 m.K, .int .i64 m.F, .int .i64 m.T, .int .i64 m.B, .int .i64 m.A, .int .i64 m.C, ev, qv, pv] 26))) := below_alloc _ _
  obtain ⟨ea, en, ec, rfl⟩ := sv_any h.e
  obtain ⟨qa, qn, qc, rfl⟩ := sv_any h.q
  obtain ⟨sa, sn, sc, rfl⟩ := qv_any h.p
  clear h hok
  go_enter Try.func3, Try.ntmps3
  go_upto_region 1 with fail
  obtain ⟨N, hN⟩ : ∃ N, N = w.heap.size := ⟨_, rfl⟩
  rw [← hN] at HX0 ⊢
  clear hN
  generalize w.alloc (Obj.cells #[.int .i64 m.K, .int .i64 m.F, .int .i64 m.T, .int .i64 m.B, .int .i64 m.A, .int .i64 m.C, .slice ea en ec, .slice qa qn qc, .slice sa sn sc] 26) = w0 at HX0 HB0 ⊢
  go_wp2_with fail
  refine (awake_walk _).mono ?_
  rintro e w1 ⟨rfl, hB1⟩
  have HX1 : Hid _ := HX0.out.keep hB1
  have HB1 : Hid (Below w.heap.size w w1) := below_trans HB0.out hB1
  clear hB1 HX0 HB0
  have c0 := HX1.out.c0; have c1 := HX1.out.c1; have c2 := HX1.out.c2; have c3 := HX1.out.c3; have c4 := HX1.out.c4; have c5 := HX1.out.c5; have c6 := HX1.out.c6; have c7 := HX1.out.c7; have c8 := HX1.out.c8
  obtain ⟨E, hE⟩ : ∃ E, E = (encS m).2 := ⟨_, rfl⟩
  obtain ⟨l, hl⟩ : ∃ l, l = (encS m).1 := ⟨_, rfl⟩
  have HLT : Hid (∀ c ∈ l, c < 256) := by intro c hc; rw [hl] at hc; exact encS_lt HOK.out c hc
  have HE : Hid (encS m = (l, E)) := by rw [hl, hE]; rfl
  clear hE hl
  go_wp2_with fail
  refine (menc_walk (HL.out.below HB1.out) HOK.out).mono ?_
  rintro e w2 ⟨vb, he, ho2, hB2⟩
  rw [HE.out] at he ho2
  subst he
  have HX2 : Hid _ := HX1.out.keep hB2
  have HB2 : Hid (Below w.heap.size w w2) := below_trans HB1.out hB2
  have HV2 : Hid (Bv w2 vb l) := own_bv (l := l) ho2 HLT.out
  clear ho2 hB2 HX1 HB1 c0 c1 c2 c3 c4 c5 c6 c7 c8
  have c0 := HX2.out.c0; have c1 := HX2.out.c1; have c2 := HX2.out.c2; have c3 := HX2.out.c3; have c4 := HX2.out.c4; have c5 := HX2.out.c5; have c6 := HX2.out.c6; have c7 := HX2.out.c7; have c8 := HX2.out.c8
  go_wp2_with fail
  refine (rmenc_walk (HL.out.below HB2.out) HOK.out).mono ?_
  rintro e w3 ⟨vd, he, ho3, hB3⟩
  rw [HE.out] at he ho3
  subst he
  have HX3 : Hid _ := HX2.out.keep hB3
  have HB3 : Hid (Below w.heap.size w w3) := below_trans HB2.out hB3
  have HV3 : Hid (Bv w3 vb l) := HV2.out.below hB3
  have HD3 : Hid (Bv w3 vd l) := own_bv (l := l) ho3 HLT.out
  clear ho3 hB3 HX2 HB2 HV2 c0 c1 c2 c3 c4 c5 c6 c7 c8
  have k0 : ∀ wx, Below w3.heap.size w3 wx → wx.cell? ⟨N, 0, none⟩ = some (.int .i64 m.K) := fun wx hx => (HX3.out.keep hx).c0
  have k1 : ∀ wx, Below w3.heap.size w3 wx → wx.cell? ⟨N, 1, none⟩ = some (.int .i64 m.F) := fun wx hx => (HX3.out.keep hx).c1
  have k2 : ∀ wx, Below w3.heap.size w3 wx → wx.cell? ⟨N, 2, none⟩ = some (.int .i64 m.T) := fun wx hx => (HX3.out.keep hx).c2
  have k3 : ∀ wx, Below w3.heap.size w3 wx → wx.cell? ⟨N, 3, none⟩ = some (.int .i64 m.B) := fun wx hx => (HX3.out.keep hx).c3
  have k4 : ∀ wx, Below w3.heap.size w3 wx → wx.cell? ⟨N, 4, none⟩ = some (.int .i64 m.A) := fun wx hx => (HX3.out.keep hx).c4
  have k5 : ∀ wx, Below w3.heap.size w3 wx → wx.cell? ⟨N, 5, none⟩ = some (.int .i64 m.C) := fun wx hx => (HX3.out.keep hx).c5
  have k6 : ∀ wx, Below w3.heap.size w3 wx → wx.cell? ⟨N, 6, none⟩ = some (.slice ea en ec) := fun wx hx => (HX3.out.keep hx).c6
  have k7 : ∀ wx, Below w3.heap.size w3 wx → wx.cell? ⟨N, 7, none⟩ = some (.slice qa qn qc) := fun wx hx => (HX3.out.keep hx).c7
  have k8 : ∀ wx, Below w3.heap.size w3 wx → wx.cell? ⟨N, 8, none⟩ = some (.slice sa sn sc) := fun wx hx => (HX3.out.keep hx).c8
  have s1 : ∀ wx, Below w3.heap.size w3 wx → (convert 28 9 vb).run Try.prog wx = .ok (.string (str l)) wx := fun wx hx => (HV3.out.below hx).str 28 5 9 Try.underlying28 Try.underlying5 Try.underlying9
  have s2 : ∀ wx, Below w3.heap.size w3 wx → (convert 28 9 vd).run Try.prog wx = .ok (.string (str l)) wx := fun wx hx => (HD3.out.below hx).str 28 5 9 Try.underlying28 Try.underlying5 Try.underlying9
  have hbb : ((str l).toList == (str l).toList) = true := by simp
  have hee : ((E : Int) == (E : Int)) = true := by simp
  obtain ⟨S, hS⟩ : ∃ S, S = sndM m := ⟨_, rfl⟩
  have HS : Hid (S = sndM m) := hS
  clear hS
  have hss : (S == S) = true := by simp
  go_wp2_with fail
  refine wp_region_noPanic ?_
  refine wp_region_held_drew (S := fun wx => Below w3.heap.size w3 wx) (by kernel_rfl) ?_ (fun hHeld => ?_)
  · exact below_drewN w3 1
  refine wpAnyH_take (i := 0) (oi := ⟨some 19, _, _, _, _, _⟩) (v := ?_) rfl (by kernel_rfl) (by kernel_rfl) (by kernel_rfl) (fun _ _ _ h => h) (Or.inl ⟨by rfl, ?_⟩) hHeld ?_
  rotate_left
  · intro w hSw; (try dsimp only at hSw); go_simp; all_goals (with_reducible rfl)
  try simp only [Act.put, List.setIfInBounds_toArray, List.set_cons_zero, List.set_cons_succ]
  refine wpAnyH_take (i := 2) (oi := ⟨some 21, _, _, _, _, _⟩) (v := ?_) rfl (by kernel_rfl) (by kernel_rfl) (by kernel_rfl) (fun _ _ _ h => h) (Or.inl ⟨by rfl, ?_⟩) hHeld ?_
  rotate_left
  · intro w hSw; (try dsimp only at hSw); go_simp; all_goals (with_reducible rfl)
  try simp only [Act.put, List.setIfInBounds_toArray, List.set_cons_zero, List.set_cons_succ]
  refine wpAnyH_ready (rs := [1]) (by kernel_rfl) (by simp) ?_
  refine AllReadyH.cons (o := ⟨some 20, _, _, _, _, _⟩) rfl (fun K hK => ?_) AllReadyH.nil
  go_simp
  refine (sound_walk (HL.out.below (below_trans HB3.out (below_drewN w3 1)))).mono ?_
  rw [← HS.out]
  rintro e9 w4 ⟨rfl, hB4⟩
  have HB4 : Hid (Below w3.heap.size w3 w4) := below_trans (below_drewN w3 1) hB4
  clear hB4
  refine hK.out _ _ ?_ (fun hHeld => ?_)
  · exact HB4.out
  clear hK K
  try simp only [Act.put, List.setIfInBounds_toArray, List.set_cons_zero, List.set_cons_succ]
  refine wpAnyH_ready (rs := [3]) (by kernel_rfl) (by simp) ?_
  refine AllReadyH.cons (o := ⟨some 22, _, _, _, _, _⟩) rfl (fun K hK => ?_) AllReadyH.nil
  go_simp
  refine (rmsound_walk (HL.out.below (below_trans HB3.out HB4.out))).mono ?_
  rw [← HS.out]
  rintro e9 w5 ⟨rfl, hB5⟩
  have HB5 : Hid (Below w3.heap.size w3 w5) := below_trans HB4.out hB5
  clear hB5
  refine hK.out _ _ ?_ (fun hHeld => ?_)
  · exact HB5.out
  clear hK K
  try simp only [Act.put, List.setIfInBounds_toArray, List.set_cons_zero, List.set_cons_succ]
  refine wpAnyH_take (i := 4) (oi := ⟨some 23, _, _, _, _, _⟩) (v := ?_) rfl (by kernel_rfl) (by kernel_rfl) (by kernel_rfl) (fun _ _ _ h => h) (Or.inl ⟨by rfl, ?_⟩) hHeld ?_
  rotate_left
  · intro w hSw; (try dsimp only at hSw); go_simp; all_goals (with_reducible rfl)
  try simp only [Act.put, List.setIfInBounds_toArray, List.set_cons_zero, List.set_cons_succ]
  refine wpAnyH_take (i := 5) (oi := ⟨some 24, _, _, _, _, _⟩) (v := ?_) rfl (by kernel_rfl) (by kernel_rfl) (by kernel_rfl) (fun _ _ _ h => h) (Or.inl ⟨by rfl, ?_⟩) hHeld ?_
  rotate_left
  · intro w hSw; (try dsimp only at hSw); go_simp; all_goals (with_reducible rfl)
  try simp only [Act.put, List.setIfInBounds_toArray, List.set_cons_zero, List.set_cons_succ]
  refine wpAnyH_take (i := 6) (oi := ⟨some 25, _, _, _, _, _⟩) (v := ?_) rfl (by kernel_rfl) (by kernel_rfl) (by kernel_rfl) (fun _ _ _ h => h) (Or.inl ⟨by rfl, ?_⟩) hHeld ?_
  rotate_left
  · intro w hSw; (try dsimp only at hSw); go_simp; all_goals (with_reducible rfl)
  try simp only [Act.put, List.setIfInBounds_toArray, List.set_cons_zero, List.set_cons_succ]
  refine wpAnyH_take (i := 7) (oi := ⟨some 26, _, _, _, _, _⟩) (v := ?_) rfl (by kernel_rfl) (by kernel_rfl) (by kernel_rfl) (fun _ _ _ h => h) (Or.inl ⟨by rfl, ?_⟩) hHeld ?_
  rotate_left
  · intro w hSw; (try dsimp only at hSw); go_simp; all_goals (with_reducible rfl)
  try simp only [Act.put, List.setIfInBounds_toArray, List.set_cons_zero, List.set_cons_succ]
  refine wpAnyH_take (i := 8) (oi := ⟨some 27, _, _, _, _, _⟩) (v := ?_) rfl (by kernel_rfl) (by kernel_rfl) (by kernel_rfl) (fun _ _ _ h => h) (Or.inl ⟨by rfl, ?_⟩) hHeld ?_
  rotate_left
  · intro w hSw; (try dsimp only at hSw); go_simp; all_goals (with_reducible rfl)
  try simp only [Act.put, List.setIfInBounds_toArray, List.set_cons_zero, List.set_cons_succ]
  refine wpAnyH_take (i := 9) (oi := ⟨some 28, _, _, _, _, _⟩) (v := ?_) rfl (by kernel_rfl) (by kernel_rfl) (by kernel_rfl) (fun _ _ _ h => h) (Or.inl ⟨by rfl, ?_⟩) hHeld ?_
  rotate_left
  · intro w hSw; (try dsimp only at hSw); go_simp; all_goals (with_reducible rfl)
  try simp only [Act.put, List.setIfInBounds_toArray, List.set_cons_zero, List.set_cons_succ]
  refine wpAnyH_take (i := 10) (oi := ⟨some 29, _, _, _, _, _⟩) (v := ?_) rfl (by kernel_rfl) (by kernel_rfl) (by kernel_rfl) (fun _ _ _ h => h) (Or.inl ⟨by rfl, ?_⟩) hHeld ?_
  rotate_left
  · intro w hSw; (try dsimp only at hSw); go_simp; all_goals (with_reducible rfl)
  try simp only [Act.put, List.setIfInBounds_toArray, List.set_cons_zero, List.set_cons_succ]
  refine wpAnyH_take (i := 11) (oi := ⟨some 30, _, _, _, _, _⟩) (v := ?_) rfl (by kernel_rfl) (by kernel_rfl) (by kernel_rfl) (fun _ _ _ h => h) (Or.inl ⟨by rfl, ?_⟩) hHeld ?_
  rotate_left
  · intro w hSw; (try dsimp only at hSw); go_simp; all_goals (with_reducible rfl)
  try simp only [Act.put, List.setIfInBounds_toArray, List.set_cons_zero, List.set_cons_succ]
  refine wpAnyH_take (i := 12) (oi := ⟨some 31, _, _, _, _, _⟩) (v := ?_) rfl (by kernel_rfl) (by kernel_rfl) (by kernel_rfl) (fun _ _ _ h => h) (Or.inl ⟨by rfl, ?_⟩) hHeld ?_
  rotate_left
  · intro w hSw; (try dsimp only at hSw); go_simp; all_goals (with_reducible rfl)
  try simp only [Act.put, List.setIfInBounds_toArray, List.set_cons_zero, List.set_cons_succ]
  refine wpAnyH_take (i := 13) (oi := ⟨some 32, _, _, _, _, _⟩) (v := ?_) rfl (by kernel_rfl) (by kernel_rfl) (by kernel_rfl) (fun _ _ _ h => h) (Or.inl ⟨by rfl, ?_⟩) hHeld ?_
  rotate_left
  · intro w hSw; (try dsimp only at hSw); go_simp; all_goals (with_reducible rfl)
  try simp only [Act.put, List.setIfInBounds_toArray, List.set_cons_zero, List.set_cons_succ]
  refine wpAnyH_take (i := 14) (oi := ⟨some 33, _, _, _, _, _⟩) (v := ?_) rfl (by kernel_rfl) (by kernel_rfl) (by kernel_rfl) (fun _ _ _ h => h) (Or.inl ⟨by rfl, ?_⟩) hHeld ?_
  rotate_left
  · intro w hSw; (try dsimp only at hSw); go_simp; all_goals (with_reducible rfl)
  try simp only [Act.put, List.setIfInBounds_toArray, List.set_cons_zero, List.set_cons_succ]
  refine wpAnyH_take (i := 15) (oi := ⟨some 34, _, _, _, _, _⟩) (v := ?_) rfl (by kernel_rfl) (by kernel_rfl) (by kernel_rfl) (fun _ _ _ h => h) (Or.inl ⟨by rfl, ?_⟩) hHeld ?_
  rotate_left
  · intro w hSw; (try dsimp only at hSw); go_simp; all_goals (with_reducible rfl)
  try simp only [Act.put, List.setIfInBounds_toArray, List.set_cons_zero, List.set_cons_succ]
  refine wpAnyH_take (i := 16) (oi := ⟨some 35, _, _, _, _, _⟩) (v := ?_) rfl (by kernel_rfl) (by kernel_rfl) (by kernel_rfl) (fun _ _ _ h => h) (Or.inl ⟨by rfl, ?_⟩) hHeld ?_
  rotate_left
  · intro w hSw; (try dsimp only at hSw); go_simp; all_goals (with_reducible rfl)
  try simp only [Act.put, List.setIfInBounds_toArray, List.set_cons_zero, List.set_cons_succ]
  refine wpAnyH_take (i := 17) (oi := ⟨some 2, _, _, _, _, _⟩) (v := ?_) rfl (by kernel_rfl) (by kernel_rfl) (by kernel_rfl) (fun _ _ _ h => h) (Or.inl ⟨by rfl, ?_⟩) hHeld ?_
  rotate_left
  · intro w hSw; (try dsimp only at hSw); go_simp; all_goals (with_reducible rfl)
  try simp only [Act.put, List.setIfInBounds_toArray, List.set_cons_zero, List.set_cons_succ]
  refine wpAnyH_done (by kernel_rfl) ?_ _
  refine NoPanic.normal ?_
  go_wp2_with fail
  go_ret
  exact ⟨rfl, below_trans HB3.out HB5.out⟩
end Go.Proofs.Ythkkbdmbmkgjpaa


