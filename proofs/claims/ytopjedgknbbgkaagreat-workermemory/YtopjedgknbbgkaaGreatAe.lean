/- Contracts of reply and ofEnds. -/
import Derived.Test.YtopjedgknbbgkaaGreatAd
namespace Go.Proofs.YtopjedgknbbgkaaGreat

open Go.RowKit



set_option maxRecDepth 100000 in
set_option maxHeartbeats 4000000 in
theorem reply_walk {w : World} {P b : Nat} {ov : Value} {p : Pn} {nd : Int} {L : List At} {m : Ms} {ea qa pa : Option Addr} {en ec qn qc pn pc : Nat} (k t : Int) (hn : Wm w P b ov p nd L) : Calls Tryz.prog 94 #[.pointer (some ⟨P, 0, none⟩), .int .i64 k, .agg #[.int .i64 m.K, .int .i64 m.F, .int .i64 m.T, .int .i64 m.B, .int .i64 m.A, .int .i64 m.C, .slice ea en ec, .slice qa qn qc, .slice pa pn pc], .int .i64 t] w fun e w' => e = .returned (.agg #[.int .i64 k, .int .i64 nd, .int .i64 t, .int .i64 m.B, .int .i64 m.A, .int .i64 0, .slice none 0 0, .slice none 0 0, .slice none 0 0]) ∧ Below w.heap.size w w' := by
  have HN : Hid (Wm w P b ov p nd L) := hn
  have HX0 : Hid _ := (mx_new w m (.slice ea en ec) (.slice qa qn qc) (.slice pa pn pc)).keep (below_alloc _ (Obj.cells #[.int .i64 0, .int .i64 0, .int .i64 0, .int .i64 0, .int .i64 0, .int .i64 0, .slice none 0 0, .slice none 0 0, .slice none 0 0] 44))
  have HY0 : Hid _ := mx_zero (w.alloc (Obj.cells #[.int .i64 m.K, .int .i64 m.F, .int .i64 m.T, .int .i64 m.B, .int .i64 m.A, .int .i64 m.C, .slice ea en ec, .slice qa qn qc, .slice pa pn pc] 44))
  have HB0 : Hid _ := below_trans (below_alloc w (Obj.cells #[.int .i64 m.K, .int .i64 m.F, .int .i64 m.T, .int .i64 m.B, .int .i64 m.A, .int .i64 m.C, .slice ea en ec, .slice qa qn qc, .slice pa pn pc] 44)) (below_alloc _ (Obj.cells #[.int .i64 0, .int .i64 0, .int .i64 0, .int .i64 0, .int .i64 0, .int .i64 0, .slice none 0 0, .slice none 0 0, .slice none 0 0] 44))
  have HS0 : Hid ((w.alloc (Obj.cells #[.int .i64 m.K, .int .i64 m.F, .int .i64 m.T, .int .i64 m.B, .int .i64 m.A, .int .i64 m.C, .slice ea en ec, .slice qa qn qc, .slice pa pn pc] 44)).heap.size = w.heap.size + 1) := size_allocC _ _
  clear hn
  go_enter Tryz.func94, Tryz.ntmps94
  go_upto_region 1 with fail
  rw [HS0.out] at HY0
  obtain ⟨Q, hQ⟩ : ∃ Q, Q = w.heap.size := ⟨_, rfl⟩
  have HQ : Hid (Q = w.heap.size) := hQ
  rw [← hQ] at HX0 HY0 ⊢
  clear hQ HS0
  generalize (w.alloc (Obj.cells #[.int .i64 m.K, .int .i64 m.F, .int .i64 m.T, .int .i64 m.B, .int .i64 m.A, .int .i64 m.C, .slice ea en ec, .slice qa qn qc, .slice pa pn pc] 44)).alloc (Obj.cells #[.int .i64 0, .int .i64 0, .int .i64 0, .int .i64 0, .int .i64 0, .int .i64 0, .slice none 0 0, .slice none 0 0, .slice none 0 0] 44) = w1 at HX0 HY0 HB0 ⊢
  obtain ⟨R, hR⟩ : ∃ R, R = Q + 1 := ⟨_, rfl⟩
  have HRQ : Hid (R = Q + 1) := hR
  rw [← hR] at HY0 ⊢
  clear hR
  have HN1 : Hid _ := HN.out.below HB0.out
  have HSF : Hid (∀ wx, Ch (fun x => x = R) w1 wx → wx.cell? ⟨P, 8, none⟩ = some (.int .i64 nd) ∧ wx.cell? ⟨Q, 3, none⟩ = some (.int .i64 m.B) ∧ wx.cell? ⟨Q, 4, none⟩ = some (.int .i64 m.A)) := fun wx h =>
    ⟨h.cell HN1.out.cells.2.2.2.2.2.2.2.2.1 (by have h1 := HN.out.ltP; have h2 := HQ.out; have h3 := HRQ.out; show ¬ P = R; omega), h.cell HX0.out.c3 (by have h3 := HRQ.out; show ¬ Q = R; omega), h.cell HX0.out.c4 (by have h3 := HRQ.out; show ¬ Q = R; omega)⟩
  have HR : Hid _ := (HY0.out.over ⟨k, nd, t, m.B, m.A, 0, [], [], []⟩ (.slice none 0 0) (.slice none 0 0) (.slice none 0 0)).keep (below_drew _)
  have HCS : Hid (Ch (fun x => x = R) w1 (setM w1 R ⟨k, nd, t, m.B, m.A, 0, [], [], []⟩ (.slice none 0 0) (.slice none 0 0) (.slice none 0 0)).drew) := (ch_setM _ _ _ _ _ _).self (Ch.of_below (below_drew _))
  refine wp_region_noPanic ?_
  refine wp_region_held_drew (S := fun wx => wx.cell? ⟨P, 8, none⟩ = some (.int .i64 nd) ∧ wx.cell? ⟨Q, 3, none⟩ = some (.int .i64 m.B) ∧ wx.cell? ⟨Q, 4, none⟩ = some (.int .i64 m.A)) (by kernel_rfl) ?_ (fun hHeld => ?_)
  · exact (HSF.out _ (Ch.of_below (below_drewN w1 1)))
  refine wpAnyH_take (i := 0) (oi := ⟨some 9, _, _, _, _, _⟩) (v := ?_) rfl (by kernel_rfl) (by kernel_rfl) (by kernel_rfl) (fun _ _ _ h => h) (Or.inl ⟨by rfl, ?_⟩) hHeld ?_
  rotate_left
  · intro w hSw; (try dsimp only at hSw); go_simp; all_goals (with_reducible rfl)
  try simp only [Act.put, List.setIfInBounds_toArray, List.set_cons_zero, List.set_cons_succ]
  refine wpAnyH_take (i := 1) (oi := ⟨some 10, _, _, _, _, _⟩) (v := ?_) rfl (by kernel_rfl) (by kernel_rfl) (by kernel_rfl) (fun _ _ _ h => h) (Or.inl ⟨by rfl, ?_⟩) hHeld ?_
  rotate_left
  · intro w hSw; (try dsimp only at hSw); go_simp; all_goals (with_reducible rfl)
  try simp only [Act.put, List.setIfInBounds_toArray, List.set_cons_zero, List.set_cons_succ]
  refine wpAnyH_take (i := 2) (oi := ⟨some 11, _, _, _, _, _⟩) (v := ?_) rfl (by kernel_rfl) (by kernel_rfl) (by kernel_rfl) (fun _ _ _ h => h) (Or.inl ⟨by rfl, ?_⟩) hHeld ?_
  rotate_left
  · intro w hSw; (try dsimp only at hSw); go_simp; all_goals (with_reducible rfl)
  try simp only [Act.put, List.setIfInBounds_toArray, List.set_cons_zero, List.set_cons_succ]
  refine wpAnyH_take (i := 3) (oi := ⟨some 12, _, _, _, _, _⟩) (v := ?_) rfl (by kernel_rfl) (by kernel_rfl) (by kernel_rfl) (fun _ _ _ h => h) (Or.inl ⟨by rfl, ?_⟩) hHeld ?_
  rotate_left
  · intro w hSw; (try dsimp only at hSw); go_simp; all_goals (with_reducible rfl)
  try simp only [Act.put, List.setIfInBounds_toArray, List.set_cons_zero, List.set_cons_succ]
  refine wpAnyH_take (i := 4) (oi := ⟨some 13, _, _, _, _, _⟩) (v := ?_) rfl (by kernel_rfl) (by kernel_rfl) (by kernel_rfl) (fun _ _ _ h => h) (Or.inl ⟨by rfl, ?_⟩) hHeld ?_
  rotate_left
  · intro w hSw; (try dsimp only at hSw); go_simp; all_goals (with_reducible rfl)
  try simp only [Act.put, List.setIfInBounds_toArray, List.set_cons_zero, List.set_cons_succ]
  refine wpAnyH_take (i := 5) (oi := ⟨some 14, _, _, _, _, _⟩) (v := ?_) rfl (by kernel_rfl) (by kernel_rfl) (by kernel_rfl) (fun _ _ _ h => h) (Or.inl ⟨by rfl, ?_⟩) hHeld ?_
  rotate_left
  · intro w hSw; (try dsimp only at hSw); go_simp; all_goals (with_reducible rfl)
  try simp only [Act.put, List.setIfInBounds_toArray, List.set_cons_zero, List.set_cons_succ]
  refine wpAnyH_take (i := 6) (oi := ⟨some 15, _, _, _, _, _⟩) (v := ?_) rfl (by kernel_rfl) (by kernel_rfl) (by kernel_rfl) (fun _ _ _ h => h) (Or.inl ⟨by rfl, ?_⟩) hHeld ?_
  rotate_left
  · intro w hSw; (try dsimp only at hSw); go_simp; all_goals (with_reducible rfl)
  try simp only [Act.put, List.setIfInBounds_toArray, List.set_cons_zero, List.set_cons_succ]
  refine wpAnyH_take (i := 7) (oi := ⟨some 16, _, _, _, _, _⟩) (v := ?_) rfl (by kernel_rfl) (by kernel_rfl) (by kernel_rfl) (fun _ _ _ h => h) (Or.inl ⟨by rfl, ?_⟩) hHeld ?_
  rotate_left
  · intro w hSw; (try dsimp only at hSw); go_simp; all_goals (with_reducible rfl)
  try simp only [Act.put, List.setIfInBounds_toArray, List.set_cons_zero, List.set_cons_succ]
  refine wpAnyH_take (i := 8) (oi := ⟨some 17, _, _, _, _, _⟩) (v := ?_) rfl (by kernel_rfl) (by kernel_rfl) (by kernel_rfl) (fun _ _ _ h => h) (Or.inl ⟨by rfl, ?_⟩) hHeld ?_
  rotate_left
  · intro w hSw; (try dsimp only at hSw); go_simp; all_goals (with_reducible rfl)
  try simp only [Act.put, List.setIfInBounds_toArray, List.set_cons_zero, List.set_cons_succ]
  refine wpAnyH_take (i := 9) (oi := ⟨some 18, _, _, _, _, _⟩) (v := ?_) rfl (by kernel_rfl) (by kernel_rfl) (by kernel_rfl) (fun _ _ _ h => h) (Or.inl ⟨by rfl, ?_⟩) hHeld ?_
  rotate_left
  · intro w hSw; (try dsimp only at hSw); go_simp; all_goals (with_reducible rfl)
  try simp only [Act.put, List.setIfInBounds_toArray, List.set_cons_zero, List.set_cons_succ]
  refine wpAnyH_take (i := 10) (oi := ⟨some 19, _, _, _, _, _⟩) (v := ?_) rfl (by kernel_rfl) (by kernel_rfl) (by kernel_rfl) (fun _ _ _ h => h) (Or.inl ⟨by rfl, ?_⟩) hHeld ?_
  rotate_left
  · intro w hSw; (try dsimp only at hSw); go_simp; all_goals (with_reducible rfl)
  try simp only [Act.put, List.setIfInBounds_toArray, List.set_cons_zero, List.set_cons_succ]
  refine wpAnyH_ready (rs := [11]) (by kernel_rfl) (by simp) ?_
  refine AllReadyH.cons (o := ⟨none, _, _, _, _, _⟩) rfl (fun K hK => ?_) AllReadyH.nil
  have y0 := HY0.out.c0
  have y1 := HY0.out.c1
  have y2 := HY0.out.c2
  have y3 := HY0.out.c3
  have y4 := HY0.out.c4
  have y5 := HY0.out.c5
  have y6 := HY0.out.c6
  have y7 := HY0.out.c7
  have y8 := HY0.out.c8
  have hz := HY0.out.z
  go_simp
  show K _ (setM w1 R ⟨k, nd, t, m.B, m.A, 0, [], [], []⟩ (.slice none 0 0) (.slice none 0 0) (.slice none 0 0)).drew
  clear y0 y1 y2 y3 y4 y5 y6 y7 y8 hz
  generalize (setM w1 R ⟨k, nd, t, m.B, m.A, 0, [], [], []⟩ (.slice none 0 0) (.slice none 0 0) (.slice none 0 0)).drew = w9 at HR HCS ⊢
  refine hK.out _ _ ?_ (fun hHeld => ?_)
  · exact (HSF.out _ HCS.out)
  clear hK K
  try simp only [Act.put, List.setIfInBounds_toArray, List.set_cons_zero, List.set_cons_succ]
  refine wpAnyH_done (by kernel_rfl) ?_ _
  refine NoPanic.normal ?_
  have y0 := HR.out.c0
  have y1 := HR.out.c1
  have y2 := HR.out.c2
  have y3 := HR.out.c3
  have y4 := HR.out.c4
  have y5 := HR.out.c5
  have y6 := HR.out.c6
  have y7 := HR.out.c7
  have y8 := HR.out.c8
  go_wp2_with fail
  refine bodyPost_ret (v := .agg #[.int .i64 k, .int .i64 nd, .int .i64 t, .int .i64 m.B, .int .i64 m.A, .int .i64 0, .slice none 0 0, .slice none 0 0, .slice none 0 0]) (by simp [results, Tryz.results94, go_sem, y0, y1, y2, y3, y4, y5, y6, y7, y8]) rfl ?_
  exact ⟨rfl, ch_below HB0.out HCS.out (by have h1 := HQ.out; have h2 := HRQ.out; omega)⟩
set_option maxRecDepth 100000 in
set_option maxHeartbeats 4000000 in
theorem ofEnds_walk {w : World} {P b : Nat} {ov : Value} {p : Pn} {nd : Int} {L : List At} {m : Ms} {ea qa pa : Option Addr} {en ec qn qc pn pc : Nat} {a : At} (k : Int) (hn : Wm w P b ov p nd L) (ha : a ∈ L) : Calls Tryz.prog 92 #[.pointer (some ⟨P, 0, none⟩), .int .i64 k, .agg #[.int .i64 m.K, .int .i64 m.F, .int .i64 m.T, .int .i64 m.B, .int .i64 m.A, .int .i64 m.C, .slice ea en ec, .slice qa qn qc, .slice pa pn pc], .pointer (some ⟨a.x, 0, none⟩)] w fun e w' => ∃ v, e = .returned (.agg #[.int .i64 k, .int .i64 nd, .int .i64 0, .int .i64 m.B, .int .i64 m.A, .int .i64 0, v, .slice none 0 0, .slice none 0 0]) ∧ w'.ownsRow w.heap.size 3 1 v a.h.E.length (cellsN a.h.E) ∧ Below w.heap.size w w' := by
  have HN : Hid (Wm w P b ov p nd L) := hn
  have HA : Hid (Ao w p a) := hn.ent a ha
  have HX0 : Hid _ := (mx_new w m (.slice ea en ec) (.slice qa qn qc) (.slice pa pn pc)).keep (below_alloc _ (Obj.cells #[.int .i64 0, .int .i64 0, .int .i64 0, .int .i64 0, .int .i64 0, .int .i64 0, .slice none 0 0, .slice none 0 0, .slice none 0 0] 44))
  have HY0 : Hid _ := mx_zero (w.alloc (Obj.cells #[.int .i64 m.K, .int .i64 m.F, .int .i64 m.T, .int .i64 m.B, .int .i64 m.A, .int .i64 m.C, .slice ea en ec, .slice qa qn qc, .slice pa pn pc] 44))
  have HB0 : Hid _ := below_trans (below_alloc w (Obj.cells #[.int .i64 m.K, .int .i64 m.F, .int .i64 m.T, .int .i64 m.B, .int .i64 m.A, .int .i64 m.C, .slice ea en ec, .slice qa qn qc, .slice pa pn pc] 44)) (below_alloc _ (Obj.cells #[.int .i64 0, .int .i64 0, .int .i64 0, .int .i64 0, .int .i64 0, .int .i64 0, .slice none 0 0, .slice none 0 0, .slice none 0 0] 44))
  have HS0 : Hid ((w.alloc (Obj.cells #[.int .i64 m.K, .int .i64 m.F, .int .i64 m.T, .int .i64 m.B, .int .i64 m.A, .int .i64 m.C, .slice ea en ec, .slice qa qn qc, .slice pa pn pc] 44)).heap.size = w.heap.size + 1) := size_allocC _ _
  clear hn ha
  go_enter Tryz.func92, Tryz.ntmps92
  go_upto_region 1 with fail
  rw [HS0.out] at HY0
  obtain ⟨Q, hQ⟩ : ∃ Q, Q = w.heap.size := ⟨_, rfl⟩
  have HQ : Hid (Q = w.heap.size) := hQ
  rw [← hQ] at HX0 HY0 ⊢
  clear hQ HS0
  generalize (w.alloc (Obj.cells #[.int .i64 m.K, .int .i64 m.F, .int .i64 m.T, .int .i64 m.B, .int .i64 m.A, .int .i64 m.C, .slice ea en ec, .slice qa qn qc, .slice pa pn pc] 44)).alloc (Obj.cells #[.int .i64 0, .int .i64 0, .int .i64 0, .int .i64 0, .int .i64 0, .int .i64 0, .slice none 0 0, .slice none 0 0, .slice none 0 0] 44) = w1 at HX0 HY0 HB0 ⊢
  obtain ⟨R, hR⟩ : ∃ R, R = Q + 1 := ⟨_, rfl⟩
  have HRQ : Hid (R = Q + 1) := hR
  rw [← hR] at HY0 ⊢
  clear hR
  have HRL : Hid (w.heap.size ≤ R) := by have h1 := HQ.out; have h2 := HRQ.out; show _ ≤ _; omega
  have x0 := HX0.out.c0
  have x1 := HX0.out.c1
  have x2 := HX0.out.c2
  have x3 := HX0.out.c3
  have x4 := HX0.out.c4
  have x5 := HX0.out.c5
  have x6 := HX0.out.c6
  have x7 := HX0.out.c7
  have x8 := HX0.out.c8
  go_wp2_with fail
  refine (reply_walk k 0 (HN.out.below HB0.out)).mono ?_
  rintro e w2 ⟨rfl, hB2⟩
  have HB2 : Hid (Below w.heap.size w w2) := below_trans HB0.out hB2
  have HY2 : Hid _ := HY0.out.keep hB2
  clear hB2 x0 x1 x2 x3 x4 x5 x6 x7 x8 HX0 HY0 HB0
  go_upto_region 2 with fail
  have HO : Hid _ := mx_new w2 ⟨k, nd, 0, m.B, m.A, 0, [], [], []⟩ (.slice none 0 0) (.slice none 0 0) (.slice none 0 0)
  have HY3 : Hid _ := HY2.out.keep (below_alloc w2 (Obj.cells #[.int .i64 k, .int .i64 nd, .int .i64 0, .int .i64 m.B, .int .i64 m.A, .int .i64 0, .slice none 0 0, .slice none 0 0, .slice none 0 0] 44))
  have HB3 : Hid _ := below_trans HB2.out (below_alloc w2 (Obj.cells #[.int .i64 k, .int .i64 nd, .int .i64 0, .int .i64 m.B, .int .i64 m.A, .int .i64 0, .slice none 0 0, .slice none 0 0, .slice none 0 0] 44))
  have HOL : Hid (w.heap.size ≤ w2.heap.size ∧ R ≠ w2.heap.size) := by have h1 := HB2.out.size; have h2 : R < w2.heap.size := cell_lt HY2.out.c0; exact ⟨by omega, by omega⟩
  obtain ⟨O, hO⟩ : ∃ O, O = w2.heap.size := ⟨_, rfl⟩
  rw [← hO] at HO HOL ⊢
  clear hO
  dsimp only at HO
  generalize w2.alloc (Obj.cells #[.int .i64 k, .int .i64 nd, .int .i64 0, .int .i64 m.B, .int .i64 m.A, .int .i64 0, .slice none 0 0, .slice none 0 0, .slice none 0 0] 44) = w3 at HO HY3 HB3 ⊢
  clear HY2 HB2
  have HA3 : Hid _ := HA.out.below HB3.out
  have a1 := HA3.out.cells.2.1
  obtain ⟨va, vc, hev⟩ := own_formN HA3.out.ends
  rw [hev] at a1
  have HNV : Hid (Nv w3 (.slice va a.h.E.length vc) a.h.E) := by have h := own_nv HA3.out.ends HA3.out.eok; rw [hev] at h; exact h
  clear hev
  go_wp2_with fail
  refine (cloneN_walk HNV.out (by have := HA.out.el; omega)).mono ?_
  rintro e w4 ⟨v', rfl, hrow, hB4⟩
  obtain ⟨ra, rc, rfl⟩ := own_formN hrow
  have HRW : Hid (w4.ownsRow w3.heap.size 3 1 (.slice ra a.h.E.length rc) a.h.E.length (cellsN a.h.E)) := hrow
  have HB4 : Hid (Below w.heap.size w w4) := below_trans HB3.out hB4
  have HO4 : Hid _ := HO.out.keep hB4
  have HY4 : Hid _ := HY3.out.keep hB4
  have HL4 : Hid (O < w3.heap.size ∧ R < w3.heap.size) := ⟨cell_lt HO.out.c0, cell_lt HY3.out.c0⟩
  clear hrow hB4 a1 HO HY3
  have x0 := HO4.out.c0
  have x1 := HO4.out.c1
  have x2 := HO4.out.c2
  have x3 := HO4.out.c3
  have x4 := HO4.out.c4
  have x5 := HO4.out.c5
  have x6 := HO4.out.c6
  have x7 := HO4.out.c7
  have x8 := HO4.out.c8
  have y0 := HY4.out.c0
  have y1 := HY4.out.c1
  have y2 := HY4.out.c2
  have y3 := HY4.out.c3
  have y4 := HY4.out.c4
  have y5 := HY4.out.c5
  have y6 := HY4.out.c6
  have y7 := HY4.out.c7
  have y8 := HY4.out.c8
  have hz := HO4.out.z
  have hzy := HY4.out.z
  go_upto_region 3 with fail
  show Code.wp _ _ _ _ (w4.setCell ⟨O, 6, none⟩ (.slice ra a.h.E.length rc))
  have HO5 : Hid _ := HO4.out.s6 (.slice ra a.h.E.length rc)
  have HC5 : Hid _ := ch_set w4 O 6 (.slice ra a.h.E.length rc)
  have HY5 : Hid _ := HY4.out.ch HC5.out HOL.out.2
  clear x0 x1 x2 x3 x4 x5 x6 x7 x8 y0 y1 y2 y3 y4 y5 y6 y7 y8 hz hzy HO4
  generalize w4.setCell ⟨O, 6, none⟩ (.slice ra a.h.E.length rc) = w5 at HO5 HC5 HY5 ⊢
  have x0 := HO5.out.c0
  have x1 := HO5.out.c1
  have x2 := HO5.out.c2
  have x3 := HO5.out.c3
  have x4 := HO5.out.c4
  have x5 := HO5.out.c5
  have x6 := HO5.out.c6
  have x7 := HO5.out.c7
  have x8 := HO5.out.c8
  have y0 := HY5.out.c0
  have y1 := HY5.out.c1
  have y2 := HY5.out.c2
  have y3 := HY5.out.c3
  have y4 := HY5.out.c4
  have y5 := HY5.out.c5
  have y6 := HY5.out.c6
  have y7 := HY5.out.c7
  have y8 := HY5.out.c8
  have hz := HY5.out.z
  have HR : Hid _ := HY5.out.over ⟨k, nd, 0, m.B, m.A, 0, [], [], []⟩ (.slice ra a.h.E.length rc) (.slice none 0 0) (.slice none 0 0)
  have HCS : Hid (Ch (fun x => x = R) w5 (setM w5 R ⟨k, nd, 0, m.B, m.A, 0, [], [], []⟩ (.slice ra a.h.E.length rc) (.slice none 0 0) (.slice none 0 0))) := ch_setM _ _ _ _ _ _
  go_wp2_with fail
  show bodyPost _ _ _ _ _ (setM w5 R ⟨k, nd, 0, m.B, m.A, 0, [], [], []⟩ (.slice ra a.h.E.length rc) (.slice none 0 0) (.slice none 0 0))
  clear x0 x1 x2 x3 x4 x5 x6 x7 x8 y0 y1 y2 y3 y4 y5 y6 y7 y8 hz
  generalize setM w5 R ⟨k, nd, 0, m.B, m.A, 0, [], [], []⟩ (.slice ra a.h.E.length rc) (.slice none 0 0) (.slice none 0 0) = w9 at HR HCS ⊢
  have y0 := HR.out.c0
  have y1 := HR.out.c1
  have y2 := HR.out.c2
  have y3 := HR.out.c3
  have y4 := HR.out.c4
  have y5 := HR.out.c5
  have y6 := HR.out.c6
  have y7 := HR.out.c7
  have y8 := HR.out.c8
  refine bodyPost_ret (v := .agg #[.int .i64 k, .int .i64 nd, .int .i64 0, .int .i64 m.B, .int .i64 m.A, .int .i64 0, .slice ra a.h.E.length rc, .slice none 0 0, .slice none 0 0]) (by simp [results, Tryz.results92, go_sem, y0, y1, y2, y3, y4, y5, y6, y7, y8]) rfl ?_
  have hc : Ch (fun x => x = O ∨ x = R) w4 w9 := (HC5.out.mono (fun x h => .inl h)).trans HCS.out (fun x h => .inl (.inr h))
  refine ⟨_, rfl, own_baseC (own_ch HRW.out hc (fun x hx e => by have h1 := (HRW.out.lt x hx).1; have h2 := HL4.out; rcases e with e | e <;> omega)) HB3.out.size, HB4.out.trans (hc.to_below HB4.out.size (fun x e => by have h1 := HOL.out.1; have h2 := HRL.out; rcases e with e | e <;> omega))⟩
end Go.Proofs.YtopjedgknbbgkaaGreat
