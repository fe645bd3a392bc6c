/- The walk of NetMemory. -/
import Derived.Test.YtonnlhehbhiiiaaMa

namespace Go.Proofs.Ytonnlhehbhiiiaa

open Go.RowKit



theorem p73_ok : (Pr.mk 73 ⟨false, 0⟩).ok := ⟨by show (73 : Nat) < 18446744073709551616; decide, by show (0 : Nat) < 18446744073709551616; decide⟩
theorem ml_form2 {w : World} {m : Ms} {e q p : Value} (h : ML w m e q p) : ∃ ea ec qa qc pa pc, e = .slice ea m.E.length ec ∧ q = .slice qa m.Q.length qc ∧ p = .slice pa m.P.length pc := by
  obtain ⟨ea, n1, ec, e1, h1, _⟩ := sv_le h.e
  obtain ⟨qa, n2, qc, e2, h2, _⟩ := sv_le h.q
  obtain ⟨pa, n3, pc, e3, h3, _⟩ := qv_le h.p
  rw [ib_len] at h2
  exact ⟨_, _, _, _, _, _, by rw [e1, h1], by rw [e2, h2], by rw [e3, h3]⟩
theorem row_flM {w : World} {B g n cap : Nat} {F : List En} (h : w.ownsRow B 55 10 (.slice (some ⟨g, 0, none⟩) n cap) n (flatF F)) : ∀ j u, (flatF F)[j]? = some u → w.cell? ⟨g, j, none⟩ = some u := by
  intro j u hj
  obtain ⟨h1, h2⟩ := h
  rcases h2 with ⟨h3, _⟩ | ⟨g', cap', cur, e1, hg, hh, hnc, hcm, hcs, htk⟩
  · cases h3
  · cases e1
    rw [cell_of_row w g j cur _ (0, 0) hh]
    rw [← htk, List.getElem?_take] at hj
    split at hj
    · simpa using hj
    · cases hj
theorem own_chG' {D : Nat → Prop} {w w' : World} {base e size n : Nat} {v : Value} {xs : List Value} (h : w.ownsRow base e size v n xs) (hc : Ch D w w') (hd : ∀ x, v.ownBlock = some x → ¬ D x) : w'.ownsRow base e size v n xs := by
  refine ⟨h.1, ?_⟩
  rcases h.2 with h' | ⟨g, cap, cur, hv, hg, hh, r⟩
  · exact .inl h'
  · exact .inr ⟨g, cap, cur, hv, hg, by rw [hc.block g ((Array.getElem?_eq_some_iff.1 hh).1) (hd g (by rw [hv]; rfl))]; exact hh, r⟩
theorem row_formQ {w : World} {base e s n : Nat} {v : Value} {xs : List Value} (h : w.ownsRow base e s v n xs) (hn : 0 < n) : ∃ g cap, v = .slice (some ⟨g, 0, none⟩) n cap ∧ n ≤ cap ∧ cap ≤ maxLen ∧ base ≤ g ∧ g < w.heap.size := by
  rcases h.2 with ⟨_, h0⟩ | ⟨g, cap, cur, rfl, hg, hh, hnc, hcm, hcs, htk⟩
  · omega
  · exact ⟨g, cap, rfl, hnc, hcm, hg, (Array.getElem?_eq_some_iff.1 hh).1⟩


set_option maxRecDepth 100000 in
set_option maxHeartbeats 16000000 in
theorem netmemory_walk {w : World} {m : Ms} {ev qv pv : Value} (h : ML w m ev qv pv) (hok : m.ok) (hE : m.E.length * 8 ≤ 140737488351232) (hQ : m.Q.length * 8 ≤ 140737488351232) (hPl : m.P.length * 24 ≤ 140737488351232) :
    Calls Try.prog 5 #[.agg #[.int .i64 m.K, .int .i64 m.F, .int .i64 m.T, .int .i64 m.B, .int .i64 m.A, .int .i64 m.C, ev, qv, pv]] w fun e w' => e = .returned (.bool true) ∧ Below w.heap.size w w' := by
  have HL : Hid (ML w m ev qv pv) := h
  have HK : Hid (m.ok) := hok
  have HSZ : Hid (m.E.length * 8 ≤ 140737488351232 ∧ m.Q.length * 8 ≤ 140737488351232 ∧ m.P.length * 24 ≤ 140737488351232) := ⟨hE, hQ, hPl⟩
  obtain ⟨ea, en, ec, rfl, he, hem⟩ := sv_le h.e
  obtain ⟨qa, qn, qc, rfl, hq, hqm⟩ := sv_le h.q
  obtain ⟨pa, pn, pc, rfl, hp, hpm⟩ := qv_le h.p
  rw [ib_len] at hq
  have hen : (m.E.length : Int) ≤ 17592186043904 := by omega
  have hqn : (m.Q.length : Int) ≤ 17592186043904 := by omega
  have hpn : (m.P.length : Int) ≤ 17592186043904 := by omega
  subst he hq hp
  clear h hok hE hQ hPl hem hqm hpm
  have HM0 : Hid _ := mx_new w m (.slice ea m.E.length ec) (.slice qa m.Q.length qc) (.slice pa m.P.length pc)
  have HB0 : Hid _ := below_alloc w (Obj.cells #[.int .i64 m.K, .int .i64 m.F, .int .i64 m.T, .int .i64 m.B, .int .i64 m.A, .int .i64 m.C, .slice ea m.E.length ec, .slice qa m.Q.length qc, .slice pa m.P.length pc] 35)
  go_enter Try.func5, Try.ntmps5
  go_upto_region 1 with fail
  obtain ⟨M0, hM⟩ : ∃ M0, M0 = w.heap.size := ⟨_, rfl⟩
  have HML : Hid (w.heap.size ≤ M0) := by show _ ≤ _; omega
  rw [← hM] at HM0 ⊢
  clear hM
  generalize w.alloc (Obj.cells #[.int .i64 m.K, .int .i64 m.F, .int .i64 m.T, .int .i64 m.B, .int .i64 m.A, .int .i64 m.C, .slice ea m.E.length ec, .slice qa m.Q.length qc, .slice pa m.P.length pc] 35) = w0 at HM0 HB0 ⊢
  go_wp2_with fail
  refine (awake_walk _).mono ?_
  rintro e w1 ⟨rfl, hB⟩
  have HM1 : Hid _ := HM0.out.keep hB
  have HB1 : Hid (Below w.heap.size w w1) := below_trans HB0.out hB
  clear hB HM0 HB0
  go_wp2_with fail
  refine (new_walk (k := 9) (by decide) w1).mono ?_
  rintro e w2 ⟨P, b, rfl, hn, hP, hb, hB⟩
  have HN2 : Hid (Nt w2 P b 9 0 []) := hn
  have HM2 : Hid _ := HM1.out.keep hB
  have HB2 : Hid (Below w.heap.size w w2) := below_trans HB1.out hB
  have HPB : Hid (w.heap.size ≤ P ∧ w.heap.size ≤ b ∧ M0 < P ∧ M0 < b) := by have h1 := HB1.out.size; have h2 := cell_lt HM1.out.c0; simp only at h2; exact ⟨by omega, by omega, by omega, by omega⟩
  clear hn hP hb hB HM1 HB1
  have y0 := HM2.out.c0
  have y1 := HM2.out.c1
  have y2 := HM2.out.c2
  have y3 := HM2.out.c3
  have y4 := HM2.out.c4
  have y5 := HM2.out.c5
  have y6 := HM2.out.c6
  have y7 := HM2.out.c7
  have y8 := HM2.out.c8
  go_upto_region 7 with fail
  have HX3 : Hid _ := mx_new w2 m (.slice ea m.E.length ec) (.slice qa m.Q.length qc) (.slice pa m.P.length pc)
  have HB2a : Hid _ := below_alloc w2 (Obj.cells #[.int .i64 m.K, .int .i64 m.F, .int .i64 m.T, .int .i64 m.B, .int .i64 m.A, .int .i64 m.C, .slice ea m.E.length ec, .slice qa m.Q.length qc, .slice pa m.P.length pc] 35)
  have HM3 : Hid _ := mx_old HM2.out (Obj.cells #[.int .i64 m.K, .int .i64 m.F, .int .i64 m.T, .int .i64 m.B, .int .i64 m.A, .int .i64 m.C, .slice ea m.E.length ec, .slice qa m.Q.length qc, .slice pa m.P.length pc] 35)
  obtain ⟨X, hX⟩ : ∃ X, X = w2.heap.size := ⟨_, rfl⟩
  have HXL : Hid (w.heap.size ≤ X ∧ M0 < X ∧ P < X ∧ b < X) := by have h1 := HB2.out.size; have h2 := cell_lt HM2.out.c0; have h3 := HN2.out.ltP; have h4 := HN2.out.ltb; simp only at h2; exact ⟨by omega, by omega, by omega, by omega⟩
  rw [← hX] at HX3 ⊢
  clear hX y0 y1 y2 y3 y4 y5 y6 y7 y8
  generalize w2.alloc (Obj.cells #[.int .i64 m.K, .int .i64 m.F, .int .i64 m.T, .int .i64 m.B, .int .i64 m.A, .int .i64 m.C, .slice ea m.E.length ec, .slice qa m.Q.length qc, .slice pa m.P.length pc] 35) = w3 at HX3 HB2a HM3 ⊢
  have HN3 : Hid _ := HN2.out.below HB2a.out
  have HB3 : Hid (Below w.heap.size w w3) := below_trans HB2.out HB2a.out
  have HXW : Hid (X < w3.heap.size) := cell_lt HX3.out.c0
  clear HN2 HM2 HB2 HB2a
  have HXW0 : Hid (X < w3.heap.size) := HXW.out
  have HLi : Hid _ := HL.out.below HB3.out
  have HMi : Hid _ := HM3.out
  have HXi : Hid _ := HX3.out
  have HSF : Hid (∀ wx, Below w3.heap.size w3 wx → wx.cell? ⟨M0, 6, none⟩ = some (.slice ea m.E.length ec)) := fun wx hx => (HMi.out.keep hx).c6
  go_cut [] (fun wx => ∃ g cap, m.E.length ≤ cap ∧ cap ≤ maxLen ∧ w3.heap.size ≤ g ∧ wx.ownsRow w3.heap.size 3 1 (.slice (some ⟨g, 0, none⟩) m.E.length cap) m.E.length (m.E.map (Value.int .i64)) ∧ MX wx X m (.slice (some ⟨g, 0, none⟩) m.E.length cap) (.slice qa m.Q.length qc) (.slice pa m.P.length pc) ∧ Ch (fun y => y = X) w3 wx)
  case first =>
    as_aux_lemma =>
      refine wp_region_noPanic ?_
      refine wp_region_held_drew (S := fun wx => wx.cell? ⟨M0, 6, none⟩ = some (.slice ea m.E.length ec)) (by kernel_rfl) ?_ (fun hHeld => ?_)
      · exact HSF.out _ (below_drewN w3 1)
      obtain ⟨wd, hwd⟩ : ∃ x, x = w3.drew := ⟨_, rfl⟩
      rw [← hwd]
      have HBd : Hid (Below w3.heap.size w3 wd) := by rw [hwd]; exact below_drewN w3 1
      rw [← hwd] at hHeld
      clear hwd
      have HLd : Hid _ := HLi.out.below HBd.out
      refine wpAnyH_take (i := 1) (oi := ⟨some 33, _, _, _, _, _⟩) (v := ?_) rfl (by kernel_rfl) (by kernel_rfl) (by kernel_rfl) (fun _ _ _ h => h) (Or.inl ⟨by rfl, ?_⟩) hHeld ?_
      rotate_left
      · intro w hSw; (try dsimp only at hSw); go_simp; all_goals (with_reducible rfl)
      try simp only [Act.put, List.setIfInBounds_toArray, List.set_cons_zero, List.set_cons_succ]
      refine wpAnyH_take (i := 2) (oi := ⟨some 34, _, _, _, _, _⟩) (v := ?_) rfl (by kernel_rfl) (by kernel_rfl) (by kernel_rfl) (fun _ _ _ h => h) (Or.inl ⟨by rfl, ?_⟩) hHeld ?_
      rotate_left
      · intro w hSw; (try dsimp only at hSw); go_simp; all_goals (with_reducible rfl)
      try simp only [Act.put, List.setIfInBounds_toArray, List.set_cons_zero, List.set_cons_succ]
      refine wpAnyH_take (i := 6) (oi := ⟨some 38, _, _, _, _, _⟩) (v := ?_) rfl (by kernel_rfl) (by kernel_rfl) (by kernel_rfl) (fun _ _ _ h => h) (Or.inl ⟨by rfl, ?_⟩) hHeld ?_
      rotate_left
      · intro w hSw; (try dsimp only at hSw); go_simp; all_goals (with_reducible rfl)
      try simp only [Act.put, List.setIfInBounds_toArray, List.set_cons_zero, List.set_cons_succ]
      refine wpAnyH_take (i := 7) (oi := ⟨some 39, _, _, _, _, _⟩) (v := ?_) rfl (by kernel_rfl) (by kernel_rfl) (by kernel_rfl) (fun _ _ _ h => h) (Or.inl ⟨by rfl, ?_⟩) hHeld ?_
      rotate_left
      · intro w hSw; (try dsimp only at hSw); go_simp; all_goals (with_reducible rfl)
      try simp only [Act.put, List.setIfInBounds_toArray, List.set_cons_zero, List.set_cons_succ]
      refine wpAnyH_take (i := 8) (oi := ⟨some 40, _, _, _, _, _⟩) (v := ?_) rfl (by kernel_rfl) (by kernel_rfl) (by kernel_rfl) (fun _ _ _ h => h) (Or.inl ⟨by rfl, ?_⟩) hHeld ?_
      rotate_left
      · intro w hSw; (try dsimp only at hSw); go_simp; all_goals (with_reducible rfl)
      try simp only [Act.put, List.setIfInBounds_toArray, List.set_cons_zero, List.set_cons_succ]
      refine wpAnyH_ready (rs := [0, 4]) (by kernel_rfl) (by simp) ?_
      refine AllReadyH.cons (o := ⟨some 32, _, _, _, _, _⟩) rfl (fun K hK => ?_) (AllReadyH.cons (o := ⟨some 36, _, _, _, _, _⟩) rfl (fun K hK => ?_) AllReadyH.nil)
      · go_simp
        refine hK.out _ _ ?_ (fun hHeld => ?_)
        · exact (HSF.out _ (below_trans HBd.out (below_trans (Below.refl _ wd) (below_alloc _ _))))
        clear hK K
        try simp only [Act.put, List.setIfInBounds_toArray, List.set_cons_zero, List.set_cons_succ]
        refine wpAnyH_ready (rs := [3, 4]) (by kernel_rfl) (by simp) ?_
        refine AllReadyH.cons (o := ⟨some 35, _, _, _, _, _⟩) rfl (fun K hK => ?_) (AllReadyH.cons (o := ⟨some 36, _, _, _, _, _⟩) rfl (fun K hK => ?_) AllReadyH.nil)
        · have hbl := (below_alloc wd (Obj.cells #[] 3))
          refine step_app_sv rfl (.tmp 32) (.tmp 34) 31 rfl w3.heap.size 3 .i64 Try.underlying31 info_intN (.slice (some ⟨wd.heap.size, 0, none⟩) 0 0) 0 [] (by simp [Act.eval]) (by simpa using (own_make0 wd _ _ HBd.out.size)) _ _ (by simp [Act.eval]) ((HLd.out.below (below_alloc wd (Obj.cells #[] 3))).e) (by have := HSZ.out; omega) (by have h2 := HBd.out.size; have h3 := ((below_alloc wd (Obj.cells #[] 3)) : Below _ _ _).size; omega) ?_
          intro v5 wq5 hown hgrow hat
          rw [Nat.zero_add, List.nil_append] at hown
          have hc5 : Ch (fun y => y = wd.heap.size) (wd.alloc (Obj.cells #[] 3)) wq5 := Ch.of_grown hgrow (fun y hy => by cases hy; rfl)
          have HB5 : Hid (Below w3.heap.size w3 wq5) := (below_trans HBd.out hbl).trans (hc5.to_below (below_trans HBd.out hbl).size (fun y hy => by have := HBd.out.size; omega))
          have HO5 : Hid (wq5.ownsRow w3.heap.size 3 1 v5 m.E.length (m.E.map (Value.int .i64))) := hown
          obtain ⟨a5, c5, e5⟩ := own_formN hown
          subst e5
          clear hown hgrow hat hc5 hbl
          refine hK.out _ _ ?_ (fun hHeld => ?_)
          · exact (HSF.out _ HB5.out)
          clear hK K
          try simp only [Act.put, List.setIfInBounds_toArray, List.set_cons_zero, List.set_cons_succ]
          refine wpAnyH_ready (rs := [4]) (by kernel_rfl) (by simp) ?_
          refine AllReadyH.cons (o := ⟨some 36, _, _, _, _, _⟩) rfl (fun K hK => ?_) AllReadyH.nil
          go_simp
          refine hK.out _ _ ?_ (fun hHeld => ?_)
          · exact (HSF.out _ (below_trans HB5.out (below_alloc _ _)))
          clear hK K
          try simp only [Act.put, List.setIfInBounds_toArray, List.set_cons_zero, List.set_cons_succ]
          refine wpAnyH_ready (rs := [5]) (by kernel_rfl) (by simp) ?_
          refine AllReadyH.cons (o := ⟨some 37, _, _, _, _, _⟩) rfl (fun K hK => ?_) AllReadyH.nil
          refine step_app_sv rfl (.tmp 35) (.tmp 36) 31 rfl w3.heap.size 3 .i64 Try.underlying31 info_intN (.slice a5 m.E.length c5) m.E.length (m.E.map (Value.int .i64)) (by simp [Act.eval]) (own_belowC HO5.out (below_alloc _ _)) (.slice (some ⟨wq5.heap.size, 0, none⟩) 1 1) [71] (by simp [Act.eval]) (sv_one .i64 wq5 3 71) (by have := HSZ.out; simp only [List.length_singleton]; omega) ((below_trans HB5.out (below_alloc wq5 (Obj.cells #[.int .i64 71] 3))) : Below _ _ _).size ?_
          intro v6 wq6 hown hgrow hat
          have hc6 : Ch (fun y => (Value.slice a5 m.E.length c5).ownBlock = some y) (wq5.alloc (Obj.cells #[.int .i64 71] 3)) wq6 := Ch.of_grown hgrow (fun y hy => hy)
          have HB6 : Hid (Below w3.heap.size w3 wq6) := ((below_trans HB5.out (below_alloc wq5 (Obj.cells #[.int .i64 71] 3))) : Below _ _ _).trans (hc6.to_below ((below_trans HB5.out (below_alloc wq5 (Obj.cells #[.int .i64 71] 3))) : Below _ _ _).size (fun y hy => (HO5.out.lt y hy).1))
          obtain ⟨g, cap, e6, hcap, hcm, hNg, hgw⟩ := row_formQ hown (by simp)
          subst e6
          have HO6 : Hid (wq6.ownsRow w3.heap.size 3 1 (.slice (some ⟨g, 0, none⟩) m.E.length cap) m.E.length (m.E.map (Value.int .i64))) := by have h := own_cutN hown (k := m.E.length) (Nat.le_add_right _ _); rw [Nat.mul_one, List.take_left' (by simp)] at h; exact h
          have HCP : Hid (m.E.length < cap ∧ cap ≤ maxLen ∧ w3.heap.size ≤ g) := ⟨by simp at hcap; omega, hcm, hNg⟩
          have HX6 : Hid _ := HXi.out.keep HB6.out
          have HM6 : Hid _ := HMi.out.keep HB6.out
          have hcI : ((m.E.length : Nat) : Int) ≤ (cap : Int) := by have := HCP.out; omega
          clear hown hgrow hat hc6 hcap hcm hNg hgw
          refine hK.out _ _ ?_ (fun hHeld => ?_)
          · exact HM6.out.c6
          clear hK K
          try simp only [Act.put, List.setIfInBounds_toArray, List.set_cons_zero, List.set_cons_succ]
          refine wpAnyH_take (i := 9) (oi := ⟨some 41, _, _, _, _, _⟩) (v := ?_) rfl (by kernel_rfl) (by kernel_rfl) (by kernel_rfl) (fun _ _ _ h => h) (Or.inl ⟨by rfl, ?_⟩) hHeld ?_
          rotate_left
          · intro w hSw; (try dsimp only at hSw); go_simp; all_goals (with_reducible rfl)
          try simp only [Act.put, List.setIfInBounds_toArray, List.set_cons_zero, List.set_cons_succ]
          refine wpAnyH_take (i := 10) (oi := ⟨some 42, _, _, _, _, _⟩) (v := ?_) rfl (by kernel_rfl) (by kernel_rfl) (by kernel_rfl) (fun _ _ _ h => h) (Or.inl ⟨by rfl, ?_⟩) hHeld ?_
          rotate_left
          · intro w hSw; (try dsimp only at hSw); go_simp; all_goals (with_reducible rfl)
          try simp only [Act.put, List.setIfInBounds_toArray, List.set_cons_zero, List.set_cons_succ]
          refine wpAnyH_ready (rs := [11]) (by kernel_rfl) (by simp) ?_
          refine AllReadyH.cons (o := ⟨none, _, _, _, _, _⟩) rfl (fun K hK => ?_) AllReadyH.nil
          have xf := HX6.out.c6
          have xz := HX6.out.z 6
          go_simp
          clear xf xz
          refine hK.out _ _ ?_ (fun hHeld => ?_)
          · exact (HM6.out.ch (ch_set wq6 X 6 _) (show ¬ M0 = X by have := HXL.out; omega)).c6
          clear hK K
          try simp only [Act.put, List.setIfInBounds_toArray, List.set_cons_zero, List.set_cons_succ]
          refine wpAnyH_done (by kernel_rfl) ?_ _
          refine NoPanic.normal ?_
          go_wp2_with fail
          go_meet
          exact ⟨g, cap, Nat.le_of_lt HCP.out.1, HCP.out.2.1, HCP.out.2.2, own_chG' HO6.out (ch_set wq6 X 6 (.slice (some ⟨g, 0, none⟩) m.E.length cap)) (fun y hy e => by have hy' : g = y := Option.some.inj hy; have h1 := HXW0.out; have h2 := HCP.out.2.2; omega), HX6.out.s6 (.slice (some ⟨g, 0, none⟩) m.E.length cap), (Ch.of_below HB6.out).trans (ch_set wq6 X 6 (.slice (some ⟨g, 0, none⟩) m.E.length cap)) (fun y hy => .inl hy)⟩
        · go_simp
          refine hK.out _ _ ?_ (fun hHeld => ?_)
          · exact (HSF.out _ (below_trans HBd.out (below_trans (below_alloc _ _) (below_alloc _ _))))
          clear hK K
          try simp only [Act.put, List.setIfInBounds_toArray, List.set_cons_zero, List.set_cons_succ]
          refine wpAnyH_ready (rs := [3]) (by kernel_rfl) (by simp) ?_
          refine AllReadyH.cons (o := ⟨some 35, _, _, _, _, _⟩) rfl (fun K hK => ?_) AllReadyH.nil
          have hbl := (below_trans (below_alloc wd (Obj.cells #[] 3)) (below_alloc _ (Obj.cells #[.int .i64 71] 3)))
          refine step_app_sv rfl (.tmp 32) (.tmp 34) 31 rfl w3.heap.size 3 .i64 Try.underlying31 info_intN (.slice (some ⟨wd.heap.size, 0, none⟩) 0 0) 0 [] (by simp [Act.eval]) (by simpa using ((own_make0 wd _ _ HBd.out.size).alloc _)) _ _ (by simp [Act.eval]) ((HLd.out.below (below_trans (below_alloc wd (Obj.cells #[] 3)) (below_alloc _ (Obj.cells #[.int .i64 71] 3)))).e) (by have := HSZ.out; omega) (by have h2 := HBd.out.size; have h3 := ((below_trans (below_alloc wd (Obj.cells #[] 3)) (below_alloc _ (Obj.cells #[.int .i64 71] 3))) : Below _ _ _).size; omega) ?_
          intro v5 wq5 hown hgrow hat
          rw [Nat.zero_add, List.nil_append] at hown
          have hc5 : Ch (fun y => y = wd.heap.size) ((wd.alloc (Obj.cells #[] 3)).alloc (Obj.cells #[.int .i64 71] 3)) wq5 := Ch.of_grown hgrow (fun y hy => by cases hy; rfl)
          have HB5 : Hid (Below w3.heap.size w3 wq5) := (below_trans HBd.out hbl).trans (hc5.to_below (below_trans HBd.out hbl).size (fun y hy => by have := HBd.out.size; omega))
          have HO5 : Hid (wq5.ownsRow w3.heap.size 3 1 v5 m.E.length (m.E.map (Value.int .i64))) := hown
          have h7 := (sv_one .i64 (wd.alloc (Obj.cells #[] 3)) 3 71)
          (try rw [size_allocC] at h7)
          have H7 : Hid (Sv .i64 wq5 (.slice (some ⟨(wd.heap.size + 1), 0, none⟩) 1 1) [71]) := Sv.ch h7 hc5 (fun y hy _ e => by have hy' : (wd.heap.size + 1) = y := Option.some.inj hy; omega)
          obtain ⟨a5, c5, e5⟩ := own_formN hown
          subst e5
          clear hown hgrow hat hc5 hbl h7
          refine hK.out _ _ ?_ (fun hHeld => ?_)
          · exact (HSF.out _ HB5.out)
          clear hK K
          try simp only [Act.put, List.setIfInBounds_toArray, List.set_cons_zero, List.set_cons_succ]
          refine wpAnyH_ready (rs := [5]) (by kernel_rfl) (by simp) ?_
          refine AllReadyH.cons (o := ⟨some 37, _, _, _, _, _⟩) rfl (fun K hK => ?_) AllReadyH.nil
          refine step_app_sv rfl (.tmp 35) (.tmp 36) 31 rfl w3.heap.size 3 .i64 Try.underlying31 info_intN (.slice a5 m.E.length c5) m.E.length (m.E.map (Value.int .i64)) (by simp [Act.eval]) HO5.out (.slice (some ⟨(wd.heap.size + 1), 0, none⟩) 1 1) [71] (by simp [Act.eval]) H7.out (by have := HSZ.out; simp only [List.length_singleton]; omega) (HB5.out : Below _ _ _).size ?_
          intro v6 wq6 hown hgrow hat
          have hc6 : Ch (fun y => (Value.slice a5 m.E.length c5).ownBlock = some y) wq5 wq6 := Ch.of_grown hgrow (fun y hy => hy)
          have HB6 : Hid (Below w3.heap.size w3 wq6) := (HB5.out : Below _ _ _).trans (hc6.to_below (HB5.out : Below _ _ _).size (fun y hy => (HO5.out.lt y hy).1))
          obtain ⟨g, cap, e6, hcap, hcm, hNg, hgw⟩ := row_formQ hown (by simp)
          subst e6
          have HO6 : Hid (wq6.ownsRow w3.heap.size 3 1 (.slice (some ⟨g, 0, none⟩) m.E.length cap) m.E.length (m.E.map (Value.int .i64))) := by have h := own_cutN hown (k := m.E.length) (Nat.le_add_right _ _); rw [Nat.mul_one, List.take_left' (by simp)] at h; exact h
          have HCP : Hid (m.E.length < cap ∧ cap ≤ maxLen ∧ w3.heap.size ≤ g) := ⟨by simp at hcap; omega, hcm, hNg⟩
          have HX6 : Hid _ := HXi.out.keep HB6.out
          have HM6 : Hid _ := HMi.out.keep HB6.out
          have hcI : ((m.E.length : Nat) : Int) ≤ (cap : Int) := by have := HCP.out; omega
          clear hown hgrow hat hc6 hcap hcm hNg hgw
          refine hK.out _ _ ?_ (fun hHeld => ?_)
          · exact HM6.out.c6
          clear hK K
          try simp only [Act.put, List.setIfInBounds_toArray, List.set_cons_zero, List.set_cons_succ]
          refine wpAnyH_take (i := 9) (oi := ⟨some 41, _, _, _, _, _⟩) (v := ?_) rfl (by kernel_rfl) (by kernel_rfl) (by kernel_rfl) (fun _ _ _ h => h) (Or.inl ⟨by rfl, ?_⟩) hHeld ?_
          rotate_left
          · intro w hSw; (try dsimp only at hSw); go_simp; all_goals (with_reducible rfl)
          try simp only [Act.put, List.setIfInBounds_toArray, List.set_cons_zero, List.set_cons_succ]
          refine wpAnyH_take (i := 10) (oi := ⟨some 42, _, _, _, _, _⟩) (v := ?_) rfl (by kernel_rfl) (by kernel_rfl) (by kernel_rfl) (fun _ _ _ h => h) (Or.inl ⟨by rfl, ?_⟩) hHeld ?_
          rotate_left
          · intro w hSw; (try dsimp only at hSw); go_simp; all_goals (with_reducible rfl)
          try simp only [Act.put, List.setIfInBounds_toArray, List.set_cons_zero, List.set_cons_succ]
          refine wpAnyH_ready (rs := [11]) (by kernel_rfl) (by simp) ?_
          refine AllReadyH.cons (o := ⟨none, _, _, _, _, _⟩) rfl (fun K hK => ?_) AllReadyH.nil
          have xf := HX6.out.c6
          have xz := HX6.out.z 6
          go_simp
          clear xf xz
          refine hK.out _ _ ?_ (fun hHeld => ?_)
          · exact (HM6.out.ch (ch_set wq6 X 6 _) (show ¬ M0 = X by have := HXL.out; omega)).c6
          clear hK K
          try simp only [Act.put, List.setIfInBounds_toArray, List.set_cons_zero, List.set_cons_succ]
          refine wpAnyH_done (by kernel_rfl) ?_ _
          refine NoPanic.normal ?_
          go_wp2_with fail
          go_meet
          exact ⟨g, cap, Nat.le_of_lt HCP.out.1, HCP.out.2.1, HCP.out.2.2, own_chG' HO6.out (ch_set wq6 X 6 (.slice (some ⟨g, 0, none⟩) m.E.length cap)) (fun y hy e => by have hy' : g = y := Option.some.inj hy; have h1 := HXW0.out; have h2 := HCP.out.2.2; omega), HX6.out.s6 (.slice (some ⟨g, 0, none⟩) m.E.length cap), (Ch.of_below HB6.out).trans (ch_set wq6 X 6 (.slice (some ⟨g, 0, none⟩) m.E.length cap)) (fun y hy => .inl hy)⟩
      · go_simp
        refine hK.out _ _ ?_ (fun hHeld => ?_)
        · exact (HSF.out _ (below_trans HBd.out (below_alloc _ _)))
        clear hK K
        try simp only [Act.put, List.setIfInBounds_toArray, List.set_cons_zero, List.set_cons_succ]
        refine wpAnyH_ready (rs := [0]) (by kernel_rfl) (by simp) ?_
        refine AllReadyH.cons (o := ⟨some 32, _, _, _, _, _⟩) rfl (fun K hK => ?_) AllReadyH.nil
        go_simp
        refine hK.out _ _ ?_ (fun hHeld => ?_)
        · exact (HSF.out _ (below_trans HBd.out (below_trans (below_alloc wd (Obj.cells #[.int .i64 71] 3)) (below_alloc _ _))))
        clear hK K
        try simp only [Act.put, List.setIfInBounds_toArray, List.set_cons_zero, List.set_cons_succ]
        refine wpAnyH_ready (rs := [3]) (by kernel_rfl) (by simp) ?_
        refine AllReadyH.cons (o := ⟨some 35, _, _, _, _, _⟩) rfl (fun K hK => ?_) AllReadyH.nil
        have hbl := (below_trans (below_alloc wd (Obj.cells #[.int .i64 71] 3)) (below_alloc _ (Obj.cells #[] 3)))
        refine step_app_sv rfl (.tmp 32) (.tmp 34) 31 rfl w3.heap.size 3 .i64 Try.underlying31 info_intN (.slice (some ⟨(wd.heap.size + 1), 0, none⟩) 0 0) 0 [] (by simp [Act.eval]) (by simpa using (own_make0 (wd.alloc (Obj.cells #[.int .i64 71] 3)) _ _ (by rw [size_allocC]; have h2 := HBd.out.size; omega))) _ _ (by simp [Act.eval]) ((HLd.out.below (below_trans (below_alloc wd (Obj.cells #[.int .i64 71] 3)) (below_alloc _ (Obj.cells #[] 3)))).e) (by have := HSZ.out; omega) (by have h2 := HBd.out.size; have h3 := ((below_trans (below_alloc wd (Obj.cells #[.int .i64 71] 3)) (below_alloc _ (Obj.cells #[] 3))) : Below _ _ _).size; omega) ?_
        intro v5 wq5 hown hgrow hat
        rw [Nat.zero_add, List.nil_append] at hown
        have hc5 : Ch (fun y => y = (wd.heap.size + 1)) ((wd.alloc (Obj.cells #[.int .i64 71] 3)).alloc (Obj.cells #[] 3)) wq5 := Ch.of_grown hgrow (fun y hy => by cases hy; rfl)
        have HB5 : Hid (Below w3.heap.size w3 wq5) := (below_trans HBd.out hbl).trans (hc5.to_below (below_trans HBd.out hbl).size (fun y hy => by have := HBd.out.size; omega))
        have HO5 : Hid (wq5.ownsRow w3.heap.size 3 1 v5 m.E.length (m.E.map (Value.int .i64))) := hown
        have h7 := (sv_one .i64 wd 3 71).below (below_alloc _ (Obj.cells #[] 3))
        (try rw [size_allocC] at h7)
        have H7 : Hid (Sv .i64 wq5 (.slice (some ⟨wd.heap.size, 0, none⟩) 1 1) [71]) := Sv.ch h7 hc5 (fun y hy _ e => by have hy' : wd.heap.size = y := Option.some.inj hy; omega)
        obtain ⟨a5, c5, e5⟩ := own_formN hown
        subst e5
        clear hown hgrow hat hc5 hbl h7
        refine hK.out _ _ ?_ (fun hHeld => ?_)
        · exact (HSF.out _ HB5.out)
        clear hK K
        try simp only [Act.put, List.setIfInBounds_toArray, List.set_cons_zero, List.set_cons_succ]
        refine wpAnyH_ready (rs := [5]) (by kernel_rfl) (by simp) ?_
        refine AllReadyH.cons (o := ⟨some 37, _, _, _, _, _⟩) rfl (fun K hK => ?_) AllReadyH.nil
        refine step_app_sv rfl (.tmp 35) (.tmp 36) 31 rfl w3.heap.size 3 .i64 Try.underlying31 info_intN (.slice a5 m.E.length c5) m.E.length (m.E.map (Value.int .i64)) (by simp [Act.eval]) HO5.out (.slice (some ⟨wd.heap.size, 0, none⟩) 1 1) [71] (by simp [Act.eval]) H7.out (by have := HSZ.out; simp only [List.length_singleton]; omega) (HB5.out : Below _ _ _).size ?_
        intro v6 wq6 hown hgrow hat
        have hc6 : Ch (fun y => (Value.slice a5 m.E.length c5).ownBlock = some y) wq5 wq6 := Ch.of_grown hgrow (fun y hy => hy)
        have HB6 : Hid (Below w3.heap.size w3 wq6) := (HB5.out : Below _ _ _).trans (hc6.to_below (HB5.out : Below _ _ _).size (fun y hy => (HO5.out.lt y hy).1))
        obtain ⟨g, cap, e6, hcap, hcm, hNg, hgw⟩ := row_formQ hown (by simp)
        subst e6
        have HO6 : Hid (wq6.ownsRow w3.heap.size 3 1 (.slice (some ⟨g, 0, none⟩) m.E.length cap) m.E.length (m.E.map (Value.int .i64))) := by have h := own_cutN hown (k := m.E.length) (Nat.le_add_right _ _); rw [Nat.mul_one, List.take_left' (by simp)] at h; exact h
        have HCP : Hid (m.E.length < cap ∧ cap ≤ maxLen ∧ w3.heap.size ≤ g) := ⟨by simp at hcap; omega, hcm, hNg⟩
        have HX6 : Hid _ := HXi.out.keep HB6.out
        have HM6 : Hid _ := HMi.out.keep HB6.out
        have hcI : ((m.E.length : Nat) : Int) ≤ (cap : Int) := by have := HCP.out; omega
        clear hown hgrow hat hc6 hcap hcm hNg hgw
        refine hK.out _ _ ?_ (fun hHeld => ?_)
        · exact HM6.out.c6
        clear hK K
        try simp only [Act.put, List.setIfInBounds_toArray, List.set_cons_zero, List.set_cons_succ]
        refine wpAnyH_take (i := 9) (oi := ⟨some 41, _, _, _, _, _⟩) (v := ?_) rfl (by kernel_rfl) (by kernel_rfl) (by kernel_rfl) (fun _ _ _ h => h) (Or.inl ⟨by rfl, ?_⟩) hHeld ?_
        rotate_left
        · intro w hSw; (try dsimp only at hSw); go_simp; all_goals (with_reducible rfl)
        try simp only [Act.put, List.setIfInBounds_toArray, List.set_cons_zero, List.set_cons_succ]
        refine wpAnyH_take (i := 10) (oi := ⟨some 42, _, _, _, _, _⟩) (v := ?_) rfl (by kernel_rfl) (by kernel_rfl) (by kernel_rfl) (fun _ _ _ h => h) (Or.inl ⟨by rfl, ?_⟩) hHeld ?_
        rotate_left
        · intro w hSw; (try dsimp only at hSw); go_simp; all_goals (with_reducible rfl)
        try simp only [Act.put, List.setIfInBounds_toArray, List.set_cons_zero, List.set_cons_succ]
        refine wpAnyH_ready (rs := [11]) (by kernel_rfl) (by simp) ?_
        refine AllReadyH.cons (o := ⟨none, _, _, _, _, _⟩) rfl (fun K hK => ?_) AllReadyH.nil
        have xf := HX6.out.c6
        have xz := HX6.out.z 6
        go_simp
        clear xf xz
        refine hK.out _ _ ?_ (fun hHeld => ?_)
        · exact (HM6.out.ch (ch_set wq6 X 6 _) (show ¬ M0 = X by have := HXL.out; omega)).c6
        clear hK K
        try simp only [Act.put, List.setIfInBounds_toArray, List.set_cons_zero, List.set_cons_succ]
        refine wpAnyH_done (by kernel_rfl) ?_ _
        refine NoPanic.normal ?_
        go_wp2_with fail
        go_meet
        exact ⟨g, cap, Nat.le_of_lt HCP.out.1, HCP.out.2.1, HCP.out.2.2, own_chG' HO6.out (ch_set wq6 X 6 (.slice (some ⟨g, 0, none⟩) m.E.length cap)) (fun y hy e => by have hy' : g = y := Option.some.inj hy; have h1 := HXW0.out; have h2 := HCP.out.2.2; omega), HX6.out.s6 (.slice (some ⟨g, 0, none⟩) m.E.length cap), (Ch.of_below HB6.out).trans (ch_set wq6 X 6 (.slice (some ⟨g, 0, none⟩) m.E.length cap)) (fun y hy => .inl hy)⟩
  case rest =>
    obtain ⟨g0, cap0, hc1, hm1, hn1, ho1, hx1, hch1⟩ := hcut
    obtain ⟨w4, hwj⟩ : ∃ x, x = wc := ⟨_, rfl⟩
    rw [← hwj] at ho1 hx1 hch1 ⊢
    clear hwj
    have HB4 : Hid (Below w.heap.size w w4) := HB3.out.trans (hch1.to_below HB3.out.size (fun y hy => by have := HXL.out; omega))
    have HMj : Hid _ := HMi.out.ch hch1 (show ¬ M0 = X by have := HXL.out; omega)
    have HN4 : Hid _ := HN3.out.ch hch1 (fun y hy hk => by have := HXL.out; rcases hk with e | e | ⟨z, hz, _⟩; omega; omega; simp at hz)
    have HXW1 : Hid (X < w4.heap.size) := by have h1 := HXW0.out; have h2 := hch1.size; show _ < _; omega
    have HSz0 : Hid (w3.heap.size ≤ w4.heap.size ∧ w3.heap.size ≤ g0) := ⟨hch1.size, hn1⟩
    have HR0 : Hid (w4.ownsRow w3.heap.size 3 1 (.slice (some ⟨g0, 0, none⟩) m.E.length cap0) m.E.length (m.E.map (Value.int .i64))) := ho1
    have HXj : Hid _ := hx1
    clear hc1 hm1 hn1 ho1 hx1 hch1 HSF HMi HXi HLi
    have HLi : Hid _ := HL.out.below HB4.out
    have HMi : Hid _ := HMj.out
    have HXi : Hid _ := HXj.out
    clear HMj HXj
    go_upto_region 8 with fail
    have HSF : Hid (∀ wx, Below w4.heap.size w4 wx → wx.cell? ⟨M0, 7, none⟩ = some (.slice qa m.Q.length qc)) := fun wx hx => (HMi.out.keep hx).c7
    go_cut [] (fun wx => ∃ g cap, m.Q.length ≤ cap ∧ cap ≤ maxLen ∧ w4.heap.size ≤ g ∧ wx.ownsRow w4.heap.size 56 1 (.slice (some ⟨g, 0, none⟩) m.Q.length cap) m.Q.length ((ib m.Q).map (Value.int .u64)) ∧ MX wx X m (.slice (some ⟨g0, 0, none⟩) m.E.length cap0) (.slice (some ⟨g, 0, none⟩) m.Q.length cap) (.slice pa m.P.length pc) ∧ Ch (fun y => y = X) w4 wx)
    case first =>
      as_aux_lemma =>
        refine wp_region_noPanic ?_
        refine wp_region_held_drew (S := fun wx => wx.cell? ⟨M0, 7, none⟩ = some (.slice qa m.Q.length qc)) (by kernel_rfl) ?_ (fun hHeld => ?_)
        · exact HSF.out _ (below_drewN w4 1)
        obtain ⟨wd, hwd⟩ : ∃ x, x = w4.drew := ⟨_, rfl⟩
        rw [← hwd]
        have HBd : Hid (Below w4.heap.size w4 wd) := by rw [hwd]; exact below_drewN w4 1
        rw [← hwd] at hHeld
        clear hwd
        have HLd : Hid _ := HLi.out.below HBd.out
        refine wpAnyH_take (i := 1) (oi := ⟨some 44, _, _, _, _, _⟩) (v := ?_) rfl (by kernel_rfl) (by kernel_rfl) (by kernel_rfl) (fun _ _ _ h => h) (Or.inl ⟨by rfl, ?_⟩) hHeld ?_
        rotate_left
        · intro w hSw; (try dsimp only at hSw); go_simp; all_goals (with_reducible rfl)
        try simp only [Act.put, List.setIfInBounds_toArray, List.set_cons_zero, List.set_cons_succ]
        refine wpAnyH_take (i := 2) (oi := ⟨some 45, _, _, _, _, _⟩) (v := ?_) rfl (by kernel_rfl) (by kernel_rfl) (by kernel_rfl) (fun _ _ _ h => h) (Or.inl ⟨by rfl, ?_⟩) hHeld ?_
        rotate_left
        · intro w hSw; (try dsimp only at hSw); go_simp; all_goals (with_reducible rfl)
        try simp only [Act.put, List.setIfInBounds_toArray, List.set_cons_zero, List.set_cons_succ]
        refine wpAnyH_take (i := 6) (oi := ⟨some 49, _, _, _, _, _⟩) (v := ?_) rfl (by kernel_rfl) (by kernel_rfl) (by kernel_rfl) (fun _ _ _ h => h) (Or.inl ⟨by rfl, ?_⟩) hHeld ?_
        rotate_left
        · intro w hSw; (try dsimp only at hSw); go_simp; all_goals (with_reducible rfl)
        try simp only [Act.put, List.setIfInBounds_toArray, List.set_cons_zero, List.set_cons_succ]
        refine wpAnyH_take (i := 7) (oi := ⟨some 50, _, _, _, _, _⟩) (v := ?_) rfl (by kernel_rfl) (by kernel_rfl) (by kernel_rfl) (fun _ _ _ h => h) (Or.inl ⟨by rfl, ?_⟩) hHeld ?_
        rotate_left
        · intro w hSw; (try dsimp only at hSw); go_simp; all_goals (with_reducible rfl)
        try simp only [Act.put, List.setIfInBounds_toArray, List.set_cons_zero, List.set_cons_succ]
        refine wpAnyH_take (i := 8) (oi := ⟨some 51, _, _, _, _, _⟩) (v := ?_) rfl (by kernel_rfl) (by kernel_rfl) (by kernel_rfl) (fun _ _ _ h => h) (Or.inl ⟨by rfl, ?_⟩) hHeld ?_
        rotate_left
        · intro w hSw; (try dsimp only at hSw); go_simp; all_goals (with_reducible rfl)
        try simp only [Act.put, List.setIfInBounds_toArray, List.set_cons_zero, List.set_cons_succ]
        refine wpAnyH_ready (rs := [0, 4]) (by kernel_rfl) (by simp) ?_
        refine AllReadyH.cons (o := ⟨some 43, _, _, _, _, _⟩) rfl (fun K hK => ?_) (AllReadyH.cons (o := ⟨some 47, _, _, _, _, _⟩) rfl (fun K hK => ?_) AllReadyH.nil)
        · go_simp
          refine hK.out _ _ ?_ (fun hHeld => ?_)
          · exact (HSF.out _ (below_trans HBd.out (below_trans (Below.refl _ wd) (below_alloc _ _))))
          clear hK K
          try simp only [Act.put, List.setIfInBounds_toArray, List.set_cons_zero, List.set_cons_succ]
          refine wpAnyH_ready (rs := [3, 4]) (by kernel_rfl) (by simp) ?_
          refine AllReadyH.cons (o := ⟨some 46, _, _, _, _, _⟩) rfl (fun K hK => ?_) (AllReadyH.cons (o := ⟨some 47, _, _, _, _, _⟩) rfl (fun K hK => ?_) AllReadyH.nil)
          · have hbl := (below_alloc wd (Obj.cells #[] 56))
            refine step_app_sv rfl (.tmp 43) (.tmp 45) 32 rfl w4.heap.size 56 .u64 Try.underlying32 info_u64N (.slice (some ⟨wd.heap.size, 0, none⟩) 0 0) 0 [] (by simp [Act.eval]) (by simpa using (own_make0 wd _ _ HBd.out.size)) _ _ (by simp [Act.eval]) ((HLd.out.below (below_alloc wd (Obj.cells #[] 56))).q) (by have := HSZ.out; have := ib_len m.Q; omega) (by have h2 := HBd.out.size; have h3 := ((below_alloc wd (Obj.cells #[] 56)) : Below _ _ _).size; omega) ?_
            intro v5 wq5 hown hgrow hat
            rw [Nat.zero_add, List.nil_append, ib_len] at hown
            have hc5 : Ch (fun y => y = wd.heap.size) (wd.alloc (Obj.cells #[] 56)) wq5 := Ch.of_grown hgrow (fun y hy => by cases hy; rfl)
            have HB5 : Hid (Below w4.heap.size w4 wq5) := (below_trans HBd.out hbl).trans (hc5.to_below (below_trans HBd.out hbl).size (fun y hy => by have := HBd.out.size; omega))
            have HO5 : Hid (wq5.ownsRow w4.heap.size 56 1 v5 m.Q.length ((ib m.Q).map (Value.int .u64))) := hown
            obtain ⟨a5, c5, e5⟩ := own_formN hown
            subst e5
            clear hown hgrow hat hc5 hbl
            refine hK.out _ _ ?_ (fun hHeld => ?_)
            · exact (HSF.out _ HB5.out)
            clear hK K
            try simp only [Act.put, List.setIfInBounds_toArray, List.set_cons_zero, List.set_cons_succ]
            refine wpAnyH_ready (rs := [4]) (by kernel_rfl) (by simp) ?_
            refine AllReadyH.cons (o := ⟨some 47, _, _, _, _, _⟩) rfl (fun K hK => ?_) AllReadyH.nil
            go_simp
            refine hK.out _ _ ?_ (fun hHeld => ?_)
            · exact (HSF.out _ (below_trans HB5.out (below_alloc _ _)))
            clear hK K
            try simp only [Act.put, List.setIfInBounds_toArray, List.set_cons_zero, List.set_cons_succ]
            refine wpAnyH_ready (rs := [5]) (by kernel_rfl) (by simp) ?_
            refine AllReadyH.cons (o := ⟨some 48, _, _, _, _, _⟩) rfl (fun K hK => ?_) AllReadyH.nil
            refine step_app_sv rfl (.tmp 46) (.tmp 47) 32 rfl w4.heap.size 56 .u64 Try.underlying32 info_u64N (.slice a5 m.Q.length c5) m.Q.length ((ib m.Q).map (Value.int .u64)) (by simp [Act.eval]) (own_belowC HO5.out (below_alloc _ _)) (.slice (some ⟨wq5.heap.size, 0, none⟩) 1 1) [72] (by simp [Act.eval]) (sv_one .u64 wq5 56 72) (by have := HSZ.out; have := ib_len m.Q; simp only [List.length_singleton]; omega) ((below_trans HB5.out (below_alloc wq5 (Obj.cells #[.int .u64 72] 56))) : Below _ _ _).size ?_
            intro v6 wq6 hown hgrow hat
            have hc6 : Ch (fun y => (Value.slice a5 m.Q.length c5).ownBlock = some y) (wq5.alloc (Obj.cells #[.int .u64 72] 56)) wq6 := Ch.of_grown hgrow (fun y hy => hy)
            have HB6 : Hid (Below w4.heap.size w4 wq6) := ((below_trans HB5.out (below_alloc wq5 (Obj.cells #[.int .u64 72] 56))) : Below _ _ _).trans (hc6.to_below ((below_trans HB5.out (below_alloc wq5 (Obj.cells #[.int .u64 72] 56))) : Below _ _ _).size (fun y hy => (HO5.out.lt y hy).1))
            obtain ⟨g, cap, e6, hcap, hcm, hNg, hgw⟩ := row_formQ hown (by simp)
            subst e6
            have HO6 : Hid (wq6.ownsRow w4.heap.size 56 1 (.slice (some ⟨g, 0, none⟩) m.Q.length cap) m.Q.length ((ib m.Q).map (Value.int .u64))) := by have h := own_cutN hown (k := m.Q.length) (Nat.le_add_right _ _); rw [Nat.mul_one, List.take_left' (by simp [ib_len])] at h; exact h
            have HCP : Hid (m.Q.length < cap ∧ cap ≤ maxLen ∧ w4.heap.size ≤ g) := ⟨by simp at hcap; omega, hcm, hNg⟩
            have HX6 : Hid _ := HXi.out.keep HB6.out
            have HM6 : Hid _ := HMi.out.keep HB6.out
            have hcI : ((m.Q.length : Nat) : Int) ≤ (cap : Int) := by have := HCP.out; omega
            clear hown hgrow hat hc6 hcap hcm hNg hgw
            refine hK.out _ _ ?_ (fun hHeld => ?_)
            · exact HM6.out.c7
            clear hK K
            try simp only [Act.put, List.setIfInBounds_toArray, List.set_cons_zero, List.set_cons_succ]
            refine wpAnyH_take (i := 9) (oi := ⟨some 52, _, _, _, _, _⟩) (v := ?_) rfl (by kernel_rfl) (by kernel_rfl) (by kernel_rfl) (fun _ _ _ h => h) (Or.inl ⟨by rfl, ?_⟩) hHeld ?_
            rotate_left
            · intro w hSw; (try dsimp only at hSw); go_simp; all_goals (with_reducible rfl)
            try simp only [Act.put, List.setIfInBounds_toArray, List.set_cons_zero, List.set_cons_succ]
            refine wpAnyH_take (i := 10) (oi := ⟨some 53, _, _, _, _, _⟩) (v := ?_) rfl (by kernel_rfl) (by kernel_rfl) (by kernel_rfl) (fun _ _ _ h => h) (Or.inl ⟨by rfl, ?_⟩) hHeld ?_
            rotate_left
            · intro w hSw; (try dsimp only at hSw); go_simp; all_goals (with_reducible rfl)
            try simp only [Act.put, List.setIfInBounds_toArray, List.set_cons_zero, List.set_cons_succ]
            refine wpAnyH_ready (rs := [11]) (by kernel_rfl) (by simp) ?_
            refine AllReadyH.cons (o := ⟨none, _, _, _, _, _⟩) rfl (fun K hK => ?_) AllReadyH.nil
            have xf := HX6.out.c7
            have xz := HX6.out.z 7
            go_simp
            clear xf xz
            refine hK.out _ _ ?_ (fun hHeld => ?_)
            · exact (HM6.out.ch (ch_set wq6 X 7 _) (show ¬ M0 = X by have := HXL.out; omega)).c7
            clear hK K
            try simp only [Act.put, List.setIfInBounds_toArray, List.set_cons_zero, List.set_cons_succ]
            refine wpAnyH_done (by kernel_rfl) ?_ _
            refine NoPanic.normal ?_
            go_wp2_with fail
            go_meet
            exact ⟨g, cap, Nat.le_of_lt HCP.out.1, HCP.out.2.1, HCP.out.2.2, own_chG' HO6.out (ch_set wq6 X 7 (.slice (some ⟨g, 0, none⟩) m.Q.length cap)) (fun y hy e => by have hy' : g = y := Option.some.inj hy; have h1 := HXW1.out; have h2 := HCP.out.2.2; omega), HX6.out.s7 (.slice (some ⟨g, 0, none⟩) m.Q.length cap), (Ch.of_below HB6.out).trans (ch_set wq6 X 7 (.slice (some ⟨g, 0, none⟩) m.Q.length cap)) (fun y hy => .inl hy)⟩
          · go_simp
            refine hK.out _ _ ?_ (fun hHeld => ?_)
            · exact (HSF.out _ (below_trans HBd.out (below_trans (below_alloc _ _) (below_alloc _ _))))
            clear hK K
            try simp only [Act.put, List.setIfInBounds_toArray, List.set_cons_zero, List.set_cons_succ]
            refine wpAnyH_ready (rs := [3]) (by kernel_rfl) (by simp) ?_
            refine AllReadyH.cons (o := ⟨some 46, _, _, _, _, _⟩) rfl (fun K hK => ?_) AllReadyH.nil
            have hbl := (below_trans (below_alloc wd (Obj.cells #[] 56)) (below_alloc _ (Obj.cells #[.int .u64 72] 56)))
            refine step_app_sv rfl (.tmp 43) (.tmp 45) 32 rfl w4.heap.size 56 .u64 Try.underlying32 info_u64N (.slice (some ⟨wd.heap.size, 0, none⟩) 0 0) 0 [] (by simp [Act.eval]) (by simpa using ((own_make0 wd _ _ HBd.out.size).alloc _)) _ _ (by simp [Act.eval]) ((HLd.out.below (below_trans (below_alloc wd (Obj.cells #[] 56)) (below_alloc _ (Obj.cells #[.int .u64 72] 56)))).q) (by have := HSZ.out; have := ib_len m.Q; omega) (by have h2 := HBd.out.size; have h3 := ((below_trans (below_alloc wd (Obj.cells #[] 56)) (below_alloc _ (Obj.cells #[.int .u64 72] 56))) : Below _ _ _).size; omega) ?_
            intro v5 wq5 hown hgrow hat
            rw [Nat.zero_add, List.nil_append, ib_len] at hown
            have hc5 : Ch (fun y => y = wd.heap.size) ((wd.alloc (Obj.cells #[] 56)).alloc (Obj.cells #[.int .u64 72] 56)) wq5 := Ch.of_grown hgrow (fun y hy => by cases hy; rfl)
            have HB5 : Hid (Below w4.heap.size w4 wq5) := (below_trans HBd.out hbl).trans (hc5.to_below (below_trans HBd.out hbl).size (fun y hy => by have := HBd.out.size; omega))
            have HO5 : Hid (wq5.ownsRow w4.heap.size 56 1 v5 m.Q.length ((ib m.Q).map (Value.int .u64))) := hown
            have h7 := (sv_one .u64 (wd.alloc (Obj.cells #[] 56)) 56 72)
            (try rw [size_allocC] at h7)
            have H7 : Hid (Sv .u64 wq5 (.slice (some ⟨(wd.heap.size + 1), 0, none⟩) 1 1) [72]) := Sv.ch h7 hc5 (fun y hy _ e => by have hy' : (wd.heap.size + 1) = y := Option.some.inj hy; omega)
            obtain ⟨a5, c5, e5⟩ := own_formN hown
            subst e5
            clear hown hgrow hat hc5 hbl h7
            refine hK.out _ _ ?_ (fun hHeld => ?_)
            · exact (HSF.out _ HB5.out)
            clear hK K
            try simp only [Act.put, List.setIfInBounds_toArray, List.set_cons_zero, List.set_cons_succ]
            refine wpAnyH_ready (rs := [5]) (by kernel_rfl) (by simp) ?_
            refine AllReadyH.cons (o := ⟨some 48, _, _, _, _, _⟩) rfl (fun K hK => ?_) AllReadyH.nil
            refine step_app_sv rfl (.tmp 46) (.tmp 47) 32 rfl w4.heap.size 56 .u64 Try.underlying32 info_u64N (.slice a5 m.Q.length c5) m.Q.length ((ib m.Q).map (Value.int .u64)) (by simp [Act.eval]) HO5.out (.slice (some ⟨(wd.heap.size + 1), 0, none⟩) 1 1) [72] (by simp [Act.eval]) H7.out (by have := HSZ.out; have := ib_len m.Q; simp only [List.length_singleton]; omega) (HB5.out : Below _ _ _).size ?_
            intro v6 wq6 hown hgrow hat
            have hc6 : Ch (fun y => (Value.slice a5 m.Q.length c5).ownBlock = some y) wq5 wq6 := Ch.of_grown hgrow (fun y hy => hy)
            have HB6 : Hid (Below w4.heap.size w4 wq6) := (HB5.out : Below _ _ _).trans (hc6.to_below (HB5.out : Below _ _ _).size (fun y hy => (HO5.out.lt y hy).1))
            obtain ⟨g, cap, e6, hcap, hcm, hNg, hgw⟩ := row_formQ hown (by simp)
            subst e6
            have HO6 : Hid (wq6.ownsRow w4.heap.size 56 1 (.slice (some ⟨g, 0, none⟩) m.Q.length cap) m.Q.length ((ib m.Q).map (Value.int .u64))) := by have h := own_cutN hown (k := m.Q.length) (Nat.le_add_right _ _); rw [Nat.mul_one, List.take_left' (by simp [ib_len])] at h; exact h
            have HCP : Hid (m.Q.length < cap ∧ cap ≤ maxLen ∧ w4.heap.size ≤ g) := ⟨by simp at hcap; omega, hcm, hNg⟩
            have HX6 : Hid _ := HXi.out.keep HB6.out
            have HM6 : Hid _ := HMi.out.keep HB6.out
            have hcI : ((m.Q.length : Nat) : Int) ≤ (cap : Int) := by have := HCP.out; omega
            clear hown hgrow hat hc6 hcap hcm hNg hgw
            refine hK.out _ _ ?_ (fun hHeld => ?_)
            · exact HM6.out.c7
            clear hK K
            try simp only [Act.put, List.setIfInBounds_toArray, List.set_cons_zero, List.set_cons_succ]
            refine wpAnyH_take (i := 9) (oi := ⟨some 52, _, _, _, _, _⟩) (v := ?_) rfl (by kernel_rfl) (by kernel_rfl) (by kernel_rfl) (fun _ _ _ h => h) (Or.inl ⟨by rfl, ?_⟩) hHeld ?_
            rotate_left
            · intro w hSw; (try dsimp only at hSw); go_simp; all_goals (with_reducible rfl)
            try simp only [Act.put, List.setIfInBounds_toArray, List.set_cons_zero, List.set_cons_succ]
            refine wpAnyH_take (i := 10) (oi := ⟨some 53, _, _, _, _, _⟩) (v := ?_) rfl (by kernel_rfl) (by kernel_rfl) (by kernel_rfl) (fun _ _ _ h => h) (Or.inl ⟨by rfl, ?_⟩) hHeld ?_
            rotate_left
            · intro w hSw; (try dsimp only at hSw); go_simp; all_goals (with_reducible rfl)
            try simp only [Act.put, List.setIfInBounds_toArray, List.set_cons_zero, List.set_cons_succ]
            refine wpAnyH_ready (rs := [11]) (by kernel_rfl) (by simp) ?_
            refine AllReadyH.cons (o := ⟨none, _, _, _, _, _⟩) rfl (fun K hK => ?_) AllReadyH.nil
            have xf := HX6.out.c7
            have xz := HX6.out.z 7
            go_simp
            clear xf xz
            refine hK.out _ _ ?_ (fun hHeld => ?_)
            · exact (HM6.out.ch (ch_set wq6 X 7 _) (show ¬ M0 = X by have := HXL.out; omega)).c7
            clear hK K
            try simp only [Act.put, List.setIfInBounds_toArray, List.set_cons_zero, List.set_cons_succ]
            refine wpAnyH_done (by kernel_rfl) ?_ _
            refine NoPanic.normal ?_
            go_wp2_with fail
            go_meet
            exact ⟨g, cap, Nat.le_of_lt HCP.out.1, HCP.out.2.1, HCP.out.2.2, own_chG' HO6.out (ch_set wq6 X 7 (.slice (some ⟨g, 0, none⟩) m.Q.length cap)) (fun y hy e => by have hy' : g = y := Option.some.inj hy; have h1 := HXW1.out; have h2 := HCP.out.2.2; omega), HX6.out.s7 (.slice (some ⟨g, 0, none⟩) m.Q.length cap), (Ch.of_below HB6.out).trans (ch_set wq6 X 7 (.slice (some ⟨g, 0, none⟩) m.Q.length cap)) (fun y hy => .inl hy)⟩
        · go_simp
          refine hK.out _ _ ?_ (fun hHeld => ?_)
          · exact (HSF.out _ (below_trans HBd.out (below_alloc _ _)))
          clear hK K
          try simp only [Act.put, List.setIfInBounds_toArray, List.set_cons_zero, List.set_cons_succ]
          refine wpAnyH_ready (rs := [0]) (by kernel_rfl) (by simp) ?_
          refine AllReadyH.cons (o := ⟨some 43, _, _, _, _, _⟩) rfl (fun K hK => ?_) AllReadyH.nil
          go_simp
          refine hK.out _ _ ?_ (fun hHeld => ?_)
          · exact (HSF.out _ (below_trans HBd.out (below_trans (below_alloc wd (Obj.cells #[.int .u64 72] 56)) (below_alloc _ _))))
          clear hK K
          try simp only [Act.put, List.setIfInBounds_toArray, List.set_cons_zero, List.set_cons_succ]
          refine wpAnyH_ready (rs := [3]) (by kernel_rfl) (by simp) ?_
          refine AllReadyH.cons (o := ⟨some 46, _, _, _, _, _⟩) rfl (fun K hK => ?_) AllReadyH.nil
          have hbl := (below_trans (below_alloc wd (Obj.cells #[.int .u64 72] 56)) (below_alloc _ (Obj.cells #[] 56)))
          refine step_app_sv rfl (.tmp 43) (.tmp 45) 32 rfl w4.heap.size 56 .u64 Try.underlying32 info_u64N (.slice (some ⟨(wd.heap.size + 1), 0, none⟩) 0 0) 0 [] (by simp [Act.eval]) (by simpa using (own_make0 (wd.alloc (Obj.cells #[.int .u64 72] 56)) _ _ (by rw [size_allocC]; have h2 := HBd.out.size; omega))) _ _ (by simp [Act.eval]) ((HLd.out.below (below_trans (below_alloc wd (Obj.cells #[.int .u64 72] 56)) (below_alloc _ (Obj.cells #[] 56)))).q) (by have := HSZ.out; have := ib_len m.Q; omega) (by have h2 := HBd.out.size; have h3 := ((below_trans (below_alloc wd (Obj.cells #[.int .u64 72] 56)) (below_alloc _ (Obj.cells #[] 56))) : Below _ _ _).size; omega) ?_
          intro v5 wq5 hown hgrow hat
          rw [Nat.zero_add, List.nil_append, ib_len] at hown
          have hc5 : Ch (fun y => y = (wd.heap.size + 1)) ((wd.alloc (Obj.cells #[.int .u64 72] 56)).alloc (Obj.cells #[] 56)) wq5 := Ch.of_grown hgrow (fun y hy => by cases hy; rfl)
          have HB5 : Hid (Below w4.heap.size w4 wq5) := (below_trans HBd.out hbl).trans (hc5.to_below (below_trans HBd.out hbl).size (fun y hy => by have := HBd.out.size; omega))
          have HO5 : Hid (wq5.ownsRow w4.heap.size 56 1 v5 m.Q.length ((ib m.Q).map (Value.int .u64))) := hown
          have h7 := (sv_one .u64 wd 56 72).below (below_alloc _ (Obj.cells #[] 56))
          (try rw [size_allocC] at h7)
          have H7 : Hid (Sv .u64 wq5 (.slice (some ⟨wd.heap.size, 0, none⟩) 1 1) [72]) := Sv.ch h7 hc5 (fun y hy _ e => by have hy' : wd.heap.size = y := Option.some.inj hy; omega)
          obtain ⟨a5, c5, e5⟩ := own_formN hown
          subst e5
          clear hown hgrow hat hc5 hbl h7
          refine hK.out _ _ ?_ (fun hHeld => ?_)
          · exact (HSF.out _ HB5.out)
          clear hK K
          try simp only [Act.put, List.setIfInBounds_toArray, List.set_cons_zero, List.set_cons_succ]
          refine wpAnyH_ready (rs := [5]) (by kernel_rfl) (by simp) ?_
          refine AllReadyH.cons (o := ⟨some 48, _, _, _, _, _⟩) rfl (fun K hK => ?_) AllReadyH.nil
          refine step_app_sv rfl (.tmp 46) (.tmp 47) 32 rfl w4.heap.size 56 .u64 Try.underlying32 info_u64N (.slice a5 m.Q.length c5) m.Q.length ((ib m.Q).map (Value.int .u64)) (by simp [Act.eval]) HO5.out (.slice (some ⟨wd.heap.size, 0, none⟩) 1 1) [72] (by simp [Act.eval]) H7.out (by have := HSZ.out; have := ib_len m.Q; simp only [List.length_singleton]; omega) (HB5.out : Below _ _ _).size ?_
          intro v6 wq6 hown hgrow hat
          have hc6 : Ch (fun y => (Value.slice a5 m.Q.length c5).ownBlock = some y) wq5 wq6 := Ch.of_grown hgrow (fun y hy => hy)
          have HB6 : Hid (Below w4.heap.size w4 wq6) := (HB5.out : Below _ _ _).trans (hc6.to_below (HB5.out : Below _ _ _).size (fun y hy => (HO5.out.lt y hy).1))
          obtain ⟨g, cap, e6, hcap, hcm, hNg, hgw⟩ := row_formQ hown (by simp)
          subst e6
          have HO6 : Hid (wq6.ownsRow w4.heap.size 56 1 (.slice (some ⟨g, 0, none⟩) m.Q.length cap) m.Q.length ((ib m.Q).map (Value.int .u64))) := by have h := own_cutN hown (k := m.Q.length) (Nat.le_add_right _ _); rw [Nat.mul_one, List.take_left' (by simp [ib_len])] at h; exact h
          have HCP : Hid (m.Q.length < cap ∧ cap ≤ maxLen ∧ w4.heap.size ≤ g) := ⟨by simp at hcap; omega, hcm, hNg⟩
          have HX6 : Hid _ := HXi.out.keep HB6.out
          have HM6 : Hid _ := HMi.out.keep HB6.out
          have hcI : ((m.Q.length : Nat) : Int) ≤ (cap : Int) := by have := HCP.out; omega
          clear hown hgrow hat hc6 hcap hcm hNg hgw
          refine hK.out _ _ ?_ (fun hHeld => ?_)
          · exact HM6.out.c7
          clear hK K
          try simp only [Act.put, List.setIfInBounds_toArray, List.set_cons_zero, List.set_cons_succ]
          refine wpAnyH_take (i := 9) (oi := ⟨some 52, _, _, _, _, _⟩) (v := ?_) rfl (by kernel_rfl) (by kernel_rfl) (by kernel_rfl) (fun _ _ _ h => h) (Or.inl ⟨by rfl, ?_⟩) hHeld ?_
          rotate_left
          · intro w hSw; (try dsimp only at hSw); go_simp; all_goals (with_reducible rfl)
          try simp only [Act.put, List.setIfInBounds_toArray, List.set_cons_zero, List.set_cons_succ]
          refine wpAnyH_take (i := 10) (oi := ⟨some 53, _, _, _, _, _⟩) (v := ?_) rfl (by kernel_rfl) (by kernel_rfl) (by kernel_rfl) (fun _ _ _ h => h) (Or.inl ⟨by rfl, ?_⟩) hHeld ?_
          rotate_left
          · intro w hSw; (try dsimp only at hSw); go_simp; all_goals (with_reducible rfl)
          try simp only [Act.put, List.setIfInBounds_toArray, List.set_cons_zero, List.set_cons_succ]
          refine wpAnyH_ready (rs := [11]) (by kernel_rfl) (by simp) ?_
          refine AllReadyH.cons (o := ⟨none, _, _, _, _, _⟩) rfl (fun K hK => ?_) AllReadyH.nil
          have xf := HX6.out.c7
          have xz := HX6.out.z 7
          go_simp
          clear xf xz
          refine hK.out _ _ ?_ (fun hHeld => ?_)
          · exact (HM6.out.ch (ch_set wq6 X 7 _) (show ¬ M0 = X by have := HXL.out; omega)).c7
          clear hK K
          try simp only [Act.put, List.setIfInBounds_toArray, List.set_cons_zero, List.set_cons_succ]
          refine wpAnyH_done (by kernel_rfl) ?_ _
          refine NoPanic.normal ?_
          go_wp2_with fail
          go_meet
          exact ⟨g, cap, Nat.le_of_lt HCP.out.1, HCP.out.2.1, HCP.out.2.2, own_chG' HO6.out (ch_set wq6 X 7 (.slice (some ⟨g, 0, none⟩) m.Q.length cap)) (fun y hy e => by have hy' : g = y := Option.some.inj hy; have h1 := HXW1.out; have h2 := HCP.out.2.2; omega), HX6.out.s7 (.slice (some ⟨g, 0, none⟩) m.Q.length cap), (Ch.of_below HB6.out).trans (ch_set wq6 X 7 (.slice (some ⟨g, 0, none⟩) m.Q.length cap)) (fun y hy => .inl hy)⟩
    case rest =>
      obtain ⟨g1, cap1, hc1, hm1, hn1, ho1, hx1, hch1⟩ := hcut
      obtain ⟨w5, hwj⟩ : ∃ x, x = wc := ⟨_, rfl⟩
      rw [← hwj] at ho1 hx1 hch1 ⊢
      clear hwj
      have HB5 : Hid (Below w.heap.size w w5) := HB4.out.trans (hch1.to_below HB4.out.size (fun y hy => by have := HXL.out; omega))
      have HMj : Hid _ := HMi.out.ch hch1 (show ¬ M0 = X by have := HXL.out; omega)
      have HN5 : Hid _ := HN4.out.ch hch1 (fun y hy hk => by have := HXL.out; rcases hk with e | e | ⟨z, hz, _⟩; omega; omega; simp at hz)
      have HXW2 : Hid (X < w5.heap.size) := by have h1 := HXW1.out; have h2 := hch1.size; show _ < _; omega
      have HSz1 : Hid (w4.heap.size ≤ w5.heap.size ∧ w4.heap.size ≤ g1) := ⟨hch1.size, hn1⟩
      have HR1 : Hid (w5.ownsRow w4.heap.size 56 1 (.slice (some ⟨g1, 0, none⟩) m.Q.length cap1) m.Q.length ((ib m.Q).map (Value.int .u64))) := ho1
      have HR0b : Hid (w5.ownsRow w3.heap.size 3 1 (.slice (some ⟨g0, 0, none⟩) m.E.length cap0) m.E.length (m.E.map (Value.int .i64))) := own_chG' HR0.out hch1 (fun y hy e => by have hy' : g0 = y := Option.some.inj hy; have h1 := HSz0.out; have h2 := HXW0.out; omega)
      clear HR0
      have HR0 : Hid (w5.ownsRow w3.heap.size 3 1 (.slice (some ⟨g0, 0, none⟩) m.E.length cap0) m.E.length (m.E.map (Value.int .i64))) := HR0b.out
      have HXj : Hid _ := hx1
      clear hc1 hm1 hn1 ho1 hx1 hch1 HSF HMi HXi HLi
      have HLi : Hid _ := HL.out.below HB5.out
      have HMi : Hid _ := HMj.out
      have HXi : Hid _ := HXj.out
      clear HMj HXj
      go_upto_region 9 with fail
      have HSF : Hid (∀ wx, Below w5.heap.size w5 wx → wx.cell? ⟨M0, 8, none⟩ = some (.slice pa m.P.length pc)) := fun wx hx => (HMi.out.keep hx).c8
      go_cut [] (fun wx => ∃ g cap, m.P.length ≤ cap ∧ cap ≤ maxLen ∧ w5.heap.size ≤ g ∧ wx.ownsRow w5.heap.size 60 3 (.slice (some ⟨g, 0, none⟩) m.P.length cap) m.P.length (flatQ m.P) ∧ MX wx X m (.slice (some ⟨g0, 0, none⟩) m.E.length cap0) (.slice (some ⟨g1, 0, none⟩) m.Q.length cap1) (.slice (some ⟨g, 0, none⟩) m.P.length cap) ∧ Ch (fun y => y = X) w5 wx)
      case first =>
        as_aux_lemma =>
          refine wp_region_noPanic ?_
          refine wp_region_held_drew (S := fun wx => wx.cell? ⟨M0, 8, none⟩ = some (.slice pa m.P.length pc)) (by kernel_rfl) ?_ (fun hHeld => ?_)
          · exact HSF.out _ (below_drewN w5 1)
          obtain ⟨wd, hwd⟩ : ∃ x, x = w5.drew := ⟨_, rfl⟩
          rw [← hwd]
          have HBd : Hid (Below w5.heap.size w5 wd) := by rw [hwd]; exact below_drewN w5 1
          rw [← hwd] at hHeld
          clear hwd
          have HLd : Hid _ := HLi.out.below HBd.out
          refine wpAnyH_take (i := 1) (oi := ⟨some 55, _, _, _, _, _⟩) (v := ?_) rfl (by kernel_rfl) (by kernel_rfl) (by kernel_rfl) (fun _ _ _ h => h) (Or.inl ⟨by rfl, ?_⟩) hHeld ?_
          rotate_left
          · intro w hSw; (try dsimp only at hSw); go_simp; all_goals (with_reducible rfl)
          try simp only [Act.put, List.setIfInBounds_toArray, List.set_cons_zero, List.set_cons_succ]
          refine wpAnyH_take (i := 2) (oi := ⟨some 56, _, _, _, _, _⟩) (v := ?_) rfl (by kernel_rfl) (by kernel_rfl) (by kernel_rfl) (fun _ _ _ h => h) (Or.inl ⟨by rfl, ?_⟩) hHeld ?_
          rotate_left
          · intro w hSw; (try dsimp only at hSw); go_simp; all_goals (with_reducible rfl)
          try simp only [Act.put, List.setIfInBounds_toArray, List.set_cons_zero, List.set_cons_succ]
          refine wpAnyH_take (i := 4) (oi := ⟨some 58, _, _, _, _, _⟩) (v := ?_) rfl (by kernel_rfl) (by kernel_rfl) (by kernel_rfl) (fun _ _ _ h => h) (Or.inl ⟨by rfl, ?_⟩) hHeld ?_
          rotate_left
          · intro w hSw; (try dsimp only at hSw); go_simp; all_goals (with_reducible rfl)
          try simp only [Act.put, List.setIfInBounds_toArray, List.set_cons_zero, List.set_cons_succ]
          refine wpAnyH_take (i := 7) (oi := ⟨some 61, _, _, _, _, _⟩) (v := ?_) rfl (by kernel_rfl) (by kernel_rfl) (by kernel_rfl) (fun _ _ _ h => h) (Or.inl ⟨by rfl, ?_⟩) hHeld ?_
          rotate_left
          · intro w hSw; (try dsimp only at hSw); go_simp; all_goals (with_reducible rfl)
          try simp only [Act.put, List.setIfInBounds_toArray, List.set_cons_zero, List.set_cons_succ]
          refine wpAnyH_take (i := 8) (oi := ⟨some 62, _, _, _, _, _⟩) (v := ?_) rfl (by kernel_rfl) (by kernel_rfl) (by kernel_rfl) (fun _ _ _ h => h) (Or.inl ⟨by rfl, ?_⟩) hHeld ?_
          rotate_left
          · intro w hSw; (try dsimp only at hSw); go_simp; all_goals (with_reducible rfl)
          try simp only [Act.put, List.setIfInBounds_toArray, List.set_cons_zero, List.set_cons_succ]
          refine wpAnyH_take (i := 9) (oi := ⟨some 63, _, _, _, _, _⟩) (v := ?_) rfl (by kernel_rfl) (by kernel_rfl) (by kernel_rfl) (fun _ _ _ h => h) (Or.inl ⟨by rfl, ?_⟩) hHeld ?_
          rotate_left
          · intro w hSw; (try dsimp only at hSw); go_simp; all_goals (with_reducible rfl)
          try simp only [Act.put, List.setIfInBounds_toArray, List.set_cons_zero, List.set_cons_succ]
          refine wpAnyH_ready (rs := [0, 5]) (by kernel_rfl) (by simp) ?_
          refine AllReadyH.cons (o := ⟨some 54, _, _, _, _, _⟩) rfl (fun K hK => ?_) (AllReadyH.cons (o := ⟨some 59, _, _, _, _, _⟩) rfl (fun K hK => ?_) AllReadyH.nil)
          · go_simp
            refine hK.out _ _ ?_ (fun hHeld => ?_)
            · exact (HSF.out _ (below_trans HBd.out (below_trans (Below.refl _ wd) (below_alloc _ _))))
            clear hK K
            try simp only [Act.put, List.setIfInBounds_toArray, List.set_cons_zero, List.set_cons_succ]
            refine wpAnyH_ready (rs := [3, 5]) (by kernel_rfl) (by simp) ?_
            refine AllReadyH.cons (o := ⟨some 57, _, _, _, _, _⟩) rfl (fun K hK => ?_) (AllReadyH.cons (o := ⟨some 59, _, _, _, _, _⟩) rfl (fun K hK => ?_) AllReadyH.nil)
            · have hbl := (below_alloc wd (Obj.cells #[] 60))
              refine step_app_qv rfl (.tmp 54) (.tmp 56) rfl w5.heap.size (.slice (some ⟨wd.heap.size, 0, none⟩) 0 0) 0 [] (by simp [Act.eval]) (by simpa [flatQ] using (own_make0 wd _ _ HBd.out.size)) _ _ (by simp [Act.eval]) ((HLd.out.below (below_alloc wd (Obj.cells #[] 60))).p) (by have := HSZ.out; omega) (by have h2 := HBd.out.size; have h3 := ((below_alloc wd (Obj.cells #[] 60)) : Below _ _ _).size; omega) ?_
              intro v5 wq5 hown hgrow hat
              rw [Nat.zero_add, List.nil_append] at hown
              have hc5 : Ch (fun y => y = wd.heap.size) (wd.alloc (Obj.cells #[] 60)) wq5 := Ch.of_grown hgrow (fun y hy => by cases hy; rfl)
              have HB5 : Hid (Below w5.heap.size w5 wq5) := (below_trans HBd.out hbl).trans (hc5.to_below (below_trans HBd.out hbl).size (fun y hy => by have := HBd.out.size; omega))
              have HO5 : Hid (wq5.ownsRow w5.heap.size 60 3 v5 m.P.length (flatQ m.P)) := hown
              obtain ⟨a5, c5, e5⟩ := own_formN hown
              subst e5
              clear hown hgrow hat hc5 hbl
              refine hK.out _ _ ?_ (fun hHeld => ?_)
              · exact (HSF.out _ HB5.out)
              clear hK K
              try simp only [Act.put, List.setIfInBounds_toArray, List.set_cons_zero, List.set_cons_succ]
              refine wpAnyH_ready (rs := [5]) (by kernel_rfl) (by simp) ?_
              refine AllReadyH.cons (o := ⟨some 59, _, _, _, _, _⟩) rfl (fun K hK => ?_) AllReadyH.nil
              go_simp
              refine hK.out _ _ ?_ (fun hHeld => ?_)
              · exact (HSF.out _ (below_trans HB5.out (below_alloc _ _)))
              clear hK K
              try simp only [Act.put, List.setIfInBounds_toArray, List.set_cons_zero, List.set_cons_succ]
              refine wpAnyH_ready (rs := [6]) (by kernel_rfl) (by simp) ?_
              refine AllReadyH.cons (o := ⟨some 60, _, _, _, _, _⟩) rfl (fun K hK => ?_) AllReadyH.nil
              refine step_app_qv rfl (.tmp 57) (.tmp 59) rfl w5.heap.size (.slice a5 m.P.length c5) m.P.length m.P (by simp [Act.eval]) (own_belowC HO5.out (below_alloc _ _)) (.slice (some ⟨wq5.heap.size, 0, none⟩) 1 1) [⟨73, ⟨false, 0⟩⟩] (by simp [Act.eval]) (qv_one wq5 ⟨73, ⟨false, 0⟩⟩ p73_ok 60) (by have := HSZ.out; simp only [List.length_singleton]; omega) ((below_trans HB5.out (below_alloc wq5 (Obj.cells #[.int .u64 73, .bool false, .int .u64 0] 60))) : Below _ _ _).size ?_
              intro v6 wq6 hown hgrow hat
              have hc6 : Ch (fun y => (Value.slice a5 m.P.length c5).ownBlock = some y) (wq5.alloc (Obj.cells #[.int .u64 73, .bool false, .int .u64 0] 60)) wq6 := Ch.of_grown hgrow (fun y hy => hy)
              have HB6 : Hid (Below w5.heap.size w5 wq6) := ((below_trans HB5.out (below_alloc wq5 (Obj.cells #[.int .u64 73, .bool false, .int .u64 0] 60))) : Below _ _ _).trans (hc6.to_below ((below_trans HB5.out (below_alloc wq5 (Obj.cells #[.int .u64 73, .bool false, .int .u64 0] 60))) : Below _ _ _).size (fun y hy => (HO5.out.lt y hy).1))
              obtain ⟨g, cap, e6, hcap, hcm, hNg, hgw⟩ := row_formQ hown (by simp)
              subst e6
              have HO6 : Hid (wq6.ownsRow w5.heap.size 60 3 (.slice (some ⟨g, 0, none⟩) m.P.length cap) m.P.length (flatQ m.P)) := by have h := own_cutN hown (k := m.P.length) (Nat.le_add_right _ _); rw [flatQ_append, List.take_left' (flatQ_len _)] at h; exact h
              have HCP : Hid (m.P.length < cap ∧ cap ≤ maxLen ∧ w5.heap.size ≤ g) := ⟨by simp at hcap; omega, hcm, hNg⟩
              have HX6 : Hid _ := HXi.out.keep HB6.out
              have HM6 : Hid _ := HMi.out.keep HB6.out
              have hcI : ((m.P.length : Nat) : Int) ≤ (cap : Int) := by have := HCP.out; omega
              clear hown hgrow hat hc6 hcap hcm hNg hgw
              refine hK.out _ _ ?_ (fun hHeld => ?_)
              · exact HM6.out.c8
              clear hK K
              try simp only [Act.put, List.setIfInBounds_toArray, List.set_cons_zero, List.set_cons_succ]
              refine wpAnyH_take (i := 10) (oi := ⟨some 64, _, _, _, _, _⟩) (v := ?_) rfl (by kernel_rfl) (by kernel_rfl) (by kernel_rfl) (fun _ _ _ h => h) (Or.inl ⟨by rfl, ?_⟩) hHeld ?_
              rotate_left
              · intro w hSw; (try dsimp only at hSw); go_simp; all_goals (with_reducible rfl)
              try simp only [Act.put, List.setIfInBounds_toArray, List.set_cons_zero, List.set_cons_succ]
              refine wpAnyH_take (i := 11) (oi := ⟨some 65, _, _, _, _, _⟩) (v := ?_) rfl (by kernel_rfl) (by kernel_rfl) (by kernel_rfl) (fun _ _ _ h => h) (Or.inl ⟨by rfl, ?_⟩) hHeld ?_
              rotate_left
              · intro w hSw; (try dsimp only at hSw); go_simp; all_goals (with_reducible rfl)
              try simp only [Act.put, List.setIfInBounds_toArray, List.set_cons_zero, List.set_cons_succ]
              refine wpAnyH_ready (rs := [12]) (by kernel_rfl) (by simp) ?_
              refine AllReadyH.cons (o := ⟨none, _, _, _, _, _⟩) rfl (fun K hK => ?_) AllReadyH.nil
              have xf := HX6.out.c8
              have xz := HX6.out.z 8
              go_simp
              clear xf xz
              refine hK.out _ _ ?_ (fun hHeld => ?_)
              · exact (HM6.out.ch (ch_set wq6 X 8 _) (show ¬ M0 = X by have := HXL.out; omega)).c8
              clear hK K
              try simp only [Act.put, List.setIfInBounds_toArray, List.set_cons_zero, List.set_cons_succ]
              refine wpAnyH_done (by kernel_rfl) ?_ _
              refine NoPanic.normal ?_
              go_wp2_with fail
              go_meet
              exact ⟨g, cap, Nat.le_of_lt HCP.out.1, HCP.out.2.1, HCP.out.2.2, own_chG' HO6.out (ch_set wq6 X 8 (.slice (some ⟨g, 0, none⟩) m.P.length cap)) (fun y hy e => by have hy' : g = y := Option.some.inj hy; have h1 := HXW2.out; have h2 := HCP.out.2.2; omega), HX6.out.s8 (.slice (some ⟨g, 0, none⟩) m.P.length cap), (Ch.of_below HB6.out).trans (ch_set wq6 X 8 (.slice (some ⟨g, 0, none⟩) m.P.length cap)) (fun y hy => .inl hy)⟩
            · go_simp
              refine hK.out _ _ ?_ (fun hHeld => ?_)
              · exact (HSF.out _ (below_trans HBd.out (below_trans (below_alloc _ _) (below_alloc _ _))))
              clear hK K
              try simp only [Act.put, List.setIfInBounds_toArray, List.set_cons_zero, List.set_cons_succ]
              refine wpAnyH_ready (rs := [3]) (by kernel_rfl) (by simp) ?_
              refine AllReadyH.cons (o := ⟨some 57, _, _, _, _, _⟩) rfl (fun K hK => ?_) AllReadyH.nil
              have hbl := (below_trans (below_alloc wd (Obj.cells #[] 60)) (below_alloc _ (Obj.cells #[.int .u64 73, .bool false, .int .u64 0] 60)))
              refine step_app_qv rfl (.tmp 54) (.tmp 56) rfl w5.heap.size (.slice (some ⟨wd.heap.size, 0, none⟩) 0 0) 0 [] (by simp [Act.eval]) (by simpa [flatQ] using ((own_make0 wd _ _ HBd.out.size).alloc _)) _ _ (by simp [Act.eval]) ((HLd.out.below (below_trans (below_alloc wd (Obj.cells #[] 60)) (below_alloc _ (Obj.cells #[.int .u64 73, .bool false, .int .u64 0] 60)))).p) (by have := HSZ.out; omega) (by have h2 := HBd.out.size; have h3 := ((below_trans (below_alloc wd (Obj.cells #[] 60)) (below_alloc _ (Obj.cells #[.int .u64 73, .bool false, .int .u64 0] 60))) : Below _ _ _).size; omega) ?_
              intro v5 wq5 hown hgrow hat
              rw [Nat.zero_add, List.nil_append] at hown
              have hc5 : Ch (fun y => y = wd.heap.size) ((wd.alloc (Obj.cells #[] 60)).alloc (Obj.cells #[.int .u64 73, .bool false, .int .u64 0] 60)) wq5 := Ch.of_grown hgrow (fun y hy => by cases hy; rfl)
              have HB5 : Hid (Below w5.heap.size w5 wq5) := (below_trans HBd.out hbl).trans (hc5.to_below (below_trans HBd.out hbl).size (fun y hy => by have := HBd.out.size; omega))
              have HO5 : Hid (wq5.ownsRow w5.heap.size 60 3 v5 m.P.length (flatQ m.P)) := hown
              have h7 := (qv_one (wd.alloc (Obj.cells #[] 60)) ⟨73, ⟨false, 0⟩⟩ p73_ok 60)
              (try rw [size_allocC] at h7)
              have H7 : Hid (Qv wq5 (.slice (some ⟨(wd.heap.size + 1), 0, none⟩) 1 1) [⟨73, ⟨false, 0⟩⟩]) := Qv.ch h7 hc5 (fun y hy _ e => by have hy' : (wd.heap.size + 1) = y := Option.some.inj hy; omega)
              obtain ⟨a5, c5, e5⟩ := own_formN hown
              subst e5
              clear hown hgrow hat hc5 hbl h7
              refine hK.out _ _ ?_ (fun hHeld => ?_)
              · exact (HSF.out _ HB5.out)
              clear hK K
              try simp only [Act.put, List.setIfInBounds_toArray, List.set_cons_zero, List.set_cons_succ]
              refine wpAnyH_ready (rs := [6]) (by kernel_rfl) (by simp) ?_
              refine AllReadyH.cons (o := ⟨some 60, _, _, _, _, _⟩) rfl (fun K hK => ?_) AllReadyH.nil
              refine step_app_qv rfl (.tmp 57) (.tmp 59) rfl w5.heap.size (.slice a5 m.P.length c5) m.P.length m.P (by simp [Act.eval]) HO5.out (.slice (some ⟨(wd.heap.size + 1), 0, none⟩) 1 1) [⟨73, ⟨false, 0⟩⟩] (by simp [Act.eval]) H7.out (by have := HSZ.out; simp only [List.length_singleton]; omega) (HB5.out : Below _ _ _).size ?_
              intro v6 wq6 hown hgrow hat
              have hc6 : Ch (fun y => (Value.slice a5 m.P.length c5).ownBlock = some y) wq5 wq6 := Ch.of_grown hgrow (fun y hy => hy)
              have HB6 : Hid (Below w5.heap.size w5 wq6) := (HB5.out : Below _ _ _).trans (hc6.to_below (HB5.out : Below _ _ _).size (fun y hy => (HO5.out.lt y hy).1))
              obtain ⟨g, cap, e6, hcap, hcm, hNg, hgw⟩ := row_formQ hown (by simp)
              subst e6
              have HO6 : Hid (wq6.ownsRow w5.heap.size 60 3 (.slice (some ⟨g, 0, none⟩) m.P.length cap) m.P.length (flatQ m.P)) := by have h := own_cutN hown (k := m.P.length) (Nat.le_add_right _ _); rw [flatQ_append, List.take_left' (flatQ_len _)] at h; exact h
              have HCP : Hid (m.P.length < cap ∧ cap ≤ maxLen ∧ w5.heap.size ≤ g) := ⟨by simp at hcap; omega, hcm, hNg⟩
              have HX6 : Hid _ := HXi.out.keep HB6.out
              have HM6 : Hid _ := HMi.out.keep HB6.out
              have hcI : ((m.P.length : Nat) : Int) ≤ (cap : Int) := by have := HCP.out; omega
              clear hown hgrow hat hc6 hcap hcm hNg hgw
              refine hK.out _ _ ?_ (fun hHeld => ?_)
              · exact HM6.out.c8
              clear hK K
              try simp only [Act.put, List.setIfInBounds_toArray, List.set_cons_zero, List.set_cons_succ]
              refine wpAnyH_take (i := 10) (oi := ⟨some 64, _, _, _, _, _⟩) (v := ?_) rfl (by kernel_rfl) (by kernel_rfl) (by kernel_rfl) (fun _ _ _ h => h) (Or.inl ⟨by rfl, ?_⟩) hHeld ?_
              rotate_left
              · intro w hSw; (try dsimp only at hSw); go_simp; all_goals (with_reducible rfl)
              try simp only [Act.put, List.setIfInBounds_toArray, List.set_cons_zero, List.set_cons_succ]
              refine wpAnyH_take (i := 11) (oi := ⟨some 65, _, _, _, _, _⟩) (v := ?_) rfl (by kernel_rfl) (by kernel_rfl) (by kernel_rfl) (fun _ _ _ h => h) (Or.inl ⟨by rfl, ?_⟩) hHeld ?_
              rotate_left
              · intro w hSw; (try dsimp only at hSw); go_simp; all_goals (with_reducible rfl)
              try simp only [Act.put, List.setIfInBounds_toArray, List.set_cons_zero, List.set_cons_succ]
              refine wpAnyH_ready (rs := [12]) (by kernel_rfl) (by simp) ?_
              refine AllReadyH.cons (o := ⟨none, _, _, _, _, _⟩) rfl (fun K hK => ?_) AllReadyH.nil
              have xf := HX6.out.c8
              have xz := HX6.out.z 8
              go_simp
              clear xf xz
              refine hK.out _ _ ?_ (fun hHeld => ?_)
              · exact (HM6.out.ch (ch_set wq6 X 8 _) (show ¬ M0 = X by have := HXL.out; omega)).c8
              clear hK K
              try simp only [Act.put, List.setIfInBounds_toArray, List.set_cons_zero, List.set_cons_succ]
              refine wpAnyH_done (by kernel_rfl) ?_ _
              refine NoPanic.normal ?_
              go_wp2_with fail
              go_meet
              exact ⟨g, cap, Nat.le_of_lt HCP.out.1, HCP.out.2.1, HCP.out.2.2, own_chG' HO6.out (ch_set wq6 X 8 (.slice (some ⟨g, 0, none⟩) m.P.length cap)) (fun y hy e => by have hy' : g = y := Option.some.inj hy; have h1 := HXW2.out; have h2 := HCP.out.2.2; omega), HX6.out.s8 (.slice (some ⟨g, 0, none⟩) m.P.length cap), (Ch.of_below HB6.out).trans (ch_set wq6 X 8 (.slice (some ⟨g, 0, none⟩) m.P.length cap)) (fun y hy => .inl hy)⟩
          · go_simp
            refine hK.out _ _ ?_ (fun hHeld => ?_)
            · exact (HSF.out _ (below_trans HBd.out (below_alloc _ _)))
            clear hK K
            try simp only [Act.put, List.setIfInBounds_toArray, List.set_cons_zero, List.set_cons_succ]
            refine wpAnyH_ready (rs := [0]) (by kernel_rfl) (by simp) ?_
            refine AllReadyH.cons (o := ⟨some 54, _, _, _, _, _⟩) rfl (fun K hK => ?_) AllReadyH.nil
            go_simp
            refine hK.out _ _ ?_ (fun hHeld => ?_)
            · exact (HSF.out _ (below_trans HBd.out (below_trans (below_alloc wd (Obj.cells #[.int .u64 73, .bool false, .int .u64 0] 60)) (below_alloc _ _))))
            clear hK K
            try simp only [Act.put, List.setIfInBounds_toArray, List.set_cons_zero, List.set_cons_succ]
            refine wpAnyH_ready (rs := [3]) (by kernel_rfl) (by simp) ?_
            refine AllReadyH.cons (o := ⟨some 57, _, _, _, _, _⟩) rfl (fun K hK => ?_) AllReadyH.nil
            have hbl := (below_trans (below_alloc wd (Obj.cells #[.int .u64 73, .bool false, .int .u64 0] 60)) (below_alloc _ (Obj.cells #[] 60)))
            refine step_app_qv rfl (.tmp 54) (.tmp 56) rfl w5.heap.size (.slice (some ⟨(wd.heap.size + 1), 0, none⟩) 0 0) 0 [] (by simp [Act.eval]) (by simpa [flatQ] using (own_make0 (wd.alloc (Obj.cells #[.int .u64 73, .bool false, .int .u64 0] 60)) _ _ (by rw [size_allocC]; have h2 := HBd.out.size; omega))) _ _ (by simp [Act.eval]) ((HLd.out.below (below_trans (below_alloc wd (Obj.cells #[.int .u64 73, .bool false, .int .u64 0] 60)) (below_alloc _ (Obj.cells #[] 60)))).p) (by have := HSZ.out; omega) (by have h2 := HBd.out.size; have h3 := ((below_trans (below_alloc wd (Obj.cells #[.int .u64 73, .bool false, .int .u64 0] 60)) (below_alloc _ (Obj.cells #[] 60))) : Below _ _ _).size; omega) ?_
            intro v5 wq5 hown hgrow hat
            rw [Nat.zero_add, List.nil_append] at hown
            have hc5 : Ch (fun y => y = (wd.heap.size + 1)) ((wd.alloc (Obj.cells #[.int .u64 73, .bool false, .int .u64 0] 60)).alloc (Obj.cells #[] 60)) wq5 := Ch.of_grown hgrow (fun y hy => by cases hy; rfl)
            have HB5 : Hid (Below w5.heap.size w5 wq5) := (below_trans HBd.out hbl).trans (hc5.to_below (below_trans HBd.out hbl).size (fun y hy => by have := HBd.out.size; omega))
            have HO5 : Hid (wq5.ownsRow w5.heap.size 60 3 v5 m.P.length (flatQ m.P)) := hown
            have h7 := (qv_one wd ⟨73, ⟨false, 0⟩⟩ p73_ok 60).below (below_alloc _ (Obj.cells #[] 60))
            (try rw [size_allocC] at h7)
            have H7 : Hid (Qv wq5 (.slice (some ⟨wd.heap.size, 0, none⟩) 1 1) [⟨73, ⟨false, 0⟩⟩]) := Qv.ch h7 hc5 (fun y hy _ e => by have hy' : wd.heap.size = y := Option.some.inj hy; omega)
            obtain ⟨a5, c5, e5⟩ := own_formN hown
            subst e5
            clear hown hgrow hat hc5 hbl h7
            refine hK.out _ _ ?_ (fun hHeld => ?_)
            · exact (HSF.out _ HB5.out)
            clear hK K
            try simp only [Act.put, List.setIfInBounds_toArray, List.set_cons_zero, List.set_cons_succ]
            refine wpAnyH_ready (rs := [6]) (by kernel_rfl) (by simp) ?_
            refine AllReadyH.cons (o := ⟨some 60, _, _, _, _, _⟩) rfl (fun K hK => ?_) AllReadyH.nil
            refine step_app_qv rfl (.tmp 57) (.tmp 59) rfl w5.heap.size (.slice a5 m.P.length c5) m.P.length m.P (by simp [Act.eval]) HO5.out (.slice (some ⟨wd.heap.size, 0, none⟩) 1 1) [⟨73, ⟨false, 0⟩⟩] (by simp [Act.eval]) H7.out (by have := HSZ.out; simp only [List.length_singleton]; omega) (HB5.out : Below _ _ _).size ?_
            intro v6 wq6 hown hgrow hat
            have hc6 : Ch (fun y => (Value.slice a5 m.P.length c5).ownBlock = some y) wq5 wq6 := Ch.of_grown hgrow (fun y hy => hy)
            have HB6 : Hid (Below w5.heap.size w5 wq6) := (HB5.out : Below _ _ _).trans (hc6.to_below (HB5.out : Below _ _ _).size (fun y hy => (HO5.out.lt y hy).1))
            obtain ⟨g, cap, e6, hcap, hcm, hNg, hgw⟩ := row_formQ hown (by simp)
            subst e6
            have HO6 : Hid (wq6.ownsRow w5.heap.size 60 3 (.slice (some ⟨g, 0, none⟩) m.P.length cap) m.P.length (flatQ m.P)) := by have h := own_cutN hown (k := m.P.length) (Nat.le_add_right _ _); rw [flatQ_append, List.take_left' (flatQ_len _)] at h; exact h
            have HCP : Hid (m.P.length < cap ∧ cap ≤ maxLen ∧ w5.heap.size ≤ g) := ⟨by simp at hcap; omega, hcm, hNg⟩
            have HX6 : Hid _ := HXi.out.keep HB6.out
            have HM6 : Hid _ := HMi.out.keep HB6.out
            have hcI : ((m.P.length : Nat) : Int) ≤ (cap : Int) := by have := HCP.out; omega
            clear hown hgrow hat hc6 hcap hcm hNg hgw
            refine hK.out _ _ ?_ (fun hHeld => ?_)
            · exact HM6.out.c8
            clear hK K
            try simp only [Act.put, List.setIfInBounds_toArray, List.set_cons_zero, List.set_cons_succ]
            refine wpAnyH_take (i := 10) (oi := ⟨some 64, _, _, _, _, _⟩) (v := ?_) rfl (by kernel_rfl) (by kernel_rfl) (by kernel_rfl) (fun _ _ _ h => h) (Or.inl ⟨by rfl, ?_⟩) hHeld ?_
            rotate_left
            · intro w hSw; (try dsimp only at hSw); go_simp; all_goals (with_reducible rfl)
            try simp only [Act.put, List.setIfInBounds_toArray, List.set_cons_zero, List.set_cons_succ]
            refine wpAnyH_take (i := 11) (oi := ⟨some 65, _, _, _, _, _⟩) (v := ?_) rfl (by kernel_rfl) (by kernel_rfl) (by kernel_rfl) (fun _ _ _ h => h) (Or.inl ⟨by rfl, ?_⟩) hHeld ?_
            rotate_left
            · intro w hSw; (try dsimp only at hSw); go_simp; all_goals (with_reducible rfl)
            try simp only [Act.put, List.setIfInBounds_toArray, List.set_cons_zero, List.set_cons_succ]
            refine wpAnyH_ready (rs := [12]) (by kernel_rfl) (by simp) ?_
            refine AllReadyH.cons (o := ⟨none, _, _, _, _, _⟩) rfl (fun K hK => ?_) AllReadyH.nil
            have xf := HX6.out.c8
            have xz := HX6.out.z 8
            go_simp
            clear xf xz
            refine hK.out _ _ ?_ (fun hHeld => ?_)
            · exact (HM6.out.ch (ch_set wq6 X 8 _) (show ¬ M0 = X by have := HXL.out; omega)).c8
            clear hK K
            try simp only [Act.put, List.setIfInBounds_toArray, List.set_cons_zero, List.set_cons_succ]
            refine wpAnyH_done (by kernel_rfl) ?_ _
            refine NoPanic.normal ?_
            go_wp2_with fail
            go_meet
            exact ⟨g, cap, Nat.le_of_lt HCP.out.1, HCP.out.2.1, HCP.out.2.2, own_chG' HO6.out (ch_set wq6 X 8 (.slice (some ⟨g, 0, none⟩) m.P.length cap)) (fun y hy e => by have hy' : g = y := Option.some.inj hy; have h1 := HXW2.out; have h2 := HCP.out.2.2; omega), HX6.out.s8 (.slice (some ⟨g, 0, none⟩) m.P.length cap), (Ch.of_below HB6.out).trans (ch_set wq6 X 8 (.slice (some ⟨g, 0, none⟩) m.P.length cap)) (fun y hy => .inl hy)⟩
      case rest =>
        obtain ⟨g2, cap2, hc1, hm1, hn1, ho1, hx1, hch1⟩ := hcut
        obtain ⟨w6, hwj⟩ : ∃ x, x = wc := ⟨_, rfl⟩
        rw [← hwj] at ho1 hx1 hch1 ⊢
        clear hwj
        have HB6 : Hid (Below w.heap.size w w6) := HB5.out.trans (hch1.to_below HB5.out.size (fun y hy => by have := HXL.out; omega))
        have HMj : Hid _ := HMi.out.ch hch1 (show ¬ M0 = X by have := HXL.out; omega)
        have HN6 : Hid _ := HN5.out.ch hch1 (fun y hy hk => by have := HXL.out; rcases hk with e | e | ⟨z, hz, _⟩; omega; omega; simp at hz)
        have HXW3 : Hid (X < w6.heap.size) := by have h1 := HXW2.out; have h2 := hch1.size; show _ < _; omega
        have HSz2 : Hid (w5.heap.size ≤ w6.heap.size ∧ w5.heap.size ≤ g2) := ⟨hch1.size, hn1⟩
        have HR2 : Hid (w6.ownsRow w5.heap.size 60 3 (.slice (some ⟨g2, 0, none⟩) m.P.length cap2) m.P.length (flatQ m.P)) := ho1
        have HR0b : Hid (w6.ownsRow w3.heap.size 3 1 (.slice (some ⟨g0, 0, none⟩) m.E.length cap0) m.E.length (m.E.map (Value.int .i64))) := own_chG' HR0.out hch1 (fun y hy e => by have hy' : g0 = y := Option.some.inj hy; have h1 := HSz0.out; have h2 := HXW0.out; omega)
        clear HR0
        have HR0 : Hid (w6.ownsRow w3.heap.size 3 1 (.slice (some ⟨g0, 0, none⟩) m.E.length cap0) m.E.length (m.E.map (Value.int .i64))) := HR0b.out
        have HR1b : Hid (w6.ownsRow w4.heap.size 56 1 (.slice (some ⟨g1, 0, none⟩) m.Q.length cap1) m.Q.length ((ib m.Q).map (Value.int .u64))) := own_chG' HR1.out hch1 (fun y hy e => by have hy' : g1 = y := Option.some.inj hy; have h1 := HSz1.out; have h2 := HXW1.out; omega)
        clear HR1
        have HR1 : Hid (w6.ownsRow w4.heap.size 56 1 (.slice (some ⟨g1, 0, none⟩) m.Q.length cap1) m.Q.length ((ib m.Q).map (Value.int .u64))) := HR1b.out
        have HXj : Hid _ := hx1
        clear hc1 hm1 hn1 ho1 hx1 hch1 HSF HMi HXi HLi
        have HLi : Hid _ := HL.out.below HB6.out
        have HMi : Hid _ := HMj.out
        have HXi : Hid _ := HXj.out
        clear HMj HXj
        have HMo : Hid (Mo w6 w3.heap.size w6.heap.size m (.slice (some ⟨g0, 0, none⟩) m.E.length cap0) (.slice (some ⟨g1, 0, none⟩) m.Q.length cap1) (.slice (some ⟨g2, 0, none⟩) m.P.length cap2)) := ML.of_own HK.out HR0.out (own_baseC HR1.out HSz0.out.1) (own_baseC HR2.out (Nat.le_trans HSz0.out.1 HSz1.out.1))
        have HX6 : Hid (MX w6 X m (.slice (some ⟨g0, 0, none⟩) m.E.length cap0) (.slice (some ⟨g1, 0, none⟩) m.Q.length cap1) (.slice (some ⟨g2, 0, none⟩) m.P.length cap2)) := HXi.out
        obtain ⟨xa, hxa⟩ : ∃ xa : Option Addr, xa = some ⟨g0, 0, none⟩ := ⟨_, rfl⟩
        obtain ⟨ya, hya⟩ : ∃ ya : Option Addr, ya = some ⟨g1, 0, none⟩ := ⟨_, rfl⟩
        obtain ⟨za, hza⟩ : ∃ za : Option Addr, za = some ⟨g2, 0, none⟩ := ⟨_, rfl⟩
        obtain ⟨xc, hxc⟩ : ∃ xc, xc = cap0 := ⟨_, rfl⟩
        obtain ⟨yc, hyc⟩ : ∃ yc, yc = cap1 := ⟨_, rfl⟩
        obtain ⟨zc, hzc⟩ : ∃ zc, zc = cap2 := ⟨_, rfl⟩
        rw [← hxa, ← hya, ← hza, ← hxc, ← hyc, ← hzc] at HMo HX6
        obtain ⟨lo, hlo⟩ : ∃ lo, lo = w3.heap.size := ⟨_, rfl⟩
        obtain ⟨hi, hhi⟩ : ∃ hi, hi = w6.heap.size := ⟨_, rfl⟩
        rw [← hlo, ← hhi] at HMo
        have HXlo : Hid (M0 < lo ∧ X < lo ∧ P < lo ∧ b < lo ∧ w.heap.size ≤ lo ∧ lo ≤ hi ∧ hi ≤ w6.heap.size) := by
          have h1 := HXL.out
          have h2 := HXW0.out
          have h3 := HSz0.out.1
          have h4 := HSz1.out.1
          have h5 := HSz2.out.1
          exact ⟨by omega, by omega, by omega, by omega, by omega, by omega, by omega⟩
        clear hlo hhi hxa hya hza hxc hyc hzc HR0 HR1 HR2 HSz0 HSz1 HSz2 HXW0 HXW1 HXW2 HXW3 HXW HXi HN3 HN4 HN5 HB3 HB4 HB5 HX3 HM3
        have HM6 : Hid (MX w6 M0 m (.slice ea m.E.length ec) (.slice qa m.Q.length qc) (.slice pa m.P.length pc)) := HMi.out
        clear HMi HLi
        have x0 := HX6.out.c0
        have x1' := HX6.out.c1
        have x2 := HX6.out.c2
        have x3 := HX6.out.c3
        have x4 := HX6.out.c4
        have x5 := HX6.out.c5
        have x6 := HX6.out.c6
        have x7 := HX6.out.c7
        have x8 := HX6.out.c8
        go_wp2_with fail
        refine (send_walk HN6.out HMo.out.l HK.out (by omega)).mono ?_
        rintro e w7 (⟨_, rfl, hB⟩ | ⟨_, ⟨hl, _⟩ | ⟨_, rfl, x1, hxn, hxm, hn, hxl, hc⟩⟩)
        · have HN7 : Hid _ := HN6.out.below hB
          have HB7 : Hid (Below w.heap.size w w7) := below_trans HB6.out hB
          clear hB x0 x1' x2 x3 x4 x5 x6 x7 x8
          go_wp2_with fail
          refine (next_walk HN7.out).mono ?_
          rintro e w8 ⟨rfl, hw8⟩
          rw [← hw8] at HN7 HB7
          clear hw8
          go_wp2_with fail
          refine (flights_walk HN7.out (by omega)).mono ?_
          rintro e w9 ⟨v9, F, rfl, hfr, hnm, hB⟩
          have hF : F = [] := by have h := congrArg List.length hnm; simp at h; exact h
          subst hF
          obtain ⟨va, vc, hva⟩ := own_formN hfr.own
          subst hva
          have HB9 : Hid (Below w.heap.size w w9) := below_trans HB7.out hB
          clear hfr hnm hB
          rw [List.length_nil]
          go_wp2_with fail
          go_ret
          exact ⟨rfl, HB9.out⟩
        · simp at hl
        have HN7 : Hid (Nt w7 P b 9 1 [x1]) := hn
        have HX1 : Hid (x1.n = 0 ∧ x1.m = m ∧ hi ≤ x1.lo) := ⟨hxn, hxm, by have := HXlo.out; omega⟩
        have HMo7 : Hid _ := HMo.out.ch hc (fun y h1 _ e => by have := HXlo.out; omega)
        have HX7 : Hid _ := HX6.out.ch hc (fun e => by have := HXL.out; omega)
        have HM7 : Hid _ := HM6.out.ch hc (fun e => by have := HPB.out; omega)
        have HB7 : Hid (Below w.heap.size w w7) := HB6.out.trans (hc.to_below HB6.out.size (fun y hy => by have := HPB.out; omega))
        have HH7 : Hid (hi ≤ w7.heap.size) := by have h1 := HXlo.out; have h2 := hc.size; show _ ≤ _; omega
        clear hn hxn hxm hxl hc x0 x1' x2 x3 x4 x5 x6 x7 x8 HN6 HX6 HM6 HMo HB6
        have x0 := HX7.out.c0
        have x1' := HX7.out.c1
        have x2 := HX7.out.c2
        have x3 := HX7.out.c3
        have x4 := HX7.out.c4
        have x5 := HX7.out.c5
        have x6 := HX7.out.c6
        have x7 := HX7.out.c7
        have x8 := HX7.out.c8
        have y0 := HM7.out.c0
        have y1 := HM7.out.c1
        have y2 := HM7.out.c2
        have y3 := HM7.out.c3
        have y4 := HM7.out.c4
        have y5 := HM7.out.c5
        have y6 := HM7.out.c6
        have y7 := HM7.out.c7
        have y8 := HM7.out.c8
        go_wp2_with fail
        refine (same_walk HMo7.out.l (HL.out.below HB7.out) HK.out).mono ?_
        rintro e w8 ⟨rfl, hB⟩
        have HN8 : Hid _ := HN7.out.below hB
        have HX8 : Hid _ := HX7.out.keep hB
        have HM8 : Hid _ := HM7.out.keep hB
        have HB8 : Hid (Below w.heap.size w w8) := below_trans HB7.out hB
        have HW : Hid (Wv lo hi w8 w8 (.slice xa m.E.length xc) (.slice ya m.Q.length yc) (.slice za m.P.length zc) m.E.length m.Q.length m.P.length) := by
          have h := HMo7.out.ch (D := fun _ => False) (Ch.of_below hB) (fun _ _ _ e => e)
          exact ⟨Ch.refl _ _, h.e, h.q, h.p⟩
        clear hB HN7 HX7 HM7 HB7 HMo7 x0 x1' x2 x3 x4 x5 x6 x7 x8 y0 y1 y2 y3 y4 y5 y6 y7 y8
        go_wp2_with fail
        rename_i Kx6 Ax6
        go_loopw [6] (fun iv wr => ∃ i : Nat, iv = .int .i64 i ∧ i ≤ m.E.length ∧ Wv lo hi w8 wr (.slice xa m.E.length xc) (.slice ya m.Q.length yc) (.slice za m.P.length zc) m.E.length m.Q.length m.P.length) (fun iv _ => m.E.length - (intOf iv).toNat)
        case atStart => exact ⟨0, rfl, Nat.zero_le _, HW.out⟩
        case round =>
          clear HW
          obtain ⟨i, rfl, hin, hw⟩ := hrel
          have HW : Hid (Wv lo hi w8 wr (.slice xa m.E.length xc) (.slice ya m.Q.length yc) (.slice za m.P.length zc) m.E.length m.Q.length m.P.length) := hw
          clear hw
          have xf := (HX8.out.ch HW.out.ch (fun e => by have := HXlo.out; omega)).c6
          by_cases hlt : i < m.E.length
          · have hlti : (i : Int) < (m.E.length : Int) := by omega
            obtain ⟨gz, capz, e1, hnc, hcm, hg1, hg2, hrc⟩ : ∃ g cap, Value.slice xa m.E.length xc = .slice (some ⟨g, 0, none⟩) m.E.length cap ∧ m.E.length ≤ cap ∧ cap ≤ maxLen ∧ lo ≤ g ∧ g < hi ∧ Rcl wr g (m.E.length * 1) := by rcases HW.out.e with h | h; (exfalso; omega); exact h
            simp only [Value.slice.injEq] at e1
            obtain ⟨rfl, _, rfl⟩ := e1
            have HG : Hid (lo ≤ gz ∧ gz < hi) := ⟨hg1, hg2⟩
            obtain ⟨⟨x0, hx0⟩, hz0⟩ := hrc i (by omega)
            clear hnc hcm hg1 hg2 hrc
            have HW2 : Hid _ := HW.out.put HG.out i (.int .i64 200)
            go_wp2_with fail
            go_roundw
            case rel => exact ⟨i + 1, by go_num, by omega, HW2.out⟩
            case measure => simp [intOf]; omega
          · have hlti : ¬ (i : Int) < (m.E.length : Int) := by omega
            clear hlt hin
            go_wp2_with fail
            clear hlti xf
            rename_i Kx7 Ax7
            go_loopw [7] (fun iv wr => ∃ i : Nat, iv = .int .i64 i ∧ i ≤ m.Q.length ∧ Wv lo hi w8 wr (.slice xa m.E.length xc) (.slice ya m.Q.length yc) (.slice za m.P.length zc) m.E.length m.Q.length m.P.length) (fun iv _ => m.Q.length - (intOf iv).toNat)
            case atStart => exact ⟨0, rfl, Nat.zero_le _, HW.out⟩
            case round =>
              clear HW
              obtain ⟨i, rfl, hin, hw⟩ := hrel
              have HW : Hid (Wv lo hi w8 wr (.slice xa m.E.length xc) (.slice ya m.Q.length yc) (.slice za m.P.length zc) m.E.length m.Q.length m.P.length) := hw
              clear hw
              have xf := (HX8.out.ch HW.out.ch (fun e => by have := HXlo.out; omega)).c7
              by_cases hlt : i < m.Q.length
              · have hlti : (i : Int) < (m.Q.length : Int) := by omega
                obtain ⟨gz, capz, e1, hnc, hcm, hg1, hg2, hrc⟩ : ∃ g cap, Value.slice ya m.Q.length yc = .slice (some ⟨g, 0, none⟩) m.Q.length cap ∧ m.Q.length ≤ cap ∧ cap ≤ maxLen ∧ lo ≤ g ∧ g < hi ∧ Rcl wr g (m.Q.length * 1) := by rcases HW.out.q with h | h; (exfalso; omega); exact h
                simp only [Value.slice.injEq] at e1
                obtain ⟨rfl, _, rfl⟩ := e1
                have HG : Hid (lo ≤ gz ∧ gz < hi) := ⟨hg1, hg2⟩
                obtain ⟨⟨x0, hx0⟩, hz0⟩ := hrc i (by omega)
                clear hnc hcm hg1 hg2 hrc
                have HW2 : Hid _ := HW.out.put HG.out i (.int .u64 201)
                go_wp2_with fail
                go_roundw
                case rel => exact ⟨i + 1, by go_num, by omega, HW2.out⟩
                case measure => simp [intOf]; omega
              · have hlti : ¬ (i : Int) < (m.Q.length : Int) := by omega
                clear hlt hin
                go_wp2_with fail
                clear hlti xf
                rename_i Kx8 Ax8
                go_loopw [8] (fun iv wr => ∃ i : Nat, iv = .int .i64 i ∧ i ≤ m.P.length ∧ Wv lo hi w8 wr (.slice xa m.E.length xc) (.slice ya m.Q.length yc) (.slice za m.P.length zc) m.E.length m.Q.length m.P.length) (fun iv _ => m.P.length - (intOf iv).toNat)
                case atStart => exact ⟨0, rfl, Nat.zero_le _, HW.out⟩
                case round =>
                  clear HW
                  obtain ⟨i, rfl, hin, hw⟩ := hrel
                  have HW : Hid (Wv lo hi w8 wr (.slice xa m.E.length xc) (.slice ya m.Q.length yc) (.slice za m.P.length zc) m.E.length m.Q.length m.P.length) := hw
                  clear hw
                  have xf := (HX8.out.ch HW.out.ch (fun e => by have := HXlo.out; omega)).c8
                  by_cases hlt : i < m.P.length
                  · have hlti : (i : Int) < (m.P.length : Int) := by omega
                    obtain ⟨gz, capz, e1, hnc, hcm, hg1, hg2, hrc⟩ : ∃ g cap, Value.slice za m.P.length zc = .slice (some ⟨g, 0, none⟩) m.P.length cap ∧ m.P.length ≤ cap ∧ cap ≤ maxLen ∧ lo ≤ g ∧ g < hi ∧ Rcl wr g (m.P.length * 3) := by rcases HW.out.p with h | h; (exfalso; omega); exact h
                    simp only [Value.slice.injEq] at e1
                    obtain ⟨rfl, _, rfl⟩ := e1
                    have HG : Hid (lo ≤ gz ∧ gz < hi) := ⟨hg1, hg2⟩
                    obtain ⟨⟨x0, hx0⟩, hz0⟩ := hrc (i * 3) (by omega)
                    obtain ⟨⟨x1, hx1⟩, hz1⟩ := hrc (i * 3 + 1) (by omega)
                    obtain ⟨⟨x2, hx2⟩, hz2⟩ := hrc (i * 3 + 2) (by omega)
                    clear hnc hcm hg1 hg2 hrc
                    have HW2 : Hid _ := HW.out.put3 HG.out (i * 3) (i * 3 + 1) (i * 3 + 2) (.int .u64 202) (.bool false) (.int .u64 0)
                    go_wp2_with fail
                    go_roundw
                    case rel => exact ⟨i + 1, by go_num, by omega, HW2.out⟩
                    case measure => simp [intOf]; omega
                  · have hlti : ¬ (i : Int) < (m.P.length : Int) := by omega
                    clear hlt hin
                    obtain ⟨w9, hw9⟩ : ∃ x, x = wr := ⟨_, rfl⟩
                    rw [← hw9] at HW xf ⊢
                    clear hw9
                    go_upto_region 27 with fail
                    have HN9 : Hid _ := HN8.out.ch HW.out.ch (fun y hy hk => by have h1 := HXlo.out; have h2 := HX1.out; rcases hk with e | e | ⟨z, hz, h3, _⟩; omega; omega; rw [List.mem_singleton] at hz; subst hz; omega)
                    have HM9 : Hid _ := HM8.out.ch HW.out.ch (fun e => by have := HXlo.out; omega)
                    have HB9 : Hid (Below w.heap.size w w9) := HB8.out.trans (HW.out.ch.to_below HB8.out.size (fun y hy => by have := HXlo.out; omega))
                    clear HW xf hlti HN8 HM8 HB8 HX8
                    go_wp2_with fail
                    refine (copy_in HN9.out (in64_s (by decide) (by decide)) (at_first (by rw [HX1.out.1]; rfl)) (by omega)).mono ?_
                    rintro e w10 (⟨hl, _⟩ | ⟨_, rfl, x2, hxn, hxm, hn, hxl, hc⟩)
                    · simp at hl
                    have HN10 : Hid (Nt w10 P b 9 2 [x1, x2]) := hn
                    have HX2 : Hid (x2.n = 1 ∧ x2.m = m) := ⟨hxn, hxm.trans HX1.out.2.1⟩
                    have HM10 : Hid _ := HM9.out.ch hc (fun e => by have := HPB.out; omega)
                    have HB10 : Hid (Below w.heap.size w w10) := HB9.out.trans (hc.to_below HB9.out.size (fun y hy => by have := HPB.out; omega))
                    clear hn hxn hxm hxl hc HN9 HM9 HB9
                    go_wp2_with fail
                    refine (flights_walk HN10.out (by omega)).mono ?_
                    rintro e w11 ⟨v11, F, rfl, hfr, hnm, hB⟩
                    obtain ⟨f0, f1, hF⟩ : ∃ f0 f1, F = [f0, f1] := by
                      have h := congrArg List.length hnm
                      simp at h
                      match F, h with
                      | [a, c], _ => exact ⟨a, c, rfl⟩
                    subst hF
                    have HF01 : Hid (f0.m = m ∧ f1.m = m) := by
                      simp only [List.map_cons, List.map_nil, List.cons.injEq, nmE, Prod.mk.injEq, and_true] at hnm
                      exact ⟨hnm.1.2.trans HX1.out.2.1, hnm.2.2.trans HX2.out.2⟩
                    obtain ⟨va, vc, hva⟩ := own_formN hfr.own
                    subst hva
                    have HFR : Hid (Fr w11 w10.heap.size (.slice va 2 vc) [f0, f1]) := hfr
                    have HN11 : Hid _ := HN10.out.below hB
                    have HM11 : Hid _ := HM10.out.keep hB
                    have HB11 : Hid (Below w.heap.size w w11) := below_trans HB10.out hB
                    have HS10 : Hid (w10.heap.size ≤ w11.heap.size ∧ (∀ y, Bk P b [x1, x2] y → y < w10.heap.size)) := ⟨hB.size, fun y hy => by rcases hy with e | e | ⟨z, hz, _, h2⟩; rw [e]; exact HN10.out.ltP; rw [e]; exact HN10.out.ltb; have := (HN10.out.ent z hz).hi; omega⟩
                    have HM10L : Hid (M0 < w10.heap.size) := cell_lt HM10.out.c0
                    have HW10 : Hid (w.heap.size ≤ w10.heap.size) := HB10.out.size
                    clear hnm hfr hB HN10 HM10 HB10
                    obtain ⟨gl, gcap, hgl, _⟩ := row_formQ HFR.out.own (by simp)
                    simp only [Value.slice.injEq] at hgl
                    obtain ⟨hva, _, hvc⟩ := hgl
                    subst hva hvc
                    have HE0 : Hid (Eo w11 f0) := HFR.out.ent f0 (by simp)
                    obtain ⟨fa0, fc0, fq0, fd0, fp0, fg0, u1, u2, u3⟩ := ml_form2 HE0.out.mo.l
                    rw [HF01.out.1] at u1 u2 u3
                    have HU0 : Hid (f0.e = .slice fa0 m.E.length fc0 ∧ f0.q = .slice fq0 m.Q.length fd0 ∧ f0.p = .slice fp0 m.P.length fg0) := ⟨u1, u2, u3⟩
                    clear u1 u2 u3
                    have HE1 : Hid (Eo w11 f1) := HFR.out.ent f1 (by simp)
                    obtain ⟨fa1, fc1, fq1, fd1, fp1, fg1, u1, u2, u3⟩ := ml_form2 HE1.out.mo.l
                    rw [HF01.out.2] at u1 u2 u3
                    have HU1 : Hid (f1.e = .slice fa1 m.E.length fc1 ∧ f1.q = .slice fq1 m.Q.length fd1 ∧ f1.p = .slice fp1 m.P.length fg1) := ⟨u1, u2, u3⟩
                    clear u1 u2 u3
                    have r0 : w11.cell? ⟨gl, 1, none⟩ = some (.int .i64 m.K) := by have h := row_flM HFR.out.own 1 _ rfl; rw [HF01.out.1] at h; exact h
                    have r1 : w11.cell? ⟨gl, 2, none⟩ = some (.int .i64 m.F) := by have h := row_flM HFR.out.own 2 _ rfl; rw [HF01.out.1] at h; exact h
                    have r2 : w11.cell? ⟨gl, 3, none⟩ = some (.int .i64 m.T) := by have h := row_flM HFR.out.own 3 _ rfl; rw [HF01.out.1] at h; exact h
                    have r3 : w11.cell? ⟨gl, 4, none⟩ = some (.int .i64 m.B) := by have h := row_flM HFR.out.own 4 _ rfl; rw [HF01.out.1] at h; exact h
                    have r4 : w11.cell? ⟨gl, 5, none⟩ = some (.int .i64 m.A) := by have h := row_flM HFR.out.own 5 _ rfl; rw [HF01.out.1] at h; exact h
                    have r5 : w11.cell? ⟨gl, 6, none⟩ = some (.int .i64 m.C) := by have h := row_flM HFR.out.own 6 _ rfl; rw [HF01.out.1] at h; exact h
                    have r6 : w11.cell? ⟨gl, 7, none⟩ = some (.slice fa0 m.E.length fc0) := by have h := row_flM HFR.out.own 7 _ rfl; rw [HU0.out.1] at h; exact h
                    have r7 : w11.cell? ⟨gl, 8, none⟩ = some (.slice fq0 m.Q.length fd0) := by have h := row_flM HFR.out.own 8 _ rfl; rw [HU0.out.2.1] at h; exact h
                    have r8 : w11.cell? ⟨gl, 9, none⟩ = some (.slice fp0 m.P.length fg0) := by have h := row_flM HFR.out.own 9 _ rfl; rw [HU0.out.2.2] at h; exact h
                    have s0 : w11.cell? ⟨gl, 11, none⟩ = some (.int .i64 m.K) := by have h := row_flM HFR.out.own 11 _ rfl; rw [HF01.out.2] at h; exact h
                    have s1 : w11.cell? ⟨gl, 12, none⟩ = some (.int .i64 m.F) := by have h := row_flM HFR.out.own 12 _ rfl; rw [HF01.out.2] at h; exact h
                    have s2 : w11.cell? ⟨gl, 13, none⟩ = some (.int .i64 m.T) := by have h := row_flM HFR.out.own 13 _ rfl; rw [HF01.out.2] at h; exact h
                    have s3 : w11.cell? ⟨gl, 14, none⟩ = some (.int .i64 m.B) := by have h := row_flM HFR.out.own 14 _ rfl; rw [HF01.out.2] at h; exact h
                    have s4 : w11.cell? ⟨gl, 15, none⟩ = some (.int .i64 m.A) := by have h := row_flM HFR.out.own 15 _ rfl; rw [HF01.out.2] at h; exact h
                    have s5 : w11.cell? ⟨gl, 16, none⟩ = some (.int .i64 m.C) := by have h := row_flM HFR.out.own 16 _ rfl; rw [HF01.out.2] at h; exact h
                    have s6 : w11.cell? ⟨gl, 17, none⟩ = some (.slice fa1 m.E.length fc1) := by have h := row_flM HFR.out.own 17 _ rfl; rw [HU1.out.1] at h; exact h
                    have s7 : w11.cell? ⟨gl, 18, none⟩ = some (.slice fq1 m.Q.length fd1) := by have h := row_flM HFR.out.own 18 _ rfl; rw [HU1.out.2.1] at h; exact h
                    have s8 : w11.cell? ⟨gl, 19, none⟩ = some (.slice fp1 m.P.length fg1) := by have h := row_flM HFR.out.own 19 _ rfl; rw [HU1.out.2.2] at h; exact h
                    have kr0 : ∀ wx, Below w11.heap.size w11 wx → wx.cell? ⟨gl, 1, none⟩ = some (.int .i64 m.K) := fun wx hx => by rw [hx.cell (p := ⟨gl, 1, none⟩) (cell_lt r0)]; exact r0
                    have kr1 : ∀ wx, Below w11.heap.size w11 wx → wx.cell? ⟨gl, 2, none⟩ = some (.int .i64 m.F) := fun wx hx => by rw [hx.cell (p := ⟨gl, 2, none⟩) (cell_lt r1)]; exact r1
                    have kr2 : ∀ wx, Below w11.heap.size w11 wx → wx.cell? ⟨gl, 3, none⟩ = some (.int .i64 m.T) := fun wx hx => by rw [hx.cell (p := ⟨gl, 3, none⟩) (cell_lt r2)]; exact r2
                    have kr3 : ∀ wx, Below w11.heap.size w11 wx → wx.cell? ⟨gl, 4, none⟩ = some (.int .i64 m.B) := fun wx hx => by rw [hx.cell (p := ⟨gl, 4, none⟩) (cell_lt r3)]; exact r3
                    have kr4 : ∀ wx, Below w11.heap.size w11 wx → wx.cell? ⟨gl, 5, none⟩ = some (.int .i64 m.A) := fun wx hx => by rw [hx.cell (p := ⟨gl, 5, none⟩) (cell_lt r4)]; exact r4
                    have kr5 : ∀ wx, Below w11.heap.size w11 wx → wx.cell? ⟨gl, 6, none⟩ = some (.int .i64 m.C) := fun wx hx => by rw [hx.cell (p := ⟨gl, 6, none⟩) (cell_lt r5)]; exact r5
                    have kr6 : ∀ wx, Below w11.heap.size w11 wx → wx.cell? ⟨gl, 7, none⟩ = some (.slice fa0 m.E.length fc0) := fun wx hx => by rw [hx.cell (p := ⟨gl, 7, none⟩) (cell_lt r6)]; exact r6
                    have kr7 : ∀ wx, Below w11.heap.size w11 wx → wx.cell? ⟨gl, 8, none⟩ = some (.slice fq0 m.Q.length fd0) := fun wx hx => by rw [hx.cell (p := ⟨gl, 8, none⟩) (cell_lt r7)]; exact r7
                    have kr8 : ∀ wx, Below w11.heap.size w11 wx → wx.cell? ⟨gl, 9, none⟩ = some (.slice fp0 m.P.length fg0) := fun wx hx => by rw [hx.cell (p := ⟨gl, 9, none⟩) (cell_lt r8)]; exact r8
                    have ks0 : ∀ wx, Below w11.heap.size w11 wx → wx.cell? ⟨gl, 11, none⟩ = some (.int .i64 m.K) := fun wx hx => by rw [hx.cell (p := ⟨gl, 11, none⟩) (cell_lt s0)]; exact s0
                    have ks1 : ∀ wx, Below w11.heap.size w11 wx → wx.cell? ⟨gl, 12, none⟩ = some (.int .i64 m.F) := fun wx hx => by rw [hx.cell (p := ⟨gl, 12, none⟩) (cell_lt s1)]; exact s1
                    have ks2 : ∀ wx, Below w11.heap.size w11 wx → wx.cell? ⟨gl, 13, none⟩ = some (.int .i64 m.T) := fun wx hx => by rw [hx.cell (p := ⟨gl, 13, none⟩) (cell_lt s2)]; exact s2
                    have ks3 : ∀ wx, Below w11.heap.size w11 wx → wx.cell? ⟨gl, 14, none⟩ = some (.int .i64 m.B) := fun wx hx => by rw [hx.cell (p := ⟨gl, 14, none⟩) (cell_lt s3)]; exact s3
                    have ks4 : ∀ wx, Below w11.heap.size w11 wx → wx.cell? ⟨gl, 15, none⟩ = some (.int .i64 m.A) := fun wx hx => by rw [hx.cell (p := ⟨gl, 15, none⟩) (cell_lt s4)]; exact s4
                    have ks5 : ∀ wx, Below w11.heap.size w11 wx → wx.cell? ⟨gl, 16, none⟩ = some (.int .i64 m.C) := fun wx hx => by rw [hx.cell (p := ⟨gl, 16, none⟩) (cell_lt s5)]; exact s5
                    have ks6 : ∀ wx, Below w11.heap.size w11 wx → wx.cell? ⟨gl, 17, none⟩ = some (.slice fa1 m.E.length fc1) := fun wx hx => by rw [hx.cell (p := ⟨gl, 17, none⟩) (cell_lt s6)]; exact s6
                    have ks7 : ∀ wx, Below w11.heap.size w11 wx → wx.cell? ⟨gl, 18, none⟩ = some (.slice fq1 m.Q.length fd1) := fun wx hx => by rw [hx.cell (p := ⟨gl, 18, none⟩) (cell_lt s7)]; exact s7
                    have ks8 : ∀ wx, Below w11.heap.size w11 wx → wx.cell? ⟨gl, 19, none⟩ = some (.slice fp1 m.P.length fg1) := fun wx hx => by rw [hx.cell (p := ⟨gl, 19, none⟩) (cell_lt s8)]; exact s8
                    have km0 : ∀ wx, Below w11.heap.size w11 wx → wx.cell? ⟨M0, 0, none⟩ = some (.int .i64 m.K) := fun wx hx => (HM11.out.keep hx).c0
                    have km1 : ∀ wx, Below w11.heap.size w11 wx → wx.cell? ⟨M0, 1, none⟩ = some (.int .i64 m.F) := fun wx hx => (HM11.out.keep hx).c1
                    have km2 : ∀ wx, Below w11.heap.size w11 wx → wx.cell? ⟨M0, 2, none⟩ = some (.int .i64 m.T) := fun wx hx => (HM11.out.keep hx).c2
                    have km3 : ∀ wx, Below w11.heap.size w11 wx → wx.cell? ⟨M0, 3, none⟩ = some (.int .i64 m.B) := fun wx hx => (HM11.out.keep hx).c3
                    have km4 : ∀ wx, Below w11.heap.size w11 wx → wx.cell? ⟨M0, 4, none⟩ = some (.int .i64 m.A) := fun wx hx => (HM11.out.keep hx).c4
                    have km5 : ∀ wx, Below w11.heap.size w11 wx → wx.cell? ⟨M0, 5, none⟩ = some (.int .i64 m.C) := fun wx hx => (HM11.out.keep hx).c5
                    have km6 : ∀ wx, Below w11.heap.size w11 wx → wx.cell? ⟨M0, 6, none⟩ = some (.slice ea m.E.length ec) := fun wx hx => (HM11.out.keep hx).c6
                    have km7 : ∀ wx, Below w11.heap.size w11 wx → wx.cell? ⟨M0, 7, none⟩ = some (.slice qa m.Q.length qc) := fun wx hx => (HM11.out.keep hx).c7
                    have km8 : ∀ wx, Below w11.heap.size w11 wx → wx.cell? ⟨M0, 8, none⟩ = some (.slice pa m.P.length pc) := fun wx hx => (HM11.out.keep hx).c8
                    have HRC : Hid (w11.cell? ⟨gl, 7, none⟩ = some (.slice fa0 m.E.length fc0) ∧ w11.cell? ⟨gl, 8, none⟩ = some (.slice fq0 m.Q.length fd0) ∧ w11.cell? ⟨gl, 9, none⟩ = some (.slice fp0 m.P.length fg0) ∧ w11.cell? ⟨gl, 17, none⟩ = some (.slice fa1 m.E.length fc1) ∧ w11.cell? ⟨gl, 18, none⟩ = some (.slice fq1 m.Q.length fd1) ∧ w11.cell? ⟨gl, 19, none⟩ = some (.slice fp1 m.P.length fg1)) := ⟨r6, r7, r8, s6, s7, s8⟩
                    clear r0 s0 r1 s1 r2 s2 r3 s3 r4 s4 r5 s5 r6 s6 r7 s7 r8 s8
                    have HML0 : Hid (ML w11 m (.slice fa0 m.E.length fc0) (.slice fq0 m.Q.length fd0) (.slice fp0 m.P.length fg0)) := by have h := HE0.out.mo.l; rw [HF01.out.1, HU0.out.1, HU0.out.2.1, HU0.out.2.2] at h; exact h
                    have HML1 : Hid (ML w11 m (.slice fa1 m.E.length fc1) (.slice fq1 m.Q.length fd1) (.slice fp1 m.P.length fg1)) := by have h := HE1.out.mo.l; rw [HF01.out.2, HU1.out.1, HU1.out.2.1, HU1.out.2.2] at h; exact h
                    go_upto_region 29 with fail
                    refine wp_region_noPanic ?_
                    refine wp_region_held_drew (S := fun wx => Below w11.heap.size w11 wx) (by kernel_rfl) ?_ (fun hHeld => ?_)
                    · exact below_drewN w11 1
                    refine wpAnyH_take (i := 0) (oi := ⟨some 132, _, _, _, _, _⟩) (v := ?_) rfl (by kernel_rfl) (by kernel_rfl) (by kernel_rfl) (fun _ _ _ h => h) (Or.inl ⟨by rfl, ?_⟩) hHeld ?_
                    rotate_left
                    · intro w hSw; (try dsimp only at hSw); go_simp; all_goals (with_reducible rfl)
                    try simp only [Act.put, List.setIfInBounds_toArray, List.set_cons_zero, List.set_cons_succ]
                    refine wpAnyH_take (i := 1) (oi := ⟨some 133, _, _, _, _, _⟩) (v := ?_) rfl (by kernel_rfl) (by kernel_rfl) (by kernel_rfl) (fun _ _ _ h => h) (Or.inl ⟨by rfl, ?_⟩) hHeld ?_
                    rotate_left
                    · intro w hSw; (try dsimp only at hSw); go_simp; all_goals (with_reducible rfl)
                    try simp only [Act.put, List.setIfInBounds_toArray, List.set_cons_zero, List.set_cons_succ]
                    refine wpAnyH_take (i := 2) (oi := ⟨some 134, _, _, _, _, _⟩) (v := ?_) rfl (by kernel_rfl) (by kernel_rfl) (by kernel_rfl) (fun _ _ _ h => h) (Or.inl ⟨by rfl, ?_⟩) hHeld ?_
                    rotate_left
                    · intro w hSw; (try dsimp only at hSw); go_simp; all_goals (with_reducible rfl)
                    try simp only [Act.put, List.setIfInBounds_toArray, List.set_cons_zero, List.set_cons_succ]
                    refine wpAnyH_take (i := 3) (oi := ⟨some 135, _, _, _, _, _⟩) (v := ?_) rfl (by kernel_rfl) (by kernel_rfl) (by kernel_rfl) (fun _ _ _ h => h) (Or.inl ⟨by rfl, ?_⟩) hHeld ?_
                    rotate_left
                    · intro w hSw; (try dsimp only at hSw); go_simp; all_goals (with_reducible rfl)
                    try simp only [Act.put, List.setIfInBounds_toArray, List.set_cons_zero, List.set_cons_succ]
                    refine wpAnyH_take (i := 4) (oi := ⟨some 136, _, _, _, _, _⟩) (v := ?_) rfl (by kernel_rfl) (by kernel_rfl) (by kernel_rfl) (fun _ _ _ h => h) (Or.inl ⟨by rfl, ?_⟩) hHeld ?_
                    rotate_left
                    · intro w hSw; (try dsimp only at hSw); go_simp; all_goals (with_reducible rfl)
                    try simp only [Act.put, List.setIfInBounds_toArray, List.set_cons_zero, List.set_cons_succ]
                    refine wpAnyH_take (i := 5) (oi := ⟨some 137, _, _, _, _, _⟩) (v := ?_) rfl (by kernel_rfl) (by kernel_rfl) (by kernel_rfl) (fun _ _ _ h => h) (Or.inl ⟨by rfl, ?_⟩) hHeld ?_
                    rotate_left
                    · intro w hSw; (try dsimp only at hSw); go_simp; all_goals (with_reducible rfl)
                    try simp only [Act.put, List.setIfInBounds_toArray, List.set_cons_zero, List.set_cons_succ]
                    refine wpAnyH_take (i := 6) (oi := ⟨some 138, _, _, _, _, _⟩) (v := ?_) rfl (by kernel_rfl) (by kernel_rfl) (by kernel_rfl) (fun _ _ _ h => h) (Or.inl ⟨by rfl, ?_⟩) hHeld ?_
                    rotate_left
                    · intro w hSw; (try dsimp only at hSw); go_simp; all_goals (with_reducible rfl)
                    try simp only [Act.put, List.setIfInBounds_toArray, List.set_cons_zero, List.set_cons_succ]
                    refine wpAnyH_take (i := 7) (oi := ⟨some 139, _, _, _, _, _⟩) (v := ?_) rfl (by kernel_rfl) (by kernel_rfl) (by kernel_rfl) (fun _ _ _ h => h) (Or.inl ⟨by rfl, ?_⟩) hHeld ?_
                    rotate_left
                    · intro w hSw; (try dsimp only at hSw); go_simp; all_goals (with_reducible rfl)
                    try simp only [Act.put, List.setIfInBounds_toArray, List.set_cons_zero, List.set_cons_succ]
                    refine wpAnyH_take (i := 8) (oi := ⟨some 140, _, _, _, _, _⟩) (v := ?_) rfl (by kernel_rfl) (by kernel_rfl) (by kernel_rfl) (fun _ _ _ h => h) (Or.inl ⟨by rfl, ?_⟩) hHeld ?_
                    rotate_left
                    · intro w hSw; (try dsimp only at hSw); go_simp; all_goals (with_reducible rfl)
                    try simp only [Act.put, List.setIfInBounds_toArray, List.set_cons_zero, List.set_cons_succ]
                    refine wpAnyH_take (i := 9) (oi := ⟨some 141, _, _, _, _, _⟩) (v := ?_) rfl (by kernel_rfl) (by kernel_rfl) (by kernel_rfl) (fun _ _ _ h => h) (Or.inl ⟨by rfl, ?_⟩) hHeld ?_
                    rotate_left
                    · intro w hSw; (try dsimp only at hSw); go_simp; all_goals (with_reducible rfl)
                    try simp only [Act.put, List.setIfInBounds_toArray, List.set_cons_zero, List.set_cons_succ]
                    refine wpAnyH_take (i := 10) (oi := ⟨some 142, _, _, _, _, _⟩) (v := ?_) rfl (by kernel_rfl) (by kernel_rfl) (by kernel_rfl) (fun _ _ _ h => h) (Or.inl ⟨by rfl, ?_⟩) hHeld ?_
                    rotate_left
                    · intro w hSw; (try dsimp only at hSw); go_simp; all_goals (with_reducible rfl)
                    try simp only [Act.put, List.setIfInBounds_toArray, List.set_cons_zero, List.set_cons_succ]
                    refine wpAnyH_take (i := 11) (oi := ⟨some 143, _, _, _, _, _⟩) (v := ?_) rfl (by kernel_rfl) (by kernel_rfl) (by kernel_rfl) (fun _ _ _ h => h) (Or.inl ⟨by rfl, ?_⟩) hHeld ?_
                    rotate_left
                    · intro w hSw; (try dsimp only at hSw); go_simp; all_goals (with_reducible rfl)
                    try simp only [Act.put, List.setIfInBounds_toArray, List.set_cons_zero, List.set_cons_succ]
                    refine wpAnyH_take (i := 12) (oi := ⟨some 144, _, _, _, _, _⟩) (v := ?_) rfl (by kernel_rfl) (by kernel_rfl) (by kernel_rfl) (fun _ _ _ h => h) (Or.inl ⟨by rfl, ?_⟩) hHeld ?_
                    rotate_left
                    · intro w hSw; (try dsimp only at hSw); go_simp; all_goals (with_reducible rfl)
                    try simp only [Act.put, List.setIfInBounds_toArray, List.set_cons_zero, List.set_cons_succ]
                    refine wpAnyH_ready (rs := [13]) (by kernel_rfl) (by simp) ?_
                    refine AllReadyH.cons (o := ⟨some 145, _, _, _, _, _⟩) rfl (fun K hK => ?_) AllReadyH.nil
                    go_simp
                    refine (same_walk (HML0.out.below (below_drewN w11 1)) (HL.out.below (below_trans HB11.out (below_drewN w11 1))) HK.out).mono ?_
                    rintro e wp ⟨rfl, hB⟩
                    have HBp : Hid (Below w11.heap.size w11 wp) := below_trans (below_drewN w11 1) hB
                    clear hB
                    refine hK.out _ _ ?_ (fun hHeld => ?_)
                    · exact HBp.out
                    clear hK K
                    try simp only [Act.put, List.setIfInBounds_toArray, List.set_cons_zero, List.set_cons_succ]
                    refine wpAnyH_take (i := 14) (oi := ⟨some 146, _, _, _, _, _⟩) (v := ?_) rfl (by kernel_rfl) (by kernel_rfl) (by kernel_rfl) (fun _ _ _ h => h) (Or.inl ⟨by rfl, ?_⟩) hHeld ?_
                    rotate_left
                    · intro w hSw; (try dsimp only at hSw); go_simp; all_goals (with_reducible rfl)
                    try simp only [Act.put, List.setIfInBounds_toArray, List.set_cons_zero, List.set_cons_succ]
                    refine wpAnyH_take (i := 15) (oi := ⟨some 147, _, _, _, _, _⟩) (v := ?_) rfl (by kernel_rfl) (by kernel_rfl) (by kernel_rfl) (fun _ _ _ h => h) (Or.inl ⟨by rfl, ?_⟩) hHeld ?_
                    rotate_left
                    · intro w hSw; (try dsimp only at hSw); go_simp; all_goals (with_reducible rfl)
                    try simp only [Act.put, List.setIfInBounds_toArray, List.set_cons_zero, List.set_cons_succ]
                    refine wpAnyH_take (i := 16) (oi := ⟨some 148, _, _, _, _, _⟩) (v := ?_) rfl (by kernel_rfl) (by kernel_rfl) (by kernel_rfl) (fun _ _ _ h => h) (Or.inl ⟨by rfl, ?_⟩) hHeld ?_
                    rotate_left
                    · intro w hSw; (try dsimp only at hSw); go_simp; all_goals (with_reducible rfl)
                    try simp only [Act.put, List.setIfInBounds_toArray, List.set_cons_zero, List.set_cons_succ]
                    refine wpAnyH_take (i := 17) (oi := ⟨some 149, _, _, _, _, _⟩) (v := ?_) rfl (by kernel_rfl) (by kernel_rfl) (by kernel_rfl) (fun _ _ _ h => h) (Or.inl ⟨by rfl, ?_⟩) hHeld ?_
                    rotate_left
                    · intro w hSw; (try dsimp only at hSw); go_simp; all_goals (with_reducible rfl)
                    try simp only [Act.put, List.setIfInBounds_toArray, List.set_cons_zero, List.set_cons_succ]
                    refine wpAnyH_take (i := 18) (oi := ⟨some 150, _, _, _, _, _⟩) (v := ?_) rfl (by kernel_rfl) (by kernel_rfl) (by kernel_rfl) (fun _ _ _ h => h) (Or.inl ⟨by rfl, ?_⟩) hHeld ?_
                    rotate_left
                    · intro w hSw; (try dsimp only at hSw); go_simp; all_goals (with_reducible rfl)
                    try simp only [Act.put, List.setIfInBounds_toArray, List.set_cons_zero, List.set_cons_succ]
                    refine wpAnyH_take (i := 19) (oi := ⟨some 151, _, _, _, _, _⟩) (v := ?_) rfl (by kernel_rfl) (by kernel_rfl) (by kernel_rfl) (fun _ _ _ h => h) (Or.inl ⟨by rfl, ?_⟩) hHeld ?_
                    rotate_left
                    · intro w hSw; (try dsimp only at hSw); go_simp; all_goals (with_reducible rfl)
                    try simp only [Act.put, List.setIfInBounds_toArray, List.set_cons_zero, List.set_cons_succ]
                    refine wpAnyH_take (i := 20) (oi := ⟨some 152, _, _, _, _, _⟩) (v := ?_) rfl (by kernel_rfl) (by kernel_rfl) (by kernel_rfl) (fun _ _ _ h => h) (Or.inl ⟨by rfl, ?_⟩) hHeld ?_
                    rotate_left
                    · intro w hSw; (try dsimp only at hSw); go_simp; all_goals (with_reducible rfl)
                    try simp only [Act.put, List.setIfInBounds_toArray, List.set_cons_zero, List.set_cons_succ]
                    refine wpAnyH_take (i := 21) (oi := ⟨some 153, _, _, _, _, _⟩) (v := ?_) rfl (by kernel_rfl) (by kernel_rfl) (by kernel_rfl) (fun _ _ _ h => h) (Or.inl ⟨by rfl, ?_⟩) hHeld ?_
                    rotate_left
                    · intro w hSw; (try dsimp only at hSw); go_simp; all_goals (with_reducible rfl)
                    try simp only [Act.put, List.setIfInBounds_toArray, List.set_cons_zero, List.set_cons_succ]
                    refine wpAnyH_ready (rs := [22]) (by kernel_rfl) (by simp) ?_
                    refine AllReadyH.cons (o := ⟨some 154, _, _, _, _, _⟩) rfl (fun K hK => ?_) AllReadyH.nil
                    go_simp
                    refine (same_walk (HML1.out.below HBp.out) (HL.out.below (below_trans HB11.out HBp.out)) HK.out).mono ?_
                    rintro e wq ⟨rfl, hB⟩
                    have HBq : Hid (Below w11.heap.size w11 wq) := below_trans HBp.out hB
                    clear hB
                    refine hK.out _ _ ?_ (fun hHeld => ?_)
                    · exact HBq.out
                    clear hK K
                    try simp only [Act.put, List.setIfInBounds_toArray, List.set_cons_zero, List.set_cons_succ]
                    refine wpAnyH_take (i := 23) (oi := ⟨some 155, _, _, _, _, _⟩) (v := ?_) rfl (by kernel_rfl) (by kernel_rfl) (by kernel_rfl) (fun _ _ _ h => h) (Or.inl ⟨by rfl, ?_⟩) hHeld ?_
                    rotate_left
                    · intro w hSw; (try dsimp only at hSw); go_simp; all_goals (with_reducible rfl)
                    try simp only [Act.put, List.setIfInBounds_toArray, List.set_cons_zero, List.set_cons_succ]
                    refine wpAnyH_take (i := 24) (oi := ⟨some 156, _, _, _, _, _⟩) (v := ?_) rfl (by kernel_rfl) (by kernel_rfl) (by kernel_rfl) (fun _ _ _ h => h) (Or.inl ⟨by rfl, ?_⟩) hHeld ?_
                    rotate_left
                    · intro w hSw; (try dsimp only at hSw); go_simp; all_goals (with_reducible rfl)
                    try simp only [Act.put, List.setIfInBounds_toArray, List.set_cons_zero, List.set_cons_succ]
                    refine wpAnyH_done (by kernel_rfl) ?_ _
                    refine NoPanic.normal ?_
                    clear kr0 ks0 km0 kr1 ks1 km1 kr2 ks2 km2 kr3 ks3 km3 kr4 ks4 km4 kr5 ks5 km5 kr6 ks6 km6 kr7 ks7 km7 kr8 ks8 km8
                    have HGF : Hid ((gl < f0.lo ∨ f0.hi ≤ gl) ∧ (gl < f1.lo ∨ f1.hi ≤ gl) ∧ f0.hi ≤ f1.lo ∧ w10.heap.size ≤ f0.lo ∧ w10.heap.size ≤ f1.lo ∧ M0 < w10.heap.size) := by
                      have h1 := HFR.out.apart f0 (by simp) gl rfl
                      have h2 := HFR.out.apart f1 (by simp) gl rfl
                      have h3 := (List.pairwise_cons.1 HFR.out.rise).1 f1 (by simp)
                      have h4 := HFR.out.lo f0 (by simp)
                      have h5 := HFR.out.lo f1 (by simp)
                      exact ⟨h1, h2, h3, h4, h5, HM10L.out⟩
                    obtain ⟨w12, hw12⟩ : ∃ x, x = wq := ⟨_, rfl⟩
                    rw [← hw12] at HBq ⊢
                    clear hw12
                    go_wp2_with fail
                    rename_i KT AT
                    go_loopw [10] (fun kv wr => ∃ k : Nat, kv = .int .i64 k ∧ k ≤ 2 ∧ Ch (fun y => (1 ≤ k ∧ f0.lo ≤ y ∧ y < f0.hi) ∨ (2 ≤ k ∧ f1.lo ≤ y ∧ y < f1.hi)) w12 wr) (fun kv _ => 2 - (intOf kv).toNat)
                    case atStart => exact ⟨0, rfl, by omega, Ch.refl _ _⟩
                    case round =>
                      obtain ⟨k, rfl, hk2, hck⟩ := hrel
                      have HCk : Hid (Ch (fun y => (1 ≤ k ∧ f0.lo ≤ y ∧ y < f0.hi) ∨ (2 ≤ k ∧ f1.lo ≤ y ∧ y < f1.hi)) w12 wr) := hck
                      clear hck
                      have hk3 : k = 0 ∨ k = 1 ∨ k = 2 := by omega
                      clear hk2
                      rcases hk3 with rfl | rfl | rfl
                      · clear AT
                        as_aux_lemma =>
                          obtain ⟨wk, hwk⟩ : ∃ x, x = wr := ⟨_, rfl⟩
                          rw [← hwk] at HCk ⊢
                          clear hwk
                          have HCc : Hid (wk.cell? ⟨gl, 7, none⟩ = some (.slice fa0 m.E.length fc0) ∧ wk.cell? ⟨gl, 8, none⟩ = some (.slice fq0 m.Q.length fd0) ∧ wk.cell? ⟨gl, 9, none⟩ = some (.slice fp0 m.P.length fg0)) := by
                            have hb : ∀ j u, w11.cell? ⟨gl, j, none⟩ = some u → wk.cell? ⟨gl, j, none⟩ = some u := fun j u hu => HCk.out.cell (by rw [HBq.out.cell (p := ⟨gl, j, none⟩) (cell_lt hu)]; exact hu) (fun e => by have := HGF.out; simp only at e; omega)
                            exact ⟨hb _ _ HRC.out.1, hb _ _ HRC.out.2.1, hb _ _ HRC.out.2.2.1⟩
                          have HW : Hid (Wv f0.lo f0.hi wk wk (.slice fa0 m.E.length fc0) (.slice fq0 m.Q.length fd0) (.slice fp0 m.P.length fg0) m.E.length m.Q.length m.P.length) := by
                            have h := ((HE0.out.below HBq.out).mo.ch HCk.out (fun y h1 h2 e => by have := HGF.out; omega))
                            have he := h.e
                            have hq := h.q
                            have hp := h.p
                            rw [HU0.out.1, HF01.out.1] at he
                            rw [HU0.out.2.1, HF01.out.1] at hq
                            rw [HU0.out.2.2, HF01.out.1] at hp
                            exact ⟨Ch.refl _ _, he, hq, hp⟩
                          go_wp2_with fail
                          rename_i Kx11 Ax11
                          go_loopw [11] (fun iv wr => ∃ i : Nat, iv = .int .i64 i ∧ i ≤ m.E.length ∧ Wv f0.lo f0.hi wk wr (.slice fa0 m.E.length fc0) (.slice fq0 m.Q.length fd0) (.slice fp0 m.P.length fg0) m.E.length m.Q.length m.P.length) (fun iv _ => m.E.length - (intOf iv).toNat)
                          case atStart => exact ⟨0, rfl, Nat.zero_le _, HW.out⟩
                          case round =>
                            clear HW
                            obtain ⟨i, rfl, hin, hw⟩ := hrel
                            have HW : Hid (Wv f0.lo f0.hi wk wr (.slice fa0 m.E.length fc0) (.slice fq0 m.Q.length fd0) (.slice fp0 m.P.length fg0) m.E.length m.Q.length m.P.length) := hw
                            clear hw
                            have xf := HW.out.ch.cell HCc.out.1 (fun e => by have := HGF.out; simp only at e; omega)
                            by_cases hlt : i < m.E.length
                            · have hlti : (i : Int) < (m.E.length : Int) := by omega
                              obtain ⟨gz, capz, e1, hnc, hcm, hg1, hg2, hrc⟩ : ∃ g cap, Value.slice fa0 m.E.length fc0 = .slice (some ⟨g, 0, none⟩) m.E.length cap ∧ m.E.length ≤ cap ∧ cap ≤ maxLen ∧ f0.lo ≤ g ∧ g < f0.hi ∧ Rcl wr g (m.E.length * 1) := by rcases HW.out.e with h | h; (exfalso; omega); exact h
                              simp only [Value.slice.injEq] at e1
                              obtain ⟨rfl, _, rfl⟩ := e1
                              have HG : Hid (f0.lo ≤ gz ∧ gz < f0.hi) := ⟨hg1, hg2⟩
                              obtain ⟨⟨x0, hx0⟩, hz0⟩ := hrc i (by omega)
                              clear hnc hcm hg1 hg2 hrc
                              have HW2 : Hid _ := HW.out.put HG.out i (.int .i64 210)
                              go_wp2_with fail
                              go_roundw
                              case rel => exact ⟨i + 1, by go_num, by omega, HW2.out⟩
                              case measure => simp [intOf]; omega
                            · have hlti : ¬ (i : Int) < (m.E.length : Int) := by omega
                              clear hlt hin
                              go_wp2_with fail
                              clear hlti xf
                              rename_i Kx12 Ax12
                              go_loopw [12] (fun iv wr => ∃ i : Nat, iv = .int .i64 i ∧ i ≤ m.P.length ∧ Wv f0.lo f0.hi wk wr (.slice fa0 m.E.length fc0) (.slice fq0 m.Q.length fd0) (.slice fp0 m.P.length fg0) m.E.length m.Q.length m.P.length) (fun iv _ => m.P.length - (intOf iv).toNat)
                              case atStart => exact ⟨0, rfl, Nat.zero_le _, HW.out⟩
                              case round =>
                                clear HW
                                obtain ⟨i, rfl, hin, hw⟩ := hrel
                                have HW : Hid (Wv f0.lo f0.hi wk wr (.slice fa0 m.E.length fc0) (.slice fq0 m.Q.length fd0) (.slice fp0 m.P.length fg0) m.E.length m.Q.length m.P.length) := hw
                                clear hw
                                have xf := HW.out.ch.cell HCc.out.2.2 (fun e => by have := HGF.out; simp only at e; omega)
                                by_cases hlt : i < m.P.length
                                · have hlti : (i : Int) < (m.P.length : Int) := by omega
                                  obtain ⟨gz, capz, e1, hnc, hcm, hg1, hg2, hrc⟩ : ∃ g cap, Value.slice fp0 m.P.length fg0 = .slice (some ⟨g, 0, none⟩) m.P.length cap ∧ m.P.length ≤ cap ∧ cap ≤ maxLen ∧ f0.lo ≤ g ∧ g < f0.hi ∧ Rcl wr g (m.P.length * 3) := by rcases HW.out.p with h | h; (exfalso; omega); exact h
                                  simp only [Value.slice.injEq] at e1
                                  obtain ⟨rfl, _, rfl⟩ := e1
                                  have HG : Hid (f0.lo ≤ gz ∧ gz < f0.hi) := ⟨hg1, hg2⟩
                                  obtain ⟨⟨x0, hx0⟩, hz0⟩ := hrc (i * 3) (by omega)
                                  obtain ⟨⟨x1, hx1⟩, hz1⟩ := hrc (i * 3 + 1) (by omega)
                                  obtain ⟨⟨x2, hx2⟩, hz2⟩ := hrc (i * 3 + 2) (by omega)
                                  clear hnc hcm hg1 hg2 hrc
                                  have HW2 : Hid _ := HW.out.put3 HG.out (i * 3) (i * 3 + 1) (i * 3 + 2) (.int .u64 0) (.bool false) (.int .u64 0)
                                  go_wp2_with fail
                                  go_roundw
                                  case rel => exact ⟨i + 1, by go_num, by omega, HW2.out⟩
                                  case measure => simp [intOf]; omega
                                · have hlti : ¬ (i : Int) < (m.P.length : Int) := by omega
                                  clear hlt hin
                                  go_wp2_with fail
                                  clear hlti xf
                                  rename_i Kx13 Ax13
                                  go_loopw [13] (fun iv wr => ∃ i : Nat, iv = .int .i64 i ∧ i ≤ m.Q.length ∧ Wv f0.lo f0.hi wk wr (.slice fa0 m.E.length fc0) (.slice fq0 m.Q.length fd0) (.slice fp0 m.P.length fg0) m.E.length m.Q.length m.P.length) (fun iv _ => m.Q.length - (intOf iv).toNat)
                                  case atStart => exact ⟨0, rfl, Nat.zero_le _, HW.out⟩
                                  case round =>
                                    clear HW
                                    obtain ⟨i, rfl, hin, hw⟩ := hrel
                                    have HW : Hid (Wv f0.lo f0.hi wk wr (.slice fa0 m.E.length fc0) (.slice fq0 m.Q.length fd0) (.slice fp0 m.P.length fg0) m.E.length m.Q.length m.P.length) := hw
                                    clear hw
                                    have xf := HW.out.ch.cell HCc.out.2.1 (fun e => by have := HGF.out; simp only at e; omega)
                                    by_cases hlt : i < m.Q.length
                                    · have hlti : (i : Int) < (m.Q.length : Int) := by omega
                                      obtain ⟨gz, capz, e1, hnc, hcm, hg1, hg2, hrc⟩ : ∃ g cap, Value.slice fq0 m.Q.length fd0 = .slice (some ⟨g, 0, none⟩) m.Q.length cap ∧ m.Q.length ≤ cap ∧ cap ≤ maxLen ∧ f0.lo ≤ g ∧ g < f0.hi ∧ Rcl wr g (m.Q.length * 1) := by rcases HW.out.q with h | h; (exfalso; omega); exact h
                                      simp only [Value.slice.injEq] at e1
                                      obtain ⟨rfl, _, rfl⟩ := e1
                                      have HG : Hid (f0.lo ≤ gz ∧ gz < f0.hi) := ⟨hg1, hg2⟩
                                      obtain ⟨⟨x0, hx0⟩, hz0⟩ := hrc i (by omega)
                                      clear hnc hcm hg1 hg2 hrc
                                      have HW2 : Hid _ := HW.out.put HG.out i (.int .u64 211)
                                      go_wp2_with fail
                                      go_roundw
                                      case rel => exact ⟨i + 1, by go_num, by omega, HW2.out⟩
                                      case measure => simp [intOf]; omega
                                    · have hlti : ¬ (i : Int) < (m.Q.length : Int) := by omega
                                      clear hlt hin
                                      obtain ⟨wz, hwz⟩ : ∃ x, x = wr := ⟨_, rfl⟩
                                      rw [← hwz] at HW xf ⊢
                                      have HCz : Hid (Ch (fun y => (1 ≤ 1 ∧ f0.lo ≤ y ∧ y < f0.hi) ∨ (2 ≤ 1 ∧ f1.lo ≤ y ∧ y < f1.hi)) w12 wz) := (HCk.out.mono (fun y hy => by omega)).trans HW.out.ch (fun y hy => by left; omega)
                                      rw [hwz]
                                      rw [hwz] at xf HCz
                                      clear hwz
                                      go_wp2_with fail
                                      go_roundw
                                      case rel => exact ⟨1, by go_num, by omega, HCz.out⟩
                                      case measure => simp [intOf]
                      · clear AT
                        as_aux_lemma =>
                          obtain ⟨wk, hwk⟩ : ∃ x, x = wr := ⟨_, rfl⟩
                          rw [← hwk] at HCk ⊢
                          clear hwk
                          have HCc : Hid (wk.cell? ⟨gl, 17, none⟩ = some (.slice fa1 m.E.length fc1) ∧ wk.cell? ⟨gl, 18, none⟩ = some (.slice fq1 m.Q.length fd1) ∧ wk.cell? ⟨gl, 19, none⟩ = some (.slice fp1 m.P.length fg1)) := by
                            have hb : ∀ j u, w11.cell? ⟨gl, j, none⟩ = some u → wk.cell? ⟨gl, j, none⟩ = some u := fun j u hu => HCk.out.cell (by rw [HBq.out.cell (p := ⟨gl, j, none⟩) (cell_lt hu)]; exact hu) (fun e => by have := HGF.out; simp only at e; omega)
                            exact ⟨hb _ _ HRC.out.2.2.2.1, hb _ _ HRC.out.2.2.2.2.1, hb _ _ HRC.out.2.2.2.2.2⟩
                          have HW : Hid (Wv f1.lo f1.hi wk wk (.slice fa1 m.E.length fc1) (.slice fq1 m.Q.length fd1) (.slice fp1 m.P.length fg1) m.E.length m.Q.length m.P.length) := by
                            have h := ((HE1.out.below HBq.out).mo.ch HCk.out (fun y h1 h2 e => by have := HGF.out; omega))
                            have he := h.e
                            have hq := h.q
                            have hp := h.p
                            rw [HU1.out.1, HF01.out.2] at he
                            rw [HU1.out.2.1, HF01.out.2] at hq
                            rw [HU1.out.2.2, HF01.out.2] at hp
                            exact ⟨Ch.refl _ _, he, hq, hp⟩
                          go_wp2_with fail
                          rename_i Kx11 Ax11
                          go_loopw [11] (fun iv wr => ∃ i : Nat, iv = .int .i64 i ∧ i ≤ m.E.length ∧ Wv f1.lo f1.hi wk wr (.slice fa1 m.E.length fc1) (.slice fq1 m.Q.length fd1) (.slice fp1 m.P.length fg1) m.E.length m.Q.length m.P.length) (fun iv _ => m.E.length - (intOf iv).toNat)
                          case atStart => exact ⟨0, rfl, Nat.zero_le _, HW.out⟩
                          case round =>
                            clear HW
                            obtain ⟨i, rfl, hin, hw⟩ := hrel
                            have HW : Hid (Wv f1.lo f1.hi wk wr (.slice fa1 m.E.length fc1) (.slice fq1 m.Q.length fd1) (.slice fp1 m.P.length fg1) m.E.length m.Q.length m.P.length) := hw
                            clear hw
                            have xf := HW.out.ch.cell HCc.out.1 (fun e => by have := HGF.out; simp only at e; omega)
                            by_cases hlt : i < m.E.length
                            · have hlti : (i : Int) < (m.E.length : Int) := by omega
                              obtain ⟨gz, capz, e1, hnc, hcm, hg1, hg2, hrc⟩ : ∃ g cap, Value.slice fa1 m.E.length fc1 = .slice (some ⟨g, 0, none⟩) m.E.length cap ∧ m.E.length ≤ cap ∧ cap ≤ maxLen ∧ f1.lo ≤ g ∧ g < f1.hi ∧ Rcl wr g (m.E.length * 1) := by rcases HW.out.e with h | h; (exfalso; omega); exact h
                              simp only [Value.slice.injEq] at e1
                              obtain ⟨rfl, _, rfl⟩ := e1
                              have HG : Hid (f1.lo ≤ gz ∧ gz < f1.hi) := ⟨hg1, hg2⟩
                              obtain ⟨⟨x0, hx0⟩, hz0⟩ := hrc i (by omega)
                              clear hnc hcm hg1 hg2 hrc
                              have HW2 : Hid _ := HW.out.put HG.out i (.int .i64 210)
                              go_wp2_with fail
                              go_roundw
                              case rel => exact ⟨i + 1, by go_num, by omega, HW2.out⟩
                              case measure => simp [intOf]; omega
                            · have hlti : ¬ (i : Int) < (m.E.length : Int) := by omega
                              clear hlt hin
                              go_wp2_with fail
                              clear hlti xf
                              rename_i Kx12 Ax12
                              go_loopw [12] (fun iv wr => ∃ i : Nat, iv = .int .i64 i ∧ i ≤ m.P.length ∧ Wv f1.lo f1.hi wk wr (.slice fa1 m.E.length fc1) (.slice fq1 m.Q.length fd1) (.slice fp1 m.P.length fg1) m.E.length m.Q.length m.P.length) (fun iv _ => m.P.length - (intOf iv).toNat)
                              case atStart => exact ⟨0, rfl, Nat.zero_le _, HW.out⟩
                              case round =>
                                clear HW
                                obtain ⟨i, rfl, hin, hw⟩ := hrel
                                have HW : Hid (Wv f1.lo f1.hi wk wr (.slice fa1 m.E.length fc1) (.slice fq1 m.Q.length fd1) (.slice fp1 m.P.length fg1) m.E.length m.Q.length m.P.length) := hw
                                clear hw
                                have xf := HW.out.ch.cell HCc.out.2.2 (fun e => by have := HGF.out; simp only at e; omega)
                                by_cases hlt : i < m.P.length
                                · have hlti : (i : Int) < (m.P.length : Int) := by omega
                                  obtain ⟨gz, capz, e1, hnc, hcm, hg1, hg2, hrc⟩ : ∃ g cap, Value.slice fp1 m.P.length fg1 = .slice (some ⟨g, 0, none⟩) m.P.length cap ∧ m.P.length ≤ cap ∧ cap ≤ maxLen ∧ f1.lo ≤ g ∧ g < f1.hi ∧ Rcl wr g (m.P.length * 3) := by rcases HW.out.p with h | h; (exfalso; omega); exact h
                                  simp only [Value.slice.injEq] at e1
                                  obtain ⟨rfl, _, rfl⟩ := e1
                                  have HG : Hid (f1.lo ≤ gz ∧ gz < f1.hi) := ⟨hg1, hg2⟩
                                  obtain ⟨⟨x0, hx0⟩, hz0⟩ := hrc (i * 3) (by omega)
                                  obtain ⟨⟨x1, hx1⟩, hz1⟩ := hrc (i * 3 + 1) (by omega)
                                  obtain ⟨⟨x2, hx2⟩, hz2⟩ := hrc (i * 3 + 2) (by omega)
                                  clear hnc hcm hg1 hg2 hrc
                                  have HW2 : Hid _ := HW.out.put3 HG.out (i * 3) (i * 3 + 1) (i * 3 + 2) (.int .u64 0) (.bool false) (.int .u64 0)
                                  go_wp2_with fail
                                  go_roundw
                                  case rel => exact ⟨i + 1, by go_num, by omega, HW2.out⟩
                                  case measure => simp [intOf]; omega
                                · have hlti : ¬ (i : Int) < (m.P.length : Int) := by omega
                                  clear hlt hin
                                  go_wp2_with fail
                                  clear hlti xf
                                  rename_i Kx13 Ax13
                                  go_loopw [13] (fun iv wr => ∃ i : Nat, iv = .int .i64 i ∧ i ≤ m.Q.length ∧ Wv f1.lo f1.hi wk wr (.slice fa1 m.E.length fc1) (.slice fq1 m.Q.length fd1) (.slice fp1 m.P.length fg1) m.E.length m.Q.length m.P.length) (fun iv _ => m.Q.length - (intOf iv).toNat)
                                  case atStart => exact ⟨0, rfl, Nat.zero_le _, HW.out⟩
                                  case round =>
                                    clear HW
                                    obtain ⟨i, rfl, hin, hw⟩ := hrel
                                    have HW : Hid (Wv f1.lo f1.hi wk wr (.slice fa1 m.E.length fc1) (.slice fq1 m.Q.length fd1) (.slice fp1 m.P.length fg1) m.E.length m.Q.length m.P.length) := hw
                                    clear hw
                                    have xf := HW.out.ch.cell HCc.out.2.1 (fun e => by have := HGF.out; simp only at e; omega)
                                    by_cases hlt : i < m.Q.length
                                    · have hlti : (i : Int) < (m.Q.length : Int) := by omega
                                      obtain ⟨gz, capz, e1, hnc, hcm, hg1, hg2, hrc⟩ : ∃ g cap, Value.slice fq1 m.Q.length fd1 = .slice (some ⟨g, 0, none⟩) m.Q.length cap ∧ m.Q.length ≤ cap ∧ cap ≤ maxLen ∧ f1.lo ≤ g ∧ g < f1.hi ∧ Rcl wr g (m.Q.length * 1) := by rcases HW.out.q with h | h; (exfalso; omega); exact h
                                      simp only [Value.slice.injEq] at e1
                                      obtain ⟨rfl, _, rfl⟩ := e1
                                      have HG : Hid (f1.lo ≤ gz ∧ gz < f1.hi) := ⟨hg1, hg2⟩
                                      obtain ⟨⟨x0, hx0⟩, hz0⟩ := hrc i (by omega)
                                      clear hnc hcm hg1 hg2 hrc
                                      have HW2 : Hid _ := HW.out.put HG.out i (.int .u64 211)
                                      go_wp2_with fail
                                      go_roundw
                                      case rel => exact ⟨i + 1, by go_num, by omega, HW2.out⟩
                                      case measure => simp [intOf]; omega
                                    · have hlti : ¬ (i : Int) < (m.Q.length : Int) := by omega
                                      clear hlt hin
                                      obtain ⟨wz, hwz⟩ : ∃ x, x = wr := ⟨_, rfl⟩
                                      rw [← hwz] at HW xf ⊢
                                      have HCz : Hid (Ch (fun y => (1 ≤ 2 ∧ f0.lo ≤ y ∧ y < f0.hi) ∨ (2 ≤ 2 ∧ f1.lo ≤ y ∧ y < f1.hi)) w12 wz) := (HCk.out.mono (fun y hy => by omega)).trans HW.out.ch (fun y hy => by left; omega)
                                      rw [hwz]
                                      rw [hwz] at xf HCz
                                      clear hwz
                                      go_wp2_with fail
                                      go_roundw
                                      case rel => exact ⟨2, by go_num, by omega, HCz.out⟩
                                      case measure => simp [intOf]
                      · obtain ⟨w13, hw13⟩ : ∃ x, x = wr := ⟨_, rfl⟩
                        rw [← hw13] at HCk ⊢
                        clear hw13
                        have HD2 : Hid (∀ y, ((1 ≤ 2 ∧ f0.lo ≤ y ∧ y < f0.hi) ∨ (2 ≤ 2 ∧ f1.lo ≤ y ∧ y < f1.hi)) → w10.heap.size ≤ y) := fun y hy => by have := HGF.out; omega
                        have HN13 : Hid _ := (HN11.out.below HBq.out).ch HCk.out (fun y hy hk => by have h1 := HD2.out y hy; have h2 := HS10.out.2 y hk; omega)
                        have HM13 : Hid _ := (HM11.out.keep HBq.out).ch HCk.out (fun e => by have h1 := HD2.out M0 e; have h2 := HGF.out; omega)
                        have HB13 : Hid (Below w.heap.size w w13) := (below_trans HB11.out HBq.out).trans (HCk.out.to_below (below_trans HB11.out HBq.out).size (fun y hy => by have h1 := HD2.out y hy; have h2 := HW10.out; omega))
                        clear HCk HN11 HM11 HB11 HBq HD2
                        go_upto_region 46 with fail
                        as_aux_lemma =>
                          have hE1 := HN13.out.ent x1 (by simp)
                          have hO1 := HN13.out.off x1 (by simp)
                          have hR1 := (List.pairwise_cons.1 HN13.out.rise).1 x2 (by simp)
                          obtain ⟨ra, rc, sa, sc, ta, tc, u1, u2, u3⟩ := ml_form2 hE1.mo.l
                          rw [HX1.out.2.1] at u1 u2 u3
                          have hv : mvE x1 = .agg #[.int .i64 m.K, .int .i64 m.F, .int .i64 m.T, .int .i64 m.B, .int .i64 m.A, .int .i64 m.C, .slice ra m.E.length rc, .slice sa m.Q.length sc, .slice ta m.P.length tc] := by unfold mvE; rw [u1, u2, u3, HX1.out.2.1]
                          have HU : Hid (x1.e = .slice ra m.E.length rc ∧ x1.q = .slice sa m.Q.length sc ∧ x1.p = .slice ta m.P.length tc) := ⟨u1, u2, u3⟩
                          clear u1 u2 u3
                          go_wp2_with fail
                          refine (deliver_in HN13.out (in64_s (by decide) (by decide)) (at_first (by rw [HX1.out.1]; rfl))).mono ?_
                          rintro e w14 ⟨he, hn, hc⟩
                          rw [hv] at he
                          subst he
                          have HE14 : Hid (Eo w14 x1) := hE1.ch hc (fun y h1 _ e => by omega)
                          have HN14 : Hid (Nt w14 P b 9 2 [x2]) := by
                            have h : outN [x1, x2] 0 = [x2] := by rw [out_first (by rw [HX1.out.1]; rfl), out_skip (by rw [HX2.out.1]; decide), out_nil]
                            rw [h] at hn
                            exact hn
                          have HM14 : Hid _ := HM13.out.ch hc (fun e => by have := HPB.out; omega)
                          have HB14 : Hid (Below w.heap.size w w14) := HB13.out.trans (hc.to_below HB13.out.size (fun y hy => by have := HPB.out; omega))
                          have HRR : Hid (P < x1.lo ∧ b < x1.lo ∧ x1.hi ≤ x2.lo) := ⟨hO1.1, hO1.2, hR1.2⟩
                          clear hn hc hE1 hO1 hR1 hv HN13 HM13 HB13
                          go_upto_region 47 with fail
                          have HY : Hid _ := mx_new w14 m (.slice ra m.E.length rc) (.slice sa m.Q.length sc) (.slice ta m.P.length tc)
                          have HB14a : Hid _ := below_alloc w14 (Obj.cells #[.int .i64 m.K, .int .i64 m.F, .int .i64 m.T, .int .i64 m.B, .int .i64 m.A, .int .i64 m.C, .slice ra m.E.length rc, .slice sa m.Q.length sc, .slice ta m.P.length tc] 35)
                          obtain ⟨Y, hY⟩ : ∃ Y, Y = w14.heap.size := ⟨_, rfl⟩
                          have HYO : Hid (x1.hi ≤ Y) := by have := HE14.out.hi; show _ ≤ _; omega
                          rw [← hY] at HY ⊢
                          clear hY
                          generalize w14.alloc (Obj.cells #[.int .i64 m.K, .int .i64 m.F, .int .i64 m.T, .int .i64 m.B, .int .i64 m.A, .int .i64 m.C, .slice ra m.E.length rc, .slice sa m.Q.length sc, .slice ta m.P.length tc] 35) = w15 at HY HB14a ⊢
                          have HE15 : Hid _ := HE14.out.below HB14a.out
                          have HN15 : Hid _ := HN14.out.below HB14a.out
                          have HM15 : Hid _ := HM14.out.keep HB14a.out
                          have HB15 : Hid (Below w.heap.size w w15) := below_trans HB14.out HB14a.out
                          have HL15 : Hid (ML w15 m (.slice ra m.E.length rc) (.slice sa m.Q.length sc) (.slice ta m.P.length tc)) := by have h := HE15.out.mo.l; rw [HX1.out.2.1, HU.out.1, HU.out.2.1, HU.out.2.2] at h; exact h
                          clear HE14 HN14 HM14 HB14 HB14a
                          have x0c := HY.out.c0
                          have x1c := HY.out.c1
                          have x2c := HY.out.c2
                          have x3c := HY.out.c3
                          have x4c := HY.out.c4
                          have x5c := HY.out.c5
                          have x6c := HY.out.c6
                          have x7c := HY.out.c7
                          have x8c := HY.out.c8
                          have y0 := HM15.out.c0
                          have y1 := HM15.out.c1
                          have y2 := HM15.out.c2
                          have y3 := HM15.out.c3
                          have y4 := HM15.out.c4
                          have y5 := HM15.out.c5
                          have y6 := HM15.out.c6
                          have y7 := HM15.out.c7
                          have y8 := HM15.out.c8
                          go_wp2_with fail
                          refine (same_walk HL15.out (HL.out.below HB15.out) HK.out).mono ?_
                          rintro e wy ⟨rfl, hB⟩
                          have HYb : Hid _ := HY.out.keep hB
                          have HN16 : Hid _ := HN15.out.below hB
                          have HM16 : Hid _ := HM15.out.keep hB
                          have HB16 : Hid (Below w.heap.size w wy) := below_trans HB15.out hB
                          have HW : Hid (Wv x1.lo x1.hi wy wy (.slice ra m.E.length rc) (.slice sa m.Q.length sc) (.slice ta m.P.length tc) m.E.length m.Q.length m.P.length) := by
                            have h := (HE15.out.below hB).mo
                            have he := h.e
                            have hq := h.q
                            have hp := h.p
                            rw [HU.out.1, HX1.out.2.1] at he
                            rw [HU.out.2.1, HX1.out.2.1] at hq
                            rw [HU.out.2.2, HX1.out.2.1] at hp
                            exact ⟨Ch.refl _ _, he, hq, hp⟩
                          clear hB HY HN15 HM15 HB15 HE15 HL15 x0c y0 x1c y1 x2c y2 x3c y3 x4c y4 x5c y5 x6c y6 x7c y7 x8c y8
                          go_wp2_with fail
                          rename_i Kx15 Ax15
                          go_loopw [15] (fun iv wr => ∃ i : Nat, iv = .int .i64 i ∧ i ≤ m.E.length ∧ Wv x1.lo x1.hi wy wr (.slice ra m.E.length rc) (.slice sa m.Q.length sc) (.slice ta m.P.length tc) m.E.length m.Q.length m.P.length) (fun iv _ => m.E.length - (intOf iv).toNat)
                          case atStart => exact ⟨0, rfl, Nat.zero_le _, HW.out⟩
                          case round =>
                            clear HW
                            obtain ⟨i, rfl, hin, hw⟩ := hrel
                            have HW : Hid (Wv x1.lo x1.hi wy wr (.slice ra m.E.length rc) (.slice sa m.Q.length sc) (.slice ta m.P.length tc) m.E.length m.Q.length m.P.length) := hw
                            clear hw
                            have xf := (HYb.out.ch HW.out.ch (fun e => by have := HYO.out; omega)).c6
                            by_cases hlt : i < m.E.length
                            · have hlti : (i : Int) < (m.E.length : Int) := by omega
                              obtain ⟨gz, capz, e1, hnc, hcm, hg1, hg2, hrc⟩ : ∃ g cap, Value.slice ra m.E.length rc = .slice (some ⟨g, 0, none⟩) m.E.length cap ∧ m.E.length ≤ cap ∧ cap ≤ maxLen ∧ x1.lo ≤ g ∧ g < x1.hi ∧ Rcl wr g (m.E.length * 1) := by rcases HW.out.e with h | h; (exfalso; omega); exact h
                              simp only [Value.slice.injEq] at e1
                              obtain ⟨rfl, _, rfl⟩ := e1
                              have HG : Hid (x1.lo ≤ gz ∧ gz < x1.hi) := ⟨hg1, hg2⟩
                              obtain ⟨⟨x0, hx0⟩, hz0⟩ := hrc i (by omega)
                              clear hnc hcm hg1 hg2 hrc
                              have HW2 : Hid _ := HW.out.put HG.out i (.int .i64 220)
                              go_wp2_with fail
                              go_roundw
                              case rel => exact ⟨i + 1, by go_num, by omega, HW2.out⟩
                              case measure => simp [intOf]; omega
                            · have hlti : ¬ (i : Int) < (m.E.length : Int) := by omega
                              clear hlt hin
                              go_wp2_with fail
                              clear hlti xf
                              rename_i Kx16 Ax16
                              go_loopw [16] (fun iv wr => ∃ i : Nat, iv = .int .i64 i ∧ i ≤ m.P.length ∧ Wv x1.lo x1.hi wy wr (.slice ra m.E.length rc) (.slice sa m.Q.length sc) (.slice ta m.P.length tc) m.E.length m.Q.length m.P.length) (fun iv _ => m.P.length - (intOf iv).toNat)
                              case atStart => exact ⟨0, rfl, Nat.zero_le _, HW.out⟩
                              case round =>
                                clear HW
                                obtain ⟨i, rfl, hin, hw⟩ := hrel
                                have HW : Hid (Wv x1.lo x1.hi wy wr (.slice ra m.E.length rc) (.slice sa m.Q.length sc) (.slice ta m.P.length tc) m.E.length m.Q.length m.P.length) := hw
                                clear hw
                                have xf := (HYb.out.ch HW.out.ch (fun e => by have := HYO.out; omega)).c8
                                by_cases hlt : i < m.P.length
                                · have hlti : (i : Int) < (m.P.length : Int) := by omega
                                  obtain ⟨gz, capz, e1, hnc, hcm, hg1, hg2, hrc⟩ : ∃ g cap, Value.slice ta m.P.length tc = .slice (some ⟨g, 0, none⟩) m.P.length cap ∧ m.P.length ≤ cap ∧ cap ≤ maxLen ∧ x1.lo ≤ g ∧ g < x1.hi ∧ Rcl wr g (m.P.length * 3) := by rcases HW.out.p with h | h; (exfalso; omega); exact h
                                  simp only [Value.slice.injEq] at e1
                                  obtain ⟨rfl, _, rfl⟩ := e1
                                  have HG : Hid (x1.lo ≤ gz ∧ gz < x1.hi) := ⟨hg1, hg2⟩
                                  obtain ⟨⟨x0, hx0⟩, hz0⟩ := hrc (i * 3) (by omega)
                                  obtain ⟨⟨x1, hx1⟩, hz1⟩ := hrc (i * 3 + 1) (by omega)
                                  obtain ⟨⟨x2, hx2⟩, hz2⟩ := hrc (i * 3 + 2) (by omega)
                                  clear hnc hcm hg1 hg2 hrc
                                  have HW2 : Hid _ := HW.out.put3 HG.out (i * 3) (i * 3 + 1) (i * 3 + 2) (.int .u64 0) (.bool false) (.int .u64 0)
                                  go_wp2_with fail
                                  go_roundw
                                  case rel => exact ⟨i + 1, by go_num, by omega, HW2.out⟩
                                  case measure => simp [intOf]; omega
                                · have hlti : ¬ (i : Int) < (m.P.length : Int) := by omega
                                  clear hlt hin
                                  go_wp2_with fail
                                  clear hlti xf
                                  rename_i Kx17 Ax17
                                  go_loopw [17] (fun iv wr => ∃ i : Nat, iv = .int .i64 i ∧ i ≤ m.Q.length ∧ Wv x1.lo x1.hi wy wr (.slice ra m.E.length rc) (.slice sa m.Q.length sc) (.slice ta m.P.length tc) m.E.length m.Q.length m.P.length) (fun iv _ => m.Q.length - (intOf iv).toNat)
                                  case atStart => exact ⟨0, rfl, Nat.zero_le _, HW.out⟩
                                  case round =>
                                    clear HW
                                    obtain ⟨i, rfl, hin, hw⟩ := hrel
                                    have HW : Hid (Wv x1.lo x1.hi wy wr (.slice ra m.E.length rc) (.slice sa m.Q.length sc) (.slice ta m.P.length tc) m.E.length m.Q.length m.P.length) := hw
                                    clear hw
                                    have xf := (HYb.out.ch HW.out.ch (fun e => by have := HYO.out; omega)).c7
                                    by_cases hlt : i < m.Q.length
                                    · have hlti : (i : Int) < (m.Q.length : Int) := by omega
                                      obtain ⟨gz, capz, e1, hnc, hcm, hg1, hg2, hrc⟩ : ∃ g cap, Value.slice sa m.Q.length sc = .slice (some ⟨g, 0, none⟩) m.Q.length cap ∧ m.Q.length ≤ cap ∧ cap ≤ maxLen ∧ x1.lo ≤ g ∧ g < x1.hi ∧ Rcl wr g (m.Q.length * 1) := by rcases HW.out.q with h | h; (exfalso; omega); exact h
                                      simp only [Value.slice.injEq] at e1
                                      obtain ⟨rfl, _, rfl⟩ := e1
                                      have HG : Hid (x1.lo ≤ gz ∧ gz < x1.hi) := ⟨hg1, hg2⟩
                                      obtain ⟨⟨x0, hx0⟩, hz0⟩ := hrc i (by omega)
                                      clear hnc hcm hg1 hg2 hrc
                                      have HW2 : Hid _ := HW.out.put HG.out i (.int .u64 221)
                                      go_wp2_with fail
                                      go_roundw
                                      case rel => exact ⟨i + 1, by go_num, by omega, HW2.out⟩
                                      case measure => simp [intOf]; omega
                                    · have hlti : ¬ (i : Int) < (m.Q.length : Int) := by omega
                                      clear hlt hin
                                      obtain ⟨w17, hw17⟩ : ∃ x, x = wr := ⟨_, rfl⟩
                                      rw [← hw17] at HW xf ⊢
                                      clear hw17
                                      go_upto_region 61 with fail
                                      have HN17 : Hid _ := HN16.out.ch HW.out.ch (fun y hy hk => by have h1 := HRR.out; rcases hk with e | e | ⟨z, hz, h3, _⟩; omega; omega; rw [List.mem_singleton] at hz; subst hz; omega)
                                      have HM17 : Hid _ := HM16.out.ch HW.out.ch (fun e => by have h1 := HRR.out; have h2 := HPB.out; omega)
                                      have HB17 : Hid (Below w.heap.size w w17) := HB16.out.trans (HW.out.ch.to_below HB16.out.size (fun y hy => by have h1 := HRR.out; have h2 := HPB.out; omega))
                                      clear HW xf hlti HN16 HM16 HB16 HYb
                                      have hE2 := HN17.out.ent x2 (by simp)
                                      have hO2 := HN17.out.off x2 (by simp)
                                      obtain ⟨ja, jc, ka, kc, la, lc, u1, u2, u3⟩ := ml_form2 hE2.mo.l
                                      rw [HX2.out.2] at u1 u2 u3
                                      have hv : mvE x2 = .agg #[.int .i64 m.K, .int .i64 m.F, .int .i64 m.T, .int .i64 m.B, .int .i64 m.A, .int .i64 m.C, .slice ja m.E.length jc, .slice ka m.Q.length kc, .slice la m.P.length lc] := by unfold mvE; rw [u1, u2, u3, HX2.out.2]
                                      go_wp2_with fail
                                      refine (deliver_in HN17.out (in64_s (by decide) (by decide)) (at_first (by rw [HX2.out.1]; rfl))).mono ?_
                                      rintro e w18 ⟨he, hn, hc⟩
                                      rw [hv] at he
                                      subst he
                                      have HL18 : Hid (ML w18 m (.slice ja m.E.length jc) (.slice ka m.Q.length kc) (.slice la m.P.length lc)) := by have h := (hE2.ch hc (fun y h1 _ e => by omega)).mo.l; rw [HX2.out.2, u1, u2, u3] at h; exact h
                                      have HM18 : Hid _ := HM17.out.ch hc (fun e => by have := HPB.out; omega)
                                      have HB18 : Hid (Below w.heap.size w w18) := HB17.out.trans (hc.to_below HB17.out.size (fun y hy => by have := HPB.out; omega))
                                      clear hn hc hE2 hO2 hv u1 u2 u3 HN17 HM17 HB17
                                      go_upto_region 62 with fail
                                      have HZ : Hid _ := mx_new w18 m (.slice ja m.E.length jc) (.slice ka m.Q.length kc) (.slice la m.P.length lc)
                                      have HB18a : Hid _ := below_alloc w18 (Obj.cells #[.int .i64 m.K, .int .i64 m.F, .int .i64 m.T, .int .i64 m.B, .int .i64 m.A, .int .i64 m.C, .slice ja m.E.length jc, .slice ka m.Q.length kc, .slice la m.P.length lc] 35)
                                      obtain ⟨Z, hZ⟩ : ∃ Z, Z = w18.heap.size := ⟨_, rfl⟩
                                      rw [← hZ] at HZ ⊢
                                      clear hZ
                                      generalize w18.alloc (Obj.cells #[.int .i64 m.K, .int .i64 m.F, .int .i64 m.T, .int .i64 m.B, .int .i64 m.A, .int .i64 m.C, .slice ja m.E.length jc, .slice ka m.Q.length kc, .slice la m.P.length lc] 35) = w19 at HZ HB18a ⊢
                                      have HL19 : Hid _ := HL18.out.below HB18a.out
                                      have HM19 : Hid _ := HM18.out.keep HB18a.out
                                      have HB19 : Hid (Below w.heap.size w w19) := below_trans HB18.out HB18a.out
                                      have x0c := HZ.out.c0
                                      have x1c := HZ.out.c1
                                      have x2c := HZ.out.c2
                                      have x3c := HZ.out.c3
                                      have x4c := HZ.out.c4
                                      have x5c := HZ.out.c5
                                      have x6c := HZ.out.c6
                                      have x7c := HZ.out.c7
                                      have x8c := HZ.out.c8
                                      have y0 := HM19.out.c0
                                      have y1 := HM19.out.c1
                                      have y2 := HM19.out.c2
                                      have y3 := HM19.out.c3
                                      have y4 := HM19.out.c4
                                      have y5 := HM19.out.c5
                                      have y6 := HM19.out.c6
                                      have y7 := HM19.out.c7
                                      have y8 := HM19.out.c8
                                      go_wp2_with fail
                                      refine (same_walk HL19.out (HL.out.below HB19.out) HK.out).mono ?_
                                      rintro e w20 ⟨rfl, hB⟩
                                      have HB20 : Hid (Below w.heap.size w w20) := below_trans HB19.out hB
                                      clear hB x0c y0 x1c y1 x2c y2 x3c y3 x4c y4 x5c y5 x6c y6 x7c y7 x8c y8
                                      go_wp2_with fail
                                      go_ret
                                      exact ⟨rfl, HB20.out⟩
end Go.Proofs.Ytonnlhehbhiiiaa


