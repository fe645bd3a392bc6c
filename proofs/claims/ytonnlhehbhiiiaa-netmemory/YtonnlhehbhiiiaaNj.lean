/- Flights as they are read; contract of repriselaw16's flights, of equal lists. -/
import Derived.Test.YtonnlhehbhiiiaaNi

namespace Go.Proofs.Ytonnlhehbhiiiaa

open Go.RowKit



/-- A slice that holds flights. -/
structure Fv (w : World) (v : Value) (F : List En) : Prop where
  form : ∃ ao cap, v = .slice ao F.length cap ∧ F.length ≤ maxLen ∧ ∀ i, (h : i < F.length) → ∃ b off, ao = some ⟨b, off, none⟩ ∧ ∀ j u, (cellsE F[i])[j]? = some u → w.cell? ⟨b, off + i * 10 + j, none⟩ = some u
  ml : ∀ x ∈ F, ML w x.m x.e x.q x.p
  ok : ∀ x ∈ F, x.m.ok
theorem Fv.below {w w' : World} {v : Value} {F : List En} (h : Fv w v F) (hb : Below w.heap.size w w') : Fv w' v F := by
  refine ⟨?_, fun x hx => (h.ml x hx).below hb, h.ok⟩
  obtain ⟨ao, cap, e, hl, hc⟩ := h.form
  refine ⟨ao, cap, e, hl, fun i hi => ?_⟩
  obtain ⟨b, off, e1, e2⟩ := hc i hi
  exact ⟨b, off, e1, fun j u hj => by rw [hb.cell (p := ⟨b, off + i * 10 + j, none⟩) (cell_lt (e2 j u hj))]; exact e2 j u hj⟩
theorem fv_nil (w : World) : Fv w (.slice none 0 0) [] := ⟨⟨none, 0, rfl, by simp [maxLen], fun i hi => by simp at hi⟩, by simp, by simp⟩
theorem Fr.fv {w : World} {B : Nat} {v : Value} {F : List En} (h : Fr w B v F) : Fv w v F := by
  refine ⟨?_, fun x hx => (h.ent x hx).mo.l, fun x hx => (h.ent x hx).ok⟩
  rcases h.own.2 with ⟨e1, h0⟩ | ⟨g, cap, cur, rfl, hg, hh, hnc, hcm, hcs, htk⟩
  · exact ⟨none, 0, by rw [e1, h0], by rw [h0]; simp [maxLen], fun i hi => by omega⟩
  · refine ⟨_, cap, rfl, Nat.le_trans hnc hcm, fun i hi => ⟨g, 0, rfl, fun j u hj => ?_⟩⟩
    have hj10 : j < 10 := by
      rcases Nat.lt_or_ge j 10 with q | q
      · exact q
      · rw [List.getElem?_eq_none (by simpa [cellsE] using q)] at hj; cases hj
    rw [← flatF_get F i j hi hj10, ← htk] at hj
    rw [cell_of_row w g _ cur _ (0, 0) hh, Nat.zero_add]
    rw [List.getElem?_take] at hj
    split at hj
    · simpa using hj
    · cases hj
/-- A flight's cells, told. -/
structure Fx (w : World) (b off : Nat) (n : Nat) (m : Ms) (ev qv pv : Value) : Prop where
  c0 : w.cell? ⟨b, off, none⟩ = some (.int .i64 n)
  c1 : w.cell? ⟨b, off + 1, none⟩ = some (.int .i64 m.K)
  c2 : w.cell? ⟨b, off + 1 + 1, none⟩ = some (.int .i64 m.F)
  c3 : w.cell? ⟨b, off + 1 + 2, none⟩ = some (.int .i64 m.T)
  c4 : w.cell? ⟨b, off + 1 + 3, none⟩ = some (.int .i64 m.B)
  c5 : w.cell? ⟨b, off + 1 + 4, none⟩ = some (.int .i64 m.A)
  c6 : w.cell? ⟨b, off + 1 + 5, none⟩ = some (.int .i64 m.C)
  c7 : w.cell? ⟨b, off + 1 + 6, none⟩ = some ev
  c8 : w.cell? ⟨b, off + 1 + 7, none⟩ = some qv
  c9 : w.cell? ⟨b, off + 1 + 8, none⟩ = some pv
theorem Fx.below {w w' : World} {b off n : Nat} {m : Ms} {ev qv pv : Value} (h : Fx w b off n m ev qv pv) (hb : Below w.heap.size w w') : Fx w' b off n m ev qv pv := by
  have hl : b < w.heap.size := cell_lt h.c0
  have k : ∀ j u, w.cell? ⟨b, j, none⟩ = some u → w'.cell? ⟨b, j, none⟩ = some u := fun j u hu => by rw [hb.cell (p := ⟨b, j, none⟩) hl]; exact hu
  exact ⟨k _ _ h.c0, k _ _ h.c1, k _ _ h.c2, k _ _ h.c3, k _ _ h.c4, k _ _ h.c5, k _ _ h.c6, k _ _ h.c7, k _ _ h.c8, k _ _ h.c9⟩
theorem fv_at {w : World} {ao : Option Addr} {n cap : Nat} {F : List En} (h : Fv w (.slice ao n cap) F) {i : Nat} (hi : i < F.length) : ∃ b off, ao = some ⟨b, off, none⟩ ∧ Fx w b (off + i * 10) F[i].n F[i].m F[i].e F[i].q F[i].p := by
  obtain ⟨ao', cap', e, _, h4⟩ := h.form
  simp only [Value.slice.injEq] at e
  obtain ⟨b, off, e1, e2⟩ := h4 i hi
  refine ⟨b, off, by rw [e.1, e1], e2 0 _ rfl, e2 1 _ rfl, e2 2 _ rfl, e2 3 _ rfl, e2 4 _ rfl, e2 5 _ rfl, e2 6 _ rfl, e2 7 _ rfl, e2 8 _ rfl, e2 9 _ rfl⟩
theorem ml_form {w : World} {m : Ms} {e q p : Value} (h : ML w m e q p) : ∃ ea en ec qa qn qc pa pn pc, e = .slice ea en ec ∧ q = .slice qa qn qc ∧ p = .slice pa pn pc := by
  obtain ⟨ea, en, ec, e1, _⟩ := sv_le h.e
  obtain ⟨qa, qn, qc, e2, _⟩ := sv_le h.q
  obtain ⟨pa, pn, pc, e3, _⟩ := qv_le h.p
  exact ⟨_, _, _, _, _, _, _, _, _, e1, e2, e3⟩


set_option maxRecDepth 100000 in
set_option maxHeartbeats 4000000 in
theorem flights_same {w : World} {a b : Value} {F G : List En} (ha : Fv w a F) (hb : Fv w b G) (hnm : F.map nmE = G.map nmE) : Calls Try.prog 11 #[a, b] w fun e w' => e = .returned (.bool true) ∧ Below w.heap.size w w' := by
  have HA : Hid (Fv w a F) := ha
  have HB : Hid (Fv w b G) := hb
  have HM : Hid (F.map nmE = G.map nmE) := hnm
  obtain ⟨ao, ac, rfl, hal, _⟩ := ha.form
  obtain ⟨bo, bc, rfl, hbl, _⟩ := hb.form
  have HLE : Hid (G.length = F.length) := by have h := congrArg List.length hnm; simp only [List.length_map] at h; exact h.symm
  have hle := HLE.out
  rw [hle] at HB ⊢
  have hli : (F.length : Int) ≤ 9223372036854775807 := by unfold maxLen at hal; omega
  have hne : ((F.length : Int) != (F.length : Int)) = false := by simp
  clear ha hb hnm hal hbl hle
  go_enter Try.func11, Try.ntmps11
  go_upto_region 4 with fail
  clear hne
  go_loopw [5] (fun iv wr => ∃ i : Nat, iv = .int .i64 i ∧ i ≤ F.length ∧ Below w.heap.size w wr) (fun iv _ => F.length - (intOf iv).toNat)
  case atStart => exact ⟨0, rfl, Nat.zero_le _, Below.refl _ _⟩
  case round =>
    obtain ⟨i, rfl, hil, hbel⟩ := hrel
    have HR : Hid (Below w.heap.size w wr) := hbel
    clear hbel
    by_cases hlt : i < F.length
    · have hlti : (i : Int) < (F.length : Int) := by omega
      have hlg : i < G.length := by rw [HLE.out]; exact hlt
      obtain ⟨gb, goff, rfl, hfa⟩ := fv_at (HA.out.below HR.out) hlt
      obtain ⟨kb, koff, rfl, hfb⟩ := fv_at (HB.out.below HR.out) hlg
      have hxe : nmE F[i] = nmE G[i] := by
        have h := congrArg (fun l => l[i]?) HM.out
        simp only [List.getElem?_map, List.getElem?_eq_getElem hlt, List.getElem?_eq_getElem hlg, Option.map_some, Option.some.injEq] at h
        exact h
      have hma := (HA.out.below HR.out).ml F[i] (List.getElem_mem _)
      have hmb := (HB.out.below HR.out).ml G[i] (List.getElem_mem _)
      have hok := HA.out.ok F[i] (List.getElem_mem _)
      obtain ⟨x, hx⟩ : ∃ x, x = F[i] := ⟨_, rfl⟩
      obtain ⟨y, hy⟩ : ∃ y, y = G[i] := ⟨_, rfl⟩
      have hxe' : nmE x = nmE y := by rw [hx, hy]; exact hxe
      have hfa' : Fx wr gb (goff + i * 10) x.n x.m x.e x.q x.p := by rw [hx]; exact hfa
      have hfb' : Fx wr kb (koff + i * 10) y.n y.m y.e y.q y.p := by rw [hy]; exact hfb
      have hma' : ML wr x.m x.e x.q x.p := by rw [hx]; exact hma
      have hmb' : ML wr y.m y.e y.q y.p := by rw [hy]; exact hmb
      have hok' : x.m.ok := by rw [hx]; exact hok
      clear hfa hfb hma hmb hok hxe hx hy hlg
      obtain ⟨xn, xm, xe, xq, xp, xl, xh⟩ := x
      obtain ⟨yn, ym, ye, yq, yp, yl, yh⟩ := y
      simp only [nmE, Prod.mk.injEq] at hxe'
      obtain ⟨rfl, rfl⟩ := hxe'
      simp only at hfa' hfb' hma' hmb' hok'
      obtain ⟨ea, en, ec, qa, qn, qc, pa, pn, pc, rfl, rfl, rfl⟩ := ml_form hma'
      obtain ⟨fa, fn, fc, ra, rn, rc, sa, sn, sc, rfl, rfl, rfl⟩ := ml_form hmb'
      have HFA : Hid _ := hfa'
      have HFB : Hid _ := hfb'
      have HMA : Hid _ := hma'
      have HMB : Hid _ := hmb'
      have HOK : Hid _ := hok'
      have HLT : Hid (i < F.length) := hlt
      clear hfa' hfb' hma' hmb' hok' hlt xl xh yl yh
      have k0 : ∀ wx, Below wr.heap.size wr wx → wx.cell? ⟨gb, goff + i * 10, none⟩ = some (.int .i64 xn) := fun wx hx => (HFA.out.below hx).c0
      have k1 : ∀ wx, Below wr.heap.size wr wx → wx.cell? ⟨gb, goff + i * 10 + 1, none⟩ = some (.int .i64 xm.K) := fun wx hx => (HFA.out.below hx).c1
      have k2 : ∀ wx, Below wr.heap.size wr wx → wx.cell? ⟨gb, goff + i * 10 + 1 + 1, none⟩ = some (.int .i64 xm.F) := fun wx hx => (HFA.out.below hx).c2
      have k3 : ∀ wx, Below wr.heap.size wr wx → wx.cell? ⟨gb, goff + i * 10 + 1 + 2, none⟩ = some (.int .i64 xm.T) := fun wx hx => (HFA.out.below hx).c3
      have k4 : ∀ wx, Below wr.heap.size wr wx → wx.cell? ⟨gb, goff + i * 10 + 1 + 3, none⟩ = some (.int .i64 xm.B) := fun wx hx => (HFA.out.below hx).c4
      have k5 : ∀ wx, Below wr.heap.size wr wx → wx.cell? ⟨gb, goff + i * 10 + 1 + 4, none⟩ = some (.int .i64 xm.A) := fun wx hx => (HFA.out.below hx).c5
      have k6 : ∀ wx, Below wr.heap.size wr wx → wx.cell? ⟨gb, goff + i * 10 + 1 + 5, none⟩ = some (.int .i64 xm.C) := fun wx hx => (HFA.out.below hx).c6
      have k7 : ∀ wx, Below wr.heap.size wr wx → wx.cell? ⟨gb, goff + i * 10 + 1 + 6, none⟩ = some (.slice ea en ec) := fun wx hx => (HFA.out.below hx).c7
      have k8 : ∀ wx, Below wr.heap.size wr wx → wx.cell? ⟨gb, goff + i * 10 + 1 + 7, none⟩ = some (.slice qa qn qc) := fun wx hx => (HFA.out.below hx).c8
      have k9 : ∀ wx, Below wr.heap.size wr wx → wx.cell? ⟨gb, goff + i * 10 + 1 + 8, none⟩ = some (.slice pa pn pc) := fun wx hx => (HFA.out.below hx).c9
      have l0 : ∀ wx, Below wr.heap.size wr wx → wx.cell? ⟨kb, koff + i * 10, none⟩ = some (.int .i64 xn) := fun wx hx => (HFB.out.below hx).c0
      have l1 : ∀ wx, Below wr.heap.size wr wx → wx.cell? ⟨kb, koff + i * 10 + 1, none⟩ = some (.int .i64 xm.K) := fun wx hx => (HFB.out.below hx).c1
      have l2 : ∀ wx, Below wr.heap.size wr wx → wx.cell? ⟨kb, koff + i * 10 + 1 + 1, none⟩ = some (.int .i64 xm.F) := fun wx hx => (HFB.out.below hx).c2
      have l3 : ∀ wx, Below wr.heap.size wr wx → wx.cell? ⟨kb, koff + i * 10 + 1 + 2, none⟩ = some (.int .i64 xm.T) := fun wx hx => (HFB.out.below hx).c3
      have l4 : ∀ wx, Below wr.heap.size wr wx → wx.cell? ⟨kb, koff + i * 10 + 1 + 3, none⟩ = some (.int .i64 xm.B) := fun wx hx => (HFB.out.below hx).c4
      have l5 : ∀ wx, Below wr.heap.size wr wx → wx.cell? ⟨kb, koff + i * 10 + 1 + 4, none⟩ = some (.int .i64 xm.A) := fun wx hx => (HFB.out.below hx).c5
      have l6 : ∀ wx, Below wr.heap.size wr wx → wx.cell? ⟨kb, koff + i * 10 + 1 + 5, none⟩ = some (.int .i64 xm.C) := fun wx hx => (HFB.out.below hx).c6
      have l7 : ∀ wx, Below wr.heap.size wr wx → wx.cell? ⟨kb, koff + i * 10 + 1 + 6, none⟩ = some (.slice fa fn fc) := fun wx hx => (HFB.out.below hx).c7
      have l8 : ∀ wx, Below wr.heap.size wr wx → wx.cell? ⟨kb, koff + i * 10 + 1 + 7, none⟩ = some (.slice ra rn rc) := fun wx hx => (HFB.out.below hx).c8
      have l9 : ∀ wx, Below wr.heap.size wr wx → wx.cell? ⟨kb, koff + i * 10 + 1 + 8, none⟩ = some (.slice sa sn sc) := fun wx hx => (HFB.out.below hx).c9
      have hnn : ((xn : Int) != (xn : Int)) = false := by simp
      go_upto_region 6 with fail
      refine wp_region_noPanic ?_
      refine wp_region_held_drew (S := fun wx => Below wr.heap.size wr wx) (by kernel_rfl) ?_ (fun hHeld => ?_)
      · exact below_drewN wr 1
      refine wpAnyH_take (i := 0) (oi := ⟨some 17, _, _, _, _, _⟩) (v := ?_) rfl (by kernel_rfl) (by kernel_rfl) (by kernel_rfl) (fun _ _ _ h => h) (Or.inl ⟨by rfl, ?_⟩) hHeld ?_
      rotate_left
      · intro w hSw; (try dsimp only at hSw); go_simp; all_goals (with_reducible rfl)
      try simp only [Act.put, List.setIfInBounds_toArray, List.set_cons_zero, List.set_cons_succ]
      refine wpAnyH_take (i := 1) (oi := ⟨some 18, _, _, _, _, _⟩) (v := ?_) rfl (by kernel_rfl) (by kernel_rfl) (by kernel_rfl) (fun _ _ _ h => h) (Or.inl ⟨by rfl, ?_⟩) hHeld ?_
      rotate_left
      · intro w hSw; (try dsimp only at hSw); go_simp; all_goals (with_reducible rfl)
      try simp only [Act.put, List.setIfInBounds_toArray, List.set_cons_zero, List.set_cons_succ]
      refine wpAnyH_take (i := 2) (oi := ⟨some 19, _, _, _, _, _⟩) (v := ?_) rfl (by kernel_rfl) (by kernel_rfl) (by kernel_rfl) (fun _ _ _ h => h) (Or.inl ⟨by rfl, ?_⟩) hHeld ?_
      rotate_left
      · intro w hSw; (try dsimp only at hSw); go_simp; all_goals (with_reducible rfl)
      try simp only [Act.put, List.setIfInBounds_toArray, List.set_cons_zero, List.set_cons_succ]
      refine wpAnyH_take (i := 3) (oi := ⟨some 20, _, _, _, _, _⟩) (v := ?_) rfl (by kernel_rfl) (by kernel_rfl) (by kernel_rfl) (fun _ _ _ h => h) (Or.inl ⟨by rfl, ?_⟩) hHeld ?_
      rotate_left
      · intro w hSw; (try dsimp only at hSw); go_simp; all_goals (with_reducible rfl)
      try simp only [Act.put, List.setIfInBounds_toArray, List.set_cons_zero, List.set_cons_succ]
      refine wpAnyH_take (i := 4) (oi := ⟨some 21, _, _, _, _, _⟩) (v := ?_) rfl (by kernel_rfl) (by kernel_rfl) (by kernel_rfl) (fun _ _ _ h => h) (Or.inl ⟨by rfl, ?_⟩) hHeld ?_
      rotate_left
      · intro w hSw; (try dsimp only at hSw); go_simp; all_goals (with_reducible rfl)
      try simp only [Act.put, List.setIfInBounds_toArray, List.set_cons_zero, List.set_cons_succ]
      refine wpAnyH_take (i := 5) (oi := ⟨some 22, _, _, _, _, _⟩) (v := ?_) rfl (by kernel_rfl) (by kernel_rfl) (by kernel_rfl) (fun _ _ _ h => h) (Or.inl ⟨by rfl, ?_⟩) hHeld ?_
      rotate_left
      · intro w hSw; (try dsimp only at hSw); go_simp; all_goals (with_reducible rfl)
      try simp only [Act.put, List.setIfInBounds_toArray, List.set_cons_zero, List.set_cons_succ]
      refine wpAnyH_take (i := 6) (oi := ⟨some 23, _, _, _, _, _⟩) (v := ?_) rfl (by kernel_rfl) (by kernel_rfl) (by kernel_rfl) (fun _ _ _ h => h) (Or.inl ⟨by rfl, ?_⟩) hHeld ?_
      rotate_left
      · intro w hSw; (try dsimp only at hSw); go_simp; all_goals (with_reducible rfl)
      try simp only [Act.put, List.setIfInBounds_toArray, List.set_cons_zero, List.set_cons_succ]
      refine wpAnyH_take (i := 7) (oi := ⟨some 24, _, _, _, _, _⟩) (v := ?_) rfl (by kernel_rfl) (by kernel_rfl) (by kernel_rfl) (fun _ _ _ h => h) (Or.inl ⟨by rfl, ?_⟩) hHeld ?_
      rotate_left
      · intro w hSw; (try dsimp only at hSw); go_simp; all_goals (with_reducible rfl)
      try simp only [Act.put, List.setIfInBounds_toArray, List.set_cons_zero, List.set_cons_succ]
      refine wpAnyH_take (i := 8) (oi := ⟨some 25, _, _, _, _, _⟩) (v := ?_) rfl (by kernel_rfl) (by kernel_rfl) (by kernel_rfl) (fun _ _ _ h => h) (Or.inl ⟨by rfl, ?_⟩) hHeld ?_
      rotate_left
      · intro w hSw; (try dsimp only at hSw); go_simp; all_goals (with_reducible rfl)
      try simp only [Act.put, List.setIfInBounds_toArray, List.set_cons_zero, List.set_cons_succ]
      refine wpAnyH_take (i := 9) (oi := ⟨some 26, _, _, _, _, _⟩) (v := ?_) rfl (by kernel_rfl) (by kernel_rfl) (by kernel_rfl) (fun _ _ _ h => h) (Or.inl ⟨by rfl, ?_⟩) hHeld ?_
      rotate_left
      · intro w hSw; (try dsimp only at hSw); go_simp; all_goals (with_reducible rfl)
      try simp only [Act.put, List.setIfInBounds_toArray, List.set_cons_zero, List.set_cons_succ]
      refine wpAnyH_take (i := 10) (oi := ⟨some 27, _, _, _, _, _⟩) (v := ?_) rfl (by kernel_rfl) (by kernel_rfl) (by kernel_rfl) (fun _ _ _ h => h) (Or.inl ⟨by rfl, ?_⟩) hHeld ?_
      rotate_left
      · intro w hSw; (try dsimp only at hSw); go_simp; all_goals (with_reducible rfl)
      try simp only [Act.put, List.setIfInBounds_toArray, List.set_cons_zero, List.set_cons_succ]
      refine wpAnyH_take (i := 11) (oi := ⟨some 28, _, _, _, _, _⟩) (v := ?_) rfl (by kernel_rfl) (by kernel_rfl) (by kernel_rfl) (fun _ _ _ h => h) (Or.inl ⟨by rfl, ?_⟩) hHeld ?_
      rotate_left
      · intro w hSw; (try dsimp only at hSw); go_simp; all_goals (with_reducible rfl)
      try simp only [Act.put, List.setIfInBounds_toArray, List.set_cons_zero, List.set_cons_succ]
      refine wpAnyH_take (i := 12) (oi := ⟨some 29, _, _, _, _, _⟩) (v := ?_) rfl (by kernel_rfl) (by kernel_rfl) (by kernel_rfl) (fun _ _ _ h => h) (Or.inl ⟨by rfl, ?_⟩) hHeld ?_
      rotate_left
      · intro w hSw; (try dsimp only at hSw); go_simp; all_goals (with_reducible rfl)
      try simp only [Act.put, List.setIfInBounds_toArray, List.set_cons_zero, List.set_cons_succ]
      refine wpAnyH_take (i := 13) (oi := ⟨some 30, _, _, _, _, _⟩) (v := ?_) rfl (by kernel_rfl) (by kernel_rfl) (by kernel_rfl) (fun _ _ _ h => h) (Or.inl ⟨by rfl, ?_⟩) hHeld ?_
      rotate_left
      · intro w hSw; (try dsimp only at hSw); go_simp; all_goals (with_reducible rfl)
      try simp only [Act.put, List.setIfInBounds_toArray, List.set_cons_zero, List.set_cons_succ]
      refine wpAnyH_take (i := 14) (oi := ⟨some 31, _, _, _, _, _⟩) (v := ?_) rfl (by kernel_rfl) (by kernel_rfl) (by kernel_rfl) (fun _ _ _ h => h) (Or.inl ⟨by rfl, ?_⟩) hHeld ?_
      rotate_left
      · intro w hSw; (try dsimp only at hSw); go_simp; all_goals (with_reducible rfl)
      try simp only [Act.put, List.setIfInBounds_toArray, List.set_cons_zero, List.set_cons_succ]
      refine wpAnyH_take (i := 15) (oi := ⟨some 32, _, _, _, _, _⟩) (v := ?_) rfl (by kernel_rfl) (by kernel_rfl) (by kernel_rfl) (fun _ _ _ h => h) (Or.inl ⟨by rfl, ?_⟩) hHeld ?_
      rotate_left
      · intro w hSw; (try dsimp only at hSw); go_simp; all_goals (with_reducible rfl)
      try simp only [Act.put, List.setIfInBounds_toArray, List.set_cons_zero, List.set_cons_succ]
      refine wpAnyH_take (i := 16) (oi := ⟨some 33, _, _, _, _, _⟩) (v := ?_) rfl (by kernel_rfl) (by kernel_rfl) (by kernel_rfl) (fun _ _ _ h => h) (Or.inl ⟨by rfl, ?_⟩) hHeld ?_
      rotate_left
      · intro w hSw; (try dsimp only at hSw); go_simp; all_goals (with_reducible rfl)
      try simp only [Act.put, List.setIfInBounds_toArray, List.set_cons_zero, List.set_cons_succ]
      refine wpAnyH_take (i := 17) (oi := ⟨some 34, _, _, _, _, _⟩) (v := ?_) rfl (by kernel_rfl) (by kernel_rfl) (by kernel_rfl) (fun _ _ _ h => h) (Or.inl ⟨by rfl, ?_⟩) hHeld ?_
      rotate_left
      · intro w hSw; (try dsimp only at hSw); go_simp; all_goals (with_reducible rfl)
      try simp only [Act.put, List.setIfInBounds_toArray, List.set_cons_zero, List.set_cons_succ]
      refine wpAnyH_take (i := 18) (oi := ⟨some 35, _, _, _, _, _⟩) (v := ?_) rfl (by kernel_rfl) (by kernel_rfl) (by kernel_rfl) (fun _ _ _ h => h) (Or.inl ⟨by rfl, ?_⟩) hHeld ?_
      rotate_left
      · intro w hSw; (try dsimp only at hSw); go_simp; all_goals (with_reducible rfl)
      try simp only [Act.put, List.setIfInBounds_toArray, List.set_cons_zero, List.set_cons_succ]
      refine wpAnyH_take (i := 19) (oi := ⟨some 36, _, _, _, _, _⟩) (v := ?_) rfl (by kernel_rfl) (by kernel_rfl) (by kernel_rfl) (fun _ _ _ h => h) (Or.inl ⟨by rfl, ?_⟩) hHeld ?_
      rotate_left
      · intro w hSw; (try dsimp only at hSw); go_simp; all_goals (with_reducible rfl)
      try simp only [Act.put, List.setIfInBounds_toArray, List.set_cons_zero, List.set_cons_succ]
      refine wpAnyH_take (i := 20) (oi := ⟨some 37, _, _, _, _, _⟩) (v := ?_) rfl (by kernel_rfl) (by kernel_rfl) (by kernel_rfl) (fun _ _ _ h => h) (Or.inl ⟨by rfl, ?_⟩) hHeld ?_
      rotate_left
      · intro w hSw; (try dsimp only at hSw); go_simp; all_goals (with_reducible rfl)
      try simp only [Act.put, List.setIfInBounds_toArray, List.set_cons_zero, List.set_cons_succ]
      refine wpAnyH_take (i := 21) (oi := ⟨some 38, _, _, _, _, _⟩) (v := ?_) rfl (by kernel_rfl) (by kernel_rfl) (by kernel_rfl) (fun _ _ _ h => h) (Or.inl ⟨by rfl, ?_⟩) hHeld ?_
      rotate_left
      · intro w hSw; (try dsimp only at hSw); go_simp; all_goals (with_reducible rfl)
      try simp only [Act.put, List.setIfInBounds_toArray, List.set_cons_zero, List.set_cons_succ]
      refine wpAnyH_ready (rs := [22]) (by kernel_rfl) (by simp) ?_
      refine AllReadyH.cons (o := ⟨some 39, _, _, _, _, _⟩) rfl (fun K hK => ?_) AllReadyH.nil
      go_simp
      refine (same_walk (HMA.out.below (below_drewN wr 1)) (HMB.out.below (below_drewN wr 1)) HOK.out).mono ?_
      rintro e9 w4 ⟨rfl, hB4⟩
      have HB4 : Hid (Below wr.heap.size wr w4) := below_trans (below_drewN wr 1) hB4
      clear hB4
      refine hK.out _ _ ?_ (fun hHeld => ?_)
      · exact HB4.out
      clear hK K
      try simp only [Act.put, List.setIfInBounds_toArray, List.set_cons_zero, List.set_cons_succ]
      refine wpAnyH_take (i := 23) (oi := ⟨some 40, _, _, _, _, _⟩) (v := ?_) rfl (by kernel_rfl) (by kernel_rfl) (by kernel_rfl) (fun _ _ _ h => h) (Or.inl ⟨by rfl, ?_⟩) hHeld ?_
      rotate_left
      · intro w hSw; (try dsimp only at hSw); go_simp; all_goals (with_reducible rfl)
      try simp only [Act.put, List.setIfInBounds_toArray, List.set_cons_zero, List.set_cons_succ]
      refine wpAnyH_take (i := 24) (oi := ⟨some 41, _, _, _, _, _⟩) (v := ?_) rfl (by kernel_rfl) (by kernel_rfl) (by kernel_rfl) (fun _ _ _ h => h) (Or.inl ⟨by rfl, ?_⟩) hHeld ?_
      rotate_left
      · intro w hSw; (try dsimp only at hSw); go_simp; all_goals (with_reducible rfl)
      try simp only [Act.put, List.setIfInBounds_toArray, List.set_cons_zero, List.set_cons_succ]
      refine wpAnyH_done (by kernel_rfl) ?_ _
      refine NoPanic.normal ?_
      clear k0 k1 k2 k3 k4 k5 k6 k7 k8 k9 l0 l1 l2 l3 l4 l5 l6 l7 l8 l9 hnn
      go_wp2_with fail
      go_roundw
      case rel => exact ⟨i + 1, by go_num, HLT.out, below_trans HR.out HB4.out⟩
      case measure => have := HLT.out; simp [intOf]; omega
    · have hlti : ¬ (i : Int) < (F.length : Int) := by omega
      go_wp2_with fail
      go_ret
      exact ⟨rfl, HR.out⟩
end Go.Proofs.Ytonnlhehbhiiiaa


