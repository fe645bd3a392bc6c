/- Contract of the reference's Send. -/
import Derived.Test.YtokfbnpjndlccaaEb

import Derived.Test.YtokfbnpjndlccaaJd

namespace Go.Proofs.Ytokfbnpjndlccaa

open Go.RowKit



theorem step_app_fl {ops : Array Oper} {o : Oper} {a : Act} {w : World} {K : Act → World → Prop} {Q : Exit → Act → World → Prop} {E : Prop}
    (hg : o.guard = none) (s x : Operand) (hop : o.op = Op.call { callee := Callee.builtin Builtin.append, args := #[s, x], argTypes := #[40, 40] })
    {base : Nat} (v : Value) (n : Nat) (xs : List Value) (hs : a.eval s = v) (hown : w.ownsRow base 55 10 v n xs)
    (q : Nat) (en : En) (hx : a.eval x = .slice (some ⟨q, 0, none⟩) 1 1) (hnews : ∀ j u, (cellsE en)[j]? = some u → w.cell? ⟨q, j, none⟩ = some u) (h1 : ∀ u ∈ cellsE en, u.oneCell' = true) (hn : n ≤ 5000) (hb : base ≤ w.heap.size)
    (hK : ∀ v' w', w'.ownsRow base 55 10 v' (n + 1) (xs ++ cellsE en) → w.grownBy w' v.ownBlock → (v'.ownBlock = v.ownBlock ∨ v'.ownBlock = some w.heap.size) → K (a.put o.dst v') w') :
    if Region.wanted o (yielded ops a.tmps) = true then Oper.wp Try.prog o a w K Q else E := by
  have hw : Region.wanted o (yielded ops a.tmps) = true := by simp [Region.wanted, hg]
  rw [if_pos hw]
  obtain ⟨i0, hi, hz0, hz1, hz2⟩ := info_partsQ info_fl
  obtain ⟨v', w', hrun, r1, r2, _, r4⟩ := run_append_own_at (P := Try.prog) w base 40 o.type 55 i0 _ 10 128 Try.underlying40 hi hz0 hz1 hz2 rfl (by decide) v n xs hown ⟨q, 0, none⟩ 1 1 (cellsE en) rfl (fun j u hj => by rw [WideShapes.add_plain, Nat.zero_add]; exact hnews j u hj) h1 (by simp only [maxLen]; omega) (by omega) hb
  unfold Oper.wp
  simp [execOp, hop, resolve, invoke, builtin, hs, hx, hrun, Result.andThen]
  exact hK v' w' r1 r2 r4
/-- A new one joins the reference's net. -/
theorem Rt.join {w w4 w6 : World} {o : Obj} {B R r nx : Nat} {v v' : Value} {L : List En} {m : Ms} {a c d : Value} (h : Rt w B R r nx v L) (hl : L.length < r) (hok : m.ok) (hs : sndM m = true) (hb : Below w.heap.size w w4) (hmo : Mo w4 w.heap.size w4.heap.size m a c d)
    (ho : w6.ownsRow B 55 10 v' (L.length + 1) (flatF L ++ cellsE ⟨nx, m, a, c, d, w.heap.size, w4.heap.size⟩)) (hg : (w4.alloc o).grownBy w6 v.ownBlock) (hat : v'.ownBlock = v.ownBlock ∨ v'.ownBlock = some (w4.alloc o).heap.size) :
    Rt ((w6.setCell ⟨R, 1, none⟩ v').setCell ⟨R, 2, none⟩ (.int .i64 ((nx + 1 : Nat) : Int))) B R r (nx + 1) v' (L ++ [⟨nx, m, a, c, d, w.heap.size, w4.heap.size⟩]) ∧ Ch (fun y => y = R ∨ v.ownBlock = some y) w ((w6.setCell ⟨R, 1, none⟩ v').setCell ⟨R, 2, none⟩ (.int .i64 ((nx + 1 : Nat) : Int))) ∧ (∀ y, v'.ownBlock = some y → v.ownBlock = some y ∨ w.heap.size ≤ y) := by
  have hb5 : Below w.heap.size w (w4.alloc o) := below_trans hb (below_alloc _ _)
  have hE : Eo (w4.alloc o) ⟨nx, m, a, c, d, w.heap.size, w4.heap.size⟩ := Eo.below (w := w4) ⟨hmo, hok, Nat.le_refl _⟩ (below_alloc _ _)
  have hB : B ≤ w.heap.size := by have := h.lo; omega
  have hj := h.fr.join hb5 hE (Nat.le_refl _) hB ho hg hat
  have hc : Ch (fun y => v.ownBlock = some y) (w4.alloc o) w6 := Ch.of_grown hg (fun y hy => hy)
  have h5 := h.below hb5
  have hRv : ¬ v.ownBlock = some R := h.rv
  have c0 := hc.cell h5.c0 hRv
  have c1 := hc.cell h5.c1 hRv
  have c2 := hc.cell h5.c2 hRv
  have hs5 := hb5.size
  have hs6 := hc.size
  have hlo := h.lo
  have hv' : ∀ y, v'.ownBlock = some y → v.ownBlock = some y ∨ w.heap.size ≤ y := fun y hy => by
    rcases hat with q | q
    · rw [q] at hy; exact .inl hy
    · rw [q] at hy; cases hy; exact .inr hs5
  have hv'R : v'.ownBlock ≠ some R := fun e => by
    rcases hv' R e with q | q
    · exact hRv q
    · omega
  have ch1 : Ch (fun y => y = R) w6 ((w6.setCell ⟨R, 1, none⟩ v').setCell ⟨R, 2, none⟩ (.int .i64 ((nx + 1 : Nat) : Int))) := (ch_set _ _ _ _).self (ch_set _ _ _ _)
  refine ⟨⟨?_, ?_, ?_, fun j => ?_, hj.ch ch1 (fun g hg e => hv'R (by rw [hg, e])) (fun x hx y h1 h2 e => ?_), hv'R, fun x hx => ?_, fun x hx => ?_, ?_, fun x hx => ?_, ?_, h.room, ⟨hlo.1, ?_⟩⟩, ?_, hv'⟩
  · rw [World.cell?_setCell_other _ _ _ _ (by rintro ⟨⟩), World.cell?_setCell_other _ _ _ _ (by rintro ⟨⟩)]; exact c0
  · rw [World.cell?_setCell_other _ _ _ _ (by rintro ⟨⟩)]; simp [go_sem, c1]
  · have : (w6.setCell ⟨R, 1, none⟩ v').cell? ⟨R, 2, none⟩ = some (.int .i64 nx) := by rw [World.cell?_setCell_other _ _ _ _ (by rintro ⟨⟩)]; exact c2
    simp [go_sem, this]
  · have := hc.frozen (j := j) h5.lo.2 hRv
    simpa [go_sem, this] using h5.z j
  · rcases List.mem_append.1 hx with q | q
    · have := h.off x q; omega
    · rw [List.mem_singleton] at q; subst q
      have h1' : w.heap.size ≤ y := h1
      omega
  · rcases List.mem_append.1 hx with q | q
    · exact h.off x q
    · rw [List.mem_singleton] at q; subst q; exact hlo.2
  · rcases List.mem_append.1 hx with q | q
    · exact h.snd x q
    · rw [List.mem_singleton] at q; subst q; exact hs
  · refine List.pairwise_append.2 ⟨h.num, List.pairwise_singleton _ _, fun x hx y hy => ?_⟩
    rw [List.mem_singleton] at hy; subst hy
    exact h.lt x hx
  · rcases List.mem_append.1 hx with q | q
    · have := h.lt x q; omega
    · rw [List.mem_singleton] at q; subst q; exact Nat.lt_succ_self _
  · simp; omega
  · have := ch1.size; omega
  · exact ((Ch.of_below hb5).trans hc (fun y hy => .inl (.inr hy))).trans ch1 (fun y hy => .inl (.inl hy))


/-- What the reference's Send leaves: of a message that is sound. -/
def RaGot (w : World) (B R r nx : Nat) (v : Value) (L : List En) (m : Ms) (e : Ending) (w' : World) : Prop :=
  (r ≤ L.length ∧ e = .returned (.tuple #[.int .i64 0, .int .i64 160]) ∧ Below w.heap.size w w') ∨
  (L.length < r ∧ e = .returned (.tuple #[.int .i64 nx, .int .i64 0]) ∧ ∃ v' en, nmE en = (nx, m) ∧ w.heap.size ≤ en.lo ∧ Rt w' B R r (nx + 1) v' (L ++ [en]) ∧ Ch (fun y => y = R ∨ v.ownBlock = some y) w w' ∧ ∀ y, v'.ownBlock = some y → v.ownBlock = some y ∨ w.heap.size ≤ y)
def RsGot (w : World) (B R r nx : Nat) (v : Value) (L : List En) (m : Ms) (e : Ending) (w' : World) : Prop :=
  (sndM m = false ∧ e = .returned (.tuple #[.int .i64 0, .int .i64 150]) ∧ Below w.heap.size w w') ∨ (sndM m = true ∧ RaGot w B R r nx v L m e w')
set_option maxRecDepth 100000 in
set_option maxHeartbeats 4000000 in
theorem rsend_walk {w : World} {B R r nx : Nat} {v : Value} {L : List En} {m : Ms} {ev qv pv : Value} (hn : Rt w B R r nx v L) (h : ML w m ev qv pv) (hok : m.ok) (hnx : nx < 9223372036854775800) :
    Calls Try.prog 23 #[.pointer (some ⟨R, 0, none⟩), .agg #[.int .i64 m.K, .int .i64 m.F, .int .i64 m.T, .int .i64 m.B, .int .i64 m.A, .int .i64 m.C, ev, qv, pv]] w (RsGot w B R r nx v L m) := by
  have HL : Hid (ML w m ev qv pv) := h
  have HK : Hid (m.ok) := hok
  obtain ⟨ea, en, ec, rfl, he, hem⟩ := sv_le h.e
  obtain ⟨qa, qn, qc, rfl, hq, hqm⟩ := sv_le h.q
  obtain ⟨pa, pn, pc, rfl, hp, hpm⟩ := qv_le h.p
  clear h hok he hq hp hem hqm hpm
  obtain ⟨va, vc, hva⟩ := own_formN hn.fr.own
  subst hva
  have HX0 := mx_new w m (.slice ea en ec) (.slice qa qn qc) (.slice pa pn pc)
  have HB0 := below_alloc w (Obj.cells #[.int .i64 m.K, .int .i64 m.F, .int .i64 m.T, .int .i64 m.B, .int .i64 m.A, .int .i64 m.C, .slice ea en ec, .slice qa qn qc, .slice pa pn pc] 35)
  have HN0 : Hid _ := hn
  clear hn
  have hk0 : (r : Int) ≤ 4096 := by have := HN0.out.room; omega
  have hll : (L.length : Int) ≤ 4096 := by have := HN0.out.room; have := HN0.out.len; omega
  go_enter Try.func23, Try.ntmps23
  go_upto_region 1 with fail
  have HX : Hid _ := HX0
  have HB : Hid _ := HB0
  clear HX0 HB0
  obtain ⟨Q, hQ⟩ : ∃ Q, Q = w.heap.size := ⟨_, rfl⟩
  have HQ : Hid (Q = w.heap.size) := hQ
  rw [← hQ] at HX ⊢
  clear hQ
  generalize w.alloc (Obj.cells #[.int .i64 m.K, .int .i64 m.F, .int .i64 m.T, .int .i64 m.B, .int .i64 m.A, .int .i64 m.C, .slice ea en ec, .slice qa qn qc, .slice pa pn pc] 35) = w1 at HX HB ⊢
  have x0 := HX.out.c0
  have x1 := HX.out.c1
  have x2 := HX.out.c2
  have x3 := HX.out.c3
  have x4 := HX.out.c4
  have x5 := HX.out.c5
  have x6 := HX.out.c6
  have x7 := HX.out.c7
  have x8 := HX.out.c8
  go_upto_region 3 with fail
  go_wp2_with fail
  refine (rmsound_walk (HL.out.below HB.out)).mono ?_
  rintro e w2 ⟨rfl, hb2⟩
  have HB2 : Hid (Below w.heap.size w w2) := below_trans HB.out hb2
  have HX2 : Hid _ := HX.out.keep hb2
  clear hb2 HX HB x0 x1 x2 x3 x4 x5 x6 x7 x8
  cases hs : sndM m
  · go_wp2_with fail
    go_ret2
    exact .inl ⟨hs, rfl, HB2.out⟩
  have HS : Hid (sndM m = true) := hs
  clear hs
  have HN2 : Hid _ := HN0.out.below HB2.out
  have p0 : ∀ n, (w2.drewN n).cell? ⟨R, 0, none⟩ = some (.int .i64 r) := fun n => (HN2.out.below (below_drewN w2 n)).c0
  have p1 : ∀ n, (w2.drewN n).cell? ⟨R, 1, none⟩ = some (.slice va L.length vc) := fun n => (HN2.out.below (below_drewN w2 n)).c1
  have q0 := HN2.out.c0
  have q1 := HN2.out.c1
  go_upto_region 5 with fail
  by_cases hle : r ≤ L.length
  · have hge : (r : Int) ≤ (L.length : Int) := by omega
    go_quiet (fail)
    go_wp2_with fail
    go_ret2
    exact .inr ⟨HS.out, .inl ⟨hle, rfl, below_trans HB2.out (below_drewN _ _)⟩⟩
  have hge : ¬ (r : Int) ≤ (L.length : Int) := by omega
  go_quiet (fail)
  go_upto_region 7 with fail
  generalize hw3 : w2.drewN nq = w3
  have HB3 : Hid (Below w2.heap.size w2 w3) := by rw [← hw3]; exact below_drewN w2 nq
  have HLT : Hid (L.length < r) := by show _ < _; omega
  clear hw3 p0 p1 q0 q1 hle hge
  have HN3 : Hid _ := HN2.out.below HB3.out
  have HX3 : Hid _ := HX2.out.keep HB3.out
  have HW3 : Hid (Below w.heap.size w w3) := below_trans HB2.out HB3.out
  have HL3 : Hid _ := HL.out.below HW3.out
  have HLN : Hid _ := snd_len HS.out
  have HRQ : Hid (R < w.heap.size) := HN0.out.lo.2
  clear HN2 HX2 HB2 HB3
  have HSF : Hid (∀ wx, Below w3.heap.size w3 wx → wx.cell? ⟨R, 2, none⟩ = some (.int .i64 nx) ∧ wx.cell? ⟨Q, 0, none⟩ = some (.int .i64 m.K) ∧ wx.cell? ⟨Q, 1, none⟩ = some (.int .i64 m.F) ∧ wx.cell? ⟨Q, 2, none⟩ = some (.int .i64 m.T) ∧ wx.cell? ⟨Q, 3, none⟩ = some (.int .i64 m.B) ∧ wx.cell? ⟨Q, 4, none⟩ = some (.int .i64 m.A) ∧ wx.cell? ⟨Q, 5, none⟩ = some (.int .i64 m.C) ∧ wx.cell? ⟨Q, 6, none⟩ = some (.slice ea en ec) ∧ wx.cell? ⟨Q, 7, none⟩ = some (.slice qa qn qc) ∧ wx.cell? ⟨Q, 8, none⟩ = some (.slice pa pn pc)) := fun wx h => by
    have hx := HX3.out.keep h
    exact ⟨(HN3.out.below h).c2, hx.c0, hx.c1, hx.c2, hx.c3, hx.c4, hx.c5, hx.c6, hx.c7, hx.c8⟩
  refine wp_region_noPanic ?_
  refine wp_region_held_drew (S := fun wx => wx.cell? ⟨R, 2, none⟩ = some (.int .i64 nx) ∧ wx.cell? ⟨Q, 0, none⟩ = some (.int .i64 m.K) ∧ wx.cell? ⟨Q, 1, none⟩ = some (.int .i64 m.F) ∧ wx.cell? ⟨Q, 2, none⟩ = some (.int .i64 m.T) ∧ wx.cell? ⟨Q, 3, none⟩ = some (.int .i64 m.B) ∧ wx.cell? ⟨Q, 4, none⟩ = some (.int .i64 m.A) ∧ wx.cell? ⟨Q, 5, none⟩ = some (.int .i64 m.C) ∧ wx.cell? ⟨Q, 6, none⟩ = some (.slice ea en ec) ∧ wx.cell? ⟨Q, 7, none⟩ = some (.slice qa qn qc) ∧ wx.cell? ⟨Q, 8, none⟩ = some (.slice pa pn pc)) (by kernel_rfl) ?_ (fun hHeld => ?_)
  · exact HSF.out _ (below_drewN w3 1)
  refine wpAnyH_take (i := 0) (oi := ⟨some 21, _, _, _, _, _⟩) (v := ?_) rfl (by kernel_rfl) (by kernel_rfl) (by kernel_rfl) (fun _ _ _ h => h) (Or.inl ⟨by rfl, ?_⟩) hHeld ?_
  rotate_left
  · intro w hSw; (try dsimp only at hSw); go_simp; all_goals (with_reducible rfl)
  try simp only [Act.put, List.setIfInBounds_toArray, List.set_cons_zero, List.set_cons_succ]
  refine wpAnyH_take (i := 1) (oi := ⟨some 22, _, _, _, _, _⟩) (v := ?_) rfl (by kernel_rfl) (by kernel_rfl) (by kernel_rfl) (fun _ _ _ h => h) (Or.inl ⟨by rfl, ?_⟩) hHeld ?_
  rotate_left
  · intro w hSw; (try dsimp only at hSw); go_simp; all_goals (with_reducible rfl)
  try simp only [Act.put, List.setIfInBounds_toArray, List.set_cons_zero, List.set_cons_succ]
  refine wpAnyH_take (i := 2) (oi := ⟨some 23, _, _, _, _, _⟩) (v := ?_) rfl (by kernel_rfl) (by kernel_rfl) (by kernel_rfl) (fun _ _ _ h => h) (Or.inl ⟨by rfl, ?_⟩) hHeld ?_
  rotate_left
  · intro w hSw; (try dsimp only at hSw); go_simp; all_goals (with_reducible rfl)
  try simp only [Act.put, List.setIfInBounds_toArray, List.set_cons_zero, List.set_cons_succ]
  refine wpAnyH_take (i := 3) (oi := ⟨some 24, _, _, _, _, _⟩) (v := ?_) rfl (by kernel_rfl) (by kernel_rfl) (by kernel_rfl) (fun _ _ _ h => h) (Or.inl ⟨by rfl, ?_⟩) hHeld ?_
  rotate_left
  · intro w hSw; (try dsimp only at hSw); go_simp; all_goals (with_reducible rfl)
  try simp only [Act.put, List.setIfInBounds_toArray, List.set_cons_zero, List.set_cons_succ]
  refine wpAnyH_take (i := 5) (oi := ⟨some 26, _, _, _, _, _⟩) (v := ?_) rfl (by kernel_rfl) (by kernel_rfl) (by kernel_rfl) (fun _ _ _ h => h) (Or.inl ⟨by rfl, ?_⟩) hHeld ?_
  rotate_left
  · intro w hSw; (try dsimp only at hSw); go_simp; all_goals (with_reducible rfl)
  try simp only [Act.put, List.setIfInBounds_toArray, List.set_cons_zero, List.set_cons_succ]
  refine wpAnyH_take (i := 6) (oi := ⟨some 27, _, _, _, _, _⟩) (v := ?_) rfl (by kernel_rfl) (by kernel_rfl) (by kernel_rfl) (fun _ _ _ h => h) (Or.inl ⟨by rfl, ?_⟩) hHeld ?_
  rotate_left
  · intro w hSw; (try dsimp only at hSw); go_simp; all_goals (with_reducible rfl)
  try simp only [Act.put, List.setIfInBounds_toArray, List.set_cons_zero, List.set_cons_succ]
  refine wpAnyH_take (i := 7) (oi := ⟨some 28, _, _, _, _, _⟩) (v := ?_) rfl (by kernel_rfl) (by kernel_rfl) (by kernel_rfl) (fun _ _ _ h => h) (Or.inl ⟨by rfl, ?_⟩) hHeld ?_
  rotate_left
  · intro w hSw; (try dsimp only at hSw); go_simp; all_goals (with_reducible rfl)
  try simp only [Act.put, List.setIfInBounds_toArray, List.set_cons_zero, List.set_cons_succ]
  refine wpAnyH_take (i := 8) (oi := ⟨some 29, _, _, _, _, _⟩) (v := ?_) rfl (by kernel_rfl) (by kernel_rfl) (by kernel_rfl) (fun _ _ _ h => h) (Or.inl ⟨by rfl, ?_⟩) hHeld ?_
  rotate_left
  · intro w hSw; (try dsimp only at hSw); go_simp; all_goals (with_reducible rfl)
  try simp only [Act.put, List.setIfInBounds_toArray, List.set_cons_zero, List.set_cons_succ]
  refine wpAnyH_take (i := 9) (oi := ⟨some 30, _, _, _, _, _⟩) (v := ?_) rfl (by kernel_rfl) (by kernel_rfl) (by kernel_rfl) (fun _ _ _ h => h) (Or.inl ⟨by rfl, ?_⟩) hHeld ?_
  rotate_left
  · intro w hSw; (try dsimp only at hSw); go_simp; all_goals (with_reducible rfl)
  try simp only [Act.put, List.setIfInBounds_toArray, List.set_cons_zero, List.set_cons_succ]
  refine wpAnyH_ready (rs := [4, 10]) (by kernel_rfl) (by simp) ?_
  refine AllReadyH.cons (o := ⟨some 25, _, _, _, _, _⟩) rfl (fun K hK => ?_) (AllReadyH.cons (o := ⟨some 31, _, _, _, _, _⟩) rfl (fun K hK => ?_) AllReadyH.nil)
  · have c1 := HN3.out.c1
    go_simp
    refine hK.out _ _ ?_ (fun hHeld => ?_)
    · exact (HSF.out _ (below_drewN w3 1))
    clear hK K
    try simp only [Act.put, List.setIfInBounds_toArray, List.set_cons_zero, List.set_cons_succ]
    refine wpAnyH_ready (rs := [10]) (by kernel_rfl) (by simp) ?_
    refine AllReadyH.cons (o := ⟨some 31, _, _, _, _, _⟩) rfl (fun K hK => ?_) AllReadyH.nil
    go_simp
    refine (copied_walk (HL3.out.below (below_drewN w3 1)) HK.out HLN.out.1 HLN.out.2.1 HLN.out.2.2).mono ?_
    rintro e w4 ⟨a, c, d, rfl, hmo, hb4⟩
    have HB4 : Hid (Below w3.heap.size w3 w4) := below_trans (below_drewN w3 1) hb4
    have HMO : Hid (Mo w4 w3.heap.size w4.heap.size m a c d) := hmo
    clear hmo hb4
    obtain ⟨ya, yn, yc, za, zn, zc, ua, un, uc, rfl, rfl, rfl⟩ := ml_form HMO.out.l
    refine hK.out _ _ ?_ (fun hHeld => ?_)
    · exact (HSF.out _ HB4.out)
    clear hK K
    try simp only [Act.put, List.setIfInBounds_toArray, List.set_cons_zero, List.set_cons_succ]
    refine wpAnyH_take (i := 11) (oi := ⟨some 32, _, _, _, _, _⟩) (v := ?_) rfl (by kernel_rfl) (by kernel_rfl) (by kernel_rfl) (fun _ _ _ h => h) (Or.inl ⟨by rfl, ?_⟩) hHeld ?_
    rotate_left
    · intro w hSw; (try dsimp only at hSw); go_simp; all_goals (with_reducible rfl)
    try simp only [Act.put, List.setIfInBounds_toArray, List.set_cons_zero, List.set_cons_succ]
    refine wpAnyH_ready (rs := [12]) (by kernel_rfl) (by simp) ?_
    refine AllReadyH.cons (o := ⟨some 33, _, _, _, _, _⟩) rfl (fun K hK => ?_) AllReadyH.nil
    go_simp
    refine hK.out _ _ ?_ (fun hHeld => ?_)
    · exact (HSF.out _ (below_trans HB4.out (below_alloc _ _)))
    clear hK K
    try simp only [Act.put, List.setIfInBounds_toArray, List.set_cons_zero, List.set_cons_succ]
    refine wpAnyH_ready (rs := [13]) (by kernel_rfl) (by simp) ?_
    refine AllReadyH.cons (o := ⟨some 34, _, _, _, _, _⟩) rfl (fun K hK => ?_) AllReadyH.nil
    have HEn : Hid (Eo w4 ⟨nx, m, .slice ya yn yc, .slice za zn zc, .slice ua un uc, w3.heap.size, w4.heap.size⟩) := ⟨HMO.out, HK.out, Nat.le_refl _⟩
    have hN4 := HN3.out.below (below_trans HB4.out (below_alloc w4 (Obj.cells #[.int .i64 nx, .int .i64 m.K, .int .i64 m.F, .int .i64 m.T, .int .i64 m.B, .int .i64 m.A, .int .i64 m.C, .slice ya yn yc, .slice za zn zc, .slice ua un uc] 55)))
    refine step_app_fl rfl (.tmp 25) (.tmp 33) rfl (.slice va L.length vc) L.length (flatF L) (by simp [Act.eval]) hN4.fr.own w4.heap.size ⟨nx, m, .slice ya yn yc, .slice za zn zc, .slice ua un uc, w3.heap.size, w4.heap.size⟩ (by simp [Act.eval]) (@cells_lit w4 ⟨nx, m, .slice ya yn yc, .slice za zn zc, .slice ua un uc, w3.heap.size, w4.heap.size⟩ 55) (cellsE_one HEn.out) (by have := HLT.out; have := HN3.out.room; omega) (by have h1 := HN3.out.lo; have h2 := HB4.out.size; rw [size_allocC]; omega) ?_
    intro v6 w6 hown hgrow hat
    have HJ : Hid _ := Rt.join HN3.out HLT.out HK.out HS.out HB4.out HMO.out hown hgrow hat
    have hc6 : Ch (fun y => (Value.slice va L.length vc).ownBlock = some y) (w4.alloc (Obj.cells #[.int .i64 nx, .int .i64 m.K, .int .i64 m.F, .int .i64 m.T, .int .i64 m.B, .int .i64 m.A, .int .i64 m.C, .slice ya yn yc, .slice za zn zc, .slice ua un uc] 55)) w6 := Ch.of_grown hgrow (fun y hy => hy)
    have HR6 : Hid (w6.cell? ⟨R, 1, none⟩ = some (.slice va L.length vc) ∧ w6.cell? ⟨R, 2, none⟩ = some (.int .i64 nx) ∧ ∀ j, w6.frozen? ⟨R, j, none⟩ = false) := ⟨hc6.cell hN4.c1 hN4.rv, hc6.cell hN4.c2 hN4.rv, fun j => by rw [hc6.frozen hN4.lo.2 hN4.rv]; exact hN4.z j⟩
    have HX6 : Hid _ := (HX3.out.keep (below_trans HB4.out (below_alloc w4 (Obj.cells #[.int .i64 nx, .int .i64 m.K, .int .i64 m.F, .int .i64 m.T, .int .i64 m.B, .int .i64 m.A, .int .i64 m.C, .slice ya yn yc, .slice za zn zc, .slice ua un uc] 55)))).ch hc6 (fun e => by have h1 := (HN0.out.fr.own.lt Q e).2; have h2 := HQ.out; omega)
    have HSX : Hid (w6.cell? ⟨R, 2, none⟩ = some (.int .i64 nx) ∧ w6.cell? ⟨Q, 0, none⟩ = some (.int .i64 m.K) ∧ w6.cell? ⟨Q, 1, none⟩ = some (.int .i64 m.F) ∧ w6.cell? ⟨Q, 2, none⟩ = some (.int .i64 m.T) ∧ w6.cell? ⟨Q, 3, none⟩ = some (.int .i64 m.B) ∧ w6.cell? ⟨Q, 4, none⟩ = some (.int .i64 m.A) ∧ w6.cell? ⟨Q, 5, none⟩ = some (.int .i64 m.C) ∧ w6.cell? ⟨Q, 6, none⟩ = some (.slice ea en ec) ∧ w6.cell? ⟨Q, 7, none⟩ = some (.slice qa qn qc) ∧ w6.cell? ⟨Q, 8, none⟩ = some (.slice pa pn pc)) := ⟨HR6.out.2.1, HX6.out.c0, HX6.out.c1, HX6.out.c2, HX6.out.c3, HX6.out.c4, HX6.out.c5, HX6.out.c6, HX6.out.c7, HX6.out.c8⟩
    obtain ⟨a6, c6, rfl⟩ := own_formN hown
    clear hown hgrow hat hc6 hN4
    refine hK.out _ _ ?_ (fun hHeld => ?_)
    · exact HSX.out
    clear hK K
    try simp only [Act.put, List.setIfInBounds_toArray, List.set_cons_zero, List.set_cons_succ]
    refine wpAnyH_take (i := 14) (oi := ⟨some 35, _, _, _, _, _⟩) (v := ?_) rfl (by kernel_rfl) (by kernel_rfl) (by kernel_rfl) (fun _ _ _ h => h) (Or.inl ⟨by rfl, ?_⟩) hHeld ?_
    rotate_left
    · intro w hSw; (try dsimp only at hSw); go_simp; all_goals (with_reducible rfl)
    try simp only [Act.put, List.setIfInBounds_toArray, List.set_cons_zero, List.set_cons_succ]
    refine wpAnyH_take (i := 15) (oi := ⟨some 36, _, _, _, _, _⟩) (v := ?_) rfl (by kernel_rfl) (by kernel_rfl) (by kernel_rfl) (fun _ _ _ h => h) (Or.inl ⟨by rfl, ?_⟩) hHeld ?_
    rotate_left
    · intro w hSw; (try dsimp only at hSw); go_simp; all_goals (with_reducible rfl)
    try simp only [Act.put, List.setIfInBounds_toArray, List.set_cons_zero, List.set_cons_succ]
    refine wpAnyH_ready (rs := [16]) (by kernel_rfl) (by simp) ?_
    refine AllReadyH.cons (o := ⟨none, _, _, _, _, _⟩) rfl (fun K hK => ?_) AllReadyH.nil
    have c1 := HR6.out.1
    have z1 := HR6.out.2.2 1
    go_simp
    have HSY : Hid ((w6.setCell ⟨R, 1, none⟩ (.slice a6 (L.length + 1) c6)).cell? ⟨R, 2, none⟩ = some (.int .i64 nx) ∧ (w6.setCell ⟨R, 1, none⟩ (.slice a6 (L.length + 1) c6)).cell? ⟨Q, 0, none⟩ = some (.int .i64 m.K) ∧ (w6.setCell ⟨R, 1, none⟩ (.slice a6 (L.length + 1) c6)).cell? ⟨Q, 1, none⟩ = some (.int .i64 m.F) ∧ (w6.setCell ⟨R, 1, none⟩ (.slice a6 (L.length + 1) c6)).cell? ⟨Q, 2, none⟩ = some (.int .i64 m.T) ∧ (w6.setCell ⟨R, 1, none⟩ (.slice a6 (L.length + 1) c6)).cell? ⟨Q, 3, none⟩ = some (.int .i64 m.B) ∧ (w6.setCell ⟨R, 1, none⟩ (.slice a6 (L.length + 1) c6)).cell? ⟨Q, 4, none⟩ = some (.int .i64 m.A) ∧ (w6.setCell ⟨R, 1, none⟩ (.slice a6 (L.length + 1) c6)).cell? ⟨Q, 5, none⟩ = some (.int .i64 m.C) ∧ (w6.setCell ⟨R, 1, none⟩ (.slice a6 (L.length + 1) c6)).cell? ⟨Q, 6, none⟩ = some (.slice ea en ec) ∧ (w6.setCell ⟨R, 1, none⟩ (.slice a6 (L.length + 1) c6)).cell? ⟨Q, 7, none⟩ = some (.slice qa qn qc) ∧ (w6.setCell ⟨R, 1, none⟩ (.slice a6 (L.length + 1) c6)).cell? ⟨Q, 8, none⟩ = some (.slice pa pn pc)) := by
      have hx := HX6.out.ch (ch_set w6 R 1 (.slice a6 (L.length + 1) c6)) (show ¬ Q = R by have h1 := HRQ.out; have h2 := HQ.out; omega)
      refine ⟨?_, hx.c0, hx.c1, hx.c2, hx.c3, hx.c4, hx.c5, hx.c6, hx.c7, hx.c8⟩
      rw [World.cell?_setCell_other _ _ _ _ (by rintro ⟨⟩)]; exact HR6.out.2.1
    refine hK.out _ _ ?_ (fun hHeld => ?_)
    · exact HSY.out
    clear hK K
    try simp only [Act.put, List.setIfInBounds_toArray, List.set_cons_zero, List.set_cons_succ]
    refine wpAnyH_done (by kernel_rfl) ?_ _
    refine NoPanic.normal ?_
    have c2 : (w6.setCell ⟨R, 1, none⟩ (.slice a6 (L.length + 1) c6)).cell? ⟨R, 2, none⟩ = some (.int .i64 nx) := HSY.out.1
    have z2 : (w6.setCell ⟨R, 1, none⟩ (.slice a6 (L.length + 1) c6)).frozen? ⟨R, 2, none⟩ = false := by simpa [go_sem] using HR6.out.2.2 2
    have hnw : IntKind.i64.wrap ((nx : Int) + 1) = (nx : Int) + 1 := wrap_small (by omega) (by omega)
    have hnv : IntKind.i64.wrap ((nx : Int) + 1 - 1) = (nx : Int) := by rw [show (nx : Int) + 1 - 1 = (nx : Int) by omega]; exact wrap_small (by omega) (by omega)
    go_wp2_with fail
    go_ret2
    obtain ⟨j1, j2, j3⟩ := HJ.out
    have ec' : (((nx + 1 : Nat) : Int)) = (nx : Int) + 1 := by omega
    rw [ec'] at j1 j2
    refine .inr ⟨HS.out, .inr ⟨HLT.out, by go_num, _, _, rfl, HW3.out.size, j1, (Ch.of_below HW3.out).trans j2 (fun y hy => .inl hy), fun y hy => ?_⟩⟩
    rcases j3 y hy with q | q
    · exact .inl q
    · right; have := HW3.out.size; omega
  · go_simp
    refine (copied_walk (HL3.out.below (below_drewN w3 1)) HK.out HLN.out.1 HLN.out.2.1 HLN.out.2.2).mono ?_
    rintro e w4 ⟨a, c, d, rfl, hmo, hb4⟩
    have HB4 : Hid (Below w3.heap.size w3 w4) := below_trans (below_drewN w3 1) hb4
    have HMO : Hid (Mo w4 w3.heap.size w4.heap.size m a c d) := hmo
    clear hmo hb4
    obtain ⟨ya, yn, yc, za, zn, zc, ua, un, uc, rfl, rfl, rfl⟩ := ml_form HMO.out.l
    refine hK.out _ _ ?_ (fun hHeld => ?_)
    · exact (HSF.out _ HB4.out)
    clear hK K
    try simp only [Act.put, List.setIfInBounds_toArray, List.set_cons_zero, List.set_cons_succ]
    refine wpAnyH_take (i := 11) (oi := ⟨some 32, _, _, _, _, _⟩) (v := ?_) rfl (by kernel_rfl) (by kernel_rfl) (by kernel_rfl) (fun _ _ _ h => h) (Or.inl ⟨by rfl, ?_⟩) hHeld ?_
    rotate_left
    · intro w hSw; (try dsimp only at hSw); go_simp; all_goals (with_reducible rfl)
    try simp only [Act.put, List.setIfInBounds_toArray, List.set_cons_zero, List.set_cons_succ]
    refine wpAnyH_ready (rs := [4, 12]) (by kernel_rfl) (by simp) ?_
    refine AllReadyH.cons (o := ⟨some 25, _, _, _, _, _⟩) rfl (fun K hK => ?_) (AllReadyH.cons (o := ⟨some 33, _, _, _, _, _⟩) rfl (fun K hK => ?_) AllReadyH.nil)
    · have c1 : w4.cell? ⟨R, 1, none⟩ = some (.slice va L.length vc) := (HN3.out.below HB4.out).c1
      go_simp
      refine hK.out _ _ ?_ (fun hHeld => ?_)
      · exact (HSF.out _ HB4.out)
      clear hK K
      try simp only [Act.put, List.setIfInBounds_toArray, List.set_cons_zero, List.set_cons_succ]
      refine wpAnyH_ready (rs := [12]) (by kernel_rfl) (by simp) ?_
      refine AllReadyH.cons (o := ⟨some 33, _, _, _, _, _⟩) rfl (fun K hK => ?_) AllReadyH.nil
      go_simp
      refine hK.out _ _ ?_ (fun hHeld => ?_)
      · exact (HSF.out _ (below_trans HB4.out (below_alloc _ _)))
      clear hK K
      try simp only [Act.put, List.setIfInBounds_toArray, List.set_cons_zero, List.set_cons_succ]
      refine wpAnyH_ready (rs := [13]) (by kernel_rfl) (by simp) ?_
      refine AllReadyH.cons (o := ⟨some 34, _, _, _, _, _⟩) rfl (fun K hK => ?_) AllReadyH.nil
      have HEn : Hid (Eo w4 ⟨nx, m, .slice ya yn yc, .slice za zn zc, .slice ua un uc, w3.heap.size, w4.heap.size⟩) := ⟨HMO.out, HK.out, Nat.le_refl _⟩
      have hN4 := HN3.out.below (below_trans HB4.out (below_alloc w4 (Obj.cells #[.int .i64 nx, .int .i64 m.K, .int .i64 m.F, .int .i64 m.T, .int .i64 m.B, .int .i64 m.A, .int .i64 m.C, .slice ya yn yc, .slice za zn zc, .slice ua un uc] 55)))
      refine step_app_fl rfl (.tmp 25) (.tmp 33) rfl (.slice va L.length vc) L.length (flatF L) (by simp [Act.eval]) hN4.fr.own w4.heap.size ⟨nx, m, .slice ya yn yc, .slice za zn zc, .slice ua un uc, w3.heap.size, w4.heap.size⟩ (by simp [Act.eval]) (@cells_lit w4 ⟨nx, m, .slice ya yn yc, .slice za zn zc, .slice ua un uc, w3.heap.size, w4.heap.size⟩ 55) (cellsE_one HEn.out) (by have := HLT.out; have := HN3.out.room; omega) (by have h1 := HN3.out.lo; have h2 := HB4.out.size; rw [size_allocC]; omega) ?_
      intro v6 w6 hown hgrow hat
      have HJ : Hid _ := Rt.join HN3.out HLT.out HK.out HS.out HB4.out HMO.out hown hgrow hat
      have hc6 : Ch (fun y => (Value.slice va L.length vc).ownBlock = some y) (w4.alloc (Obj.cells #[.int .i64 nx, .int .i64 m.K, .int .i64 m.F, .int .i64 m.T, .int .i64 m.B, .int .i64 m.A, .int .i64 m.C, .slice ya yn yc, .slice za zn zc, .slice ua un uc] 55)) w6 := Ch.of_grown hgrow (fun y hy => hy)
      have HR6 : Hid (w6.cell? ⟨R, 1, none⟩ = some (.slice va L.length vc) ∧ w6.cell? ⟨R, 2, none⟩ = some (.int .i64 nx) ∧ ∀ j, w6.frozen? ⟨R, j, none⟩ = false) := ⟨hc6.cell hN4.c1 hN4.rv, hc6.cell hN4.c2 hN4.rv, fun j => by rw [hc6.frozen hN4.lo.2 hN4.rv]; exact hN4.z j⟩
      have HX6 : Hid _ := (HX3.out.keep (below_trans HB4.out (below_alloc w4 (Obj.cells #[.int .i64 nx, .int .i64 m.K, .int .i64 m.F, .int .i64 m.T, .int .i64 m.B, .int .i64 m.A, .int .i64 m.C, .slice ya yn yc, .slice za zn zc, .slice ua un uc] 55)))).ch hc6 (fun e => by have h1 := (HN0.out.fr.own.lt Q e).2; have h2 := HQ.out; omega)
      have HSX : Hid (w6.cell? ⟨R, 2, none⟩ = some (.int .i64 nx) ∧ w6.cell? ⟨Q, 0, none⟩ = some (.int .i64 m.K) ∧ w6.cell? ⟨Q, 1, none⟩ = some (.int .i64 m.F) ∧ w6.cell? ⟨Q, 2, none⟩ = some (.int .i64 m.T) ∧ w6.cell? ⟨Q, 3, none⟩ = some (.int .i64 m.B) ∧ w6.cell? ⟨Q, 4, none⟩ = some (.int .i64 m.A) ∧ w6.cell? ⟨Q, 5, none⟩ = some (.int .i64 m.C) ∧ w6.cell? ⟨Q, 6, none⟩ = some (.slice ea en ec) ∧ w6.cell? ⟨Q, 7, none⟩ = some (.slice qa qn qc) ∧ w6.cell? ⟨Q, 8, none⟩ = some (.slice pa pn pc)) := ⟨HR6.out.2.1, HX6.out.c0, HX6.out.c1, HX6.out.c2, HX6.out.c3, HX6.out.c4, HX6.out.c5, HX6.out.c6, HX6.out.c7, HX6.out.c8⟩
      obtain ⟨a6, c6, rfl⟩ := own_formN hown
      clear hown hgrow hat hc6 hN4
      refine hK.out _ _ ?_ (fun hHeld => ?_)
      · exact HSX.out
      clear hK K
      try simp only [Act.put, List.setIfInBounds_toArray, List.set_cons_zero, List.set_cons_succ]
      refine wpAnyH_take (i := 14) (oi := ⟨some 35, _, _, _, _, _⟩) (v := ?_) rfl (by kernel_rfl) (by kernel_rfl) (by kernel_rfl) (fun _ _ _ h => h) (Or.inl ⟨by rfl, ?_⟩) hHeld ?_
      rotate_left
      · intro w hSw; (try dsimp only at hSw); go_simp; all_goals (with_reducible rfl)
      try simp only [Act.put, List.setIfInBounds_toArray, List.set_cons_zero, List.set_cons_succ]
      refine wpAnyH_take (i := 15) (oi := ⟨some 36, _, _, _, _, _⟩) (v := ?_) rfl (by kernel_rfl) (by kernel_rfl) (by kernel_rfl) (fun _ _ _ h => h) (Or.inl ⟨by rfl, ?_⟩) hHeld ?_
      rotate_left
      · intro w hSw; (try dsimp only at hSw); go_simp; all_goals (with_reducible rfl)
      try simp only [Act.put, List.setIfInBounds_toArray, List.set_cons_zero, List.set_cons_succ]
      refine wpAnyH_ready (rs := [16]) (by kernel_rfl) (by simp) ?_
      refine AllReadyH.cons (o := ⟨none, _, _, _, _, _⟩) rfl (fun K hK => ?_) AllReadyH.nil
      have c1 := HR6.out.1
      have z1 := HR6.out.2.2 1
      go_simp
      have HSY : Hid ((w6.setCell ⟨R, 1, none⟩ (.slice a6 (L.length + 1) c6)).cell? ⟨R, 2, none⟩ = some (.int .i64 nx) ∧ (w6.setCell ⟨R, 1, none⟩ (.slice a6 (L.length + 1) c6)).cell? ⟨Q, 0, none⟩ = some (.int .i64 m.K) ∧ (w6.setCell ⟨R, 1, none⟩ (.slice a6 (L.length + 1) c6)).cell? ⟨Q, 1, none⟩ = some (.int .i64 m.F) ∧ (w6.setCell ⟨R, 1, none⟩ (.slice a6 (L.length + 1) c6)).cell? ⟨Q, 2, none⟩ = some (.int .i64 m.T) ∧ (w6.setCell ⟨R, 1, none⟩ (.slice a6 (L.length + 1) c6)).cell? ⟨Q, 3, none⟩ = some (.int .i64 m.B) ∧ (w6.setCell ⟨R, 1, none⟩ (.slice a6 (L.length + 1) c6)).cell? ⟨Q, 4, none⟩ = some (.int .i64 m.A) ∧ (w6.setCell ⟨R, 1, none⟩ (.slice a6 (L.length + 1) c6)).cell? ⟨Q, 5, none⟩ = some (.int .i64 m.C) ∧ (w6.setCell ⟨R, 1, none⟩ (.slice a6 (L.length + 1) c6)).cell? ⟨Q, 6, none⟩ = some (.slice ea en ec) ∧ (w6.setCell ⟨R, 1, none⟩ (.slice a6 (L.length + 1) c6)).cell? ⟨Q, 7, none⟩ = some (.slice qa qn qc) ∧ (w6.setCell ⟨R, 1, none⟩ (.slice a6 (L.length + 1) c6)).cell? ⟨Q, 8, none⟩ = some (.slice pa pn pc)) := by
        have hx := HX6.out.ch (ch_set w6 R 1 (.slice a6 (L.length + 1) c6)) (show ¬ Q = R by have h1 := HRQ.out; have h2 := HQ.out; omega)
        refine ⟨?_, hx.c0, hx.c1, hx.c2, hx.c3, hx.c4, hx.c5, hx.c6, hx.c7, hx.c8⟩
        rw [World.cell?_setCell_other _ _ _ _ (by rintro ⟨⟩)]; exact HR6.out.2.1
      refine hK.out _ _ ?_ (fun hHeld => ?_)
      · exact HSY.out
      clear hK K
      try simp only [Act.put, List.setIfInBounds_toArray, List.set_cons_zero, List.set_cons_succ]
      refine wpAnyH_done (by kernel_rfl) ?_ _
      refine NoPanic.normal ?_
      have c2 : (w6.setCell ⟨R, 1, none⟩ (.slice a6 (L.length + 1) c6)).cell? ⟨R, 2, none⟩ = some (.int .i64 nx) := HSY.out.1
      have z2 : (w6.setCell ⟨R, 1, none⟩ (.slice a6 (L.length + 1) c6)).frozen? ⟨R, 2, none⟩ = false := by simpa [go_sem] using HR6.out.2.2 2
      have hnw : IntKind.i64.wrap ((nx : Int) + 1) = (nx : Int) + 1 := wrap_small (by omega) (by omega)
      have hnv : IntKind.i64.wrap ((nx : Int) + 1 - 1) = (nx : Int) := by rw [show (nx : Int) + 1 - 1 = (nx : Int) by omega]; exact wrap_small (by omega) (by omega)
      go_wp2_with fail
      go_ret2
      obtain ⟨j1, j2, j3⟩ := HJ.out
      have ec' : (((nx + 1 : Nat) : Int)) = (nx : Int) + 1 := by omega
      rw [ec'] at j1 j2
      refine .inr ⟨HS.out, .inr ⟨HLT.out, by go_num, _, _, rfl, HW3.out.size, j1, (Ch.of_below HW3.out).trans j2 (fun y hy => .inl hy), fun y hy => ?_⟩⟩
      rcases j3 y hy with q | q
      · exact .inl q
      · right; have := HW3.out.size; omega
    · go_simp
      refine hK.out _ _ ?_ (fun hHeld => ?_)
      · exact (HSF.out _ (below_trans HB4.out (below_alloc _ _)))
      clear hK K
      try simp only [Act.put, List.setIfInBounds_toArray, List.set_cons_zero, List.set_cons_succ]
      refine wpAnyH_ready (rs := [4]) (by kernel_rfl) (by simp) ?_
      refine AllReadyH.cons (o := ⟨some 25, _, _, _, _, _⟩) rfl (fun K hK => ?_) AllReadyH.nil
      have c1 := (HN3.out.below (below_trans HB4.out (below_alloc w4 (Obj.cells #[.int .i64 nx, .int .i64 m.K, .int .i64 m.F, .int .i64 m.T, .int .i64 m.B, .int .i64 m.A, .int .i64 m.C, .slice ya yn yc, .slice za zn zc, .slice ua un uc] 55)))).c1
      go_simp
      refine hK.out _ _ ?_ (fun hHeld => ?_)
      · exact (HSF.out _ (below_trans HB4.out (below_alloc _ _)))
      clear hK K
      try simp only [Act.put, List.setIfInBounds_toArray, List.set_cons_zero, List.set_cons_succ]
      refine wpAnyH_ready (rs := [13]) (by kernel_rfl) (by simp) ?_
      refine AllReadyH.cons (o := ⟨some 34, _, _, _, _, _⟩) rfl (fun K hK => ?_) AllReadyH.nil
      have HEn : Hid (Eo w4 ⟨nx, m, .slice ya yn yc, .slice za zn zc, .slice ua un uc, w3.heap.size, w4.heap.size⟩) := ⟨HMO.out, HK.out, Nat.le_refl _⟩
      have hN4 := HN3.out.below (below_trans HB4.out (below_alloc w4 (Obj.cells #[.int .i64 nx, .int .i64 m.K, .int .i64 m.F, .int .i64 m.T, .int .i64 m.B, .int .i64 m.A, .int .i64 m.C, .slice ya yn yc, .slice za zn zc, .slice ua un uc] 55)))
      refine step_app_fl rfl (.tmp 25) (.tmp 33) rfl (.slice va L.length vc) L.length (flatF L) (by simp [Act.eval]) hN4.fr.own w4.heap.size ⟨nx, m, .slice ya yn yc, .slice za zn zc, .slice ua un uc, w3.heap.size, w4.heap.size⟩ (by simp [Act.eval]) (@cells_lit w4 ⟨nx, m, .slice ya yn yc, .slice za zn zc, .slice ua un uc, w3.heap.size, w4.heap.size⟩ 55) (cellsE_one HEn.out) (by have := HLT.out; have := HN3.out.room; omega) (by have h1 := HN3.out.lo; have h2 := HB4.out.size; rw [size_allocC]; omega) ?_
      intro v6 w6 hown hgrow hat
      have HJ : Hid _ := Rt.join HN3.out HLT.out HK.out HS.out HB4.out HMO.out hown hgrow hat
      have hc6 : Ch (fun y => (Value.slice va L.length vc).ownBlock = some y) (w4.alloc (Obj.cells #[.int .i64 nx, .int .i64 m.K, .int .i64 m.F, .int .i64 m.T, .int .i64 m.B, .int .i64 m.A, .int .i64 m.C, .slice ya yn yc, .slice za zn zc, .slice ua un uc] 55)) w6 := Ch.of_grown hgrow (fun y hy => hy)
      have HR6 : Hid (w6.cell? ⟨R, 1, none⟩ = some (.slice va L.length vc) ∧ w6.cell? ⟨R, 2, none⟩ = some (.int .i64 nx) ∧ ∀ j, w6.frozen? ⟨R, j, none⟩ = false) := ⟨hc6.cell hN4.c1 hN4.rv, hc6.cell hN4.c2 hN4.rv, fun j => by rw [hc6.frozen hN4.lo.2 hN4.rv]; exact hN4.z j⟩
      have HX6 : Hid _ := (HX3.out.keep (below_trans HB4.out (below_alloc w4 (Obj.cells #[.int .i64 nx, .int .i64 m.K, .int .i64 m.F, .int .i64 m.T, .int .i64 m.B, .int .i64 m.A, .int .i64 m.C, .slice ya yn yc, .slice za zn zc, .slice ua un uc] 55)))).ch hc6 (fun e => by have h1 := (HN0.out.fr.own.lt Q e).2; have h2 := HQ.out; omega)
      have HSX : Hid (w6.cell? ⟨R, 2, none⟩ = some (.int .i64 nx) ∧ w6.cell? ⟨Q, 0, none⟩ = some (.int .i64 m.K) ∧ w6.cell? ⟨Q, 1, none⟩ = some (.int .i64 m.F) ∧ w6.cell? ⟨Q, 2, none⟩ = some (.int .i64 m.T) ∧ w6.cell? ⟨Q, 3, none⟩ = some (.int .i64 m.B) ∧ w6.cell? ⟨Q, 4, none⟩ = some (.int .i64 m.A) ∧ w6.cell? ⟨Q, 5, none⟩ = some (.int .i64 m.C) ∧ w6.cell? ⟨Q, 6, none⟩ = some (.slice ea en ec) ∧ w6.cell? ⟨Q, 7, none⟩ = some (.slice qa qn qc) ∧ w6.cell? ⟨Q, 8, none⟩ = some (.slice pa pn pc)) := ⟨HR6.out.2.1, HX6.out.c0, HX6.out.c1, HX6.out.c2, HX6.out.c3, HX6.out.c4, HX6.out.c5, HX6.out.c6, HX6.out.c7, HX6.out.c8⟩
      obtain ⟨a6, c6, rfl⟩ := own_formN hown
      clear hown hgrow hat hc6 hN4
      refine hK.out _ _ ?_ (fun hHeld => ?_)
      · exact HSX.out
      clear hK K
      try simp only [Act.put, List.setIfInBounds_toArray, List.set_cons_zero, List.set_cons_succ]
      refine wpAnyH_take (i := 14) (oi := ⟨some 35, _, _, _, _, _⟩) (v := ?_) rfl (by kernel_rfl) (by kernel_rfl) (by kernel_rfl) (fun _ _ _ h => h) (Or.inl ⟨by rfl, ?_⟩) hHeld ?_
      rotate_left
      · intro w hSw; (try dsimp only at hSw); go_simp; all_goals (with_reducible rfl)
      try simp only [Act.put, List.setIfInBounds_toArray, List.set_cons_zero, List.set_cons_succ]
      refine wpAnyH_take (i := 15) (oi := ⟨some 36, _, _, _, _, _⟩) (v := ?_) rfl (by kernel_rfl) (by kernel_rfl) (by kernel_rfl) (fun _ _ _ h => h) (Or.inl ⟨by rfl, ?_⟩) hHeld ?_
      rotate_left
      · intro w hSw; (try dsimp only at hSw); go_simp; all_goals (with_reducible rfl)
      try simp only [Act.put, List.setIfInBounds_toArray, List.set_cons_zero, List.set_cons_succ]
      refine wpAnyH_ready (rs := [16]) (by kernel_rfl) (by simp) ?_
      refine AllReadyH.cons (o := ⟨none, _, _, _, _, _⟩) rfl (fun K hK => ?_) AllReadyH.nil
      have c1 := HR6.out.1
      have z1 := HR6.out.2.2 1
      go_simp
      have HSY : Hid ((w6.setCell ⟨R, 1, none⟩ (.slice a6 (L.length + 1) c6)).cell? ⟨R, 2, none⟩ = some (.int .i64 nx) ∧ (w6.setCell ⟨R, 1, none⟩ (.slice a6 (L.length + 1) c6)).cell? ⟨Q, 0, none⟩ = some (.int .i64 m.K) ∧ (w6.setCell ⟨R, 1, none⟩ (.slice a6 (L.length + 1) c6)).cell? ⟨Q, 1, none⟩ = some (.int .i64 m.F) ∧ (w6.setCell ⟨R, 1, none⟩ (.slice a6 (L.length + 1) c6)).cell? ⟨Q, 2, none⟩ = some (.int .i64 m.T) ∧ (w6.setCell ⟨R, 1, none⟩ (.slice a6 (L.length + 1) c6)).cell? ⟨Q, 3, none⟩ = some (.int .i64 m.B) ∧ (w6.setCell ⟨R, 1, none⟩ (.slice a6 (L.length + 1) c6)).cell? ⟨Q, 4, none⟩ = some (.int .i64 m.A) ∧ (w6.setCell ⟨R, 1, none⟩ (.slice a6 (L.length + 1) c6)).cell? ⟨Q, 5, none⟩ = some (.int .i64 m.C) ∧ (w6.setCell ⟨R, 1, none⟩ (.slice a6 (L.length + 1) c6)).cell? ⟨Q, 6, none⟩ = some (.slice ea en ec) ∧ (w6.setCell ⟨R, 1, none⟩ (.slice a6 (L.length + 1) c6)).cell? ⟨Q, 7, none⟩ = some (.slice qa qn qc) ∧ (w6.setCell ⟨R, 1, none⟩ (.slice a6 (L.length + 1) c6)).cell? ⟨Q, 8, none⟩ = some (.slice pa pn pc)) := by
        have hx := HX6.out.ch (ch_set w6 R 1 (.slice a6 (L.length + 1) c6)) (show ¬ Q = R by have h1 := HRQ.out; have h2 := HQ.out; omega)
        refine ⟨?_, hx.c0, hx.c1, hx.c2, hx.c3, hx.c4, hx.c5, hx.c6, hx.c7, hx.c8⟩
        rw [World.cell?_setCell_other _ _ _ _ (by rintro ⟨⟩)]; exact HR6.out.2.1
      refine hK.out _ _ ?_ (fun hHeld => ?_)
      · exact HSY.out
      clear hK K
      try simp only [Act.put, List.setIfInBounds_toArray, List.set_cons_zero, List.set_cons_succ]
      refine wpAnyH_done (by kernel_rfl) ?_ _
      refine NoPanic.normal ?_
      have c2 : (w6.setCell ⟨R, 1, none⟩ (.slice a6 (L.length + 1) c6)).cell? ⟨R, 2, none⟩ = some (.int .i64 nx) := HSY.out.1
      have z2 : (w6.setCell ⟨R, 1, none⟩ (.slice a6 (L.length + 1) c6)).frozen? ⟨R, 2, none⟩ = false := by simpa [go_sem] using HR6.out.2.2 2
      have hnw : IntKind.i64.wrap ((nx : Int) + 1) = (nx : Int) + 1 := wrap_small (by omega) (by omega)
      have hnv : IntKind.i64.wrap ((nx : Int) + 1 - 1) = (nx : Int) := by rw [show (nx : Int) + 1 - 1 = (nx : Int) by omega]; exact wrap_small (by omega) (by omega)
      go_wp2_with fail
      go_ret2
      obtain ⟨j1, j2, j3⟩ := HJ.out
      have ec' : (((nx + 1 : Nat) : Int)) = (nx : Int) + 1 := by omega
      rw [ec'] at j1 j2
      refine .inr ⟨HS.out, .inr ⟨HLT.out, by go_num, _, _, rfl, HW3.out.size, j1, (Ch.of_below HW3.out).trans j2 (fun y hy => .inl hy), fun y hy => ?_⟩⟩
      rcases j3 y hy with q | q
      · exact .inl q
      · right; have := HW3.out.size; omega
end Go.Proofs.Ytokfbnpjndlccaa


