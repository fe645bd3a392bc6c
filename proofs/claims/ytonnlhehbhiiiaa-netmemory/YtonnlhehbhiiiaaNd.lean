/- Contracts of net's launch, Send. -/
import Derived.Test.YtonnlhehbhiiiaaNc

namespace Go.Proofs.Ytonnlhehbhiiiaa

open Go.RowKit



/-- A message that is sound has short lists. -/
theorem snd_len {m : Ms} (h : sndM m = true) : m.E.length ≤ 64 ∧ m.Q.length ≤ 64 ∧ m.P.length ≤ 64 := by
  unfold sndM bareB askB endB at h
  simp only [Bool.and_eq_true, Bool.or_eq_true, decide_eq_true_eq] at h
  obtain ⟨_, _, _, _, ⟨h1, h2, h3, _⟩, h4⟩ := h
  rcases fld_cases m.K with hf | hf | hf | hf | hf <;> rw [hf] at h1 h2 h3 h4 <;> simp at h1 h2 h3 h4 <;> simp [*] <;> omega
theorem own_mapB {w w' : World} {b n : Nat} {d : DataW Value} (h : w.ownsMap Try.prog 3 heldE b n d) (hb : Below w.heap.size w w') : w'.ownsMap Try.prog 3 heldE b n d := own_mapC (D := fun _ => False) h (Ch.of_below hb) (fun e => e)
/-- A new one joins. -/
theorem Nt.join {w w1 w4 w5 : World} {P b k nx : Nat} {L : List En} {m : Ms} {a c d : Value} (h : Nt w1 P b k nx L) (hw : Below w.heap.size w w1) (hl : L.length < k) (hok : m.ok) (hs : sndM m = true) (hP : P < w.heap.size) (hbl : b < w.heap.size) (hb : Below w1.heap.size w1 w4) (hmo : Mo w4 w1.heap.size w4.heap.size m a c d)
    (ho : w5.ownsMap Try.prog 3 heldE b (L.length + 1) ((dM L).put (kI nx) (.held (.agg #[.int .i64 m.K, .int .i64 m.F, .int .i64 m.T, .int .i64 m.B, .int .i64 m.A, .int .i64 m.C, a, c, d])))) (hg : w4.grownBy w5 (some b)) :
    ∃ en : En, en.n = nx ∧ en.m = m ∧ Nt (w5.setCell ⟨P, 1, none⟩ (.int .i64 ((nx + 1 : Nat) : Int))) P b k (nx + 1) (L ++ [en]) ∧ w.heap.size ≤ en.lo ∧ Ch (fun x => x = P ∨ x = b) w (w5.setCell ⟨P, 1, none⟩ (.int .i64 ((nx + 1 : Nat) : Int))) := by
  have hc45 : Ch (fun x => x = b) w4 w5 := Ch.of_grown hg (fun x hx => by cases hx; rfl)
  have hc56 : Ch (fun x => x = P) w5 (w5.setCell ⟨P, 1, none⟩ (.int .i64 ((nx + 1 : Nat) : Int))) := ch_set _ _ _ _
  have h4 := h.below hb
  have s4 : w1.heap.size ≤ w4.heap.size := hb.size
  have s1 : w.heap.size ≤ w1.heap.size := hw.size
  let en : En := ⟨nx, m, a, c, d, w1.heap.size, w4.heap.size⟩
  refine ⟨en, rfl, rfl, ?_, s1, ?_⟩
  · have hb5 : Ch (fun x => x = b ∨ x = P) w4 (w5.setCell ⟨P, 1, none⟩ (.int .i64 ((nx + 1 : Nat) : Int))) := (hc45.mono (fun x e => .inl e)).trans hc56 (fun x e => .inl (.inr e))
    have c1' : w5.cell? ⟨P, 1, none⟩ = some (.int .i64 nx) := hc45.cell h4.c1 h.pb
    refine ⟨?_, by simp [go_sem, c1'], ?_, fun j => ?_, ?_, ?_, ?_, ?_, ?_, ?_, ?_, h.room, h.pb⟩
    · rw [World.cell?_setCell_other _ _ _ _ (by rintro ⟨⟩)]; exact hc45.cell h4.c0 h.pb
    · rw [World.cell?_setCell_other _ _ _ _ (by rintro ⟨⟩)]; exact hc45.cell h4.c2 h.pb
    · have := hc45.frozen (j := j) h4.ltP h.pb
      simpa [go_sem, this] using h4.z j
    · have e : (dM L).put (kI nx) (.held (.agg #[.int .i64 m.K, .int .i64 m.F, .int .i64 m.T, .int .i64 m.B, .int .i64 m.A, .int .i64 m.C, a, c, d])) = dM (L ++ [en]) := put_M (x := en) h.lt
      rw [e] at ho
      have ho' := own_mapC ho hc56 (show ¬ b = P from fun e => h.pb e.symm)
      exact own_tight ho'
    · refine List.pairwise_append.2 ⟨h.rise, List.pairwise_singleton _ _, fun x hx y hy => ?_⟩
      rw [List.mem_singleton] at hy
      subst hy
      exact ⟨h.lt x hx, (h.ent x hx).hi⟩
    · intro x hx
      rcases List.mem_append.1 hx with hx | hx
      · have := h.lt x hx; omega
      · rw [List.mem_singleton] at hx; subst hx; show nx < nx + 1; omega
    · intro x hx
      rcases List.mem_append.1 hx with hx | hx
      · exact h.snd x hx
      · rw [List.mem_singleton] at hx; subst hx; exact hs
    · intro x hx
      rcases List.mem_append.1 hx with hx | hx
      · refine (h4.ent x hx).ch hb5 (fun y h1 h2 e => ?_)
        have := h.off x hx
        rcases e with e | e <;> omega
      · rw [List.mem_singleton] at hx
        subst hx
        refine ⟨hmo.ch hb5 (fun y h1 h2 e => ?_), hok, hb5.size⟩
        have h1' : w1.heap.size ≤ y := h1
        rcases e with e | e <;> omega
    · intro x hx
      rcases List.mem_append.1 hx with hx | hx
      · exact h.off x hx
      · rw [List.mem_singleton] at hx; subst hx; show P < w1.heap.size ∧ b < w1.heap.size; omega
    · simp; omega
  · have h14 : Ch (fun x => x = P ∨ x = b) w w4 := Ch.of_below (hw.trans (hb.mono s1))
    exact (h14.trans hc45 (fun x e => .inl (.inr e))).trans hc56 (fun x e => .inl (.inl e))


/-- What launch leaves. -/
def LaGot (w : World) (P b k nx : Nat) (L : List En) (m : Ms) (e : Ending) (w' : World) : Prop :=
  (k ≤ L.length ∧ e = .returned (.tuple #[.int .i64 0, .int .i64 160]) ∧ Below w.heap.size w w') ∨
  (L.length < k ∧ e = .returned (.tuple #[.int .i64 nx, .int .i64 0]) ∧ ∃ en : En, en.n = nx ∧ en.m = m ∧ Nt w' P b k (nx + 1) (L ++ [en]) ∧ w.heap.size ≤ en.lo ∧ Ch (fun x => x = P ∨ x = b) w w')


set_option maxRecDepth 100000 in
set_option maxHeartbeats 4000000 in
theorem launch_walk {w : World} {P b k nx : Nat} {L : List En} {m : Ms} {ev qv pv : Value} (hn : Nt w P b k nx L) (h : ML w m ev qv pv) (hok : m.ok) (hs : sndM m = true) (hnx : nx < 9223372036854775800) :
    Calls Try.prog 31 #[.pointer (some ⟨P, 0, none⟩), .agg #[.int .i64 m.K, .int .i64 m.F, .int .i64 m.T, .int .i64 m.B, .int .i64 m.A, .int .i64 m.C, ev, qv, pv]] w (LaGot w P b k nx L m) := by
  have HL : Hid (ML w m ev qv pv) := h
  have HK : Hid (m.ok) := hok
  have HS : Hid (sndM m = true) := hs
  have HLN : Hid _ := snd_len hs
  obtain ⟨ea, en, ec, rfl, he, hem⟩ := sv_le h.e
  obtain ⟨qa, qn, qc, rfl, hq, hqm⟩ := sv_le h.q
  obtain ⟨pa, pn, pc, rfl, hp, hpm⟩ := qv_le h.p
  clear h hok hs he hq hp hem hqm hpm
  have HX0 := mx_new w m (.slice ea en ec) (.slice qa qn qc) (.slice pa pn pc)
  have HB0 := below_alloc w (Obj.cells #[.int .i64 m.K, .int .i64 m.F, .int .i64 m.T, .int .i64 m.B, .int .i64 m.A, .int .i64 m.C, .slice ea en ec, .slice qa qn qc, .slice pa pn pc] 35)
  have HN0 : Hid (Nt w P b k nx L) := hn
  clear hn
  have hk0 : (k : Int) ≤ 4096 := by have := HN0.out.room; omega
  have hll : (L.length : Int) ≤ 4096 := by have := HN0.out.room; have := HN0.out.len; omega
  go_enter Try.func31, Try.ntmps31
  go_upto_region 1 with fail
  obtain ⟨Q, hQ⟩ : ∃ Q, Q = w.heap.size := ⟨_, rfl⟩
  have HQ : Hid (Q = w.heap.size) := hQ
  rw [← hQ] at HX0 ⊢
  clear hQ
  have HN : Hid (Nt _ P b k nx L) := HN0.out.below HB0
  have HX : Hid _ := HX0
  have HB : Hid _ := HB0
  clear HX0 HB0
  generalize w.alloc (Obj.cells #[.int .i64 m.K, .int .i64 m.F, .int .i64 m.T, .int .i64 m.B, .int .i64 m.A, .int .i64 m.C, .slice ea en ec, .slice qa qn qc, .slice pa pn pc] 35) = w1 at HX HB HN ⊢
  have HV : Hid _ := HL.out.below HB.out
  have p0 := HN.out.c0
  have p2 := HN.out.c2
  have hln : ∀ n, (Builtin.len_ #[63] 3 #[.map (some b)]).run Try.prog (w1.drewN n) = .ok (.int .i64 L.length) (w1.drewN n) := fun n => map_len (own_mapB HN.out.own (below_drewN w1 n)) 3
  by_cases hle : k ≤ L.length
  · have hge : (k : Int) ≤ (L.length : Int) := by omega
    go_quiet (fail)
    go_wp2_with fail
    go_ret2
    exact .inl ⟨hle, rfl, below_trans HB.out (below_drewN _ _)⟩
  have hge : ¬ (k : Int) ≤ (L.length : Int) := by omega
  have p1 := HN.out.c1
  go_quiet (fail)
  go_upto_region 4 with fail
  generalize hw2 : w1.drewN nq = w2
  have HB2 : Hid (Below w1.heap.size w1 w2) := by rw [← hw2]; exact below_drewN w1 nq
  clear hw2 p0 p1 p2 hln
  have HN2 : Hid _ := HN.out.below HB2.out
  have HX2 : Hid _ := HX.out.keep HB2.out
  have HV2 : Hid _ := HV.out.below HB2.out
  have HWW : Hid (Below w.heap.size w w2) := below_trans HB.out HB2.out
  have HPL : Hid (P < w.heap.size ∧ b < w.heap.size) := ⟨HN0.out.ltP, HN0.out.ltb⟩
  have HLT : Hid (L.length < k) := by show _ < _; omega
  clear HN HX HV HB HB2 HN0 hle hge
  have HSF : Hid (∀ wx, Below w2.heap.size w2 wx → wx.cell? ⟨P, 2, none⟩ = some (.map (some b)) ∧ wx.cell? ⟨Q, 0, none⟩ = some (.int .i64 m.K) ∧ wx.cell? ⟨Q, 1, none⟩ = some (.int .i64 m.F) ∧ wx.cell? ⟨Q, 2, none⟩ = some (.int .i64 m.T) ∧ wx.cell? ⟨Q, 3, none⟩ = some (.int .i64 m.B) ∧ wx.cell? ⟨Q, 4, none⟩ = some (.int .i64 m.A) ∧ wx.cell? ⟨Q, 5, none⟩ = some (.int .i64 m.C) ∧ wx.cell? ⟨Q, 6, none⟩ = some (.slice ea en ec) ∧ wx.cell? ⟨Q, 7, none⟩ = some (.slice qa qn qc) ∧ wx.cell? ⟨Q, 8, none⟩ = some (.slice pa pn pc)) := fun wx h => by
    have hx := HX2.out.keep h
    exact ⟨(HN2.out.below h).c2, hx.c0, hx.c1, hx.c2, hx.c3, hx.c4, hx.c5, hx.c6, hx.c7, hx.c8⟩
  have HSG : Hid (∀ wy wx, Below w2.heap.size w2 wy → wy.grownBy wx (some b) → wx.cell? ⟨P, 2, none⟩ = some (.map (some b)) ∧ wx.cell? ⟨Q, 0, none⟩ = some (.int .i64 m.K) ∧ wx.cell? ⟨Q, 1, none⟩ = some (.int .i64 m.F) ∧ wx.cell? ⟨Q, 2, none⟩ = some (.int .i64 m.T) ∧ wx.cell? ⟨Q, 3, none⟩ = some (.int .i64 m.B) ∧ wx.cell? ⟨Q, 4, none⟩ = some (.int .i64 m.A) ∧ wx.cell? ⟨Q, 5, none⟩ = some (.int .i64 m.C) ∧ wx.cell? ⟨Q, 6, none⟩ = some (.slice ea en ec) ∧ wx.cell? ⟨Q, 7, none⟩ = some (.slice qa qn qc) ∧ wx.cell? ⟨Q, 8, none⟩ = some (.slice pa pn pc)) := fun wy wx h hg => by
    have hc : Ch (fun x => x = b) wy wx := Ch.of_grown hg (fun x hx => by cases hx; rfl)
    have hx := (HX2.out.keep h).ch hc (show ¬ Q = b by have := HPL.out.2; have := HQ.out; omega)
    exact ⟨hc.cell (HN2.out.below h).c2 HN2.out.pb, hx.c0, hx.c1, hx.c2, hx.c3, hx.c4, hx.c5, hx.c6, hx.c7, hx.c8⟩
  refine wp_region_noPanic ?_
  refine wp_region_held_drew (S := fun wx => wx.cell? ⟨P, 2, none⟩ = some (.map (some b)) ∧ wx.cell? ⟨Q, 0, none⟩ = some (.int .i64 m.K) ∧ wx.cell? ⟨Q, 1, none⟩ = some (.int .i64 m.F) ∧ wx.cell? ⟨Q, 2, none⟩ = some (.int .i64 m.T) ∧ wx.cell? ⟨Q, 3, none⟩ = some (.int .i64 m.B) ∧ wx.cell? ⟨Q, 4, none⟩ = some (.int .i64 m.A) ∧ wx.cell? ⟨Q, 5, none⟩ = some (.int .i64 m.C) ∧ wx.cell? ⟨Q, 6, none⟩ = some (.slice ea en ec) ∧ wx.cell? ⟨Q, 7, none⟩ = some (.slice qa qn qc) ∧ wx.cell? ⟨Q, 8, none⟩ = some (.slice pa pn pc)) (by kernel_rfl) ?_ (fun hHeld => ?_)
  · exact HSF.out _ (below_drewN w2 1)
  refine wpAnyH_take (i := 0) (oi := ⟨some 21, _, _, _, _, _⟩) (v := ?_) rfl (by kernel_rfl) (by kernel_rfl) (by kernel_rfl) (fun _ _ _ h => h) (Or.inl ⟨by rfl, ?_⟩) hHeld ?_
  rotate_left
  · intro w hSw; (try dsimp only at hSw); go_simp; all_goals (with_reducible rfl)
  try simp only [Act.put, List.setIfInBounds_toArray, List.set_cons_zero, List.set_cons_succ]
  refine wpAnyH_take (i := 1) (oi := ⟨some 22, _, _, _, _, _⟩) (v := ?_) rfl (by kernel_rfl) (by kernel_rfl) (by kernel_rfl) (fun _ _ _ h => h) (Or.inl ⟨by rfl, ?_⟩) hHeld ?_
  rotate_left
  · intro w hSw; (try dsimp only at hSw); go_simp; all_goals (with_reducible rfl)
  try simp only [Act.put, List.setIfInBounds_toArray, List.set_cons_zero, List.set_cons_succ]
  refine wpAnyH_take (i := 2) (oi := ⟨some 23, _, _, _, _, _⟩) (v := ?_) rfl (by kernel_rfl) (by kernel_rfl) (by kernel_rfl) (fun _ _ _ h => h) (Or.inl ⟨by rfl, ?_⟩) hHeld ?_
  rotate_left
  · intro w hSw; (try dsimp only at hSw); go_simp; all_goals (with_reducible rfl)
  try simp only [Act.put, List.setIfInBounds_toArray, List.set_cons_zero, List.set_cons_succ]
  refine wpAnyH_take (i := 3) (oi := ⟨some 24, _, _, _, _, _⟩) (v := ?_) rfl (by kernel_rfl) (by kernel_rfl) (by kernel_rfl) (fun _ _ _ h => h) (Or.inl ⟨by rfl, ?_⟩) hHeld ?_
  rotate_left
  · intro w hSw; (try dsimp only at hSw); go_simp; all_goals (with_reducible rfl)
  try simp only [Act.put, List.setIfInBounds_toArray, List.set_cons_zero, List.set_cons_succ]
  refine wpAnyH_take (i := 4) (oi := ⟨some 25, _, _, _, _, _⟩) (v := ?_) rfl (by kernel_rfl) (by kernel_rfl) (by kernel_rfl) (fun _ _ _ h => h) (Or.inl ⟨by rfl, ?_⟩) hHeld ?_
  rotate_left
  · intro w hSw; (try dsimp only at hSw); go_simp; all_goals (with_reducible rfl)
  try simp only [Act.put, List.setIfInBounds_toArray, List.set_cons_zero, List.set_cons_succ]
  refine wpAnyH_take (i := 5) (oi := ⟨some 26, _, _, _, _, _⟩) (v := ?_) rfl (by kernel_rfl) (by kernel_rfl) (by kernel_rfl) (fun _ _ _ h => h) (Or.inl ⟨by rfl, ?_⟩) hHeld ?_
  rotate_left
  · intro w hSw; (try dsimp only at hSw); go_simp; all_goals (with_reducible rfl)
  try simp only [Act.put, List.setIfInBounds_toArray, List.set_cons_zero, List.set_cons_succ]
  refine wpAnyH_ready (rs := [6]) (by kernel_rfl) (by simp) ?_
  refine AllReadyH.cons (o := ⟨some 27, _, _, _, _, _⟩) rfl (fun K hK => ?_) AllReadyH.nil
  go_simp
  refine (clone_walk (HV2.out.below (below_drewN w2 1)) HK.out HLN.out.1 HLN.out.2.1 HLN.out.2.2).mono ?_
  rintro e w4 ⟨a, c, d, rfl, hmo, hb4⟩
  have HB4 : Hid (Below w2.heap.size w2 w4) := below_trans (below_drewN w2 1) hb4
  have HMO : Hid (Mo w4 w2.heap.size w4.heap.size m a c d) := hmo
  clear hmo hb4
  refine hK.out _ _ ?_ (fun hHeld => ?_)
  · exact (HSF.out _ HB4.out)
  clear hK K
  try simp only [Act.put, List.setIfInBounds_toArray, List.set_cons_zero, List.set_cons_succ]
  refine wpAnyH_ready (rs := [7]) (by kernel_rfl) (by simp) ?_
  refine AllReadyH.cons (o := ⟨none, _, _, _, _, _⟩) rfl (fun K hK => ?_) AllReadyH.nil
  obtain ⟨w5, hrun, hown5, hg5⟩ := World.ownsMap.update (own_mapB HN2.out.own HB4.out) law_i Try.underlying63 (by have := HN2.out.len; have := HN2.out.room; unfold maxLen; omega) (key_i (k := (nx : Int)) ⟨by omega, by omega⟩) (show heldE (.agg #[.int .i64 m.K, .int .i64 m.F, .int .i64 m.T, .int .i64 m.B, .int .i64 m.A, .int .i64 m.C, a, c, d]) = some (.held _, []) from rfl)
  go_simp
  refine hK.out _ _ ?_ (fun hHeld => ?_)
  · exact (HSG.out w4 w5 HB4.out hg5)
  clear hK K
  try simp only [Act.put, List.setIfInBounds_toArray, List.set_cons_zero, List.set_cons_succ]
  refine wpAnyH_done (by kernel_rfl) ?_ _
  refine NoPanic.normal ?_
  have h5 : w5.cell? ⟨P, 1, none⟩ = some (.int .i64 nx) := (show Ch (fun x => x = b) w4 w5 from Ch.of_grown hg5 (fun x hx => by cases hx; rfl)).cell (HN2.out.below HB4.out).c1 HN2.out.pb
  have z5 : ∀ j, w5.frozen? ⟨P, j, none⟩ = false := fun j => by rw [(show Ch (fun x => x = b) w4 w5 from Ch.of_grown hg5 (fun x hx => by cases hx; rfl)).frozen (HN2.out.below HB4.out).ltP HN2.out.pb]; exact (HN2.out.below HB4.out).z j
  have z51 := z5 1
  have hJ : Hid _ := Nt.join HN2.out HWW.out HLT.out HK.out HS.out HPL.out.1 HPL.out.2 HB4.out HMO.out hown5 hg5
  have hnw : IntKind.i64.wrap ((nx : Int) + 1) = (nx : Int) + 1 := wrap_small (by omega) (by omega)
  clear hrun hown5 hg5 z5
  go_wp2_with fail
  go_ret2
  obtain ⟨en2, j1, j2, j3, j4, j5⟩ := hJ.out
  have ec : (((nx + 1 : Nat) : Int)) = (nx : Int) + 1 := by omega
  rw [ec] at j3 j5
  exact .inr ⟨HLT.out, rfl, en2, j1, j2, j3, j4, j5⟩


/-- What Send leaves. -/
def SeGot (w : World) (P b k nx : Nat) (L : List En) (m : Ms) (e : Ending) (w' : World) : Prop :=
  (sndM m = false ∧ e = .returned (.tuple #[.int .i64 0, .int .i64 150]) ∧ Below w.heap.size w w') ∨ (sndM m = true ∧ LaGot w P b k nx L m e w')
set_option maxRecDepth 100000 in
set_option maxHeartbeats 4000000 in
theorem send_walk {w : World} {P b k nx : Nat} {L : List En} {m : Ms} {ev qv pv : Value} (hn : Nt w P b k nx L) (h : ML w m ev qv pv) (hok : m.ok) (hnx : nx < 9223372036854775800) :
    Calls Try.prog 16 #[.pointer (some ⟨P, 0, none⟩), .agg #[.int .i64 m.K, .int .i64 m.F, .int .i64 m.T, .int .i64 m.B, .int .i64 m.A, .int .i64 m.C, ev, qv, pv]] w (SeGot w P b k nx L m) := by
  have HL : Hid (ML w m ev qv pv) := h
  have HK : Hid (m.ok) := hok
  obtain ⟨ea, en, ec, rfl, he, hem⟩ := sv_le h.e
  obtain ⟨qa, qn, qc, rfl, hq, hqm⟩ := sv_le h.q
  obtain ⟨pa, pn, pc, rfl, hp, hpm⟩ := qv_le h.p
  clear h hok he hq hp hem hqm hpm
  have HX0 := mx_new w m (.slice ea en ec) (.slice qa qn qc) (.slice pa pn pc)
  have HB0 := below_alloc w (Obj.cells #[.int .i64 m.K, .int .i64 m.F, .int .i64 m.T, .int .i64 m.B, .int .i64 m.A, .int .i64 m.C, .slice ea en ec, .slice qa qn qc, .slice pa pn pc] 35)
  have HN : Hid (Nt w P b k nx L) := hn
  clear hn
  go_enter Try.func16, Try.ntmps16
  go_upto_region 1 with fail
  have HX : Hid _ := HX0
  have HB : Hid _ := HB0
  clear HX0 HB0
  obtain ⟨Q, hQ⟩ : ∃ Q, Q = w.heap.size := ⟨_, rfl⟩
  rw [← hQ] at HX ⊢
  clear hQ
  generalize w.alloc (Obj.cells #[.int .i64 m.K, .int .i64 m.F, .int .i64 m.T, .int .i64 m.B, .int .i64 m.A, .int .i64 m.C, .slice ea en ec, .slice qa qn qc, .slice pa pn pc] 35) = w1 at HX HB ⊢
  have x0 := HX.out.c0
  have x1 := HX.out.c1
  have x2 := HX.out.c2
  have x3 := HX.out.c3
  have x4 := HX.out.c4
  have x5 := HX.out.c5
  have x6 := HX.out.c6
  have x7 := HX.out.c7
  have x8 := HX.out.c8
  go_upto_region 3 with fail
  go_wp2_with fail
  refine (sound_walk (HL.out.below HB.out)).mono ?_
  rintro e w2 ⟨rfl, hb2⟩
  have HB2 : Hid (Below w.heap.size w w2) := below_trans HB.out hb2
  have HX2 : Hid _ := HX.out.keep hb2
  clear hb2 x0 x1 x2 x3 x4 x5 x6 x7 x8
  cases hs : sndM m
  · go_wp2_with fail
    go_ret2
    exact .inl ⟨hs, rfl, HB2.out⟩
  have x0 := HX2.out.c0
  have x1 := HX2.out.c1
  have x2 := HX2.out.c2
  have x3 := HX2.out.c3
  have x4 := HX2.out.c4
  have x5 := HX2.out.c5
  have x6 := HX2.out.c6
  have x7 := HX2.out.c7
  have x8 := HX2.out.c8
  go_wp2_with fail
  refine (launch_walk (HN.out.below HB2.out) (HL.out.below HB2.out) HK.out hs hnx).mono ?_
  rintro e w3 h3
  have HS : Hid (sndM m = true) := hs
  clear hs
  rcases h3 with ⟨h1, rfl, h3⟩ | ⟨h1, rfl, h3⟩
  · have H3 : Hid _ := h3
    clear h3
    go_wp2_with fail
    go_ret2
    exact .inr ⟨HS.out, .inl ⟨h1, rfl, below_trans HB2.out H3.out⟩⟩
  · have H3 : Hid _ := h3
    clear h3
    go_wp2_with fail
    go_ret2
    obtain ⟨en2, j1, j2, j3, j4, j5⟩ := H3.out
    exact .inr ⟨HS.out, .inr ⟨h1, rfl, en2, j1, j2, j3, Nat.le_trans HB2.out.size j4, (Ch.of_below HB2.out).trans j5 (fun x hx => .inl hx)⟩⟩
set_option maxRecDepth 100000 in
theorem send_nil {m : Ms} {ev qv pv : Value} (w : World) : Calls Try.prog 16 #[.pointer none, .agg #[.int .i64 m.K, .int .i64 m.F, .int .i64 m.T, .int .i64 m.B, .int .i64 m.A, .int .i64 m.C, ev, qv, pv]] w fun e w' => e = .returned (.tuple #[.int .i64 0, .int .i64 2]) ∧ Below w.heap.size w w' := by
  go_enter Try.func16, Try.ntmps16
  go_wp2_with fail
  go_ret2
  exact ⟨rfl, below_alloc _ _⟩
theorem next_walk {w : World} {P b k nx : Nat} {L : List En} (hn : Nt w P b k nx L) : Calls Try.prog 14 #[.pointer (some ⟨P, 0, none⟩)] w fun e w' => e = .returned (.int .i64 nx) ∧ w' = w := by
  have p1 := hn.c1
  clear hn
  go_enter Try.func14, Try.ntmps14
  go_wp2_with fail
  go_ret
  exact ⟨rfl, rfl⟩
theorem next_nil (w : World) : Calls Try.prog 14 #[.pointer none] w fun e w' => e = .returned (.int .i64 0) ∧ w' = w := by
  go_enter Try.func14, Try.ntmps14
  go_wp2_with fail
  go_ret
  exact ⟨rfl, rfl⟩
theorem new_bad {x : Int} (hx : x < 0 ∨ 4096 < x) (w : World) : Calls Try.prog 8 #[.int .i64 x] w fun e w' => e = .returned (.tuple #[.pointer none, .int .i64 1]) ∧ w' = w := by
  by_cases h1 : x < 0
  · go_enter Try.func8, Try.ntmps8
    go_wp2_with fail
    go_ret2
    exact ⟨rfl, rfl⟩
  · have h2 : (4096 : Int) < x := by omega
    go_enter Try.func8, Try.ntmps8
    go_wp2_with fail
    go_ret2
    exact ⟨rfl, rfl⟩
/-- What New leaves. -/
def NwGot (w : World) (k : Nat) (e : Ending) (w' : World) : Prop := ∃ P b, e = .returned (.tuple #[.pointer (some ⟨P, 0, none⟩), .int .i64 0]) ∧ Nt w' P b k 0 [] ∧ w.heap.size ≤ P ∧ w.heap.size ≤ b ∧ Below w.heap.size w w'
theorem new_walk {k : Nat} (hk : k ≤ 4096) (w : World) : Calls Try.prog 8 #[.int .i64 (k : Int)] w (NwGot w k) := by
  have h1 : ¬ (k : Int) < 0 := by omega
  have h2 : ¬ (4096 : Int) < (k : Int) := by omega
  have HK : Hid (k ≤ 4096) := hk
  go_enter Try.func8, Try.ntmps8
  have hmm := @run_makeMap Try.prog
  go_wp2_with fail
  go_ret2
  refine ⟨w.heap.size + 1, w.heap.size, rfl, ?_, Nat.le_succ _, Nat.le_refl _, below_trans (below_alloc _ _) (below_alloc _ _)⟩
  have s1 : (w.alloc (.map #[] 0)).heap.size = w.heap.size + 1 := size_allocC _ _
  refine ⟨?_, ?_, ?_, fun j => ?_, ?_, List.Pairwise.nil, by simp, by simp, by simp, by simp, by simp, HK.out, by omega⟩
  · rw [← s1]; simp [go_sem]
  · rw [← s1]; simp [go_sem]
  · rw [← s1]; simp [go_sem]
  · rw [← s1]; simp [go_sem]
  · exact (World.ownsMap_made w Try.prog 3 heldE).alloc _
end Go.Proofs.Ytonnlhehbhiiiaa


