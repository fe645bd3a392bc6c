/- ready: a try's worker tells where it ends. -/
import Derived.Test.YtpndafieknddcaaCk
namespace Go.Proofs.Ytpndafieknddcaa

open Ieee Go.RowKit

theorem fl3 {u : World} {F1 F2 F3 : Value} {p1 p2 p3 : Yt → Bool} {t : TypeId} (h1 : Pk u F1 p1) (h2 : Pk u F2 p2) (h3 : Pk u F3 p3) : Fl (u.alloc (.cells #[F1, F2, F3] t)) (.slice (some ⟨u.heap.size, 0, none⟩) 3 3) [p1, p2, p3] := by
  have hb := below_alloc u (.cells #[F1, F2, F3] t)
  refine ⟨some ⟨u.heap.size, 0, none⟩, 3, rfl, Nat.le_refl _, by simp [maxLen], fun i hi => ⟨u.heap.size, 0, rfl, by simp, ?_⟩⟩
  have hc : i = 0 ∨ i = 1 ∨ i = 2 := by simp at hi; omega
  rcases hc with rfl | rfl | rfl
  · exact ⟨F1, by simp [go_sem], h1.below hb⟩
  · exact ⟨F2, by simp [go_sem], h2.below hb⟩
  · exact ⟨F3, by simp [go_sem], h3.below hb⟩
def yD : Yt := ⟨0, 0, 0, 0, 0, [], []⟩
def rdyF (c : Cs) (m : Ms) : Yt → Bool := allB [saidB m.B m.A m.F, inPh [1], rchB m.E c.p.B]
def rdyI (c : Cs) (m : Ms) : Int := idxY (rdyF c m) c.L 0
def rdyY (y : Yt) (l : List Int) : Yt := { y with e := l, h := 2, t := 0 }
def rdyS (c : Cs) (m : Ms) : List Yt := c.L.set (rdyI c m).toNat (rdyY (c.L.getD (rdyI c m).toNat yD) m.E)
def rdyL (c : Cs) (m : Ms) : List Yt := if rdyI c m < 0 then c.L else if (c.L.getD (rdyI c m).toNat yD).f = m.E then c.L.take (rdyI c m).toNat else advL (rdyS c m)
def rdyM (c : Cs) (m : Ms) : Option Ms := if rdyI c m < 0 then none else if (c.L.getD (rdyI c m).toNat yD).f = m.E then none else advM (rdyS c m)
section

variable {wz w w' w2 : World} {A E C : Nat → Prop} {sb cb jb : Nat} {c : Cs} {p : Pn} {q : Int} {J : Jn} {S : Dk} {F dv jv tv : Value} {f : Yt → Bool} {V : List Ye} {o : Bool} {m : Ms} {ev qv pv : Value}

/-- A try's end is written. -/
theorem rdy_set {w3 w4 : World} {g cap i : Nat} {l : List Int} {ev4 : Value} (hok : c.ok) (h1 : ∀ x, C x → wz.heap.size ≤ x ∧ ¬ A x) (hAl : ∀ x, A x → x < w3.heap.size) (h2 : Lw wz (fun x => A x ∨ C x) sb jb c.p.P c.J c.S w3) (h3 : CM C w3 cb (Pt sb) (Pt jb) c.p (.slice (some ⟨g, 0, none⟩) V.length cap) V c.o) (h4 : V.map Ye.y = c.L) (hi : i < V.length) (hb : Below w3.heap.size w3 w4) (ho : OwN w3.heap.size w4 ev4 l) (hl : ∀ v ∈ l, 0 ≤ v ∧ v ≤ 256) (hl4 : l.length ≤ 4) :
    CW wz A sb cb { c with L := c.L.set i (rdyY (c.L.getD i yD) l) } (((w4.setCell ⟨g, i * 7 + 6, none⟩ ev4).setCell ⟨g, i * 7 + 3, none⟩ (.int .i64 2)).setCell ⟨g, i * 7 + 4, none⟩ (.int .i64 0)) ∧ ChA wz A w3 (((w4.setCell ⟨g, i * 7 + 6, none⟩ ev4).setCell ⟨g, i * 7 + 3, none⟩ (.int .i64 2)).setCell ⟨g, i * 7 + 4, none⟩ (.int .i64 0)) := by
  have hm4 : CM (fun b => C b ∨ (w3.heap.size ≤ b ∧ b < w4.heap.size)) w4 cb (Pt sb) (Pt jb) c.p (.slice (some ⟨g, 0, none⟩) V.length cap) V c.o := (h3.below hb).mono (fun b hb' => .inl hb') (fun b hb' => hb'.elim (fun h => (h3.below hb).kl b h) (fun h => h.2))
  have hyo := hm4.ls V[i] (List.getElem_mem hi)
  have hE : OwN 0 w4 ev4 l := own_base ho (Nat.zero_le _)
  have hkE : ∀ b, ev4.ownBlock = some b → C b ∨ (w3.heap.size ≤ b ∧ b < w4.heap.size) := fun b hb' => .inr (ho.lt b hb')
  have m1 := hm4.rowS (i := i) (j := 6) hi (by omega) (u := ev4) (x' := { V[i] with ev := ev4, y := { V[i].y with e := l } }) rfl ⟨hyo.f, hE, hyo.kf, hkE, ⟨hyo.ok.fm, hl, hyo.ok.fl, hl4, hyo.ok.t0, hyo.ok.t1⟩⟩
  have l1 : (V.set i { V[i] with ev := ev4, y := { V[i].y with e := l } }).length = V.length := List.length_set
  rw [← l1] at m1
  have y1 := m1.ls { V[i] with ev := ev4, y := { V[i].y with e := l } } (List.mem_set hi _)
  have m2 := m1.rowS (i := i) (j := 3) (by rw [l1]; exact hi) (by omega) (u := .int .i64 2) (x' := { V[i] with ev := ev4, y := { V[i].y with e := l, h := 2 } }) (by rw [List.getElem_set_self]; rfl) ⟨y1.f, y1.e, y1.kf, y1.ke, ⟨y1.ok.fm, y1.ok.em, y1.ok.fl, y1.ok.el, y1.ok.t0, y1.ok.t1⟩⟩
  rw [List.set_set] at m2
  have l2 : (V.set i { V[i] with ev := ev4, y := { V[i].y with e := l, h := 2 } }).length = V.length := List.length_set
  rw [l1, ← l2] at m2
  have y2 := m2.ls { V[i] with ev := ev4, y := { V[i].y with e := l, h := 2 } } (List.mem_set hi _)
  have m3 := m2.rowS (i := i) (j := 4) (by rw [l2]; exact hi) (by omega) (u := .int .i64 0) (x' := { V[i] with ev := ev4, y := { V[i].y with e := l, h := 2, t := 0 } }) (by rw [List.getElem_set_self]; rfl) ⟨y2.f, y2.e, y2.kf, y2.ke, ⟨y2.ok.fm, y2.ok.em, y2.ok.fl, y2.ok.el, by show (0 : Int) ≤ 0; omega, by show (0 : Int) < _; omega⟩⟩
  rw [List.set_set] at m3
  have hgC : C g := (h3.kr g rfl).1
  have hch : Ch (fun b => b = g) w4 (((w4.setCell ⟨g, i * 7 + 6, none⟩ ev4).setCell ⟨g, i * 7 + 3, none⟩ (.int .i64 2)).setCell ⟨g, i * 7 + 4, none⟩ (.int .i64 0)) := ((ch_set _ _ _ _).self (ch_set _ _ _ _)).self (ch_set _ _ _ _)
  have hch3 : Ch (fun b => b = g) w3 (((w4.setCell ⟨g, i * 7 + 6, none⟩ ev4).setCell ⟨g, i * 7 + 3, none⟩ (.int .i64 2)).setCell ⟨g, i * 7 + 4, none⟩ (.int .i64 0)) := (Ch.of_below hb).self hch
  have hgd : c.L.getD i yD = V[i].y := by rw [← h4, List.getD_eq_getElem?_getD, List.getElem?_map, List.getElem?_eq_getElem hi]; rfl
  have hs : (((w4.setCell ⟨g, i * 7 + 6, none⟩ ev4).setCell ⟨g, i * 7 + 3, none⟩ (.int .i64 2)).setCell ⟨g, i * 7 + 4, none⟩ (.int .i64 0)).heap.size = w4.heap.size := by simp [go_sem]
  refine ⟨⟨⟨_, jb, _, _, fun b hb' => ?_, ?_, m3, ?_⟩, ⟨hok.pl, hok.pn, ?_⟩⟩, ch_le hch3 (fun b hb' => hb' ▸ h1 g hgC)⟩
  · rcases hb' with h | h
    · exact h1 b h
    · exact ⟨Nat.le_trans h2.bel.size h.1, fun hA => by have := hAl b hA; omega⟩
  · refine (h2.grow hch3 (fun b hb' => .inr (hb' ▸ hgC)) (fun b hb' => hb' ▸ (h1 g hgC).1)).less ?_
    rintro b (h | h | h)
    · exact .inl (.inl h)
    · exact .inl (.inr h)
    · exact .inr ⟨h.1, by rw [hs]; exact h.2⟩
  · rw [List.map_set, h4, hgd]; rfl
  · show (c.L.set i _).length ≤ 4; rw [List.length_set]; exact hok.ln
theorem MX.all {w0 : World} {P : Nat} (h : MX w0 P m ev qv pv) (hl : P < w0.heap.size) : ∀ wx, Below w0.heap.size w0 wx → MX wx P m ev qv pv := fun _ hb => h.belowB hb hl
theorem gu_some {k : Nat} (h : idxY f c.L 0 = ((0 + k : Nat) : Int)) : idxY f c.L 0 = (k : Int) := by rw [h, Nat.zero_add]
set_option maxRecDepth 100000 in
set_option maxHeartbeats 4000000 in
theorem ready_walk (h : CW wz A sb cb c w) (hm : ML w m ev qv pv) (hE : ∀ v ∈ m.E, 0 ≤ v ∧ v ≤ 256) (hE4 : m.E.length ≤ 4) : Calls Try.prog 33 #[Pt cb, .agg #[.int .i64 m.K, .int .i64 m.F, .int .i64 m.T, .int .i64 m.B, .int .i64 m.A, .int .i64 m.C, ev, qv, pv]] w (CwS wz A sb cb { c with L := rdyL c m } (rdyM c m) w) := by
  obtain ⟨w0, hw0⟩ : ∃ w0, w0 = w.alloc (Obj.cells #[.int .i64 m.K, .int .i64 m.F, .int .i64 m.T, .int .i64 m.B, .int .i64 m.A, .int .i64 m.C, ev, qv, pv] 41) := ⟨_, rfl⟩
  have hb0 : Below w.heap.size w w0 := by rw [hw0]; exact below_alloc _ _
  have HB0 : Hid (Below w.heap.size w w0) := hb0
  have HML : Hid (ML w0 m ev qv pv) := hm.below hb0
  have hmx0 : MX w0 w.heap.size m ev qv pv := by rw [hw0]; exact mx_new _ _ _ _ _
  have hlt0 : w.heap.size < w0.heap.size := by rw [hw0]; simp
  have HMX : Hid (∀ wx, Below w0.heap.size w0 wx → MX wx w.heap.size m ev qv pv) := hmx0.all hlt0
  have HC0 : Hid (CW wz A sb cb c w0) := h.below hb0
  have HC : Hid (CW wz A sb cb c w) := h
  have HE : Hid (∀ v ∈ m.E, 0 ≤ v ∧ v ≤ 256) := hE
  have HE4 : Hid (m.E.length ≤ 4) := hE4
  have HNE : Hid (Nv w0 ev m.E) := sv_nv HML.out.e (in64_of hE)
  obtain ⟨C0, jb0, tv0, V0, _, _, h3, _⟩ := HC0.out.ex
  have k5 : ∀ wx, Below w0.heap.size w0 wx → wx.cell? ⟨cb, 5, none⟩ = some (.int .i64 c.p.B) := fun wx hb => by rw [(h3.below hb).cell]; rfl
  obtain ⟨ea, ec, rfl, _⟩ := hm.e
  obtain ⟨qa, qc, rfl, _⟩ := hm.q
  obtain ⟨⟨pa, pc, rfl, _⟩, _⟩ := hm.p
  generalize hqn : (ib m.Q).length = qn at *
  generalize hpn : m.P.length = pn at *
  have HW0 : Hid (w0 = w.alloc (Obj.cells #[.int .i64 m.K, .int .i64 m.F, .int .i64 m.T, .int .i64 m.B, .int .i64 m.A, .int .i64 m.C, .slice ea m.E.length ec, .slice qa qn qc, .slice pa pn pc] 41)) := hw0
  have e0 : ∀ wx, Below w0.heap.size w0 wx → wx.cell? ⟨w.heap.size, 0, none⟩ = some (.int .i64 m.K) := fun wx hb => (HMX.out wx hb).c0
  have e1 : ∀ wx, Below w0.heap.size w0 wx → wx.cell? ⟨w.heap.size, 1, none⟩ = some (.int .i64 m.F) := fun wx hb => (HMX.out wx hb).c1
  have e2 : ∀ wx, Below w0.heap.size w0 wx → wx.cell? ⟨w.heap.size, 2, none⟩ = some (.int .i64 m.T) := fun wx hb => (HMX.out wx hb).c2
  have e3 : ∀ wx, Below w0.heap.size w0 wx → wx.cell? ⟨w.heap.size, 3, none⟩ = some (.int .i64 m.B) := fun wx hb => (HMX.out wx hb).c3
  have e4 : ∀ wx, Below w0.heap.size w0 wx → wx.cell? ⟨w.heap.size, 4, none⟩ = some (.int .i64 m.A) := fun wx hb => (HMX.out wx hb).c4
  have e5 : ∀ wx, Below w0.heap.size w0 wx → wx.cell? ⟨w.heap.size, 5, none⟩ = some (.int .i64 m.C) := fun wx hb => (HMX.out wx hb).c5
  have e6 : ∀ wx, Below w0.heap.size w0 wx → wx.cell? ⟨w.heap.size, 6, none⟩ = some (.slice ea m.E.length ec) := fun wx hb => (HMX.out wx hb).c6
  have e7 : ∀ wx, Below w0.heap.size w0 wx → wx.cell? ⟨w.heap.size, 7, none⟩ = some (.slice qa qn qc) := fun wx hb => (HMX.out wx hb).c7
  have e8 : ∀ wx, Below w0.heap.size w0 wx → wx.cell? ⟨w.heap.size, 8, none⟩ = some (.slice pa pn pc) := fun wx hb => (HMX.out wx hb).c8
  clear h hm hE hE4 hw0 hb0 hmx0 hlt0 h3 hqn hpn
  go_enter Try.func33, Try.ntmps33
  go_wp2_with fail
  rw [← HW0.out]
  go_cut [5] (fun iv wx => iv = .int .i64 (rdyI c m) ∧ Below w0.heap.size w0 wx)
  case first =>
    refine wp_region_noPanic ?_
    refine wp_region_held_drew (S := (fun wx => Below w0.heap.size w0 wx)) (by kernel_rfl) ?_ (fun hHeld => ?_)
    · exact (below_drewN w0 1)
    refine wpAnyH_take (i := 0) (oi := ⟨some 7, _, _, _, _, _⟩) (v := ?_) rfl (by kernel_rfl) (by kernel_rfl) (by kernel_rfl) (fun _ _ _ h => h) (Or.inl ⟨by rfl, ?_⟩) hHeld ?_
    rotate_left
    · intro w hSw; (try dsimp only at hSw); go_simp; all_goals (with_reducible rfl)
    try simp only [Act.put, List.setIfInBounds_toArray, List.set_cons_zero, List.set_cons_succ]
    refine wpAnyH_take (i := 1) (oi := ⟨some 8, _, _, _, _, _⟩) (v := ?_) rfl (by kernel_rfl) (by kernel_rfl) (by kernel_rfl) (fun _ _ _ h => h) (Or.inl ⟨by rfl, ?_⟩) hHeld ?_
    rotate_left
    · intro w hSw; (try dsimp only at hSw); go_simp; all_goals (with_reducible rfl)
    try simp only [Act.put, List.setIfInBounds_toArray, List.set_cons_zero, List.set_cons_succ]
    refine wpAnyH_take (i := 5) (oi := ⟨some 12, _, _, _, _, _⟩) (v := ?_) rfl (by kernel_rfl) (by kernel_rfl) (by kernel_rfl) (fun _ _ _ h => h) (Or.inl ⟨by rfl, ?_⟩) hHeld ?_
    rotate_left
    · intro w hSw; (try dsimp only at hSw); go_simp; all_goals (with_reducible rfl)
    try simp only [Act.put, List.setIfInBounds_toArray, List.set_cons_zero, List.set_cons_succ]
    refine wpAnyH_take (i := 6) (oi := ⟨some 13, _, _, _, _, _⟩) (v := ?_) rfl (by kernel_rfl) (by kernel_rfl) (by kernel_rfl) (fun _ _ _ h => h) (Or.inl ⟨by rfl, ?_⟩) hHeld ?_
    rotate_left
    · intro w hSw; (try dsimp only at hSw); go_simp; all_goals (with_reducible rfl)
    try simp only [Act.put, List.setIfInBounds_toArray, List.set_cons_zero, List.set_cons_succ]
    refine wpAnyH_take (i := 7) (oi := ⟨some 14, _, _, _, _, _⟩) (v := ?_) rfl (by kernel_rfl) (by kernel_rfl) (by kernel_rfl) (fun _ _ _ h => h) (Or.inl ⟨by rfl, ?_⟩) hHeld ?_
    rotate_left
    · intro w hSw; (try dsimp only at hSw); go_simp; all_goals (with_reducible rfl)
    try simp only [Act.put, List.setIfInBounds_toArray, List.set_cons_zero, List.set_cons_succ]
    refine wpAnyH_take (i := 8) (oi := ⟨some 15, _, _, _, _, _⟩) (v := ?_) rfl (by kernel_rfl) (by kernel_rfl) (by kernel_rfl) (fun _ _ _ h => h) (Or.inl ⟨by rfl, ?_⟩) hHeld ?_
    rotate_left
    · intro w hSw; (try dsimp only at hSw); go_simp; all_goals (with_reducible rfl)
    try simp only [Act.put, List.setIfInBounds_toArray, List.set_cons_zero, List.set_cons_succ]
    refine wpAnyH_take (i := 9) (oi := ⟨some 16, _, _, _, _, _⟩) (v := ?_) rfl (by kernel_rfl) (by kernel_rfl) (by kernel_rfl) (fun _ _ _ h => h) (Or.inl ⟨by rfl, ?_⟩) hHeld ?_
    rotate_left
    · intro w hSw; (try dsimp only at hSw); go_simp; all_goals (with_reducible rfl)
    try simp only [Act.put, List.setIfInBounds_toArray, List.set_cons_zero, List.set_cons_succ]
    refine wpAnyH_take (i := 10) (oi := ⟨some 17, _, _, _, _, _⟩) (v := ?_) rfl (by kernel_rfl) (by kernel_rfl) (by kernel_rfl) (fun _ _ _ h => h) (Or.inl ⟨by rfl, ?_⟩) hHeld ?_
    rotate_left
    · intro w hSw; (try dsimp only at hSw); go_simp; all_goals (with_reducible rfl)
    try simp only [Act.put, List.setIfInBounds_toArray, List.set_cons_zero, List.set_cons_succ]
    refine wpAnyH_take (i := 11) (oi := ⟨some 18, _, _, _, _, _⟩) (v := ?_) rfl (by kernel_rfl) (by kernel_rfl) (by kernel_rfl) (fun _ _ _ h => h) (Or.inl ⟨by rfl, ?_⟩) hHeld ?_
    rotate_left
    · intro w hSw; (try dsimp only at hSw); go_simp; all_goals (with_reducible rfl)
    try simp only [Act.put, List.setIfInBounds_toArray, List.set_cons_zero, List.set_cons_succ]
    refine wpAnyH_ready (rs := [2, 3]) (by kernel_rfl) (by simp) ?_
    refine AllReadyH.cons (o := ⟨some 9, _, _, _, _, _⟩) rfl (fun K hK => ?_) (AllReadyH.cons (o := ⟨some 10, _, _, _, _, _⟩) rfl (fun K hK => ?_) AllReadyH.nil)
    · go_simp
      refine (saidBy_walk (HML.out.below hHeld)).mono ?_
      rintro e u1 ⟨F1, rfl, hP1, hB1⟩
      have hS1 : Below w0.heap.size w0 u1 := below_trans hHeld hB1
      have HP1 : Hid (Pk u1 F1 (saidB m.B m.A m.F)) := hP1
      obtain ⟨n1, c1, rfl, _, _⟩ := hP1
      clear hB1 hHeld
      refine hK.out _ _ ?_ (fun hHeld => ?_)
      · exact hS1
      clear hK K
      try simp only [Act.put, List.setIfInBounds_toArray, List.set_cons_zero, List.set_cons_succ]
      refine wpAnyH_ready (rs := [3]) (by kernel_rfl) (by simp) ?_
      refine AllReadyH.cons (o := ⟨some 10, _, _, _, _, _⟩) rfl (fun K hK => ?_) AllReadyH.nil
      go_simp
      refine hK.out _ _ ?_ (fun hHeld => ?_)
      · exact (by first | exact hHeld.alloc hHeld.size _ | exact (below_alloc _ _).drew)
      clear hK K
      try simp only [Act.put, List.setIfInBounds_toArray, List.set_cons_zero, List.set_cons_succ]
      refine wpAnyH_ready (rs := [4]) (by kernel_rfl) (by simp) ?_
      refine AllReadyH.cons (o := ⟨some 11, _, _, _, _, _⟩) rfl (fun K hK => ?_) AllReadyH.nil
      go_simp
      refine (inPhase_walk ((nv1 u1 1 (by omega) (by omega)))).mono ?_
      rintro e u2 ⟨F2, rfl, hP2, hB2⟩
      have hb12 : Below u1.heap.size u1 u2 := below_trans (below_alloc _ _) hB2
      have hS2 : Below w0.heap.size w0 u2 := below_trans hS1 hb12
      have HP12 : Hid (Pk u2 (.func (.func n1) #[] c1) (saidB m.B m.A m.F)) := HP1.out.below hb12
      have HP2 : Hid (Pk u2 F2 (inPh [1])) := hP2
      obtain ⟨n2, c2, rfl, _, _⟩ := hP2
      clear hB2 hHeld hb12
      refine hK.out _ _ ?_ (fun hHeld => ?_)
      · exact hS2
      clear hK K
      try simp only [Act.put, List.setIfInBounds_toArray, List.set_cons_zero, List.set_cons_succ]
      refine wpAnyH_ready (rs := [12]) (by kernel_rfl) (by simp) ?_
      refine AllReadyH.cons (o := ⟨some 19, _, _, _, _, _⟩) rfl (fun K hK => ?_) AllReadyH.nil
      go_simp
      refine (reaching_walk (HNE.out.below hHeld)).mono ?_
      rintro e u3 ⟨F3, rfl, hP3, hB3⟩
      have hS3 : Below w0.heap.size w0 u3 := below_trans hHeld hB3
      have HP13 : Hid (Pk u3 (.func (.func n1) #[] c1) (saidB m.B m.A m.F)) := HP12.out.below hB3
      have HP23 : Hid (Pk u3 (.func (.func n2) #[] c2) (inPh [1])) := HP2.out.below hB3
      have HP3 : Hid (Pk u3 F3 (rchB m.E c.p.B)) := hP3
      obtain ⟨n3, c3, rfl, _, _⟩ := hP3
      clear hB3 hHeld
      refine hK.out _ _ ?_ (fun hHeld => ?_)
      · exact hS3
      clear hK K
      try simp only [Act.put, List.setIfInBounds_toArray, List.set_cons_zero, List.set_cons_succ]
      refine wpAnyH_ready (rs := [13]) (by kernel_rfl) (by simp) ?_
      refine AllReadyH.cons (o := ⟨some 20, _, _, _, _, _⟩) rfl (fun K hK => ?_) AllReadyH.nil
      go_simp
      refine hK.out _ _ ?_ (fun hHeld => ?_)
      · exact (hS3.alloc hS3.size _)
      clear hK K
      try simp only [Act.put, List.setIfInBounds_toArray, List.set_cons_zero, List.set_cons_succ]
      refine wpAnyH_ready (rs := [14]) (by kernel_rfl) (by simp) ?_
      refine AllReadyH.cons (o := ⟨some 21, _, _, _, _, _⟩) rfl (fun K hK => ?_) AllReadyH.nil
      go_simp
      refine (all_walk (fl3 HP13.out HP23.out HP3.out)).mono ?_
      rintro e u4 ⟨F4, rfl, hP4, hB4⟩
      have hS4 : Below w0.heap.size w0 u4 := below_trans (hS3.alloc hS3.size _) hB4
      have HP4 : Hid (Pk u4 F4 (rdyF c m)) := hP4
      obtain ⟨n4, c4, rfl, _, _⟩ := hP4
      clear hB4 hHeld
      refine hK.out _ _ ?_ (fun hHeld => ?_)
      · exact hS4
      clear hK K
      try simp only [Act.put, List.setIfInBounds_toArray, List.set_cons_zero, List.set_cons_succ]
      refine wpAnyH_ready (rs := [15]) (by kernel_rfl) (by simp) ?_
      refine AllReadyH.cons (o := ⟨some 22, _, _, _, _, _⟩) rfl (fun K hK => ?_) AllReadyH.nil
      go_simp
      refine (find_walk (HC0.out.below hS4) HP4.out).mono ?_
      rintro e u5 ⟨rfl, hB5⟩
      have hS5 : Below w0.heap.size w0 u5 := below_trans hS4 hB5
      clear hB5 hHeld
      refine hK.out _ _ ?_ (fun hHeld => ?_)
      · exact hS5
      clear hK K
      try simp only [Act.put, List.setIfInBounds_toArray, List.set_cons_zero, List.set_cons_succ]
      refine wpAnyH_take (i := 16) (oi := ⟨some 5, _, _, _, _, _⟩) (v := ?_) rfl (by kernel_rfl) (by kernel_rfl) (by kernel_rfl) (fun _ _ _ h => h) (Or.inl ⟨by rfl, ?_⟩) hHeld ?_
      rotate_left
      · intro w hSw; (try dsimp only at hSw); go_simp; all_goals (with_reducible rfl)
      try simp only [Act.put, List.setIfInBounds_toArray, List.set_cons_zero, List.set_cons_succ]
      refine wpAnyH_done (by kernel_rfl) ?_ _
      refine NoPanic.normal ?_
      go_wp2_with fail
      go_meet
      exact ⟨rfl, hS5⟩
    · go_simp
      refine hK.out _ _ ?_ (fun hHeld => ?_)
      · exact (by first | exact hHeld.alloc hHeld.size _ | exact (below_alloc _ _).drew)
      clear hK K
      try simp only [Act.put, List.setIfInBounds_toArray, List.set_cons_zero, List.set_cons_succ]
      refine wpAnyH_ready (rs := [2]) (by kernel_rfl) (by simp) ?_
      refine AllReadyH.cons (o := ⟨some 9, _, _, _, _, _⟩) rfl (fun K hK => ?_) AllReadyH.nil
      go_simp
      refine (saidBy_walk (HML.out.below hHeld)).mono ?_
      rintro e u1 ⟨F1, rfl, hP1, hB1⟩
      have hS1 : Below w0.heap.size w0 u1 := below_trans hHeld hB1
      have HP1 : Hid (Pk u1 F1 (saidB m.B m.A m.F)) := hP1
      obtain ⟨n1, c1, rfl, _, _⟩ := hP1
      have HV1 : Hid (Nv u1 (.slice (some ⟨w0.heap.size, 0, none⟩) 1 1) [1]) := (nv1 w0.drew 1 (by omega) (by omega)).below hB1
      clear hB1 hHeld
      refine hK.out _ _ ?_ (fun hHeld => ?_)
      · exact hS1
      clear hK K
      try simp only [Act.put, List.setIfInBounds_toArray, List.set_cons_zero, List.set_cons_succ]
      refine wpAnyH_ready (rs := [4]) (by kernel_rfl) (by simp) ?_
      refine AllReadyH.cons (o := ⟨some 11, _, _, _, _, _⟩) rfl (fun K hK => ?_) AllReadyH.nil
      go_simp
      refine (inPhase_walk HV1.out).mono ?_
      rintro e u2 ⟨F2, rfl, hP2, hB2⟩
      have hb12 : Below u1.heap.size u1 u2 := hB2
      have hS2 : Below w0.heap.size w0 u2 := below_trans hS1 hb12
      have HP12 : Hid (Pk u2 (.func (.func n1) #[] c1) (saidB m.B m.A m.F)) := HP1.out.below hb12
      have HP2 : Hid (Pk u2 F2 (inPh [1])) := hP2
      obtain ⟨n2, c2, rfl, _, _⟩ := hP2
      clear hB2 hHeld hb12
      refine hK.out _ _ ?_ (fun hHeld => ?_)
      · exact hS2
      clear hK K
      try simp only [Act.put, List.setIfInBounds_toArray, List.set_cons_zero, List.set_cons_succ]
      refine wpAnyH_ready (rs := [12]) (by kernel_rfl) (by simp) ?_
      refine AllReadyH.cons (o := ⟨some 19, _, _, _, _, _⟩) rfl (fun K hK => ?_) AllReadyH.nil
      go_simp
      refine (reaching_walk (HNE.out.below hHeld)).mono ?_
      rintro e u3 ⟨F3, rfl, hP3, hB3⟩
      have hS3 : Below w0.heap.size w0 u3 := below_trans hHeld hB3
      have HP13 : Hid (Pk u3 (.func (.func n1) #[] c1) (saidB m.B m.A m.F)) := HP12.out.below hB3
      have HP23 : Hid (Pk u3 (.func (.func n2) #[] c2) (inPh [1])) := HP2.out.below hB3
      have HP3 : Hid (Pk u3 F3 (rchB m.E c.p.B)) := hP3
      obtain ⟨n3, c3, rfl, _, _⟩ := hP3
      clear hB3 hHeld
      refine hK.out _ _ ?_ (fun hHeld => ?_)
      · exact hS3
      clear hK K
      try simp only [Act.put, List.setIfInBounds_toArray, List.set_cons_zero, List.set_cons_succ]
      refine wpAnyH_ready (rs := [13]) (by kernel_rfl) (by simp) ?_
      refine AllReadyH.cons (o := ⟨some 20, _, _, _, _, _⟩) rfl (fun K hK => ?_) AllReadyH.nil
      go_simp
      refine hK.out _ _ ?_ (fun hHeld => ?_)
      · exact (hS3.alloc hS3.size _)
      clear hK K
      try simp only [Act.put, List.setIfInBounds_toArray, List.set_cons_zero, List.set_cons_succ]
      refine wpAnyH_ready (rs := [14]) (by kernel_rfl) (by simp) ?_
      refine AllReadyH.cons (o := ⟨some 21, _, _, _, _, _⟩) rfl (fun K hK => ?_) AllReadyH.nil
      go_simp
      refine (all_walk (fl3 HP13.out HP23.out HP3.out)).mono ?_
      rintro e u4 ⟨F4, rfl, hP4, hB4⟩
      have hS4 : Below w0.heap.size w0 u4 := below_trans (hS3.alloc hS3.size _) hB4
      have HP4 : Hid (Pk u4 F4 (rdyF c m)) := hP4
      obtain ⟨n4, c4, rfl, _, _⟩ := hP4
      clear hB4 hHeld
      refine hK.out _ _ ?_ (fun hHeld => ?_)
      · exact hS4
      clear hK K
      try simp only [Act.put, List.setIfInBounds_toArray, List.set_cons_zero, List.set_cons_succ]
      refine wpAnyH_ready (rs := [15]) (by kernel_rfl) (by simp) ?_
      refine AllReadyH.cons (o := ⟨some 22, _, _, _, _, _⟩) rfl (fun K hK => ?_) AllReadyH.nil
      go_simp
      refine (find_walk (HC0.out.below hS4) HP4.out).mono ?_
      rintro e u5 ⟨rfl, hB5⟩
      have hS5 : Below w0.heap.size w0 u5 := below_trans hS4 hB5
      clear hB5 hHeld
      refine hK.out _ _ ?_ (fun hHeld => ?_)
      · exact hS5
      clear hK K
      try simp only [Act.put, List.setIfInBounds_toArray, List.set_cons_zero, List.set_cons_succ]
      refine wpAnyH_take (i := 16) (oi := ⟨some 5, _, _, _, _, _⟩) (v := ?_) rfl (by kernel_rfl) (by kernel_rfl) (by kernel_rfl) (fun _ _ _ h => h) (Or.inl ⟨by rfl, ?_⟩) hHeld ?_
      rotate_left
      · intro w hSw; (try dsimp only at hSw); go_simp; all_goals (with_reducible rfl)
      try simp only [Act.put, List.setIfInBounds_toArray, List.set_cons_zero, List.set_cons_succ]
      refine wpAnyH_done (by kernel_rfl) ?_ _
      refine NoPanic.normal ?_
      go_wp2_with fail
      go_meet
      exact ⟨rfl, hS5⟩
  case rest =>
    obtain ⟨rfl, hB1⟩ := hcut
    obtain ⟨w1, hw1⟩ : ∃ w1, w1 = wc := ⟨_, rfl⟩
    subst hw1
    have HB1 : Hid (Below w0.heap.size w0 w1) := hB1
    have HBW : Hid (Below w.heap.size w w1) := HB0.out.trans (hB1.mono HB0.out.size)
    have HC1 : Hid (CW wz A sb cb c w1) := HC0.out.below hB1
    obtain ⟨ri, hri⟩ : ∃ ri, ri = rdyI c m := ⟨_, rfl⟩
    have HRI : Hid (ri = rdyI c m) := hri
    rw [← hri]
    rcases idxY_cases (rdyF c m) c.L 0 with ⟨hn, _⟩ | ⟨i, hi, hix, hq1, hq2⟩
    · have hneg : ri = -1 := by rw [hri]; exact hn
      have HL : Hid (({ c with L := rdyL c m } : Cs) = c ∧ rdyM c m = none) := by
        have h0 : rdyI c m < 0 := by rw [← hri, hneg]; decide
        exact ⟨by unfold rdyL; rw [if_pos h0], by unfold rdyM; rw [if_pos h0]⟩
      subst hneg
      clear hri hn hB1 e0 e1 e2 e3 e4 e5 e6 e7 e8 k5
      go_wp2_with fail
      go_ret
      rw [HL.out.1, HL.out.2]
      exact cws_none HC1.out (Ch.of_below HBW.out)
    · have hir : ri = (i : Int) := by rw [hri]; exact gu_some hix
      have HIR : Hid (rdyI c m = (i : Int)) := by show _ = _; rw [← hri]; exact hir
      subst hir
      have hnn : ¬ ((i : Int) < 0) := by omega
      have HI : Hid (i < c.L.length) := hi
      clear hq1 hq2
      obtain ⟨C, jb, tv, V, h1, h2, h3, h4⟩ := HC1.out.ex
      have hlen : V.length = c.L.length := by rw [← h4, List.length_map]
      have HOK : Hid c.ok := HC1.out.ok
      have H1 : Hid (∀ x, C x → wz.heap.size ≤ x ∧ ¬ A x) := h1
      have H2 : Hid (Lw wz (fun x => A x ∨ C x) sb jb c.p.P c.J c.S w1) := h2
      have H3 : Hid (CM C w1 cb (Pt sb) (Pt jb) c.p tv V c.o) := h3
      have H4 : Hid (V.map Ye.y = c.L) := h4
      have hiV : i < V.length := by omega
      have HIV : Hid (i < V.length) := hiV
      obtain ⟨g, cap, rfl, hcp1, hcp2, hgl, h7⟩ := h3.yr.at hiV
      have c10 : w1.cell? ⟨cb, 10, none⟩ = some (.slice (some ⟨g, 0, none⟩) V.length cap) := h3.cell 10
      obtain ⟨x, hx⟩ : ∃ x, x = V[i] := ⟨_, rfl⟩
      have HX : Hid (x = V[i]) := hx
      have hyo := h3.ls V[i] (List.getElem_mem hiV)
      rw [← hx] at hyo
      have HYO : Hid (Yo C w1 x) := hyo
      obtain ⟨fa, fc, ea9, ec9, f5, f6⟩ := hyo.yl.form
      have HF5 : Hid (x.fv = .slice fa x.y.f.length fc) := f5
      have HGD : Hid (c.L.getD i yD = x.y) := by show _ = _; rw [← h4, List.getD_eq_getElem?_getD, List.getElem?_map, List.getElem?_eq_getElem hiV, hx]; rfl
      have r5 : ∀ wx, Below w1.heap.size w1 wx → wx.cell? ⟨g, i * 7 + 5, none⟩ = some (.slice fa x.y.f.length fc) := fun wx hb => by
        obtain ⟨g9, cap9, e9, _, _, _, h79⟩ := (h3.below hb).yr.at hiV
        cases e9
        rw [← f5, hx]; exact h79.c5
      have e6b : ∀ wx, Below w1.heap.size w1 wx → wx.cell? ⟨w.heap.size, 6, none⟩ = some (.slice ea m.E.length ec) := fun wx hb => e6 wx (below_trans HB1.out hb)
      have hii : (i : Int) < (V.length : Int) := by omega
      have hlm : (V.length : Int) ≤ 9223372036854775807 := by unfold maxLen at hcp2; omega
      have HFN : Hid (Nv w1 (.slice fa x.y.f.length fc) x.y.f) := by show Nv _ _ _; rw [← f5]; exact hyo.yl.f
      clear hri hix hi h1 h2 h3 h4 hlen hyo h7 hx f5 f6 hcp2 e0 e1 e2 e3 e4 e5 e6 e7 e8 k5 hB1
      go_wp2_with fail
      refine wp_region_noPanic ?_
      refine wp_region_held_drew (S := (fun wx => Below w1.heap.size w1 wx)) (by kernel_rfl) ?_ (fun hHeld => ?_)
      · exact (below_drewN w1 1)
      refine wpAnyH_take (i := 0) (oi := ⟨some 31, _, _, _, _, _⟩) (v := ?_) rfl (by kernel_rfl) (by kernel_rfl) (by kernel_rfl) (fun _ _ _ h => h) (Or.inl ⟨by rfl, ?_⟩) hHeld ?_
      rotate_left
      · intro w hSw; (try dsimp only at hSw); go_simp; all_goals (with_reducible rfl)
      try simp only [Act.put, List.setIfInBounds_toArray, List.set_cons_zero, List.set_cons_succ]
      refine wpAnyH_take (i := 1) (oi := ⟨some 32, _, _, _, _, _⟩) (v := ?_) rfl (by kernel_rfl) (by kernel_rfl) (by kernel_rfl) (fun _ _ _ h => h) (Or.inl ⟨by rfl, ?_⟩) hHeld ?_
      rotate_left
      · intro w hSw; (try dsimp only at hSw); go_simp; all_goals (with_reducible rfl)
      try simp only [Act.put, List.setIfInBounds_toArray, List.set_cons_zero, List.set_cons_succ]
      refine wpAnyH_take (i := 2) (oi := ⟨some 33, _, _, _, _, _⟩) (v := ?_) rfl (by kernel_rfl) (by kernel_rfl) (by kernel_rfl) (fun _ _ _ h => h) (Or.inl ⟨by rfl, ?_⟩) hHeld ?_
      rotate_left
      · intro w hSw; (try dsimp only at hSw); go_simp; all_goals (with_reducible rfl)
      try simp only [Act.put, List.setIfInBounds_toArray, List.set_cons_zero, List.set_cons_succ]
      refine wpAnyH_take (i := 3) (oi := ⟨some 34, _, _, _, _, _⟩) (v := ?_) rfl (by kernel_rfl) (by kernel_rfl) (by kernel_rfl) (fun _ _ _ h => h) (Or.inl ⟨by rfl, ?_⟩) hHeld ?_
      rotate_left
      · intro w hSw; (try dsimp only at hSw); go_simp; all_goals (with_reducible rfl)
      try simp only [Act.put, List.setIfInBounds_toArray, List.set_cons_zero, List.set_cons_succ]
      refine wpAnyH_take (i := 4) (oi := ⟨some 35, _, _, _, _, _⟩) (v := ?_) rfl (by kernel_rfl) (by kernel_rfl) (by kernel_rfl) (fun _ _ _ h => h) (Or.inl ⟨by rfl, ?_⟩) hHeld ?_
      rotate_left
      · intro w hSw; (try dsimp only at hSw); go_simp; all_goals (with_reducible rfl)
      try simp only [Act.put, List.setIfInBounds_toArray, List.set_cons_zero, List.set_cons_succ]
      refine wpAnyH_take (i := 5) (oi := ⟨some 36, _, _, _, _, _⟩) (v := ?_) rfl (by kernel_rfl) (by kernel_rfl) (by kernel_rfl) (fun _ _ _ h => h) (Or.inl ⟨by rfl, ?_⟩) hHeld ?_
      rotate_left
      · intro w hSw; (try dsimp only at hSw); go_simp; all_goals (with_reducible rfl)
      try simp only [Act.put, List.setIfInBounds_toArray, List.set_cons_zero, List.set_cons_succ]
      refine wpAnyH_ready (rs := [6]) (by kernel_rfl) (by simp) ?_
      refine AllReadyH.cons (o := ⟨some 37, _, _, _, _, _⟩) rfl (fun K hK => ?_) AllReadyH.nil
      go_simp
      refine (iequal_walk (HFN.out.below hHeld) ((HNE.out.below HB1.out).below hHeld)).mono ?_
      rintro e w2 ⟨rfl, hB2⟩
      have hS2 : Below w1.heap.size w1 w2 := below_trans hHeld hB2
      clear hB2 hHeld
      refine hK.out _ _ ?_ (fun hHeld => ?_)
      · exact hS2
      clear hK K
      try simp only [Act.put, List.setIfInBounds_toArray, List.set_cons_zero, List.set_cons_succ]
      refine wpAnyH_done (by kernel_rfl) ?_ _
      refine NoPanic.normal ?_
      have HS2 : Hid (Below w1.heap.size w1 w2) := hS2
      have HBW2 : Hid (Below w.heap.size w w2) := HBW.out.trans (hS2.mono HBW.out.size)
      by_cases hfe : x.y.f = m.E
      · have hd : decide (x.y.f = m.E) = true := decide_eq_true hfe
        rw [hd]
        have HL : Hid (({ c with L := rdyL c m } : Cs) = { c with L := c.L.take i } ∧ rdyM c m = none) := by
          have h0 : ¬ rdyI c m < 0 := by rw [HIR.out]; omega
          have h9 : (c.L.getD (rdyI c m).toNat yD).f = m.E := by rw [HIR.out, Int.toNat_natCast, HGD.out]; exact hfe
          exact ⟨by unfold rdyL; rw [if_neg h0, if_pos h9, HIR.out, Int.toNat_natCast], by unfold rdyM; rw [if_neg h0, if_pos h9]⟩
        clear hd hfe hS2 r5 e6b
        go_wp2_with fail
        refine (giveup_walk (HC1.out.below HS2.out) HI.out).mono ?_
        rintro e w3 ⟨rfl, hcw, hch⟩
        have HCW : Hid (CW wz A sb cb { c with L := c.L.take i } w3) := hcw
        have HCH : Hid (ChA wz A w w3) := (Ch.of_below HBW2.out).self hch
        clear hcw hch
        go_wp2_with fail
        go_ret
        rw [HL.out.1, HL.out.2]
        exact cws_none HCW.out HCH.out
      · have hd : decide (x.y.f = m.E) = false := decide_eq_false hfe
        rw [hd]
        have HL : Hid (rdyL c m = advL (c.L.set i (rdyY (c.L.getD i yD) m.E)) ∧ rdyM c m = advM (c.L.set i (rdyY (c.L.getD i yD) m.E))) := by
          have h0 : ¬ rdyI c m < 0 := by rw [HIR.out]; omega
          have h9 : ¬ (c.L.getD (rdyI c m).toNat yD).f = m.E := by rw [HIR.out, Int.toNat_natCast, HGD.out]; exact hfe
          exact ⟨by unfold rdyL rdyS; rw [if_neg h0, if_neg h9, HIR.out, Int.toNat_natCast], by unfold rdyM rdyS; rw [if_neg h0, if_neg h9, HIR.out, Int.toNat_natCast]⟩
        have r6 := e6b w2 hS2
        have hm2 := H3.out.below hS2
        clear hd hfe hS2 r5 e6b
        go_wp2_with fail
        refine (cloneN_walk ((HNE.out.below HB1.out).below HS2.out) (by have := HE4.out; omega)).mono ?_
        rintro e w4 ⟨v4, rfl, ho4, hB4⟩
        have HO4 : Hid (OwN w2.heap.size w4 v4 m.E) := ho4
        have HB4 : Hid (Below w2.heap.size w2 w4) := hB4
        have HST := hidH (rdy_set HOK.out H1.out (fun b hb => by have h1 := H2.out.al b (.inl hb); have h2 := HS2.out.size; omega) (H2.out.below HS2.out) hm2 H4.out HIV.out hB4 ho4 HE.out HE4.out)
        obtain ⟨_, va, vc, rfl, _⟩ := own_nl ho4
        have h74 := (hm2.below hB4).yr.at HIV.out
        obtain ⟨g9, cap9, e9, _, _, _, h79⟩ := h74
        cases e9
        replace h79 : Y7 w4 g (i * 7) x := by rw [HX.out]; exact h79
        have s3 := h79.c3
        have s4 := h79.c4
        have s6 : w4.cell? ⟨g, i * 7 + 6, none⟩ = some x.ev := h79.c6
        obtain ⟨_, _, xa, xc, _, hxe⟩ := HYO.out.yl.form
        rw [hxe] at s6
        have z3 := h79.z (i * 7 + 3)
        have z4 := h79.z (i * 7 + 4)
        have z6 := h79.z (i * 7 + 6)
        obtain ⟨w5, hw5⟩ : ∃ w5, w5 = ((w4.setCell ⟨g, i * 7 + 6, none⟩ (.slice va m.E.length vc)).setCell ⟨g, i * 7 + 3, none⟩ (.int .i64 2)).setCell ⟨g, i * 7 + 4, none⟩ (.int .i64 0) := ⟨_, rfl⟩
        rw [← hw5] at HST
        have HW5 : Hid (w5 = ((w4.setCell ⟨g, i * 7 + 6, none⟩ (.slice va m.E.length vc)).setCell ⟨g, i * 7 + 3, none⟩ (.int .i64 2)).setCell ⟨g, i * 7 + 4, none⟩ (.int .i64 0)) := hw5
        clear ho4 hB4 h79 hm2 hxe hw5
        go_wp2_with fail
        rw [← HW5.out]
        refine (advance_walk HST.out.1).mono ?_
        rintro e w6 ⟨v6, B6, rfl, hmg, hBb, hcw, hch⟩
        have HMG : Hid (MgR B6 w6 v6 (advM (c.L.set i (rdyY (c.L.getD i yD) m.E)))) := hmg
        have HBb : Hid (∀ x, B6 x → w5.heap.size ≤ x) := hBb
        have HCW6 : Hid (CW wz (fun x => A x ∨ B6 x) sb cb { c with L := advL (c.L.set i (rdyY (c.L.getD i yD) m.E)) } w6) := hcw
        have HCH6 : Hid (ChA wz A w w6) := ((Ch.of_below HBW2.out).self HST.out.2).self hch
        have HSZ : Hid (w.heap.size ≤ w5.heap.size) := ((Ch.of_below (D := fun x => wz.heap.size ≤ x ∧ ¬ A x) HBW2.out).self HST.out.2).size
        obtain ⟨a6, n6, c6, rfl⟩ := hmg.nil_or
        clear hmg hBb hcw hch
        go_wp2_with fail
        go_ret
        rw [HL.out.1, HL.out.2]
        exact ⟨_, B6, rfl, HMG.out, fun x hx => Nat.le_trans HSZ.out (HBb.out x hx), HCW6.out, HCH6.out⟩
end

end Go.Proofs.Ytpndafieknddcaa
