/- commit: the first try is applied at every store. -/
import Derived.Test.YtpndafieknddcaaCl
namespace Go.Proofs.Ytpndafieknddcaa

open Ieee Go.RowKit

def cmtF (m : Ms) : Yt → Bool := allB [saidB m.B m.A m.F, inPh [3], endAt m.E]
def cmtI (c : Cs) (m : Ms) : Int := idxY (cmtF m) c.L 0
def cmtT (c : Cs) : Tp := stepT c.J.n.tp (c.L.headD yD).e
def cmtN (c : Cs) : Nt := ⟨(cmtT c).b, (cmtT c).p, (cmtT c).c, c.J.n.a⟩
def cmtE (c : Cs) : Int := savI c.J c.S c.p.P (cmtN c)
def cmtJ (c : Cs) : Cs := { c with J := savJ c.J c.S c.p.P (cmtN c), S := savS c.J c.S c.p.P (cmtN c) }
def cmtC (c : Cs) (m : Ms) : Cs := if cmtI c m ≠ 0 then c else if cmtE c ≠ 0 then cmtJ c else { cmtJ c with L := advL (c.L.drop 1) }
def cmtM (c : Cs) (m : Ms) : Option Ms := if cmtI c m ≠ 0 then none else if cmtE c ≠ 0 then none else advM (c.L.drop 1)
def cmtR (c : Cs) (m : Ms) : Int := if cmtI c m ≠ 0 then 0 else if cmtE c ≠ 0 then tolI (cmtE c) else 0
section

variable {wz w w' w2 : World} {A E C : Nat → Prop} {sb cb jb : Nat} {c : Cs} {p : Pn} {q : Int} {J : Jn} {S : Dk} {F dv jv tv : Value} {f : Yt → Bool} {V : List Ye} {o : Bool} {m : Ms} {ev qv pv : Value}

theorem cwm_none {c' : Cs} {er : Int} (h : CW wz A sb cb c' w') (hc : ChA wz A w w') : CwM wz A sb cb c' none er w (.returned (.tuple #[.slice none 0 0, .int .i64 er])) w' := ⟨_, fun _ => False, rfl, rfl, fun _ hx => hx.elim, h.or0, hc⟩
theorem cmt_save {A1 : Nat → Prop} {cv : Value} (h : Lw wz A1 sb jb c.p.P c.J c.S w) (hp : Nv w pv (cmtT c).p) (hc : Nv w cv (cmtT c).c) (hwr : c.S.wr < 9223372036854775800) :
    Calls Try.prog 48 #[.pointer (some ⟨jb, 0, none⟩), .agg #[.int .i64 (cmtT c).b, pv, cv, .int .i64 c.J.n.a]] w fun e w' => e = .returned (.int .i64 (cmtE c)) ∧ Lw wz A1 sb jb c.p.P (savJ c.J c.S c.p.P (cmtN c)) (savS c.J c.S c.p.P (cmtN c)) w' ∧ ChA wz A1 w w' := by
  have hb : -9223372036854775808 ≤ (cmtT c).b ∧ (cmtT c).b < 9223372036854775808 := by
    have h0 := h.ok.r.b0
    have h1 := h.ok.r.b1
    unfold cmtT stepT
    split
    · show -9223372036854775808 ≤ c.J.n.b + 1 ∧ c.J.n.b + 1 < 9223372036854775808; omega
    · show -9223372036854775808 ≤ (0 : Int) ∧ (0 : Int) < 9223372036854775808; omega
  exact lw_save (n := cmtN c) h hp hc hb hwr
theorem cmt_in64 {y : Yt} {t : List Yt} (_hok : c.ok) (hj : c.J.ok c.p.P) (hL : c.L = y :: t) (hy : y.ok) : In64 (cmtT c).p ∧ In64 (cmtT c).c := by
  unfold cmtT stepT
  split
  · exact ⟨rgt_c64 hj.r, by show In64 (c.L.headD yD).e; rw [hL]; exact in64_of hy.em⟩
  · exact ⟨fun x hx => by simp at hx, fun x hx => by simp at hx⟩
theorem set3_row {w3 : World} {N : Nat} {a b d e a' b' d' : Value} {T : TypeId} (h : w3.heap[N]? = some (.cells #[a, b, d, e] T (0, 0))) : (((w3.setCell ⟨N, 0, none⟩ a').setCell ⟨N, 1, none⟩ b').setCell ⟨N, 2, none⟩ d').heap[N]? = some (.cells #[a', b', d', e] T (0, 0)) := by
  rw [set_row (set_row (set_row h _ _) _ _)]; rfl
theorem ch_set3 (w3 : World) (N : Nat) (a b d : Value) : Ch (fun x => x = N) w3 (((w3.setCell ⟨N, 0, none⟩ a).setCell ⟨N, 1, none⟩ b).setCell ⟨N, 2, none⟩ d) := ((ch_set _ _ _ _).self (ch_set _ _ _ _)).self (ch_set _ _ _ _)
set_option maxRecDepth 100000 in
set_option maxHeartbeats 4000000 in
theorem commit_walk (h : CW wz A sb cb c w) (hm : ML w m ev qv pv) (hE : ∀ v ∈ m.E, 0 ≤ v ∧ v ≤ 256) (hwr : c.S.wr < 9223372036854775800) : Calls Try.prog 34 #[Pt cb, .agg #[.int .i64 m.K, .int .i64 m.F, .int .i64 m.T, .int .i64 m.B, .int .i64 m.A, .int .i64 m.C, ev, qv, pv]] w (CwM wz A sb cb (cmtC c m) (cmtM c m) (cmtR c m) w) := by
  have HWR : Hid (c.S.wr < 9223372036854775800) := hwr
  have HJO : Hid (c.J.ok c.p.P) := h.jok
  obtain ⟨w0, hw0⟩ : ∃ w0, w0 = w.alloc (Obj.cells #[.int .i64 m.K, .int .i64 m.F, .int .i64 m.T, .int .i64 m.B, .int .i64 m.A, .int .i64 m.C, ev, qv, pv] 41) := ⟨_, rfl⟩
  have hb0 : Below w.heap.size w w0 := by rw [hw0]; exact below_alloc _ _
  have HB0 : Hid (Below w.heap.size w w0) := hb0
  have HML : Hid (ML w0 m ev qv pv) := hm.below hb0
  have hmx0 : MX w0 w.heap.size m ev qv pv := by rw [hw0]; exact mx_new _ _ _ _ _
  have hlt0 : w.heap.size < w0.heap.size := by rw [hw0]; simp
  have HMX : Hid (∀ wx, Below w0.heap.size w0 wx → MX wx w.heap.size m ev qv pv) := hmx0.all hlt0
  have HC0 : Hid (CW wz A sb cb c w0) := h.below hb0
  have HNE : Hid (Nv w0 ev m.E) := sv_nv HML.out.e (in64_of hE)
  obtain ⟨ea, ec, rfl, _⟩ := hm.e
  obtain ⟨qa, qc, rfl, _⟩ := hm.q
  obtain ⟨⟨pa, pc, rfl, _⟩, _⟩ := hm.p
  generalize hqn : (ib m.Q).length = qn at *
  generalize hpn : m.P.length = pn at *
  have HW0 : Hid (w0 = w.alloc (Obj.cells #[.int .i64 m.K, .int .i64 m.F, .int .i64 m.T, .int .i64 m.B, .int .i64 m.A, .int .i64 m.C, .slice ea m.E.length ec, .slice qa qn qc, .slice pa pn pc] 41)) := hw0
  have e0 : ∀ wx, Below w0.heap.size w0 wx → wx.cell? ⟨w.heap.size, 0, none⟩ = some (.int .i64 m.K) := fun wx hb => (HMX.out wx hb).c0
  have e1 : ∀ wx, Below w0.heap.size w0 wx → wx.cell? ⟨w.heap.size, 1, none⟩ = some (.int .i64 m.F) := fun wx hb => (HMX.out wx hb).c1
  have e2 : ∀ wx, Below w0.heap.size w0 wx → wx.cell? ⟨w.heap.size, 2, none⟩ = some (.int .i64 m.T) := fun wx hb => (HMX.out wx hb).c2
  have e3 : ∀ wx, Below w0.heap.size w0 wx → wx.cell? ⟨w.heap.size, 3, none⟩ = some (.int .i64 m.B) := fun wx hb => (HMX.out wx hb).c3
  have e4 : ∀ wx, Below w0.heap.size w0 wx → wx.cell? ⟨w.heap.size, 4, none⟩ = some (.int .i64 m.A) := fun wx hb => (HMX.out wx hb).c4
  have e5 : ∀ wx, Below w0.heap.size w0 wx → wx.cell? ⟨w.heap.size, 5, none⟩ = some (.int .i64 m.C) := fun wx hb => (HMX.out wx hb).c5
  have e6 : ∀ wx, Below w0.heap.size w0 wx → wx.cell? ⟨w.heap.size, 6, none⟩ = some (.slice ea m.E.length ec) := fun wx hb => (HMX.out wx hb).c6
  have e7 : ∀ wx, Below w0.heap.size w0 wx → wx.cell? ⟨w.heap.size, 7, none⟩ = some (.slice qa qn qc) := fun wx hb => (HMX.out wx hb).c7
  have e8 : ∀ wx, Below w0.heap.size w0 wx → wx.cell? ⟨w.heap.size, 8, none⟩ = some (.slice pa pn pc) := fun wx hb => (HMX.out wx hb).c8
  clear h hm hE hwr hw0 hb0 hmx0 hlt0 hqn hpn
  go_enter Try.func34, Try.ntmps34
  go_wp2_with fail
  rw [← HW0.out]
  go_cut [19] (fun bv wx => bv = .bool (cmtI c m != 0) ∧ Below w0.heap.size w0 wx)
  case first =>
    refine wp_region_noPanic ?_
    refine wp_region_held_drew (S := (fun wx => Below w0.heap.size w0 wx)) (by kernel_rfl) ?_ (fun hHeld => ?_)
    · exact (below_drewN w0 1)
    refine wpAnyH_take (i := 0) (oi := ⟨some 8, _, _, _, _, _⟩) (v := ?_) rfl (by kernel_rfl) (by kernel_rfl) (by kernel_rfl) (fun _ _ _ h => h) (Or.inl ⟨by rfl, ?_⟩) hHeld ?_
    rotate_left
    · intro w hSw; (try dsimp only at hSw); go_simp; all_goals (with_reducible rfl)
    try simp only [Act.put, List.setIfInBounds_toArray, List.set_cons_zero, List.set_cons_succ]
    refine wpAnyH_take (i := 1) (oi := ⟨some 9, _, _, _, _, _⟩) (v := ?_) rfl (by kernel_rfl) (by kernel_rfl) (by kernel_rfl) (fun _ _ _ h => h) (Or.inl ⟨by rfl, ?_⟩) hHeld ?_
    rotate_left
    · intro w hSw; (try dsimp only at hSw); go_simp; all_goals (with_reducible rfl)
    try simp only [Act.put, List.setIfInBounds_toArray, List.set_cons_zero, List.set_cons_succ]
    refine wpAnyH_take (i := 5) (oi := ⟨some 13, _, _, _, _, _⟩) (v := ?_) rfl (by kernel_rfl) (by kernel_rfl) (by kernel_rfl) (fun _ _ _ h => h) (Or.inl ⟨by rfl, ?_⟩) hHeld ?_
    rotate_left
    · intro w hSw; (try dsimp only at hSw); go_simp; all_goals (with_reducible rfl)
    try simp only [Act.put, List.setIfInBounds_toArray, List.set_cons_zero, List.set_cons_succ]
    refine wpAnyH_take (i := 6) (oi := ⟨some 14, _, _, _, _, _⟩) (v := ?_) rfl (by kernel_rfl) (by kernel_rfl) (by kernel_rfl) (fun _ _ _ h => h) (Or.inl ⟨by rfl, ?_⟩) hHeld ?_
    rotate_left
    · intro w hSw; (try dsimp only at hSw); go_simp; all_goals (with_reducible rfl)
    try simp only [Act.put, List.setIfInBounds_toArray, List.set_cons_zero, List.set_cons_succ]
    refine wpAnyH_ready (rs := [2, 3]) (by kernel_rfl) (by simp) ?_
    refine AllReadyH.cons (o := ⟨some 10, _, _, _, _, _⟩) rfl (fun K hK => ?_) (AllReadyH.cons (o := ⟨some 11, _, _, _, _, _⟩) rfl (fun K hK => ?_) AllReadyH.nil)
    · go_simp
      refine (saidBy_walk (HML.out.below hHeld)).mono ?_
      rintro e u1 ⟨F1, rfl, hP1, hB1⟩
      have hS1 : Below w0.heap.size w0 u1 := below_trans hHeld hB1
      have HP1 : Hid (Pk u1 F1 (saidB m.B m.A m.F)) := hP1
      obtain ⟨n1, c1, rfl, _, _⟩ := hP1
      clear hB1 hHeld
      refine hK.out _ _ ?_ (fun hHeld => ?_)
      · exact hS1
      clear hK K
      try simp only [Act.put, List.setIfInBounds_toArray, List.set_cons_zero, List.set_cons_succ]
      refine wpAnyH_ready (rs := [3]) (by kernel_rfl) (by simp) ?_
      refine AllReadyH.cons (o := ⟨some 11, _, _, _, _, _⟩) rfl (fun K hK => ?_) AllReadyH.nil
      go_simp
      refine hK.out _ _ ?_ (fun hHeld => ?_)
      · exact (by first | exact hHeld.alloc hHeld.size _ | exact (below_alloc _ _).drew)
      clear hK K
      try simp only [Act.put, List.setIfInBounds_toArray, List.set_cons_zero, List.set_cons_succ]
      refine wpAnyH_ready (rs := [4]) (by kernel_rfl) (by simp) ?_
      refine AllReadyH.cons (o := ⟨some 12, _, _, _, _, _⟩) rfl (fun K hK => ?_) AllReadyH.nil
      go_simp
      refine (inPhase_walk ((nv1 u1 3 (by omega) (by omega)))).mono ?_
      rintro e u2 ⟨F2, rfl, hP2, hB2⟩
      have hb12 : Below u1.heap.size u1 u2 := below_trans (below_alloc _ _) hB2
      have hS2 : Below w0.heap.size w0 u2 := below_trans hS1 hb12
      have HP12 : Hid (Pk u2 (.func (.func n1) #[] c1) (saidB m.B m.A m.F)) := HP1.out.below hb12
      have HP2 : Hid (Pk u2 F2 (inPh [3])) := hP2
      obtain ⟨n2, c2, rfl, _, _⟩ := hP2
      clear hB2 hHeld hb12
      refine hK.out _ _ ?_ (fun hHeld => ?_)
      · exact hS2
      clear hK K
      try simp only [Act.put, List.setIfInBounds_toArray, List.set_cons_zero, List.set_cons_succ]
      refine wpAnyH_ready (rs := [7]) (by kernel_rfl) (by simp) ?_
      refine AllReadyH.cons (o := ⟨some 15, _, _, _, _, _⟩) rfl (fun K hK => ?_) AllReadyH.nil
      go_simp
      refine (endingAt_walk (HNE.out.below hHeld)).mono ?_
      rintro e u3 ⟨F3, rfl, hP3, hB3⟩
      have hS3 : Below w0.heap.size w0 u3 := below_trans hHeld hB3
      have HP13 : Hid (Pk u3 (.func (.func n1) #[] c1) (saidB m.B m.A m.F)) := HP12.out.below hB3
      have HP23 : Hid (Pk u3 (.func (.func n2) #[] c2) (inPh [3])) := HP2.out.below hB3
      have HP3 : Hid (Pk u3 F3 (endAt m.E)) := hP3
      obtain ⟨n3, c3, rfl, _, _⟩ := hP3
      clear hB3 hHeld
      refine hK.out _ _ ?_ (fun hHeld => ?_)
      · exact hS3
      clear hK K
      try simp only [Act.put, List.setIfInBounds_toArray, List.set_cons_zero, List.set_cons_succ]
      refine wpAnyH_ready (rs := [8]) (by kernel_rfl) (by simp) ?_
      refine AllReadyH.cons (o := ⟨some 16, _, _, _, _, _⟩) rfl (fun K hK => ?_) AllReadyH.nil
      go_simp
      refine hK.out _ _ ?_ (fun hHeld => ?_)
      · exact (hS3.alloc hS3.size _)
      clear hK K
      try simp only [Act.put, List.setIfInBounds_toArray, List.set_cons_zero, List.set_cons_succ]
      refine wpAnyH_ready (rs := [9]) (by kernel_rfl) (by simp) ?_
      refine AllReadyH.cons (o := ⟨some 17, _, _, _, _, _⟩) rfl (fun K hK => ?_) AllReadyH.nil
      go_simp
      refine (all_walk (fl3 HP13.out HP23.out HP3.out)).mono ?_
      rintro e u4 ⟨F4, rfl, hP4, hB4⟩
      have hS4 : Below w0.heap.size w0 u4 := below_trans (hS3.alloc hS3.size _) hB4
      have HP4 : Hid (Pk u4 F4 (cmtF m)) := hP4
      obtain ⟨n4, c4, rfl, _, _⟩ := hP4
      clear hB4 hHeld
      refine hK.out _ _ ?_ (fun hHeld => ?_)
      · exact hS4
      clear hK K
      try simp only [Act.put, List.setIfInBounds_toArray, List.set_cons_zero, List.set_cons_succ]
      refine wpAnyH_ready (rs := [10]) (by kernel_rfl) (by simp) ?_
      refine AllReadyH.cons (o := ⟨some 18, _, _, _, _, _⟩) rfl (fun K hK => ?_) AllReadyH.nil
      go_simp
      refine (find_walk (HC0.out.below hS4) HP4.out).mono ?_
      rintro e u5 ⟨rfl, hB5⟩
      have hS5 : Below w0.heap.size w0 u5 := below_trans hS4 hB5
      clear hB5 hHeld
      refine hK.out _ _ ?_ (fun hHeld => ?_)
      · exact hS5
      clear hK K
      try simp only [Act.put, List.setIfInBounds_toArray, List.set_cons_zero, List.set_cons_succ]
      refine wpAnyH_take (i := 11) (oi := ⟨some 19, _, _, _, _, _⟩) (v := ?_) rfl (by kernel_rfl) (by kernel_rfl) (by kernel_rfl) (fun _ _ _ h => h) (Or.inl ⟨by rfl, ?_⟩) hHeld ?_
      rotate_left
      · intro w hSw; (try dsimp only at hSw); go_simp; all_goals (with_reducible rfl)
      try simp only [Act.put, List.setIfInBounds_toArray, List.set_cons_zero, List.set_cons_succ]
      refine wpAnyH_done (by kernel_rfl) ?_ _
      refine NoPanic.normal ?_
      go_wp2_with fail
      go_meet
      exact ⟨rfl, hS5⟩
    · go_simp
      refine hK.out _ _ ?_ (fun hHeld => ?_)
      · exact (by first | exact hHeld.alloc hHeld.size _ | exact (below_alloc _ _).drew)
      clear hK K
      try simp only [Act.put, List.setIfInBounds_toArray, List.set_cons_zero, List.set_cons_succ]
      refine wpAnyH_ready (rs := [2]) (by kernel_rfl) (by simp) ?_
      refine AllReadyH.cons (o := ⟨some 10, _, _, _, _, _⟩) rfl (fun K hK => ?_) AllReadyH.nil
      go_simp
      refine (saidBy_walk (HML.out.below hHeld)).mono ?_
      rintro e u1 ⟨F1, rfl, hP1, hB1⟩
      have hS1 : Below w0.heap.size w0 u1 := below_trans hHeld hB1
      have HP1 : Hid (Pk u1 F1 (saidB m.B m.A m.F)) := hP1
      obtain ⟨n1, c1, rfl, _, _⟩ := hP1
      have HV1 : Hid (Nv u1 (.slice (some ⟨w0.heap.size, 0, none⟩) 1 1) [3]) := (nv1 w0.drew 3 (by omega) (by omega)).below hB1
      clear hB1 hHeld
      refine hK.out _ _ ?_ (fun hHeld => ?_)
      · exact hS1
      clear hK K
      try simp only [Act.put, List.setIfInBounds_toArray, List.set_cons_zero, List.set_cons_succ]
      refine wpAnyH_ready (rs := [4]) (by kernel_rfl) (by simp) ?_
      refine AllReadyH.cons (o := ⟨some 12, _, _, _, _, _⟩) rfl (fun K hK => ?_) AllReadyH.nil
      go_simp
      refine (inPhase_walk HV1.out).mono ?_
      rintro e u2 ⟨F2, rfl, hP2, hB2⟩
      have hb12 : Below u1.heap.size u1 u2 := hB2
      have hS2 : Below w0.heap.size w0 u2 := below_trans hS1 hb12
      have HP12 : Hid (Pk u2 (.func (.func n1) #[] c1) (saidB m.B m.A m.F)) := HP1.out.below hb12
      have HP2 : Hid (Pk u2 F2 (inPh [3])) := hP2
      obtain ⟨n2, c2, rfl, _, _⟩ := hP2
      clear hB2 hHeld hb12
      refine hK.out _ _ ?_ (fun hHeld => ?_)
      · exact hS2
      clear hK K
      try simp only [Act.put, List.setIfInBounds_toArray, List.set_cons_zero, List.set_cons_succ]
      refine wpAnyH_ready (rs := [7]) (by kernel_rfl) (by simp) ?_
      refine AllReadyH.cons (o := ⟨some 15, _, _, _, _, _⟩) rfl (fun K hK => ?_) AllReadyH.nil
      go_simp
      refine (endingAt_walk (HNE.out.below hHeld)).mono ?_
      rintro e u3 ⟨F3, rfl, hP3, hB3⟩
      have hS3 : Below w0.heap.size w0 u3 := below_trans hHeld hB3
      have HP13 : Hid (Pk u3 (.func (.func n1) #[] c1) (saidB m.B m.A m.F)) := HP12.out.below hB3
      have HP23 : Hid (Pk u3 (.func (.func n2) #[] c2) (inPh [3])) := HP2.out.below hB3
      have HP3 : Hid (Pk u3 F3 (endAt m.E)) := hP3
      obtain ⟨n3, c3, rfl, _, _⟩ := hP3
      clear hB3 hHeld
      refine hK.out _ _ ?_ (fun hHeld => ?_)
      · exact hS3
      clear hK K
      try simp only [Act.put, List.setIfInBounds_toArray, List.set_cons_zero, List.set_cons_succ]
      refine wpAnyH_ready (rs := [8]) (by kernel_rfl) (by simp) ?_
      refine AllReadyH.cons (o := ⟨some 16, _, _, _, _, _⟩) rfl (fun K hK => ?_) AllReadyH.nil
      go_simp
      refine hK.out _ _ ?_ (fun hHeld => ?_)
      · exact (hS3.alloc hS3.size _)
      clear hK K
      try simp only [Act.put, List.setIfInBounds_toArray, List.set_cons_zero, List.set_cons_succ]
      refine wpAnyH_ready (rs := [9]) (by kernel_rfl) (by simp) ?_
      refine AllReadyH.cons (o := ⟨some 17, _, _, _, _, _⟩) rfl (fun K hK => ?_) AllReadyH.nil
      go_simp
      refine (all_walk (fl3 HP13.out HP23.out HP3.out)).mono ?_
      rintro e u4 ⟨F4, rfl, hP4, hB4⟩
      have hS4 : Below w0.heap.size w0 u4 := below_trans (hS3.alloc hS3.size _) hB4
      have HP4 : Hid (Pk u4 F4 (cmtF m)) := hP4
      obtain ⟨n4, c4, rfl, _, _⟩ := hP4
      clear hB4 hHeld
      refine hK.out _ _ ?_ (fun hHeld => ?_)
      · exact hS4
      clear hK K
      try simp only [Act.put, List.setIfInBounds_toArray, List.set_cons_zero, List.set_cons_succ]
      refine wpAnyH_ready (rs := [10]) (by kernel_rfl) (by simp) ?_
      refine AllReadyH.cons (o := ⟨some 18, _, _, _, _, _⟩) rfl (fun K hK => ?_) AllReadyH.nil
      go_simp
      refine (find_walk (HC0.out.below hS4) HP4.out).mono ?_
      rintro e u5 ⟨rfl, hB5⟩
      have hS5 : Below w0.heap.size w0 u5 := below_trans hS4 hB5
      clear hB5 hHeld
      refine hK.out _ _ ?_ (fun hHeld => ?_)
      · exact hS5
      clear hK K
      try simp only [Act.put, List.setIfInBounds_toArray, List.set_cons_zero, List.set_cons_succ]
      refine wpAnyH_take (i := 11) (oi := ⟨some 19, _, _, _, _, _⟩) (v := ?_) rfl (by kernel_rfl) (by kernel_rfl) (by kernel_rfl) (fun _ _ _ h => h) (Or.inl ⟨by rfl, ?_⟩) hHeld ?_
      rotate_left
      · intro w hSw; (try dsimp only at hSw); go_simp; all_goals (with_reducible rfl)
      try simp only [Act.put, List.setIfInBounds_toArray, List.set_cons_zero, List.set_cons_succ]
      refine wpAnyH_done (by kernel_rfl) ?_ _
      refine NoPanic.normal ?_
      go_wp2_with fail
      go_meet
      exact ⟨rfl, hS5⟩
  case rest =>
    obtain ⟨rfl, hB1⟩ := hcut
    obtain ⟨w1, hw1⟩ : ∃ w1, w1 = wc := ⟨_, rfl⟩
    subst hw1
    have HBW : Hid (Below w.heap.size w w1) := HB0.out.trans (hB1.mono HB0.out.size)
    have HC1 : Hid (CW wz A sb cb c w1) := HC0.out.below hB1
    clear hB1 e0 e1 e2 e3 e4 e5 e6 e7 e8
    by_cases hci : cmtI c m = 0
    rotate_left
    · have hq : (cmtI c m != 0) = true := by simp [hci]
      rw [hq]
      have HL : Hid (cmtC c m = c ∧ cmtM c m = none ∧ cmtR c m = 0) := ⟨if_pos hci, if_pos hci, if_pos hci⟩
      clear hq hci
      go_wp2_with fail
      go_ret2
      rw [HL.out.1, HL.out.2.1, HL.out.2.2]
      exact cwm_none HC1.out (Ch.of_below HBW.out)
    · have hq : (cmtI c m != 0) = false := by simp [hci]
      rw [hq]
      have HCI : Hid (cmtI c m = 0) := hci
      obtain ⟨y, t, hL⟩ : ∃ y t, c.L = y :: t := by
        cases hL : c.L with
        | nil => unfold cmtI at hci; rw [hL, idxY] at hci; cases hci
        | cons y t => exact ⟨y, t, rfl⟩
      have HLL : Hid (c.L = y :: t) := hL
      obtain ⟨C, jb, tv, V, h1, h2, h3, h4⟩ := HC1.out.ex
      have HOK : Hid c.ok := HC1.out.ok
      have H1 : Hid (∀ x, C x → wz.heap.size ≤ x ∧ ¬ A x) := h1
      have H2 : Hid (Lw wz (fun x => A x ∨ C x) sb jb c.p.P c.J c.S w1) := h2
      have H3 : Hid (CM C w1 cb (Pt sb) (Pt jb) c.p tv V c.o) := h3
      have H4 : Hid (V.map Ye.y = c.L) := h4
      obtain ⟨x, V', hV⟩ : ∃ x V', V = x :: V' := by
        cases V with
        | nil => rw [hL] at h4; cases h4
        | cons x V' => exact ⟨x, V', rfl⟩
      have HV : Hid (V = x :: V') := hV
      have hV0 : 0 < V.length := by rw [hV]; simp
      have hxy : x.y = y := by rw [hV, hL, List.map_cons] at h4; exact (List.cons.inj h4).1
      have HT : Hid ((c.L.headD yD).e = x.y.e) := by show _ = _; rw [hL, hxy]; rfl
      obtain ⟨g, cap, rfl, _, _, hgl, h7⟩ := h3.yr.at hV0
      have hyo := h3.ls x (by rw [hV]; simp)
      obtain ⟨fa, fc, xa, xc, f5, f6⟩ := hyo.yl.form
      have HXE : Hid (Nv w1 (.slice xa x.y.e.length xc) x.y.e) := by show Nv _ _ _; rw [← f6]; exact hyo.yl.e
      have HX4 : Hid (x.y.e.length * 8 ≤ 140737488355328) := by have := hyo.ok.el; show _ ≤ _; omega
      have c9 : w1.cell? ⟨cb, 9, none⟩ = some (.pointer (some ⟨jb, 0, none⟩)) := h3.cell 9
      have hlt : cb < w1.heap.size := h3.lt
      have hl0 : (0 : Int) < (V.length : Int) := by omega
      have r10 : ∀ wx, Below w1.heap.size w1 wx → wx.cell? ⟨cb, 10, none⟩ = some (.slice (some ⟨g, 0, none⟩) V.length cap) := fun wx hb => (h3.below hb).cell 10
      have r6 : ∀ wx, Below w1.heap.size w1 wx → wx.cell? ⟨g, 6, none⟩ = some (.slice xa x.y.e.length xc) := fun wx hb => by
        obtain ⟨g9, cap9, e9, _, _, _, h79⟩ := (h3.below hb).yr.at hV0
        cases e9
        have := h79.c6
        simp only [hV, List.getElem_cons_zero, Nat.zero_mul, Nat.zero_add] at this
        rw [← f6]; exact this
      clear hq hci hL h1 h2 h3 h4 hV hxy h7 hyo f5 f6
      go_wp2_with fail
      refine (lw_note H2.out).mono ?_
      rintro e w9 ⟨pa9, pc9, ca9, cc9, rfl, ho1, ho2, hB9⟩
      have HB9 : Hid (Below w1.heap.size w1 w9) := hB9
      obtain ⟨w2, hw2⟩ : ∃ w2, w2 = w9.alloc (Obj.cells #[.int .i64 c.J.n.b, .slice pa9 c.J.n.p.length pc9, .slice ca9 c.J.n.c.length cc9, .int .i64 c.J.n.a] 53) := ⟨_, rfl⟩
      have HW2 : Hid (w2 = w9.alloc (Obj.cells #[.int .i64 c.J.n.b, .slice pa9 c.J.n.p.length pc9, .slice ca9 c.J.n.c.length cc9, .int .i64 c.J.n.a] 53)) := hw2
      have hb92 : Below w9.heap.size w9 w2 := by rw [hw2]; exact below_alloc _ _
      have HB92 : Hid (Below w9.heap.size w9 w2) := hb92
      have HN2 : Hid (w2.heap[w9.heap.size]? = some (.cells #[.int .i64 c.J.n.b, .slice pa9 c.J.n.p.length pc9, .slice ca9 c.J.n.c.length cc9, .int .i64 c.J.n.a] 53 (0, 0))) := by show _ = _; rw [hw2]; exact alloc_at rfl
      have HP2 : Hid (Nv w2 (.slice pa9 c.J.n.p.length pc9) c.J.n.p) := (own_nv ho1 (rgt_p64 HJO.out.r)).below hb92
      have HC2 : Hid (Nv w2 (.slice ca9 c.J.n.c.length cc9) c.J.n.c) := (own_nv ho2 (rgt_c64 HJO.out.r)).below hb92
      have n0 : w2.cell? ⟨w9.heap.size, 0, none⟩ = some (.int .i64 c.J.n.b) := by rw [blk_cell HN2.out]; rfl
      have n1 : w2.cell? ⟨w9.heap.size, 1, none⟩ = some (.slice pa9 c.J.n.p.length pc9) := by rw [blk_cell HN2.out]; rfl
      have n2 : w2.cell? ⟨w9.heap.size, 2, none⟩ = some (.slice ca9 c.J.n.c.length cc9) := by rw [blk_cell HN2.out]; rfl
      have s10 : ∀ wx, Below w9.heap.size w9 wx → wx.cell? ⟨cb, 10, none⟩ = some (.slice (some ⟨g, 0, none⟩) V.length cap) := fun wx hb => r10 wx (below_trans HB9.out hb)
      have s6 : ∀ wx, Below w9.heap.size w9 wx → wx.cell? ⟨g, 6, none⟩ = some (.slice xa x.y.e.length xc) := fun wx hb => r6 wx (below_trans HB9.out hb)
      clear ho1 ho2 hB9 hw2 hb92 r10 r6
      go_wp2_with fail
      rw [← HW2.out]
      refine wp_region_noPanic ?_
      refine wp_region_held_drew (S := (fun wx => Below w9.heap.size w9 wx)) (by kernel_rfl) ?_ (fun hHeld => ?_)
      · exact (below_trans HB92.out (below_drewN w2 1))
      refine wpAnyH_take (i := 0) (oi := ⟨some 26, _, _, _, _, _⟩) (v := ?_) rfl (by kernel_rfl) (by kernel_rfl) (by kernel_rfl) (fun _ _ _ h => h) (Or.inl ⟨by rfl, ?_⟩) hHeld ?_
      rotate_left
      · intro w hSw; (try dsimp only at hSw); go_simp; all_goals (with_reducible rfl)
      try simp only [Act.put, List.setIfInBounds_toArray, List.set_cons_zero, List.set_cons_succ]
      refine wpAnyH_take (i := 2) (oi := ⟨some 28, _, _, _, _, _⟩) (v := ?_) rfl (by kernel_rfl) (by kernel_rfl) (by kernel_rfl) (fun _ _ _ h => h) (Or.inl ⟨by rfl, ?_⟩) hHeld ?_
      rotate_left
      · intro w hSw; (try dsimp only at hSw); go_simp; all_goals (with_reducible rfl)
      try simp only [Act.put, List.setIfInBounds_toArray, List.set_cons_zero, List.set_cons_succ]
      refine wpAnyH_take (i := 3) (oi := ⟨some 29, _, _, _, _, _⟩) (v := ?_) rfl (by kernel_rfl) (by kernel_rfl) (by kernel_rfl) (fun _ _ _ h => h) (Or.inl ⟨by rfl, ?_⟩) hHeld ?_
      rotate_left
      · intro w hSw; (try dsimp only at hSw); go_simp; all_goals (with_reducible rfl)
      try simp only [Act.put, List.setIfInBounds_toArray, List.set_cons_zero, List.set_cons_succ]
      refine wpAnyH_take (i := 4) (oi := ⟨some 30, _, _, _, _, _⟩) (v := ?_) rfl (by kernel_rfl) (by kernel_rfl) (by kernel_rfl) (fun _ _ _ h => h) (Or.inl ⟨by rfl, ?_⟩) hHeld ?_
      rotate_left
      · intro w hSw; (try dsimp only at hSw); go_simp; all_goals (with_reducible rfl)
      try simp only [Act.put, List.setIfInBounds_toArray, List.set_cons_zero, List.set_cons_succ]
      refine wpAnyH_take (i := 5) (oi := ⟨some 31, _, _, _, _, _⟩) (v := ?_) rfl (by kernel_rfl) (by kernel_rfl) (by kernel_rfl) (fun _ _ _ h => h) (Or.inl ⟨by rfl, ?_⟩) hHeld ?_
      rotate_left
      · intro w hSw; (try dsimp only at hSw); go_simp; all_goals (with_reducible rfl)
      try simp only [Act.put, List.setIfInBounds_toArray, List.set_cons_zero, List.set_cons_succ]
      refine wpAnyH_take (i := 6) (oi := ⟨some 32, _, _, _, _, _⟩) (v := ?_) rfl (by kernel_rfl) (by kernel_rfl) (by kernel_rfl) (fun _ _ _ h => h) (Or.inl ⟨by rfl, ?_⟩) hHeld ?_
      rotate_left
      · intro w hSw; (try dsimp only at hSw); go_simp; all_goals (with_reducible rfl)
      try simp only [Act.put, List.setIfInBounds_toArray, List.set_cons_zero, List.set_cons_succ]
      refine wpAnyH_take (i := 7) (oi := ⟨some 33, _, _, _, _, _⟩) (v := ?_) rfl (by kernel_rfl) (by kernel_rfl) (by kernel_rfl) (fun _ _ _ h => h) (Or.inl ⟨by rfl, ?_⟩) hHeld ?_
      rotate_left
      · intro w hSw; (try dsimp only at hSw); go_simp; all_goals (with_reducible rfl)
      try simp only [Act.put, List.setIfInBounds_toArray, List.set_cons_zero, List.set_cons_succ]
      refine wpAnyH_take (i := 8) (oi := ⟨some 34, _, _, _, _, _⟩) (v := ?_) rfl (by kernel_rfl) (by kernel_rfl) (by kernel_rfl) (fun _ _ _ h => h) (Or.inl ⟨by rfl, ?_⟩) hHeld ?_
      rotate_left
      · intro w hSw; (try dsimp only at hSw); go_simp; all_goals (with_reducible rfl)
      try simp only [Act.put, List.setIfInBounds_toArray, List.set_cons_zero, List.set_cons_succ]
      refine wpAnyH_ready (rs := [1]) (by kernel_rfl) (by simp) ?_
      refine AllReadyH.cons (o := ⟨some 27, _, _, _, _, _⟩) rfl (fun K hK => ?_) AllReadyH.nil
      go_simp
      refine hK.out _ _ ?_ (fun hHeld => ?_)
      · exact (below_trans HB92.out (below_drewN w2 1))
      clear hK K
      try simp only [Act.put, List.setIfInBounds_toArray, List.set_cons_zero, List.set_cons_succ]
      refine wpAnyH_ready (rs := [9]) (by kernel_rfl) (by simp) ?_
      refine AllReadyH.cons (o := ⟨some 35, _, _, _, _, _⟩) rfl (fun K hK => ?_) AllReadyH.nil
      go_simp
      have HSW : Hid (Calls Try.prog 65 #[.agg #[.int .i64 c.J.n.b, .slice pa9 c.J.n.p.length pc9, .slice ca9 c.J.n.c.length cc9], .slice xa x.y.e.length xc] w2.drew (Ts w2.drew c.J.n.tp x.y.e)) := step_walk (t := c.J.n.tp) (HP2.out.below (below_drewN w2 1)) (HC2.out.below (below_drewN w2 1)) (((HXE.out.below HB9.out).below HB92.out).below (below_drewN w2 1)) (rgt_c8 HJO.out.r HJO.out.q4) HX4.out ⟨by have := HJO.out.r.b0; show -9223372036854775808 ≤ c.J.n.b; omega, by have := HJO.out.r.b1; show c.J.n.b < _; omega⟩
      refine HSW.out.mono ?_
      rintro e w3 ⟨p3, c3, rfl, ho1, ho2, hB3⟩
      have HTT : Hid (stepT c.J.n.tp x.y.e = cmtT c) := by show _ = _; unfold cmtT; rw [HT.out]
      rw [HTT.out] at ho1 ho2 ⊢
      have HO1 : Hid (OwN w2.heap.size w3 p3 (cmtT c).p) := ho1
      have HO2 : Hid (OwN w2.heap.size w3 c3 (cmtT c).c) := ho2
      have HB3 : Hid (Below w2.heap.size w2 w3) := below_trans (below_drewN w2 1) hB3
      obtain ⟨_, pa3, pc3, rfl, _⟩ := own_nl ho1
      obtain ⟨_, ca3, cc3, rfl, _⟩ := own_nl ho2
      have HB93 : Hid (Below w9.heap.size w9 w3) := below_trans HB92.out HB3.out
      have hN3 := blk_below HN2.out HB3.out
      have z0 : w3.cell? ⟨w9.heap.size, 0, none⟩ = some (.int .i64 c.J.n.b) := by rw [blk_cell hN3]; rfl
      have y0 : w3.frozen? ⟨w9.heap.size, 0, none⟩ = false := blk_soft hN3 0
      have z1 : w3.cell? ⟨w9.heap.size, 1, none⟩ = some (.slice pa9 c.J.n.p.length pc9) := by rw [blk_cell hN3]; rfl
      have y1 : w3.frozen? ⟨w9.heap.size, 1, none⟩ = false := blk_soft hN3 1
      have z2 : w3.cell? ⟨w9.heap.size, 2, none⟩ = some (.slice ca9 c.J.n.c.length cc9) := by rw [blk_cell hN3]; rfl
      have y2 : w3.frozen? ⟨w9.heap.size, 2, none⟩ = false := blk_soft hN3 2
      generalize stepI c.J.n.tp x.y.e = si
      clear ho1 ho2 hB3 hN3
      refine hK.out _ _ ?_ (fun hHeld => ?_)
      · exact HB93.out
      clear hK K
      try simp only [Act.put, List.setIfInBounds_toArray, List.set_cons_zero, List.set_cons_succ]
      refine wpAnyH_take (i := 10) (oi := ⟨some 25, _, _, _, _, _⟩) (v := ?_) rfl (by kernel_rfl) (by kernel_rfl) (by kernel_rfl) (fun _ _ _ h => h) (Or.inl ⟨by rfl, ?_⟩) hHeld ?_
      rotate_left
      · intro w hSw; (try dsimp only at hSw); go_simp; all_goals (with_reducible rfl)
      try simp only [Act.put, List.setIfInBounds_toArray, List.set_cons_zero, List.set_cons_succ]
      refine wpAnyH_take (i := 11) (oi := ⟨some 36, _, _, _, _, _⟩) (v := ?_) rfl (by kernel_rfl) (by kernel_rfl) (by kernel_rfl) (fun _ _ _ h => h) (Or.inl ⟨by rfl, ?_⟩) hHeld ?_
      rotate_left
      · intro w hSw; (try dsimp only at hSw); go_simp; all_goals (with_reducible rfl)
      try simp only [Act.put, List.setIfInBounds_toArray, List.set_cons_zero, List.set_cons_succ]
      refine wpAnyH_take (i := 12) (oi := ⟨some 37, _, _, _, _, _⟩) (v := ?_) rfl (by kernel_rfl) (by kernel_rfl) (by kernel_rfl) (fun _ _ _ h => h) (Or.inl ⟨by rfl, ?_⟩) hHeld ?_
      rotate_left
      · intro w hSw; (try dsimp only at hSw); go_simp; all_goals (with_reducible rfl)
      try simp only [Act.put, List.setIfInBounds_toArray, List.set_cons_zero, List.set_cons_succ]
      refine wpAnyH_take (i := 13) (oi := ⟨some 38, _, _, _, _, _⟩) (v := ?_) rfl (by kernel_rfl) (by kernel_rfl) (by kernel_rfl) (fun _ _ _ h => h) (Or.inl ⟨by rfl, ?_⟩) hHeld ?_
      rotate_left
      · intro w hSw; (try dsimp only at hSw); go_simp; all_goals (with_reducible rfl)
      try simp only [Act.put, List.setIfInBounds_toArray, List.set_cons_zero, List.set_cons_succ]
      refine wpAnyH_ready (rs := [14]) (by kernel_rfl) (by simp) ?_
      refine AllReadyH.cons (o := ⟨none, _, _, _, _, _⟩) rfl (fun K hK => ?_) AllReadyH.nil
      go_simp
      refine hK.out _ _ ?_ (fun hHeld => ?_)
      · exact (HB93.out.trans ((ch_set3 w3 w9.heap.size _ _ _).to_below HB93.out.size (fun x hx => by rw [hx]; exact Nat.le_refl _)))
      clear hK K
      try simp only [Act.put, List.setIfInBounds_toArray, List.set_cons_zero, List.set_cons_succ]
      refine wpAnyH_done (by kernel_rfl) ?_ _
      refine NoPanic.normal ?_
      obtain ⟨w4, hw4⟩ : ∃ w4, w4 = ((w3.setCell ⟨w9.heap.size, 0, none⟩ (.int .i64 (cmtT c).b)).setCell ⟨w9.heap.size, 1, none⟩ (.slice pa3 (cmtT c).p.length pc3)).setCell ⟨w9.heap.size, 2, none⟩ (.slice ca3 (cmtT c).c.length cc3) := ⟨_, rfl⟩
      rw [← hw4]
      have hN4 : w4.heap[w9.heap.size]? = some (.cells #[.int .i64 (cmtT c).b, .slice pa3 (cmtT c).p.length pc3, .slice ca3 (cmtT c).c.length cc3, .int .i64 c.J.n.a] 53 (0, 0)) := by rw [hw4]; exact set3_row (blk_below HN2.out HB3.out)
      have hc34 : Ch (fun x => x = w9.heap.size) w3 w4 := by rw [hw4]; exact ch_set3 _ _ _ _ _
      have hb14 : Below w1.heap.size w1 w4 := by
        have hb13 : Below w1.heap.size w1 w3 := below_trans HB9.out HB93.out
        exact hb13.trans (hc34.to_below hb13.size (fun x hx => by rw [hx]; exact HB9.out.size))
      have hP4 : Nv w4 (.slice pa3 (cmtT c).p.length pc3) (cmtT c).p := own_nv (row_keep HO1.out fun x hx => hc34.block x (HO1.out.lt x hx).2 (own_not HO1.out (blk_below HN2.out HB3.out) (by decide) x hx)) (cmt_in64 HOK.out HJO.out HLL.out (HC1.out.yok y (by rw [HLL.out]; simp))).1
      have hC4 : Nv w4 (.slice ca3 (cmtT c).c.length cc3) (cmtT c).c := own_nv (row_keep HO2.out fun x hx => hc34.block x (HO2.out.lt x hx).2 (own_not HO2.out (blk_below HN2.out HB3.out) (by decide) x hx)) (cmt_in64 HOK.out HJO.out HLL.out (HC1.out.yok y (by rw [HLL.out]; simp))).2
      have hL4 := H2.out.more hb14
      have hm4 := H3.out.below hb14
      obtain ⟨A1, hA1⟩ : ∃ A1 : Nat → Prop, A1 = fun x => (A x ∨ C x) ∨ (w1.heap.size ≤ x ∧ x < w4.heap.size) := ⟨_, rfl⟩
      rw [← hA1] at hL4
      have HA1 : Hid (A1 = fun x => (A x ∨ C x) ∨ (w1.heap.size ≤ x ∧ x < w4.heap.size)) := hA1
      have HL4 : Hid (Lw wz A1 sb jb c.p.P c.J c.S w4) := hL4
      have HM4 : Hid (CM C w4 cb (Pt sb) (Pt jb) c.p (.slice (some ⟨g, 0, none⟩) V.length cap) V c.o) := hm4
      have HP4 : Hid (Nv w4 (.slice pa3 (cmtT c).p.length pc3) (cmtT c).p) := hP4
      have HC4 : Hid (Nv w4 (.slice ca3 (cmtT c).c.length cc3) (cmtT c).c) := hC4
      have HB14 : Hid (Below w1.heap.size w1 w4) := hb14
      have hAC : ∀ x, C x → A1 x := fun x hx => by rw [hA1]; exact .inl (.inr hx)
      have HAC : Hid (∀ x, C x → A1 x) := hAC
      have hANB : A1 w9.heap.size := by rw [hA1]; exact .inr ⟨HB9.out.size, blk_lt hN4⟩
      have KCB : ∀ wx : World, KpA A1 w4 wx → wx.heap[cb]? = some (.cells (cC c.p (Pt sb) (Pt jb) (.slice (some ⟨g, 0, none⟩) V.length cap) c.o) 72 (0, 0)) := fun wx h => by rw [h cb (hAC cb hm4.kc)]; exact hm4.head
      have KNB : ∀ wx : World, KpA A1 w4 wx → wx.heap[w9.heap.size]? = some (.cells #[.int .i64 (cmtT c).b, .slice pa3 (cmtT c).p.length pc3, .slice ca3 (cmtT c).c.length cc3, .int .i64 c.J.n.a] 53 (0, 0)) := fun wx h => by rw [h _ hANB]; exact hN4
      have j9 : ∀ wx : World, KpA A1 w4 wx → wx.cell? ⟨cb, 9, none⟩ = some (.pointer (some ⟨jb, 0, none⟩)) := fun wx h => by rw [blk_cell (KCB wx h)]; rfl
      have m0 : ∀ wx : World, KpA A1 w4 wx → wx.cell? ⟨w9.heap.size, 0, none⟩ = some (.int .i64 (cmtT c).b) := fun wx h => by rw [blk_cell (KNB wx h)]; rfl
      have m1 : ∀ wx : World, KpA A1 w4 wx → wx.cell? ⟨w9.heap.size, 1, none⟩ = some (.slice pa3 (cmtT c).p.length pc3) := fun wx h => by rw [blk_cell (KNB wx h)]; rfl
      have m2 : ∀ wx : World, KpA A1 w4 wx → wx.cell? ⟨w9.heap.size, 2, none⟩ = some (.slice ca3 (cmtT c).c.length cc3) := fun wx h => by rw [blk_cell (KNB wx h)]; rfl
      have m3 : ∀ wx : World, KpA A1 w4 wx → wx.cell? ⟨w9.heap.size, 3, none⟩ = some (.int .i64 c.J.n.a) := fun wx h => by rw [blk_cell (KNB wx h)]; rfl
      clear hw4 hN4 hc34 hb14 hP4 hC4 hL4 hm4 hA1 hAC hANB KCB KNB s10 s6 n0 n1 n2 z0 z1 z2 y0 y1 y2
      go_wp2_with fail
      refine wp_region_noPanic ?_
      refine wp_region_held_drew (S := (fun wx : World => KpA A1 w4 wx)) (by kernel_rfl) ?_ (fun hHeld => ?_)
      · exact (fun x hx => (below_drewN w4 1).block x (HL4.out.al x hx))
      refine wpAnyH_take (i := 0) (oi := ⟨some 39, _, _, _, _, _⟩) (v := ?_) rfl (by kernel_rfl) (by kernel_rfl) (by kernel_rfl) (fun _ _ _ h => h) (Or.inl ⟨by rfl, ?_⟩) hHeld ?_
      rotate_left
      · intro w hSw; (try dsimp only at hSw); go_simp; all_goals (with_reducible rfl)
      try simp only [Act.put, List.setIfInBounds_toArray, List.set_cons_zero, List.set_cons_succ]
      refine wpAnyH_take (i := 1) (oi := ⟨some 40, _, _, _, _, _⟩) (v := ?_) rfl (by kernel_rfl) (by kernel_rfl) (by kernel_rfl) (fun _ _ _ h => h) (Or.inl ⟨by rfl, ?_⟩) hHeld ?_
      rotate_left
      · intro w hSw; (try dsimp only at hSw); go_simp; all_goals (with_reducible rfl)
      try simp only [Act.put, List.setIfInBounds_toArray, List.set_cons_zero, List.set_cons_succ]
      refine wpAnyH_take (i := 2) (oi := ⟨some 41, _, _, _, _, _⟩) (v := ?_) rfl (by kernel_rfl) (by kernel_rfl) (by kernel_rfl) (fun _ _ _ h => h) (Or.inl ⟨by rfl, ?_⟩) hHeld ?_
      rotate_left
      · intro w hSw; (try dsimp only at hSw); go_simp; all_goals (with_reducible rfl)
      try simp only [Act.put, List.setIfInBounds_toArray, List.set_cons_zero, List.set_cons_succ]
      refine wpAnyH_take (i := 3) (oi := ⟨some 42, _, _, _, _, _⟩) (v := ?_) rfl (by kernel_rfl) (by kernel_rfl) (by kernel_rfl) (fun _ _ _ h => h) (Or.inl ⟨by rfl, ?_⟩) hHeld ?_
      rotate_left
      · intro w hSw; (try dsimp only at hSw); go_simp; all_goals (with_reducible rfl)
      try simp only [Act.put, List.setIfInBounds_toArray, List.set_cons_zero, List.set_cons_succ]
      refine wpAnyH_take (i := 4) (oi := ⟨some 43, _, _, _, _, _⟩) (v := ?_) rfl (by kernel_rfl) (by kernel_rfl) (by kernel_rfl) (fun _ _ _ h => h) (Or.inl ⟨by rfl, ?_⟩) hHeld ?_
      rotate_left
      · intro w hSw; (try dsimp only at hSw); go_simp; all_goals (with_reducible rfl)
      try simp only [Act.put, List.setIfInBounds_toArray, List.set_cons_zero, List.set_cons_succ]
      refine wpAnyH_ready (rs := [5]) (by kernel_rfl) (by simp) ?_
      refine AllReadyH.cons (o := ⟨some 44, _, _, _, _, _⟩) rfl (fun K hK => ?_) AllReadyH.nil
      go_simp
      refine (cmt_save (HL4.out.below (below_drewN w4 1)) (HP4.out.below (below_drewN w4 1)) (HC4.out.below (below_drewN w4 1)) HWR.out).mono ?_
      rintro e w5 ⟨he, hL5, hC5⟩
      obtain ⟨ei, hei⟩ : ∃ ei, ei = cmtE c := ⟨_, rfl⟩
      rw [← hei] at he
      subst he
      have HEI : Hid (ei = cmtE c) := hei
      clear hei
      have HL5 : Hid (Lw wz A1 sb jb c.p.P (savJ c.J c.S c.p.P (cmtN c)) (savS c.J c.S c.p.P (cmtN c)) w5) := hL5
      have HC5 : Hid (ChA wz A1 w4 w5) := (Ch.of_below (below_drewN w4 1)).self hC5
      have HS5 : Hid (KpA A1 w4 w5) := fun x hx => HC5.out.block x (HL4.out.al x hx) (fun h => h.2 hx)
      clear hL5 hC5
      refine hK.out _ _ ?_ (fun hHeld => ?_)
      · exact HS5.out
      clear hK K
      try simp only [Act.put, List.setIfInBounds_toArray, List.set_cons_zero, List.set_cons_succ]
      refine wpAnyH_take (i := 6) (oi := ⟨some 7, _, _, _, _, _⟩) (v := ?_) rfl (by kernel_rfl) (by kernel_rfl) (by kernel_rfl) (fun _ _ _ h => h) (Or.inl ⟨by rfl, ?_⟩) hHeld ?_
      rotate_left
      · intro w hSw; (try dsimp only at hSw); go_simp; all_goals (with_reducible rfl)
      try simp only [Act.put, List.setIfInBounds_toArray, List.set_cons_zero, List.set_cons_succ]
      refine wpAnyH_done (by kernel_rfl) ?_ _
      refine NoPanic.normal ?_
      have hm5 : CM C w5 cb (Pt sb) (Pt jb) c.p (.slice (some ⟨g, 0, none⟩) V.length cap) V c.o := HM4.out.keep (fun x hx => HS5.out x (HAC.out x hx)) HC5.out.size
      have HM5 : Hid (CM C w5 cb (Pt sb) (Pt jb) c.p (.slice (some ⟨g, 0, none⟩) V.length cap) V c.o) := hm5
      have HCH5 : Hid (ChA wz A w w5) := ((Ch.of_below HBW.out).self (Ch.of_below HB14.out)).self (ch_le HC5.out (fun x hx => ⟨hx.1, fun h => hx.2 (by rw [HA1.out]; exact .inl (.inl h))⟩))
      have HLW5 : Hid (Lw wz (fun x => A x ∨ C x) sb jb c.p.P (savJ c.J c.S c.p.P (cmtN c)) (savS c.J c.S c.p.P (cmtN c)) w5) := HL5.out.less (fun x hx => by rw [HA1.out]; exact .inl hx)
      have HCW5 : Hid (CW wz A sb cb (cmtJ c) w5) := ⟨⟨C, jb, _, V, H1.out, HLW5.out, hm5, H4.out⟩, ⟨HOK.out.pl, HOK.out.pn, HOK.out.ln⟩⟩
      by_cases hee : ei = 0
      rotate_left
      · have q7 : (ei != 0) = true := by simp [hee]
        have HL : Hid (cmtC c m = cmtJ c ∧ cmtM c m = none ∧ cmtR c m = tolI ei) := by
          have h0 : ¬ cmtI c m ≠ 0 := fun h => h HCI.out
          have h9 : cmtE c ≠ 0 := by rw [← HEI.out]; exact hee
          exact ⟨by unfold cmtC; rw [if_neg h0, if_pos h9], by unfold cmtM; rw [if_neg h0, if_pos h9], by unfold cmtR; rw [if_neg h0, if_pos h9, HEI.out]⟩
        clear hee hm5 j9 m0 m1 m2 m3
        go_wp2_with (go_at_call 49; refine (told_walk ei).mono ?_; rintro e w8 ⟨rfl, h8⟩; replace h8 := h8.symm; subst h8)
        go_ret2
        rw [HL.out.1, HL.out.2.1, HL.out.2.2]
        exact cwm_none HCW5.out HCH5.out
      · have HL : Hid (cmtC c m = { cmtJ c with L := advL (c.L.drop 1) } ∧ cmtM c m = advM (c.L.drop 1) ∧ cmtR c m = 0) := by
          have h0 : ¬ cmtI c m ≠ 0 := fun h => h HCI.out
          have h9 : ¬ cmtE c ≠ 0 := by rw [← HEI.out]; exact fun h => h hee
          exact ⟨by unfold cmtC; rw [if_neg h0, if_neg h9], by unfold cmtM; rw [if_neg h0, if_neg h9], by unfold cmtR; rw [if_neg h0, if_neg h9]⟩
        subst hee
        have b10 : w5.cell? ⟨cb, 10, none⟩ = some (.slice (some ⟨g, 0, none⟩) V.length cap) := hm5.cell 10
        have HV0 : Hid (0 < V.length) := hV0
        clear hm5 j9 m0 m1 m2 m3 hV0
        go_wp2_with fail
        refine (delete_walk (i := 0) (j := 1) HM5.out.yr (by omega) HV0.out).mono ?_
        rintro e w6 ⟨g6, cap6, e6, rfl, hr6, hc6⟩
        cases e6
        have HCR := hidH (CW.cutR (c := cmtJ c) (V' := delY V 0 1) (L' := c.L.drop 1) (tv' := .slice (some ⟨g, 0, none⟩) (0 + (V.length - 1)) cap) ⟨HOK.out.pl, HOK.out.pn, HOK.out.ln⟩ H1.out HLW5.out HM5.out rfl rfl (by rw [delY_len (by omega) HV0.out]; exact hr6) (fun x hx => delY_mem hx) hc6 (by rw [delY_map, H4.out]; simp) (by have := HOK.out.ln; rw [List.length_drop]; omega))
        have hh6 : w6.heap[cb]? = some (.cells (cC c.p (Pt sb) (Pt jb) (.slice (some ⟨g, 0, none⟩) V.length cap) c.o) 72 (0, 0)) := by rw [hc6.block cb HM5.out.lt (fun e => (HM5.out.kr g rfl).2 e.symm)]; exact HM5.out.head
        have d10 : w6.cell? ⟨cb, 10, none⟩ = some (.slice (some ⟨g, 0, none⟩) V.length cap) := by rw [blk_cell hh6]; rfl
        have f10 : w6.frozen? ⟨cb, 10, none⟩ = false := blk_soft hh6 10
        obtain ⟨dl, hdl⟩ : ∃ dl, dl = 0 + (V.length - 1) := ⟨_, rfl⟩
        rw [← hdl] at HCR ⊢
        obtain ⟨w7, hw7⟩ : ∃ w7, w7 = w6.setCell ⟨cb, 10, none⟩ (.slice (some ⟨g, 0, none⟩) dl cap) := ⟨_, rfl⟩
        rw [← hw7] at HCR
        have HW7 : Hid (w7 = w6.setCell ⟨cb, 10, none⟩ (.slice (some ⟨g, 0, none⟩) dl cap)) := hw7
        clear hr6 hc6 hh6 hw7 hdl b10
        go_wp2_with fail
        rw [← HW7.out]
        refine (advance_walk HCR.out.1).mono ?_
        rintro e w8 ⟨v8, B8, rfl, hmg, hBb, hcw, hch⟩
        have HMG : Hid (MgR B8 w8 v8 (advM (c.L.drop 1))) := hmg
        have HBb : Hid (∀ x, B8 x → w7.heap.size ≤ x) := hBb
        have HCW8 : Hid (CW wz (fun x => A x ∨ B8 x) sb cb { cmtJ c with L := advL (c.L.drop 1) } w8) := hcw
        have HCH8 : Hid (ChA wz A w w8) := (HCH5.out.self HCR.out.2).self hch
        have HSZ : Hid (w.heap.size ≤ w7.heap.size) := (HCH5.out.self HCR.out.2).size
        obtain ⟨a8, n8, c8, rfl⟩ := hmg.nil_or
        clear hmg hBb hcw hch
        go_wp2_with fail
        go_ret2
        rw [HL.out.1, HL.out.2.1, HL.out.2.2]
        exact ⟨_, B8, rfl, HMG.out, fun x hx => Nat.le_trans HSZ.out (HBb.out x hx), HCW8.out, HCH8.out⟩
end

end Go.Proofs.Ytpndafieknddcaa
