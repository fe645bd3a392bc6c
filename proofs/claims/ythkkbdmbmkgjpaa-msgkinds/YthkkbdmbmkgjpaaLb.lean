/- The walk of MsgKinds. -/
import Derived.Test.YthkkbdmbmkgjpaaJn

namespace Go.Proofs.Ythkkbdmbmkgjpaa

open Go.RowKit



theorem fld_1 {k : Int} (h : 1 ≤ k ∧ k ≤ 8) : decide (fld k = 1) = (decide (k ≤ 3) || (k == 8)) := by
  have : k = 1 ∨ k = 2 ∨ k = 3 ∨ k = 4 ∨ k = 5 ∨ k = 6 ∨ k = 7 ∨ k = 8 := by omega
  rcases this with rfl | rfl | rfl | rfl | rfl | rfl | rfl | rfl <;> decide
theorem fld_2 {k : Int} (h : 1 ≤ k ∧ k ≤ 8) : decide (fld k = 2) = (k == 4) := by
  have : k = 1 ∨ k = 2 ∨ k = 3 ∨ k = 4 ∨ k = 5 ∨ k = 6 ∨ k = 7 ∨ k = 8 := by omega
  rcases this with rfl | rfl | rfl | rfl | rfl | rfl | rfl | rfl <;> decide
theorem fld_3 {k : Int} (h : 1 ≤ k ∧ k ≤ 8) : decide (fld k = 3) = (k == 6) := by
  have : k = 1 ∨ k = 2 ∨ k = 3 ∨ k = 4 ∨ k = 5 ∨ k = 6 ∨ k = 7 ∨ k = 8 := by omega
  rcases this with rfl | rfl | rfl | rfl | rfl | rfl | rfl | rfl <;> decide
theorem fld_4 {k : Int} (h : 1 ≤ k ∧ k ≤ 8) : decide (fld k = 4) = ((k == 5) || (k == 7)) := by
  have : k = 1 ∨ k = 2 ∨ k = 3 ∨ k = 4 ∨ k = 5 ∨ k = 6 ∨ k = 7 ∨ k = 8 := by omega
  rcases this with rfl | rfl | rfl | rfl | rfl | rfl | rfl | rfl <;> decide
theorem snd_all {m : Ms} (h : sndM m = true) : nodB m.F = true ∧ nodB m.T = true ∧ ctB m.B = true ∧ ctB m.A = true ∧ bareB (fld m.K) m = true ∧ askB (fld m.K) m = true := by
  simpa [sndM] using h
/-- A message with another kind. -/
def kd (m : Ms) (k : Int) : Ms := ⟨k, m.F, m.T, m.B, m.A, m.C, m.E, m.Q, m.P⟩
theorem kd_snd {m : Ms} (h : sndM m = true) (k : Int) : sndM (kd m k) = (bareB (fld k) m && askB (fld k) m) := by
  obtain ⟨h1, h2, h3, h4, _⟩ := snd_all h
  have e1 : bareB (fld k) (kd m k) = bareB (fld k) m := rfl
  have e2 : askB (fld k) (kd m k) = askB (fld k) m := rfl
  unfold sndM
  rw [show (kd m k).F = m.F from rfl, show (kd m k).T = m.T from rfl, show (kd m k).B = m.B from rfl, show (kd m k).A = m.A from rfl, show (kd m k).K = k from rfl, h1, h2, h3, h4, e1, e2]
  simp
theorem kd_some {m : Ms} (h : sndM m = true) {k : Int} (hb : ∀ g, bareB g m = true → g = fld m.K) : sndM (kd m k) = decide (fld k = fld m.K) := by
  obtain ⟨_, _, _, _, h5, h6⟩ := snd_all h
  rw [kd_snd h]
  by_cases e : fld k = fld m.K
  · rw [e, h5, h6]; simp
  · rw [decide_eq_false e]
    cases hk : bareB (fld k) m
    · rfl
    · exact absurd (hb _ hk) e
theorem has_1 {m : Ms} (h : sndM m = true) (he : 0 < m.E.length) : fld m.K = 1 ∧ ∀ g, bareB g m = true → g = fld m.K := by
  have q : ∀ g, bareB g m = true → g = 1 := fun g hg => by
    rcases (bare_parts hg).1 with e | e
    · exact e
    · rw [e] at he; simp at he
  have e := q _ (snd_all h).2.2.2.2.1
  exact ⟨e, fun g hg => by rw [e]; exact q g hg⟩
theorem has_2 {m : Ms} (h : sndM m = true) (he : 0 < m.Q.length) : fld m.K = 2 ∧ ∀ g, bareB g m = true → g = fld m.K := by
  have q : ∀ g, bareB g m = true → g = 2 := fun g hg => by
    rcases (bare_parts hg).2.1 with e | e
    · exact e
    · rw [e] at he; simp at he
  have e := q _ (snd_all h).2.2.2.2.1
  exact ⟨e, fun g hg => by rw [e]; exact q g hg⟩
theorem has_3 {m : Ms} (h : sndM m = true) (he : 0 < m.P.length) : fld m.K = 3 ∧ ∀ g, bareB g m = true → g = fld m.K := by
  have q : ∀ g, bareB g m = true → g = 3 := fun g hg => by
    rcases (bare_parts hg).2.2.1 with e | e
    · exact e
    · rw [e] at he; simp at he
  have e := q _ (snd_all h).2.2.2.2.1
  exact ⟨e, fun g hg => by rw [e]; exact q g hg⟩
theorem has_4 {m : Ms} (h : sndM m = true) (he : 0 < m.C) : fld m.K = 4 ∧ ∀ g, bareB g m = true → g = fld m.K := by
  have q : ∀ g, bareB g m = true → g = 4 := fun g hg => by
    rcases (bare_parts hg).2.2.2 with e | e
    · exact e
    · rw [e] at he; simp at he
  have e := q _ (snd_all h).2.2.2.2.1
  exact ⟨e, fun g hg => by rw [e]; exact q g hg⟩
theorem kd_none {m : Ms} {k : Int} (hk : k < 1 ∨ 8 < k) : sndM (kd m k) = false := by
  cases h : sndM (kd m k)
  · rfl
  · have := (snd_parts h).k
    simp only [kd] at this
    omega
/-- What each part says of the kind. -/
theorem kinds_say {m : Ms} (h : sndM m = true) {k : Int} (hk : 1 ≤ k ∧ k ≤ 8) :
    (0 < m.E.length → sndM (kd m k) = (decide (k ≤ 3) || (k == 8))) ∧ (0 < m.C → sndM (kd m k) = ((k == 5) || (k == 7))) ∧ (0 < m.Q.length → sndM (kd m k) = (k == 4)) ∧ (0 < m.P.length → sndM (kd m k) = (k == 6)) := by
  refine ⟨fun he => ?_, fun he => ?_, fun he => ?_, fun he => ?_⟩
  · rw [kd_some h (has_1 h he).2, (has_1 h he).1, fld_1 hk]
  · rw [kd_some h (has_4 h he).2, (has_4 h he).1, fld_4 hk]
  · rw [kd_some h (has_2 h he).2, (has_2 h he).1, fld_2 hk]
  · rw [kd_some h (has_3 h he).2, (has_3 h he).1, fld_3 hk]
theorem code_one {m : Ms} (he : 0 < m.E.length) : sndM ⟨m.K, m.F, m.T, m.B, m.A, 1, m.E, m.Q, m.P⟩ = false := by
  cases h : sndM ⟨m.K, m.F, m.T, m.B, m.A, 1, m.E, m.Q, m.P⟩
  · rfl
  · have h1 := has_1 h he
    have h2 := has_4 h (by simp)
    simp only at h1 h2
    omega
theorem ends_none {m : Ms} (hs : sndM m = true) (he : 0 < m.E.length) : sndM ⟨m.K, m.F, m.T, m.B, m.A, m.C, [], m.Q, m.P⟩ = false := by
  cases h : sndM ⟨m.K, m.F, m.T, m.B, m.A, m.C, [], m.Q, m.P⟩
  · rfl
  · have h1 := has_1 hs he
    have h2 := (ends_parts (snd_parts h).ask h1.1).1
    simp at h2
theorem with_F {m : Ms} (h : sndM m = true) (x : Int) : sndM ⟨m.K, x, m.T, m.B, m.A, m.C, m.E, m.Q, m.P⟩ = nodB x := by
  obtain ⟨h1, h2, h3, h4, h5, h6⟩ := snd_all h
  have e5 : bareB (fld m.K) ⟨m.K, x, m.T, m.B, m.A, m.C, m.E, m.Q, m.P⟩ = true := h5
  have e6 : askB (fld m.K) ⟨m.K, x, m.T, m.B, m.A, m.C, m.E, m.Q, m.P⟩ = true := h6
  simp [sndM, h2, h3, h4, e5, e6]
theorem with_T {m : Ms} (h : sndM m = true) (x : Int) : sndM ⟨m.K, m.F, x, m.B, m.A, m.C, m.E, m.Q, m.P⟩ = nodB x := by
  obtain ⟨h1, h2, h3, h4, h5, h6⟩ := snd_all h
  have e5 : bareB (fld m.K) ⟨m.K, m.F, x, m.B, m.A, m.C, m.E, m.Q, m.P⟩ = true := h5
  have e6 : askB (fld m.K) ⟨m.K, m.F, x, m.B, m.A, m.C, m.E, m.Q, m.P⟩ = true := h6
  simp [sndM, h1, h3, h4, e5, e6]
theorem with_B {m : Ms} (h : sndM m = true) (x : Int) : sndM ⟨m.K, m.F, m.T, x, m.A, m.C, m.E, m.Q, m.P⟩ = ctB x := by
  obtain ⟨h1, h2, h3, h4, h5, h6⟩ := snd_all h
  have e5 : bareB (fld m.K) ⟨m.K, m.F, m.T, x, m.A, m.C, m.E, m.Q, m.P⟩ = true := h5
  have e6 : askB (fld m.K) ⟨m.K, m.F, m.T, x, m.A, m.C, m.E, m.Q, m.P⟩ = true := h6
  simp [sndM, h1, h2, h4, e5, e6]
theorem with_A {m : Ms} (h : sndM m = true) (x : Int) : sndM ⟨m.K, m.F, m.T, m.B, x, m.C, m.E, m.Q, m.P⟩ = ctB x := by
  obtain ⟨h1, h2, h3, h4, h5, h6⟩ := snd_all h
  have e5 : bareB (fld m.K) ⟨m.K, m.F, m.T, m.B, x, m.C, m.E, m.Q, m.P⟩ = true := h5
  have e6 : askB (fld m.K) ⟨m.K, m.F, m.T, m.B, x, m.C, m.E, m.Q, m.P⟩ = true := h6
  simp [sndM, h1, h2, h3, e5, e6]


theorem mx_kd {w : World} {P : Nat} {m : Ms} {k : Int} {a b c : Value} (h : MX w P { m with K := k } a b c) : MX w P (kd m k) a b c := ⟨h.c0, h.c1, h.c2, h.c3, h.c4, h.c5, h.c6, h.c7, h.c8, h.z⟩
theorem mx_e {w : World} {P : Nat} {m : Ms} {a b c : Value} (h : MX w P m a b c) (e : List Int) : MX w P ⟨m.K, m.F, m.T, m.B, m.A, m.C, e, m.Q, m.P⟩ a b c := ⟨h.c0, h.c1, h.c2, h.c3, h.c4, h.c5, h.c6, h.c7, h.c8, h.z⟩
/-- Where MsgKinds stands: its message at N, its other one at D. -/
structure KI (w0 w : World) (N D : Nat) (m : Ms) (ev qv pv : Value) (x : Ms) (a b c : Value) : Prop where
  n : N = w0.heap.size
  d : N < D
  ml : ML w0 m ev qv pv
  mx : MX w N m ev qv pv
  nx : MX w D x a b c
  below : Below N w0 w
theorem KI.old {w0 w w' : World} {N D : Nat} {m n : Ms} {ev qv pv a b c : Value} (h : KI w0 w N D m ev qv pv n a b c) (hb : Below w.heap.size w w') : KI w0 w' N D m ev qv pv n a b c :=
  ⟨h.n, h.d, h.ml, h.mx.keep hb, h.nx.keep hb, by have k := h.below; rw [h.n] at k ⊢; exact below_trans k hb⟩
theorem KI.lists {w0 w : World} {N D : Nat} {m n : Ms} {ev qv pv a b c : Value} (h : KI w0 w N D m ev qv pv n a b c) : ML w m ev qv pv := h.ml.below (by have k := h.below; rw [h.n] at k; exact k)
theorem KI.over {w0 w : World} {N D : Nat} {m n : Ms} {ev qv pv a b c : Value} (h : KI w0 w N D m ev qv pv n a b c) : KI w0 (setM w D m ev qv pv) N D m ev qv pv m ev qv pv :=
  ⟨h.n, h.d, h.ml, h.mx.ch (ch_setM _ _ _ _ _ _) (by have := h.d; show ¬ N = D; omega), h.nx.over m ev qv pv, h.below.trans ((ch_setM _ _ _ _ _ _).to_below (Nat.le_of_lt (cell_lt h.mx.c0)) (fun x hx => by have := h.d; omega))⟩
theorem KI.set {w0 w : World} {N D j : Nat} {m n n' : Ms} {ev qv pv a b c a' b' c' u : Value} (h : KI w0 w N D m ev qv pv n a b c) (k : MX (w.setCell ⟨D, j, none⟩ u) D n' a' b' c') : KI w0 (w.setCell ⟨D, j, none⟩ u) N D m ev qv pv n' a' b' c' :=
  ⟨h.n, h.d, h.ml, h.mx.ch (ch_set _ _ _ _) (by have := h.d; show ¬ N = D; omega), k, h.below.trans ((ch_set _ _ _ _).to_below (Nat.le_of_lt (cell_lt h.mx.c0)) (fun x hx => by have := h.d; omega))⟩


set_option maxRecDepth 100000 in
set_option maxHeartbeats 8000000 in
theorem msgkinds_walk {w : World} {m : Ms} {ev qv pv : Value} (h : ML w m ev qv pv) (k y : Int) :
    Calls Try.prog 7 #[.agg #[.int .i64 m.K, .int .i64 m.F, .int .i64 m.T, .int .i64 m.B, .int .i64 m.A, .int .i64 m.C, ev, qv, pv], .int .i64 k, .int .i64 y] w fun e w' => e = .returned (.bool true) ∧ Below w.heap.size w w' := by
  have HL : Hid (ML w m ev qv pv) := h
  have HX0 : Hid (MX (w.alloc (Obj.cells #[.int .i64 m.K, .int .i64 m.F, .int .i64 m.T, .int .i64 m.B, .int .i64 m.A, .int .i64 m.C, ev, qv, pv] 26)) w.heap.size m ev qv pv) := mx_new w m ev qv pv
  have HB0 : Hid (Below w.heap.size w (w.alloc (Obj.cells #[.int .i64 m.K, .int .i64 m.F, .int .i64 m.T, .int .i64 m.B, .int .i64 m.A, .int .i64 m.C, ev, qv, pv] 26))) := below_alloc _ _
  obtain ⟨ea, en, ec, rfl, he, _⟩ := sv_le h.e
  obtain ⟨qa, qn, qc, rfl, hq, _⟩ := sv_le h.q
  obtain ⟨pa, pn, pc, rfl, hp, _⟩ := qv_le h.p
  rw [ib_len] at hq
  have HEL : Hid (en = m.E.length) := he
  have HQL : Hid (qn = m.Q.length) := hq
  have HPL : Hid (pn = m.P.length) := hp
  clear h he hq hp
  go_enter Try.func7, Try.ntmps7
  go_upto_region 1 with fail
  obtain ⟨N, hN⟩ : ∃ N, N = w.heap.size := ⟨_, rfl⟩
  rw [← hN] at HX0 ⊢
  have HN : Hid (N = w.heap.size) := hN
  clear hN
  generalize w.alloc (Obj.cells #[.int .i64 m.K, .int .i64 m.F, .int .i64 m.T, .int .i64 m.B, .int .i64 m.A, .int .i64 m.C, .slice ea en ec, .slice qa qn qc, .slice pa pn pc] 26) = w0 at HX0 HB0 ⊢
  go_wp2_with fail
  refine (awake_walk _).mono ?_
  rintro e w1 ⟨rfl, hB1⟩
  have HX1 : Hid _ := HX0.out.keep hB1
  have HB1 : Hid (Below w.heap.size w w1) := below_trans HB0.out hB1
  have HL1 : Hid _ := HL.out.below HB1.out
  clear hB1 HX0 HB0
  have c0 := HX1.out.c0; have c1 := HX1.out.c1; have c2 := HX1.out.c2; have c3 := HX1.out.c3; have c4 := HX1.out.c4; have c5 := HX1.out.c5; have c6 := HX1.out.c6; have c7 := HX1.out.c7; have c8 := HX1.out.c8
  cases hs : sndM m
  · go_wp2_with fail
    refine (sound_walk HL1.out).mono ?_
    rw [hs]
    rintro e w2 ⟨rfl, hB2⟩
    go_wp2_with fail
    go_ret
    exact ⟨rfl, below_trans HB1.out hB2⟩
  have HS : Hid (sndM m = true) := hs
  clear hs
  go_wp2_with fail
  refine (sound_walk HL1.out).mono ?_
  rw [HS.out]
  rintro e w2 ⟨rfl, hB2⟩
  have HX2 : Hid _ := HX1.out.keep hB2
  have HB2 : Hid (Below w.heap.size w w2) := below_trans HB1.out hB2
  clear hB2 HX1 HB1 HL1 c0 c1 c2 c3 c4 c5 c6 c7 c8
  have c0 := HX2.out.c0; have c1 := HX2.out.c1; have c2 := HX2.out.c2; have c3 := HX2.out.c3; have c4 := HX2.out.c4; have c5 := HX2.out.c5; have c6 := HX2.out.c6; have c7 := HX2.out.c7; have c8 := HX2.out.c8
  have HI : Hid (KI w (w2.alloc (Obj.cells #[.int .i64 m.K, .int .i64 m.F, .int .i64 m.T, .int .i64 m.B, .int .i64 m.A, .int .i64 m.C, .slice ea en ec, .slice qa qn qc, .slice pa pn pc] 26)) N w2.heap.size m (.slice ea en ec) (.slice qa qn qc) (.slice pa pn pc) m (.slice ea en ec) (.slice qa qn qc) (.slice pa pn pc)) :=
    ⟨HN.out, cell_lt HX2.out.c0, HL.out, HX2.out.keep (below_alloc _ _), mx_new w2 m _ _ _, by have k := below_trans HB2.out (below_alloc w2 (Obj.cells #[.int .i64 m.K, .int .i64 m.F, .int .i64 m.T, .int .i64 m.B, .int .i64 m.A, .int .i64 m.C, .slice ea en ec, .slice qa qn qc, .slice pa pn pc] 26)); rw [HN.out]; exact k⟩
  go_upto_region 6 with fail
  obtain ⟨D, hD⟩ : ∃ D, D = w2.heap.size := ⟨_, rfl⟩
  rw [← hD] at HI ⊢
  generalize w2.alloc (Obj.cells #[.int .i64 m.K, .int .i64 m.F, .int .i64 m.T, .int .i64 m.B, .int .i64 m.A, .int .i64 m.C, .slice ea en ec, .slice qa qn qc, .slice pa pn pc] 26) = w3 at HI ⊢
  clear hD c0 c1 c2 c3 c4 c5 c6 c7 c8 HX2 HB2
  have z0 := HI.out.nx.z 0
  have d0 := HI.out.nx.c0
  have HI3 : Hid (KI w (w3.setCell ⟨D, 0, none⟩ (.int .i64 k)) N D m (.slice ea en ec) (.slice qa qn qc) (.slice pa pn pc) (kd m k) (.slice ea en ec) (.slice qa qn qc) (.slice pa pn pc)) := HI.out.set (mx_kd (HI.out.nx.s0 k))
  go_upto_region 7 with fail
  generalize w3.setCell ⟨D, 0, none⟩ (.int .i64 k) = w4 at HI3 ⊢
  clear z0 d0 HI
  have d0 := HI3.out.nx.c0; have d1 := HI3.out.nx.c1; have d2 := HI3.out.nx.c2; have d3 := HI3.out.nx.c3; have d4 := HI3.out.nx.c4; have d5 := HI3.out.nx.c5; have d6 := HI3.out.nx.c6; have d7 := HI3.out.nx.c7; have d8 := HI3.out.nx.c8
  have k0 : w4.cell? ⟨D, 0, none⟩ = some (.int .i64 k) := HI3.out.nx.c0
  clear d0
  have HML : Hid (ML w4 (kd m k) (.slice ea en ec) (.slice qa qn qc) (.slice pa pn pc)) := ⟨HI3.out.lists.e, HI3.out.lists.q, HI3.out.lists.p⟩
  by_cases hk : k < 1 ∨ 8 < k
  · have HZ : Hid (sndM (kd m k) = false) := kd_none hk
    by_cases hk1 : k < 1
    · clear hk
      go_wp2_with fail
      refine (sound_walk HML.out).mono ?_
      rw [HZ.out]
      rintro e w5 ⟨rfl, hB5⟩
      go_wp2_with fail
      go_ret
      exact ⟨rfl, by have k := below_trans (by have q := HI3.out.below; rw [HI3.out.n] at q; exact q) hB5; exact k⟩
    · have hk8 : 8 < k := by omega
      clear hk
      go_wp2_with fail
      refine (sound_walk HML.out).mono ?_
      rw [HZ.out]
      rintro e w5 ⟨rfl, hB5⟩
      go_wp2_with fail
      go_ret
      exact ⟨rfl, by have k := below_trans (by have q := HI3.out.below; rw [HI3.out.n] at q; exact q) hB5; exact k⟩
  have HK : Hid (1 ≤ k ∧ k ≤ 8) := ⟨by omega, by omega⟩
  have hk1 : decide (k < 1) = false := decide_eq_false (by omega)
  have hk8 : decide (8 < k) = false := decide_eq_false (by omega)
  clear hk
  obtain ⟨s1, s2, s3, s4⟩ := kinds_say HS.out HK.out
  obtain ⟨ok, hok⟩ : ∃ ok, ok = sndM (kd m k) := ⟨_, rfl⟩
  rw [← hok] at s1 s2 s3 s4
  have HOKE : Hid (ok = sndM (kd m k)) := hok
  clear hok
  rw [← HEL.out] at s1
  rw [← HQL.out] at s3
  rw [← HPL.out] at s4
  have HSAY : Hid ((0 < en → ok = (decide (k ≤ 3) || (k == 8))) ∧ (0 < m.C → ok = ((k == 5) || (k == 7))) ∧ (0 < qn → ok = (k == 4)) ∧ (0 < pn → ok = (k == 6))) := ⟨s1, s2, s3, s4⟩
  clear s1 s2 s3 s4
  go_wp2_with fail
  refine (sound_walk HML.out).mono ?_
  rw [← HOKE.out]
  rintro e w5 ⟨rfl, hB5⟩
  have HI5 : Hid _ := HI3.out.old hB5
  clear hB5 HI3 HML d1 d2 d3 d4 d5 d6 d7 d8 k0
  have c0 := HI5.out.mx.c0; have c1 := HI5.out.mx.c1; have c2 := HI5.out.mx.c2; have c3 := HI5.out.mx.c3; have c4 := HI5.out.mx.c4; have c5 := HI5.out.mx.c5; have c6 := HI5.out.mx.c6; have c7 := HI5.out.mx.c7; have c8 := HI5.out.mx.c8
  obtain ⟨g1, g2, g3, g4⟩ := HSAY.out
  obtain ⟨be, hbe⟩ : ∃ b, decide ((0 : Int) < (en : Int)) = b := ⟨_, rfl⟩
  obtain ⟨bc, hbc⟩ : ∃ b, decide (0 < m.C) = b := ⟨_, rfl⟩
  obtain ⟨bq, hbq⟩ : ∃ b, decide ((0 : Int) < (qn : Int)) = b := ⟨_, rfl⟩
  obtain ⟨bp, hbp⟩ : ∃ b, decide ((0 : Int) < (pn : Int)) = b := ⟨_, rfl⟩
  go_upto_region 10 with fail
  go_cut [8, 80] (fun _ c wx => c = .bool false ∧ wx = w5)
  case first =>
    have hex : Hid (be = true → bc = false ∧ bq = false ∧ bp = false) := fun q => by
      have h1 := of_decide_eq_true (hbe.trans q)
      obtain ⟨_, e2, e3, e4⟩ := bare_parts (snd_all HS.out).2.2.2.2.1
      have hf := (has_1 HS.out (by have := HEL.out; omega)).1
      refine ⟨?_, ?_, ?_⟩
      · rw [← hbc]; exact decide_eq_false (by rcases e4 with e | e; omega; omega)
      · rw [← hbq]; exact decide_eq_false (by rcases e2 with e | e; omega; have := HQL.out; rw [e] at this; simp at this; omega)
      · rw [← hbp]; exact decide_eq_false (by rcases e3 with e | e; omega; have := HPL.out; rw [e] at this; simp at this; omega)
    have hex2 : Hid (bc = true → bq = false ∧ bp = false) := fun q => by
      have h1 := of_decide_eq_true (hbc.trans q)
      obtain ⟨_, e2, e3, e4⟩ := bare_parts (snd_all HS.out).2.2.2.2.1
      have hf := (has_4 HS.out h1).1
      refine ⟨?_, ?_⟩
      · rw [← hbq]; exact decide_eq_false (by rcases e2 with e | e; omega; have := HQL.out; rw [e] at this; simp at this; omega)
      · rw [← hbp]; exact decide_eq_false (by rcases e3 with e | e; omega; have := HPL.out; rw [e] at this; simp at this; omega)
    have hex3 : Hid (bq = true → bp = false) := fun q => by
      have h1 := of_decide_eq_true (hbq.trans q)
      obtain ⟨_, e2, e3, e4⟩ := bare_parts (snd_all HS.out).2.2.2.2.1
      have hf := (has_2 HS.out (by have := HQL.out; omega)).1
      rw [← hbp]; exact decide_eq_false (by rcases e3 with e | e; omega; have := HPL.out; rw [e] at this; simp at this; omega)
    have ke : Hid (be = true → ok = (decide (k ≤ 3) || (k == 8))) := fun q => g1 (by have := of_decide_eq_true (hbe.trans q); omega)
    have kc : Hid (bc = true → ok = ((k == 5) || (k == 7))) := fun q => g2 (of_decide_eq_true (hbc.trans q))
    have kq : Hid (bq = true → ok = (k == 4)) := fun q => g3 (by have := of_decide_eq_true (hbq.trans q); omega)
    have kp : Hid (bp = true → ok = (k == 6)) := fun q => g4 (by have := of_decide_eq_true (hbp.trans q); omega)
    clear g1 g2 g3 g4
    have hbe' : decide (0 < en) = be := by rw [← hbe]; congr 1; simp only [eq_iff_iff]; omega
    have hbq' : decide (0 < qn) = bq := by rw [← hbq]; congr 1; simp only [eq_iff_iff]; omega
    have hbp' : decide (0 < pn) = bp := by rw [← hbp]; congr 1; simp only [eq_iff_iff]; omega
    cases be
    · cases bc
      · cases bq
        · cases bp
          · go_wp2_with fail
            go_meet
            exact ⟨rfl, rfl⟩
          · have e := kp.out rfl
            rw [e]
            have hn : ((k == 6) != (k == 6)) = false := by simp
            clear e
            go_wp2_with fail
            go_meet
            exact ⟨rfl, rfl⟩
        · obtain rfl := hex3.out rfl
          have e := kq.out rfl
          rw [e]
          have hn : ((k == 4) != (k == 4)) = false := by simp
          clear e
          go_wp2_with fail
          go_meet
          exact ⟨rfl, rfl⟩
      · obtain ⟨rfl, rfl⟩ := hex2.out rfl
        have e := kc.out rfl
        cases h5 : (k == 5)
        · rw [h5, Bool.false_or] at e
          rw [e]
          have hn : ((k == 7) != (k == 7)) = false := by simp
          clear e
          go_wp2_with fail
          go_meet
          exact ⟨rfl, rfl⟩
        · rw [h5, Bool.true_or] at e
          rw [e]
          clear e
          go_wp2_with fail
          go_meet
          exact ⟨rfl, rfl⟩
    · obtain ⟨rfl, rfl, rfl⟩ := hex.out rfl
      have e := ke.out rfl
      by_cases h3 : k ≤ 3
      · rw [decide_eq_true h3, Bool.true_or] at e
        rw [e]
        clear e
        go_wp2_with fail
        go_meet
        exact ⟨rfl, rfl⟩
      · rw [decide_eq_false h3, Bool.false_or] at e
        rw [e]
        have hn : ((k == 8) != (k == 8)) = false := by simp
        clear e
        go_wp2_with fail
        go_meet
        exact ⟨rfl, rfl⟩
  case rest =>
    obtain ⟨rfl, hwc⟩ := hcut
    replace hwc := hwc.symm
    subst hwc
    clear g1 g2 g3 g4 hbc hbq hbp HSAY HOKE
    clear c0 c1 c2 c3 c4 c5 c7 c8
    go_upto_if 84 with fail
    go_cut [] (fun wx => ∃ n a b c, KI w wx N D m (.slice ea en ec) (.slice qa qn qc) (.slice pa pn pc) n a b c)
    case first =>
      by_cases he0 : be = true
      · subst he0
        have HE0 : Hid (0 < m.E.length) := by have h1 := of_decide_eq_true hbe; have := HEL.out; show _ < _; omega
        have hei : (0 : Int) < (en : Int) := of_decide_eq_true hbe
        have hen : 0 < en := by omega
        clear hbe c6
        have c0 := HI5.out.mx.c0; have c1 := HI5.out.mx.c1; have c2 := HI5.out.mx.c2; have c3 := HI5.out.mx.c3; have c4 := HI5.out.mx.c4; have c5 := HI5.out.mx.c5; have c6 := HI5.out.mx.c6; have c7 := HI5.out.mx.c7; have c8 := HI5.out.mx.c8
        have z0 := HI5.out.nx.z 0; have z1 := HI5.out.nx.z 1; have z2 := HI5.out.nx.z 2; have z3 := HI5.out.nx.z 3; have z4 := HI5.out.nx.z 4; have z5 := HI5.out.nx.z 5; have z6 := HI5.out.nx.z 6; have z7 := HI5.out.nx.z 7; have z8 := HI5.out.nx.z 8
        have d0 := HI5.out.nx.c0; have d1 := HI5.out.nx.c1; have d2 := HI5.out.nx.c2; have d3 := HI5.out.nx.c3; have d4 := HI5.out.nx.c4; have d5 := HI5.out.nx.c5; have d6 := HI5.out.nx.c6; have d7 := HI5.out.nx.c7; have d8 := HI5.out.nx.c8
        have HK6 := KI.set HI5.out.over (HI5.out.over.nx.s5 1)
        unfold setM at HK6
        replace HK6 : Hid (KI w ((((((((((w5.setCell ⟨D, 0, none⟩ (.int .i64 m.K)).setCell ⟨D, 1, none⟩ (.int .i64 m.F)).setCell ⟨D, 2, none⟩ (.int .i64 m.T)).setCell ⟨D, 3, none⟩ (.int .i64 m.B)).setCell ⟨D, 4, none⟩ (.int .i64 m.A)).setCell ⟨D, 5, none⟩ (.int .i64 m.C)).setCell ⟨D, 6, none⟩ ((.slice ea en ec))).setCell ⟨D, 7, none⟩ ((.slice qa qn qc))).setCell ⟨D, 8, none⟩ ((.slice pa pn pc))).setCell ⟨D, 5, none⟩ (.int .i64 1)) N D m (.slice ea en ec) (.slice qa qn qc) (.slice pa pn pc) ⟨m.K, m.F, m.T, m.B, m.A, 1, m.E, m.Q, m.P⟩ (.slice ea en ec) (.slice qa qn qc) (.slice pa pn pc)) := HK6
        go_upto_region 15 with fail
        generalize (((((((((w5.setCell ⟨D, 0, none⟩ (.int .i64 m.K)).setCell ⟨D, 1, none⟩ (.int .i64 m.F)).setCell ⟨D, 2, none⟩ (.int .i64 m.T)).setCell ⟨D, 3, none⟩ (.int .i64 m.B)).setCell ⟨D, 4, none⟩ (.int .i64 m.A)).setCell ⟨D, 5, none⟩ (.int .i64 m.C)).setCell ⟨D, 6, none⟩ ((.slice ea en ec))).setCell ⟨D, 7, none⟩ ((.slice qa qn qc))).setCell ⟨D, 8, none⟩ ((.slice pa pn pc))).setCell ⟨D, 5, none⟩ (.int .i64 1) = w6 at HK6 ⊢
        clear c0 z0 d0 c1 z1 d1 c2 z2 d2 c3 z3 d3 c4 z4 d4 c5 z5 d5 c6 z6 d6 c7 z7 d7 c8 z8 d8 HI5
        have d0 : w6.cell? ⟨D, 0, none⟩ = some (.int .i64 (m.K)) := HK6.out.nx.c0
        have d1 : w6.cell? ⟨D, 1, none⟩ = some (.int .i64 (m.F)) := HK6.out.nx.c1
        have d2 : w6.cell? ⟨D, 2, none⟩ = some (.int .i64 (m.T)) := HK6.out.nx.c2
        have d3 : w6.cell? ⟨D, 3, none⟩ = some (.int .i64 (m.B)) := HK6.out.nx.c3
        have d4 : w6.cell? ⟨D, 4, none⟩ = some (.int .i64 (m.A)) := HK6.out.nx.c4
        have d5 : w6.cell? ⟨D, 5, none⟩ = some (.int .i64 (1)) := HK6.out.nx.c5
        have d6 : w6.cell? ⟨D, 6, none⟩ = some ((.slice ea en ec)) := HK6.out.nx.c6
        have d7 : w6.cell? ⟨D, 7, none⟩ = some ((.slice qa qn qc)) := HK6.out.nx.c7
        have d8 : w6.cell? ⟨D, 8, none⟩ = some ((.slice pa pn pc)) := HK6.out.nx.c8
        go_wp2_with fail
        refine (sound_walk (m := ⟨m.K, m.F, m.T, m.B, m.A, 1, m.E, m.Q, m.P⟩) ⟨HK6.out.lists.e, HK6.out.lists.q, HK6.out.lists.p⟩).mono ?_
        rw [code_one HE0.out]
        rintro e w7 ⟨rfl, hB7⟩
        have HI7 : Hid _ := HK6.out.old hB7
        clear hB7 HK6 d0 d1 d2 d3 d4 d5 d6 d7 d8
        have c0 := HI7.out.mx.c0; have c1 := HI7.out.mx.c1; have c2 := HI7.out.mx.c2; have c3 := HI7.out.mx.c3; have c4 := HI7.out.mx.c4; have c5 := HI7.out.mx.c5; have c6 := HI7.out.mx.c6; have c7 := HI7.out.mx.c7; have c8 := HI7.out.mx.c8
        have z0 := HI7.out.nx.z 0; have z1 := HI7.out.nx.z 1; have z2 := HI7.out.nx.z 2; have z3 := HI7.out.nx.z 3; have z4 := HI7.out.nx.z 4; have z5 := HI7.out.nx.z 5; have z6 := HI7.out.nx.z 6; have z7 := HI7.out.nx.z 7; have z8 := HI7.out.nx.z 8
        have d0 := HI7.out.nx.c0; have d1 := HI7.out.nx.c1; have d2 := HI7.out.nx.c2; have d3 := HI7.out.nx.c3; have d4 := HI7.out.nx.c4; have d5 := HI7.out.nx.c5; have d6 := HI7.out.nx.c6; have d7 := HI7.out.nx.c7; have d8 := HI7.out.nx.c8
        have HK6 := KI.set HI7.out.over (mx_e (HI7.out.over.nx.s6 (.slice none 0 0)) [])
        unfold setM at HK6
        replace HK6 : Hid (KI w ((((((((((w7.setCell ⟨D, 0, none⟩ (.int .i64 m.K)).setCell ⟨D, 1, none⟩ (.int .i64 m.F)).setCell ⟨D, 2, none⟩ (.int .i64 m.T)).setCell ⟨D, 3, none⟩ (.int .i64 m.B)).setCell ⟨D, 4, none⟩ (.int .i64 m.A)).setCell ⟨D, 5, none⟩ (.int .i64 m.C)).setCell ⟨D, 6, none⟩ ((.slice ea en ec))).setCell ⟨D, 7, none⟩ ((.slice qa qn qc))).setCell ⟨D, 8, none⟩ ((.slice pa pn pc))).setCell ⟨D, 6, none⟩ ((.slice none 0 0))) N D m (.slice ea en ec) (.slice qa qn qc) (.slice pa pn pc) ⟨m.K, m.F, m.T, m.B, m.A, m.C, [], m.Q, m.P⟩ (.slice none 0 0) (.slice qa qn qc) (.slice pa pn pc)) := HK6
        go_upto_region 19 with fail
        generalize (((((((((w7.setCell ⟨D, 0, none⟩ (.int .i64 m.K)).setCell ⟨D, 1, none⟩ (.int .i64 m.F)).setCell ⟨D, 2, none⟩ (.int .i64 m.T)).setCell ⟨D, 3, none⟩ (.int .i64 m.B)).setCell ⟨D, 4, none⟩ (.int .i64 m.A)).setCell ⟨D, 5, none⟩ (.int .i64 m.C)).setCell ⟨D, 6, none⟩ ((.slice ea en ec))).setCell ⟨D, 7, none⟩ ((.slice qa qn qc))).setCell ⟨D, 8, none⟩ ((.slice pa pn pc))).setCell ⟨D, 6, none⟩ ((.slice none 0 0)) = w8 at HK6 ⊢
        clear c0 z0 d0 c1 z1 d1 c2 z2 d2 c3 z3 d3 c4 z4 d4 c5 z5 d5 c6 z6 d6 c7 z7 d7 c8 z8 d8 HI7
        have d0 : w8.cell? ⟨D, 0, none⟩ = some (.int .i64 (m.K)) := HK6.out.nx.c0
        have d1 : w8.cell? ⟨D, 1, none⟩ = some (.int .i64 (m.F)) := HK6.out.nx.c1
        have d2 : w8.cell? ⟨D, 2, none⟩ = some (.int .i64 (m.T)) := HK6.out.nx.c2
        have d3 : w8.cell? ⟨D, 3, none⟩ = some (.int .i64 (m.B)) := HK6.out.nx.c3
        have d4 : w8.cell? ⟨D, 4, none⟩ = some (.int .i64 (m.A)) := HK6.out.nx.c4
        have d5 : w8.cell? ⟨D, 5, none⟩ = some (.int .i64 (m.C)) := HK6.out.nx.c5
        have d6 : w8.cell? ⟨D, 6, none⟩ = some ((.slice none 0 0)) := HK6.out.nx.c6
        have d7 : w8.cell? ⟨D, 7, none⟩ = some ((.slice qa qn qc)) := HK6.out.nx.c7
        have d8 : w8.cell? ⟨D, 8, none⟩ = some ((.slice pa pn pc)) := HK6.out.nx.c8
        go_wp2_with fail
        refine (sound_walk (m := ⟨m.K, m.F, m.T, m.B, m.A, m.C, [], m.Q, m.P⟩) ⟨Sv.nil _ _, HK6.out.lists.q, HK6.out.lists.p⟩).mono ?_
        rw [ends_none HS.out HE0.out]
        rintro e w9 ⟨rfl, hB9⟩
        have HI9 : Hid _ := HK6.out.old hB9
        clear hB9 HK6 d0 d1 d2 d3 d4 d5 d6 d7 d8
        go_wp2_with fail
        go_meet
        exact ⟨_, _, _, _, HI9.out⟩
      · have hbf : be = false := by simpa using he0
        subst hbf
        have hei : ¬ (0 : Int) < (en : Int) := of_decide_eq_false hbe
        have hen : ¬ 0 < en := by omega
        clear hbe
        go_wp2_with fail
        go_meet
        exact ⟨_, _, _, _, HI5.out⟩
    case rest =>
      obtain ⟨n5, a5, b5, e5, hki⟩ := hcut
      have HIA : Hid _ := hki
      clear hki HI5 hbe c6
      have c0 := HIA.out.mx.c0; have c1 := HIA.out.mx.c1; have c2 := HIA.out.mx.c2; have c3 := HIA.out.mx.c3; have c4 := HIA.out.mx.c4; have c5 := HIA.out.mx.c5; have c6 := HIA.out.mx.c6; have c7 := HIA.out.mx.c7; have c8 := HIA.out.mx.c8
      have z0 := HIA.out.nx.z 0; have z1 := HIA.out.nx.z 1; have z2 := HIA.out.nx.z 2; have z3 := HIA.out.nx.z 3; have z4 := HIA.out.nx.z 4; have z5 := HIA.out.nx.z 5; have z6 := HIA.out.nx.z 6; have z7 := HIA.out.nx.z 7; have z8 := HIA.out.nx.z 8
      have d0 := HIA.out.nx.c0; have d1 := HIA.out.nx.c1; have d2 := HIA.out.nx.c2; have d3 := HIA.out.nx.c3; have d4 := HIA.out.nx.c4; have d5 := HIA.out.nx.c5; have d6 := HIA.out.nx.c6; have d7 := HIA.out.nx.c7; have d8 := HIA.out.nx.c8
      have HK6 := KI.set HIA.out.over (HIA.out.over.nx.s1 y)
      unfold setM at HK6
      replace HK6 : Hid (KI w ((((((((((wc.setCell ⟨D, 0, none⟩ (.int .i64 m.K)).setCell ⟨D, 1, none⟩ (.int .i64 m.F)).setCell ⟨D, 2, none⟩ (.int .i64 m.T)).setCell ⟨D, 3, none⟩ (.int .i64 m.B)).setCell ⟨D, 4, none⟩ (.int .i64 m.A)).setCell ⟨D, 5, none⟩ (.int .i64 m.C)).setCell ⟨D, 6, none⟩ ((.slice ea en ec))).setCell ⟨D, 7, none⟩ ((.slice qa qn qc))).setCell ⟨D, 8, none⟩ ((.slice pa pn pc))).setCell ⟨D, 1, none⟩ (.int .i64 y)) N D m (.slice ea en ec) (.slice qa qn qc) (.slice pa pn pc) ⟨m.K, y, m.T, m.B, m.A, m.C, m.E, m.Q, m.P⟩ (.slice ea en ec) (.slice qa qn qc) (.slice pa pn pc)) := HK6
      go_upto_region 23 with fail
      generalize (((((((((wc.setCell ⟨D, 0, none⟩ (.int .i64 m.K)).setCell ⟨D, 1, none⟩ (.int .i64 m.F)).setCell ⟨D, 2, none⟩ (.int .i64 m.T)).setCell ⟨D, 3, none⟩ (.int .i64 m.B)).setCell ⟨D, 4, none⟩ (.int .i64 m.A)).setCell ⟨D, 5, none⟩ (.int .i64 m.C)).setCell ⟨D, 6, none⟩ ((.slice ea en ec))).setCell ⟨D, 7, none⟩ ((.slice qa qn qc))).setCell ⟨D, 8, none⟩ ((.slice pa pn pc))).setCell ⟨D, 1, none⟩ (.int .i64 y) = wf0 at HK6 ⊢
      clear c0 z0 d0 c1 z1 d1 c2 z2 d2 c3 z3 d3 c4 z4 d4 c5 z5 d5 c6 z6 d6 c7 z7 d7 c8 z8 d8 HIA
      have d0 : wf0.cell? ⟨D, 0, none⟩ = some (.int .i64 (m.K)) := HK6.out.nx.c0
      have d1 : wf0.cell? ⟨D, 1, none⟩ = some (.int .i64 (y)) := HK6.out.nx.c1
      have d2 : wf0.cell? ⟨D, 2, none⟩ = some (.int .i64 (m.T)) := HK6.out.nx.c2
      have d3 : wf0.cell? ⟨D, 3, none⟩ = some (.int .i64 (m.B)) := HK6.out.nx.c3
      have d4 : wf0.cell? ⟨D, 4, none⟩ = some (.int .i64 (m.A)) := HK6.out.nx.c4
      have d5 : wf0.cell? ⟨D, 5, none⟩ = some (.int .i64 (m.C)) := HK6.out.nx.c5
      have d6 : wf0.cell? ⟨D, 6, none⟩ = some ((.slice ea en ec)) := HK6.out.nx.c6
      have d7 : wf0.cell? ⟨D, 7, none⟩ = some ((.slice qa qn qc)) := HK6.out.nx.c7
      have d8 : wf0.cell? ⟨D, 8, none⟩ = some ((.slice pa pn pc)) := HK6.out.nx.c8
      go_cut [104] (fun c wx => c = .bool false ∧ ∃ n a b c, KI w wx N D m (.slice ea en ec) (.slice qa qn qc) (.slice pa pn pc) n a b c)
      case first =>
        by_cases hy0 : 0 ≤ y
        · have h0 : 0 ≤ y := hy0
          have e : nodB y = decide (y < 9) := by unfold nodB; rw [decide_eq_true h0]; rw [Bool.true_and]
          go_wp2_with fail
          refine (sound_walk (m := ⟨m.K, y, m.T, m.B, m.A, m.C, m.E, m.Q, m.P⟩) ⟨HK6.out.lists.e, HK6.out.lists.q, HK6.out.lists.p⟩).mono ?_
          rw [with_F HS.out, e]
          rintro e9 wg ⟨rfl, hBg⟩
          have HIg : Hid _ := HK6.out.old hBg
          clear hBg e
          have hn : (decide (y < 9) != decide (y < 9)) = false := by simp
          have hq : (decide (y < 9) == decide (y < 9)) = true := by simp
          go_wp2_with fail
          go_meet
          exact ⟨rfl, _, _, _, _, HIg.out⟩
        · have h0 : ¬ 0 ≤ y := hy0
          have e : nodB y = false := by unfold nodB; rw [decide_eq_false h0]; rw [Bool.false_and]
          go_wp2_with fail
          refine (sound_walk (m := ⟨m.K, y, m.T, m.B, m.A, m.C, m.E, m.Q, m.P⟩) ⟨HK6.out.lists.e, HK6.out.lists.q, HK6.out.lists.p⟩).mono ?_
          rw [with_F HS.out, e]
          rintro e9 wg ⟨rfl, hBg⟩
          have HIg : Hid _ := HK6.out.old hBg
          clear hBg e
          go_wp2_with fail
          go_meet
          exact ⟨rfl, _, _, _, _, HIg.out⟩
      case rest =>
        obtain ⟨rfl, n6, a6, b6, e6, hki⟩ := hcut
        have HIB : Hid _ := hki
        clear hki HK6 d0 d1 d2 d3 d4 d5 d6 d7 d8
        obtain ⟨wd0, hwd⟩ : ∃ q, q = wc := ⟨_, rfl⟩
        rw [← hwd] at HIB ⊢
        clear hwd
        have c0 := HIB.out.mx.c0; have c1 := HIB.out.mx.c1; have c2 := HIB.out.mx.c2; have c3 := HIB.out.mx.c3; have c4 := HIB.out.mx.c4; have c5 := HIB.out.mx.c5; have c6 := HIB.out.mx.c6; have c7 := HIB.out.mx.c7; have c8 := HIB.out.mx.c8
        have z0 := HIB.out.nx.z 0; have z1 := HIB.out.nx.z 1; have z2 := HIB.out.nx.z 2; have z3 := HIB.out.nx.z 3; have z4 := HIB.out.nx.z 4; have z5 := HIB.out.nx.z 5; have z6 := HIB.out.nx.z 6; have z7 := HIB.out.nx.z 7; have z8 := HIB.out.nx.z 8
        have d0 := HIB.out.nx.c0; have d1 := HIB.out.nx.c1; have d2 := HIB.out.nx.c2; have d3 := HIB.out.nx.c3; have d4 := HIB.out.nx.c4; have d5 := HIB.out.nx.c5; have d6 := HIB.out.nx.c6; have d7 := HIB.out.nx.c7; have d8 := HIB.out.nx.c8
        have HK6 := KI.set HIB.out.over (HIB.out.over.nx.s2 y)
        unfold setM at HK6
        replace HK6 : Hid (KI w ((((((((((wd0.setCell ⟨D, 0, none⟩ (.int .i64 m.K)).setCell ⟨D, 1, none⟩ (.int .i64 m.F)).setCell ⟨D, 2, none⟩ (.int .i64 m.T)).setCell ⟨D, 3, none⟩ (.int .i64 m.B)).setCell ⟨D, 4, none⟩ (.int .i64 m.A)).setCell ⟨D, 5, none⟩ (.int .i64 m.C)).setCell ⟨D, 6, none⟩ ((.slice ea en ec))).setCell ⟨D, 7, none⟩ ((.slice qa qn qc))).setCell ⟨D, 8, none⟩ ((.slice pa pn pc))).setCell ⟨D, 2, none⟩ (.int .i64 y)) N D m (.slice ea en ec) (.slice qa qn qc) (.slice pa pn pc) ⟨m.K, m.F, y, m.B, m.A, m.C, m.E, m.Q, m.P⟩ (.slice ea en ec) (.slice qa qn qc) (.slice pa pn pc)) := HK6
        go_upto_region 27 with fail
        generalize (((((((((wd0.setCell ⟨D, 0, none⟩ (.int .i64 m.K)).setCell ⟨D, 1, none⟩ (.int .i64 m.F)).setCell ⟨D, 2, none⟩ (.int .i64 m.T)).setCell ⟨D, 3, none⟩ (.int .i64 m.B)).setCell ⟨D, 4, none⟩ (.int .i64 m.A)).setCell ⟨D, 5, none⟩ (.int .i64 m.C)).setCell ⟨D, 6, none⟩ ((.slice ea en ec))).setCell ⟨D, 7, none⟩ ((.slice qa qn qc))).setCell ⟨D, 8, none⟩ ((.slice pa pn pc))).setCell ⟨D, 2, none⟩ (.int .i64 y) = wf1 at HK6 ⊢
        clear c0 z0 d0 c1 z1 d1 c2 z2 d2 c3 z3 d3 c4 z4 d4 c5 z5 d5 c6 z6 d6 c7 z7 d7 c8 z8 d8 HIB
        have d0 : wf1.cell? ⟨D, 0, none⟩ = some (.int .i64 (m.K)) := HK6.out.nx.c0
        have d1 : wf1.cell? ⟨D, 1, none⟩ = some (.int .i64 (m.F)) := HK6.out.nx.c1
        have d2 : wf1.cell? ⟨D, 2, none⟩ = some (.int .i64 (y)) := HK6.out.nx.c2
        have d3 : wf1.cell? ⟨D, 3, none⟩ = some (.int .i64 (m.B)) := HK6.out.nx.c3
        have d4 : wf1.cell? ⟨D, 4, none⟩ = some (.int .i64 (m.A)) := HK6.out.nx.c4
        have d5 : wf1.cell? ⟨D, 5, none⟩ = some (.int .i64 (m.C)) := HK6.out.nx.c5
        have d6 : wf1.cell? ⟨D, 6, none⟩ = some ((.slice ea en ec)) := HK6.out.nx.c6
        have d7 : wf1.cell? ⟨D, 7, none⟩ = some ((.slice qa qn qc)) := HK6.out.nx.c7
        have d8 : wf1.cell? ⟨D, 8, none⟩ = some ((.slice pa pn pc)) := HK6.out.nx.c8
        go_cut [116] (fun c wx => c = .bool false ∧ ∃ n a b c, KI w wx N D m (.slice ea en ec) (.slice qa qn qc) (.slice pa pn pc) n a b c)
        case first =>
          by_cases hy1 : 0 ≤ y
          · have h0 : 0 ≤ y := hy1
            have e : nodB y = decide (y < 9) := by unfold nodB; rw [decide_eq_true h0]; rw [Bool.true_and]
            go_wp2_with fail
            refine (sound_walk (m := ⟨m.K, m.F, y, m.B, m.A, m.C, m.E, m.Q, m.P⟩) ⟨HK6.out.lists.e, HK6.out.lists.q, HK6.out.lists.p⟩).mono ?_
            rw [with_T HS.out, e]
            rintro e9 wg ⟨rfl, hBg⟩
            have HIg : Hid _ := HK6.out.old hBg
            clear hBg e
            have hn : (decide (y < 9) != decide (y < 9)) = false := by simp
            have hq : (decide (y < 9) == decide (y < 9)) = true := by simp
            go_wp2_with fail
            go_meet
            exact ⟨rfl, _, _, _, _, HIg.out⟩
          · have h0 : ¬ 0 ≤ y := hy1
            have e : nodB y = false := by unfold nodB; rw [decide_eq_false h0]; rw [Bool.false_and]
            go_wp2_with fail
            refine (sound_walk (m := ⟨m.K, m.F, y, m.B, m.A, m.C, m.E, m.Q, m.P⟩) ⟨HK6.out.lists.e, HK6.out.lists.q, HK6.out.lists.p⟩).mono ?_
            rw [with_T HS.out, e]
            rintro e9 wg ⟨rfl, hBg⟩
            have HIg : Hid _ := HK6.out.old hBg
            clear hBg e
            go_wp2_with fail
            go_meet
            exact ⟨rfl, _, _, _, _, HIg.out⟩
        case rest =>
          obtain ⟨rfl, n7, a7, b7, e7, hki⟩ := hcut
          have HIC : Hid _ := hki
          clear hki HK6 d0 d1 d2 d3 d4 d5 d6 d7 d8
          obtain ⟨wd1, hwd⟩ : ∃ q, q = wc := ⟨_, rfl⟩
          rw [← hwd] at HIC ⊢
          clear hwd
          have c0 := HIC.out.mx.c0; have c1 := HIC.out.mx.c1; have c2 := HIC.out.mx.c2; have c3 := HIC.out.mx.c3; have c4 := HIC.out.mx.c4; have c5 := HIC.out.mx.c5; have c6 := HIC.out.mx.c6; have c7 := HIC.out.mx.c7; have c8 := HIC.out.mx.c8
          have z0 := HIC.out.nx.z 0; have z1 := HIC.out.nx.z 1; have z2 := HIC.out.nx.z 2; have z3 := HIC.out.nx.z 3; have z4 := HIC.out.nx.z 4; have z5 := HIC.out.nx.z 5; have z6 := HIC.out.nx.z 6; have z7 := HIC.out.nx.z 7; have z8 := HIC.out.nx.z 8
          have d0 := HIC.out.nx.c0; have d1 := HIC.out.nx.c1; have d2 := HIC.out.nx.c2; have d3 := HIC.out.nx.c3; have d4 := HIC.out.nx.c4; have d5 := HIC.out.nx.c5; have d6 := HIC.out.nx.c6; have d7 := HIC.out.nx.c7; have d8 := HIC.out.nx.c8
          have HK6 := KI.set HIC.out.over (HIC.out.over.nx.s4 y)
          unfold setM at HK6
          replace HK6 : Hid (KI w ((((((((((wd1.setCell ⟨D, 0, none⟩ (.int .i64 m.K)).setCell ⟨D, 1, none⟩ (.int .i64 m.F)).setCell ⟨D, 2, none⟩ (.int .i64 m.T)).setCell ⟨D, 3, none⟩ (.int .i64 m.B)).setCell ⟨D, 4, none⟩ (.int .i64 m.A)).setCell ⟨D, 5, none⟩ (.int .i64 m.C)).setCell ⟨D, 6, none⟩ ((.slice ea en ec))).setCell ⟨D, 7, none⟩ ((.slice qa qn qc))).setCell ⟨D, 8, none⟩ ((.slice pa pn pc))).setCell ⟨D, 4, none⟩ (.int .i64 y)) N D m (.slice ea en ec) (.slice qa qn qc) (.slice pa pn pc) ⟨m.K, m.F, m.T, m.B, y, m.C, m.E, m.Q, m.P⟩ (.slice ea en ec) (.slice qa qn qc) (.slice pa pn pc)) := HK6
          go_upto_region 31 with fail
          generalize (((((((((wd1.setCell ⟨D, 0, none⟩ (.int .i64 m.K)).setCell ⟨D, 1, none⟩ (.int .i64 m.F)).setCell ⟨D, 2, none⟩ (.int .i64 m.T)).setCell ⟨D, 3, none⟩ (.int .i64 m.B)).setCell ⟨D, 4, none⟩ (.int .i64 m.A)).setCell ⟨D, 5, none⟩ (.int .i64 m.C)).setCell ⟨D, 6, none⟩ ((.slice ea en ec))).setCell ⟨D, 7, none⟩ ((.slice qa qn qc))).setCell ⟨D, 8, none⟩ ((.slice pa pn pc))).setCell ⟨D, 4, none⟩ (.int .i64 y) = wf2 at HK6 ⊢
          clear c0 z0 d0 c1 z1 d1 c2 z2 d2 c3 z3 d3 c4 z4 d4 c5 z5 d5 c6 z6 d6 c7 z7 d7 c8 z8 d8 HIC
          have d0 : wf2.cell? ⟨D, 0, none⟩ = some (.int .i64 (m.K)) := HK6.out.nx.c0
          have d1 : wf2.cell? ⟨D, 1, none⟩ = some (.int .i64 (m.F)) := HK6.out.nx.c1
          have d2 : wf2.cell? ⟨D, 2, none⟩ = some (.int .i64 (m.T)) := HK6.out.nx.c2
          have d3 : wf2.cell? ⟨D, 3, none⟩ = some (.int .i64 (m.B)) := HK6.out.nx.c3
          have d4 : wf2.cell? ⟨D, 4, none⟩ = some (.int .i64 (y)) := HK6.out.nx.c4
          have d5 : wf2.cell? ⟨D, 5, none⟩ = some (.int .i64 (m.C)) := HK6.out.nx.c5
          have d6 : wf2.cell? ⟨D, 6, none⟩ = some ((.slice ea en ec)) := HK6.out.nx.c6
          have d7 : wf2.cell? ⟨D, 7, none⟩ = some ((.slice qa qn qc)) := HK6.out.nx.c7
          have d8 : wf2.cell? ⟨D, 8, none⟩ = some ((.slice pa pn pc)) := HK6.out.nx.c8
          go_cut [128] (fun c wx => c = .bool false ∧ ∃ n a b c, KI w wx N D m (.slice ea en ec) (.slice qa qn qc) (.slice pa pn pc) n a b c)
          case first =>
            by_cases hy2 : 1 ≤ y
            · have h0 : 1 ≤ y := hy2
              have e : ctB y = decide (y ≤ 1099511627776) := by unfold ctB; rw [decide_eq_true h0]; rw [Bool.true_and]
              go_wp2_with fail
              refine (sound_walk (m := ⟨m.K, m.F, m.T, m.B, y, m.C, m.E, m.Q, m.P⟩) ⟨HK6.out.lists.e, HK6.out.lists.q, HK6.out.lists.p⟩).mono ?_
              rw [with_A HS.out, e]
              rintro e9 wg ⟨rfl, hBg⟩
              have HIg : Hid _ := HK6.out.old hBg
              clear hBg e
              have hn : (decide (y ≤ 1099511627776) != decide (y ≤ 1099511627776)) = false := by simp
              have hq : (decide (y ≤ 1099511627776) == decide (y ≤ 1099511627776)) = true := by simp
              go_wp2_with fail
              go_meet
              exact ⟨rfl, _, _, _, _, HIg.out⟩
            · have h0 : ¬ 1 ≤ y := hy2
              have e : ctB y = false := by unfold ctB; rw [decide_eq_false h0]; rw [Bool.false_and]
              go_wp2_with fail
              refine (sound_walk (m := ⟨m.K, m.F, m.T, m.B, y, m.C, m.E, m.Q, m.P⟩) ⟨HK6.out.lists.e, HK6.out.lists.q, HK6.out.lists.p⟩).mono ?_
              rw [with_A HS.out, e]
              rintro e9 wg ⟨rfl, hBg⟩
              have HIg : Hid _ := HK6.out.old hBg
              clear hBg e
              go_wp2_with fail
              go_meet
              exact ⟨rfl, _, _, _, _, HIg.out⟩
          case rest =>
            obtain ⟨rfl, n8, a8, b8, e8, hki⟩ := hcut
            have HID : Hid _ := hki
            clear hki HK6 d0 d1 d2 d3 d4 d5 d6 d7 d8
            obtain ⟨wd2, hwd⟩ : ∃ q, q = wc := ⟨_, rfl⟩
            rw [← hwd] at HID ⊢
            clear hwd
            have c0 := HID.out.mx.c0; have c1 := HID.out.mx.c1; have c2 := HID.out.mx.c2; have c3 := HID.out.mx.c3; have c4 := HID.out.mx.c4; have c5 := HID.out.mx.c5; have c6 := HID.out.mx.c6; have c7 := HID.out.mx.c7; have c8 := HID.out.mx.c8
            have z0 := HID.out.nx.z 0; have z1 := HID.out.nx.z 1; have z2 := HID.out.nx.z 2; have z3 := HID.out.nx.z 3; have z4 := HID.out.nx.z 4; have z5 := HID.out.nx.z 5; have z6 := HID.out.nx.z 6; have z7 := HID.out.nx.z 7; have z8 := HID.out.nx.z 8
            have d0 := HID.out.nx.c0; have d1 := HID.out.nx.c1; have d2 := HID.out.nx.c2; have d3 := HID.out.nx.c3; have d4 := HID.out.nx.c4; have d5 := HID.out.nx.c5; have d6 := HID.out.nx.c6; have d7 := HID.out.nx.c7; have d8 := HID.out.nx.c8
            have HK6 := KI.set HID.out.over (HID.out.over.nx.s3 y)
            unfold setM at HK6
            replace HK6 : Hid (KI w ((((((((((wd2.setCell ⟨D, 0, none⟩ (.int .i64 m.K)).setCell ⟨D, 1, none⟩ (.int .i64 m.F)).setCell ⟨D, 2, none⟩ (.int .i64 m.T)).setCell ⟨D, 3, none⟩ (.int .i64 m.B)).setCell ⟨D, 4, none⟩ (.int .i64 m.A)).setCell ⟨D, 5, none⟩ (.int .i64 m.C)).setCell ⟨D, 6, none⟩ ((.slice ea en ec))).setCell ⟨D, 7, none⟩ ((.slice qa qn qc))).setCell ⟨D, 8, none⟩ ((.slice pa pn pc))).setCell ⟨D, 3, none⟩ (.int .i64 y)) N D m (.slice ea en ec) (.slice qa qn qc) (.slice pa pn pc) ⟨m.K, m.F, m.T, y, m.A, m.C, m.E, m.Q, m.P⟩ (.slice ea en ec) (.slice qa qn qc) (.slice pa pn pc)) := HK6
            go_upto_region 35 with fail
            generalize (((((((((wd2.setCell ⟨D, 0, none⟩ (.int .i64 m.K)).setCell ⟨D, 1, none⟩ (.int .i64 m.F)).setCell ⟨D, 2, none⟩ (.int .i64 m.T)).setCell ⟨D, 3, none⟩ (.int .i64 m.B)).setCell ⟨D, 4, none⟩ (.int .i64 m.A)).setCell ⟨D, 5, none⟩ (.int .i64 m.C)).setCell ⟨D, 6, none⟩ ((.slice ea en ec))).setCell ⟨D, 7, none⟩ ((.slice qa qn qc))).setCell ⟨D, 8, none⟩ ((.slice pa pn pc))).setCell ⟨D, 3, none⟩ (.int .i64 y) = wf3 at HK6 ⊢
            clear c0 z0 d0 c1 z1 d1 c2 z2 d2 c3 z3 d3 c4 z4 d4 c5 z5 d5 c6 z6 d6 c7 z7 d7 c8 z8 d8 HID
            have d0 : wf3.cell? ⟨D, 0, none⟩ = some (.int .i64 (m.K)) := HK6.out.nx.c0
            have d1 : wf3.cell? ⟨D, 1, none⟩ = some (.int .i64 (m.F)) := HK6.out.nx.c1
            have d2 : wf3.cell? ⟨D, 2, none⟩ = some (.int .i64 (m.T)) := HK6.out.nx.c2
            have d3 : wf3.cell? ⟨D, 3, none⟩ = some (.int .i64 (y)) := HK6.out.nx.c3
            have d4 : wf3.cell? ⟨D, 4, none⟩ = some (.int .i64 (m.A)) := HK6.out.nx.c4
            have d5 : wf3.cell? ⟨D, 5, none⟩ = some (.int .i64 (m.C)) := HK6.out.nx.c5
            have d6 : wf3.cell? ⟨D, 6, none⟩ = some ((.slice ea en ec)) := HK6.out.nx.c6
            have d7 : wf3.cell? ⟨D, 7, none⟩ = some ((.slice qa qn qc)) := HK6.out.nx.c7
            have d8 : wf3.cell? ⟨D, 8, none⟩ = some ((.slice pa pn pc)) := HK6.out.nx.c8
            by_cases hy3 : 1 ≤ y
            · have h0 : 1 ≤ y := hy3
              have e : ctB y = decide (y ≤ 1099511627776) := by unfold ctB; rw [decide_eq_true h0]; rw [Bool.true_and]
              go_wp2_with fail
              refine (sound_walk (m := ⟨m.K, m.F, m.T, y, m.A, m.C, m.E, m.Q, m.P⟩) ⟨HK6.out.lists.e, HK6.out.lists.q, HK6.out.lists.p⟩).mono ?_
              rw [with_B HS.out, e]
              rintro e9 wg ⟨rfl, hBg⟩
              have HIg : Hid _ := HK6.out.old hBg
              clear hBg e
              have hn : (decide (y ≤ 1099511627776) != decide (y ≤ 1099511627776)) = false := by simp
              have hq : (decide (y ≤ 1099511627776) == decide (y ≤ 1099511627776)) = true := by simp
              go_wp2_with fail
              go_ret
              exact ⟨rfl, by have q := HIg.out.below; rw [HIg.out.n] at q; exact q⟩
            · have h0 : ¬ 1 ≤ y := hy3
              have e : ctB y = false := by unfold ctB; rw [decide_eq_false h0]; rw [Bool.false_and]
              go_wp2_with fail
              refine (sound_walk (m := ⟨m.K, m.F, m.T, y, m.A, m.C, m.E, m.Q, m.P⟩) ⟨HK6.out.lists.e, HK6.out.lists.q, HK6.out.lists.p⟩).mono ?_
              rw [with_B HS.out, e]
              rintro e9 wg ⟨rfl, hBg⟩
              have HIg : Hid _ := HK6.out.old hBg
              clear hBg e
              go_wp2_with fail
              go_ret
              exact ⟨rfl, by have q := HIg.out.below; rw [HIg.out.n] at q; exact q⟩
end Go.Proofs.Ythkkbdmbmkgjpaa


