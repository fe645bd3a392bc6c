/- Contract of net's clone. -/
import Derived.Test.YtonnlhehbhiiiaaNb

import Derived.Test.YtonnlhehbhiiiaaJg

namespace Go.Proofs.Ytonnlhehbhiiiaa

open Go.RowKit



theorem info_intN : (Try.prog.info? 3).map (fun i => (i.zero, i.size, i.bytes)) = some (some (.int .i64 0), 1, 8) := by kernel_rfl
theorem info_u64N : (Try.prog.info? 56).map (fun i => (i.zero, i.size, i.bytes)) = some (some (.int .u64 0), 1, 8) := by kernel_rfl
theorem info_pairN : (Try.prog.info? 60).map (fun i => (i.zero, i.size, i.bytes)) = some (some (.agg #[.int .u64 0, .bool false, .int .u64 0]), 3, 24) := by kernel_rfl
theorem own_qvN {w : World} {base e n : Nat} {v : Value} {m : List Pr} (h : w.ownsRow base e 3 v n (flatQ m)) (hok : okT m) : Qv w v m := by
  have hn : n = m.length := by have := h.1; rw [flatQ_len] at this; omega
  subst hn
  rcases h.2 with ⟨rfl, h0⟩ | ⟨g, cap, cur, rfl, hg, hh, hnc, hcm, hcs, htk⟩
  · have : m = [] := List.eq_nil_of_length_eq_zero h0
    subst this
    exact ⟨⟨none, 0, rfl, by simp, by simp [maxLen], fun _ => rfl, fun i hi => by simp at hi⟩, by simp⟩
  · have hq := mq_qv (n := m.length) (cap := cap) (own_mq h) (Nat.le_refl _) hnc hcm hok
    rwa [List.take_length] at hq
theorem own_formN {w : World} {base e s n : Nat} {v : Value} {xs : List Value} (h : w.ownsRow base e s v n xs) : ∃ a c, v = .slice a n c := by
  rcases h.2 with ⟨h3, h0⟩ | ⟨g, cap, cur, rfl, _⟩
  · exact ⟨_, _, by rw [h3, h0]⟩
  · exact ⟨_, _, rfl⟩
theorem mx_zero (w : World) : MX (w.alloc (Obj.cells #[.int .i64 0, .int .i64 0, .int .i64 0, .int .i64 0, .int .i64 0, .int .i64 0, .slice none 0 0, .slice none 0 0, .slice none 0 0] 35)) w.heap.size zeroMs (.slice none 0 0) (.slice none 0 0) (.slice none 0 0) := mx_new w zeroMs (.slice none 0 0) (.slice none 0 0) (.slice none 0 0)
theorem mx_zero1 (w : World) (o : Obj) : MX ((w.alloc o).alloc (Obj.cells #[.int .i64 0, .int .i64 0, .int .i64 0, .int .i64 0, .int .i64 0, .int .i64 0, .slice none 0 0, .slice none 0 0, .slice none 0 0] 35)) (w.heap.size + 1) zeroMs (.slice none 0 0) (.slice none 0 0) (.slice none 0 0) := by
  have h := mx_zero (w.alloc o)
  rw [size_allocC] at h
  exact h
theorem below_ofg {w w' : World} (h : w.grownBy w' none) : Below w.heap.size w w' := ⟨h.os, h.tape, h.output, h.size, fun k hk => h.block k hk (by simp)⟩
theorem own_stepN {w1 w2 : World} {P e s n j : Nat} {v u : Value} {xs : List Value} (h : w1.ownsRow (P + 2) e s v n xs) (hb : Below w1.heap.size w1 w2) : (w2.setCell ⟨P, j, none⟩ u).ownsRow (P + 2) e s v n xs :=
  own_ch (own_belowC h hb) (ch_set _ _ _ _) (fun x hx => by rw [hx]; omega)
theorem own_setN {w2 : World} {P e s n j : Nat} {v u : Value} {xs : List Value} (h : w2.ownsRow (P + 2) e s v n xs) : (w2.setCell ⟨P, j, none⟩ u).ownsRow (P + 2) e s v n xs :=
  own_ch h (ch_set _ _ _ _) (fun x hx => by rw [hx]; omega)
theorem ML.of_own {w : World} {base : Nat} {m : Ms} {a b c : Value} (hok : m.ok) (h1 : w.ownsRow base 3 1 a m.E.length (m.E.map (Value.int .i64))) (h2 : w.ownsRow base 56 1 b m.Q.length ((ib m.Q).map (Value.int .u64))) (h3 : w.ownsRow base 60 3 c m.P.length (flatQ m.P)) : Mo w base w.heap.size m a b c :=
  ⟨⟨own_sv h1, own_sv h2, own_qvN h3 hok.P⟩, rw_own h1 (Nat.le_refl _), rw_own h2 (Nat.le_refl _), rw_own h3 (Nat.le_refl _)⟩
/-- While a message is copied: blocks P (the copy) and P + 1 (the answer); ev, qv, pv: what the copy holds by now. -/
structure Cn (w : World) (P : Nat) (m : Ms) (ev qv pv : Value) (w1 : World) : Prop where
  mx : MX w1 P m ev qv pv
  rx : MX w1 (P + 1) zeroMs (.slice none 0 0) (.slice none 0 0) (.slice none 0 0)
  b : Below P w w1
theorem Cn.set {w w1 w2 : World} {P : Nat} {m : Ms} {ev qv pv ev' qv' pv' v : Value} (h : Cn w P m ev qv pv w1) (hP : P = w.heap.size) (hb : Below w1.heap.size w1 w2) (j : Nat) (hx : MX (w2.setCell ⟨P, j, none⟩ v) P m ev' qv' pv') : Cn w P m ev' qv' pv' (w2.setCell ⟨P, j, none⟩ v) :=
  ⟨hx, (h.rx.keep hb).ch (ch_set _ _ _ _) (by show ¬ P + 1 = P; omega), by
    have h1 := h.b.trans (hb.mono (by have := cell_lt h.mx.c0; show P ≤ _; exact Nat.le_of_lt this))
    exact h1.trans ((ch_set _ _ _ _).to_below (by have := cell_lt h.mx.c0; have := hb.size; show P ≤ _; simp only at *; omega) (fun x hx => by rw [hx]; exact Nat.le_refl _))⟩


set_option maxRecDepth 100000 in
set_option maxHeartbeats 4000000 in
theorem clone_walk {w : World} {m : Ms} {ev qv pv : Value} (h : ML w m ev qv pv) (hok : m.ok) (hE : m.E.length ≤ 64) (hQ : m.Q.length ≤ 64) (hPl : m.P.length ≤ 64) :
    Calls Try.prog 29 #[.agg #[.int .i64 m.K, .int .i64 m.F, .int .i64 m.T, .int .i64 m.B, .int .i64 m.A, .int .i64 m.C, ev, qv, pv]] w fun e w' => ∃ a b c, e = .returned (.agg #[.int .i64 m.K, .int .i64 m.F, .int .i64 m.T, .int .i64 m.B, .int .i64 m.A, .int .i64 m.C, a, b, c]) ∧ Mo w' w.heap.size w'.heap.size m a b c ∧ Below w.heap.size w w' := by
  have HL : Hid (ML w m ev qv pv) := h
  have HK : Hid (m.ok) := hok
  have HLE : Hid (m.E.length ≤ 64 ∧ m.Q.length ≤ 64 ∧ m.P.length ≤ 64) := ⟨hE, hQ, hPl⟩
  obtain ⟨ea, en, ec, rfl, he, hem⟩ := sv_le h.e
  obtain ⟨qa, qn, qc, rfl, hq, hqm⟩ := sv_le h.q
  obtain ⟨pa, pn, pc, rfl, hp, hpm⟩ := qv_le h.p
  clear h hok hE hQ hPl he hq hp hem hqm hpm
  have HX := (mx_new w m (.slice ea en ec) (.slice qa qn qc) (.slice pa pn pc)).keep (below_alloc _ (Obj.cells #[.int .i64 0, .int .i64 0, .int .i64 0, .int .i64 0, .int .i64 0, .int .i64 0, .slice none 0 0, .slice none 0 0, .slice none 0 0] 35))
  have HY := mx_zero1 w (Obj.cells #[.int .i64 m.K, .int .i64 m.F, .int .i64 m.T, .int .i64 m.B, .int .i64 m.A, .int .i64 m.C, .slice ea en ec, .slice qa qn qc, .slice pa pn pc] 35)
  have HW := below_trans (below_alloc w (Obj.cells #[.int .i64 m.K, .int .i64 m.F, .int .i64 m.T, .int .i64 m.B, .int .i64 m.A, .int .i64 m.C, .slice ea en ec, .slice qa qn qc, .slice pa pn pc] 35)) (below_alloc _ (Obj.cells #[.int .i64 0, .int .i64 0, .int .i64 0, .int .i64 0, .int .i64 0, .int .i64 0, .slice none 0 0, .slice none 0 0, .slice none 0 0] 35))
  have HC : Hid (Cn w w.heap.size m (.slice ea en ec) (.slice qa qn qc) (.slice pa pn pc) _) := ⟨HX, HY, HW⟩
  clear HX HY HW
  go_enter Try.func29, Try.ntmps29
  go_upto_region 1 with fail
  obtain ⟨P, hP⟩ : ∃ P, P = w.heap.size := ⟨_, rfl⟩
  rw [← hP] at HC ⊢
  have HP : Hid (P = w.heap.size) := hP
  clear hP
  generalize (w.alloc (Obj.cells #[.int .i64 m.K, .int .i64 m.F, .int .i64 m.T, .int .i64 m.B, .int .i64 m.A, .int .i64 m.C, .slice ea en ec, .slice qa qn qc, .slice pa pn pc] 35)).alloc (Obj.cells #[.int .i64 0, .int .i64 0, .int .i64 0, .int .i64 0, .int .i64 0, .int .i64 0, .slice none 0 0, .slice none 0 0, .slice none 0 0] 35) = w1 at HC ⊢
  have HBS : Hid (P + 2 ≤ w1.heap.size) := cell_lt HC.out.rx.c0
  have HV : Hid _ := HL.out.below (by have := HC.out.b; rw [HP.out] at this; exact this)
  have k6 := HC.out.mx.c6
  have z6 := HC.out.mx.z 6
  go_upto_region 2 with (at_builtin; refine wpList_append_sv (by rfl) (.const (.slice none 0 0)) (.tmp 4) 31 (by rfl) (P + 2) 3 .i64 8 Try.underlying31 info_intN _ 0 [] (by rfl) (World.ownsRow_nil _ _ _ _) _ _ (by rfl) HV.out.e (by have := HLE.out; have := ib_len m.Q; unfold maxLen; omega) (by have := HLE.out; have := ib_len m.Q; omega) HBS.out ?_; intro v1 w2 hown hgrow; rw [Nat.zero_add, List.nil_append] at hown; obtain ⟨a1, c1, rfl⟩ := own_formN hown; have HO1 : Hid _ := hown; have HG : Hid _ := below_ofg hgrow; clear hown hgrow k6 z6; have k6 := (HC.out.mx.keep HG.out).c6; have z6 := (HC.out.mx.keep HG.out).z 6)
  have HC2 : Hid _ := HC.out.set HP.out HG.out 6 ((HC.out.mx.keep HG.out).s6 (.slice a1 m.E.length c1))
  have HO1b : Hid _ := own_setN (j := 6) (u := .slice a1 m.E.length c1) HO1.out
  clear k6 z6 HC HO1 HG HV HBS
  generalize w2.setCell ⟨P, 6, none⟩ _ = w3 at HC2 HO1b ⊢
  have HC : Hid _ := HC2.out
  have HO1 : Hid _ := HO1b.out
  clear HC2 HO1b
  have HBS : Hid (P + 2 ≤ w3.heap.size) := cell_lt HC.out.rx.c0
  have HV : Hid _ := HL.out.below (by have := HC.out.b; rw [HP.out] at this; exact this)
  have k7 := HC.out.mx.c7
  have z7 := HC.out.mx.z 7
  go_upto_region 3 with (at_builtin; refine wpList_append_sv (by rfl) (.const (.slice none 0 0)) (.tmp 8) 32 (by rfl) (P + 2) 56 .u64 8 Try.underlying32 info_u64N _ 0 [] (by rfl) (World.ownsRow_nil _ _ _ _) _ _ (by rfl) HV.out.q (by have := HLE.out; have := ib_len m.Q; unfold maxLen; omega) (by have := HLE.out; have := ib_len m.Q; omega) HBS.out ?_; intro v2 w4 hown hgrow; rw [Nat.zero_add, List.nil_append, ib_len] at hown; obtain ⟨a2, c2, rfl⟩ := own_formN hown; have HO2 : Hid _ := hown; have HG : Hid _ := below_ofg hgrow; clear hown hgrow k7 z7; have k7 := (HC.out.mx.keep HG.out).c7; have z7 := (HC.out.mx.keep HG.out).z 7)
  have HC2 : Hid _ := HC.out.set HP.out HG.out 7 ((HC.out.mx.keep HG.out).s7 (.slice a2 m.Q.length c2))
  have HO1b : Hid _ := own_stepN (j := 7) (u := .slice a2 m.Q.length c2) HO1.out HG.out
  have HO2b : Hid _ := own_setN (j := 7) (u := .slice a2 m.Q.length c2) HO2.out
  clear k7 z7 HC HO1 HO2 HG HV HBS
  generalize w4.setCell ⟨P, 7, none⟩ _ = w5 at HC2 HO1b HO2b ⊢
  have HC : Hid _ := HC2.out
  have HO1 : Hid _ := HO1b.out
  have HO2 : Hid _ := HO2b.out
  clear HC2 HO1b HO2b
  have HBS : Hid (P + 2 ≤ w5.heap.size) := cell_lt HC.out.rx.c0
  have HV : Hid _ := HL.out.below (by have := HC.out.b; rw [HP.out] at this; exact this)
  have k8 := HC.out.mx.c8
  have z8 := HC.out.mx.z 8
  obtain ⟨i0, hi0, hz0, hz1, hz2⟩ := info_partsQ info_pairN
  go_upto_region 4 with (at_builtin; refine wpList_append_qs (by rfl) (.const (.slice none 0 0)) (.tmp 12) 33 (by rfl) (P + 2) 60 i0 Try.underlying33 hi0 hz0 hz1 hz2 _ 0 [] (by rfl) (World.ownsRow_nil _ _ _ _) _ _ (by rfl) HV.out.p (by have := HLE.out; simp only [maxLen]; omega) (by have := HLE.out; omega) HBS.out ?_; intro v3 w6 hown hgrow; rw [Nat.zero_add, List.nil_append] at hown; obtain ⟨a3, c3, rfl⟩ := own_formN hown; have HO3 : Hid _ := hown; have HG : Hid _ := below_ofg hgrow; clear hown hgrow k8 z8; have k8 := (HC.out.mx.keep HG.out).c8; have z8 := (HC.out.mx.keep HG.out).z 8)
  have HC2 : Hid _ := HC.out.set HP.out HG.out 8 ((HC.out.mx.keep HG.out).s8 (.slice a3 m.P.length c3))
  have HO1b : Hid _ := own_stepN (j := 8) (u := .slice a3 m.P.length c3) HO1.out HG.out
  have HO2b : Hid _ := own_stepN (j := 8) (u := .slice a3 m.P.length c3) HO2.out HG.out
  have HO3b : Hid _ := own_setN (j := 8) (u := .slice a3 m.P.length c3) HO3.out
  clear k8 z8 HC HO1 HO2 HO3 HG HV HBS hi0 hz0 hz1 hz2
  generalize w6.setCell ⟨P, 8, none⟩ _ = w7 at HC2 HO1b HO2b HO3b ⊢
  have HR : Hid _ := HC2.out.rx.over m (.slice a1 m.E.length c1) (.slice a2 m.Q.length c2) (.slice a3 m.P.length c3)
  have HM : Hid (Mo (setM w7 (P + 1) m (.slice a1 m.E.length c1) (.slice a2 m.Q.length c2) (.slice a3 m.P.length c3)) (P + 2) (setM w7 (P + 1) m (.slice a1 m.E.length c1) (.slice a2 m.Q.length c2) (.slice a3 m.P.length c3)).heap.size m (.slice a1 m.E.length c1) (.slice a2 m.Q.length c2) (.slice a3 m.P.length c3)) :=
    ML.of_own HK.out (own_ch HO1b.out (ch_setM _ _ _ _ _ _) (fun x hx => by rw [hx]; omega)) (own_ch HO2b.out (ch_setM _ _ _ _ _ _) (fun x hx => by rw [hx]; omega)) (own_ch HO3b.out (ch_setM _ _ _ _ _ _) (fun x hx => by rw [hx]; omega))
  have HBB : Hid (Below P w (setM w7 (P + 1) m (.slice a1 m.E.length c1) (.slice a2 m.Q.length c2) (.slice a3 m.P.length c3))) := HC2.out.b.trans ((ch_setM _ _ _ _ _ _).to_below (by have := cell_lt HC2.out.mx.c0; show P ≤ _; exact Nat.le_of_lt this) (fun x hx => by rw [hx]; omega))
  have x0 := HC2.out.mx.c0
  have x1 := HC2.out.mx.c1
  have x2 := HC2.out.mx.c2
  have x3 := HC2.out.mx.c3
  have x4 := HC2.out.mx.c4
  have x5 := HC2.out.mx.c5
  have x6 := HC2.out.mx.c6
  have x7 := HC2.out.mx.c7
  have x8 := HC2.out.mx.c8
  have y0 := HC2.out.rx.c0
  have y1 := HC2.out.rx.c1
  have y2 := HC2.out.rx.c2
  have y3 := HC2.out.rx.c3
  have y4 := HC2.out.rx.c4
  have y5 := HC2.out.rx.c5
  have y6 := HC2.out.rx.c6
  have y7 := HC2.out.rx.c7
  have y8 := HC2.out.rx.c8
  have hz := HC2.out.rx.z
  clear HO1b HO2b HO3b HC2
  go_wp2_with fail
  show bodyPost _ _ _ _ _ (setM w7 (P + 1) m (.slice a1 m.E.length c1) (.slice a2 m.Q.length c2) (.slice a3 m.P.length c3))
  generalize setM w7 (P + 1) m (.slice a1 m.E.length c1) (.slice a2 m.Q.length c2) (.slice a3 m.P.length c3) = w9 at HR HM HBB ⊢
  clear x0 x1 x2 x3 x4 x5 x6 x7 x8 y0 y1 y2 y3 y4 y5 y6 y7 y8
  have y0 := HR.out.c0
  have y1 := HR.out.c1
  have y2 := HR.out.c2
  have y3 := HR.out.c3
  have y4 := HR.out.c4
  have y5 := HR.out.c5
  have y6 := HR.out.c6
  have y7 := HR.out.c7
  have y8 := HR.out.c8
  refine bodyPost_ret (v := .agg #[.int .i64 m.K, .int .i64 m.F, .int .i64 m.T, .int .i64 m.B, .int .i64 m.A, .int .i64 m.C, .slice a1 m.E.length c1, .slice a2 m.Q.length c2, .slice a3 m.P.length c3]) (by simp [results, Try.results29, go_sem, y0, y1, y2, y3, y4, y5, y6, y7, y8]) rfl ?_
  have hp := HP.out
  exact ⟨_, _, _, rfl, HM.out.wide (by omega) (Nat.le_refl _), by rw [← hp]; exact HBB.out⟩
end Go.Proofs.Ytonnlhehbhiiiaa


