/- Contract of repriselaw16's right: of a net and the reference's. -/
import Derived.Test.YtokfbnpjndlccaaEf

namespace Go.Proofs.Ytokfbnpjndlccaa

open Go.RowKit



set_option maxRecDepth 100000 in
set_option maxHeartbeats 4000000 in
theorem right_walk {w w0 : World} {P b R B r nx : Nat} {x : Oq} (hpy : Py w0 P b R B r nx w) (hwz : w0.heap.size ≤ w.heap.size) (hml0 : ML w0 x.m x.e x.q x.p) (hok : x.ok) (hnx : nx < 9223372036854775700) :
    Calls Try.prog 10 #[.pointer (some ⟨P, 0, none⟩), .pointer (some ⟨R, 0, none⟩), .agg #[.int .i64 x.c, .int .i64 x.o, .int .i64 x.k, .int .i64 x.m.K, .int .i64 x.m.F, .int .i64 x.m.T, .int .i64 x.m.B, .int .i64 x.m.A, .int .i64 x.m.C, x.e, x.q, x.p]] w (RyGot w0 P b R B r nx) := by
  have hml : ML w x.m x.e x.q x.p := by obtain ⟨v, L, M, hg, _⟩ := hpy; exact hml0.below hg.w
  have HML0 : Hid _ := hml0
  have HWZ : Hid _ := hwz
  clear hml0 hwz
  obtain ⟨v, L, M, hg, hnm⟩ := hpy
  have HNM : Hid (M.map nmE = L.map nmE) := hnm
  have HG : Hid _ := hg
  have HMR : Hid (M.length = L.length) := nm_len hnm
  clear hg hnm
  have HOK : Hid x.ok := hok
  obtain ⟨ea, en, ec, qa, qn, qc, pa, pn, pc, e1, e2, e3⟩ := ml_form hml
  have HML : Hid (ML w x.m (.slice ea en ec) (.slice qa qn qc) (.slice pa pn pc)) := by have k := hml; rw [e1, e2, e3] at k; exact k
  rw [e1, e2, e3]
  have e1z := e1
  have e2z := e2
  have e3z := e3
  clear hml hok e1 e2 e3
  have HO0 : Hid _ := oz_new w x (.slice ea en ec) (.slice qa qn qc) (.slice pa pn pc)
  have HB0 : Hid _ := below_alloc w (Obj.cells #[.int .i64 x.c, .int .i64 x.o, .int .i64 x.k, .int .i64 x.m.K, .int .i64 x.m.F, .int .i64 x.m.T, .int .i64 x.m.B, .int .i64 x.m.A, .int .i64 x.m.C, .slice ea en ec, .slice qa qn qc, .slice pa pn pc] 37)
  go_enter Try.func10, Try.ntmps10
  go_upto_region 1 with fail
  obtain ⟨O, hO⟩ : ∃ O, O = w.heap.size := ⟨_, rfl⟩
  have HOL : Hid (O = w.heap.size) := hO
  rw [← hO] at HO0 ⊢
  clear hO
  generalize w.alloc (Obj.cells #[.int .i64 x.c, .int .i64 x.o, .int .i64 x.k, .int .i64 x.m.K, .int .i64 x.m.F, .int .i64 x.m.T, .int .i64 x.m.B, .int .i64 x.m.A, .int .i64 x.m.C, .slice ea en ec, .slice qa qn qc, .slice pa pn pc] 37) = w1 at HO0 HB0 ⊢
  have HML1 : Hid _ := HML.out.below HB0.out
  have HMLz : Hid (ML w0 x.m (.slice ea en ec) (.slice qa qn qc) (.slice pa pn pc)) := by have k := HML0.out; rw [e1z, e2z, e3z] at k; exact k
  clear e1z e2z e3z
  have o0 := HO0.out.c0
  have HG1 : Hid _ := HG.out.below HB0.out
  have HO1 : Hid (¬ (O = P ∨ O = b)) := by have h1 := HG.out.nt.ltP; have h2 := HG.out.nt.ltb; have h3 := HOL.out; show ¬ _; omega
  have HO2 : Hid (O ≠ R ∧ v.ownBlock ≠ some O) := by have h1 := HG.out.rt.lo.2; have h3 := HOL.out; exact ⟨by omega, fun e => by have := (HG.out.rt.fr.own.lt O e).2; omega⟩
  have HOW : Hid (O < w1.heap.size) := HO0.out.lt
  have gnn : ((nx : Int) == (nx : Int)) = true := by simp
  by_cases hk1 : x.c = 1
  · have hkk : (x.c == 1) = true := by simp [hk1]
    have o3 := HO0.out.m0
    have o4 := HO0.out.m1
    have o5 := HO0.out.m2
    have o6 := HO0.out.m3
    have o7 := HO0.out.m4
    have o8 := HO0.out.m5
    have o9 := HO0.out.m6
    have o10 := HO0.out.m7
    have o11 := HO0.out.m8
    go_wp2_with fail
    refine (send_walk HG1.out.nt HML1.out HOK.out.m (by omega)).mono ?_
    rintro e w2 (⟨hsn, rfl, hB⟩ | ⟨hsn, ⟨hfull, rfl, hB⟩ | ⟨hroom, rfl, en2, hxn, hxm, hn, hxl, hc⟩⟩)
    · have HG2 : Hid _ := HG1.out.below hB
      have HOb : Hid _ := HO0.out.below hB
      have HMLb : Hid _ := HML1.out.below hB
      clear hB o0 o3 o4 o5 o6 o7 o8 o9 o10 o11
      have o3 := HOb.out.m0
      have o4 := HOb.out.m1
      have o5 := HOb.out.m2
      have o6 := HOb.out.m3
      have o7 := HOb.out.m4
      have o8 := HOb.out.m5
      have o9 := HOb.out.m6
      have o10 := HOb.out.m7
      have o11 := HOb.out.m8
      go_wp2_with fail
      refine (rsend_walk HG2.out.rt HMLb.out HOK.out.m (by omega)).mono ?_
      rintro e w3 (⟨_, rfl, hB⟩ | ⟨hs2, _⟩)
      rotate_left
      · rw [hsn] at hs2; cases hs2
      have HG3 : Hid _ := HG2.out.below hB
      clear hB o3 o4 o5 o6 o7 o8 o9 o10 o11
      go_wp2_with fail
      go_ret
      exact ⟨rfl, nx, by omega, v, L, M, HG3.out, HNM.out⟩
    · have HG2 : Hid _ := HG1.out.below hB
      have HOb : Hid _ := HO0.out.below hB
      have HMLb : Hid _ := HML1.out.below hB
      clear hB o0 o3 o4 o5 o6 o7 o8 o9 o10 o11
      have o3 := HOb.out.m0
      have o4 := HOb.out.m1
      have o5 := HOb.out.m2
      have o6 := HOb.out.m3
      have o7 := HOb.out.m4
      have o8 := HOb.out.m5
      have o9 := HOb.out.m6
      have o10 := HOb.out.m7
      have o11 := HOb.out.m8
      go_wp2_with fail
      refine (rsend_walk HG2.out.rt HMLb.out HOK.out.m (by omega)).mono ?_
      rintro e w3 (⟨hs2, _⟩ | ⟨_, ⟨_, rfl, hB⟩ | ⟨hr2, _⟩⟩)
      · rw [hsn] at hs2; cases hs2
      rotate_left
      · have := HMR.out; omega
      have HG3 : Hid _ := HG2.out.below hB
      clear hB o3 o4 o5 o6 o7 o8 o9 o10 o11
      go_wp2_with fail
      go_ret
      exact ⟨rfl, nx, by omega, v, L, M, HG3.out, HNM.out⟩
    · have HG2 : Hid _ := HG1.out.prog hc hn (fun y hy => by rcases List.mem_append.1 hy with q | q; exact .inl q; rw [List.mem_singleton] at q; subst q; exact .inr hxl)
      have HOb : Hid _ := HO0.out.ch hc HO1.out
      have HMLb : Hid _ := HMLz.out.below HG2.out.w
      have HEN : Hid (en2.n = nx ∧ en2.m = x.m) := ⟨hxn, hxm⟩
      clear hn hc hxn hxm hxl o0 o3 o4 o5 o6 o7 o8 o9 o10 o11
      have o3 := HOb.out.m0
      have o4 := HOb.out.m1
      have o5 := HOb.out.m2
      have o6 := HOb.out.m3
      have o7 := HOb.out.m4
      have o8 := HOb.out.m5
      have o9 := HOb.out.m6
      have o10 := HOb.out.m7
      have o11 := HOb.out.m8
      go_wp2_with fail
      refine (rsend_walk HG2.out.rt HMLb.out HOK.out.m (by omega)).mono ?_
      rintro e w3 (⟨hs2, _⟩ | ⟨_, ⟨hr2, _⟩ | ⟨_, rfl, v', en3, he3, hl3, hrt, hc3, hv3⟩⟩)
      · rw [hsn] at hs2; cases hs2
      · have := HMR.out; omega
      have HG3 : Hid _ := HG2.out.ref hc3 hrt (fun y hy => by rcases List.mem_append.1 hy with q | q; exact .inl q; rw [List.mem_singleton] at q; subst q; exact .inr hl3) hv3
      have HN3 : Hid _ := nm_app HNM.out (a := en2) (c := en3) (by rw [he3]; unfold nmE; rw [HEN.out.1, HEN.out.2])
      clear hrt hc3 hv3 he3 hl3 o3 o4 o5 o6 o7 o8 o9 o10 o11
      go_wp2_with fail
      go_ret
      exact ⟨rfl, nx + 1, Nat.le_refl _, v', _, _, HG3.out, HN3.out⟩
  have hf1 : (x.c == 1) = false := by simp [hk1]
  by_cases hk2 : x.c = 2
  · have hkk : (x.c == 2) = true := by simp [hk2]
    have o2 := HO0.out.c2
    cases hat : atN L x.k with
    | none =>
      go_wp2_with fail
      refine (deliver_out HG1.out.nt HOK.out.k hat).mono ?_
      rintro e w2 ⟨he, hB⟩
      unfold zMsg at he
      subst he
      have HG2 : Hid _ := HG1.out.below hB
      have HOb : Hid _ := HO0.out.below hB
      clear hB o0 o2
      go_upto_region 8 with fail
      rw [mc_zero]
      have HY : Hid _ := mx_zero w2
      have HB2a : Hid _ := below_alloc w2 (Obj.cells #[.int .i64 0, .int .i64 0, .int .i64 0, .int .i64 0, .int .i64 0, .int .i64 0, .slice none 0 0, .slice none 0 0, .slice none 0 0] 35)
      have HG3 : Hid _ := HG2.out.below HB2a.out
      have HOc : Hid _ := HOb.out.below HB2a.out
      obtain ⟨Y, hY⟩ : ∃ Y, Y = w2.heap.size := ⟨_, rfl⟩
      rw [← hY] at HY ⊢
      clear hY
      generalize w2.alloc (Obj.cells #[.int .i64 0, .int .i64 0, .int .i64 0, .int .i64 0, .int .i64 0, .int .i64 0, .slice none 0 0, .slice none 0 0, .slice none 0 0] 35) = w3 at HY HB2a HG3 HOc ⊢
      have o2 := HOc.out.c2
      go_wp2_with fail
      refine (rdeliver_out HG3.out.rt (nm_none HNM.out hat)).mono ?_
      rintro e w4 ⟨he, hB⟩
      unfold zMsg at he
      subst he
      have HG4 : Hid _ := HG3.out.below hB
      have HY4 : Hid _ := HY.out.keep hB
      clear hB o2 hat
      go_upto_region 9 with fail
      rw [mc_zero]
      have HZ : Hid _ := mx_zero w4
      have HB4a : Hid _ := below_alloc w4 (Obj.cells #[.int .i64 0, .int .i64 0, .int .i64 0, .int .i64 0, .int .i64 0, .int .i64 0, .slice none 0 0, .slice none 0 0, .slice none 0 0] 35)
      have HY5 : Hid _ := HY4.out.keep HB4a.out
      have HG5 : Hid _ := HG4.out.below HB4a.out
      obtain ⟨Z, hZ⟩ : ∃ Z, Z = w4.heap.size := ⟨_, rfl⟩
      rw [← hZ] at HZ ⊢
      clear hZ
      generalize w4.alloc (Obj.cells #[.int .i64 0, .int .i64 0, .int .i64 0, .int .i64 0, .int .i64 0, .int .i64 0, .slice none 0 0, .slice none 0 0, .slice none 0 0] 35) = w5 at HZ HB4a HY5 HG5 ⊢
      have y0 := HY5.out.c0
      have y1 := HY5.out.c1
      have y2 := HY5.out.c2
      have y3 := HY5.out.c3
      have y4 := HY5.out.c4
      have y5 := HY5.out.c5
      have y6 := HY5.out.c6
      have y7 := HY5.out.c7
      have y8 := HY5.out.c8
      have z0 := HZ.out.c0
      have z1 := HZ.out.c1
      have z2 := HZ.out.c2
      have z3 := HZ.out.c3
      have z4 := HZ.out.c4
      have z5 := HZ.out.c5
      have z6 := HZ.out.c6
      have z7 := HZ.out.c7
      have z8 := HZ.out.c8
      go_wp2_with fail
      refine (same_walk (m := zeroMs) (zero_ml _) (zero_ml _) zero_ok).mono ?_
      rintro e w6 ⟨rfl, hB⟩
      have HG6 : Hid _ := HG5.out.below hB
      clear hB y0 y1 y2 y3 y4 y5 y6 y7 y8 z0 z1 z2 z3 z4 z5 z6 z7 z8
      go_wp2_with fail
      go_ret
      exact ⟨rfl, nx, by omega, v, L, M, HG6.out, HNM.out⟩
    | some z =>
      obtain ⟨p, y, hpy, _, hyn, hym, hyk⟩ := nm_some HNM.out hat
      have hEz := HG1.out.nt.ent z (atN_mem hat).1
      have hOz := HG1.out.nt.off z (atN_mem hat).1
      have HZR : Hid (∀ q, z.lo ≤ q → q < z.hi → ¬ q = R) := fun q h1 h2 e => HG1.out.dj q (.inr (.inr ⟨z, (atN_mem hat).1, h1, h2⟩)) (.inl e)
      obtain ⟨ya, yn, yc, va, vn, vc, wa, wn', wc, g1, g2, g3⟩ := en_form hEz
      obtain ⟨ra, rn, rc, sa, sn, sc, ta, tn, tc, k1, k2, k3⟩ := en_form (HG1.out.rt.fr.ent y (List.mem_of_getElem? hpy))
      obtain ⟨m, hm⟩ : ∃ m, m = z.m := ⟨_, rfl⟩
      have HGQ : Hid (z.e = .slice ya yn yc ∧ z.q = .slice va vn vc ∧ z.p = .slice wa wn' wc ∧ z.m = m) := ⟨g1, g2, g3, hm.symm⟩
      have HKQ : Hid (y.e = .slice ra rn rc ∧ y.q = .slice sa sn sc ∧ y.p = .slice ta tn tc ∧ y.m = m) := ⟨k1, k2, k3, by rw [hym, hm]⟩
      have hvz : mvE z = .agg #[.int .i64 m.K, .int .i64 m.F, .int .i64 m.T, .int .i64 m.B, .int .i64 m.A, .int .i64 m.C, .slice ya yn yc, .slice va vn vc, .slice wa wn' wc] := by unfold mvE; rw [g1, g2, g3, ← hm]
      have hvy : mvE y = .agg #[.int .i64 m.K, .int .i64 m.F, .int .i64 m.T, .int .i64 m.B, .int .i64 m.A, .int .i64 m.C, .slice ra rn rc, .slice sa sn sc, .slice ta tn tc] := by unfold mvE; rw [k1, k2, k3, hym, ← hm]
      have HPY : Hid (M[p]? = some y) := hpy
      have HYK : Hid (x.k = (y.n : Int)) := hyk
      have HMO : Hid (m.ok) := by rw [hm]; exact hEz.ok
      clear g1 g2 g3 k1 k2 k3 hpy hyn hym hyk hm
      go_wp2_with fail
      refine (deliver_in HG1.out.nt HOK.out.k hat).mono ?_
      rintro e w2 ⟨he, hn, hc⟩
      rw [hvz] at he
      subst he
      have hcP : Ch (fun x => x = P ∨ x = b) w1 w2 := hc.mono (fun x hx => .inr hx)
      have HE2 : Hid (Eo w2 z) := hEz.ch hc (fun q h1 _ e => by omega)
      have HG2 : Hid _ := HG1.out.prog hcP hn (fun q hq => .inl (mem_out hq).1)
      have HOb : Hid _ := HO0.out.ch hcP HO1.out
      clear hn hc hcP hvz hEz hOz o0 o2
      go_upto_region 8 with fail
      have HY : Hid _ := mx_new w2 m (.slice ya yn yc) (.slice va vn vc) (.slice wa wn' wc)
      have HB2a : Hid _ := below_alloc w2 (Obj.cells #[.int .i64 m.K, .int .i64 m.F, .int .i64 m.T, .int .i64 m.B, .int .i64 m.A, .int .i64 m.C, .slice ya yn yc, .slice va vn vc, .slice wa wn' wc] 35)
      have HG3 : Hid _ := HG2.out.below HB2a.out
      have HOc : Hid _ := HOb.out.below HB2a.out
      have HE3 : Hid _ := HE2.out.below HB2a.out
      obtain ⟨Y, hY⟩ : ∃ Y, Y = w2.heap.size := ⟨_, rfl⟩
      have HYR : Hid (¬ Y = R) := by have := HG2.out.rt.lo.2; show ¬ _; omega
      rw [← hY] at HY ⊢
      clear hY
      generalize w2.alloc (Obj.cells #[.int .i64 m.K, .int .i64 m.F, .int .i64 m.T, .int .i64 m.B, .int .i64 m.A, .int .i64 m.C, .slice ya yn yc, .slice va vn vc, .slice wa wn' wc] 35) = w3 at HY HB2a HG3 HOc HE3 ⊢
      have o2 := HOc.out.c2
      rw [HYK.out] at o2
      go_wp2_with fail
      have hEy := HG3.out.rt.fr.ent y (List.mem_of_getElem? HPY.out)
      have hOy := HG3.out.rt.off y (List.mem_of_getElem? HPY.out)
      refine (rdeliver_in HG3.out.rt HPY.out).mono ?_
      rintro e w4 ⟨v', he, hrt, hc, hnb⟩
      rw [hvy] at he
      subst he
      have hcR : Ch (fun x => x = R ∨ v.ownBlock = some x) w3 w4 := hc.mono (fun x hx => .inl hx)
      have HG4 : Hid _ := HG3.out.ref hcR hrt (fun q hq => .inl (List.mem_of_mem_eraseIdx hq)) (fun q hq => .inr (hnb q hq))
      have HE4 : Hid _ := HE3.out.ch hc HZR.out
      have HF4 : Hid (Eo w4 y) := hEy.ch hc (fun q h1 _ e => by omega)
      have HY4 : Hid _ := HY.out.ch hc HYR.out
      have HNM4 : Hid ((M.eraseIdx p).map nmE = (outN L x.k).map nmE) := by show _ = _; rw [er_out HG.out.rt.num HPY.out, HYK.out]; exact nm_out HNM.out _
      clear hrt hc hnb hcR hEy hOy o2 hvy hat
      go_upto_region 9 with fail
      have HZ : Hid _ := mx_new w4 m (.slice ra rn rc) (.slice sa sn sc) (.slice ta tn tc)
      have HB4a : Hid _ := below_alloc w4 (Obj.cells #[.int .i64 m.K, .int .i64 m.F, .int .i64 m.T, .int .i64 m.B, .int .i64 m.A, .int .i64 m.C, .slice ra rn rc, .slice sa sn sc, .slice ta tn tc] 35)
      have HY5 : Hid _ := HY4.out.keep HB4a.out
      have HG5 : Hid _ := HG4.out.below HB4a.out
      have HE5 : Hid (ML (w4.alloc (Obj.cells #[.int .i64 m.K, .int .i64 m.F, .int .i64 m.T, .int .i64 m.B, .int .i64 m.A, .int .i64 m.C, .slice ra rn rc, .slice sa sn sc, .slice ta tn tc] 35)) m (.slice ya yn yc) (.slice va vn vc) (.slice wa wn' wc)) := by have h := (HE4.out.below HB4a.out).mo.l; rw [HGQ.out.1, HGQ.out.2.1, HGQ.out.2.2.1, HGQ.out.2.2.2] at h; exact h
      have HF5 : Hid (ML (w4.alloc (Obj.cells #[.int .i64 m.K, .int .i64 m.F, .int .i64 m.T, .int .i64 m.B, .int .i64 m.A, .int .i64 m.C, .slice ra rn rc, .slice sa sn sc, .slice ta tn tc] 35)) m (.slice ra rn rc) (.slice sa sn sc) (.slice ta tn tc)) := by have h := (HF4.out.below HB4a.out).mo.l; rw [HKQ.out.1, HKQ.out.2.1, HKQ.out.2.2.1, HKQ.out.2.2.2] at h; exact h
      obtain ⟨Z, hZ⟩ : ∃ Z, Z = w4.heap.size := ⟨_, rfl⟩
      rw [← hZ] at HZ ⊢
      clear hZ
      generalize w4.alloc (Obj.cells #[.int .i64 m.K, .int .i64 m.F, .int .i64 m.T, .int .i64 m.B, .int .i64 m.A, .int .i64 m.C, .slice ra rn rc, .slice sa sn sc, .slice ta tn tc] 35) = w5 at HZ HB4a HY5 HG5 HE5 HF5 ⊢
      have y0 := HY5.out.c0
      have y1 := HY5.out.c1
      have y2 := HY5.out.c2
      have y3 := HY5.out.c3
      have y4 := HY5.out.c4
      have y5 := HY5.out.c5
      have y6 := HY5.out.c6
      have y7 := HY5.out.c7
      have y8 := HY5.out.c8
      have z0 := HZ.out.c0
      have z1 := HZ.out.c1
      have z2 := HZ.out.c2
      have z3 := HZ.out.c3
      have z4 := HZ.out.c4
      have z5 := HZ.out.c5
      have z6 := HZ.out.c6
      have z7 := HZ.out.c7
      have z8 := HZ.out.c8
      go_wp2_with fail
      refine (same_walk HE5.out HF5.out HMO.out).mono ?_
      rintro e w6 ⟨rfl, hB⟩
      have HG6 : Hid _ := HG5.out.below hB
      clear hB y0 y1 y2 y3 y4 y5 y6 y7 y8 z0 z1 z2 z3 z4 z5 z6 z7 z8
      go_wp2_with fail
      go_ret
      exact ⟨rfl, nx, by omega, v', _, _, HG6.out, HNM4.out⟩
  have hf2 : (x.c == 2) = false := by simp [hk2]
  by_cases hk3 : x.c = 3
  · have hkk : (x.c == 3) = true := by simp [hk3]
    cases hat : atN L x.k with
    | none =>
      have k2 : ∀ wx, Below w1.heap.size w1 wx → wx.cell? ⟨O, 2, none⟩ = some (.int .i64 x.k) := fun wx hx => (HO0.out.below hx).c2
      go_upto_region 11 with fail
      refine wp_region_noPanic ?_
      refine wp_region_held_drew (S := fun wx => Below w1.heap.size w1 wx) (by kernel_rfl) ?_ (fun hHeld => ?_)
      · exact below_drewN w1 1
      refine wpAnyH_take (i := 0) (oi := ⟨some 71, _, _, _, _, _⟩) (v := ?_) rfl (by kernel_rfl) (by kernel_rfl) (by kernel_rfl) (fun _ _ _ h => h) (Or.inl ⟨by rfl, ?_⟩) hHeld ?_
      rotate_left
      · intro w hSw; (try dsimp only at hSw); go_simp; all_goals (with_reducible rfl)
      try simp only [Act.put, List.setIfInBounds_toArray, List.set_cons_zero, List.set_cons_succ]
      refine wpAnyH_take (i := 1) (oi := ⟨some 72, _, _, _, _, _⟩) (v := ?_) rfl (by kernel_rfl) (by kernel_rfl) (by kernel_rfl) (fun _ _ _ h => h) (Or.inl ⟨by rfl, ?_⟩) hHeld ?_
      rotate_left
      · intro w hSw; (try dsimp only at hSw); go_simp; all_goals (with_reducible rfl)
      try simp only [Act.put, List.setIfInBounds_toArray, List.set_cons_zero, List.set_cons_succ]
      refine wpAnyH_take (i := 2) (oi := ⟨some 73, _, _, _, _, _⟩) (v := ?_) rfl (by kernel_rfl) (by kernel_rfl) (by kernel_rfl) (fun _ _ _ h => h) (Or.inl ⟨by rfl, ?_⟩) hHeld ?_
      rotate_left
      · intro w hSw; (try dsimp only at hSw); go_simp; all_goals (with_reducible rfl)
      try simp only [Act.put, List.setIfInBounds_toArray, List.set_cons_zero, List.set_cons_succ]
      refine wpAnyH_take (i := 4) (oi := ⟨some 75, _, _, _, _, _⟩) (v := ?_) rfl (by kernel_rfl) (by kernel_rfl) (by kernel_rfl) (fun _ _ _ h => h) (Or.inl ⟨by rfl, ?_⟩) hHeld ?_
      rotate_left
      · intro w hSw; (try dsimp only at hSw); go_simp; all_goals (with_reducible rfl)
      try simp only [Act.put, List.setIfInBounds_toArray, List.set_cons_zero, List.set_cons_succ]
      refine wpAnyH_take (i := 5) (oi := ⟨some 76, _, _, _, _, _⟩) (v := ?_) rfl (by kernel_rfl) (by kernel_rfl) (by kernel_rfl) (fun _ _ _ h => h) (Or.inl ⟨by rfl, ?_⟩) hHeld ?_
      rotate_left
      · intro w hSw; (try dsimp only at hSw); go_simp; all_goals (with_reducible rfl)
      try simp only [Act.put, List.setIfInBounds_toArray, List.set_cons_zero, List.set_cons_succ]
      refine wpAnyH_take (i := 6) (oi := ⟨some 77, _, _, _, _, _⟩) (v := ?_) rfl (by kernel_rfl) (by kernel_rfl) (by kernel_rfl) (fun _ _ _ h => h) (Or.inl ⟨by rfl, ?_⟩) hHeld ?_
      rotate_left
      · intro w hSw; (try dsimp only at hSw); go_simp; all_goals (with_reducible rfl)
      try simp only [Act.put, List.setIfInBounds_toArray, List.set_cons_zero, List.set_cons_succ]
      refine wpAnyH_ready (rs := [3]) (by kernel_rfl) (by simp) ?_
      refine AllReadyH.cons (o := ⟨some 74, _, _, _, _, _⟩) rfl (fun K hK => ?_) AllReadyH.nil
      go_simp
      refine (drop_out (HG1.out.nt.below (below_drewN w1 1)) HOK.out.k hat).mono ?_
      rintro e w2 ⟨rfl, hB⟩
      have HB2 : Hid (Below w1.heap.size w1 w2) := below_trans (below_drewN w1 1) hB
      clear hB
      refine hK.out _ _ ?_ (fun hHeld => ?_)
      · exact HB2.out
      clear hK K
      try simp only [Act.put, List.setIfInBounds_toArray, List.set_cons_zero, List.set_cons_succ]
      refine wpAnyH_ready (rs := [7]) (by kernel_rfl) (by simp) ?_
      refine AllReadyH.cons (o := ⟨some 78, _, _, _, _, _⟩) rfl (fun K hK => ?_) AllReadyH.nil
      go_simp
      refine (rdrop_out (HG1.out.rt.below HB2.out) (nm_none HNM.out hat)).mono ?_
      rintro e w3 ⟨rfl, hB⟩
      have HB3 : Hid (Below w1.heap.size w1 w3) := below_trans HB2.out hB
      clear hB
      refine hK.out _ _ ?_ (fun hHeld => ?_)
      · exact HB3.out
      clear hK K
      try simp only [Act.put, List.setIfInBounds_toArray, List.set_cons_zero, List.set_cons_succ]
      refine wpAnyH_take (i := 8) (oi := ⟨some 79, _, _, _, _, _⟩) (v := ?_) rfl (by kernel_rfl) (by kernel_rfl) (by kernel_rfl) (fun _ _ _ h => h) (Or.inl ⟨by rfl, ?_⟩) hHeld ?_
      rotate_left
      · intro w hSw; (try dsimp only at hSw); go_simp; all_goals (with_reducible rfl)
      try simp only [Act.put, List.setIfInBounds_toArray, List.set_cons_zero, List.set_cons_succ]
      refine wpAnyH_take (i := 9) (oi := ⟨some 6, _, _, _, _, _⟩) (v := ?_) rfl (by kernel_rfl) (by kernel_rfl) (by kernel_rfl) (fun _ _ _ h => h) (Or.inl ⟨by rfl, ?_⟩) hHeld ?_
      rotate_left
      · intro w hSw; (try dsimp only at hSw); go_simp; all_goals (with_reducible rfl)
      try simp only [Act.put, List.setIfInBounds_toArray, List.set_cons_zero, List.set_cons_succ]
      refine wpAnyH_done (by kernel_rfl) ?_ _
      refine NoPanic.normal ?_
      clear hat k2
      go_wp2_with fail
      go_ret
      exact ⟨rfl, nx, by omega, v, L, M, HG1.out.below HB3.out, HNM.out⟩
    | some z =>
      obtain ⟨p, y, hpy, _, hyn, hym, hyk⟩ := nm_some HNM.out hat
      have HPY : Hid (M[p]? = some y) := hpy
      have HYK : Hid (x.k = (y.n : Int)) := hyk
      have HSF : Hid (∀ wx, OZ wx O x (.slice ea en ec) (.slice qa qn qc) (.slice pa pn pc) → wx.cell? ⟨O, 2, none⟩ = some (.int .i64 (y.n : Int))) := fun wx hx => by have h := hx.c2; rw [HYK.out] at h; exact h
      have hat' : atN L (y.n : Int) = some z := by rw [← HYK.out]; exact hat
      have hk' : in64 (y.n : Int) := by rw [← HYK.out]; exact HOK.out.k
      have HOd : Hid _ := HO0.out.below (below_drewN w1 1)
      clear hpy hyn hym hyk hat
      go_upto_region 11 with fail
      refine wp_region_noPanic ?_
      refine wp_region_held_drew (S := fun wx => wx.cell? ⟨O, 2, none⟩ = some (.int .i64 (y.n : Int))) (by kernel_rfl) ?_ (fun hHeld => ?_)
      · exact HSF.out _ HOd.out
      refine wpAnyH_take (i := 0) (oi := ⟨some 71, _, _, _, _, _⟩) (v := ?_) rfl (by kernel_rfl) (by kernel_rfl) (by kernel_rfl) (fun _ _ _ h => h) (Or.inl ⟨by rfl, ?_⟩) hHeld ?_
      rotate_left
      · intro w hSw; (try dsimp only at hSw); go_simp; all_goals (with_reducible rfl)
      try simp only [Act.put, List.setIfInBounds_toArray, List.set_cons_zero, List.set_cons_succ]
      refine wpAnyH_take (i := 1) (oi := ⟨some 72, _, _, _, _, _⟩) (v := ?_) rfl (by kernel_rfl) (by kernel_rfl) (by kernel_rfl) (fun _ _ _ h => h) (Or.inl ⟨by rfl, ?_⟩) hHeld ?_
      rotate_left
      · intro w hSw; (try dsimp only at hSw); go_simp; all_goals (with_reducible rfl)
      try simp only [Act.put, List.setIfInBounds_toArray, List.set_cons_zero, List.set_cons_succ]
      refine wpAnyH_take (i := 2) (oi := ⟨some 73, _, _, _, _, _⟩) (v := ?_) rfl (by kernel_rfl) (by kernel_rfl) (by kernel_rfl) (fun _ _ _ h => h) (Or.inl ⟨by rfl, ?_⟩) hHeld ?_
      rotate_left
      · intro w hSw; (try dsimp only at hSw); go_simp; all_goals (with_reducible rfl)
      try simp only [Act.put, List.setIfInBounds_toArray, List.set_cons_zero, List.set_cons_succ]
      refine wpAnyH_take (i := 4) (oi := ⟨some 75, _, _, _, _, _⟩) (v := ?_) rfl (by kernel_rfl) (by kernel_rfl) (by kernel_rfl) (fun _ _ _ h => h) (Or.inl ⟨by rfl, ?_⟩) hHeld ?_
      rotate_left
      · intro w hSw; (try dsimp only at hSw); go_simp; all_goals (with_reducible rfl)
      try simp only [Act.put, List.setIfInBounds_toArray, List.set_cons_zero, List.set_cons_succ]
      refine wpAnyH_take (i := 5) (oi := ⟨some 76, _, _, _, _, _⟩) (v := ?_) rfl (by kernel_rfl) (by kernel_rfl) (by kernel_rfl) (fun _ _ _ h => h) (Or.inl ⟨by rfl, ?_⟩) hHeld ?_
      rotate_left
      · intro w hSw; (try dsimp only at hSw); go_simp; all_goals (with_reducible rfl)
      try simp only [Act.put, List.setIfInBounds_toArray, List.set_cons_zero, List.set_cons_succ]
      refine wpAnyH_take (i := 6) (oi := ⟨some 77, _, _, _, _, _⟩) (v := ?_) rfl (by kernel_rfl) (by kernel_rfl) (by kernel_rfl) (fun _ _ _ h => h) (Or.inl ⟨by rfl, ?_⟩) hHeld ?_
      rotate_left
      · intro w hSw; (try dsimp only at hSw); go_simp; all_goals (with_reducible rfl)
      try simp only [Act.put, List.setIfInBounds_toArray, List.set_cons_zero, List.set_cons_succ]
      refine wpAnyH_ready (rs := [3]) (by kernel_rfl) (by simp) ?_
      refine AllReadyH.cons (o := ⟨some 74, _, _, _, _, _⟩) rfl (fun K hK => ?_) AllReadyH.nil
      go_simp
      refine (drop_in (HG1.out.nt.below (below_drewN w1 1)) hk' hat').mono ?_
      rintro e w2 ⟨rfl, hn, hc⟩
      have hcP : Ch (fun x => x = P ∨ x = b) (w1.drewN 1) w2 := hc.mono (fun x hx => .inr hx)
      have HG2 : Hid _ := (HG1.out.below (below_drewN w1 1)).prog hcP hn (fun q hq => .inl (mem_out hq).1)
      have HOe : Hid _ := HOd.out.ch hcP HO1.out
      clear hn hc hcP
      refine hK.out _ _ ?_ (fun hHeld => ?_)
      · exact (HSF.out _ HOe.out)
      clear hK K
      try simp only [Act.put, List.setIfInBounds_toArray, List.set_cons_zero, List.set_cons_succ]
      refine wpAnyH_ready (rs := [7]) (by kernel_rfl) (by simp) ?_
      refine AllReadyH.cons (o := ⟨some 78, _, _, _, _, _⟩) rfl (fun K hK => ?_) AllReadyH.nil
      go_simp
      refine (rdrop_in HG2.out.rt HPY.out).mono ?_
      rintro e w3 ⟨v', rfl, hrt, hc, hnb⟩
      have hcR : Ch (fun x => x = R ∨ v.ownBlock = some x) w2 w3 := hc.mono (fun x hx => .inl hx)
      have HG3 : Hid _ := HG2.out.ref hcR hrt (fun q hq => .inl (List.mem_of_mem_eraseIdx hq)) (fun q hq => .inr (hnb q hq))
      have HOf : Hid _ := HOe.out.ch hc HO2.out.1
      clear hrt hc hnb hcR
      refine hK.out _ _ ?_ (fun hHeld => ?_)
      · exact (HSF.out _ HOf.out)
      clear hK K
      try simp only [Act.put, List.setIfInBounds_toArray, List.set_cons_zero, List.set_cons_succ]
      refine wpAnyH_take (i := 8) (oi := ⟨some 79, _, _, _, _, _⟩) (v := ?_) rfl (by kernel_rfl) (by kernel_rfl) (by kernel_rfl) (fun _ _ _ h => h) (Or.inl ⟨by rfl, ?_⟩) hHeld ?_
      rotate_left
      · intro w hSw; (try dsimp only at hSw); go_simp; all_goals (with_reducible rfl)
      try simp only [Act.put, List.setIfInBounds_toArray, List.set_cons_zero, List.set_cons_succ]
      refine wpAnyH_take (i := 9) (oi := ⟨some 6, _, _, _, _, _⟩) (v := ?_) rfl (by kernel_rfl) (by kernel_rfl) (by kernel_rfl) (fun _ _ _ h => h) (Or.inl ⟨by rfl, ?_⟩) hHeld ?_
      rotate_left
      · intro w hSw; (try dsimp only at hSw); go_simp; all_goals (with_reducible rfl)
      try simp only [Act.put, List.setIfInBounds_toArray, List.set_cons_zero, List.set_cons_succ]
      refine wpAnyH_done (by kernel_rfl) ?_ _
      refine NoPanic.normal ?_
      have HNM4 : Hid ((M.eraseIdx p).map nmE = (outN L (y.n : Int)).map nmE) := by show _ = _; rw [er_out HG.out.rt.num HPY.out]; exact nm_out HNM.out _
      clear hat' hk'
      go_wp2_with fail
      go_ret
      exact ⟨rfl, nx, by omega, v', _, _, HG3.out, HNM4.out⟩
  have hf3 : (x.c == 3) = false := by simp [hk3]
  by_cases hk4 : x.c = 4
  · have hkk : (x.c == 4) = true := by simp [hk4]
    have o2 := HO0.out.c2
    cases hat : atN L x.k with
    | none =>
      go_wp2_with fail
      refine (copy_out HG1.out.nt HOK.out.k hat).mono ?_
      rintro e w2 ⟨rfl, hB⟩
      have HG2 : Hid _ := HG1.out.below hB
      have HOb : Hid _ := HO0.out.below hB
      clear hB o0 o2
      have o2 := HOb.out.c2
      go_wp2_with fail
      refine (rcopy_out HG2.out.rt (nm_none HNM.out hat)).mono ?_
      rintro e w3 ⟨rfl, hw3⟩
      rw [← hw3] at HG2
      clear hw3 o2 hat
      go_wp2_with fail
      go_ret
      exact ⟨rfl, nx, by omega, v, L, M, HG2.out, HNM.out⟩
    | some z =>
      obtain ⟨p, y, hpy, _, hyn, hym, hyk⟩ := nm_some HNM.out hat
      have HPY : Hid (M[p]? = some y) := hpy
      have HYK : Hid (x.k = (y.n : Int)) := hyk
      have HYM : Hid (y.m = z.m) := hym
      clear hpy hyn hym hyk
      go_wp2_with fail
      refine (copy_in HG1.out.nt HOK.out.k hat (by omega)).mono ?_
      rintro e w2 (⟨hfull, rfl, hB⟩ | ⟨hroom, rfl, en2, hxn, hxm, hn, hxl, hc⟩)
      · have HG2 : Hid _ := HG1.out.below hB
        have HOb : Hid _ := HO0.out.below hB
        clear hB o0 o2 hat
        have o2 := HOb.out.c2
        rw [HYK.out] at o2
        go_wp2_with fail
        refine (rcopy_in HG2.out.rt HPY.out (by omega)).mono ?_
        rintro e w3 (⟨_, rfl, hB⟩ | ⟨hr2, _⟩)
        rotate_left
        · have := HMR.out; omega
        have HG3 : Hid _ := HG2.out.below hB
        clear hB o2
        go_wp2_with fail
        go_ret
        exact ⟨rfl, nx, by omega, v, L, M, HG3.out, HNM.out⟩
      · have HG2 : Hid _ := HG1.out.prog hc hn (fun y hy => by rcases List.mem_append.1 hy with q | q; exact .inl q; rw [List.mem_singleton] at q; subst q; exact .inr hxl)
        have HOb : Hid _ := HO0.out.ch hc HO1.out
        have HEN : Hid (en2.n = nx ∧ en2.m = z.m) := ⟨hxn, hxm⟩
        clear hn hc hxn hxm hxl o0 o2 hat
        have o2 := HOb.out.c2
        rw [HYK.out] at o2
        go_wp2_with fail
        refine (rcopy_in HG2.out.rt HPY.out (by omega)).mono ?_
        rintro e w3 (⟨hr2, _⟩ | ⟨_, rfl, v', en3, he3, hl3, hrt, hc3, hv3⟩)
        · have := HMR.out; omega
        have HG3 : Hid _ := HG2.out.ref hc3 hrt (fun y hy => by rcases List.mem_append.1 hy with q | q; exact .inl q; rw [List.mem_singleton] at q; subst q; exact .inr hl3) hv3
        have HN3 : Hid _ := nm_app HNM.out (a := en2) (c := en3) (by rw [he3]; unfold nmE; rw [HEN.out.1, HEN.out.2, HYM.out])
        clear hrt hc3 hv3 he3 hl3 o2
        go_wp2_with fail
        go_ret
        exact ⟨rfl, nx + 1, Nat.le_refl _, v', _, _, HG3.out, HN3.out⟩
  have hf4 : (x.c == 4) = false := by simp [hk4]
  by_cases hk5 : x.c = 5
  · have hkk : (x.c == 5) = true := by simp [hk5]
    go_wp2_with fail
    refine (flights_walk HG1.out.nt (by omega)).mono ?_
    rintro e w2 ⟨v2, F, rfl, hfr, hnf, hB⟩
    have HFV : Hid _ := hfr.fv
    obtain ⟨fa, fc, hfa⟩ := own_formN hfr.own
    subst hfa
    have HG2 : Hid _ := HG1.out.below hB
    have HNF : Hid (F.map nmE = L.map nmE) := hnf
    clear hfr hnf hB HO0 o0 HML1
    go_wp2_with fail
    refine (rflights_walk HG2.out.rt).mono ?_
    rintro e w3 ⟨v3, F2, rfl, hfr, hnf, hB⟩
    have HFV2 : Hid _ := hfr.fv
    have HFV3 : Hid _ := HFV.out.below hB
    obtain ⟨ga, gc, hga⟩ := own_formN hfr.own
    subst hga
    have HG3 : Hid _ := HG2.out.below hB
    have HNF2 : Hid (F.map nmE = F2.map nmE) := by show _ = _; rw [HNF.out, hnf, HNM.out]
    clear hfr hnf hB
    go_wp2_with fail
    refine (flights_same HFV3.out HFV2.out HNF2.out).mono ?_
    rintro e w4 ⟨rfl, hB⟩
    have HG4 : Hid _ := HG3.out.below hB
    clear hB
    go_wp2_with fail
    go_ret
    exact ⟨rfl, nx, by omega, v, L, M, HG4.out, HNM.out⟩
  have hf5 : (x.c == 5) = false := by simp [hk5]
  go_wp2_with fail
  refine (next_walk HG1.out.nt).mono ?_
  rintro e w2 ⟨rfl, hw2⟩
  rw [← hw2] at HG1
  clear hw2 HO0 o0 HML1
  go_wp2_with fail
  refine (rnext_walk HG1.out.rt).mono ?_
  rintro e w3 ⟨rfl, hw3⟩
  rw [← hw3] at HG1
  clear hw3
  go_wp2_with fail
  go_ret
  exact ⟨rfl, nx, by omega, v, L, M, HG1.out, HNM.out⟩
end Go.Proofs.Ytokfbnpjndlccaa


