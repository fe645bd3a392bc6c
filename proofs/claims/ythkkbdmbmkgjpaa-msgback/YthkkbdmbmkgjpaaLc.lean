/- The walk of MsgBack. -/
import Derived.Test.YthkkbdmbmkgjpaaJn

namespace Go.Proofs.Ythkkbdmbmkgjpaa

open Go.RowKit



theorem bv_upto {w : World} {ao : Option Addr} {n cap : Nat} {l : List Nat} (h : Bv w (.slice ao n cap) l) (k : Nat) (hk : k ≤ l.length) : Bv w (.slice ao k cap) (l.take k) := by
  obtain ⟨⟨ao', cap', e, h1, h2, h3, h4⟩, h5⟩ := h
  simp only [Value.slice.injEq] at e
  obtain ⟨rfl, _, rfl⟩ := e
  rw [ib_len] at h1
  refine ⟨⟨ao, cap, by rw [ib_len]; simp; omega, by rw [ib_len]; simp; omega, h2, h3, fun i hi => ?_⟩, fun c hc => h5 c (List.mem_of_mem_take hc)⟩
  rw [ib_len] at hi
  simp at hi
  obtain ⟨b, off, e1, e2⟩ := h4 i (by rw [ib_len]; omega)
  refine ⟨b, off, e1, ?_⟩
  rw [e2]
  have hi2 : i < l.length := by omega
  have hi3 : i < k := by omega
  simp [ib, List.getD, hi2, hi3]


/-- Where MsgBack stands: its other message at D, the bytes in vb. -/
structure BI (w0 w : World) (N D : Nat) (vb : Value) (l : List Nat) : Prop where
  n : N = w0.heap.size
  d : N < D
  own : w.ownsRow (N + 1) 5 1 vb l.length (cb l)
  nd : ∀ x, vb.ownBlock = some x → x ≠ D
  dx : ∃ n a b c, MX w D n a b c
  below : Below N w0 w
theorem BI.old {w0 w w' : World} {N D : Nat} {vb : Value} {l : List Nat} (h : BI w0 w N D vb l) (hb : Below w.heap.size w w') : BI w0 w' N D vb l :=
  ⟨h.n, h.d, own_belowC h.own hb, h.nd, by obtain ⟨n, a, b, c, q⟩ := h.dx; exact ⟨n, a, b, c, q.keep hb⟩, h.below.trans (hb.mono (by obtain ⟨n, a, b, c, q⟩ := h.dx; have h1 := cell_lt q.c0; have h2 := h.d; simp only at h1; omega))⟩
theorem BI.over {w0 w : World} {N D : Nat} {vb : Value} {l : List Nat} (h : BI w0 w N D vb l) (m : Ms) (a b c : Value) : BI w0 (setM w D m a b c) N D vb l := by
  obtain ⟨n', a', b', c', q⟩ := h.dx
  exact ⟨h.n, h.d, own_off h.own (ch_setM _ _ _ _ _ _) (fun x hx e => h.nd x hx e), h.nd, ⟨_, _, _, _, q.over m a b c⟩, h.below.trans ((ch_setM _ _ _ _ _ _).to_below (by have h1 := cell_lt q.c0; have h2 := h.d; simp only at h1; omega) (fun x hx => by have := h.d; omega))⟩
theorem ml_zero {w : World} {D : Nat} {a b c : Value} (h : ML w zeroMs a b c) : ML (setM w D zeroMs a b c) zeroMs a b c := by
  obtain ⟨ea, ec, e1, g1, g2, g3, _⟩ := h.e
  obtain ⟨qa, qc, e2, k1, k2, k3, _⟩ := h.q
  obtain ⟨⟨pa, pc, e3, p1, p2, p3, _⟩, _⟩ := h.p
  exact ⟨⟨ea, ec, e1, g1, g2, g3, fun i hi => by simp [zeroMs] at hi⟩, ⟨qa, qc, e2, k1, k2, k3, fun i hi => by simp [zeroMs, ib] at hi⟩, ⟨⟨pa, pc, e3, p1, p2, p3, fun i hi => by simp [zeroMs] at hi⟩, by simp [zeroMs]⟩⟩
theorem mx_over0 {w : World} {D : Nat} {n : Ms} {x y z : Value} (h : MX w D n x y z) (a b c : Value) : MX (setM w D zeroMs a b c) D zeroMs a b c := h.over zeroMs a b c


set_option maxRecDepth 100000 in
set_option maxHeartbeats 8000000 in
theorem msgback_walk {w : World} {m : Ms} {ev qv pv : Value} (h : ML w m ev qv pv) (hok : m.ok) :
    Calls Try.prog 6 #[.agg #[.int .i64 m.K, .int .i64 m.F, .int .i64 m.T, .int .i64 m.B, .int .i64 m.A, .int .i64 m.C, ev, qv, pv]] w fun e w' => e = .returned (.bool true) ∧ Below w.heap.size w w' := by
  have HL : Hid (ML w m ev qv pv) := h
  have HOK : Hid m.ok := hok
  have HX0 : Hid (MX (w.alloc (Obj.cells #[.int .i64 m.K, .int .i64 m.F, .int .i64 m.T, .int .i64 m.B, .int .i64 m.A, .int .i64 m.C, ev, qv, pv] 26)) w.heap.size m ev qv pv) := mx_new w m ev qv pv
  have HB0 : Hid (Below w.heap.size w (w.alloc (Obj.cells #[.int .i64 m.K, .int .i64 m.F, .int .i64 m.T, .int .i64 m.B, .int .i64 m.A, .int .i64 m.C, ev, qv, pv] 26))) := below_alloc _ _
  obtain ⟨ea, en, ec, rfl⟩ := sv_any h.e
  obtain ⟨qa, qn, qc, rfl⟩ := sv_any h.q
  obtain ⟨sa, sn, sc, rfl⟩ := qv_any h.p
  clear h hok
  go_enter Try.func6, Try.ntmps6
  go_upto_region 1 with fail
  obtain ⟨N, hN⟩ : ∃ N, N = w.heap.size := ⟨_, rfl⟩
  rw [← hN] at HX0 ⊢
  have HN : Hid (N = w.heap.size) := hN
  clear hN
  generalize w.alloc (Obj.cells #[.int .i64 m.K, .int .i64 m.F, .int .i64 m.T, .int .i64 m.B, .int .i64 m.A, .int .i64 m.C, .slice ea en ec, .slice qa qn qc, .slice sa sn sc] 26) = w0 at HX0 HB0 ⊢
  go_wp2_with fail
  refine (awake_walk _).mono ?_
  rintro e w1 ⟨rfl, hB1⟩
  have HX1 : Hid _ := HX0.out.keep hB1
  have HB1 : Hid (Below w.heap.size w w1) := below_trans HB0.out hB1
  have HL1 : Hid _ := HL.out.below HB1.out
  clear hB1 HX0 HB0
  have c0 := HX1.out.c0; have c1 := HX1.out.c1; have c2 := HX1.out.c2; have c3 := HX1.out.c3; have c4 := HX1.out.c4; have c5 := HX1.out.c5; have c6 := HX1.out.c6; have c7 := HX1.out.c7; have c8 := HX1.out.c8
  cases hs : sndM m
  · have HS : Hid (sndM m = false) := hs
    have HEN : Hid (encS m = ([], 150)) := encS_bad hs
    clear hs
    go_wp2_with fail
    refine (menc_walk HL1.out HOK.out).mono ?_
    rintro e w2 ⟨vb, he, ho2, hB2⟩
    rw [HEN.out] at he ho2
    subst he
    obtain ⟨va, vn, vc, rfl⟩ := sv_any (own_sv (l := ib []) ho2)
    have hvn : vn = 0 := by
      obtain ⟨_, _, e, _⟩ := own_sv (l := ib []) ho2
      simp only [Value.slice.injEq] at e
      rw [e.2.1]; rfl
    subst hvn
    have HX2 : Hid _ := HX1.out.keep hB2
    have HB2 : Hid (Below w.heap.size w w2) := below_trans HB1.out hB2
    have HL2 : Hid _ := HL.out.below HB2.out
    clear ho2 hB2 HX1 HB1 HL1 c0 c1 c2 c3 c4 c5 c6 c7 c8
    have c0 := HX2.out.c0; have c1 := HX2.out.c1; have c2 := HX2.out.c2; have c3 := HX2.out.c3; have c4 := HX2.out.c4; have c5 := HX2.out.c5; have c6 := HX2.out.c6; have c7 := HX2.out.c7; have c8 := HX2.out.c8
    simp only [show (((([] : List Nat), 150).2 : Nat) : Int) = 150 from rfl]
    go_wp2_with fail
    refine (sound_walk HL2.out).mono ?_
    rw [HS.out]
    rintro e w3 ⟨rfl, hB3⟩
    go_wp2_with fail
    go_ret
    exact ⟨rfl, below_trans HB2.out hB3⟩
  have HS : Hid (sndM m = true) := hs
  have HEN : Hid (encS m = (bytS m, 0)) := encS_bytS hs
  have HLT : Hid (∀ c ∈ bytS m, c < 256) := bytS_lt hs HOK.out
  have HLN : Hid ((bytS m).length ≤ 1250) := bytS_len hs
  have HTH : Hid (∀ r, decS (bytS m ++ r) = if r.length ≠ 0 then (zeroMs, 5) else (m, 0)) := fun r => formS_there hs HOK.out r
  have HCT : Hid (∀ n, n < (bytS m).length → decS ((bytS m).take n) = (zeroMs, 3)) := fun n hn => formS_cut hs HOK.out hn
  clear hs
  obtain ⟨l, hl⟩ : ∃ l, l = bytS m := ⟨_, rfl⟩
  rw [← hl] at HEN HLT HLN HTH HCT
  clear hl
  go_wp2_with fail
  refine (menc_walk HL1.out HOK.out).mono ?_
  rintro e w2 ⟨vb, he, ho2, hB2⟩
  rw [HEN.out] at he ho2
  subst he
  obtain ⟨va, vn, vc, rfl⟩ := sv_any (own_sv (l := ib l) ho2)
  have hvl : vn = l.length ∧ l.length ≤ vc ∧ vc ≤ maxLen := by
    have hb := own_bv (l := l) ho2 HLT.out
    exact bv_le hb
  have HVN : Hid (vn = l.length) := hvl.1
  have hvc : (vn : Int) ≤ (vc : Int) := by omega
  have hvm : (vc : Int) ≤ 9223372036854775807 := by have := hvl.2.2; unfold maxLen at this; omega
  have HO2 : Hid (w2.ownsRow (N + 1) 5 1 (.slice va vn vc) l.length (cb l)) := own_baseC ho2 (by have := cell_lt HX1.out.c0; simp only at this; omega)
  have HX2 : Hid _ := HX1.out.keep hB2
  have HB2 : Hid (Below w.heap.size w w2) := below_trans HB1.out hB2
  clear ho2 hB2 hvl HX1 HB1 HL1 c0 c1 c2 c3 c4 c5 c6 c7 c8
  simp only [show ((((l, 0) : List Nat × Nat).2 : Nat) : Int) = 0 from rfl]
  go_wp2_with fail
  refine (mdec_walk (own_bv (l := l) HO2.out HLT.out)).mono ?_
  rintro e w3 ⟨ve, vq, vp, he, he3, hq3, hp3, hB3⟩
  have hd := HTH.out []
  rw [List.append_nil, if_neg (by simp)] at hd
  rw [hd] at he he3 hq3 hp3
  clear hd
  subst he
  have HM3 : Hid (ML w3 m ve vq vp) := own_ml HOK.out he3 hq3 hp3
  obtain ⟨da, dn, dc, rfl⟩ := sv_any HM3.out.e
  obtain ⟨ka, kn, kc, rfl⟩ := sv_any HM3.out.q
  obtain ⟨pa, pn, pc, rfl⟩ := qv_any HM3.out.p
  have HNW : Hid (N < w3.heap.size) := by have h1 := cell_lt HX2.out.c0; have h2 := hB3.size; simp only at h1; show _ < _; omega
  have HX3 : Hid _ := HX2.out.keep (below_trans hB3 (below_alloc _ (Obj.cells #[.int .i64 m.K, .int .i64 m.F, .int .i64 m.T, .int .i64 m.B, .int .i64 m.A, .int .i64 m.C, .slice da dn dc, .slice ka kn kc, .slice pa pn pc] 26)))
  have HM4 : Hid _ := HM3.out.below (below_alloc _ (Obj.cells #[.int .i64 m.K, .int .i64 m.F, .int .i64 m.T, .int .i64 m.B, .int .i64 m.A, .int .i64 m.C, .slice da dn dc, .slice ka kn kc, .slice pa pn pc] 26))
  have HD3 : Hid (MX (w3.alloc (Obj.cells #[.int .i64 m.K, .int .i64 m.F, .int .i64 m.T, .int .i64 m.B, .int .i64 m.A, .int .i64 m.C, .slice da dn dc, .slice ka kn kc, .slice pa pn pc] 26)) w3.heap.size m (.slice da dn dc) (.slice ka kn kc) (.slice pa pn pc)) := mx_new w3 m (.slice da dn dc) (.slice ka kn kc) (.slice pa pn pc)
  have HB3 : Hid (Below w.heap.size w (w3.alloc (Obj.cells #[.int .i64 m.K, .int .i64 m.F, .int .i64 m.T, .int .i64 m.B, .int .i64 m.A, .int .i64 m.C, .slice da dn dc, .slice ka kn kc, .slice pa pn pc] 26))) := below_trans HB2.out (below_trans hB3 (below_alloc _ _))
  have HI : Hid (BI w (w3.alloc (Obj.cells #[.int .i64 m.K, .int .i64 m.F, .int .i64 m.T, .int .i64 m.B, .int .i64 m.A, .int .i64 m.C, .slice da dn dc, .slice ka kn kc, .slice pa pn pc] 26)) N w3.heap.size (.slice va vn vc) l) :=
    ⟨HN.out, HNW.out, own_belowC HO2.out (below_trans hB3 (below_alloc _ _)), fun x hx => by have h1 := (own_lt HO2.out hx).2; have h2 := hB3.size; omega, ⟨_, _, _, _, HD3.out⟩, by have k := HB3.out; rw [HN.out]; exact k⟩
  clear he3 hq3 hp3 hB3 HM3 HX2 HB2 HO2
  simp only [show ((((m, 0) : Ms × Nat).2 : Nat) : Int) = 0 from rfl]
  go_upto_region 7 with fail
  obtain ⟨D, hD⟩ : ∃ D, D = w3.heap.size := ⟨_, rfl⟩
  rw [← hD] at HD3 HI ⊢
  generalize w3.alloc (Obj.cells #[.int .i64 m.K, .int .i64 m.F, .int .i64 m.T, .int .i64 m.B, .int .i64 m.A, .int .i64 m.C, .slice da dn dc, .slice ka kn kc, .slice pa pn pc] 26) = w4 at HX3 HM4 HD3 HB3 HI ⊢
  clear hD HNW
  have c0 := HX3.out.c0; have c1 := HX3.out.c1; have c2 := HX3.out.c2; have c3 := HX3.out.c3; have c4 := HX3.out.c4; have c5 := HX3.out.c5; have c6 := HX3.out.c6; have c7 := HX3.out.c7; have c8 := HX3.out.c8
  have d0 := HD3.out.c0; have d1 := HD3.out.c1; have d2 := HD3.out.c2; have d3 := HD3.out.c3; have d4 := HD3.out.c4; have d5 := HD3.out.c5; have d6 := HD3.out.c6; have d7 := HD3.out.c7; have d8 := HD3.out.c8
  go_wp2_with fail
  refine (same_walk HM4.out (HL.out.below HB3.out)).mono ?_
  rintro e w5 ⟨rfl, hB5⟩
  have HI5 : Hid _ := HI.out.old hB5
  clear hB5 HX3 HD3 HM4 HB3 HI c0 c1 c2 c3 c4 c5 c6 c7 c8 d0 d1 d2 d3 d4 d5 d6 d7 d8
  have hlb : (vn : Int) ≤ 1250 := by have := HVN.out; have := HLN.out; omega
  go_wp2_with fail
  go_loopw [6] (fun iv wr => ∃ i : Nat, iv = .int .i64 i ∧ i ≤ l.length ∧ BI w wr N D (.slice va vn vc) l) (fun iv _ => l.length - (intOf iv).toNat)
  case atStart => exact ⟨0, rfl, Nat.zero_le _, HI5.out⟩
  case round =>
    clear HI5
    obtain ⟨i, rfl, hil, hbi⟩ := hrel
    have HI : Hid (BI w wr N D (.slice va vn vc) l) := hbi
    clear hbi
    by_cases hlt : i < l.length
    · have hlti : (i : Int) < (vn : Int) := by have := HVN.out; omega
      have hlc : (i : Int) ≤ (vc : Int) := by omega
      have HBV : Hid (Bv wr (.slice va i vc) (l.take i)) := bv_upto (own_bv (l := l) HI.out.own HLT.out) i (by omega)
      have HCI : Hid (decS (l.take i) = (zeroMs, 3)) := HCT.out i hlt
      go_wp2_with fail
      refine (mdec_walk HBV.out).mono ?_
      rintro e w6 ⟨ve, vq, vp, he, he6, hq6, hp6, hB6⟩
      rw [HCI.out] at he he6 hq6 hp6
      subst he
      have HM6 : Hid (ML w6 zeroMs ve vq vp) := own_ml zero_ok he6 hq6 hp6
      obtain ⟨da, dn, dc, rfl⟩ := sv_any HM6.out.e
      obtain ⟨ka, kn, kc, rfl⟩ := sv_any HM6.out.q
      obtain ⟨pa, pn, pc, rfl⟩ := qv_any HM6.out.p
      have HI6 : Hid _ := HI.out.old hB6
      clear he6 hq6 hp6 hB6 HI
      obtain ⟨n6, a6, b6, e6, hq⟩ := HI6.out.dx
      have z0 := hq.z 0; have z1 := hq.z 1; have z2 := hq.z 2; have z3 := hq.z 3; have z4 := hq.z 4; have z5 := hq.z 5; have z6 := hq.z 6; have z7 := hq.z 7; have z8 := hq.z 8
      have d0 := hq.c0; have d1 := hq.c1; have d2 := hq.c2; have d3 := hq.c3; have d4 := hq.c4; have d5 := hq.c5; have d6 := hq.c6; have d7 := hq.c7; have d8 := hq.c8
      have HX7 := mx_over0 hq (.slice da dn dc) (.slice ka kn kc) (.slice pa pn pc)
      have HI7 := HI6.out.over zeroMs (.slice da dn dc) (.slice ka kn kc) (.slice pa pn pc)
      have HM7 : ML (setM w6 D zeroMs (.slice da dn dc) (.slice ka kn kc) (.slice pa pn pc)) zeroMs (.slice da dn dc) (.slice ka kn kc) (.slice pa pn pc) := ml_zero HM6.out
      unfold setM at HX7 HI7 HM7
      simp only [zeroMs] at HX7 HI7 HM7
      replace HX7 : Hid (MX (((((((((w6.setCell ⟨D, 0, none⟩ (.int .i64 0)).setCell ⟨D, 1, none⟩ (.int .i64 0)).setCell ⟨D, 2, none⟩ (.int .i64 0)).setCell ⟨D, 3, none⟩ (.int .i64 0)).setCell ⟨D, 4, none⟩ (.int .i64 0)).setCell ⟨D, 5, none⟩ (.int .i64 0)).setCell ⟨D, 6, none⟩ (.slice da dn dc)).setCell ⟨D, 7, none⟩ (.slice ka kn kc)).setCell ⟨D, 8, none⟩ (.slice pa pn pc)) D zeroMs (.slice da dn dc) (.slice ka kn kc) (.slice pa pn pc)) := HX7
      replace HI7 : Hid (BI w (((((((((w6.setCell ⟨D, 0, none⟩ (.int .i64 0)).setCell ⟨D, 1, none⟩ (.int .i64 0)).setCell ⟨D, 2, none⟩ (.int .i64 0)).setCell ⟨D, 3, none⟩ (.int .i64 0)).setCell ⟨D, 4, none⟩ (.int .i64 0)).setCell ⟨D, 5, none⟩ (.int .i64 0)).setCell ⟨D, 6, none⟩ (.slice da dn dc)).setCell ⟨D, 7, none⟩ (.slice ka kn kc)).setCell ⟨D, 8, none⟩ (.slice pa pn pc)) N D (.slice va vn vc) l) := HI7
      replace HM7 : Hid (ML (((((((((w6.setCell ⟨D, 0, none⟩ (.int .i64 0)).setCell ⟨D, 1, none⟩ (.int .i64 0)).setCell ⟨D, 2, none⟩ (.int .i64 0)).setCell ⟨D, 3, none⟩ (.int .i64 0)).setCell ⟨D, 4, none⟩ (.int .i64 0)).setCell ⟨D, 5, none⟩ (.int .i64 0)).setCell ⟨D, 6, none⟩ (.slice da dn dc)).setCell ⟨D, 7, none⟩ (.slice ka kn kc)).setCell ⟨D, 8, none⟩ (.slice pa pn pc)) zeroMs (.slice da dn dc) (.slice ka kn kc) (.slice pa pn pc)) := HM7
      clear hq HI6 HM6
      simp only [zeroMs]
      go_upto_region 13 with fail
      generalize ((((((((w6.setCell ⟨D, 0, none⟩ (.int .i64 0)).setCell ⟨D, 1, none⟩ (.int .i64 0)).setCell ⟨D, 2, none⟩ (.int .i64 0)).setCell ⟨D, 3, none⟩ (.int .i64 0)).setCell ⟨D, 4, none⟩ (.int .i64 0)).setCell ⟨D, 5, none⟩ (.int .i64 0)).setCell ⟨D, 6, none⟩ (.slice da dn dc)).setCell ⟨D, 7, none⟩ (.slice ka kn kc)).setCell ⟨D, 8, none⟩ (.slice pa pn pc) = w7 at HX7 HI7 HM7 ⊢
      clear z0 z1 z2 z3 z4 z5 z6 z7 z8 d0 d1 d2 d3 d4 d5 d6 d7 d8
      have d0 : w7.cell? ⟨D, 0, none⟩ = some (.int .i64 0) := HX7.out.c0
      have d1 : w7.cell? ⟨D, 1, none⟩ = some (.int .i64 0) := HX7.out.c1
      have d2 : w7.cell? ⟨D, 2, none⟩ = some (.int .i64 0) := HX7.out.c2
      have d3 : w7.cell? ⟨D, 3, none⟩ = some (.int .i64 0) := HX7.out.c3
      have d4 : w7.cell? ⟨D, 4, none⟩ = some (.int .i64 0) := HX7.out.c4
      have d5 : w7.cell? ⟨D, 5, none⟩ = some (.int .i64 0) := HX7.out.c5
      have d6 := HX7.out.c6; have d7 := HX7.out.c7; have d8 := HX7.out.c8
      go_wp2_with fail
      refine (same_walk (m := zeroMs) HM7.out (ml_lit _ zeroMs rfl rfl rfl)).mono ?_
      rintro e w8 ⟨rfl, hB8⟩
      have HI8 : Hid _ := HI7.out.old hB8
      clear hB8 HX7 HM7 HI7 d0 d1 d2 d3 d4 d5 d6 d7 d8
      go_wp2_with fail
      go_roundw
      case rel => exact ⟨i + 1, by simp, hlt, HI8.out⟩
      case measure => simp [intOf]; omega
    · have hlti : ¬ (i : Int) < (vn : Int) := by have := HVN.out; omega
      have HO : Hid ((wr.alloc (Obj.cells #[] 5)).ownsRow wr.heap.size 5 1 (.slice (some ⟨wr.heap.size, 0, none⟩) 0 0) 0 []) := World.ownsRow_made wr #[] 0 (Nat.le_refl _) (by simp [maxLen]) rfl
      have HSV : Hid (Sv .u8 (wr.alloc (Obj.cells #[] 5)) (.slice va vn vc) (ib l)) := (own_bv (l := l) HI.out.own HLT.out).1.below (below_alloc _ _)
      have HBW : Hid (Below w.heap.size w wr) := by have q := HI.out.below; rw [HN.out] at q; exact q
      go_wp2_with (first
        | (have hmk := HMARK; at_builtin; refine wpList_append_sv (by rfl) (.tmp 65) (.tmp 66) 28 (by rfl) wr.heap.size 5 .u8 1 Try.underlying28 info_u8 _ _ _ (by rfl) (HO6.out.alloc _) _ [_] (by rfl) (sv_one .u8 _ _ _) (by have := HLN.out; simp only [maxLen, List.length_singleton]; omega) (by have := HLN.out; simp only [List.length_singleton]; omega) (by rw [size_allocC]; have := HB6.out.size; omega) ?_; intro v7 w7 hown7 hgrow7; have HB7 : Hid (Below wr.heap.size wr w7) := (HB6.out.trans ((below_alloc w6 _).mono HB6.out.size)).trans (grown_belowC (HO6.out.alloc _) hgrow7 (by rw [size_allocC]; have := HB6.out.size; omega)))
        | (at_builtin; refine wpList_append_sv (by rfl) (.tmp 63) (.tmp 64) 28 (by rfl) wr.heap.size 5 .u8 1 Try.underlying28 info_u8 _ _ _ (by rfl) HO.out _ _ (by rfl) HSV.out (by have := HLN.out; rw [ib_len]; simp only [maxLen]; omega) (by have := HLN.out; rw [ib_len]; omega) (by rw [size_allocC]; omega) ?_; intro v6 w6 hown6 hgrow6; have HO6 : Hid (w6.ownsRow wr.heap.size 5 1 v6 l.length (cb l)) := (by have q := hown6; rw [ib_len, Nat.zero_add, List.nil_append] at q; exact q); have HB6 : Hid (Below wr.heap.size wr w6) := (below_alloc _ _).trans (grown_belowC HO.out hgrow6 (by rw [size_allocC]; omega)); have HMARK : Hid True := trivial; clear hown6 hgrow6))
      have HV7 : Hid (Bv w7 v7 (l ++ [0])) := by
        refine own_bv (n := (l ++ [0]).length) (base := wr.heap.size) (e := 5) ?_ (fun c hc => by rcases List.mem_append.1 hc with q | q; exact HLT.out c q; simp at q; omega)
        rw [ib_append, List.map_append]
        rw [List.length_append]
        exact hown7
      clear hown7 hgrow7
      refine (mdec_walk HV7.out).mono ?_
      rintro e w8 ⟨ve, vq, vp, he, he8, hq8, hp8, hB8⟩
      rw [HTH.out [0], if_pos (by simp)] at he he8 hq8 hp8
      subst he
      have HB8 : Hid (Below w.heap.size w w8) := below_trans HBW.out (below_trans HB7.out hB8)
      obtain ⟨da, dn, dc, rfl⟩ := sv_any (own_sv he8)
      obtain ⟨ka, kn, kc, rfl⟩ := sv_any (own_sv hq8)
      obtain ⟨pa, pn, pc, rfl⟩ := qv_any (own_qv hp8 zero_ok.P)
      clear he8 hq8 hp8 hB8
      go_wp2_with fail
      go_ret
      exact ⟨rfl, HB8.out⟩
end Go.Proofs.Ythkkbdmbmkgjpaa


