/- The walk of MsgForm. -/
import Derived.Test.YthkkbdmbmkgjpaaJn

namespace Go.Proofs.Ythkkbdmbmkgjpaa

open Go.RowKit



theorem hd_eta (m : Ms) : m = ⟨m.K, m.F, m.T, m.B, m.A, m.C, m.E, m.Q, m.P⟩ := rfl
set_option maxRecDepth 100000 in
set_option maxHeartbeats 8000000 in
theorem msgform_walk {w : World} {bv : Value} {b : List Nat} (hb : Bv w bv b) :
    Calls Try.prog 5 #[bv] w fun e w' => e = .returned (.bool true) ∧ Below w.heap.size w w' := by
  have HBW : Hid (Bv w bv b) := hb
  clear hb
  go_enter Try.func5, Try.ntmps5
  go_wp2_with fail
  refine (awake_walk _).mono ?_
  rintro e w1 ⟨rfl, hB1⟩
  have HB1 : Hid (Below w.heap.size w w1) := hB1
  clear hB1
  go_wp2_with fail
  refine (mdec_walk (HBW.out.below HB1.out)).mono ?_
  rintro e w2 ⟨ve, vq, vp, he, he2, hq2, hp2, hB2⟩
  have HOK : Hid (decS b).1.ok := decS_ok HBW.out.2
  have HBK : Hid _ := @formS_back b HBW.out.2
  have HBD : Hid _ := @decS_bad b
  obtain ⟨E, hE⟩ : ∃ E, E = (decS b).2 := ⟨_, rfl⟩
  obtain ⟨m, hm⟩ : ∃ m, m = (decS b).1 := ⟨_, rfl⟩
  rw [← hE, ← hm] at he
  rw [← hm] at he2 hq2 hp2 HOK
  rw [← hE, ← hm] at HBK HBD
  clear hE hm
  subst he
  have HM2 : Hid (ML w2 m ve vq vp) := own_ml HOK.out he2 hq2 hp2
  obtain ⟨da, dn, dc, rfl⟩ := sv_any HM2.out.e
  obtain ⟨ka, kn, kc, rfl⟩ := sv_any HM2.out.q
  obtain ⟨pa, pn, pc, rfl⟩ := qv_any HM2.out.p
  have HB2 : Hid (Below w.heap.size w (w2.alloc (Obj.cells #[.int .i64 m.K, .int .i64 m.F, .int .i64 m.T, .int .i64 m.B, .int .i64 m.A, .int .i64 m.C, .slice da dn dc, .slice ka kn kc, .slice pa pn pc] 26))) := below_trans HB1.out (below_trans hB2 (below_alloc _ _))
  have HM3 : Hid (ML (w2.alloc (Obj.cells #[.int .i64 m.K, .int .i64 m.F, .int .i64 m.T, .int .i64 m.B, .int .i64 m.A, .int .i64 m.C, .slice da dn dc, .slice ka kn kc, .slice pa pn pc] 26)) m (.slice da dn dc) (.slice ka kn kc) (.slice pa pn pc)) := HM2.out.below (below_alloc _ _)
  have HX3 : Hid (MX (w2.alloc (Obj.cells #[.int .i64 m.K, .int .i64 m.F, .int .i64 m.T, .int .i64 m.B, .int .i64 m.A, .int .i64 m.C, .slice da dn dc, .slice ka kn kc, .slice pa pn pc] 26)) w2.heap.size m (.slice da dn dc) (.slice ka kn kc) (.slice pa pn pc)) := mx_new w2 m (.slice da dn dc) (.slice ka kn kc) (.slice pa pn pc)
  clear he2 hq2 hp2 hB2 HM2 HB1
  go_upto_region 4 with fail
  obtain ⟨D, hD⟩ : ∃ D, D = w2.heap.size := ⟨_, rfl⟩
  rw [← hD] at HX3 ⊢
  clear hD
  generalize w2.alloc (Obj.cells #[.int .i64 m.K, .int .i64 m.F, .int .i64 m.T, .int .i64 m.B, .int .i64 m.A, .int .i64 m.C, .slice da dn dc, .slice ka kn kc, .slice pa pn pc] 26) = w3 at HB2 HM3 HX3 ⊢
  have d0 := HX3.out.c0; have d1 := HX3.out.c1; have d2 := HX3.out.c2; have d3 := HX3.out.c3; have d4 := HX3.out.c4; have d5 := HX3.out.c5; have d6 := HX3.out.c6; have d7 := HX3.out.c7; have d8 := HX3.out.c8
  by_cases hE0 : E = 0
  · subst hE0
    have HF := HBK.out rfl
    obtain ⟨hs, hen, _⟩ := HF
    have HS : Hid (sndM m = true) := hs
    have HEN : Hid (encS m = (b, 0)) := hen
    clear hs hen HBK HBD
    go_wp2_with fail
    refine (menc_walk HM3.out HOK.out).mono ?_
    rintro e w4 ⟨v4, he, ho4, hB4⟩
    rw [HEN.out] at he ho4
    subst he
    have HX4 : Hid _ := HX3.out.keep hB4
    have HM4 : Hid _ := HM3.out.below hB4
    have HB4 : Hid (Below w.heap.size w w4) := below_trans HB2.out hB4
    have hs1 : (convert 28 9 v4).run Try.prog w4 = .ok (.string (str b)) w4 := (own_bv ho4 HBW.out.2).str 28 5 9 Try.underlying28 Try.underlying5 Try.underlying9
    have hs2 : (convert 28 9 bv).run Try.prog w4 = .ok (.string (str b)) w4 := (HBW.out.below HB4.out).str 28 5 9 Try.underlying28 Try.underlying5 Try.underlying9
    have hbb : ((str b).toList == (str b).toList) = true := by simp
    clear ho4 hB4 d0 d1 d2 d3 d4 d5 d6 d7 d8 HX3 HM3 HB2
    have d0 := HX4.out.c0; have d1 := HX4.out.c1; have d2 := HX4.out.c2; have d3 := HX4.out.c3; have d4 := HX4.out.c4; have d5 := HX4.out.c5; have d6 := HX4.out.c6; have d7 := HX4.out.c7; have d8 := HX4.out.c8
    go_wp2_with fail
    refine (sound_walk HM4.out).mono ?_
    rw [HS.out]
    rintro e w5 ⟨rfl, hB5⟩
    go_wp2_with fail
    go_ret
    exact ⟨rfl, below_trans HB4.out hB5⟩
  · have hEb : ((E : Int) != 0) = true := by rw [bne_iff_ne]; omega
    have HZ := HBD.out hE0
    subst HZ
    clear hE0 HBK HBD
    go_wp2_with fail
    refine (same_walk (m := zeroMs) HM3.out (ml_lit _ zeroMs rfl rfl rfl)).mono ?_
    rintro e w4 ⟨rfl, hB4⟩
    go_wp2_with fail
    go_ret
    exact ⟨rfl, below_trans HB2.out hB4⟩
end Go.Proofs.Ythkkbdmbmkgjpaa


