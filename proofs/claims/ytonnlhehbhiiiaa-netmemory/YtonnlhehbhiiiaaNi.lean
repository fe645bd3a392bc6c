/- Contracts of repriselaw16's same (for equal messages), laid, flights (for equal lists). -/
import Derived.Test.YtonnlhehbhiiiaaNh

import Derived.Test.YtonnlhehbhiiiaaJp

namespace Go.Proofs.Ytonnlhehbhiiiaa

open Go.RowKit



theorem encS_ltN {m : Ms} (hk : m.ok) : ∀ c ∈ (encS m).1, c < 256 := by
  unfold encS
  cases h : sndM m
  · simp
  · simp only [if_true]
    exact bytS_lt h hk
theorem mx_new1 (w : World) (m : Ms) (ev qv pv : Value) (ob : Obj) : MX ((w.alloc ob).alloc (Obj.cells #[.int .i64 m.K, .int .i64 m.F, .int .i64 m.T, .int .i64 m.B, .int .i64 m.A, .int .i64 m.C, ev, qv, pv] 35)) (w.heap.size + 1) m ev qv pv := by
  have h := mx_new (w.alloc ob) m ev qv pv
  rw [size_allocC] at h
  exact h
set_option maxRecDepth 100000 in
set_option maxHeartbeats 4000000 in
theorem same_walk {w : World} {m : Ms} {ev qv pv fv rv sv : Value} (h : ML w m ev qv pv) (h' : ML w m fv rv sv) (hok : m.ok) :
    Calls Try.prog 21 #[.agg #[.int .i64 m.K, .int .i64 m.F, .int .i64 m.T, .int .i64 m.B, .int .i64 m.A, .int .i64 m.C, ev, qv, pv], .agg #[.int .i64 m.K, .int .i64 m.F, .int .i64 m.T, .int .i64 m.B, .int .i64 m.A, .int .i64 m.C, fv, rv, sv]] w fun e w' => e = .returned (.bool true) ∧ Below w.heap.size w w' := by
  have HA : Hid (ML w m ev qv pv) := h
  have HB : Hid (ML w m fv rv sv) := h'
  have HK : Hid m.ok := hok
  obtain ⟨ea, en, ec, rfl, he, hem⟩ := sv_le h.e
  obtain ⟨qa, qn, qc, rfl, hq, hqm⟩ := sv_le h.q
  obtain ⟨pa, pn, pc, rfl, hp, hpm⟩ := qv_le h.p
  obtain ⟨fa, fn, fc, rfl, he', _⟩ := sv_le h'.e
  obtain ⟨ra, rn, rc, rfl, hq', _⟩ := sv_le h'.q
  obtain ⟨sa, sn, sc, rfl, hp', _⟩ := qv_le h'.p
  obtain rfl : en = fn := by omega
  obtain rfl : qn = rn := by omega
  obtain rfl : pn = sn := by omega
  rw [ib_len] at hqm
  have hei : (en : Int) ≤ 9223372036854775807 := by unfold maxLen at hem; omega
  have hqi : (qn : Int) ≤ 9223372036854775807 := by have := ib_len m.Q; unfold maxLen at hqm; omega
  have hpi : (pn : Int) ≤ 9223372036854775807 := by unfold maxLen at hpm; omega
  clear h h' hok he he' hq hq' hp hp' hem hqm hpm
  have HX : Hid _ := mx_old (mx_new w m (.slice ea en ec) (.slice qa qn qc) (.slice pa pn pc)) (Obj.cells #[.int .i64 m.K, .int .i64 m.F, .int .i64 m.T, .int .i64 m.B, .int .i64 m.A, .int .i64 m.C, .slice fa en fc, .slice ra qn rc, .slice sa pn sc] 35)
  have HY : Hid _ := mx_new1 w m (.slice fa en fc) (.slice ra qn rc) (.slice sa pn sc) (Obj.cells #[.int .i64 m.K, .int .i64 m.F, .int .i64 m.T, .int .i64 m.B, .int .i64 m.A, .int .i64 m.C, .slice ea en ec, .slice qa qn qc, .slice pa pn pc] 35)
  have HW : Hid _ := below_trans (below_alloc w (Obj.cells #[.int .i64 m.K, .int .i64 m.F, .int .i64 m.T, .int .i64 m.B, .int .i64 m.A, .int .i64 m.C, .slice ea en ec, .slice qa qn qc, .slice pa pn pc] 35)) (below_alloc _ (Obj.cells #[.int .i64 m.K, .int .i64 m.F, .int .i64 m.T, .int .i64 m.B, .int .i64 m.A, .int .i64 m.C, .slice fa en fc, .slice ra qn rc, .slice sa pn sc] 35))
  go_enter Try.func21, Try.ntmps21
  go_upto_region 1 with fail
  obtain ⟨P, hP⟩ : ∃ P, P = w.heap.size := ⟨_, rfl⟩
  rw [← hP] at HX HY ⊢
  clear hP
  generalize (w.alloc (Obj.cells #[.int .i64 m.K, .int .i64 m.F, .int .i64 m.T, .int .i64 m.B, .int .i64 m.A, .int .i64 m.C, .slice ea en ec, .slice qa qn qc, .slice pa pn pc] 35)).alloc (Obj.cells #[.int .i64 m.K, .int .i64 m.F, .int .i64 m.T, .int .i64 m.B, .int .i64 m.A, .int .i64 m.C, .slice fa en fc, .slice ra qn rc, .slice sa pn sc] 35) = w1 at HX HY HW ⊢
  have x0 := HX.out.c0
  have x1 := HX.out.c1
  have x2 := HX.out.c2
  have x3 := HX.out.c3
  have x4 := HX.out.c4
  have x5 := HX.out.c5
  have x6 := HX.out.c6
  have x7 := HX.out.c7
  have x8 := HX.out.c8
  obtain ⟨E, hE⟩ : ∃ E, E = (encS m).2 := ⟨_, rfl⟩
  obtain ⟨l, hl⟩ : ∃ l, l = (encS m).1 := ⟨_, rfl⟩
  have HLT : Hid (∀ c ∈ l, c < 256) := by intro c hc; rw [hl] at hc; exact encS_ltN HK.out c hc
  have HE : Hid (encS m = (l, E)) := by rw [hl, hE]; rfl
  clear hE hl
  go_wp2_with fail
  refine (rmenc_walk (HA.out.below HW.out) HK.out).mono ?_
  rintro e w2 ⟨vb, he, ho2, hB2⟩
  rw [HE.out] at he ho2
  subst he
  have HX2 : Hid _ := HX.out.keep hB2
  have HY2 : Hid _ := HY.out.keep hB2
  have HW2 : Hid (Below w.heap.size w w2) := below_trans HW.out hB2
  have HV2 : Hid (Bv w2 vb l) := own_bv (l := l) ho2 HLT.out
  clear ho2 hB2 HX HY HW x0 x1 x2 x3 x4 x5 x6 x7 x8
  have y0 := HY2.out.c0
  have y1 := HY2.out.c1
  have y2 := HY2.out.c2
  have y3 := HY2.out.c3
  have y4 := HY2.out.c4
  have y5 := HY2.out.c5
  have y6 := HY2.out.c6
  have y7 := HY2.out.c7
  have y8 := HY2.out.c8
  go_wp2_with fail
  refine (rmenc_walk (HB.out.below HW2.out) HK.out).mono ?_
  rintro e w3 ⟨vd, he, ho3, hB3⟩
  rw [HE.out] at he ho3
  subst he
  have HX3 : Hid _ := HX2.out.keep hB3
  have HY3 : Hid _ := HY2.out.keep hB3
  have HW3 : Hid (Below w.heap.size w w3) := below_trans HW2.out hB3
  have HD3 : Hid (Bv w3 vd l) := own_bv (l := l) ho3 HLT.out
  have HV3 : Hid (Bv w3 vb l) := HV2.out.below hB3
  have s1 : (convert 79 9 vb).run Try.prog w3 = .ok (.string (str l)) w3 := HV3.out.str 79 5 9 Try.underlying79 Try.underlying5 Try.underlying9
  have s2 : (convert 79 9 vd).run Try.prog w3 = .ok (.string (str l)) w3 := HD3.out.str 79 5 9 Try.underlying79 Try.underlying5 Try.underlying9
  clear ho3 hB3 HX2 HY2 HW2 HV2 y0 y1 y2 y3 y4 y5 y6 y7 y8
  have hnn : ((str l).toList != (str l).toList) = false := by simp
  have hne : ((E : Int) != (E : Int)) = false := by simp
  obtain ⟨va, vn, vc, rfl⟩ := bv_any HV3.out
  obtain ⟨da, dn, dc, rfl⟩ := bv_any HD3.out
  go_upto_region 5 with fail
  clear s1 s2 hnn hne
  have hEE : E = 0 ∨ E = 150 := by
    have h := HE.out
    cases hs : sndM m
    · rw [encS_bad hs] at h; right; exact (congrArg Prod.snd h).symm
    · unfold encS at h; rw [if_pos hs] at h; left; exact (congrArg Prod.snd h).symm
  clear HV3 HD3 HE HLT
  simp only [List.append_eq, List.cons_append, List.nil_append]
  rcases hEE with rfl | rfl
  · go_wp2_with fail
    go_ret
    exact ⟨rfl, HW3.out⟩
  · have x0 := HX3.out.c0
    have x1 := HX3.out.c1
    have x2 := HX3.out.c2
    have x3 := HX3.out.c3
    have x4 := HX3.out.c4
    have x5 := HX3.out.c5
    have x6 := HX3.out.c6
    have x7 := HX3.out.c7
    have x8 := HX3.out.c8
    have y0 := HY3.out.c0
    have y1 := HY3.out.c1
    have y2 := HY3.out.c2
    have y3 := HY3.out.c3
    have y4 := HY3.out.c4
    have y5 := HY3.out.c5
    have y6 := HY3.out.c6
    have y7 := HY3.out.c7
    have y8 := HY3.out.c8
    have g0 : (m.K == m.K) = true := by simp
    have g1 : (m.F == m.F) = true := by simp
    have g2 : (m.T == m.T) = true := by simp
    have g3 : (m.B == m.B) = true := by simp
    have g4 : (m.A == m.A) = true := by simp
    have g5 : (m.C == m.C) = true := by simp
    have g6 : ((en : Int) == (en : Int)) = true := by simp
    have g7 : ((qn : Int) == (qn : Int)) = true := by simp
    have g8 : ((pn : Int) == (pn : Int)) = true := by simp
    go_wp2_with fail
    go_ret
    exact ⟨rfl, HW3.out⟩
theorem laid_walk (k : Int) (w : World) : Calls Try.prog 22 #[.int .i64 k] w fun e w' => e = .returned (.agg #[.int .i64 5, .int .i64 3, .int .i64 1, .int .i64 k, .int .i64 1, .int .i64 0, .slice none 0 0, .slice none 0 0, .slice none 0 0]) ∧ Below w.heap.size w w' := by
  go_enter Try.func22, Try.ntmps22
  go_wp2_with fail
  refine bodyPost_ret (v := .agg #[.int .i64 5, .int .i64 3, .int .i64 1, .int .i64 k, .int .i64 1, .int .i64 0, .slice none 0 0, .slice none 0 0, .slice none 0 0]) (by simp [results, Try.results22, go_sem]) rfl ?_
  exact ⟨rfl, below_alloc _ _⟩
end Go.Proofs.Ytonnlhehbhiiiaa


