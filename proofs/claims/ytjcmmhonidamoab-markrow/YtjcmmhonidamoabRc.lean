/- The walk of MarkRow, cases B1. -/
import Derived.Test.YtjcmmhonidamoabRp
namespace Go.Proofs.Ytjcmmhonidamoab
open Go.RowKit

set_option linter.unusedVariables false in
set_option maxRecDepth 100000 in
set_option maxHeartbeats 4000000 in
theorem row_B1pu (ab aa bb ba cb ca xx xy xz : Int) (j1 j2 : Nat) (w : World) (h1 : cmpA ab aa bb ba = -1) (h2 : cmpA bb ba cb ca = xy) (h3 : cmpA ab aa cb ca = xz) (h4 : cmpA bb ba ab aa = 1) (h5 : judI bb ba ab aa = 1) (h6 : judI cb ca ab aa = 1) (e1 : ab < bb) (e2 : (ab == bb) = false) (f1 : 0 < xy) (f2 : ¬ xy ≤ 0) (g1 : ab < 1) :
    Calls Try.prog 8 #[.agg #[.int .i64 ab, .int .i64 aa], .agg #[.int .i64 bb, .int .i64 ba], .agg #[.int .i64 cb, .int .i64 ca]] w fun e w' => e = .returned (.bool true) ∧ Below w.heap.size w w' := by
  have HW : Hid _ := w3_parts w ab aa bb ba cb ca
  have H1 : Hid _ := h1
  have H2 : Hid _ := h2
  have H3 : Hid _ := h3
  have H4 : Hid _ := h4
  have H5 : Hid _ := h5
  have H6 : Hid _ := h6
  clear h1 h2 h3 h4 h5 h6
  go_enter Try.func8, Try.ntmps8
  go_upto_region 1 with fail
  simp only [W3] at HW
  generalize ((w.alloc (Obj.cells #[.int .i64 ab, .int .i64 aa] 46)).alloc (Obj.cells #[.int .i64 bb, .int .i64 ba] 46)).alloc (Obj.cells #[.int .i64 cb, .int .i64 ca] 46) = w0 at HW ⊢
  obtain ⟨P, hP⟩ : ∃ P, P = w.heap.size := ⟨_, rfl⟩
  rw [← hP]
  have HP : Hid _ := hP
  clear hP
  rw [show P + 1 + 1 = P + 2 from rfl]
  go_wp2_with fail
  refine (awake_walk _).mono ?_
  rintro e w1 ⟨rfl, hB1⟩
  have HA1 : Hid (PB w1 P ab aa) := by show PB _ _ _ _; rw [HP.out]; exact HW.out.1.keep hB1
  have HB1 : Hid (PB w1 (P + 1) bb ba) := by show PB _ _ _ _; rw [HP.out]; exact HW.out.2.1.keep hB1
  have HC1 : Hid (PB w1 (P + 2) cb ca) := by show PB _ _ _ _; rw [HP.out]; exact HW.out.2.2.1.keep hB1
  have HW1 : Hid (Below w.heap.size w w1) := below_trans HW.out.2.2.2 hB1
  clear hB1 HW HP
  have a0 := HA1.out.c0
  have a1 := HA1.out.c1
  have b0 := HB1.out.c0
  have b1 := HB1.out.c1
  have c0 := HC1.out.c0
  have c1 := HC1.out.c1
  go_wp2_with fail
  refine (mcmp_walk ab aa bb ba _).mono ?_
  rw [H1.out]
  rintro e w2 ⟨rfl, hw2⟩
  replace hw2 := hw2.symm
  subst hw2
  go_wp2_with fail
  refine (mcmp_walk bb ba cb ca _).mono ?_
  rw [H2.out]
  rintro e w2 ⟨rfl, hw2⟩
  replace hw2 := hw2.symm
  subst hw2
  go_wp2_with fail
  refine (mcmp_walk ab aa cb ca _).mono ?_
  rw [H3.out]
  rintro e w2 ⟨rfl, hw2⟩
  replace hw2 := hw2.symm
  subst hw2
  go_wp2_with fail
  refine (mcmp_walk bb ba ab aa _).mono ?_
  rw [H4.out]
  rintro e w2 ⟨rfl, hw2⟩
  replace hw2 := hw2.symm
  subst hw2
  go_wp2_with fail
  refine (judge_walk bb ba ab aa _).mono ?_
  rw [H5.out]
  rintro e w2 ⟨rfl, hB2⟩
  have HA2 : Hid _ := HA1.out.keep hB2
  have HC2 : Hid _ := HC1.out.keep hB2
  have HW2 : Hid (Below w.heap.size w w2) := below_trans HW1.out hB2
  clear hB2 HA1 HB1 HC1 HW1 a0 a1 b0 b1 c0 c1
  have a0 := HA2.out.c0
  have a1 := HA2.out.c1
  have c0 := HC2.out.c0
  have c1 := HC2.out.c1
  go_wp2_with fail
  refine (judge_walk cb ca ab aa _).mono ?_
  rw [H6.out]
  rintro e w3 ⟨rfl, hB3⟩
  have HA3 : Hid _ := HA2.out.keep hB3
  have HW3 : Hid (Below w.heap.size w w3) := below_trans HW2.out hB3
  clear hB3 HA2 HC2 HW2 a0 a1 c0 c1
  have a0 := HA3.out.c0
  have a1 := HA3.out.c1
  go_wp2_with fail
  go_ret
  exact ⟨rfl, HW3.out⟩

set_option linter.unusedVariables false in
set_option maxRecDepth 100000 in
set_option maxHeartbeats 4000000 in
theorem row_B1pv (ab aa bb ba cb ca xx xy xz : Int) (j1 j2 : Nat) (w : World) (h1 : cmpA ab aa bb ba = -1) (h2 : cmpA bb ba cb ca = xy) (h3 : cmpA ab aa cb ca = xz) (h4 : cmpA bb ba ab aa = 1) (h5 : judI bb ba ab aa = 1) (h6 : judI cb ca ab aa = 1) (e1 : ab < bb) (e2 : (ab == bb) = false) (f1 : 0 < xy) (f2 : ¬ xy ≤ 0) (g1 : ¬ ab < 1) (g2 : aa < 1) :
    Calls Try.prog 8 #[.agg #[.int .i64 ab, .int .i64 aa], .agg #[.int .i64 bb, .int .i64 ba], .agg #[.int .i64 cb, .int .i64 ca]] w fun e w' => e = .returned (.bool true) ∧ Below w.heap.size w w' := by
  have HW : Hid _ := w3_parts w ab aa bb ba cb ca
  have H1 : Hid _ := h1
  have H2 : Hid _ := h2
  have H3 : Hid _ := h3
  have H4 : Hid _ := h4
  have H5 : Hid _ := h5
  have H6 : Hid _ := h6
  clear h1 h2 h3 h4 h5 h6
  go_enter Try.func8, Try.ntmps8
  go_upto_region 1 with fail
  simp only [W3] at HW
  generalize ((w.alloc (Obj.cells #[.int .i64 ab, .int .i64 aa] 46)).alloc (Obj.cells #[.int .i64 bb, .int .i64 ba] 46)).alloc (Obj.cells #[.int .i64 cb, .int .i64 ca] 46) = w0 at HW ⊢
  obtain ⟨P, hP⟩ : ∃ P, P = w.heap.size := ⟨_, rfl⟩
  rw [← hP]
  have HP : Hid _ := hP
  clear hP
  rw [show P + 1 + 1 = P + 2 from rfl]
  go_wp2_with fail
  refine (awake_walk _).mono ?_
  rintro e w1 ⟨rfl, hB1⟩
  have HA1 : Hid (PB w1 P ab aa) := by show PB _ _ _ _; rw [HP.out]; exact HW.out.1.keep hB1
  have HB1 : Hid (PB w1 (P + 1) bb ba) := by show PB _ _ _ _; rw [HP.out]; exact HW.out.2.1.keep hB1
  have HC1 : Hid (PB w1 (P + 2) cb ca) := by show PB _ _ _ _; rw [HP.out]; exact HW.out.2.2.1.keep hB1
  have HW1 : Hid (Below w.heap.size w w1) := below_trans HW.out.2.2.2 hB1
  clear hB1 HW HP
  have a0 := HA1.out.c0
  have a1 := HA1.out.c1
  have b0 := HB1.out.c0
  have b1 := HB1.out.c1
  have c0 := HC1.out.c0
  have c1 := HC1.out.c1
  go_wp2_with fail
  refine (mcmp_walk ab aa bb ba _).mono ?_
  rw [H1.out]
  rintro e w2 ⟨rfl, hw2⟩
  replace hw2 := hw2.symm
  subst hw2
  go_wp2_with fail
  refine (mcmp_walk bb ba cb ca _).mono ?_
  rw [H2.out]
  rintro e w2 ⟨rfl, hw2⟩
  replace hw2 := hw2.symm
  subst hw2
  go_wp2_with fail
  refine (mcmp_walk ab aa cb ca _).mono ?_
  rw [H3.out]
  rintro e w2 ⟨rfl, hw2⟩
  replace hw2 := hw2.symm
  subst hw2
  go_wp2_with fail
  refine (mcmp_walk bb ba ab aa _).mono ?_
  rw [H4.out]
  rintro e w2 ⟨rfl, hw2⟩
  replace hw2 := hw2.symm
  subst hw2
  go_wp2_with fail
  refine (judge_walk bb ba ab aa _).mono ?_
  rw [H5.out]
  rintro e w2 ⟨rfl, hB2⟩
  have HA2 : Hid _ := HA1.out.keep hB2
  have HC2 : Hid _ := HC1.out.keep hB2
  have HW2 : Hid (Below w.heap.size w w2) := below_trans HW1.out hB2
  clear hB2 HA1 HB1 HC1 HW1 a0 a1 b0 b1 c0 c1
  have a0 := HA2.out.c0
  have a1 := HA2.out.c1
  have c0 := HC2.out.c0
  have c1 := HC2.out.c1
  go_wp2_with fail
  refine (judge_walk cb ca ab aa _).mono ?_
  rw [H6.out]
  rintro e w3 ⟨rfl, hB3⟩
  have HA3 : Hid _ := HA2.out.keep hB3
  have HW3 : Hid (Below w.heap.size w w3) := below_trans HW2.out hB3
  clear hB3 HA2 HC2 HW2 a0 a1 c0 c1
  have a0 := HA3.out.c0
  have a1 := HA3.out.c1
  go_wp2_with fail
  go_ret
  exact ⟨rfl, HW3.out⟩

set_option linter.unusedVariables false in
set_option maxRecDepth 100000 in
set_option maxHeartbeats 4000000 in
theorem row_B1pz (ab aa bb ba cb ca xx xy xz : Int) (j1 j2 : Nat) (w : World) (h1 : cmpA ab aa bb ba = -1) (h2 : cmpA bb ba cb ca = xy) (h3 : cmpA ab aa cb ca = xz) (h4 : cmpA bb ba ab aa = 1) (h5 : judI bb ba ab aa = 130) (h6 : judI cb ca ab aa = j2) (e1 : ab < bb) (e2 : (ab == bb) = false) (f1 : 0 < xy) (f2 : ¬ xy ≤ 0) (g1 : ¬ ab < 1) (g2 : ¬ aa < 1) :
    Calls Try.prog 8 #[.agg #[.int .i64 ab, .int .i64 aa], .agg #[.int .i64 bb, .int .i64 ba], .agg #[.int .i64 cb, .int .i64 ca]] w fun e w' => e = .returned (.bool true) ∧ Below w.heap.size w w' := by
  have HW : Hid _ := w3_parts w ab aa bb ba cb ca
  have H1 : Hid _ := h1
  have H2 : Hid _ := h2
  have H3 : Hid _ := h3
  have H4 : Hid _ := h4
  have H5 : Hid _ := h5
  have H6 : Hid _ := h6
  clear h1 h2 h3 h4 h5 h6
  go_enter Try.func8, Try.ntmps8
  go_upto_region 1 with fail
  simp only [W3] at HW
  generalize ((w.alloc (Obj.cells #[.int .i64 ab, .int .i64 aa] 46)).alloc (Obj.cells #[.int .i64 bb, .int .i64 ba] 46)).alloc (Obj.cells #[.int .i64 cb, .int .i64 ca] 46) = w0 at HW ⊢
  obtain ⟨P, hP⟩ : ∃ P, P = w.heap.size := ⟨_, rfl⟩
  rw [← hP]
  have HP : Hid _ := hP
  clear hP
  rw [show P + 1 + 1 = P + 2 from rfl]
  go_wp2_with fail
  refine (awake_walk _).mono ?_
  rintro e w1 ⟨rfl, hB1⟩
  have HA1 : Hid (PB w1 P ab aa) := by show PB _ _ _ _; rw [HP.out]; exact HW.out.1.keep hB1
  have HB1 : Hid (PB w1 (P + 1) bb ba) := by show PB _ _ _ _; rw [HP.out]; exact HW.out.2.1.keep hB1
  have HC1 : Hid (PB w1 (P + 2) cb ca) := by show PB _ _ _ _; rw [HP.out]; exact HW.out.2.2.1.keep hB1
  have HW1 : Hid (Below w.heap.size w w1) := below_trans HW.out.2.2.2 hB1
  clear hB1 HW HP
  have a0 := HA1.out.c0
  have a1 := HA1.out.c1
  have b0 := HB1.out.c0
  have b1 := HB1.out.c1
  have c0 := HC1.out.c0
  have c1 := HC1.out.c1
  go_wp2_with fail
  refine (mcmp_walk ab aa bb ba _).mono ?_
  rw [H1.out]
  rintro e w2 ⟨rfl, hw2⟩
  replace hw2 := hw2.symm
  subst hw2
  go_wp2_with fail
  refine (mcmp_walk bb ba cb ca _).mono ?_
  rw [H2.out]
  rintro e w2 ⟨rfl, hw2⟩
  replace hw2 := hw2.symm
  subst hw2
  go_wp2_with fail
  refine (mcmp_walk ab aa cb ca _).mono ?_
  rw [H3.out]
  rintro e w2 ⟨rfl, hw2⟩
  replace hw2 := hw2.symm
  subst hw2
  go_wp2_with fail
  refine (mcmp_walk bb ba ab aa _).mono ?_
  rw [H4.out]
  rintro e w2 ⟨rfl, hw2⟩
  replace hw2 := hw2.symm
  subst hw2
  go_wp2_with fail
  refine (judge_walk bb ba ab aa _).mono ?_
  rw [H5.out]
  rintro e w2 ⟨rfl, hB2⟩
  have HA2 : Hid _ := HA1.out.keep hB2
  have HC2 : Hid _ := HC1.out.keep hB2
  have HW2 : Hid (Below w.heap.size w w2) := below_trans HW1.out hB2
  clear hB2 HA1 HB1 HC1 HW1 a0 a1 b0 b1 c0 c1
  have a0 := HA2.out.c0
  have a1 := HA2.out.c1
  have c0 := HC2.out.c0
  have c1 := HC2.out.c1
  go_wp2_with fail
  refine (judge_walk cb ca ab aa _).mono ?_
  rw [H6.out]
  rintro e w3 ⟨rfl, hB3⟩
  have HA3 : Hid _ := HA2.out.keep hB3
  have HW3 : Hid (Below w.heap.size w w3) := below_trans HW2.out hB3
  clear hB3 HA2 HC2 HW2 a0 a1 c0 c1
  have a0 := HA3.out.c0
  have a1 := HA3.out.c1
  go_wp2_with fail
  go_ret
  exact ⟨rfl, HW3.out⟩

set_option linter.unusedVariables false in
set_option maxRecDepth 100000 in
set_option maxHeartbeats 4000000 in
theorem row_B1qu (ab aa bb ba cb ca xx xy xz : Int) (j1 j2 : Nat) (w : World) (h1 : cmpA ab aa bb ba = -1) (h2 : cmpA bb ba cb ca = xy) (h3 : cmpA ab aa cb ca = xz) (h4 : cmpA bb ba ab aa = 1) (h5 : judI bb ba ab aa = 1) (h6 : judI cb ca ab aa = 1) (e1 : ab < bb) (e2 : (ab == bb) = false) (f1 : ¬ 0 < xy) (f2 : xy ≤ 0) (f3 : ¬ 0 < xz) (g1 : ab < 1) :
    Calls Try.prog 8 #[.agg #[.int .i64 ab, .int .i64 aa], .agg #[.int .i64 bb, .int .i64 ba], .agg #[.int .i64 cb, .int .i64 ca]] w fun e w' => e = .returned (.bool true) ∧ Below w.heap.size w w' := by
  have HW : Hid _ := w3_parts w ab aa bb ba cb ca
  have H1 : Hid _ := h1
  have H2 : Hid _ := h2
  have H3 : Hid _ := h3
  have H4 : Hid _ := h4
  have H5 : Hid _ := h5
  have H6 : Hid _ := h6
  clear h1 h2 h3 h4 h5 h6
  go_enter Try.func8, Try.ntmps8
  go_upto_region 1 with fail
  simp only [W3] at HW
  generalize ((w.alloc (Obj.cells #[.int .i64 ab, .int .i64 aa] 46)).alloc (Obj.cells #[.int .i64 bb, .int .i64 ba] 46)).alloc (Obj.cells #[.int .i64 cb, .int .i64 ca] 46) = w0 at HW ⊢
  obtain ⟨P, hP⟩ : ∃ P, P = w.heap.size := ⟨_, rfl⟩
  rw [← hP]
  have HP : Hid _ := hP
  clear hP
  rw [show P + 1 + 1 = P + 2 from rfl]
  go_wp2_with fail
  refine (awake_walk _).mono ?_
  rintro e w1 ⟨rfl, hB1⟩
  have HA1 : Hid (PB w1 P ab aa) := by show PB _ _ _ _; rw [HP.out]; exact HW.out.1.keep hB1
  have HB1 : Hid (PB w1 (P + 1) bb ba) := by show PB _ _ _ _; rw [HP.out]; exact HW.out.2.1.keep hB1
  have HC1 : Hid (PB w1 (P + 2) cb ca) := by show PB _ _ _ _; rw [HP.out]; exact HW.out.2.2.1.keep hB1
  have HW1 : Hid (Below w.heap.size w w1) := below_trans HW.out.2.2.2 hB1
  clear hB1 HW HP
  have a0 := HA1.out.c0
  have a1 := HA1.out.c1
  have b0 := HB1.out.c0
  have b1 := HB1.out.c1
  have c0 := HC1.out.c0
  have c1 := HC1.out.c1
  go_wp2_with fail
  refine (mcmp_walk ab aa bb ba _).mono ?_
  rw [H1.out]
  rintro e w2 ⟨rfl, hw2⟩
  replace hw2 := hw2.symm
  subst hw2
  go_wp2_with fail
  refine (mcmp_walk bb ba cb ca _).mono ?_
  rw [H2.out]
  rintro e w2 ⟨rfl, hw2⟩
  replace hw2 := hw2.symm
  subst hw2
  go_wp2_with fail
  refine (mcmp_walk ab aa cb ca _).mono ?_
  rw [H3.out]
  rintro e w2 ⟨rfl, hw2⟩
  replace hw2 := hw2.symm
  subst hw2
  go_wp2_with fail
  refine (mcmp_walk bb ba ab aa _).mono ?_
  rw [H4.out]
  rintro e w2 ⟨rfl, hw2⟩
  replace hw2 := hw2.symm
  subst hw2
  go_wp2_with fail
  refine (judge_walk bb ba ab aa _).mono ?_
  rw [H5.out]
  rintro e w2 ⟨rfl, hB2⟩
  have HA2 : Hid _ := HA1.out.keep hB2
  have HC2 : Hid _ := HC1.out.keep hB2
  have HW2 : Hid (Below w.heap.size w w2) := below_trans HW1.out hB2
  clear hB2 HA1 HB1 HC1 HW1 a0 a1 b0 b1 c0 c1
  have a0 := HA2.out.c0
  have a1 := HA2.out.c1
  have c0 := HC2.out.c0
  have c1 := HC2.out.c1
  go_wp2_with fail
  refine (judge_walk cb ca ab aa _).mono ?_
  rw [H6.out]
  rintro e w3 ⟨rfl, hB3⟩
  have HA3 : Hid _ := HA2.out.keep hB3
  have HW3 : Hid (Below w.heap.size w w3) := below_trans HW2.out hB3
  clear hB3 HA2 HC2 HW2 a0 a1 c0 c1
  have a0 := HA3.out.c0
  have a1 := HA3.out.c1
  go_wp2_with fail
  go_ret
  exact ⟨rfl, HW3.out⟩

set_option linter.unusedVariables false in
set_option maxRecDepth 100000 in
set_option maxHeartbeats 4000000 in
theorem row_B1qv (ab aa bb ba cb ca xx xy xz : Int) (j1 j2 : Nat) (w : World) (h1 : cmpA ab aa bb ba = -1) (h2 : cmpA bb ba cb ca = xy) (h3 : cmpA ab aa cb ca = xz) (h4 : cmpA bb ba ab aa = 1) (h5 : judI bb ba ab aa = 1) (h6 : judI cb ca ab aa = 1) (e1 : ab < bb) (e2 : (ab == bb) = false) (f1 : ¬ 0 < xy) (f2 : xy ≤ 0) (f3 : ¬ 0 < xz) (g1 : ¬ ab < 1) (g2 : aa < 1) :
    Calls Try.prog 8 #[.agg #[.int .i64 ab, .int .i64 aa], .agg #[.int .i64 bb, .int .i64 ba], .agg #[.int .i64 cb, .int .i64 ca]] w fun e w' => e = .returned (.bool true) ∧ Below w.heap.size w w' := by
  have HW : Hid _ := w3_parts w ab aa bb ba cb ca
  have H1 : Hid _ := h1
  have H2 : Hid _ := h2
  have H3 : Hid _ := h3
  have H4 : Hid _ := h4
  have H5 : Hid _ := h5
  have H6 : Hid _ := h6
  clear h1 h2 h3 h4 h5 h6
  go_enter Try.func8, Try.ntmps8
  go_upto_region 1 with fail
  simp only [W3] at HW
  generalize ((w.alloc (Obj.cells #[.int .i64 ab, .int .i64 aa] 46)).alloc (Obj.cells #[.int .i64 bb, .int .i64 ba] 46)).alloc (Obj.cells #[.int .i64 cb, .int .i64 ca] 46) = w0 at HW ⊢
  obtain ⟨P, hP⟩ : ∃ P, P = w.heap.size := ⟨_, rfl⟩
  rw [← hP]
  have HP : Hid _ := hP
  clear hP
  rw [show P + 1 + 1 = P + 2 from rfl]
  go_wp2_with fail
  refine (awake_walk _).mono ?_
  rintro e w1 ⟨rfl, hB1⟩
  have HA1 : Hid (PB w1 P ab aa) := by show PB _ _ _ _; rw [HP.out]; exact HW.out.1.keep hB1
  have HB1 : Hid (PB w1 (P + 1) bb ba) := by show PB _ _ _ _; rw [HP.out]; exact HW.out.2.1.keep hB1
  have HC1 : Hid (PB w1 (P + 2) cb ca) := by show PB _ _ _ _; rw [HP.out]; exact HW.out.2.2.1.keep hB1
  have HW1 : Hid (Below w.heap.size w w1) := below_trans HW.out.2.2.2 hB1
  clear hB1 HW HP
  have a0 := HA1.out.c0
  have a1 := HA1.out.c1
  have b0 := HB1.out.c0
  have b1 := HB1.out.c1
  have c0 := HC1.out.c0
  have c1 := HC1.out.c1
  go_wp2_with fail
  refine (mcmp_walk ab aa bb ba _).mono ?_
  rw [H1.out]
  rintro e w2 ⟨rfl, hw2⟩
  replace hw2 := hw2.symm
  subst hw2
  go_wp2_with fail
  refine (mcmp_walk bb ba cb ca _).mono ?_
  rw [H2.out]
  rintro e w2 ⟨rfl, hw2⟩
  replace hw2 := hw2.symm
  subst hw2
  go_wp2_with fail
  refine (mcmp_walk ab aa cb ca _).mono ?_
  rw [H3.out]
  rintro e w2 ⟨rfl, hw2⟩
  replace hw2 := hw2.symm
  subst hw2
  go_wp2_with fail
  refine (mcmp_walk bb ba ab aa _).mono ?_
  rw [H4.out]
  rintro e w2 ⟨rfl, hw2⟩
  replace hw2 := hw2.symm
  subst hw2
  go_wp2_with fail
  refine (judge_walk bb ba ab aa _).mono ?_
  rw [H5.out]
  rintro e w2 ⟨rfl, hB2⟩
  have HA2 : Hid _ := HA1.out.keep hB2
  have HC2 : Hid _ := HC1.out.keep hB2
  have HW2 : Hid (Below w.heap.size w w2) := below_trans HW1.out hB2
  clear hB2 HA1 HB1 HC1 HW1 a0 a1 b0 b1 c0 c1
  have a0 := HA2.out.c0
  have a1 := HA2.out.c1
  have c0 := HC2.out.c0
  have c1 := HC2.out.c1
  go_wp2_with fail
  refine (judge_walk cb ca ab aa _).mono ?_
  rw [H6.out]
  rintro e w3 ⟨rfl, hB3⟩
  have HA3 : Hid _ := HA2.out.keep hB3
  have HW3 : Hid (Below w.heap.size w w3) := below_trans HW2.out hB3
  clear hB3 HA2 HC2 HW2 a0 a1 c0 c1
  have a0 := HA3.out.c0
  have a1 := HA3.out.c1
  go_wp2_with fail
  go_ret
  exact ⟨rfl, HW3.out⟩

set_option linter.unusedVariables false in
set_option maxRecDepth 100000 in
set_option maxHeartbeats 4000000 in
theorem row_B1qz (ab aa bb ba cb ca xx xy xz : Int) (j1 j2 : Nat) (w : World) (h1 : cmpA ab aa bb ba = -1) (h2 : cmpA bb ba cb ca = xy) (h3 : cmpA ab aa cb ca = xz) (h4 : cmpA bb ba ab aa = 1) (h5 : judI bb ba ab aa = 130) (h6 : judI cb ca ab aa = 130) (e1 : ab < bb) (e2 : (ab == bb) = false) (f1 : ¬ 0 < xy) (f2 : xy ≤ 0) (f3 : ¬ 0 < xz) (g1 : ¬ ab < 1) (g2 : ¬ aa < 1) :
    Calls Try.prog 8 #[.agg #[.int .i64 ab, .int .i64 aa], .agg #[.int .i64 bb, .int .i64 ba], .agg #[.int .i64 cb, .int .i64 ca]] w fun e w' => e = .returned (.bool true) ∧ Below w.heap.size w w' := by
  have HW : Hid _ := w3_parts w ab aa bb ba cb ca
  have H1 : Hid _ := h1
  have H2 : Hid _ := h2
  have H3 : Hid _ := h3
  have H4 : Hid _ := h4
  have H5 : Hid _ := h5
  have H6 : Hid _ := h6
  clear h1 h2 h3 h4 h5 h6
  go_enter Try.func8, Try.ntmps8
  go_upto_region 1 with fail
  simp only [W3] at HW
  generalize ((w.alloc (Obj.cells #[.int .i64 ab, .int .i64 aa] 46)).alloc (Obj.cells #[.int .i64 bb, .int .i64 ba] 46)).alloc (Obj.cells #[.int .i64 cb, .int .i64 ca] 46) = w0 at HW ⊢
  obtain ⟨P, hP⟩ : ∃ P, P = w.heap.size := ⟨_, rfl⟩
  rw [← hP]
  have HP : Hid _ := hP
  clear hP
  rw [show P + 1 + 1 = P + 2 from rfl]
  go_wp2_with fail
  refine (awake_walk _).mono ?_
  rintro e w1 ⟨rfl, hB1⟩
  have HA1 : Hid (PB w1 P ab aa) := by show PB _ _ _ _; rw [HP.out]; exact HW.out.1.keep hB1
  have HB1 : Hid (PB w1 (P + 1) bb ba) := by show PB _ _ _ _; rw [HP.out]; exact HW.out.2.1.keep hB1
  have HC1 : Hid (PB w1 (P + 2) cb ca) := by show PB _ _ _ _; rw [HP.out]; exact HW.out.2.2.1.keep hB1
  have HW1 : Hid (Below w.heap.size w w1) := below_trans HW.out.2.2.2 hB1
  clear hB1 HW HP
  have a0 := HA1.out.c0
  have a1 := HA1.out.c1
  have b0 := HB1.out.c0
  have b1 := HB1.out.c1
  have c0 := HC1.out.c0
  have c1 := HC1.out.c1
  go_wp2_with fail
  refine (mcmp_walk ab aa bb ba _).mono ?_
  rw [H1.out]
  rintro e w2 ⟨rfl, hw2⟩
  replace hw2 := hw2.symm
  subst hw2
  go_wp2_with fail
  refine (mcmp_walk bb ba cb ca _).mono ?_
  rw [H2.out]
  rintro e w2 ⟨rfl, hw2⟩
  replace hw2 := hw2.symm
  subst hw2
  go_wp2_with fail
  refine (mcmp_walk ab aa cb ca _).mono ?_
  rw [H3.out]
  rintro e w2 ⟨rfl, hw2⟩
  replace hw2 := hw2.symm
  subst hw2
  go_wp2_with fail
  refine (mcmp_walk bb ba ab aa _).mono ?_
  rw [H4.out]
  rintro e w2 ⟨rfl, hw2⟩
  replace hw2 := hw2.symm
  subst hw2
  go_wp2_with fail
  refine (judge_walk bb ba ab aa _).mono ?_
  rw [H5.out]
  rintro e w2 ⟨rfl, hB2⟩
  have HA2 : Hid _ := HA1.out.keep hB2
  have HC2 : Hid _ := HC1.out.keep hB2
  have HW2 : Hid (Below w.heap.size w w2) := below_trans HW1.out hB2
  clear hB2 HA1 HB1 HC1 HW1 a0 a1 b0 b1 c0 c1
  have a0 := HA2.out.c0
  have a1 := HA2.out.c1
  have c0 := HC2.out.c0
  have c1 := HC2.out.c1
  go_wp2_with fail
  refine (judge_walk cb ca ab aa _).mono ?_
  rw [H6.out]
  rintro e w3 ⟨rfl, hB3⟩
  have HA3 : Hid _ := HA2.out.keep hB3
  have HW3 : Hid (Below w.heap.size w w3) := below_trans HW2.out hB3
  clear hB3 HA2 HC2 HW2 a0 a1 c0 c1
  have a0 := HA3.out.c0
  have a1 := HA3.out.c1
  go_wp2_with fail
  go_ret
  exact ⟨rfl, HW3.out⟩
end Go.Proofs.Ytjcmmhonidamoab
