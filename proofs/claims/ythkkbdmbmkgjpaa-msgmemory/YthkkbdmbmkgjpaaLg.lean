/- The walk of MsgMemory. -/
import Derived.Test.YthkkbdmbmkgjpaaLf

namespace Go.Proofs.Ythkkbdmbmkgjpaa

open Go.RowKit



set_option maxRecDepth 100000 in
set_option maxHeartbeats 8000000 in
theorem msgmemory_walk {w : World} {m : Ms} {ev qv pv : Value} (h : ML w m ev qv pv) (hok : m.ok) (se : m.E.length * 8 ≤ 140737488351232) (sq : m.Q.length * 8 ≤ 140737488351232) (sp : m.P.length * 24 ≤ 140737488351232) :
    Calls Try.prog 8 #[.agg #[.int .i64 m.K, .int .i64 m.F, .int .i64 m.T, .int .i64 m.B, .int .i64 m.A, .int .i64 m.C, ev, qv, pv]] w fun e w' => e = .returned (.bool true) ∧ Below w.heap.size w w' := by
  have HL : Hid (ML w m ev qv pv) := h
  have HOK : Hid m.ok := hok
  have HX0 : Hid (MX (w.alloc (Obj.cells #[.int .i64 m.K, .int .i64 m.F, .int .i64 m.T, .int .i64 m.B, .int .i64 m.A, .int .i64 m.C, ev, qv, pv] 26)) w.heap.size m ev qv pv) := mx_new w m ev qv pv
  have HB0 : Hid (Below w.heap.size w (w.alloc (Obj.cells #[.int .i64 m.K, .int .i64 m.F, .int .i64 m.T, .int .i64 m.B, .int .i64 m.A, .int .i64 m.C, ev, qv, pv] 26))) := below_alloc _ _
  obtain ⟨ea, en, ec, rfl, hen, _⟩ := sv_le h.e
  obtain ⟨qa, qn, qc, rfl, hqn, _⟩ := sv_le h.q
  obtain ⟨sa, sn, sc, rfl, hsn, _⟩ := qv_le h.p
  rw [ib_len] at hqn
  rw [← hen] at se
  rw [← hqn] at sq
  rw [← hsn] at sp
  have HEN : Hid (en = m.E.length) := hen
  have HQN : Hid (qn = m.Q.length) := hqn
  have HSN : Hid (sn = m.P.length) := hsn
  have HSE : Hid (en * 8 ≤ 140737488351232) := se
  have HSQ : Hid (qn * 8 ≤ 140737488351232) := sq
  have HSP : Hid (sn * 24 ≤ 140737488351232) := sp
  have lei : (en : Int) ≤ 17592186043904 := by omega
  have lqi : (qn : Int) ≤ 17592186043904 := by omega
  have lpi : (sn : Int) ≤ 5864062014634 := by omega
  have mke := make_eM se
  have mkq := make_kM sq
  have mkp := make_pM sp
  obtain ⟨i0, hi0, hz0, hz1, hz2⟩ := info_partsQ info_pair
  have HI0 : Hid (Try.prog.info? 42 = some i0) := hi0
  have HZ0 : Hid (i0.zero = some (.agg #[.int .u64 0, .bool false, .int .u64 0])) := hz0
  have HZ1 : Hid (i0.size = 3) := hz1
  have HZ2 : Hid (i0.bytes = 24) := hz2
  clear hi0 hz0 hz1 hz2 h hok hen hqn hsn se sq sp
  go_enter Try.func8, Try.ntmps8
  go_upto_region 1 with fail
  obtain ⟨N, hN⟩ : ∃ N, N = w.heap.size := ⟨_, rfl⟩
  rw [← hN] at HX0 ⊢
  have HN : Hid (N = w.heap.size) := hN
  clear hN
  generalize w.alloc (Obj.cells #[.int .i64 m.K, .int .i64 m.F, .int .i64 m.T, .int .i64 m.B, .int .i64 m.A, .int .i64 m.C, .slice ea en ec, .slice qa qn qc, .slice sa sn sc] 26) = w0 at HX0 HB0 ⊢
  go_wp2_with fail
  refine (awake_walk _).mono ?_
  rintro e w1 ⟨rfl, hB1⟩
  have HX1 : Hid _ := HX0.out.keep hB1
  have HB1 : Hid (Below w.heap.size w w1) := below_trans HB0.out hB1
  clear hB1 HX0 HB0
  have c0 := HX1.out.c0; have c1 := HX1.out.c1; have c2 := HX1.out.c2; have c3 := HX1.out.c3; have c4 := HX1.out.c4; have c5 := HX1.out.c5; have c6 := HX1.out.c6; have c7 := HX1.out.c7; have c8 := HX1.out.c8
  have HY : Hid (MX (w1.alloc (Obj.cells #[.int .i64 m.K, .int .i64 m.F, .int .i64 m.T, .int .i64 m.B, .int .i64 m.A, .int .i64 m.C, .slice ea en ec, .slice qa qn qc, .slice sa sn sc] 26)) w1.heap.size m (.slice ea en ec) (.slice qa qn qc) (.slice sa sn sc)) := mx_new w1 m _ _ _
  have HYB : Hid (Below w1.heap.size w1 (w1.alloc (Obj.cells #[.int .i64 m.K, .int .i64 m.F, .int .i64 m.T, .int .i64 m.B, .int .i64 m.A, .int .i64 m.C, .slice ea en ec, .slice qa qn qc, .slice sa sn sc] 26))) := below_alloc _ _
  have HNP : Hid (N < w1.heap.size) := cell_lt HX1.out.c0
  go_upto_region 4 with fail
  obtain ⟨P, hP⟩ : ∃ P, P = w1.heap.size := ⟨_, rfl⟩
  have HPN : Hid (P = w1.heap.size) := hP
  rw [← hP] at HY HNP ⊢
  generalize w1.alloc (Obj.cells #[.int .i64 m.K, .int .i64 m.F, .int .i64 m.T, .int .i64 m.B, .int .i64 m.A, .int .i64 m.C, .slice ea en ec, .slice qa qn qc, .slice sa sn sc] 26) = w2 at HY HYB ⊢
  have HX2 : Hid _ := HX1.out.keep HYB.out
  have HB2 : Hid (Below w.heap.size w w2) := below_trans HB1.out HYB.out
  clear hP HX1 HB1 HYB c0 c1 c2 c3 c4 c5 c6 c7 c8
  have c0 := HX2.out.c6
  have HOM : Hid ((w2.alloc (.cells (madeCells #[.int .i64 0] (en + 2)) 3)).ownsRow w2.heap.size 3 1 (.slice (some ⟨w2.heap.size, 0, none⟩) 0 (en + 2)) 0 []) := by have k := own_madeM w2 (q := en + 2) (s := 1) (e := 3) (zs := #[.int .i64 0]) (by have := HSE.out; simp only [maxLen]; omega); rw [Nat.mul_one] at k; exact k
  have HX8 : Hid _ := HX2.out.keep (below_alloc _ (.cells (madeCells #[.int .i64 0] (en + 2)) 3))
  have c1 := HX8.out.c6
  go_upto_region 6 with (at_builtin; refine wpList_append_sv (by rfl) (.tmp 25) (.tmp 27) 22 (by rfl) w2.heap.size 3 .i64 8 Try.underlying22 info_intM _ 0 [] (by rfl) HOM.out _ m.E (by rfl) (((HL.out.e).below HB2.out).below (below_alloc _ _)) (by have h1 := HSE.out; have h2 := HEN.out; simp only [maxLen]; omega) (by have h1 := HSE.out; have h2 := HEN.out; omega) (below_alloc _ _).size ?_; intro v8 w0a ho8 hg8)
  have HB8 : Hid (Below w2.heap.size w2 w0a) := (below_alloc _ _).trans (grown_belowC HOM.out hg8 (below_alloc _ _).size)
  simp only [Nat.zero_add, List.nil_append] at ho8
  rw [← HEN.out] at ho8
  obtain ⟨ra, rn, rc, hv8⟩ := own_formM ho8
  subst hv8
  have HO8 : Hid (w0a.ownsRow w2.heap.size 3 1 (.slice ra rn rc) en (m.E.map (Value.int .i64))) := ho8
  clear hg8 ho8 HOM HX8 c0 c1 mke
  go_upto_region 7 with (at_builtin; refine wpList_append_sv (by rfl) (.tmp 29) (.tmp 30) 22 (by rfl) w2.heap.size 3 .i64 8 Try.underlying22 info_intM _ en (m.E.map (Value.int .i64)) (by rfl) (HO8.out.alloc _) _ [(71 : Int), 72] (by rfl) (sv_lit .i64 _ _ [(71 : Int), 72] (by simp [maxLen])) (by have h1 := HSE.out; simp only [maxLen, List.length_cons, List.length_nil]; omega) (by have h1 := HSE.out; simp only [List.length_cons, List.length_nil]; omega) (Nat.le_trans HB8.out.size (below_alloc _ _).size) ?_; intro v9 w0b ho9 hg9)
  have HB9 : Hid (Below w2.heap.size w2 w0b) := HB8.out.trans (((below_alloc _ _).mono HB8.out.size).trans (grown_belowC (HO8.out.alloc _) hg9 (Nat.le_trans HB8.out.size (below_alloc _ _).size)))
  simp only [List.length_cons, List.length_nil, Nat.zero_add, Nat.reduceAdd] at ho9
  rw [← List.map_append] at ho9
  obtain ⟨ge, ke, hv9, hnc, hcm, hgl, _⟩ := row_formM ho9 (by omega)
  subst hv9
  have HRe : Hid (w0b.ownsRow (P + 1) 3 1 (.slice (some ⟨ge, 0, none⟩) (en + 2) ke) (en + 2) ((m.E ++ [(71 : Int), 72]).map (Value.int .i64))) := own_baseC ho9 (cell_lt HY.out.c0)
  have kei : ((en : Int) + 2) ≤ (ke : Int) := by omega
  have kej : (ke : Int) ≤ 9223372036854775807 := by unfold maxLen at hcm; omega
  have HX3 : Hid _ := HX2.out.keep HB9.out
  have HY3 : Hid _ := HY.out.keep HB9.out
  have HB3 : Hid (Below w.heap.size w w0b) := below_trans HB2.out HB9.out
  clear hg9 ho9 HO8 HB8 HB9 hnc hcm hgl HX2 HY HB2
  have c0 := HX3.out.c7
  have HOM : Hid ((w0b.alloc (.cells (madeCells #[.int .u64 0] (qn + 2)) 38)).ownsRow w0b.heap.size 38 1 (.slice (some ⟨w0b.heap.size, 0, none⟩) 0 (qn + 2)) 0 []) := by have k := own_madeM w0b (q := qn + 2) (s := 1) (e := 38) (zs := #[.int .u64 0]) (by have := HSQ.out; simp only [maxLen]; omega); rw [Nat.mul_one] at k; exact k
  have HX8 : Hid _ := HX3.out.keep (below_alloc _ (.cells (madeCells #[.int .u64 0] (qn + 2)) 38))
  have c1 := HX8.out.c7
  go_upto_region 9 with (at_builtin; refine wpList_append_sv (by rfl) (.tmp 37) (.tmp 39) 23 (by rfl) w0b.heap.size 38 .u64 8 Try.underlying23 info_u64 _ 0 [] (by rfl) HOM.out _ (ib m.Q) (by rfl) (((HL.out.q).below HB3.out).below (below_alloc _ _)) (by have h1 := HSQ.out; have h2 := HQN.out; simp only [maxLen, ib_len]; omega) (by have h1 := HSQ.out; have h2 := HQN.out; rw [ib_len]; omega) (below_alloc _ _).size ?_; intro v8 w1a ho8 hg8)
  have HB8 : Hid (Below w0b.heap.size w0b w1a) := (below_alloc _ _).trans (grown_belowC HOM.out hg8 (below_alloc _ _).size)
  simp only [Nat.zero_add, List.nil_append, ib_len] at ho8
  rw [← HQN.out] at ho8
  obtain ⟨ra, rn, rc, hv8⟩ := own_formM ho8
  subst hv8
  have HO8 : Hid (w1a.ownsRow w0b.heap.size 38 1 (.slice ra rn rc) qn ((ib m.Q).map (Value.int .u64))) := ho8
  clear hg8 ho8 HOM HX8 c0 c1 mkq
  go_upto_region 10 with (at_builtin; refine wpList_append_sv (by rfl) (.tmp 41) (.tmp 42) 23 (by rfl) w0b.heap.size 38 .u64 8 Try.underlying23 info_u64 _ qn ((ib m.Q).map (Value.int .u64)) (by rfl) (HO8.out.alloc _) _ [(73 : Int), 74] (by rfl) (sv_lit .u64 _ _ [(73 : Int), 74] (by simp [maxLen])) (by have h1 := HSQ.out; simp only [maxLen, List.length_cons, List.length_nil]; omega) (by have h1 := HSQ.out; simp only [List.length_cons, List.length_nil]; omega) (Nat.le_trans HB8.out.size (below_alloc _ _).size) ?_; intro v9 w1b ho9 hg9)
  have HB9 : Hid (Below w0b.heap.size w0b w1b) := HB8.out.trans (((below_alloc _ _).mono HB8.out.size).trans (grown_belowC (HO8.out.alloc _) hg9 (Nat.le_trans HB8.out.size (below_alloc _ _).size)))
  simp only [List.length_cons, List.length_nil, Nat.zero_add, Nat.reduceAdd] at ho9
  rw [← List.map_append] at ho9
  obtain ⟨gq, kq, hv9, hnc, hcm, hgl, _⟩ := row_formM ho9 (by omega)
  subst hv9
  have HRq : Hid (w1b.ownsRow (P + 1) 38 1 (.slice (some ⟨gq, 0, none⟩) (qn + 2) kq) (qn + 2) ((ib m.Q ++ [(73 : Int), 74]).map (Value.int .u64))) := own_baseC ho9 (cell_lt HY3.out.c0)
  have kqi : ((qn : Int) + 2) ≤ (kq : Int) := by omega
  have kqj : (kq : Int) ≤ 9223372036854775807 := by unfold maxLen at hcm; omega
  have HX4 : Hid _ := HX3.out.keep HB9.out
  have HY4 : Hid _ := HY3.out.keep HB9.out
  have HB4 : Hid (Below w.heap.size w w1b) := below_trans HB3.out HB9.out
  replace HRe : Hid _ := own_belowC HRe.out HB9.out
  clear hg9 ho9 HO8 HB8 HB9 hnc hcm hgl HX3 HY3 HB3
  have c0 := HX4.out.c8
  have HOM : Hid ((w1b.alloc (.cells (madeCells #[.int .u64 0, .bool false, .int .u64 0] ((sn + 2) * 3)) 42)).ownsRow w1b.heap.size 42 3 (.slice (some ⟨w1b.heap.size, 0, none⟩) 0 (sn + 2)) 0 []) := by have k := own_madeM w1b (q := sn + 2) (s := 3) (e := 42) (zs := #[.int .u64 0, .bool false, .int .u64 0]) (by have := HSP.out; simp only [maxLen]; omega); exact k
  have HX8 : Hid _ := HX4.out.keep (below_alloc _ (.cells (madeCells #[.int .u64 0, .bool false, .int .u64 0] ((sn + 2) * 3)) 42))
  have c1 := HX8.out.c8
  go_upto_region 12 with (at_builtin; refine wpList_append_qs (by rfl) (.tmp 49) (.tmp 51) 24 (by rfl) w1b.heap.size 42 i0 Try.underlying24 HI0.out HZ0.out HZ1.out HZ2.out _ 0 [] (by rfl) HOM.out _ m.P (by rfl) (((HL.out.p).below HB4.out).below (below_alloc _ _)) (by have h1 := HSP.out; have h2 := HSN.out; simp only [maxLen]; omega) (by have h1 := HSP.out; have h2 := HSN.out; omega) (below_alloc _ _).size ?_; intro v8 w2a ho8 hg8)
  have HB8 : Hid (Below w1b.heap.size w1b w2a) := (below_alloc _ _).trans (grown_belowC HOM.out hg8 (below_alloc _ _).size)
  simp only [Nat.zero_add, List.nil_append] at ho8
  rw [← HSN.out] at ho8
  obtain ⟨ra, rn, rc, hv8⟩ := own_formM ho8
  subst hv8
  have HO8 : Hid (w2a.ownsRow w1b.heap.size 42 3 (.slice ra rn rc) sn (flatQ m.P)) := ho8
  clear hg8 ho8 HOM HX8 c0 c1 mkp
  go_upto_region 13 with (at_builtin; refine wpList_append_qs (by rfl) (.tmp 53) (.tmp 56) 24 (by rfl) w1b.heap.size 42 i0 Try.underlying24 HI0.out HZ0.out HZ1.out HZ2.out _ sn m.P (by rfl) (HO8.out.alloc _) _ [kvM 75, kvM 76] (by rfl) (qv_twoM _ (kvM 75) (kvM 76) (kvM_ok (by decide)) (kvM_ok (by decide))) (by have h1 := HSP.out; simp only [maxLen, List.length_cons, List.length_nil]; omega) (by have h1 := HSP.out; simp only [List.length_cons, List.length_nil]; omega) (Nat.le_trans HB8.out.size (below_alloc _ _).size) ?_; intro v9 w2b ho9 hg9)
  have HB9 : Hid (Below w1b.heap.size w1b w2b) := HB8.out.trans (((below_alloc _ _).mono HB8.out.size).trans (grown_belowC (HO8.out.alloc _) hg9 (Nat.le_trans HB8.out.size (below_alloc _ _).size)))
  simp only [List.length_cons, List.length_nil, Nat.zero_add, Nat.reduceAdd] at ho9
  obtain ⟨gp, kp, hv9, hnc, hcm, hgl, _⟩ := row_formM ho9 (by omega)
  subst hv9
  have HRp : Hid (w2b.ownsRow (P + 1) 42 3 (.slice (some ⟨gp, 0, none⟩) (sn + 2) kp) (sn + 2) (flatQ (m.P ++ [kvM 75, kvM 76]))) := own_baseC ho9 (cell_lt HY4.out.c0)
  have kpi : ((sn : Int) + 2) ≤ (kp : Int) := by omega
  have kpj : (kp : Int) ≤ 9223372036854775807 := by unfold maxLen at hcm; omega
  have HX5 : Hid _ := HX4.out.keep HB9.out
  have HY5 : Hid _ := HY4.out.keep HB9.out
  have HB5 : Hid (Below w.heap.size w w2b) := below_trans HB4.out HB9.out
  replace HRe : Hid _ := own_belowC HRe.out HB9.out
  replace HRq : Hid _ := own_belowC HRq.out HB9.out
  clear hg9 ho9 HO8 HB8 HB9 hnc hcm hgl HX4 HY4 HB4
  have hnp : ¬ N = P := by have := HNP.out; omega
  have hpn : ¬ P = N := by have := HNP.out; omega
  have c6 := HX5.out.c6; have c7 := HX5.out.c7; have c8 := HX5.out.c8
  have d6 := HY5.out.c6; have d7 := HY5.out.c7; have d8 := HY5.out.c8
  have z6 := HY5.out.z 6; have z7 := HY5.out.z 7; have z8 := HY5.out.z 8
  have HCH : Hid (Ch (fun x => x = P) w2b (((w2b.setCell ⟨P, 6, none⟩ (.slice (some ⟨ge, 0, none⟩) en ke)).setCell ⟨P, 7, none⟩ (.slice (some ⟨gq, 0, none⟩) qn kq)).setCell ⟨P, 8, none⟩ (.slice (some ⟨gp, 0, none⟩) sn kp))) := ((ch_set _ _ _ _).self (ch_set _ _ _ _)).self (ch_set _ _ _ _)
  have HY6 : Hid (MX (((w2b.setCell ⟨P, 6, none⟩ (.slice (some ⟨ge, 0, none⟩) en ke)).setCell ⟨P, 7, none⟩ (.slice (some ⟨gq, 0, none⟩) qn kq)).setCell ⟨P, 8, none⟩ (.slice (some ⟨gp, 0, none⟩) sn kp)) P m (.slice (some ⟨ge, 0, none⟩) en ke) (.slice (some ⟨gq, 0, none⟩) qn kq) (.slice (some ⟨gp, 0, none⟩) sn kp)) := ((HY5.out.s6 _).s7 _).s8 _
  go_upto_region 16 with fail
  generalize ((w2b.setCell ⟨P, 6, none⟩ (.slice (some ⟨ge, 0, none⟩) en ke)).setCell ⟨P, 7, none⟩ (.slice (some ⟨gq, 0, none⟩) qn kq)).setCell ⟨P, 8, none⟩ (.slice (some ⟨gp, 0, none⟩) sn kp) = w5 at HCH HY6 ⊢
  have HX6 : Hid _ := HX5.out.ch HCH.out hnp
  replace HRe : Hid _ := own_ch HRe.out HCH.out (fun x hx => by omega)
  replace HRq : Hid _ := own_ch HRq.out HCH.out (fun x hx => by omega)
  replace HRp : Hid _ := own_ch HRp.out HCH.out (fun x hx => by omega)
  have HB6 : Hid (Below w.heap.size w w5) := HB5.out.trans (HCH.out.to_below HB5.out.size (fun x hx => by have h1 := HNP.out; have h2 := HN.out; omega))
  have HLX : Hid (ML w5 m (.slice (some ⟨ge, 0, none⟩) en ke) (.slice (some ⟨gq, 0, none⟩) qn kq) (.slice (some ⟨gp, 0, none⟩) sn kp)) := by
    refine own_ml HOK.out (base := P + 1) (te := 3) (tq := 38) (tp := 42) ?_ ?_ ?_
    · have k := own_cutM HRe.out (k := en) (by omega); rw [Nat.mul_one, HEN.out, List.map_append, List.take_left' (by simp)] at k; rw [HEN.out]; exact k
    · have k := own_cutM HRq.out (k := qn) (by omega); rw [Nat.mul_one, HQN.out, List.map_append, List.take_left' (by simp [ib_len])] at k; rw [HQN.out]; exact k
    · have k := own_cutM HRp.out (k := sn) (by omega); rw [HSN.out, flatQ_append, List.take_left' (by rw [flatQ_len])] at k; rw [HSN.out]; exact k
  clear HCH HX5 HY5 HB5 c6 c7 c8 d6 d7 d8 z6 z7 z8
  obtain ⟨E, hE⟩ : ∃ E, E = (encS m).2 := ⟨_, rfl⟩
  obtain ⟨l, hl⟩ : ∃ l, l = (encS m).1 := ⟨_, rfl⟩
  have HE : Hid (encS m = (l, E)) := by rw [hl, hE]; rfl
  clear hE hl
  have HLT : Hid (∀ c ∈ l, c < 256) := by have k := encS_ltM HOK.out; rw [HE.out] at k; exact k
  have c0 := HY6.out.c0; have c1 := HY6.out.c1; have c2 := HY6.out.c2; have c3 := HY6.out.c3; have c4 := HY6.out.c4; have c5 := HY6.out.c5; have c6 := HY6.out.c6; have c7 := HY6.out.c7; have c8 := HY6.out.c8
  go_wp2_with fail
  refine (menc_walk HLX.out HOK.out).mono ?_
  rintro e w6 ⟨vb, he, ho6, hB6⟩
  rw [HE.out] at he ho6
  subst he
  have HX7 : Hid _ := HX6.out.keep hB6
  have HY7 : Hid _ := HY6.out.keep hB6
  have HB7 : Hid (Below w.heap.size w w6) := below_trans HB6.out hB6
  have HLX7 : Hid _ := HLX.out.below hB6
  have HLO : Hid (w.heap.size ≤ w5.heap.size ∧ N < w5.heap.size) := ⟨HB6.out.size, cell_lt HX6.out.c0⟩
  have HS6 : Hid (w5.heap.size ≤ w6.heap.size) := hB6.size
  have HO7 : Hid (w6.ownsRow w5.heap.size 5 1 vb l.length (cb l)) := ho6
  replace HRe : Hid _ := own_belowC HRe.out hB6
  replace HRq : Hid _ := own_belowC HRq.out hB6
  replace HRp : Hid _ := own_belowC HRp.out hB6
  clear hB6 ho6 HX6 HY6 HB6 HLX c0 c1 c2 c3 c4 c5 c6 c7 c8
  have c0 := HY7.out.c0; have c1 := HY7.out.c1; have c2 := HY7.out.c2; have c3 := HY7.out.c3; have c4 := HY7.out.c4; have c5 := HY7.out.c5; have c6 := HY7.out.c6; have c7 := HY7.out.c7; have c8 := HY7.out.c8
  go_wp2_with fail
  refine (menc_walk HLX7.out HOK.out).mono ?_
  rintro e w7 ⟨vd, he, ho7, hB7⟩
  rw [HE.out] at he ho7
  subst he
  have HX8 : Hid _ := HX7.out.keep hB7
  have HY8 : Hid _ := HY7.out.keep hB7
  have HB8 : Hid (Below w.heap.size w w7) := below_trans HB7.out hB7
  have HLX8 : Hid _ := HLX7.out.below hB7
  have HO8 : Hid _ := own_belowC HO7.out hB7
  have HS7 : Hid (w5.heap.size ≤ w7.heap.size) := Nat.le_trans HS6.out hB7.size
  have HVB : Hid (Bv w7 vb l) := own_bv (l := l) HO8.out HLT.out
  have HVD : Hid (Bv w7 vd l) := own_bv (l := l) ho7 HLT.out
  replace HRe : Hid _ := own_belowC HRe.out hB7
  replace HRq : Hid _ := own_belowC HRq.out hB7
  replace HRp : Hid _ := own_belowC HRp.out hB7
  clear hB7 ho7 HX7 HY7 HB7 HLX7 HO7 c0 c1 c2 c3 c4 c5 c6 c7 c8
  have c0 := HY8.out.c0; have c1 := HY8.out.c1; have c2 := HY8.out.c2; have c3 := HY8.out.c3; have c4 := HY8.out.c4; have c5 := HY8.out.c5; have c6 := HY8.out.c6; have c7 := HY8.out.c7; have c8 := HY8.out.c8
  have d0 := HX8.out.c0; have d1 := HX8.out.c1; have d2 := HX8.out.c2; have d3 := HX8.out.c3; have d4 := HX8.out.c4; have d5 := HX8.out.c5; have d6 := HX8.out.c6; have d7 := HX8.out.c7; have d8 := HX8.out.c8
  have s1 := HVB.out.str 28 5 9 Try.underlying28 Try.underlying5 Try.underlying9
  have s2 := HVD.out.str 28 5 9 Try.underlying28 Try.underlying5 Try.underlying9
  have hbb : ((str l).toList == (str l).toList) = true := by simp
  have hee : ((E : Int) == (E : Int)) = true := by simp
  simp only at s1 s2 ⊢
  go_wp2_with fail
  refine (same_walk HLX8.out (HL.out.below HB8.out)).mono ?_
  rintro e w8 ⟨rfl, hB8⟩
  have HX9 : Hid _ := HX8.out.keep hB8
  have HB9 : Hid (Below w.heap.size w w8) := below_trans HB8.out hB8
  have HO9 : Hid _ := own_belowC HO8.out hB8
  have HL8 : Hid (w5.heap.size ≤ w8.heap.size) := Nat.le_trans HS7.out hB8.size
  replace HRe : Hid _ := own_belowC HRe.out hB8
  replace HRq : Hid _ := own_belowC HRq.out hB8
  replace HRp : Hid _ := own_belowC HRp.out hB8
  clear hB8 HX8 HY8 HB8 HLX8 HO8 HVB HVD s1 s2 c0 c1 c2 c3 c4 c5 c6 c7 c8 d0 d1 d2 d3 d4 d5 d6 d7 d8
  have d6 := HX9.out.c6; have d7 := HX9.out.c7; have d8 := HX9.out.c8
  have f1 : w8.cell? ⟨ge, en, none⟩ = some (.int .i64 71) := own_cellM HRe.out (by rw [HEN.out]; simp)
  have f2 : w8.cell? ⟨gq, qn, none⟩ = some (.int .u64 73) := own_cellM HRq.out (by rw [HQN.out, ← ib_len m.Q]; simp)
  obtain ⟨m0, m1, m2⟩ := (own_mq HRp.out m.P.length (by simp)).1
  rw [List.getElem_append_right (by omega)] at m0 m1 m2
  simp only [Nat.sub_self, List.getElem_cons_zero] at m0 m1 m2
  rw [← HSN.out] at m0 m1 m2
  dsimp only [kvM] at m0 m1 m2
  have q75 : ∀ wx : World, (binOp .neq 42 (.agg #[.int .u64 75, .bool false, .int .u64 0]) (.agg #[.int .u64 75, .bool false, .int .u64 0])).run Try.prog wx = .ok (.bool false) wx := neq_pair (kvM 75)
  have hgd := guard_pair
  have hle : en < ke := by omega
  have hlq : qn < kq := by omega
  have hlp : sn < kp := by omega
  go_upto_region 20 with fail
  clear HRe HRq HRp d6 d7 d8 f1 f2 m0 m1 m2 q75 hgd hle hlq hlp lei lqi lpi kei kej kqi kqj kpi kpj
  by_cases h0 : E = 0
  · subst h0
    have HD : Hid (decS l = (m, 0)) := decS_encM HOK.out HE.out
    obtain ⟨va, vn, vc, rfl⟩ := bv_any (own_bv (l := l) HO9.out HLT.out)
    have hvl := bv_le (own_bv (l := l) HO9.out HLT.out)
    have HVN : Hid (vn = l.length) := hvl.1
    have hvi : (vn : Int) ≤ 9223372036854775807 := by obtain ⟨k1, k2, k3⟩ := hvl; unfold maxLen at k3; omega
    clear hvl
    go_wp2_with fail
    refine (mdec_walk (own_bv (l := l) HO9.out HLT.out)).mono ?_
    rintro e w9 ⟨pe, pq, pp, he, hpe, hpq, hpp, hB9⟩
    rw [HD.out] at he hpe hpq hpp
    subst he
    obtain ⟨xa, xn, xc, rfl, hxn, hxm⟩ := sv_le (own_sv hpe)
    obtain ⟨ya, yn, yc, rfl, hyn, hym⟩ := sv_le (own_sv hpq)
    obtain ⟨ta, tn, tc, rfl, htn, htm⟩ := qv_le (own_qv hpp HOK.out.P)
    rw [← hyn] at hym
    rw [← hxn] at hxm
    rw [← htn] at htm
    unfold maxLen at hxm hym htm
    have hxi : (xn : Int) ≤ 9223372036854775807 := by omega
    have hyi : (yn : Int) ≤ 9223372036854775807 := by omega
    have hti : (tn : Int) ≤ 9223372036854775807 := by omega
    clear hxm hym htm
    rw [ib_len] at hyn
    simp only at hxn hyn htn hpe hpq hpp
    rw [← hxn] at hpe
    rw [← hyn] at hpq
    rw [← htn] at hpp
    have hRe : Rw w9 w5.heap.size w9.heap.size (.slice xa xn xc) xn 1 := (rw_own hpe (Nat.le_refl _)).lo HL8.out
    have hRq : Rw w9 w5.heap.size w9.heap.size (.slice ya yn yc) yn 1 := (rw_own hpq (Nat.le_refl _)).lo HL8.out
    have hRp : Rw w9 w5.heap.size w9.heap.size (.slice ta tn tc) tn 3 := (rw_own hpp (Nat.le_refl _)).lo HL8.out
    have hRb : Rw w9 w5.heap.size w9.heap.size (.slice va vn vc) vn 1 := by have k := own_belowC HO9.out hB9; rw [← HVN.out] at k; exact rw_own k (Nat.le_refl _)
    have HO10 : Hid _ := own_belowC HO9.out (below_trans hB9 (below_alloc _ (Obj.cells #[.int .i64 m.K, .int .i64 m.F, .int .i64 m.T, .int .i64 m.B, .int .i64 m.A, .int .i64 m.C, .slice xa xn xc, .slice ya yn yc, .slice ta tn tc] 26)))
    have HX10 : Hid _ := HX9.out.keep (below_trans hB9 (below_alloc _ (Obj.cells #[.int .i64 m.K, .int .i64 m.F, .int .i64 m.T, .int .i64 m.B, .int .i64 m.A, .int .i64 m.C, .slice xa xn xc, .slice ya yn yc, .slice ta tn tc] 26)))
    have HB10 : Hid (Below w.heap.size w (w9.alloc (Obj.cells #[.int .i64 m.K, .int .i64 m.F, .int .i64 m.T, .int .i64 m.B, .int .i64 m.A, .int .i64 m.C, .slice xa xn xc, .slice ya yn yc, .slice ta tn tc] 26))) := below_trans HB9.out (below_trans hB9 (below_alloc _ _))
    have HP10 : Hid (MX (w9.alloc (Obj.cells #[.int .i64 m.K, .int .i64 m.F, .int .i64 m.T, .int .i64 m.B, .int .i64 m.A, .int .i64 m.C, .slice xa xn xc, .slice ya yn yc, .slice ta tn tc] 26)) w9.heap.size m (.slice xa xn xc) (.slice ya yn yc) (.slice ta tn tc)) := mx_new w9 m _ _ _
    obtain ⟨lo, hlo⟩ : ∃ lo, lo = w5.heap.size := ⟨_, rfl⟩
    obtain ⟨hi, hhi⟩ : ∃ hi, hi = w9.heap.size := ⟨_, rfl⟩
    rw [← hlo, ← hhi] at hRe hRq hRp hRb
    have HAB : Hid (Below hi w9 (w9.alloc (Obj.cells #[.int .i64 m.K, .int .i64 m.F, .int .i64 m.T, .int .i64 m.B, .int .i64 m.A, .int .i64 m.C, .slice xa xn xc, .slice ya yn yc, .slice ta tn tc] 26))) := by rw [hhi]; exact below_alloc _ _
    have HSB : Hid (hi < (w9.alloc (Obj.cells #[.int .i64 m.K, .int .i64 m.F, .int .i64 m.T, .int .i64 m.B, .int .i64 m.A, .int .i64 m.C, .slice xa xn xc, .slice ya yn yc, .slice ta tn tc] 26)).heap.size) := by rw [size_allocC, hhi]; exact Nat.lt_succ_self _
    have HLO2 : Hid (w.heap.size ≤ lo ∧ N < lo) := by rw [hlo]; exact HLO.out
    have HWB : Hid (Rw w9 lo hi (.slice va vn vc) vn 1 ∧ Rw w9 lo hi (.slice xa xn xc) xn 1 ∧ Rw w9 lo hi (.slice ya yn yc) yn 1 ∧ Rw w9 lo hi (.slice ta tn tc) tn 3) := ⟨hRb, hRe, hRq, hRp⟩
    have HHI : Hid (hi = w9.heap.size) := hhi
    have HLH : Hid (lo ≤ hi) := by rw [hlo, hhi]; exact Nat.le_trans HL8.out hB9.size
    clear hpe hpq hpp hB9 hRe hRq hRp hRb hxn hyn htn HO9 HX9 HB9
    simp only [show ((((m, 0) : Ms × Nat).2 : Nat) : Int) = 0 from rfl]
    go_upto_region 23 with fail
    rw [← hhi] at HP10 ⊢
    clear hlo hhi
    generalize w9.alloc (Obj.cells #[.int .i64 m.K, .int .i64 m.F, .int .i64 m.T, .int .i64 m.B, .int .i64 m.A, .int .i64 m.C, .slice xa xn xc, .slice ya yn yc, .slice ta tn tc] 26) = w10 at HO10 HX10 HB10 HP10 HAB HSB ⊢
    go_wp2_with fail
    refine (mdec_walk (own_bv (l := l) HO10.out HLT.out)).mono ?_
    rintro e w11 ⟨ue, uq, up, he, hue, huq, hup, hB11⟩
    rw [HD.out] at he hue huq hup
    subst he
    simp only at hue huq hup
    obtain ⟨ra, rn, rc, rfl⟩ := sv_any (own_sv hue)
    obtain ⟨oa, on, oc, rfl⟩ := sv_any (own_sv huq)
    obtain ⟨ia, jn, ic, rfl⟩ := qv_any (own_qv hup HOK.out.P)
    have HQ12 : Hid (MX (w11.alloc (Obj.cells #[.int .i64 m.K, .int .i64 m.F, .int .i64 m.T, .int .i64 m.B, .int .i64 m.A, .int .i64 m.C, .slice ra rn rc, .slice oa on oc, .slice ia jn ic] 26)) w11.heap.size m (.slice ra rn rc) (.slice oa on oc) (.slice ia jn ic)) := mx_new w11 m _ _ _
    have hBa : Below w10.heap.size w10 (w11.alloc (Obj.cells #[.int .i64 m.K, .int .i64 m.F, .int .i64 m.T, .int .i64 m.B, .int .i64 m.A, .int .i64 m.C, .slice ra rn rc, .slice oa on oc, .slice ia jn ic] 26)) := below_trans hB11 (below_alloc _ _)
    have HX12 : Hid _ := HX10.out.keep hBa
    have HP12 : Hid _ := HP10.out.keep hBa
    have HB12 : Hid (Below w.heap.size w (w11.alloc (Obj.cells #[.int .i64 m.K, .int .i64 m.F, .int .i64 m.T, .int .i64 m.B, .int .i64 m.A, .int .i64 m.C, .slice ra rn rc, .slice oa on oc, .slice ia jn ic] 26))) := below_trans HB10.out hBa
    have hBh : Below w9.heap.size w9 (w11.alloc (Obj.cells #[.int .i64 m.K, .int .i64 m.F, .int .i64 m.T, .int .i64 m.B, .int .i64 m.A, .int .i64 m.C, .slice ra rn rc, .slice oa on oc, .slice ia jn ic] 26)) := by rw [← HHI.out]; exact HAB.out.trans (hBa.mono (Nat.le_of_lt HSB.out))
    have HW : Hid (Wa lo hi (w11.alloc (Obj.cells #[.int .i64 m.K, .int .i64 m.F, .int .i64 m.T, .int .i64 m.B, .int .i64 m.A, .int .i64 m.C, .slice ra rn rc, .slice oa on oc, .slice ia jn ic] 26)) (w11.alloc (Obj.cells #[.int .i64 m.K, .int .i64 m.F, .int .i64 m.T, .int .i64 m.B, .int .i64 m.A, .int .i64 m.C, .slice ra rn rc, .slice oa on oc, .slice ia jn ic] 26)) (.slice va vn vc) (.slice xa xn xc) (.slice ya yn yc) (.slice ta tn tc) vn xn yn tn) := ⟨Ch.refl _ _, HWB.out.1.below hBh (Nat.le_of_eq HHI.out), HWB.out.2.1.below hBh (Nat.le_of_eq HHI.out), HWB.out.2.2.1.below hBh (Nat.le_of_eq HHI.out), HWB.out.2.2.2.below hBh (Nat.le_of_eq HHI.out)⟩
    have HUE : Hid _ := own_belowC hue (below_alloc _ (Obj.cells #[.int .i64 m.K, .int .i64 m.F, .int .i64 m.T, .int .i64 m.B, .int .i64 m.A, .int .i64 m.C, .slice ra rn rc, .slice oa on oc, .slice ia jn ic] 26))
    have HUQ : Hid _ := own_belowC huq (below_alloc _ (Obj.cells #[.int .i64 m.K, .int .i64 m.F, .int .i64 m.T, .int .i64 m.B, .int .i64 m.A, .int .i64 m.C, .slice ra rn rc, .slice oa on oc, .slice ia jn ic] 26))
    have HUP : Hid _ := own_belowC hup (below_alloc _ (Obj.cells #[.int .i64 m.K, .int .i64 m.F, .int .i64 m.T, .int .i64 m.B, .int .i64 m.A, .int .i64 m.C, .slice ra rn rc, .slice oa on oc, .slice ia jn ic] 26))
    have HPS : Hid (hi < w11.heap.size) := Nat.lt_of_lt_of_le HSB.out hB11.size
    clear hue huq hup hB11 hBa hBh HO10 HX10 HB10 HP10 HAB HWB HHI
    simp only [show ((((m, 0) : Ms × Nat).2 : Nat) : Int) = 0 from rfl]
    go_upto_region 24 with fail
    generalize w11.alloc (Obj.cells #[.int .i64 m.K, .int .i64 m.F, .int .i64 m.T, .int .i64 m.B, .int .i64 m.A, .int .i64 m.C, .slice ra rn rc, .slice oa on oc, .slice ia jn ic] 26) = w12 at HQ12 HX12 HP12 HB12 HW HUE HUQ HUP ⊢
    obtain ⟨R, hR⟩ : ∃ R, R = w11.heap.size := ⟨_, rfl⟩
    rw [← hR] at HQ12 HPS ⊢
    obtain ⟨bs, hbs⟩ : ∃ b, b = w10.heap.size := ⟨_, rfl⟩
    rw [← hbs] at HUE HUQ HUP HSB
    clear hR hbs
    go_wp2_with fail
    go_loopw [13] (fun iv wr => ∃ i : Nat, iv = .int .i64 i ∧ i ≤ vn ∧ Wa lo hi w12 wr (.slice va vn vc) (.slice xa xn xc) (.slice ya yn yc) (.slice ta tn tc) vn xn yn tn) (fun iv _ => vn - (intOf iv).toNat)
    case atStart => exact ⟨0, rfl, Nat.zero_le _, HW.out⟩
    case round =>
      clear HW
      obtain ⟨i, rfl, hin, hw⟩ := hrel
      have HW : Hid (Wa lo hi w12 wr (.slice va vn vc) (.slice xa xn xc) (.slice ya yn yc) (.slice ta tn tc) vn xn yn tn) := hw
      clear hw
      by_cases hlt : i < vn
      · have hlti : (i : Int) < (vn : Int) := by omega
        obtain ⟨g, cap, e1, hnc, hcm, hg1, hg2, hrc⟩ : ∃ g cap, Value.slice va vn vc = .slice (some ⟨g, 0, none⟩) vn cap ∧ vn ≤ cap ∧ cap ≤ maxLen ∧ lo ≤ g ∧ g < hi ∧ Rcl wr g (vn * 1) := by rcases HW.out.b with h | h; (exfalso; omega); exact h
        simp only [Value.slice.injEq] at e1
        obtain ⟨rfl, _, rfl⟩ := e1
        have HG : Hid (lo ≤ g ∧ g < hi) := ⟨hg1, hg2⟩
        obtain ⟨⟨x0, hx0⟩, hz0⟩ := hrc i (by omega)
        clear hnc hcm hg1 hg2 hrc
        have HW2 : Hid _ := HW.out.put HG.out i (.int .u8 85)
        go_wp2_with fail
        go_roundw
        case rel => exact ⟨i + 1, by simp, by omega, HW2.out⟩
        case measure => simp [intOf]; omega
      · have hlti : ¬ (i : Int) < (vn : Int) := by omega
        clear hlt hin
        go_wp2_with fail
        clear hlti
        go_loopw [14] (fun iv wr => ∃ i : Nat, iv = .int .i64 i ∧ i ≤ xn ∧ Wa lo hi w12 wr (.slice va vn vc) (.slice xa xn xc) (.slice ya yn yc) (.slice ta tn tc) vn xn yn tn) (fun iv _ => xn - (intOf iv).toNat)
        case atStart => exact ⟨0, rfl, Nat.zero_le _, HW.out⟩
        case round =>
          clear HW
          obtain ⟨i, rfl, hin, hw⟩ := hrel
          have HW : Hid (Wa lo hi w12 wr (.slice va vn vc) (.slice xa xn xc) (.slice ya yn yc) (.slice ta tn tc) vn xn yn tn) := hw
          clear hw
          have pc : wr.cell? ⟨hi, 6, none⟩ = some (.slice xa xn xc) := (HP12.out.ch HW.out.ch (by omega)).c6
          by_cases hlt : i < xn
          · have hlti : (i : Int) < (xn : Int) := by omega
            obtain ⟨g, cap, e1, hnc, hcm, hg1, hg2, hrc⟩ : ∃ g cap, Value.slice xa xn xc = .slice (some ⟨g, 0, none⟩) xn cap ∧ xn ≤ cap ∧ cap ≤ maxLen ∧ lo ≤ g ∧ g < hi ∧ Rcl wr g (xn * 1) := by rcases HW.out.e with h | h; (exfalso; omega); exact h
            simp only [Value.slice.injEq] at e1
            obtain ⟨rfl, _, rfl⟩ := e1
            have HG : Hid (lo ≤ g ∧ g < hi) := ⟨hg1, hg2⟩
            obtain ⟨⟨x0, hx0⟩, hz0⟩ := hrc i (by omega)
            clear hnc hcm hg1 hg2 hrc
            have HW2 : Hid _ := HW.out.put HG.out i (.int .i64 9)
            go_wp2_with fail
            go_roundw
            case rel => exact ⟨i + 1, by simp, by omega, HW2.out⟩
            case measure => simp [intOf]; omega
          · have hlti : ¬ (i : Int) < (xn : Int) := by omega
            clear hlt hin
            go_wp2_with fail
            clear hlti pc
            go_loopw [15] (fun iv wr => ∃ i : Nat, iv = .int .i64 i ∧ i ≤ yn ∧ Wa lo hi w12 wr (.slice va vn vc) (.slice xa xn xc) (.slice ya yn yc) (.slice ta tn tc) vn xn yn tn) (fun iv _ => yn - (intOf iv).toNat)
            case atStart => exact ⟨0, rfl, Nat.zero_le _, HW.out⟩
            case round =>
              clear HW
              obtain ⟨i, rfl, hin, hw⟩ := hrel
              have HW : Hid (Wa lo hi w12 wr (.slice va vn vc) (.slice xa xn xc) (.slice ya yn yc) (.slice ta tn tc) vn xn yn tn) := hw
              clear hw
              have pc : wr.cell? ⟨hi, 7, none⟩ = some (.slice ya yn yc) := (HP12.out.ch HW.out.ch (by omega)).c7
              by_cases hlt : i < yn
              · have hlti : (i : Int) < (yn : Int) := by omega
                obtain ⟨g, cap, e1, hnc, hcm, hg1, hg2, hrc⟩ : ∃ g cap, Value.slice ya yn yc = .slice (some ⟨g, 0, none⟩) yn cap ∧ yn ≤ cap ∧ cap ≤ maxLen ∧ lo ≤ g ∧ g < hi ∧ Rcl wr g (yn * 1) := by rcases HW.out.k with h | h; (exfalso; omega); exact h
                simp only [Value.slice.injEq] at e1
                obtain ⟨rfl, _, rfl⟩ := e1
                have HG : Hid (lo ≤ g ∧ g < hi) := ⟨hg1, hg2⟩
                obtain ⟨⟨x0, hx0⟩, hz0⟩ := hrc i (by omega)
                clear hnc hcm hg1 hg2 hrc
                have HW2 : Hid _ := HW.out.put HG.out i (.int .u64 9)
                go_wp2_with fail
                go_roundw
                case rel => exact ⟨i + 1, by simp, by omega, HW2.out⟩
                case measure => simp [intOf]; omega
              · have hlti : ¬ (i : Int) < (yn : Int) := by omega
                clear hlt hin
                go_wp2_with fail
                clear hlti pc
                go_loopw [16] (fun iv wr => ∃ i : Nat, iv = .int .i64 i ∧ i ≤ tn ∧ Wa lo hi w12 wr (.slice va vn vc) (.slice xa xn xc) (.slice ya yn yc) (.slice ta tn tc) vn xn yn tn) (fun iv _ => tn - (intOf iv).toNat)
                case atStart => exact ⟨0, rfl, Nat.zero_le _, HW.out⟩
                case round =>
                  clear HW
                  obtain ⟨i, rfl, hin, hw⟩ := hrel
                  have HW : Hid (Wa lo hi w12 wr (.slice va vn vc) (.slice xa xn xc) (.slice ya yn yc) (.slice ta tn tc) vn xn yn tn) := hw
                  clear hw
                  have pc : wr.cell? ⟨hi, 8, none⟩ = some (.slice ta tn tc) := (HP12.out.ch HW.out.ch (by omega)).c8
                  by_cases hlt : i < tn
                  · have hlti : (i : Int) < (tn : Int) := by omega
                    obtain ⟨g, cap, e1, hnc, hcm, hg1, hg2, hrc⟩ : ∃ g cap, Value.slice ta tn tc = .slice (some ⟨g, 0, none⟩) tn cap ∧ tn ≤ cap ∧ cap ≤ maxLen ∧ lo ≤ g ∧ g < hi ∧ Rcl wr g (tn * 3) := by rcases HW.out.p with h | h; (exfalso; omega); exact h
                    simp only [Value.slice.injEq] at e1
                    obtain ⟨rfl, _, rfl⟩ := e1
                    have HG : Hid (lo ≤ g ∧ g < hi) := ⟨hg1, hg2⟩
                    obtain ⟨⟨x0, hx0⟩, hz0⟩ := hrc (i * 3) (by omega)
                    obtain ⟨⟨x1, hx1⟩, hz1⟩ := hrc (i * 3 + 1) (by omega)
                    obtain ⟨⟨x2, hx2⟩, hz2⟩ := hrc (i * 3 + 2) (by omega)
                    clear hnc hcm hg1 hg2 hrc
                    have HW2 : Hid _ := HW.out.put3 HG.out (i * 3) (i * 3 + 1) (i * 3 + 2) (.int .u64 0) (.bool false) (.int .u64 0)
                    go_wp2_with fail
                    go_roundw
                    case rel => exact ⟨i + 1, by simp, by omega, HW2.out⟩
                    case measure => simp [intOf]; omega
                  · have hlti : ¬ (i : Int) < (tn : Int) := by omega
                    clear hlt hin
                    have HXN : Hid _ := HX12.out.ch HW.out.ch (by have := HLO2.out.2; omega)
                    have HXR : Hid _ := HQ12.out.ch HW.out.ch (by have := HPS.out; omega)
                    have c0 := HXR.out.c0; have c1 := HXR.out.c1; have c2 := HXR.out.c2; have c3 := HXR.out.c3; have c4 := HXR.out.c4; have c5 := HXR.out.c5; have c6 := HXR.out.c6; have c7 := HXR.out.c7; have c8 := HXR.out.c8
                    have d0 := HXN.out.c0; have d1 := HXN.out.c1; have d2 := HXN.out.c2; have d3 := HXN.out.c3; have d4 := HXN.out.c4; have d5 := HXN.out.c5; have d6 := HXN.out.c6; have d7 := HXN.out.c7; have d8 := HXN.out.c8
                    have HBW : Hid (Below w.heap.size w wr) := HB12.out.trans (HW.out.ch.to_below HB12.out.size (fun x hx => Nat.le_trans HLO2.out.1 hx.1))
                    have hbb : ∀ x, lo ≤ x ∧ x < hi → x < bs := fun x hx => by have := HSB.out; omega
                    have HMQ : Hid (ML wr m (.slice ra rn rc) (.slice oa on oc) (.slice ia jn ic)) := own_ml HOK.out (own_ch HUE.out HW.out.ch hbb) (own_ch HUQ.out HW.out.ch hbb) (own_ch HUP.out HW.out.ch hbb)
                    clear hbb
                    go_wp2_with fail
                    refine (same_walk HMQ.out (HL.out.below HBW.out)).mono ?_
                    rintro e w13 ⟨rfl, hB13⟩
                    go_wp2_with fail
                    go_ret
                    exact ⟨rfl, below_trans HBW.out hB13⟩
  · have hne : ((E : Int) != 0) = true := by rw [bne_iff_ne]; omega
    go_wp2_with fail
    go_ret
    exact ⟨rfl, HB9.out⟩
end Go.Proofs.Ythkkbdmbmkgjpaa


