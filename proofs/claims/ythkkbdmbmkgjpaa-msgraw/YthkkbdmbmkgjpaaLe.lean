/- The walk of MsgRaw. -/
import Derived.Test.YthkkbdmbmkgjpaaJn

import Derived.Test.YthkkbdmbmkgjpaaJs

namespace Go.Proofs.Ythkkbdmbmkgjpaa

open Go.RowKit



theorem decI_okT {K : Nat} (hk : 1 ≤ K ∧ K ≤ 8) : ∀ (n : Nat) (hs : Nat → Nat) (l : List Nat), (∀ c ∈ l, c < 256) → okT (decI K hs n l).1.P
  | 0, hs, l, hl => by
    rw [decI]
    unfold decT
    split
    · intro x hx; cases hx
    · split
      · intro x hx; cases hx
      · split
        · intro x hx; cases hx
        · exact bod_okT hk hl
  | n + 1, hs, l, hl => by
    rw [decI]
    split
    · intro x hx; cases hx
    · rename_i h0
      have hb := (cnt_back hl (by simpa using h0)).1
      exact decI_okT hk n _ _ (fun c hc => hl c (by rw [hb]; simp [hc]))
theorem dec_okT {l : List Nat} (hl : ∀ c ∈ l, c < 256) : okT (decS l).1.P := by
  unfold decS
  split
  · intro x hx; cases hx
  · rename_i h0
    have hk := knd_range (l := l) (by simpa using h0)
    have hb := (knd_back hl (by simpa using h0)).1
    have h1 : ∀ c ∈ (kndL l).2.2, c < 256 := fun c hc => hl c (by rw [hb]; simp [hc])
    generalize (kndL l).2.2 = l1 at h1
    generalize (kndL l).2.1 = K at hk
    rw [dec2_I]
    exact decI_okT hk 4 _ _ h1


set_option maxRecDepth 100000 in
set_option maxHeartbeats 8000000 in
theorem msgraw_walk {w : World} {v : Value} {l : List Nat} (h : Bv w v l) :
    Calls Try.prog 4 #[v] w fun e w' => e = .returned (.bool true) ∧ Below w.heap.size w w' := by
  have HV : Hid (Bv w v l) := h
  obtain ⟨va, vn, vc, rfl⟩ := bv_any h
  obtain ⟨M, hM⟩ : ∃ M, M = (decS l).1 := ⟨_, rfl⟩
  obtain ⟨E, hE⟩ : ∃ E, E = (decS l).2 := ⟨_, rfl⟩
  have HD : Hid (decS l = (M, E)) := by rw [hM, hE]; rfl
  have HOT : Hid (okT M.P) := by rw [hM]; exact dec_okT h.2
  clear hM hE h
  have hee : ((E : Int) == (E : Int)) = true := by simp
  go_enter Try.func4, Try.ntmps4
  go_wp2_with fail
  refine (awake_walk _).mono ?_
  rintro e w1 ⟨rfl, hB1⟩
  have HB1 : Hid (Below w.heap.size w w1) := hB1
  clear hB1
  go_wp2_with fail
  refine (mdec_walk (HV.out.below HB1.out)).mono ?_
  rintro e w2 ⟨ev, qv, pv, he, hoe, hoq, hop, hB2⟩
  rw [HD.out] at he hoe hoq hop
  simp only at he
  have HML : Hid (ML w2 M ev qv pv) := ⟨own_sv hoe, own_sv hoq, own_qv hop HOT.out⟩
  have HB2 : Hid (Below w.heap.size w w2) := below_trans HB1.out hB2
  subst he
  obtain ⟨ea, en, ec, rfl⟩ := sv_any HML.out.e
  obtain ⟨qa, qn, qc, rfl⟩ := sv_any HML.out.q
  obtain ⟨sa, sn, sc, rfl⟩ := qv_any HML.out.p
  clear hoe hoq hop hB2 HB1
  have HX3 : Hid (MX (w2.alloc (Obj.cells #[.int .i64 M.K, .int .i64 M.F, .int .i64 M.T, .int .i64 M.B, .int .i64 M.A, .int .i64 M.C, .slice ea en ec, .slice qa qn qc, .slice sa sn sc] 26)) w2.heap.size M (.slice ea en ec) (.slice qa qn qc) (.slice sa sn sc)) := mx_new w2 M _ _ _
  have HB3 : Hid (Below w2.heap.size w2 (w2.alloc (Obj.cells #[.int .i64 M.K, .int .i64 M.F, .int .i64 M.T, .int .i64 M.B, .int .i64 M.A, .int .i64 M.C, .slice ea en ec, .slice qa qn qc, .slice sa sn sc] 26))) := below_alloc _ _
  go_upto_region 4 with fail
  generalize w2.alloc (Obj.cells #[.int .i64 M.K, .int .i64 M.F, .int .i64 M.T, .int .i64 M.B, .int .i64 M.A, .int .i64 M.C, .slice ea en ec, .slice qa qn qc, .slice sa sn sc] 26) = w3 at HX3 HB3 ⊢
  generalize w2.heap.size = P at HX3 ⊢
  have HBB : Hid (Below w.heap.size w w3) := below_trans HB2.out HB3.out
  have HM3 : Hid _ := HML.out.below HB3.out
  clear HML HB3 HB2
  go_wp2_with fail
  refine (rmdec_walk (HV.out.below HBB.out)).mono ?_
  rintro e w4 ⟨fv, rv, tv, he, hoe, hoq, hop, hB4⟩
  rw [HD.out] at he hoe hoq hop
  simp only at he
  have HMR : Hid (ML w4 M fv rv tv) := ⟨own_sv hoe, own_sv hoq, own_qv hop HOT.out⟩
  have HM4 : Hid _ := HM3.out.below hB4
  have HX4 : Hid _ := HX3.out.keep hB4
  have HB4 : Hid (Below w.heap.size w w4) := below_trans HBB.out hB4
  subst he
  obtain ⟨fa, fn, fc, rfl⟩ := sv_any HMR.out.e
  obtain ⟨ra, rn, rc, rfl⟩ := sv_any HMR.out.q
  obtain ⟨ta, tn, tc, rfl⟩ := qv_any HMR.out.p
  clear hoe hoq hop hB4 HM3 HX3 HBB
  have HX5 : Hid (MX (w4.alloc (Obj.cells #[.int .i64 M.K, .int .i64 M.F, .int .i64 M.T, .int .i64 M.B, .int .i64 M.A, .int .i64 M.C, .slice fa fn fc, .slice ra rn rc, .slice ta tn tc] 26)) w4.heap.size M (.slice fa fn fc) (.slice ra rn rc) (.slice ta tn tc)) := mx_new w4 M _ _ _
  have HB5 : Hid (Below w4.heap.size w4 (w4.alloc (Obj.cells #[.int .i64 M.K, .int .i64 M.F, .int .i64 M.T, .int .i64 M.B, .int .i64 M.A, .int .i64 M.C, .slice fa fn fc, .slice ra rn rc, .slice ta tn tc] 26))) := below_alloc _ _
  go_upto_region 5 with fail
  generalize w4.alloc (Obj.cells #[.int .i64 M.K, .int .i64 M.F, .int .i64 M.T, .int .i64 M.B, .int .i64 M.A, .int .i64 M.C, .slice fa fn fc, .slice ra rn rc, .slice ta tn tc] 26) = w5 at HX5 HB5 ⊢
  have HXA : Hid _ := HX4.out.keep HB5.out
  have HMA : Hid _ := HM4.out.below HB5.out
  have HMB : Hid _ := HMR.out.below HB5.out
  have HB6 : Hid (Below w.heap.size w w5) := below_trans HB4.out HB5.out
  clear HX4 HM4 HMR HB4 HB5
  generalize w4.heap.size = R at HX5 ⊢
  have c0 := HX5.out.c0; have c1 := HX5.out.c1; have c2 := HX5.out.c2; have c3 := HX5.out.c3; have c4 := HX5.out.c4; have c5 := HX5.out.c5; have c6 := HX5.out.c6; have c7 := HX5.out.c7; have c8 := HX5.out.c8
  have d0 := HXA.out.c0; have d1 := HXA.out.c1; have d2 := HXA.out.c2; have d3 := HXA.out.c3; have d4 := HXA.out.c4; have d5 := HXA.out.c5; have d6 := HXA.out.c6; have d7 := HXA.out.c7; have d8 := HXA.out.c8
  go_wp2_with fail
  refine (same_walk HMA.out HMB.out).mono ?_
  rintro e w6 ⟨rfl, hB6⟩
  go_wp2_with fail
  go_ret
  exact ⟨rfl, below_trans HB6.out hB6⟩
end Go.Proofs.Ythkkbdmbmkgjpaa


