/- right and follows. -/
import Derived.Test.YtnnammlipfappaaJb

namespace Go.Proofs.Ytnnammlipfappaa

open Ieee Go.RowKit

section

variable {w : World} {pv cv hpv hcv : Value} {n h : Nt} {q : Int}



theorem rgt_step {n : Nt} : stepI n.tp n.c = 70 ↔ rightB n.tp = false := by
  have hf : fwdB n.tp.c n.c = true := Fwd.yes ⟨rfl, fun i _ => Int.le_refl _⟩
  unfold stepI
  rw [hf, Bool.and_true]
  cases rightB n.tp
  · simp
  · simp only [if_true]
    constructor
    · intro h; split at h <;> omega
    · intro h; cases h
set_option maxRecDepth 100000 in
set_option maxHeartbeats 2000000 in
theorem jright_walk (hp : Nv w pv n.p) (hc : Nv w cv n.c) (hb : -9223372036854775808 ≤ n.b ∧ n.b < 9223372036854775808) (hq : q ≤ 4) :
    Calls Try.prog 43 #[.agg #[.int .i64 n.b, pv, cv, .int .i64 n.a], .int .i64 q] w fun e w' => e = .returned (.bool (rgtB n q)) ∧ Below w.heap.size w w' := by
  have HS : Hid (stepI n.tp n.c = 70 ↔ rightB n.tp = false) := rgt_step
  obtain ⟨nb, P, C, na⟩ := n
  simp only at hp hc hb ⊢
  obtain ⟨w0, hw0⟩ : ∃ w0, w0 = w.alloc (Obj.cells #[.int .i64 nb, pv, cv, .int .i64 na] 41) := ⟨_, rfl⟩
  have HW0 : Hid (w0 = w.alloc (Obj.cells #[.int .i64 nb, pv, cv, .int .i64 na] 41)) := hw0
  have HB0 : Hid (Below w.heap.size w w0) := by show Below _ _ _; rw [hw0]; exact below_alloc _ _
  have HP : Hid (Nv w0 pv P) := hp.below HB0.out
  have HC : Hid (Nv w0 cv C) := hc.below HB0.out
  have HB : Hid (-9223372036854775808 ≤ nb ∧ nb < 9223372036854775808) := hb
  obtain ⟨po, pc, rfl, hlp, _⟩ := hp.form
  obtain ⟨co, cc, rfl, hlc, _⟩ := hc.form
  have HZ : Hid (w.heap.size < w0.heap.size) := by show _ < _; rw [hw0]; simp
  have k0 : w0.cell? ⟨w.heap.size, 0, none⟩ = some (.int .i64 nb) := by rw [hw0]; simp [go_sem]
  have k1 : w0.cell? ⟨w.heap.size, 1, none⟩ = some (.slice po P.length pc) := by rw [hw0]; simp [go_sem]
  have k2 : w0.cell? ⟨w.heap.size, 2, none⟩ = some (.slice co C.length cc) := by rw [hw0]; simp [go_sem]
  have k3 : w0.cell? ⟨w.heap.size, 3, none⟩ = some (.int .i64 na) := by rw [hw0]; simp [go_sem]
  clear hp hc hw0 hb
  by_cases ha0 : na < 0
  · have HD : Hid (rgtB ⟨nb, P, C, na⟩ q = false) := Rgt.no fun h => by have := h.a0; simp only at this; omega
    rw [HD.out]
    go_enter Try.func43, Try.ntmps43
    go_wp2_with fail
    go_ret
    exact ⟨rfl, below_alloc _ _⟩
  by_cases ha1 : 1099511627776 < na
  · have HD : Hid (rgtB ⟨nb, P, C, na⟩ q = false) := Rgt.no fun h => by have := h.a1; simp only at this; omega
    rw [HD.out]
    go_enter Try.func43, Try.ntmps43
    go_wp2_with fail
    go_ret
    exact ⟨rfl, below_alloc _ _⟩
  by_cases hb1 : 1099511627776 < nb
  · have HD : Hid (rgtB ⟨nb, P, C, na⟩ q = false) := Rgt.no fun h => by have := h.b1; simp only at this; omega
    rw [HD.out]
    go_enter Try.func43, Try.ntmps43
    go_wp2_with fail
    go_ret
    exact ⟨rfl, below_alloc _ _⟩
  by_cases hpl : (P.length : Int) = q
  rotate_left
  · have HD : Hid (rgtB ⟨nb, P, C, na⟩ q = false) := Rgt.no fun h => hpl h.lp
    have hne : ((P.length : Int) != q) = true := by simp [hpl]
    clear hpl
    rw [HD.out]
    go_enter Try.func43, Try.ntmps43
    go_wp2_with fail
    go_ret
    exact ⟨rfl, below_alloc _ _⟩
  by_cases hcl : (C.length : Int) = q
  rotate_left
  · have HD : Hid (rgtB ⟨nb, P, C, na⟩ q = false) := Rgt.no fun h => hcl h.lc
    have hne : ((C.length : Int) != q) = true := by simp [hcl]
    have hnp : ((P.length : Int) != q) = false := by simp [hpl]
    clear hcl hpl
    rw [HD.out]
    go_enter Try.func43, Try.ntmps43
    go_wp2_with fail
    go_ret
    exact ⟨rfl, below_alloc _ _⟩
  have HRG : Hid (rgtB ⟨nb, P, C, na⟩ q = (rightB ⟨nb, P, C⟩ && decide (∀ i, i < C.length → nth C i ≤ 256))) := by
    show _ = _
    unfold rgtB
    rw [decide_eq_true (show 0 ≤ na ∧ na ≤ 1099511627776 ∧ nb ≤ 1099511627776 ∧ (P.length : Int) = q ∧ (C.length : Int) = q from ⟨by omega, by omega, by omega, hpl, hcl⟩), Bool.true_and]; rfl
  have hnp : ((P.length : Int) != q) = false := by simp [hpl]
  have hnc : ((C.length : Int) != q) = false := by simp [hcl]
  have HL : Hid (C.length * 8 ≤ 140737488355328) := by show _ ≤ _; omega
  clear hpl hcl hq
  go_enter Try.func43, Try.ntmps43
  go_wp2_with fail
  rw [← HW0.out]
  refine (step_walk (t := ⟨nb, P, C⟩) HP.out HC.out HC.out HL.out HL.out HB.out).mono ?_
  rintro e w1 ⟨p', c', rfl, hop, hoc, hB1⟩
  obtain ⟨_, pa1, pc1, rfl, _⟩ := own_nl hop
  obtain ⟨_, ca1, cc1, rfl, _⟩ := own_nl hoc
  clear hop hoc
  have HW1 : Hid (Below w0.heap.size w0 w1) := hB1
  have HS1 : Hid (stepI ⟨nb, P, C⟩ C = 70 ↔ rightB ⟨nb, P, C⟩ = false) := HS.out
  generalize stepT ⟨nb, P, C⟩ C = T1
  obtain ⟨si, hsi⟩ : ∃ si, si = stepI ⟨nb, P, C⟩ C := ⟨_, rfl⟩
  rw [← hsi] at HS1 ⊢
  obtain ⟨w2, hw2⟩ : ∃ w2, w2 = w1.alloc (Obj.cells #[.int .i64 T1.b, .slice pa1 T1.p.length pc1, .slice ca1 T1.c.length cc1] 39) := ⟨_, rfl⟩
  have HW2 : Hid (w2 = w1.alloc (Obj.cells #[.int .i64 T1.b, .slice pa1 T1.p.length pc1, .slice ca1 T1.c.length cc1] 39)) := hw2
  have HB2 : Hid (Below w0.heap.size w0 w2) := by show Below _ _ _; rw [hw2]; exact below_trans HW1.out (below_alloc _ _)
  have z2 : w1.cell? ⟨w.heap.size, 2, none⟩ = some (.slice co C.length cc) := by rw [hB1.cell (p := ⟨w.heap.size, 2, none⟩) HZ.out]; exact k2
  have y2 : w2.cell? ⟨w.heap.size, 2, none⟩ = some (.slice co C.length cc) := by rw [HB2.out.cell (p := ⟨w.heap.size, 2, none⟩) HZ.out]; exact k2
  have hz1 : w.heap.size < w1.heap.size := Nat.lt_of_lt_of_le HZ.out hB1.size
  have hz2 : ¬ w.heap.size = w1.heap.size := by omega
  clear hsi hw2 hB1
  by_cases h70 : si = 70
  · have hb70 : (si == 70) = true := by simp [h70]
    have HD : Hid (rgtB ⟨nb, P, C, na⟩ q = false) := by show _ = _; rw [HRG.out, HS1.out.1 h70]; rfl
    clear h70
    go_wp2_with fail
    go_ret
    exact ⟨by rw [HD.out]; rfl, below_trans HB0.out (below_trans HW1.out (by apply below_alloc))⟩
  · have hb70 : (si == 70) = false := by simp [h70]
    have HD : Hid (rgtB ⟨nb, P, C, na⟩ q = !(!decide (∀ i, i < C.length → nth C i ≤ 256))) := by
      show _ = _
      rw [HRG.out, Bool.not_not]
      cases hr : rightB ⟨nb, P, C⟩
      · exact absurd (HS1.out.2 hr) h70
      · exact Bool.true_and _
    clear h70
    go_wp2_with fail
    rw [← HW2.out]
    refine (cfun_walk (HC.out.below HB2.out)).mono ?_
    rintro e w3 ⟨rfl, hB3⟩
    go_wp2_with fail
    go_ret
    exact ⟨by rw [HD.out, Bool.not_not]; rfl, below_trans HB0.out (below_trans HB2.out hB3)⟩


set_option maxRecDepth 100000 in
set_option maxHeartbeats 2000000 in
theorem jfol_walk (hp : Nv w pv n.p) (hc : Nv w cv n.c) (hhp : Nv w hpv h.p) (hhc : Nv w hcv h.c) (hb : h.b < 9223372036854775807) (hb0 : 0 ≤ h.b) :
    Calls Try.prog 44 #[.agg #[.int .i64 n.b, pv, cv, .int .i64 n.a], .agg #[.int .i64 h.b, hpv, hcv, .int .i64 h.a]] w fun e w' => e = .returned (.bool (folB n h)) ∧ Below w.heap.size w w' := by
  obtain ⟨nb, P, C, na⟩ := n
  obtain ⟨mb, R, D, ma⟩ := h
  simp only at hp hc hhp hhc hb hb0 ⊢
  obtain ⟨w0, hw0⟩ : ∃ w0, w0 = (w.alloc (Obj.cells #[.int .i64 nb, pv, cv, .int .i64 na] 41)).alloc (Obj.cells #[.int .i64 mb, hpv, hcv, .int .i64 ma] 41) := ⟨_, rfl⟩
  have HW0 : Hid (w0 = (w.alloc (Obj.cells #[.int .i64 nb, pv, cv, .int .i64 na] 41)).alloc (Obj.cells #[.int .i64 mb, hpv, hcv, .int .i64 ma] 41)) := hw0
  have HB0 : Hid (Below w.heap.size w w0) := by show Below _ _ _; rw [hw0]; exact below_trans (below_alloc _ _) (below_alloc _ _)
  have HP : Hid (Nv w0 pv P) := hp.below HB0.out
  have HC : Hid (Nv w0 cv C) := hc.below HB0.out
  have HR : Hid (Nv w0 hpv R) := hhp.below HB0.out
  have HDD : Hid (Nv w0 hcv D) := hhc.below HB0.out
  have HZ : Hid (w.heap.size + 1 < w0.heap.size) := by show _ < _; rw [hw0]; simp
  have k0 : w0.cell? ⟨w.heap.size, 0, none⟩ = some (.int .i64 nb) := by rw [hw0]; simp [go_sem]
  have k1 : w0.cell? ⟨w.heap.size, 1, none⟩ = some pv := by rw [hw0]; simp [go_sem]
  have k2 : w0.cell? ⟨w.heap.size, 2, none⟩ = some cv := by rw [hw0]; simp [go_sem]
  have k3 : w0.cell? ⟨w.heap.size, 3, none⟩ = some (.int .i64 na) := by rw [hw0]; simp [go_sem]
  have m0 : w0.cell? ⟨w.heap.size + 1, 0, none⟩ = some (.int .i64 mb) := by rw [hw0]; simp [go_sem]
  have m1 : w0.cell? ⟨w.heap.size + 1, 1, none⟩ = some hpv := by rw [hw0]; simp [go_sem]
  have m2 : w0.cell? ⟨w.heap.size + 1, 2, none⟩ = some hcv := by rw [hw0]; simp [go_sem]
  have m3 : w0.cell? ⟨w.heap.size + 1, 3, none⟩ = some (.int .i64 ma) := by rw [hw0]; simp [go_sem]
  have HK : Hid (∀ w1, Below w0.heap.size w0 w1 → w1.cell? ⟨w.heap.size, 2, none⟩ = some cv ∧ w1.cell? ⟨w.heap.size + 1, 2, none⟩ = some hcv) := fun w1 hB => ⟨by rw [hB.cell (p := ⟨w.heap.size, 2, none⟩) (by have := HZ.out; show w.heap.size < _; omega)]; exact k2, by rw [hB.cell (p := ⟨w.heap.size + 1, 2, none⟩) HZ.out]; exact m2⟩
  clear hp hc hhp hhc hw0
  by_cases ha : na < ma
  · have HD : Hid (folB ⟨nb, P, C, na⟩ ⟨mb, R, D, ma⟩ = false) := by show _ = _; unfold folB; rw [decide_eq_false (by simp only; omega)]; rfl
    rw [HD.out]
    go_enter Try.func44, Try.ntmps44
    go_wp2_with fail
    go_ret
    exact ⟨rfl, by rw [← HW0.out]; exact HB0.out⟩
  · have HF : Hid (folB ⟨nb, P, C, na⟩ ⟨mb, R, D, ma⟩ = (if nb = mb then decide (P = R) && decide (C = D) else decide (nb = mb + 1) && decide (P = D))) := by show _ = _; unfold folB; rw [decide_eq_true (by simp only; omega), Bool.true_and]
    by_cases hbb : nb = mb
    · have hbt : (nb == mb) = true := by simp [hbb]
      have HG : Hid (folB ⟨nb, P, C, na⟩ ⟨mb, R, D, ma⟩ = (decide (P = R) && decide (C = D))) := by show _ = _; rw [HF.out, if_pos hbb]
      clear hbb
      by_cases hPR : P = R
      · have HX : Hid (decide (P = R) = true) := decide_eq_true hPR
        clear hPR
        go_enter Try.func44, Try.ntmps44
        go_wp2_with fail
        rw [← HW0.out]
        refine (iequal_walk HP.out HR.out).mono ?_
        rw [HX.out]
        rintro e w1 ⟨rfl, hB1⟩
        obtain ⟨y2, z2⟩ := HK.out w1 hB1
        go_wp2_with fail
        refine (iequal_walk (HC.out.below hB1) (HDD.out.below hB1)).mono ?_
        rintro e w2 ⟨rfl, hB2⟩
        go_wp2_with fail
        go_ret
        exact ⟨by rw [HG.out, HX.out, Bool.true_and]; rfl, below_trans HB0.out (below_trans hB1 hB2)⟩
      · have HX : Hid (decide (P = R) = false) := decide_eq_false hPR
        clear hPR
        go_enter Try.func44, Try.ntmps44
        go_wp2_with fail
        rw [← HW0.out]
        refine (iequal_walk HP.out HR.out).mono ?_
        rw [HX.out]
        rintro e w1 ⟨rfl, hB1⟩
        go_wp2_with fail
        go_ret
        exact ⟨by rw [HG.out, HX.out]; rfl, below_trans HB0.out hB1⟩
    · have hbt : (nb == mb) = false := by simp [hbb]
      have HG : Hid (folB ⟨nb, P, C, na⟩ ⟨mb, R, D, ma⟩ = (decide (nb = mb + 1) && decide (P = D))) := by show _ = _; rw [HF.out, if_neg hbb]
      clear hbb
      have r1 : IntKind.i64.wrap (mb + 1) = mb + 1 := wrapU (by omega) (by omega)
      by_cases hn1 : nb = mb + 1
      · have hnt : (nb == mb + 1) = true := by simp [hn1]
        have HX : Hid (decide (nb = mb + 1) = true) := decide_eq_true hn1
        clear hn1
        go_enter Try.func44, Try.ntmps44
        go_wp2_with fail
        rw [← HW0.out]
        refine (iequal_walk HP.out HDD.out).mono ?_
        rintro e w1 ⟨rfl, hB1⟩
        go_wp2_with fail
        go_ret
        exact ⟨by rw [HG.out, HX.out, Bool.true_and]; rfl, below_trans HB0.out hB1⟩
      · have hnt : (nb == mb + 1) = false := by simp [hn1]
        have HX : Hid (decide (nb = mb + 1) = false) := decide_eq_false hn1
        clear hn1
        go_enter Try.func44, Try.ntmps44
        go_wp2_with fail
        go_ret
        exact ⟨by rw [HG.out, HX.out]; rfl, by rw [← HW0.out]; exact HB0.out⟩
end

end Go.Proofs.Ytnnammlipfappaa


