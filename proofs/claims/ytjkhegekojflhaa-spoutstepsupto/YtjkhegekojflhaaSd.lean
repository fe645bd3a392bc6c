/- SpoutTriples, walked. -/
import Derived.Test.YtjkhegekojflhaaNi
namespace Go.Proofs.Ytjkhegekojflhaa
open Ieee Go.RowKit

theorem triple_box {w w0 : World} {b : Int} {pv cv : Value} (h : w0 = w.alloc (Obj.cells #[.int .i64 b, pv, cv] 46)) :
    ∀ wx, Below w0.heap.size w0 wx → wx.cell? ⟨w.heap.size, 0, none⟩ = some (.int .i64 b) ∧ wx.cell? ⟨w.heap.size, 1, none⟩ = some pv ∧ wx.cell? ⟨w.heap.size, 2, none⟩ = some cv := fun wx hb => by
  have hz : w.heap.size < w0.heap.size := by rw [h]; simp
  refine ⟨?_, ?_, ?_⟩ <;> (rw [hb.cell (p := ⟨w.heap.size, _, none⟩) hz, h]; simp [go_sem])

set_option maxRecDepth 100000 in
set_option maxHeartbeats 1000000 in
theorem triples_walk {p1 c1 p2 c2 : Value} {t : Tp} {w : World} (h1 : Nv w p1 t.p) (h2 : Nv w c1 t.c) (h3 : Nv w p2 t.p) (h4 : Nv w c2 t.c) :
    Calls Try.prog 23 #[.agg #[.int .i64 t.b, p1, c1], .agg #[.int .i64 t.b, p2, c2]] w fun e w' => e = .returned (.bool true) ∧ Below w.heap.size w w' := by
  obtain ⟨tb, P, C⟩ := t
  simp only at h1 h2 h3 h4 ⊢
  obtain ⟨w0, hw0⟩ : ∃ w0, w0 = (w.alloc (Obj.cells #[.int .i64 tb, p1, c1] 46)).alloc (Obj.cells #[.int .i64 tb, p2, c2] 46) := ⟨_, rfl⟩
  have HB0 : Hid (Below w.heap.size w w0) := by show Below _ _ _; rw [hw0]; exact below_trans (below_alloc _ _) (below_alloc _ _)
  have H1 : Hid (Nv w0 p1 P) := h1.below HB0.out
  have H2 : Hid (Nv w0 c1 C) := h2.below HB0.out
  have H3 : Hid (Nv w0 p2 P) := h3.below HB0.out
  have H4 : Hid (Nv w0 c2 C) := h4.below HB0.out
  obtain ⟨a1, b1, rfl, _⟩ := h1.form
  obtain ⟨a2, b2, rfl, _⟩ := h2.form
  obtain ⟨a3, b3, rfl, _⟩ := h3.form
  obtain ⟨a4, b4, rfl, _⟩ := h4.form
  have HW0 : Hid (w0 = (w.alloc (Obj.cells #[.int .i64 tb, .slice a1 P.length b1, .slice a2 C.length b2] 46)).alloc (Obj.cells #[.int .i64 tb, .slice a3 P.length b3, .slice a4 C.length b4] 46)) := hw0
  have k1 : w0.cell? ⟨w.heap.size, 2, none⟩ = some (.slice a2 C.length b2) := by rw [hw0]; simp [go_sem]
  have k2 : w0.cell? ⟨w.heap.size + 1, 2, none⟩ = some (.slice a4 C.length b4) := by rw [hw0]; simp [go_sem]
  have hq : (tb == tb) = true := by simp
  clear h1 h2 h3 h4 hw0
  go_enter Try.func23, Try.ntmps23
  go_wp2_with fail
  rw [← HW0.out]
  refine (ints_walk H1.out H3.out).mono ?_
  rw [decide_eq_true rfl]
  rintro e w1 ⟨rfl, hB⟩
  have HB1 : Hid (Below w0.heap.size w0 w1) := hB
  have y1 : w1.cell? ⟨w.heap.size, 2, none⟩ = some (.slice a2 C.length b2) := by rw [hB.cell (p := ⟨w.heap.size, 2, none⟩) (cell_lt k1)]; exact k1
  have y2 : w1.cell? ⟨w.heap.size + 1, 2, none⟩ = some (.slice a4 C.length b4) := by rw [hB.cell (p := ⟨w.heap.size + 1, 2, none⟩) (cell_lt k2)]; exact k2
  clear hB k1 k2
  go_wp2_with fail
  refine (ints_walk (H2.out.below HB1.out) (H4.out.below HB1.out)).mono ?_
  rw [decide_eq_true rfl]
  rintro e w2 ⟨rfl, hB⟩
  go_wp2_with fail
  go_ret
  exact ⟨rfl, below_trans (below_trans HB0.out HB1.out) hB⟩

theorem step_in64 {t : Tp} {tl : List Int} (hc : In64 t.c) (ht : In64 tl) : In64 (stepT t tl).p ∧ In64 (stepT t tl).c := by
  unfold stepT
  split
  · exact ⟨hc, ht⟩
  · exact ⟨fun x hx => by simp at hx, fun x hx => by simp at hx⟩
theorem at_in64 {t : Tp} (hp : In64 t.p) (hc : In64 t.c) (n : Int) : In64 (atL t n) := by
  unfold atL
  split
  · exact hc
  · split
    · exact hp
    · exact fun x hx => by simp at hx

set_option maxRecDepth 100000 in
set_option maxHeartbeats 1000000 in
theorem spouttriples_walk {pv cv tv : Value} {t : Tp} {tl : List Int} {n : Int} {w : World} (hp : Nv w pv t.p) (hc : Nv w cv t.c) (ht : Nv w tv tl) (hb : -9223372036854775808 ≤ t.b ∧ t.b < 9223372036854775808)
    (hpl : t.p.length * 8 ≤ 140737488355328) (hcl : t.c.length * 8 ≤ 140737488355328) (htl : tl.length * 8 ≤ 140737488355328) :
    Calls Try.prog 5 #[.agg #[.int .i64 t.b, pv, cv], tv, .int .i64 n] w fun e w' => e = .returned (.bool true) ∧ Below w.heap.size w w' := by
  obtain ⟨w0, hw0⟩ : ∃ w0, w0 = w.alloc (Obj.cells #[.int .i64 t.b, pv, cv] 46) := ⟨_, rfl⟩
  have HB0 : Hid (Below w.heap.size w w0) := by show Below _ _ _; rw [hw0]; exact below_alloc _ _
  have HP : Hid (Nv w0 pv t.p) := hp.below HB0.out
  have HC : Hid (Nv w0 cv t.c) := hc.below HB0.out
  have HT : Hid (Nv w0 tv tl) := ht.below HB0.out
  obtain ⟨po, pc, rfl, _⟩ := hp.form
  obtain ⟨co, cc, rfl, _⟩ := hc.form
  obtain ⟨tq, tc, rfl, _⟩ := ht.form
  have HKH : Hid (∀ wx, Below w0.heap.size w0 wx → wx.cell? ⟨w.heap.size, 0, none⟩ = some (.int .i64 t.b) ∧ wx.cell? ⟨w.heap.size, 1, none⟩ = some (.slice po t.p.length pc) ∧ wx.cell? ⟨w.heap.size, 2, none⟩ = some (.slice co t.c.length cc)) := triple_box hw0
  have HW0 : Hid (w0 = w.alloc (Obj.cells #[.int .i64 t.b, .slice po t.p.length pc, .slice co t.c.length cc] 46)) := hw0
  have HPL : Hid (t.p.length * 8 ≤ 140737488355328) := hpl
  have HCL : Hid (t.c.length * 8 ≤ 140737488355328) := hcl
  have HTL : Hid (tl.length * 8 ≤ 140737488355328) := htl
  have HBD : Hid (-9223372036854775808 ≤ t.b ∧ t.b < 9223372036854775808) := hb
  clear hp hc ht hw0 hpl hcl htl
  go_enter Try.func5, Try.ntmps5
  go_wp2_with fail
  rw [← HW0.out]
  refine (awake_walk w0).mono ?_
  rintro e w1 ⟨rfl, hB⟩
  have HB1 : Hid (Below w0.heap.size w0 w1) := hB
  clear hB
  obtain ⟨y0, y1, y2⟩ := HKH.out w1 HB1.out
  go_wp2_with fail
  refine (step_walk (HP.out.below HB1.out) (HC.out.below HB1.out) (HT.out.below HB1.out) HCL.out HTL.out HBD.out).mono ?_
  rintro e w2 ⟨p1, c1, rfl, hp1, hc1, hB2⟩
  obtain ⟨p1o, p1c, hpv, _⟩ := row_form hp1
  subst hpv
  obtain ⟨c1o, c1c, hcv, _⟩ := row_form hc1
  subst hcv
  have HB2 : Hid (Below w0.heap.size w0 w2) := below_trans HB1.out hB2
  clear y0 y1 y2
  obtain ⟨y0, y1, y2⟩ := HKH.out w2 HB2.out
  have hl2 : w.heap.size < w2.heap.size := cell_lt y0
  have hn1 : ¬ w2.heap.size = w.heap.size := by omega
  have hn2 : ¬ w.heap.size = w2.heap.size := by omega
  have HP1 : Hid (Nv w2 (.slice p1o (stepT t tl).p.length p1c) (stepT t tl).p) := own_nv hp1 (step_in64 HC.out.in64 HT.out.in64).1
  have HC1 : Hid (Nv w2 (.slice c1o (stepT t tl).c.length c1c) (stepT t tl).c) := own_nv hc1 (step_in64 HC.out.in64 HT.out.in64).2
  clear hp1 hc1 hB2
  go_wp2_with fail
  obtain ⟨w3, hw3⟩ : ∃ w3, w3 = w2.alloc (Obj.cells #[.int .i64 (stepT t tl).b, .slice p1o (stepT t tl).p.length p1c, .slice c1o (stepT t tl).c.length c1c] 46) := ⟨_, rfl⟩
  rw [← hw3]
  have HB23 : Hid (Below w2.heap.size w2 w3) := by show Below _ _ _; rw [hw3]; exact below_alloc _ _
  have HB3 : Hid (Below w0.heap.size w0 w3) := below_trans HB2.out HB23.out
  have HKA : Hid (∀ wx, Below w3.heap.size w3 wx → wx.cell? ⟨w2.heap.size, 0, none⟩ = some (.int .i64 (stepT t tl).b) ∧ wx.cell? ⟨w2.heap.size, 1, none⟩ = some (.slice p1o (stepT t tl).p.length p1c) ∧ wx.cell? ⟨w2.heap.size, 2, none⟩ = some (.slice c1o (stepT t tl).c.length c1c)) := triple_box hw3
  clear y0 y1 y2 hl2 hn1 hn2 hw3
  refine (rstepT_walk (HP.out.below HB3.out) (HC.out.below HB3.out) (HT.out.below HB3.out) HCL.out HTL.out HBD.out).mono ?_
  rintro e w4 ⟨p2, c2, rfl, hp2, hc2, hB4⟩
  obtain ⟨p2o, p2c, hpv, _⟩ := row_form hp2
  subst hpv
  obtain ⟨c2o, c2c, hcv, _⟩ := row_form hc2
  subst hcv
  have HB34 : Hid (Below w3.heap.size w3 w4) := hB4
  have HB4 : Hid (Below w0.heap.size w0 w4) := below_trans HB3.out hB4
  have HP2 : Hid (Nv w4 (.slice p2o (stepT t tl).p.length p2c) (stepT t tl).p) := own_nv hp2 (step_in64 HC.out.in64 HT.out.in64).1
  have HC2 : Hid (Nv w4 (.slice c2o (stepT t tl).c.length c2c) (stepT t tl).c) := own_nv hc2 (step_in64 HC.out.in64 HT.out.in64).2
  obtain ⟨y0, y1, y2⟩ := HKA.out w4 HB34.out
  have hl2 : w2.heap.size < w4.heap.size := cell_lt y0
  have hn1 : ¬ w4.heap.size = w2.heap.size := by omega
  have hn2 : ¬ w2.heap.size = w4.heap.size := by omega
  obtain ⟨I, hI⟩ : ∃ I, I = stepI t tl := ⟨_, rfl⟩
  rw [← hI]
  have hIq : (I != I) = false := by simp
  clear hp2 hc2 hB4 hI
  go_wp2_with fail
  refine (triples_walk (t := stepT t tl) (HP1.out.below (below_trans (below_trans HB23.out HB34.out) (below_alloc _ _))) (HC1.out.below (below_trans (below_trans HB23.out HB34.out) (below_alloc _ _))) (HP2.out.below (below_alloc _ _)) (HC2.out.below (below_alloc _ _))).mono ?_
  rintro e w5 ⟨rfl, hB5⟩
  have HB5 : Hid (Below w0.heap.size w0 w5) := below_trans (below_trans HB4.out (below_alloc _ _)) hB5
  clear hB5 y0 y1 y2 hl2 hn1 hn2
  obtain ⟨hb0, hb1⟩ := hb
  go_wp2_with fail
  go_loopw [11] (fun iv wr => ∃ k : Nat, k ≤ 3 ∧ iv = .int .i64 ((k : Int) - 1) ∧ Below w0.heap.size w0 wr) (fun iv _ => (2 - intOf iv).toNat)
  case atStart => exact ⟨0, by omega, rfl, HB5.out⟩
  case round =>
    clear HB5
    obtain ⟨k, hk, rfl, hB⟩ := hrel
    have HW : Hid (Below w0.heap.size w0 wr) := hB
    clear hB
    obtain ⟨y0, y1, y2⟩ := HKH.out wr HW.out
    obtain ⟨kk, hkk⟩ : ∃ kk : Int, kk = (k : Int) - 1 := ⟨_, rfl⟩
    have HKK : Hid (kk = (k : Int) - 1) := hkk
    have hk0 : -1 ≤ kk := by omega
    have hk2 : kk ≤ 2 := by omega
    rw [← hkk]
    clear hkk
    by_cases hlt : kk < 2
    · by_cases hge : 0 ≤ kk
      · by_cases h62 : -4611686018427387904 < t.b
        · have r1 : IntKind.i64.wrap (t.b - kk) = t.b - kk := by rw [IntKind.wrap_i64]; omega
          go_wp2_with fail
          refine (at_walk (t := t) (HP.out.below HW.out) (HC.out.below HW.out) HPL.out HCL.out HBD.out (t.b - kk)).mono ?_
          rintro e w6 ⟨v6, rfl, hv6, hB6⟩
          have HB6 : Hid (Below w0.heap.size w0 w6) := below_trans HW.out hB6
          have HV6 : Hid (Nv w6 v6 (atL t (t.b - kk))) := own_nv hv6 (at_in64 HP.out.in64 HC.out.in64 _)
          obtain ⟨B, hBq⟩ : ∃ B, B = atB t (t.b - kk) := ⟨_, rfl⟩
          rw [← hBq]
          have HBQ : Hid (B = atB t (t.b - kk)) := hBq
          have hBB : (B != B) = false := by simp
          clear hv6 hB6 hBq y0 y1 y2
          obtain ⟨y0, y1, y2⟩ := HKH.out w6 HB6.out
          go_wp2_with fail
          refine (rat_walk (t := t) (HP.out.below HB6.out) (HC.out.below HB6.out) HPL.out HCL.out HBD.out (t.b - kk)).mono ?_
          rintro e w7 ⟨v7, rfl, hv7, hB7⟩
          rw [← HBQ.out]
          have HB7 : Hid (Below w6.heap.size w6 w7) := hB7
          have HV7 : Hid (Nv w7 v7 (atL t (t.b - kk))) := own_nv hv7 (at_in64 HP.out.in64 HC.out.in64 _)
          clear hv7 hB7
          go_wp2_with fail
          refine (ints_walk (HV6.out.below HB7.out) HV7.out).mono ?_
          rw [decide_eq_true rfl]
          rintro e w8 ⟨rfl, hB8⟩
          have HB8 : Hid (Below w0.heap.size w0 w8) := below_trans (below_trans HB6.out HB7.out) hB8
          clear hB8
          go_wp2_with fail
          go_roundw
          case rel => exact ⟨k + 1, by have := HKK.out; omega, by rw [HKK.out]; go_num, HB8.out⟩
          case measure => simp [intOf]; omega
        · go_wp2_with fail
          refine (at_walk (t := t) (HP.out.below HW.out) (HC.out.below HW.out) HPL.out HCL.out HBD.out (n)).mono ?_
          rintro e w6 ⟨v6, rfl, hv6, hB6⟩
          have HB6 : Hid (Below w0.heap.size w0 w6) := below_trans HW.out hB6
          have HV6 : Hid (Nv w6 v6 (atL t (n))) := own_nv hv6 (at_in64 HP.out.in64 HC.out.in64 _)
          obtain ⟨B, hBq⟩ : ∃ B, B = atB t (n) := ⟨_, rfl⟩
          rw [← hBq]
          have HBQ : Hid (B = atB t (n)) := hBq
          have hBB : (B != B) = false := by simp
          clear hv6 hB6 hBq y0 y1 y2
          obtain ⟨y0, y1, y2⟩ := HKH.out w6 HB6.out
          go_wp2_with fail
          refine (rat_walk (t := t) (HP.out.below HB6.out) (HC.out.below HB6.out) HPL.out HCL.out HBD.out (n)).mono ?_
          rintro e w7 ⟨v7, rfl, hv7, hB7⟩
          rw [← HBQ.out]
          have HB7 : Hid (Below w6.heap.size w6 w7) := hB7
          have HV7 : Hid (Nv w7 v7 (atL t (n))) := own_nv hv7 (at_in64 HP.out.in64 HC.out.in64 _)
          clear hv7 hB7
          go_wp2_with fail
          refine (ints_walk (HV6.out.below HB7.out) HV7.out).mono ?_
          rw [decide_eq_true rfl]
          rintro e w8 ⟨rfl, hB8⟩
          have HB8 : Hid (Below w0.heap.size w0 w8) := below_trans (below_trans HB6.out HB7.out) hB8
          clear hB8
          go_wp2_with fail
          go_roundw
          case rel => exact ⟨k + 1, by have := HKK.out; omega, by rw [HKK.out]; go_num, HB8.out⟩
          case measure => simp [intOf]; omega
      · go_wp2_with fail
        refine (at_walk (t := t) (HP.out.below HW.out) (HC.out.below HW.out) HPL.out HCL.out HBD.out (n)).mono ?_
        rintro e w6 ⟨v6, rfl, hv6, hB6⟩
        have HB6 : Hid (Below w0.heap.size w0 w6) := below_trans HW.out hB6
        have HV6 : Hid (Nv w6 v6 (atL t (n))) := own_nv hv6 (at_in64 HP.out.in64 HC.out.in64 _)
        obtain ⟨B, hBq⟩ : ∃ B, B = atB t (n) := ⟨_, rfl⟩
        rw [← hBq]
        have HBQ : Hid (B = atB t (n)) := hBq
        have hBB : (B != B) = false := by simp
        clear hv6 hB6 hBq y0 y1 y2
        obtain ⟨y0, y1, y2⟩ := HKH.out w6 HB6.out
        go_wp2_with fail
        refine (rat_walk (t := t) (HP.out.below HB6.out) (HC.out.below HB6.out) HPL.out HCL.out HBD.out (n)).mono ?_
        rintro e w7 ⟨v7, rfl, hv7, hB7⟩
        rw [← HBQ.out]
        have HB7 : Hid (Below w6.heap.size w6 w7) := hB7
        have HV7 : Hid (Nv w7 v7 (atL t (n))) := own_nv hv7 (at_in64 HP.out.in64 HC.out.in64 _)
        clear hv7 hB7
        go_wp2_with fail
        refine (ints_walk (HV6.out.below HB7.out) HV7.out).mono ?_
        rw [decide_eq_true rfl]
        rintro e w8 ⟨rfl, hB8⟩
        have HB8 : Hid (Below w0.heap.size w0 w8) := below_trans (below_trans HB6.out HB7.out) hB8
        clear hB8
        go_wp2_with fail
        go_roundw
        case rel => exact ⟨k + 1, by have := HKK.out; omega, by rw [HKK.out]; go_num, HB8.out⟩
        case measure => simp [intOf]; omega
    · have hnl : ¬ kk < 2 := hlt
      go_wp2_with fail
      go_ret
      exact ⟨rfl, below_trans HB0.out HW.out⟩

end Go.Proofs.Ytjkhegekojflhaa
