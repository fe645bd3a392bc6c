/- SpoutWhole: batches formed one behind the other, while partitions go off and come on, are in the end each partition's log, and a batch whose ends are known is the same records for ever.
-/
import Derived.Test.YtjkhegekojflhaaSb
import Derived.Test.YtjkhegekojflhaaNi
import Derived.Test.YtjkhegekojflhaaNz
import Derived.SizedLaws
namespace Go.Proofs.Ytjkhegekojflhaa
open Ieee Go.RowKit

theorem againR_ok {S : Sc} (hok : S.ok) (a b : List Int) : ∀ r ∈ againR S a b, r.ok := by
  unfold againR
  split
  · exact betS_ok hok _ _ _
  · simp
theorem againR_len {S : Sc} (hok : S.ok) (a b : List Int) : (againR S a b).length ≤ 1048576 := by
  unfold againR
  split
  · rename_i h
    have := betS_le hok a b a.length
    have := (again_of h).1.1
    have := hok.np4
    omega
  · simp

set_option maxRecDepth 100000 in
set_option maxHeartbeats 1000000 in
theorem spoutagain_walk {rv av ov fv gv : Value} {F : Fl} {a b : List Int} {w : World} (hr : Rv w rv F.recs) (ha : Nv w av F.places) (ho : Nv w ov F.off) (hf : Nv w fv a) (hg : Nv w gv b) :
    Calls Try.prog 4 #[.agg #[.int .i64 F.n, rv, av, ov], fv, gv] w fun e w' => e = .returned (.bool true) ∧ Below w.heap.size w w' := by
  obtain ⟨w0, hw0⟩ : ∃ w0, w0 = w.alloc (Obj.cells #[.int .i64 F.n, rv, av, ov] 25) := ⟨_, rfl⟩
  have HB0 : Hid (Below w.heap.size w w0) := by show Below _ _ _; rw [hw0]; exact below_alloc _ _
  have HR : Hid (Rv w0 rv F.recs) := hr.below HB0.out
  have HA : Hid (Nv w0 av F.places) := ha.below HB0.out
  have HO : Hid (Nv w0 ov F.off) := ho.below HB0.out
  have HF : Hid (Nv w0 fv a) := hf.below HB0.out
  have HG : Hid (Nv w0 gv b) := hg.below HB0.out
  obtain ⟨⟨ro, rc, rfl, _⟩, _⟩ := hr
  obtain ⟨ao, ac, rfl, _⟩ := ha.form
  obtain ⟨oo, oc, rfl, _⟩ := ho.form
  obtain ⟨fo, fc, rfl, _⟩ := hf.form
  obtain ⟨go, gc, rfl, _⟩ := hg.form
  have HKH : Hid (∀ wx, Below w0.heap.size w0 wx → wx.cell? ⟨w.heap.size, 0, none⟩ = some (.int .i64 F.n) ∧ wx.cell? ⟨w.heap.size, 1, none⟩ = some (.slice ro F.recs.length rc) ∧ wx.cell? ⟨w.heap.size, 2, none⟩ = some (.slice ao F.places.length ac) ∧ wx.cell? ⟨w.heap.size, 3, none⟩ = some (.slice oo F.off.length oc)) := full_box hw0
  have HW0 : Hid (w0 = w.alloc (Obj.cells #[.int .i64 F.n, .slice ro F.recs.length rc, .slice ao F.places.length ac, .slice oo F.off.length oc] 25)) := hw0
  obtain ⟨d, hd⟩ : ∃ d, d = fwdB a b := ⟨_, rfl⟩
  have HD : Hid (d = fwdB a b) := hd
  have hdd : (d != d) = false := by simp
  clear ha ho hf hg hw0 hd
  go_enter Try.func4, Try.ntmps4
  go_wp2_with fail
  rw [← HW0.out]
  refine (awake_walk w0).mono ?_
  rintro e w1 ⟨rfl, hB⟩
  have HB1 : Hid (Below w0.heap.size w0 w1) := hB
  clear hB
  go_wp2_with fail
  refine (fwd_walk (HF.out.below HB1.out) (HG.out.below HB1.out)).mono ?_
  rw [← HD.out]
  rintro e w2 ⟨rfl, hB⟩
  have HB2 : Hid (Below w0.heap.size w0 w2) := below_trans HB1.out hB
  clear hB
  go_wp2_with fail
  refine (rfwd_walk (HF.out.below HB2.out) (HG.out.below HB2.out)).mono ?_
  rw [← HD.out]
  rintro e w3 ⟨rfl, hB⟩
  have HB3 : Hid (Below w0.heap.size w0 w3) := below_trans HB2.out hB
  clear hB
  obtain ⟨y0, y1, y2, y3⟩ := HKH.out w3 HB3.out
  go_wp2_with (first
    | (go_at_call 17; refine (again_nil _ _ w3).mono ?_; rintro e w9 ⟨rfl, h9⟩; have h9 := h9.symm; subst h9)
    | (go_at_call 18; refine (left_nil _ w3).mono ?_; rintro e w9 ⟨rfl, h9⟩; have h9 := h9.symm; subst h9))
  by_cases hn : F.n < 1 ∨ 4 < F.n
  · refine (filled_none hn ⟨_, _, _, rfl⟩ ⟨_, _, _, rfl⟩ ⟨_, _, _, rfl⟩).mono ?_
    rintro e w4 ⟨rfl, hB4⟩
    go_wp2_with fail
    go_ret
    exact ⟨rfl, below_trans (below_trans HB0.out HB3.out) hB4⟩
  · refine (filled_walk (F := F) (by omega) (by omega) (HR.out.below HB3.out) (HA.out.below HB3.out) (HO.out.below HB3.out)).mono ?_
    rintro e w4 ⟨sv, tv, rfl, hF⟩
    have HB4 : Hid (Below w0.heap.size w0 w4) := below_trans HB3.out hF.world
    obtain ⟨Ds, hS, _⟩ := hF.src
    obtain ⟨Dt, hT⟩ := hF.rs
    obtain ⟨sb, tb, rfl, rfl⟩ := hF.form
    obtain ⟨S, hSe⟩ : ∃ S, S = filS F := ⟨_, rfl⟩
    rw [← hSe] at hS hT
    have HS : Hid (Src Ds w4 (.pointer (some ⟨sb, 0, none⟩)) S) := hS
    have HT : Hid (Rs Dt w4 (.pointer (some ⟨tb, 0, none⟩)) S) := hT
    have HOK : Hid S.ok := hS.good
    obtain ⟨c, hc⟩ : ∃ c, c = againI S a b := ⟨_, rfl⟩
    have HC : Hid (c = againI S a b) := hc
    have hcc : (c != c) = false := by simp
    clear hF hS hT hSe y0 y1 y2 y3 hn hc
    go_wp2_with fail
    refine (again_walk HS.out (HF.out.below HB4.out) (HG.out.below HB4.out)).mono ?_
    rw [← HC.out]
    rintro e w5 ⟨r1, rfl, hr1, hB5⟩
    have HB5 : Hid (Below w4.heap.size w4 w5) := hB5
    obtain ⟨p1, q1, hv1, hl1⟩ := own_recs hr1 (againR_ok HOK.out a b)
    subst hv1
    have HR1 : Hid (Rl w5 p1 (againR S a b)) := hl1
    clear hr1 hB5 hl1
    go_wp2_with fail
    refine (ragain_walk (HT.out.below HB5.out) (HF.out.below (below_trans HB4.out HB5.out)) (HG.out.below (below_trans HB4.out HB5.out))).mono ?_
    rw [← HC.out]
    rintro e w6 ⟨r2, rfl, hr2, hB6⟩
    have HB6 : Hid (Below w5.heap.size w5 w6) := hB6
    obtain ⟨p2, q2, hv2, hl2⟩ := own_recs hr2 (againR_ok HOK.out a b)
    subst hv2
    have HR2 : Hid (Rl w6 p2 (againR S a b)) := hl2
    clear hr2 hB6 hl2
    go_wp2_with fail
    refine (lrecs_walk (againR_len HOK.out a b) (HR1.out.below HB6.out) HR2.out).mono ?_
    rintro e w7 ⟨rfl, hB7⟩
    have HB7 : Hid (Below w6.heap.size w6 w7) := hB7
    have HB47 : Hid (Below w4.heap.size w4 w7) := below_trans (below_trans HB5.out HB6.out) HB7.out
    obtain ⟨n, hnn⟩ : ∃ n, n = leftN S a := ⟨_, rfl⟩
    have HN : Hid (n = leftN S a) := hnn
    have hnq : (n == n) = true := by simp
    obtain ⟨i, hi⟩ : ∃ i, i = leftI S a := ⟨_, rfl⟩
    have HI : Hid (i = leftI S a) := hi
    have hiq : (i == i) = true := by simp
    clear hB7 hnn hi
    go_wp2_with fail
    refine (left_walk (HS.out.below HB47.out) (HF.out.below (below_trans HB4.out HB47.out))).mono ?_
    rw [← HN.out, ← HI.out]
    rintro e w8 ⟨rfl, hB8⟩
    have HB48 : Hid (Below w4.heap.size w4 w8) := below_trans HB47.out hB8
    clear hB8
    go_wp2_with fail
    refine (rleft_walk (HT.out.below HB48.out) (HF.out.below (below_trans HB4.out HB48.out))).mono ?_
    rw [← HN.out, ← HI.out]
    rintro e w9 ⟨rfl, hB9⟩
    have HB49 : Hid (Below w4.heap.size w4 w9) := below_trans HB48.out hB9
    clear hB9
    go_wp2_with fail
    go_ret
    exact ⟨rfl, below_trans (below_trans HB0.out HB4.out) HB49.out⟩

end Go.Proofs.Ytjkhegekojflhaa

namespace Go.Proofs.Ytjkhegekojflhaa
open Ieee Go.RowKit

theorem triple_box {w w0 : World} {b : Int} {pv cv : Value} (h : w0 = w.alloc (Obj.cells #[.int .i64 b, pv, cv] 46)) :
    ∀ wx, Below w0.heap.size w0 wx → wx.cell? ⟨w.heap.size, 0, none⟩ = some (.int .i64 b) ∧ wx.cell? ⟨w.heap.size, 1, none⟩ = some pv ∧ wx.cell? ⟨w.heap.size, 2, none⟩ = some cv := fun wx hb => by
  have hz : w.heap.size < w0.heap.size := by rw [h]; simp
  refine ⟨?_, ?_, ?_⟩ <;> (rw [hb.cell (p := ⟨w.heap.size, _, none⟩) hz, h]; simp [go_sem])

set_option maxRecDepth 100000 in
set_option maxHeartbeats 1000000 in
theorem triples_walk {p1 c1 p2 c2 : Value} {t : Tp} {w : World} (h1 : Nv w p1 t.p) (h2 : Nv w c1 t.c) (h3 : Nv w p2 t.p) (h4 : Nv w c2 t.c) :
    Calls Try.prog 23 #[.agg #[.int .i64 t.b, p1, c1], .agg #[.int .i64 t.b, p2, c2]] w fun e w' => e = .returned (.bool true) ∧ Below w.heap.size w w' := by
  obtain ⟨tb, P, C⟩ := t
  simp only at h1 h2 h3 h4 ⊢
  obtain ⟨w0, hw0⟩ : ∃ w0, w0 = (w.alloc (Obj.cells #[.int .i64 tb, p1, c1] 46)).alloc (Obj.cells #[.int .i64 tb, p2, c2] 46) := ⟨_, rfl⟩
  have HB0 : Hid (Below w.heap.size w w0) := by show Below _ _ _; rw [hw0]; exact below_trans (below_alloc _ _) (below_alloc _ _)
  have H1 : Hid (Nv w0 p1 P) := h1.below HB0.out
  have H2 : Hid (Nv w0 c1 C) := h2.below HB0.out
  have H3 : Hid (Nv w0 p2 P) := h3.below HB0.out
  have H4 : Hid (Nv w0 c2 C) := h4.below HB0.out
  obtain ⟨a1, b1, rfl, _⟩ := h1.form
  obtain ⟨a2, b2, rfl, _⟩ := h2.form
  obtain ⟨a3, b3, rfl, _⟩ := h3.form
  obtain ⟨a4, b4, rfl, _⟩ := h4.form
  have HW0 : Hid (w0 = (w.alloc (Obj.cells #[.int .i64 tb, .slice a1 P.length b1, .slice a2 C.length b2] 46)).alloc (Obj.cells #[.int .i64 tb, .slice a3 P.length b3, .slice a4 C.length b4] 46)) := hw0
  have k1 : w0.cell? ⟨w.heap.size, 2, none⟩ = some (.slice a2 C.length b2) := by rw [hw0]; simp [go_sem]
  have k2 : w0.cell? ⟨w.heap.size + 1, 2, none⟩ = some (.slice a4 C.length b4) := by rw [hw0]; simp [go_sem]
  have hq : (tb == tb) = true := by simp
  clear h1 h2 h3 h4 hw0
  go_enter Try.func23, Try.ntmps23
  go_wp2_with fail
  rw [← HW0.out]
  refine (ints_walk H1.out H3.out).mono ?_
  rw [decide_eq_true rfl]
  rintro e w1 ⟨rfl, hB⟩
  have HB1 : Hid (Below w0.heap.size w0 w1) := hB
  have y1 : w1.cell? ⟨w.heap.size, 2, none⟩ = some (.slice a2 C.length b2) := by rw [hB.cell (p := ⟨w.heap.size, 2, none⟩) (cell_lt k1)]; exact k1
  have y2 : w1.cell? ⟨w.heap.size + 1, 2, none⟩ = some (.slice a4 C.length b4) := by rw [hB.cell (p := ⟨w.heap.size + 1, 2, none⟩) (cell_lt k2)]; exact k2
  clear hB k1 k2
  go_wp2_with fail
  refine (ints_walk (H2.out.below HB1.out) (H4.out.below HB1.out)).mono ?_
  rw [decide_eq_true rfl]
  rintro e w2 ⟨rfl, hB⟩
  go_wp2_with fail
  go_ret
  exact ⟨rfl, below_trans (below_trans HB0.out HB1.out) hB⟩

theorem step_in64 {t : Tp} {tl : List Int} (hc : In64 t.c) (ht : In64 tl) : In64 (stepT t tl).p ∧ In64 (stepT t tl).c := by
  unfold stepT
  split
  · exact ⟨hc, ht⟩
  · exact ⟨fun x hx => by simp at hx, fun x hx => by simp at hx⟩
theorem at_in64 {t : Tp} (hp : In64 t.p) (hc : In64 t.c) (n : Int) : In64 (atL t n) := by
  unfold atL
  split
  · exact hc
  · split
    · exact hp
    · exact fun x hx => by simp at hx

set_option maxRecDepth 100000 in
set_option maxHeartbeats 1000000 in
theorem spouttriples_walk {pv cv tv : Value} {t : Tp} {tl : List Int} {n : Int} {w : World} (hp : Nv w pv t.p) (hc : Nv w cv t.c) (ht : Nv w tv tl) (hb : -9223372036854775808 ≤ t.b ∧ t.b < 9223372036854775808)
    (hpl : t.p.length * 8 ≤ 140737488355328) (hcl : t.c.length * 8 ≤ 140737488355328) (htl : tl.length * 8 ≤ 140737488355328) :
    Calls Try.prog 5 #[.agg #[.int .i64 t.b, pv, cv], tv, .int .i64 n] w fun e w' => e = .returned (.bool true) ∧ Below w.heap.size w w' := by
  obtain ⟨w0, hw0⟩ : ∃ w0, w0 = w.alloc (Obj.cells #[.int .i64 t.b, pv, cv] 46) := ⟨_, rfl⟩
  have HB0 : Hid (Below w.heap.size w w0) := by show Below _ _ _; rw [hw0]; exact below_alloc _ _
  have HP : Hid (Nv w0 pv t.p) := hp.below HB0.out
  have HC : Hid (Nv w0 cv t.c) := hc.below HB0.out
  have HT : Hid (Nv w0 tv tl) := ht.below HB0.out
  obtain ⟨po, pc, rfl, _⟩ := hp.form
  obtain ⟨co, cc, rfl, _⟩ := hc.form
  obtain ⟨tq, tc, rfl, _⟩ := ht.form
  have HKH : Hid (∀ wx, Below w0.heap.size w0 wx → wx.cell? ⟨w.heap.size, 0, none⟩ = some (.int .i64 t.b) ∧ wx.cell? ⟨w.heap.size, 1, none⟩ = some (.slice po t.p.length pc) ∧ wx.cell? ⟨w.heap.size, 2, none⟩ = some (.slice co t.c.length cc)) := triple_box hw0
  have HW0 : Hid (w0 = w.alloc (Obj.cells #[.int .i64 t.b, .slice po t.p.length pc, .slice co t.c.length cc] 46)) := hw0
  have HPL : Hid (t.p.length * 8 ≤ 140737488355328) := hpl
  have HCL : Hid (t.c.length * 8 ≤ 140737488355328) := hcl
  have HTL : Hid (tl.length * 8 ≤ 140737488355328) := htl
  have HBD : Hid (-9223372036854775808 ≤ t.b ∧ t.b < 9223372036854775808) := hb
  clear hp hc ht hw0 hpl hcl htl
  go_enter Try.func5, Try.ntmps5
  go_wp2_with fail
  rw [← HW0.out]
  refine (awake_walk w0).mono ?_
  rintro e w1 ⟨rfl, hB⟩
  have HB1 : Hid (Below w0.heap.size w0 w1) := hB
  clear hB
  obtain ⟨y0, y1, y2⟩ := HKH.out w1 HB1.out
  go_wp2_with fail
  refine (step_walk (HP.out.below HB1.out) (HC.out.below HB1.out) (HT.out.below HB1.out) HCL.out HTL.out HBD.out).mono ?_
  rintro e w2 ⟨p1, c1, rfl, hp1, hc1, hB2⟩
  obtain ⟨p1o, p1c, hpv, _⟩ := row_form hp1
  subst hpv
  obtain ⟨c1o, c1c, hcv, _⟩ := row_form hc1
  subst hcv
  have HB2 : Hid (Below w0.heap.size w0 w2) := below_trans HB1.out hB2
  clear y0 y1 y2
  obtain ⟨y0, y1, y2⟩ := HKH.out w2 HB2.out
  have hl2 : w.heap.size < w2.heap.size := cell_lt y0
  have hn1 : ¬ w2.heap.size = w.heap.size := by omega
  have hn2 : ¬ w.heap.size = w2.heap.size := by omega
  have HP1 : Hid (Nv w2 (.slice p1o (stepT t tl).p.length p1c) (stepT t tl).p) := own_nv hp1 (step_in64 HC.out.in64 HT.out.in64).1
  have HC1 : Hid (Nv w2 (.slice c1o (stepT t tl).c.length c1c) (stepT t tl).c) := own_nv hc1 (step_in64 HC.out.in64 HT.out.in64).2
  clear hp1 hc1 hB2
  go_wp2_with fail
  obtain ⟨w3, hw3⟩ : ∃ w3, w3 = w2.alloc (Obj.cells #[.int .i64 (stepT t tl).b, .slice p1o (stepT t tl).p.length p1c, .slice c1o (stepT t tl).c.length c1c] 46) := ⟨_, rfl⟩
  rw [← hw3]
  have HB23 : Hid (Below w2.heap.size w2 w3) := by show Below _ _ _; rw [hw3]; exact below_alloc _ _
  have HB3 : Hid (Below w0.heap.size w0 w3) := below_trans HB2.out HB23.out
  have HKA : Hid (∀ wx, Below w3.heap.size w3 wx → wx.cell? ⟨w2.heap.size, 0, none⟩ = some (.int .i64 (stepT t tl).b) ∧ wx.cell? ⟨w2.heap.size, 1, none⟩ = some (.slice p1o (stepT t tl).p.length p1c) ∧ wx.cell? ⟨w2.heap.size, 2, none⟩ = some (.slice c1o (stepT t tl).c.length c1c)) := triple_box hw3
  clear y0 y1 y2 hl2 hn1 hn2 hw3
  refine (rstepT_walk (HP.out.below HB3.out) (HC.out.below HB3.out) (HT.out.below HB3.out) HCL.out HTL.out HBD.out).mono ?_
  rintro e w4 ⟨p2, c2, rfl, hp2, hc2, hB4⟩
  obtain ⟨p2o, p2c, hpv, _⟩ := row_form hp2
  subst hpv
  obtain ⟨c2o, c2c, hcv, _⟩ := row_form hc2
  subst hcv
  have HB34 : Hid (Below w3.heap.size w3 w4) := hB4
  have HB4 : Hid (Below w0.heap.size w0 w4) := below_trans HB3.out hB4
  have HP2 : Hid (Nv w4 (.slice p2o (stepT t tl).p.length p2c) (stepT t tl).p) := own_nv hp2 (step_in64 HC.out.in64 HT.out.in64).1
  have HC2 : Hid (Nv w4 (.slice c2o (stepT t tl).c.length c2c) (stepT t tl).c) := own_nv hc2 (step_in64 HC.out.in64 HT.out.in64).2
  obtain ⟨y0, y1, y2⟩ := HKA.out w4 HB34.out
  have hl2 : w2.heap.size < w4.heap.size := cell_lt y0
  have hn1 : ¬ w4.heap.size = w2.heap.size := by omega
  have hn2 : ¬ w2.heap.size = w4.heap.size := by omega
  obtain ⟨I, hI⟩ : ∃ I, I = stepI t tl := ⟨_, rfl⟩
  rw [← hI]
  have hIq : (I != I) = false := by simp
  clear hp2 hc2 hB4 hI
  go_wp2_with fail
  refine (triples_walk (t := stepT t tl) (HP1.out.below (below_trans (below_trans HB23.out HB34.out) (below_alloc _ _))) (HC1.out.below (below_trans (below_trans HB23.out HB34.out) (below_alloc _ _))) (HP2.out.below (below_alloc _ _)) (HC2.out.below (below_alloc _ _))).mono ?_
  rintro e w5 ⟨rfl, hB5⟩
  have HB5 : Hid (Below w0.heap.size w0 w5) := below_trans (below_trans HB4.out (below_alloc _ _)) hB5
  clear hB5 y0 y1 y2 hl2 hn1 hn2
  obtain ⟨hb0, hb1⟩ := hb
  go_wp2_with fail
  go_loopw [11] (fun iv wr => ∃ k : Nat, k ≤ 3 ∧ iv = .int .i64 ((k : Int) - 1) ∧ Below w0.heap.size w0 wr) (fun iv _ => (2 - intOf iv).toNat)
  case atStart => exact ⟨0, by omega, rfl, HB5.out⟩
  case round =>
    clear HB5
    obtain ⟨k, hk, rfl, hB⟩ := hrel
    have HW : Hid (Below w0.heap.size w0 wr) := hB
    clear hB
    obtain ⟨y0, y1, y2⟩ := HKH.out wr HW.out
    obtain ⟨kk, hkk⟩ : ∃ kk : Int, kk = (k : Int) - 1 := ⟨_, rfl⟩
    have HKK : Hid (kk = (k : Int) - 1) := hkk
    have hk0 : -1 ≤ kk := by omega
    have hk2 : kk ≤ 2 := by omega
    rw [← hkk]
    clear hkk
    by_cases hlt : kk < 2
    · by_cases hge : 0 ≤ kk
      · by_cases h62 : -4611686018427387904 < t.b
        · have r1 : IntKind.i64.wrap (t.b - kk) = t.b - kk := by rw [IntKind.wrap_i64]; omega
          go_wp2_with fail
          refine (at_walk (t := t) (HP.out.below HW.out) (HC.out.below HW.out) HPL.out HCL.out HBD.out (t.b - kk)).mono ?_
          rintro e w6 ⟨v6, rfl, hv6, hB6⟩
          have HB6 : Hid (Below w0.heap.size w0 w6) := below_trans HW.out hB6
          have HV6 : Hid (Nv w6 v6 (atL t (t.b - kk))) := own_nv hv6 (at_in64 HP.out.in64 HC.out.in64 _)
          obtain ⟨B, hBq⟩ : ∃ B, B = atB t (t.b - kk) := ⟨_, rfl⟩
          rw [← hBq]
          have HBQ : Hid (B = atB t (t.b - kk)) := hBq
          have hBB : (B != B) = false := by simp
          clear hv6 hB6 hBq y0 y1 y2
          obtain ⟨y0, y1, y2⟩ := HKH.out w6 HB6.out
          go_wp2_with fail
          refine (rat_walk (t := t) (HP.out.below HB6.out) (HC.out.below HB6.out) HPL.out HCL.out HBD.out (t.b - kk)).mono ?_
          rintro e w7 ⟨v7, rfl, hv7, hB7⟩
          rw [← HBQ.out]
          have HB7 : Hid (Below w6.heap.size w6 w7) := hB7
          have HV7 : Hid (Nv w7 v7 (atL t (t.b - kk))) := own_nv hv7 (at_in64 HP.out.in64 HC.out.in64 _)
          clear hv7 hB7
          go_wp2_with fail
          refine (ints_walk (HV6.out.below HB7.out) HV7.out).mono ?_
          rw [decide_eq_true rfl]
          rintro e w8 ⟨rfl, hB8⟩
          have HB8 : Hid (Below w0.heap.size w0 w8) := below_trans (below_trans HB6.out HB7.out) hB8
          clear hB8
          go_wp2_with fail
          go_roundw
          case rel => exact ⟨k + 1, by have := HKK.out; omega, by rw [HKK.out]; go_num, HB8.out⟩
          case measure => simp [intOf]; omega
        · go_wp2_with fail
          refine (at_walk (t := t) (HP.out.below HW.out) (HC.out.below HW.out) HPL.out HCL.out HBD.out (n)).mono ?_
          rintro e w6 ⟨v6, rfl, hv6, hB6⟩
          have HB6 : Hid (Below w0.heap.size w0 w6) := below_trans HW.out hB6
          have HV6 : Hid (Nv w6 v6 (atL t (n))) := own_nv hv6 (at_in64 HP.out.in64 HC.out.in64 _)
          obtain ⟨B, hBq⟩ : ∃ B, B = atB t (n) := ⟨_, rfl⟩
          rw [← hBq]
          have HBQ : Hid (B = atB t (n)) := hBq
          have hBB : (B != B) = false := by simp
          clear hv6 hB6 hBq y0 y1 y2
          obtain ⟨y0, y1, y2⟩ := HKH.out w6 HB6.out
          go_wp2_with fail
          refine (rat_walk (t := t) (HP.out.below HB6.out) (HC.out.below HB6.out) HPL.out HCL.out HBD.out (n)).mono ?_
          rintro e w7 ⟨v7, rfl, hv7, hB7⟩
          rw [← HBQ.out]
          have HB7 : Hid (Below w6.heap.size w6 w7) := hB7
          have HV7 : Hid (Nv w7 v7 (atL t (n))) := own_nv hv7 (at_in64 HP.out.in64 HC.out.in64 _)
          clear hv7 hB7
          go_wp2_with fail
          refine (ints_walk (HV6.out.below HB7.out) HV7.out).mono ?_
          rw [decide_eq_true rfl]
          rintro e w8 ⟨rfl, hB8⟩
          have HB8 : Hid (Below w0.heap.size w0 w8) := below_trans (below_trans HB6.out HB7.out) hB8
          clear hB8
          go_wp2_with fail
          go_roundw
          case rel => exact ⟨k + 1, by have := HKK.out; omega, by rw [HKK.out]; go_num, HB8.out⟩
          case measure => simp [intOf]; omega
      · go_wp2_with fail
        refine (at_walk (t := t) (HP.out.below HW.out) (HC.out.below HW.out) HPL.out HCL.out HBD.out (n)).mono ?_
        rintro e w6 ⟨v6, rfl, hv6, hB6⟩
        have HB6 : Hid (Below w0.heap.size w0 w6) := below_trans HW.out hB6
        have HV6 : Hid (Nv w6 v6 (atL t (n))) := own_nv hv6 (at_in64 HP.out.in64 HC.out.in64 _)
        obtain ⟨B, hBq⟩ : ∃ B, B = atB t (n) := ⟨_, rfl⟩
        rw [← hBq]
        have HBQ : Hid (B = atB t (n)) := hBq
        have hBB : (B != B) = false := by simp
        clear hv6 hB6 hBq y0 y1 y2
        obtain ⟨y0, y1, y2⟩ := HKH.out w6 HB6.out
        go_wp2_with fail
        refine (rat_walk (t := t) (HP.out.below HB6.out) (HC.out.below HB6.out) HPL.out HCL.out HBD.out (n)).mono ?_
        rintro e w7 ⟨v7, rfl, hv7, hB7⟩
        rw [← HBQ.out]
        have HB7 : Hid (Below w6.heap.size w6 w7) := hB7
        have HV7 : Hid (Nv w7 v7 (atL t (n))) := own_nv hv7 (at_in64 HP.out.in64 HC.out.in64 _)
        clear hv7 hB7
        go_wp2_with fail
        refine (ints_walk (HV6.out.below HB7.out) HV7.out).mono ?_
        rw [decide_eq_true rfl]
        rintro e w8 ⟨rfl, hB8⟩
        have HB8 : Hid (Below w0.heap.size w0 w8) := below_trans (below_trans HB6.out HB7.out) hB8
        clear hB8
        go_wp2_with fail
        go_roundw
        case rel => exact ⟨k + 1, by have := HKK.out; omega, by rw [HKK.out]; go_num, HB8.out⟩
        case measure => simp [intOf]; omega
    · have hnl : ¬ kk < 2 := hlt
      go_wp2_with fail
      go_ret
      exact ⟨rfl, below_trans HB0.out HW.out⟩

end Go.Proofs.Ytjkhegekojflhaa

namespace Go.Proofs.Ytjkhegekojflhaa
open Ieee Go.RowKit

def lth (L : List (List Int)) (i : Nat) : List Int := L.getD i []
/-- The value v is a slice of slices of ints that holds L. -/
def Lv (w : World) (v : Value) (L : List (List Int)) : Prop :=
  ∃ ao cap, v = .slice ao L.length cap ∧ cap ≤ maxLen ∧ L.length ≤ cap ∧ ∀ i, i < L.length → ∃ b off u, ao = some ⟨b, off, none⟩ ∧ w.cell? ⟨b, off + i, none⟩ = some u ∧ Nv w u (lth L i)

/-- A slice of ints whose cells are none of block T's. -/
def Nx (T : Nat) (w : World) (v : Value) (l : List Int) : Prop := Nv w v l ∧ ∀ b off n c, v = .slice (some ⟨b, off, none⟩) n c → 0 < l.length → b ≠ T
theorem Nx.keep {T : Nat} {w w' : World} {v : Value} {l : List Int} (h : Nx T w v l) (hk : ∀ x, x < w.heap.size → x ≠ T → w'.heap[x]? = w.heap[x]?) : Nx T w' v l := by
  obtain ⟨⟨⟨ao, cap, e, h1, h2, h3, h4⟩, h5⟩, h6⟩ := h
  refine ⟨⟨⟨ao, cap, e, h1, h2, h3, fun i hi => ?_⟩, h5⟩, h6⟩
  obtain ⟨b, off, e2, c⟩ := h4 i hi
  subst e2
  have hb : w'.heap[b]? = w.heap[b]? := hk b (cell_lt c) (h6 b off _ _ e (by omega))
  exact ⟨b, off, rfl, by rw [World.cell?_of_block (w := w) (a := ⟨b, off + i, none⟩) hb]; exact c⟩
theorem Nx.below {T : Nat} {w w' : World} {v : Value} {l : List Int} (h : Nx T w v l) (hb : Below w.heap.size w w') : Nx T w' v l := h.keep (fun x hx _ => hb.block x hx)
theorem nx_old {T : Nat} {w w' : World} {v : Value} {l : List Int} (h : Nv w v l) (hb : Below w.heap.size w w') (hT : w.heap.size ≤ T) : Nx T w' v l := by
  refine ⟨h.below hb, fun b off n c e hl hT' => ?_⟩
  subst e
  obtain ⟨b', off', e2, c2⟩ := h.at hl
  cases e2
  have := cell_lt c2
  simp only at this
  omega
theorem nx_own {T : Nat} {w : World} {base e n : Nat} {v : Value} {l : List Int} (h : w.ownsRow base e 1 v n (cellsN l)) (hl : In64 l) (hT : T < base) : Nx T w v l := by
  refine ⟨own_nv h hl, fun b off n' c e' _ hb => ?_⟩
  subst e'
  have := (h.lt b rfl).1
  omega

structure Lq (w : World) (T : Nat) (t : Tp) (pv cv lv nv : Value) (wr : World) : Prop where
  box : wr.heap[T]? = some (.cells #[.int .i64 t.b, pv, cv] 46 (0, 0))
  p : Nx T wr pv t.p
  c : Nx T wr cv t.c
  last : Nx T wr lv t.p
  now : Nx T wr nv t.c
  right : rightT t
  small : t.c.length ≤ 4
  base : w.heap.size ≤ T
  below : Below w.heap.size w wr
theorem Lq.go {w wr w' : World} {T : Nat} {t : Tp} {pv cv lv nv : Value} (h : Lq w T t pv cv lv nv wr) (hb : Below wr.heap.size wr w') : Lq w T t pv cv lv nv w' :=
  ⟨by rw [hb.block T (Array.getElem?_eq_some_iff.1 h.box).1]; exact h.box, h.p.below hb, h.c.below hb, h.last.below hb, h.now.below hb, h.right, h.small, h.base, below_trans h.below hb⟩
theorem Lq.cells {w wr : World} {T : Nat} {t : Tp} {pv cv lv nv : Value} (h : Lq w T t pv cv lv nv wr) : (wr.cell? ⟨T, 0, none⟩ = some (.int .i64 t.b) ∧ wr.cell? ⟨T, 1, none⟩ = some pv ∧ wr.cell? ⟨T, 2, none⟩ = some cv) ∧ ∀ j, wr.frozen? ⟨T, j, none⟩ = false := by
  refine ⟨⟨?_, ?_, ?_⟩, fun j => by simp [World.frozen?, h.box]⟩ <;> (rw [cell_of_row wr T _ _ _ (0, 0) h.box]; rfl)
theorem box_cells {wr : World} {T : Nat} {b : Int} {pv cv : Value} (h : wr.heap[T]? = some (.cells #[.int .i64 b, pv, cv] 46 (0, 0))) : wr.cell? ⟨T, 0, none⟩ = some (.int .i64 b) ∧ wr.cell? ⟨T, 1, none⟩ = some pv ∧ wr.cell? ⟨T, 2, none⟩ = some cv := by
  refine ⟨?_, ?_, ?_⟩ <;> (rw [cell_of_row wr T _ _ _ (0, 0) h]; rfl)

theorem right_step {t : Tp} {l : List Int} (h : rightT t) (hf : Fwd t.c l) : rightT ⟨t.b + 1, t.c, l⟩ := by
  refine ⟨by have := h.1; simp only; omega, hf, fun i hi => ⟨?_, fun e => ?_⟩⟩
  · simp only at hi ⊢
    have h1 : i < t.c.length := by have := hf.1; omega
    have := (h.2.2 i h1).1
    have h3 := h.2.1.2 i (by have := h.2.1.1; omega)
    omega
  · have := h.1
    simp only at e
    omega
/-- The box written anew. -/
theorem box_set {w : World} {T : Nat} {b b' : Int} {pv cv p' c' : Value} (h : w.heap[T]? = some (.cells #[.int .i64 b, pv, cv] 46 (0, 0))) :
    (((w.setCell ⟨T, 0, none⟩ (.int .i64 b')).setCell ⟨T, 1, none⟩ p').setCell ⟨T, 2, none⟩ c').heap[T]? = some (.cells #[.int .i64 b', p', c'] 46 (0, 0)) := by
  simp only [Sort.setCell_eq]
  simp [Sort.mapBlock, Array.getElem?_modify, h, Sort.onCells]
theorem Lq.step {w wr w' : World} {T : Nat} {t : Tp} {l : List Int} {pv cv lv nv p' c' u : Value} (h : Lq w T t pv cv lv nv wr) (hw : w' = ((wr.setCell ⟨T, 0, none⟩ (.int .i64 (t.b + 1))).setCell ⟨T, 1, none⟩ p').setCell ⟨T, 2, none⟩ c')
    (hp : Nx T wr p' t.c) (hc : Nx T wr c' l) (hu : Nx T wr u l) (hf : Fwd t.c l) : Lq w T ⟨t.b + 1, t.c, l⟩ p' c' nv u w' := by
  subst hw
  have hk : ∀ x, x < wr.heap.size → x ≠ T → (((wr.setCell ⟨T, 0, none⟩ (.int .i64 (t.b + 1))).setCell ⟨T, 1, none⟩ p').setCell ⟨T, 2, none⟩ c').heap[x]? = wr.heap[x]? := fun x hx hn => (grown_set3 wr T _ _ _).block x hx (fun e => hn (by simpa using e))
  exact ⟨box_set h.box, hp.keep hk, hc.keep hk, h.now.keep hk, hu.keep hk, right_step h.right hf, by have := hf.1; have := h.small; simp only; omega, h.base, ((h.below.setCell (p := ⟨T, 0, none⟩) h.base _).setCell (p := ⟨T, 1, none⟩) h.base _).setCell (p := ⟨T, 2, none⟩) h.base _⟩

def zeros (q : Nat) : List Int := List.replicate q 0
theorem zeros_len (q : Nat) : (zeros q).length = q := by simp [zeros]
theorem zeros_nth (q i : Nat) : nth (zeros q) i = 0 := by
  unfold nth zeros
  rw [List.getD_eq_getElem?_getD]
  by_cases h : i < q
  · simp [h]
  · simp [h]
theorem zeros_in64 (q : Nat) : In64 (zeros q) := fun x hx => by
  unfold zeros at hx
  obtain ⟨_, rfl⟩ := List.mem_replicate.1 hx
  omega
theorem made_zeros (q : Nat) : (madeCells #[.int .i64 0] (q * 1)) = (cellsN (zeros q)).toArray := by
  apply Array.ext_getElem?
  intro i
  by_cases hi : i < q
  · simp [madeCells, hi, zeros, Nat.mod_one]
  · rw [Array.getElem?_eq_none (by rw [size_madeCells]; omega), Array.getElem?_eq_none (by simp [zeros]; omega)]
theorem own_made (w : World) {q : Nat} (hq : q ≤ 4) {Z : Array Value} (hZ : Z = madeCells #[.int .i64 0] (q * 1)) : (w.alloc (.cells Z 3)).ownsRow w.heap.size 3 1 (.slice (some ⟨w.heap.size, 0, none⟩) q q) q (cellsN (zeros q)) := by
  rw [hZ, made_zeros]
  have := World.ownsRow_lit (base := w.heap.size) (e := 3) (size := 1) w (cellsN (zeros q)).toArray q (Nat.le_refl _) (by simp [maxLen]; omega) (by simp [zeros])
  simpa using this
theorem right_zero (q : Nat) : rightT ⟨0, zeros q, zeros q⟩ := ⟨by simp, ⟨rfl, fun _ _ => Int.le_refl _⟩, fun i _ => ⟨by rw [zeros_nth]; omega, fun _ => zeros_nth q i⟩⟩
theorem make_ints {q : Nat} (hq : q ≤ 4) : ∀ wx : World, (Instr.makeSlice 23 (.int .i64 q) (.int .i64 q)).run Try.prog wx = .ok (.slice (some ⟨wx.heap.size, 0, none⟩) q q) (wx.alloc (.cells (madeCells #[.int .i64 0] (q * 1)) 3)) := fun wx => by
  obtain ⟨i0, hi0, hz0, hz1, hz2⟩ := info_partsV info_int
  have := run_make (P := Try.prog) wx 23 3 i0 (.int .i64 0) Try.underlying23 hi0 hz0 .i64 .i64 q q (by omega) (Int.le_refl _) (by rw [hz2]; omega) (by omega)
  rw [hz1] at this
  simp only [Int.toNat_natCast] at this
  exact this

end Go.Proofs.Ytjkhegekojflhaa

namespace Go.Proofs.Ytjkhegekojflhaa
open Ieee Go.RowKit

/-- The same source, but for what is on. -/
def Sm (S T : Sc) : Prop := T.np = S.np ∧ T.logs = S.logs
theorem Sm.refl (S : Sc) : Sm S S := ⟨rfl, rfl⟩
theorem Sm.switch {S T : Sc} (h : Sm S T) (p : Int) (on : Bool) : Sm S (switchS T p on) := by
  unfold switchS
  split
  · exact h
  · exact h
theorem Sm.len {S T : Sc} (h : Sm S T) (k : Nat) : lenS T k = lenS S k := by
  by_cases hk : k < S.np
  · rw [lenS_at hk, lenS_at (by rw [h.1]; exact hk), h.2]
  · unfold lenS
    rw [if_neg (fun e => hk (by have := e.2; rw [h.1] at this; omega)), if_neg (fun e => hk (by have := e.2; omega))]
theorem Sm.fit {S T : Sc} (h : Sm S T) (l : List Int) : Fit T l ↔ Fit S l := by
  unfold Fit
  rw [h.1]
  constructor
  · rintro ⟨h1, h2⟩; exact ⟨h1, fun i hi => by rw [← h.len i]; exact h2 i hi⟩
  · rintro ⟨h1, h2⟩; exact ⟨h1, fun i hi => by rw [h.len i]; exact h2 i hi⟩
theorem Sm.bet {S T : Sc} (h : Sm S T) (a b : List Int) : ∀ k, betS T a b k = betS S a b k
  | 0 => rfl
  | k + 1 => by simp only [betS]; rw [h.bet a b k, h.2]
theorem Sm.left {S T : Sc} (h : Sm S T) (l : List Int) : ∀ k, leftS T l k = leftS S l k
  | 0 => rfl
  | k + 1 => by simp only [leftS]; rw [h.left l k, h.len k]
theorem switch_on {T : Sc} {p : Nat} (hp : p < T.np) (on : Bool) (i : Nat) : (switchS T p on).on i = if i = p then on else T.on i := by
  unfold switchS
  rw [if_pos ⟨by omega, by omega⟩]
  rfl
theorem up_at {T : Sc} {p : Nat} (hp : p < T.np) : upS T p = T.on p := by unfold upS; rw [if_pos ⟨by omega, by omega⟩]; rfl

def catL (S : Sc) : Nat → List Rcd
  | 0 => []
  | p + 1 => catL S p ++ S.logs p
theorem cat_le {S : Sc} (hok : S.ok) : ∀ k, (catL S k).length ≤ 256 * k
  | 0 => by simp [catL]
  | k + 1 => by have := cat_le hok k; have := hok.len k; simp only [catL, List.length_append]; omega
theorem cat_ok {S : Sc} (hok : S.ok) : ∀ k, ∀ r ∈ catL S k, r.ok
  | 0 => by simp [catL]
  | k + 1 => by
    intro r hr
    simp only [catL, List.mem_append] at hr
    rcases hr with hr | hr
    · exact cat_ok hok k r hr
    · exact hok.rok k r hr
theorem cat_split (S : Sc) : ∀ n p, p ≤ n → ∃ rest, catL S n = catL S p ++ rest
  | 0, p, h => ⟨[], by rw [show p = 0 by omega]; simp⟩
  | n + 1, p, h => by
    by_cases hp : p = n + 1
    · exact ⟨[], by rw [hp]; simp⟩
    · obtain ⟨rest, hr⟩ := cat_split S n p (by omega)
      exact ⟨rest ++ S.logs n, by simp only [catL]; rw [hr, List.append_assoc]⟩
theorem bet_cat {S : Sc} {z e : List Int} (hz : ∀ i, nth z i = 0) : ∀ k, (∀ i, i < k → nth e i = ((S.logs i).length : Int)) → betS S z e k = catL S k
  | 0, _ => rfl
  | k + 1, h => by
    simp only [betS, catL]
    rw [bet_cat hz k (fun i hi => h i (by omega)), hz k, h k (by omega)]
    simp

/-- A slice of ints that is apart from what is of D. -/
def Nd (D : Nat → Prop) (w : World) (v : Value) (l : List Int) : Prop := Nv w v l ∧ ∀ b off n c, v = .slice (some ⟨b, off, none⟩) n c → 0 < l.length → ¬ D b
section
variable {D : Nat → Prop} {w w' : World} {v : Value} {l : List Int}
theorem Nd.ch (h : Nd D w v l) (hc : Ch D w w') : Nd D w' v l := by
  obtain ⟨⟨⟨ao, cap, e, h1, h2, h3, h4⟩, h5⟩, h6⟩ := h
  refine ⟨⟨⟨ao, cap, e, h1, h2, h3, fun i hi => ?_⟩, h5⟩, h6⟩
  obtain ⟨b, off, e2, c⟩ := h4 i hi
  subst e2
  have hb : w'.heap[b]? = w.heap[b]? := hc.block b (cell_lt c) (h6 b off _ _ e (by omega))
  exact ⟨b, off, rfl, by rw [World.cell?_of_block (w := w) (a := ⟨b, off + i, none⟩) hb]; exact c⟩
theorem Nd.below (h : Nd D w v l) (hb : Below w.heap.size w w') : Nd D w' v l := h.ch (Ch.of_below hb)
theorem nd_old {B : Nat} {w0 : World} (h : Nv w0 v l) (hb : Below w0.heap.size w0 w) (hB : w0.heap.size ≤ B) (hD : ∀ x, D x → B ≤ x) : Nd D w v l := by
  refine ⟨h.below hb, fun b off n c e hl hd => ?_⟩
  subst e
  obtain ⟨b', off', e2, c2⟩ := h.at hl
  cases e2
  have h1 := cell_lt c2
  have h2 := hD b hd
  simp only at h1
  omega
theorem nd_own {base e n : Nat} (h : w.ownsRow base e 1 v n (cellsN l)) (hl : In64 l) (hD : ∀ x, D x → x < base) : Nd D w v l := by
  refine ⟨own_nv h hl, fun b off n' c e' _ hd => ?_⟩
  subst e'
  have h1 := (h.lt b rfl).1
  have h2 := hD b hd
  omega
end

theorem fwd_zero {S : Sc} {e : List Int} (h : Fit S e) (q : Nat) (hq : q = e.length) : Fwd (zeros q) e := by
  refine ⟨by rw [zeros_len, hq], fun i hi => ?_⟩
  rw [zeros_nth]
  rw [zeros_len] at hi
  exact (h.2 i (by omega)).1
theorem fit_zero (S : Sc) : Fit S (zeros S.np) := by
  refine ⟨zeros_len _, fun i _ => ?_⟩
  rw [zeros_nth]; omega

/-- A piece in the middle of a slice of records. -/
theorem cut_mid {w : World} {lo : Option Addr} {n lc : Nat} {a l b : List Rcd} (h : Rv w (.slice lo n lc) (a ++ l ++ b)) : Rl w (if lc = a.length then lo else lo.map (·.add (a.length * 2))) l := by
  have h1 := cut_piece (X := a.length) (Y := a.length + l.length) h (by omega) (by simp)
  have h2 : ((a ++ l ++ b).drop a.length).take (a.length + l.length - a.length) = l := by simp
  rw [h2] at h1
  exact own_rl' h1

set_option maxRecDepth 100000 in
set_option maxHeartbeats 1000000 in
theorem logs_walk {D : Nat → Prop} {w : World} {v av : Value} {S : Sc} (h : Src D w v S) (ha : Rv w av (catL S S.np)) :
    Calls Try.prog 30 #[v, av] w fun e w' => e = .returned (.bool true) ∧ Below w.heap.size w w' := by
  have HS : Hid (Src D w v S) := h
  have HA : Hid (Rv w av (catL S S.np)) := ha
  have HK : Hid S.ok := h.good
  have h4 := h.good.np4
  obtain ⟨⟨ao, ac, rfl, hac, hacm, _, _⟩, _⟩ := ha
  obtain ⟨M, hM⟩ : ∃ M, M = (catL S S.np).length := ⟨_, rfl⟩
  have HM : Hid (M = (catL S S.np).length) := hM
  have hM4 : M ≤ 1024 := by rw [hM]; have := cat_le HK.out S.np; omega
  rw [← hM]
  rw [← hM] at hac
  have hv : ∃ sb, v = .pointer (some ⟨sb, 0, none⟩) := by obtain ⟨sb, _, _, _, _, e, _⟩ := h; exact ⟨sb, e⟩
  obtain ⟨sb, rfl⟩ := hv
  clear h hM
  go_enter Try.func30, Try.ntmps30
  go_wp2_with fail
  go_loopw [5, 6] (fun xv pv wr => ∃ p : Nat, p ≤ S.np ∧ pv = .int .i64 p ∧ xv = .int .i64 (catL S p).length ∧ Below w.heap.size w wr) (fun _ pv _ => S.np - (intOf pv).toNat)
  case atStart => exact ⟨0, Nat.zero_le _, rfl, rfl, below_same _⟩
  case round =>
    obtain ⟨p, hp, rfl, rfl, hB⟩ := hrel
    have HW : Hid (Below w.heap.size w wr) := hB
    obtain ⟨X, hX⟩ : ∃ X, X = (catL S p).length := ⟨_, rfl⟩
    have HX : Hid (X = (catL S p).length) := hX
    rw [← hX]
    clear hB hX
    by_cases hlt : p < S.np
    · have hlti : (p : Int) < (S.np : Int) := by omega
      obtain ⟨rest, hrest⟩ := cat_split S S.np (p + 1) hlt
      have HRS : Hid (catL S S.np = catL S p ++ S.logs p ++ rest) := hrest
      obtain ⟨n, hn⟩ : ∃ n, n = (S.logs p).length := ⟨_, rfl⟩
      have HN : Hid (n = (S.logs p).length) := hn
      have hXM : X + n ≤ M := by rw [HM.out, HRS.out, HX.out, hn]; simp
      have HLG : Hid (logS S p = S.logs p) := logS_at hlt
      clear hrest hn
      go_wp2_with (go_at_call 26; refine (parts_walk (HS.out.below HW.out)).mono ?_; rintro e w9 ⟨rfl, h9⟩; have h9 := h9.symm; subst h9)
      refine (log_walk (HS.out.below HW.out) p).mono ?_
      rw [HLG.out]
      rintro e w5 ⟨lr, rfl, hlr, hB5⟩
      obtain ⟨lo, lc, hlv, hll⟩ := own_recs hlr (HK.out.rok p)
      subst hlv
      have HL5 : Hid (Rl w5 lo (S.logs p)) := hll
      have HB5 : Hid (Below w.heap.size w w5) := below_trans HW.out hB5
      rw [← HN.out]
      have hsub : ¬ ((M : Int) - (X : Int) < (n : Int)) := by omega
      have r1 : IntKind.i64.wrap ((M : Int) - (X : Int)) = (M : Int) - (X : Int) := wrapU (by omega) (by omega)
      have r2 : IntKind.i64.wrap ((X : Int) + (n : Int)) = ((X + n : Nat) : Int) := by rw [wrapU (by omega) (by omega)]; simp
      have hXn : ((X : Nat) : Int) ≤ ((X + n : Nat) : Int) := by omega
      have hXc : ((X + n : Nat) : Int) ≤ (ac : Int) := by omega
      have HRA : Hid (Rv w5 (.slice ao M ac) (catL S p ++ S.logs p ++ rest)) := by
        have h := HA.out.below HB5.out
        rw [HRS.out, ← HRS.out, ← HM.out, HRS.out] at h
        exact h
      have HCM : Hid (Rl w5 (if ac = X then ao else ao.map (·.add (X * 2))) (S.logs p)) := by
        have h := cut_mid HRA.out
        rw [← HX.out] at h
        exact h
      have HNB : Hid ((S.logs p).length ≤ 1048576) := by show _ ≤ _; have := HK.out.len p; omega
      have HSX : Hid ((catL S (p + 1)).length = X + n) := by show _ = _; simp only [catL, List.length_append]; rw [HX.out, HN.out]
      clear hlr hB5 hll
      by_cases hcx : ac = X
      · subst hcx
        rw [if_pos rfl] at HCM
        go_wp2_with fail
        rw [HN.out]
        refine (lrecs_walk HNB.out HCM.out HL5.out).mono ?_
        rw [← HN.out]
        rintro e w6 ⟨rfl, hB6⟩
        have HB6 : Hid (Below w.heap.size w w6) := below_trans HB5.out hB6
        clear hB6
        go_wp2_with fail
        go_roundw
        case rel => exact ⟨p + 1, by omega, by go_num, by rw [HSX.out]; simp, HB6.out⟩
        case measure => simp [intOf]; omega
      · rw [if_neg hcx] at HCM
        go_wp2_with fail
        rw [HN.out]
        refine (lrecs_walk HNB.out HCM.out HL5.out).mono ?_
        rw [← HN.out]
        rintro e w6 ⟨rfl, hB6⟩
        have HB6 : Hid (Below w.heap.size w w6) := below_trans HB5.out hB6
        clear hB6
        go_wp2_with fail
        go_roundw
        case rel => exact ⟨p + 1, by omega, by go_num, by rw [HSX.out]; simp, HB6.out⟩
        case measure => simp [intOf]; omega
    · have hlti : ¬ (p : Int) < (S.np : Int) := by omega
      have hXM : X = M := by rw [HX.out, HM.out, show p = S.np by omega]
      have hq : ((X : Int) == (M : Int)) = true := by simp [hXM]
      go_wp2_with (go_at_call 26; refine (parts_walk (HS.out.below HW.out)).mono ?_; rintro e w9 ⟨rfl, h9⟩; have h9 := h9.symm; subst h9)
      go_ret
      exact ⟨rfl, HW.out⟩

end Go.Proofs.Ytjkhegekojflhaa

namespace Go.Proofs.Ytjkhegekojflhaa
open Ieee Go.RowKit

/-- What stands while batches are formed: the source (S but for what is on), the ends e, the beginning, the list off. -/
structure Wl (w0 : World) (D : Nat → Prop) (S : Sc) (v ev zv ov : Value) (e off : List Int) (S1 : Sc) (wr : World) : Prop where
  src : Src D wr v S1
  same : Sm S S1
  ends : Nd D wr ev e
  start : Nd D wr zv (zeros S.np)
  offs : Nd D wr ov off
  fit : Fit S e
  base : ∀ x, D x → w0.heap.size ≤ x
  below : Below w0.heap.size w0 wr
theorem Wl.go {w0 wr w' : World} {D : Nat → Prop} {S S1 : Sc} {v ev zv ov : Value} {e off : List Int} (h : Wl w0 D S v ev zv ov e off S1 wr) (hb : Below wr.heap.size wr w') : Wl w0 D S v ev zv ov e off S1 w' :=
  ⟨h.src.below hb, h.same, h.ends.below hb, h.start.below hb, h.offs.below hb, h.fit, h.base, below_trans h.below hb⟩
theorem Wl.sw {w0 wr w' : World} {D : Nat → Prop} {S S1 : Sc} {v ev zv ov : Value} {e off : List Int} {p : Int} {on : Bool} (h : Wl w0 D S v ev zv ov e off S1 wr) (hs : Src D w' v (switchS S1 p on)) (hc : Ch D wr w') : Wl w0 D S v ev zv ov e off (switchS S1 p on) w' :=
  ⟨hs, h.same.switch p on, h.ends.ch hc, h.start.ch hc, h.offs.ch hc, h.fit, h.base, h.below.trans (hc.to_below h.below.size h.base)⟩

/-- A row of records apart from what is of D. -/
def Rz (D : Nat → Prop) (w : World) (ao : Option Addr) (l : List Rcd) : Prop := Rl w ao l ∧ ∀ a, ao = some a → ¬ D a.block ∧ a.block < w.heap.size
theorem Rz.ch {D : Nat → Prop} {w w' : World} {ao : Option Addr} {l : List Rcd} (h : Rz D w ao l) (hc : Ch D w w') : Rz D w' ao l := by
  refine ⟨fun i hi => ?_, fun a ha => ⟨(h.2 a ha).1, Nat.lt_of_lt_of_le (h.2 a ha).2 hc.size⟩⟩
  obtain ⟨b, off, e, c0, c1⟩ := h.1 i hi
  have hb : w'.heap[b]? = w.heap[b]? := hc.block b (h.2 _ e).2 (h.2 _ e).1
  exact ⟨b, off, e, by rw [World.cell?_of_block (w := w) (a := ⟨b, off + i * 2, none⟩) hb]; exact c0, by rw [World.cell?_of_block (w := w) (a := ⟨b, off + i * 2 + 1, none⟩) hb]; exact c1⟩
theorem Rz.below {D : Nat → Prop} {w w' : World} {ao : Option Addr} {l : List Rcd} (h : Rz D w ao l) (hb : Below w.heap.size w w') : Rz D w' ao l := h.ch (Ch.of_below hb)
theorem rz_new {D : Nat → Prop} {w w' : World} {e n : Nat} {v : Value} {l : List Rcd} (h : w'.ownsRow w.heap.size e 2 v n (flatR l)) (hok : ∀ r ∈ l, r.ok) (hd : ∀ x, D x → x < w.heap.size) : ∃ ao cap, v = .slice ao l.length cap ∧ Rz D w' ao l := by
  have hn : n = l.length := by have := h.1; rw [flatR_len] at this; omega
  subst hn
  obtain ⟨ao, cap, hv, hr⟩ := own_rl h hok
  refine ⟨ao, cap, hv, hr, fun a ha => ?_⟩
  have hx : v.ownBlock = some a.block := by rw [hv, ha]; rfl
  have := h.lt _ hx
  exact ⟨fun hD => by have := hd _ hD; omega, this.2⟩
theorem Sm.cat {S T : Sc} (h : Sm S T) : ∀ k, catL T k = catL S k
  | 0 => rfl
  | k + 1 => by simp only [catL]; rw [h.cat k, h.2]
/-- What a batch whose ends are known is, whatever is on. -/
theorem again_same {S T : Sc} (h : Sm S T) {a b : List Int} (h1 : Fit S a) (h2 : Fit S b) (h3 : Fwd a b) : againI T a b = 0 ∧ againR T a b = betS S a b a.length := by
  have hc : Fit T a ∧ Fit T b ∧ Fwd a b := ⟨(h.fit a).2 h1, (h.fit b).2 h2, h3⟩
  unfold againI againR
  rw [if_pos (again_yes hc), if_pos (again_yes hc), h.bet]
  exact ⟨rfl, rfl⟩
theorem form_same {S T : Sc} (h : Sm S T) {a : List Int} {m : Int} (h1 : Fit S a) (hm : 1 ≤ m) (hm2 : m ≤ 16) : formI T a m = 0 ∧ formL T a m = formT T a m ∧ formR T a m = betS S a (formT T a m) a.length := by
  have hI : formI T a m = 0 := by unfold formI; rw [if_neg (by omega), if_pos ((h.fit a).2 h1).yes]
  unfold formL formR
  rw [hI, if_pos rfl, if_pos rfl, h.bet]
  exact ⟨rfl, rfl, rfl⟩

theorem rem16 (x : Int) : ∃ q : Nat, q ≤ 15 ∧ (IntKind.u64.wrap x).tmod 16 = (q : Int) ∧ (IntKind.u64.wrap x) % 16 = (q : Int) := by
  have h0 : 0 ≤ IntKind.u64.wrap x := by rw [IntKind.wrap_u64]; omega
  refine ⟨((IntKind.u64.wrap x) % 16).toNat, by omega, ?_, by omega⟩
  rw [Int.tmod_eq_emod_of_nonneg h0]; omega

/-- How many records lie behind ends that fit, as a number. -/
def lefN (S : Sc) (e : List Int) : Nat := (leftS S e S.np).toNat
theorem left_mono {S : Sc} {a b : List Int} (hf : Fwd a b) : ∀ k, k ≤ a.length → leftS S b k ≤ leftS S a k
  | 0, _ => Int.le_refl _
  | k + 1, h => by have := left_mono (S := S) hf k (by omega); have := hf.2 k (by omega); simp only [leftS]; omega
theorem left_less {S : Sc} {a b : List Int} (hf : Fwd a b) : ∀ k, k ≤ a.length → (∃ i, i < k ∧ nth a i ≠ nth b i) → leftS S b k < leftS S a k
  | 0, _, ⟨i, hi, _⟩ => by omega
  | k + 1, h, ⟨i, hi, hne⟩ => by
    have h1 := left_mono (S := S) hf k (by omega)
    have h2 := hf.2 k (by omega)
    simp only [leftS]
    by_cases hik : i = k
    · subst hik; omega
    · have := left_less (S := S) hf k (by omega) ⟨i, by omega, hne⟩; omega
theorem ne_at {a b : List Int} (hl : a.length = b.length) (h : a ≠ b) : ∃ i, i < a.length ∧ nth a i ≠ nth b i := by
  apply Classical.byContradiction
  intro hn
  exact h (nth_ext hl fun i hi => Classical.byContradiction fun e => hn ⟨i, hi, e⟩)
theorem left_zero {S : Sc} {e : List Int} : ∀ k, (∀ i, i < k → nth e i = (lenS S i : Int)) → leftS S e k = 0
  | 0, _ => rfl
  | k + 1, h => by have := left_zero (S := S) k (fun i hi => h i (by omega)); have := h k (by omega); simp only [leftS]; omega
/-- Ends from which no batch goes further, with all on, are the logs' ends. -/
theorem full_ends {S : Sc} {e : List Int} {k : Int} (hf : Fit S e) (hk : 1 ≤ k) (hon : ∀ i, i < S.np → S.on i = true) (h : formT S e k = e) : ∀ i, i < S.np → nth e i = (lenS S i : Int) := by
  intro i hi
  have hl : i < e.length := by rw [hf.1]; exact hi
  have h1 := form_nth S e k hl
  rw [h] at h1
  unfold endS at h1
  rw [up_at hi, hon i hi, if_pos rfl] at h1
  have := hf.2 i hl
  omega

end Go.Proofs.Ytjkhegekojflhaa

namespace Go.Proofs.Ytjkhegekojflhaa
open Ieee Go.RowKit

set_option maxRecDepth 100000 in
set_option maxHeartbeats 20000000 in
theorem spoutwhole_walk {rv av ov fv : Value} {F : Fl} {off : List Int} {z : Int} {w : World} (hr : Rv w rv F.recs) (ha : Nv w av F.places) (ho : Nv w ov F.off) (hf : Nv w fv off) (hfl : off.length ≤ 1000000000000000) :
    Calls Try.prog 6 #[.agg #[.int .i64 F.n, rv, av, ov], .int .i64 z, fv] w fun e w' => e = .returned (.bool true) ∧ Below w.heap.size w w' := by
  obtain ⟨w0, hw0⟩ : ∃ w0, w0 = w.alloc (Obj.cells #[.int .i64 F.n, rv, av, ov] 25) := ⟨_, rfl⟩
  have HB0 : Hid (Below w.heap.size w w0) := by show Below _ _ _; rw [hw0]; exact below_alloc _ _
  have HR : Hid (Rv w0 rv F.recs) := hr.below HB0.out
  have HA : Hid (Nv w0 av F.places) := ha.below HB0.out
  have HO : Hid (Nv w0 ov F.off) := ho.below HB0.out
  have HF : Hid (Nv w0 fv off) := hf.below HB0.out
  obtain ⟨⟨ro, rc, rfl, _⟩, _⟩ := hr
  obtain ⟨ao, ac, rfl, _⟩ := ha.form
  obtain ⟨oo, oc, rfl, _⟩ := ho.form
  obtain ⟨fo, fc, rfl, _⟩ := hf.form
  have HKH : Hid (∀ wx, Below w0.heap.size w0 wx → wx.cell? ⟨w.heap.size, 0, none⟩ = some (.int .i64 F.n) ∧ wx.cell? ⟨w.heap.size, 1, none⟩ = some (.slice ro F.recs.length rc) ∧ wx.cell? ⟨w.heap.size, 2, none⟩ = some (.slice ao F.places.length ac) ∧ wx.cell? ⟨w.heap.size, 3, none⟩ = some (.slice oo F.off.length oc)) := full_box hw0
  have HW0 : Hid (w0 = w.alloc (Obj.cells #[.int .i64 F.n, .slice ro F.recs.length rc, .slice ao F.places.length ac, .slice oo F.off.length oc] 25)) := hw0
  clear ha ho hf hw0
  go_enter Try.func6, Try.ntmps6
  go_wp2_with fail
  rw [← HW0.out]
  refine (awake_walk w0).mono ?_
  rintro e w1 ⟨rfl, hB⟩
  have HB1 : Hid (Below w0.heap.size w0 w1) := hB
  clear hB
  obtain ⟨y0, y1, y2, y3⟩ := HKH.out w1 HB1.out
  go_wp2_with fail
  by_cases hn : F.n < 1 ∨ 4 < F.n
  · refine (filled_none hn ⟨_, _, _, rfl⟩ ⟨_, _, _, rfl⟩ ⟨_, _, _, rfl⟩).mono ?_
    rintro e w2 ⟨rfl, hB2⟩
    go_wp2_with fail
    go_ret
    exact ⟨rfl, below_trans (below_trans HB0.out HB1.out) hB2⟩
  · refine (filled_walk (F := F) (by omega) (by omega) (HR.out.below HB1.out) (HA.out.below HB1.out) (HO.out.below HB1.out)).mono ?_
    rintro e w2 ⟨sv, tv, rfl, hF⟩
    have HB2 : Hid (Below w1.heap.size w1 w2) := hF.world
    obtain ⟨D, hS, hD⟩ := hF.src
    obtain ⟨sb, tb, rfl, rfl⟩ := hF.form
    obtain ⟨S, hSe⟩ : ∃ S, S = filS F := ⟨_, rfl⟩
    rw [← hSe] at hS
    have HOK : Hid S.ok := hS.good
    have h4 := hS.good.np4
    have h1 := hS.good.np1
    obtain ⟨n, hnn⟩ : ∃ n, n = S.np := ⟨_, rfl⟩
    have HN : Hid (n = S.np) := hnn
    rw [← hnn] at h4 h1
    obtain ⟨Z, hZ⟩ : ∃ Z, Z = madeCells #[Value.int .i64 0] (n * 1) := ⟨_, rfl⟩
    have hmk := make_ints h4
    rw [← hZ] at hmk
    have HS2 : Hid (Src D w2 (.pointer (some ⟨sb, 0, none⟩)) S) := hS
    obtain ⟨w3, hw3⟩ : ∃ w3, w3 = (w2.alloc (.cells Z 3)).alloc (.cells Z 3) := ⟨_, rfl⟩
    have HW3 : Hid (w3 = (w2.alloc (.cells Z 3)).alloc (.cells Z 3)) := hw3
    have HWL : Hid (Wl w1 D S (.pointer (some ⟨sb, 0, none⟩)) (.slice (some ⟨w2.heap.size, 0, none⟩) n n) (.slice (some ⟨w2.heap.size + 1, 0, none⟩) n n) (.slice fo off.length fc) (zeros n) off S w3) := by
      have hb3 : Below w2.heap.size w2 w3 := by rw [hw3]; exact below_trans (below_alloc _ _) (below_alloc _ _)
      have e0 : Nd D w3 (.slice (some ⟨w2.heap.size, 0, none⟩) n n) (zeros n) := by rw [hw3]; exact (nd_own (own_made w2 h4 hZ) (zeros_in64 n) (fun x hx => hS.lt hx)).below (below_alloc _ _)
      have e1 : Nd D w3 (.slice (some ⟨w2.heap.size + 1, 0, none⟩) n n) (zeros n) := by
        have := nd_own (D := D) (own_made (w2.alloc (.cells Z 3)) h4 hZ) (zeros_in64 n) (fun x hx => Nat.lt_of_lt_of_le (hS.lt hx) (below_alloc _ _).size)
        rw [hw3]
        simpa using this
      exact ⟨hS.below hb3, Sm.refl S, e0, hnn ▸ e1, nd_old (HF.out.below HB1.out) (below_trans HB2.out hb3) (Nat.le_refl _) hD, hnn ▸ fit_zero S, hD, below_trans HB2.out hb3⟩
    obtain ⟨q, hq, rm, rm'⟩ := rem16 z
    have hwq : IntKind.i64.wrap (q : Int) = (q : Int) := wrapU (by omega) (by omega)
    obtain ⟨K, hK⟩ : ∃ K : Int, 1 + (q : Int) = K := ⟨_, rfl⟩
    have r1 : IntKind.i64.wrap (1 + (q : Int)) = K := by rw [wrapU (by omega) (by omega)]; exact hK
    have hK1 : 1 ≤ K := by omega
    have hK16 : K ≤ 16 := by omega
    clear hF hS hD hSe hnn hZ hw3 y0 y1 y2 y3 hn hK
    go_wp2_with (go_at_call 26; refine (parts_walk HS2.out).mono ?_; rw [← HN.out]; rintro e w9 ⟨rfl, h9⟩; have h9 := h9.symm; subst h9)
    rw [← HW3.out]
    clear hmk rm rm' hwq r1 hq
    go_loopw [11, 13] (fun ev rv wr => ∃ (r : Nat) (e : List Int) (S1 : Sc), rv = .int .i64 r ∧ (r : Int) + leftS S e S.np ≤ off.length + 1024 ∧ Wl w1 D S (.pointer (some ⟨sb, 0, none⟩)) ev (.slice (some ⟨w2.heap.size + 1, 0, none⟩) n n) (.slice fo off.length fc) e off S1 wr) (fun _ rv _ => off.length + 1025 - (intOf rv).toNat)
    case atStart => exact ⟨0, zeros n, S, rfl, by have := leftS_le HOK.out HWL.out.fit S.np (by rw [HWL.out.fit.1]; omega); have := HN.out; omega, HWL.out⟩
    case round =>
      clear HWL HS2 HW3
      obtain ⟨r, e, S1, hrv, hrl, hW⟩ := hrel
      subst hrv
      obtain ⟨eo, ec, hee, _⟩ := hW.ends.1.form
      subst hee
      have HEL : Hid (e.length = n) := by show _ = _; rw [HN.out]; exact hW.fit.1
      have HW : Hid (Wl w1 D S (.pointer (some ⟨sb, 0, none⟩)) (.slice eo e.length ec) (.slice (some ⟨w2.heap.size + 1, 0, none⟩) n n) (.slice fo off.length fc) e off S1 wr) := hW
      have HRL : Hid ((r : Int) + leftS S e S.np ≤ off.length + 1024) := hrl
      have hr15 : (r : Int) ≤ 1000000000001024 := by have := leftS_le HOK.out hW.fit S.np (by rw [hW.fit.1]; omega); omega
      clear hW hrl
      go_wp2_with fail
      go_loopw [14] (fun pv wr => ∃ (p : Nat) (S2 : Sc), p ≤ n ∧ pv = .int .i64 p ∧ (off.length ≤ r → ∀ i, i < p → S2.on i = true) ∧ Wl w1 D S (.pointer (some ⟨sb, 0, none⟩)) (.slice eo e.length ec) (.slice (some ⟨w2.heap.size + 1, 0, none⟩) n n) (.slice fo off.length fc) e off S2 wr) (fun pv _ => n - (intOf pv).toNat)
      case atStart => exact ⟨0, S1, Nat.zero_le _, rfl, fun _ i hi => by omega, HW.out⟩
      case round =>
        clear HW
        obtain ⟨p, S2, hp, hpv, hon, hW⟩ := hrel
        subst hpv
        have HW : Hid (Wl w1 D S (.pointer (some ⟨sb, 0, none⟩)) (.slice eo e.length ec) (.slice (some ⟨w2.heap.size + 1, 0, none⟩) n n) (.slice fo off.length fc) e off S2 wr) := hW
        have HON : Hid (off.length ≤ r → ∀ i, i < p → S2.on i = true) := hon
        clear hW hon
        by_cases hlt : p < n
        · have hlti : (p : Int) < (n : Int) := by omega
          have HPN : Hid (p < S2.np) := by show _ < _; rw [HW.out.same.1, ← HN.out]; exact hlt
          by_cases hro : r < off.length
          · have hroi : ¬ ((off.length : Int) ≤ (r : Int)) := by omega
            have hroj : (r : Int) < (off.length : Int) := by omega
            obtain ⟨g, goff, rfl, d0⟩ := HW.out.offs.1.at hro
            obtain ⟨x, hx⟩ : ∃ x, x = nth off r := ⟨_, rfl⟩
            rw [← hx] at d0
            clear hx
            go_wp2_with fail
            refine (switch_walk HW.out.src p (x != (p : Int))).mono ?_
            rintro e' w9 ⟨rfl, hs, hc⟩
            have HW9 : Hid (Wl w1 D S (.pointer (some ⟨sb, 0, none⟩)) (.slice eo e.length ec) (.slice (some ⟨w2.heap.size + 1, 0, none⟩) n n) (.slice (some ⟨g, goff, none⟩) off.length fc) e off (switchS S2 p (x != (p : Int))) w9) := HW.out.sw hs hc
            clear hs hc
            go_wp2_with fail
            go_roundw
            case rel => exact ⟨p + 1, _, by omega, by go_num, fun h => by omega, HW9.out⟩
            case measure => simp [intOf]; omega
          · have hroi : (off.length : Int) ≤ (r : Int) := by omega
            go_wp2_with fail
            refine (switch_walk HW.out.src p true).mono ?_
            rintro e' w9 ⟨rfl, hs, hc⟩
            have HW9 : Hid (Wl w1 D S (.pointer (some ⟨sb, 0, none⟩)) (.slice eo e.length ec) (.slice (some ⟨w2.heap.size + 1, 0, none⟩) n n) (.slice fo off.length fc) e off (switchS S2 p true) w9) := HW.out.sw hs hc
            clear hs hc
            go_wp2_with fail
            go_roundw
            case rel => exact ⟨p + 1, _, by omega, by go_num, fun h i hi => by rw [switch_on HPN.out]; split; rfl; exact HON.out h i (by omega), HW9.out⟩
            case measure => simp [intOf]; omega
        · have hlti : ¬ (p : Int) < (n : Int) := by omega
          have hpn : n = p := by omega
          subst hpn
          obtain ⟨T, hT⟩ : ∃ T, T = formT S2 e K := ⟨_, rfl⟩
          have HT : Hid (T = formT S2 e K) := hT
          have HFT : Hid (Fit S T) := by show Fit S T; rw [hT]; exact (HW.out.same.fit _).1 (form_fit ((HW.out.same.fit e).2 HW.out.fit) hK1)
          have HFW : Hid (Fwd e T) := by show Fwd e T; rw [hT]; exact form_fwd ((HW.out.same.fit e).2 HW.out.fit) hK1
          have HTL : Hid (T.length = n) := by show _ = _; rw [HN.out]; exact HFT.out.1
          have HS2 : Hid (Sm S S2) := HW.out.same
          have HFE : Hid (Fit S e) := HW.out.fit
          obtain ⟨R, hR⟩ : ∃ R, R = betS S e T e.length := ⟨_, rfl⟩
          have HRE : Hid (R = betS S e T e.length) := hR
          have HRK : Hid (∀ r ∈ R, r.ok) := by rw [hR]; exact betS_ok HOK.out _ _ _
          have HR8 : Hid (R.length ≤ 1048576) := by show _ ≤ _; rw [hR]; have := betS_le HOK.out e T e.length; have := HEL.out; omega
          clear hR
          go_wp2_with fail
          refine (form_walk HW.out.src HW.out.ends.1).mono ?_
          rintro e' w4 ⟨tv, rv, he', ht, hr, _, hB4⟩
          obtain ⟨g1, g2, g3⟩ := form_same HW.out.same HW.out.fit hK1 hK16
          rw [g1] at he'
          rw [g2, ← hT] at ht
          rw [g3, ← hT, ← HRE.out] at hr
          subst he'
          have hDl : ∀ x, D x → x < wr.heap.size := fun x hx => HW.out.src.lt hx
          have HTV : Hid (Nd D w4 tv T) := nd_own ht (fit_in64 HOK.out HFT.out) hDl
          obtain ⟨tq, tc, htv, _⟩ := HTV.out.1.form
          subst htv
          obtain ⟨ra, rb, hrv, hrz⟩ := rz_new hr HRK.out hDl
          subst hrv
          have HRZ : Hid (Rz D w4 ra R) := hrz
          have HW4 : Hid (Wl w1 D S (.pointer (some ⟨sb, 0, none⟩)) (.slice eo e.length ec) (.slice (some ⟨w2.heap.size + 1, 0, none⟩) n n) (.slice fo off.length fc) e off S2 w4) := HW.out.go hB4
          have htl : ((T.length : Int) != (n : Int)) = false := by simp [HTL.out]
          clear g1 g2 g3 ht hr hB4 hDl hrz hT
          go_wp2_with fail
          refine (fwd_walk HW4.out.ends.1 HTV.out.1).mono ?_
          rw [HFW.out.yes]
          rintro e' w5 ⟨rfl, hB5⟩
          have HW5 : Hid (Wl w1 D S (.pointer (some ⟨sb, 0, none⟩)) (.slice eo e.length ec) (.slice (some ⟨w2.heap.size + 1, 0, none⟩) n n) (.slice fo off.length fc) e off S2 w5) := HW4.out.go hB5
          have HTV5 : Hid (Nd D w5 (.slice tq T.length tc) T) := HTV.out.below hB5
          have HRZ5 : Hid (Rz D w5 ra R) := HRZ.out.below hB5
          clear hB5
          go_wp2_with fail
          go_loopw [18] (fun pv wx => ∃ (i : Nat) (S3 : Sc), i ≤ n ∧ pv = .int .i64 i ∧ (∀ j, i ≤ j → S3.on j = S2.on j) ∧ Wl w1 D S (.pointer (some ⟨sb, 0, none⟩)) (.slice eo e.length ec) (.slice (some ⟨w2.heap.size + 1, 0, none⟩) n n) (.slice fo off.length fc) e off S3 wx ∧ Nd D wx (.slice tq T.length tc) T ∧ Rz D wx ra R) (fun pv _ => n - (intOf pv).toNat)
          case atStart => exact ⟨0, S2, Nat.zero_le _, rfl, fun _ _ => rfl, HW5.out, HTV5.out, HRZ5.out⟩
          case round =>
            clear HW HW4 HW5 HTV HTV5 HRZ HRZ5
            obtain ⟨i, S3, hi, hiv, hon, hW, hTV, hRZ⟩ := hrel
            subst hiv
            have HW : Hid (Wl w1 D S (.pointer (some ⟨sb, 0, none⟩)) (.slice eo e.length ec) (.slice (some ⟨w2.heap.size + 1, 0, none⟩) n n) (.slice fo off.length fc) e off S3 wr) := hW
            have HTV : Hid (Nd D wr (.slice tq T.length tc) T) := hTV
            have HRZ : Hid (Rz D wr ra R) := hRZ
            have HO3 : Hid (∀ j, i ≤ j → S3.on j = S2.on j) := hon
            clear hW hTV hRZ hon
            by_cases hip : i < n
            · have hipi : (i : Int) < (n : Int) := by omega
              have hie : i < e.length := by rw [HEL.out]; exact hip
              have hit : i < T.length := by rw [HTL.out]; exact hip
              have hiei : (i : Int) < (e.length : Int) := by omega
              have hiti : (i : Int) < (T.length : Int) := by omega
              have HIN : Hid (i < S3.np) := by show _ < _; rw [HW.out.same.1, ← HN.out]; exact hip
              obtain ⟨g, goff, rfl, c0⟩ := HW.out.ends.1.at hie
              obtain ⟨d, doff, rfl, d0⟩ := HTV.out.1.at hit
              obtain ⟨x, hx⟩ : ∃ x, x = nth e i := ⟨_, rfl⟩
              obtain ⟨y, hy⟩ : ∃ y, y = nth T i := ⟨_, rfl⟩
              rw [← hx] at c0
              rw [← hy] at d0
              obtain ⟨m, hm⟩ : ∃ m, m = lenS S3 i := ⟨_, rfl⟩
              have HM : Hid (m = lenS S3 i) := hm
              have hm0 : m = lenS S2 i := by rw [hm, HW.out.same.len, HS2.out.len]
              have hmS : m = lenS S i := by rw [hm, HW.out.same.len]
              have hxb := HFE.out.2 i hie
              rw [← hx, ← hmS] at hxb
              have hm256 : m ≤ 256 := by rw [hm]; exact lenS_le HW.out.src.good _
              have hyE : y = if S2.on i = true then min (x + K) (m : Int) else x := by
                rw [hy, HT.out, form_nth _ _ _ hie]
                unfold endS
                rw [up_at (by rw [HS2.out.1, ← HN.out]; exact hip), ← hx, ← hm0]
              obtain ⟨hx0, hxm⟩ := hxb
              have hy0 : 0 ≤ y := by rw [hyE]; split <;> omega
              have hy1 : y ≤ 256 := by rw [hyE]; split <;> omega
              have hx1 : x ≤ 256 := by omega
              have HUE : Hid (upS S3 i = S2.on i) := by show _ = _; rw [up_at HIN.out, HO3.out i (Nat.le_refl _)]
              clear hx hy hm hm0 hmS hie hit
              cases hu : S2.on i
              · rw [hu, if_neg (by simp)] at hyE
                have HU : Hid (false = upS S3 i) := by show _ = _; rw [HUE.out, hu]
                have hyx : (y != x) = false := by simp [hyE]
                have s0 : IntKind.i64.wrap (y - x) = y - x := wrapU (by omega) (by omega)
                have s1 : ¬ K < y - x := by omega
                have s1d : decide (K < y - x) = false := decide_eq_false s1
                clear hu hyE
                go_wp2_with fail
                go_quiet ((first
                  | (go_at_call 28; exact Calls.quiet_of_same (HU.out ▸ up_walk (HW.out.src.below (below_drewN _ _)) i))
                  | (go_at_call 29; exact Calls.quiet_of_same (HM.out ▸ len_walk (HW.out.src.below (below_drewN _ _)) i))))
                go_wp2_with fail
                refine (switch_walk (HW.out.src.below (below_drewN _ _)) i false).mono ?_
                rintro e' w9 ⟨rfl, hs, hc⟩
                have HW9 : Hid (Wl w1 D S (.pointer (some ⟨sb, 0, none⟩)) (.slice (some ⟨g, goff, none⟩) e.length ec) (.slice (some ⟨w2.heap.size + 1, 0, none⟩) n n) (.slice fo off.length fc) e off (switchS S3 i false) w9) := (HW.out.go (below_drewN _ _)).sw hs hc
                have HTV9 : Hid (Nd D w9 (.slice (some ⟨d, doff, none⟩) T.length tc) T) := (HTV.out.below (below_drewN _ _)).ch hc
                have HRZ9 : Hid (Rz D w9 ra R) := (HRZ.out.below (below_drewN _ _)).ch hc
                clear hs hc
                go_wp2_with fail
                go_roundw
                case rel => exact ⟨i + 1, _, by omega, by go_num, fun j hj => by rw [switch_on HIN.out, if_neg (by omega)]; exact HO3.out j (by omega), HW9.out, HTV9.out, HRZ9.out⟩
                case measure => simp [intOf]; omega
              · rw [hu, if_pos rfl] at hyE
                have HU : Hid (true = upS S3 i) := by show _ = _; rw [HUE.out, hu]
                have s0 : IntKind.i64.wrap (y - x) = y - x := wrapU (by omega) (by omega)
                have s1 : ¬ K < y - x := by omega
                have s1d : decide (K < y - x) = false := decide_eq_false s1
                clear hu
                by_cases hlk : y - x < K
                · have hym : y = m := by omega
                  have hyq : (y != (m : Int)) = false := by simp [hym]
                  have hlkd : decide (y - x < K) = true := decide_eq_true hlk
                  clear hyE hym
                  go_wp2_with fail
                  go_quiet ((first
                    | (go_at_call 28; exact Calls.quiet_of_same (HU.out ▸ up_walk (HW.out.src.below (below_drewN _ _)) i))
                    | (go_at_call 29; exact Calls.quiet_of_same (HM.out ▸ len_walk (HW.out.src.below (below_drewN _ _)) i))))
                  go_wp2_with fail
                  refine (switch_walk (HW.out.src.below (below_drewN _ _)) i false).mono ?_
                  rintro e' w9 ⟨rfl, hs, hc⟩
                  have HW9 : Hid (Wl w1 D S (.pointer (some ⟨sb, 0, none⟩)) (.slice (some ⟨g, goff, none⟩) e.length ec) (.slice (some ⟨w2.heap.size + 1, 0, none⟩) n n) (.slice fo off.length fc) e off (switchS S3 i false) w9) := (HW.out.go (below_drewN _ _)).sw hs hc
                  have HTV9 : Hid (Nd D w9 (.slice (some ⟨d, doff, none⟩) T.length tc) T) := (HTV.out.below (below_drewN _ _)).ch hc
                  have HRZ9 : Hid (Rz D w9 ra R) := (HRZ.out.below (below_drewN _ _)).ch hc
                  clear hs hc
                  go_wp2_with fail
                  go_roundw
                  case rel => exact ⟨i + 1, _, by omega, by go_num, fun j hj => by rw [switch_on HIN.out, if_neg (by omega)]; exact HO3.out j (by omega), HW9.out, HTV9.out, HRZ9.out⟩
                  case measure => simp [intOf]; omega
                · have hlkd : decide (y - x < K) = false := decide_eq_false hlk
                  clear hyE
                  go_wp2_with fail
                  go_quiet ((first
                    | (go_at_call 28; exact Calls.quiet_of_same (HU.out ▸ up_walk (HW.out.src.below (below_drewN _ _)) i))
                    | (go_at_call 29; exact Calls.quiet_of_same (HM.out ▸ len_walk (HW.out.src.below (below_drewN _ _)) i))))
                  go_wp2_with fail
                  refine (switch_walk (HW.out.src.below (below_drewN _ _)) i false).mono ?_
                  rintro e' w9 ⟨rfl, hs, hc⟩
                  have HW9 : Hid (Wl w1 D S (.pointer (some ⟨sb, 0, none⟩)) (.slice (some ⟨g, goff, none⟩) e.length ec) (.slice (some ⟨w2.heap.size + 1, 0, none⟩) n n) (.slice fo off.length fc) e off (switchS S3 i false) w9) := (HW.out.go (below_drewN _ _)).sw hs hc
                  have HTV9 : Hid (Nd D w9 (.slice (some ⟨d, doff, none⟩) T.length tc) T) := (HTV.out.below (below_drewN _ _)).ch hc
                  have HRZ9 : Hid (Rz D w9 ra R) := (HRZ.out.below (below_drewN _ _)).ch hc
                  clear hs hc
                  go_wp2_with fail
                  go_roundw
                  case rel => exact ⟨i + 1, _, by omega, by go_num, fun j hj => by rw [switch_on HIN.out, if_neg (by omega)]; exact HO3.out j (by omega), HW9.out, HTV9.out, HRZ9.out⟩
                  case measure => simp [intOf]; omega
            · have hipi : ¬ (i : Int) < (n : Int) := by omega
              obtain ⟨a1, a2⟩ := again_same HW.out.same HFE.out HFT.out HFW.out
              have HA1 : Hid (againI S3 e T = 0) := a1
              have HA2 : Hid (againR S3 e T = R) := by show _ = _; rw [HRE.out]; exact a2
              clear a1 a2
              go_wp2_with fail
              refine (again_walk HW.out.src HW.out.ends.1 HTV.out.1).mono ?_
              rw [HA1.out, HA2.out]
              rintro e' w5 ⟨r2, rfl, hr2, hB5⟩
              obtain ⟨qa, qb, hqv, hql⟩ := own_recs hr2 HRK.out
              subst hqv
              have HQL : Hid (Rl w5 qa R) := hql
              have HW5 : Hid (Wl w1 D S (.pointer (some ⟨sb, 0, none⟩)) (.slice eo e.length ec) (.slice (some ⟨w2.heap.size + 1, 0, none⟩) n n) (.slice fo off.length fc) e off S3 w5) := HW.out.go hB5
              have HTV5 : Hid (Nd D w5 (.slice tq T.length tc) T) := HTV.out.below hB5
              have HRZ5 : Hid (Rz D w5 ra R) := HRZ.out.below hB5
              clear hr2 hql hB5
              go_wp2_with fail
              refine (lrecs_walk HR8.out HQL.out HRZ5.out.1).mono ?_
              rintro e' w6 ⟨rfl, hB6⟩
              have HW6 : Hid (Wl w1 D S (.pointer (some ⟨sb, 0, none⟩)) (.slice eo e.length ec) (.slice (some ⟨w2.heap.size + 1, 0, none⟩) n n) (.slice fo off.length fc) e off S3 w6) := HW5.out.go hB6
              have HTV6 : Hid (Nd D w6 (.slice tq T.length tc) T) := HTV5.out.below hB6
              clear hB6
              go_wp2_with fail
              refine (ints_walk HW6.out.ends.1 HTV6.out.1).mono ?_
              by_cases hm : e = T
              · rw [decide_eq_true hm]
                rintro e' w7 ⟨rfl, hB7⟩
                have HW7 : Hid (Wl w1 D S (.pointer (some ⟨sb, 0, none⟩)) (.slice tq T.length tc) (.slice (some ⟨w2.heap.size + 1, 0, none⟩) n n) (.slice fo off.length fc) T off S3 w7) := by
                  have h := HW6.out.go hB7
                  exact ⟨h.src, h.same, HTV6.out.below hB7, h.start, h.offs, HFT.out, h.base, h.below⟩
                by_cases hro : off.length ≤ r
                · have hroi : (off.length : Int) ≤ (r : Int) := by omega
                  have HFU : Hid (∀ j, j < n → nth T j = (lenS S j : Int)) := by
                    intro j hj
                    have hnp : S2.np = n := by rw [HS2.out.1, HN.out]
                    have h := full_ends (S := S2) ((HS2.out.fit e).2 HFE.out) hK1 (fun i hi => HON.out hro i (by rw [← hnp]; exact hi)) (by rw [← HT.out]; exact hm.symm) j (by rw [hnp]; exact hj)
                    rw [← hm, h, HS2.out.len]
                  have HL0 : Hid (leftN S3 T = 0 ∧ leftI S3 T = 0) := by
                    have hf : Fit S3 T := (HW7.out.same.fit T).2 HFT.out
                    unfold leftN leftI
                    rw [if_pos hf.yes, if_pos hf.yes, HW7.out.same.left, left_zero T.length (fun i hi => HFU.out i (by rw [← HTL.out]; exact hi))]
                    exact ⟨rfl, rfl⟩
                  clear hm hB7
                  go_wp2_with fail
                  refine (left_walk HW7.out.src HW7.out.ends.1).mono ?_
                  rw [HL0.out.1, HL0.out.2]
                  rintro e' w8 ⟨rfl, hB8⟩
                  have HW8 : Hid (Wl w1 D S (.pointer (some ⟨sb, 0, none⟩)) (.slice tq T.length tc) (.slice (some ⟨w2.heap.size + 1, 0, none⟩) n n) (.slice fo off.length fc) T off S3 w8) := HW7.out.go hB8
                  obtain ⟨b1, b2⟩ := again_same HW8.out.same (fit_zero S) HFT.out (fwd_zero HFT.out S.np (by rw [HTL.out, HN.out]))
                  have HB1' : Hid (againI S3 (zeros S.np) T = 0) := b1
                  have HB2' : Hid (againR S3 (zeros S.np) T = catL S3 S3.np) := by
                    show _ = _
                    rw [b2, zeros_len, bet_cat (zeros_nth S.np) S.np (fun i hi => by rw [HFU.out i (by rw [HN.out]; exact hi), lenS_at hi]), HW8.out.same.cat, HW8.out.same.1]
                  clear hB8 b1 b2
                  go_wp2_with fail
                  refine (again_walk HW8.out.src HW8.out.start.1 HW8.out.ends.1).mono ?_
                  rw [HB1'.out, HB2'.out]
                  rintro e' w9 ⟨r3, rfl, hr3, hB9⟩
                  have HR3 : Hid (Rv w9 r3 (catL S3 S3.np)) := own_rv hr3 (cat_ok HW8.out.src.good _)
                  have HW9 : Hid (Wl w1 D S (.pointer (some ⟨sb, 0, none⟩)) (.slice tq T.length tc) (.slice (some ⟨w2.heap.size + 1, 0, none⟩) n n) (.slice fo off.length fc) T off S3 w9) := HW8.out.go hB9
                  clear hr3 hB9
                  go_wp2_with fail
                  refine (logs_walk HW9.out.src HR3.out).mono ?_
                  rintro e' w10 ⟨rfl, hB10⟩
                  go_wp2_with fail
                  go_ret
                  exact ⟨rfl, below_trans (below_trans HB0.out HB1.out) (below_trans HW9.out.below hB10)⟩
                · have hroi : ¬ (off.length : Int) ≤ (r : Int) := by omega
                  have HLT : Hid (((r + 1 : Nat) : Int) + leftS S T S.np ≤ off.length + 1024) := by
                    show _ ≤ _
                    have := leftS_le HOK.out HFT.out S.np (by rw [HFT.out.1]; omega)
                    have := HN.out
                    omega
                  clear hm hB7
                  go_wp2_with fail
                  go_roundw
                  case rel => exact ⟨r + 1, T, S3, by go_num, HLT.out, HW7.out⟩
                  case measure => have := HRL.out; have := leftS_le HOK.out HFE.out S.np (by rw [HFE.out.1]; omega); simp [intOf]; omega
              · rw [decide_eq_false hm]
                rintro e' w7 ⟨rfl, hB7⟩
                have HW7 : Hid (Wl w1 D S (.pointer (some ⟨sb, 0, none⟩)) (.slice tq T.length tc) (.slice (some ⟨w2.heap.size + 1, 0, none⟩) n n) (.slice fo off.length fc) T off S3 w7) := by
                  have h := HW6.out.go hB7
                  exact ⟨h.src, h.same, HTV6.out.below hB7, h.start, h.offs, HFT.out, h.base, h.below⟩
                have HLT : Hid (((r + 1 : Nat) : Int) + leftS S T S.np ≤ off.length + 1024) := by
                  show _ ≤ _
                  obtain ⟨j, hj, hne⟩ := ne_at HFW.out.1 hm
                  have := left_less (S := S) HFW.out S.np (by rw [HFE.out.1]; omega) ⟨j, by rw [← HFE.out.1]; exact hj, hne⟩
                  have := HRL.out
                  omega
                clear hm hB7
                go_wp2_with fail
                go_roundw
                case rel => exact ⟨r + 1, T, S3, by go_num, HLT.out, HW7.out⟩
                case measure => have := HRL.out; have := leftS_le HOK.out HFE.out S.np (by rw [HFE.out.1]; omega); simp [intOf]; omega

end Go.Proofs.Ytjkhegekojflhaa

namespace Go.Proofs.Ytjkhegekojflhaa
open Go.ChangeShapes Go.WideShapes Go.ChangeAt Go.RowKit

set_option maxRecDepth 100000 in
theorem lifted_spoutWhole (os : Os) (started : os.Started) (H : Type) (enc : TypeId × Value → H) :
    ReturnsInHanded {} Try.checked os 6 .any (Rows.spoutWholeSpec.pre6 enc Try.prog Try.f6 Rows.spoutWholeRow.domain false) (Rows.spoutWholeSpec.post enc Try.prog Try.f6 false true false false) := by
  refine returnsInHanded_of_change_sized (C := Try.checked) own_knob started (by kernel_rfl) Try.func6
    (ChangeSpec.witness6 (enc := enc) (C := Try.checked) false ⟨#[], #[.agg #[.int .i64 0, .slice none 0 0, .slice none 0 0, .slice none 0 0], .int .i64 0, .slice none 0 0], []⟩ 8 (by kernel_rfl) (by kernel_rfl) (by kernel_rfl) (by kernel_rfl)) ?_
  intro W base args ds gs before hval0 hW hcnd hsz0 _
  have hval : ∀ (j : Nat) t v, Try.f6.params[j]? = some t → args[j]? = some v → Value.okWide Try.prog W .any base t v := hval0
  have hW' := hW
  obtain ⟨p, q, hA0, hV, rfl, hfz, hnd⟩ := hW
  have hA : DataW.TrodAll enc Try.prog W 0 (fun _ => true) true Try.f6.params.toList args.toList ds p := hA0
  have hsz : (DataW.weightsEach Try.prog (Try.f6.params.toList ++ Rows.spoutWholeSpec.plain.varTypes Try.prog) (ds ++ gs)).all (· ≤ reachBytes) = true := hsz0
  rw [Try.params6] at hA hval hsz
  obtain ⟨v0, vs0, d0, ds0, p0, q0, hargs, rfl, rfl, t0, r0⟩ := trodAll_cons hA
  obtain ⟨v1, vs1, d1, ds1, p1, q1, rfl, rfl, rfl, t1, r1⟩ := trodAll_cons r0
  obtain ⟨v2, vs2, d2, ds2, p2, q2, rfl, rfl, rfl, t2, r2⟩ := trodAll_cons r1
  obtain ⟨rfl, rfl, rfl⟩ := trodAll_nil r2
  obtain rfl : args = #[v0, v1, v2] := by cases args; simp_all
  obtain ⟨rfl, rfl⟩ := trodVars_none hV
  simp only [List.append_nil] at hW' hsz
  obtain ⟨rv0, av0, ov0, F0, e0, br0, ba0, bo0, bn0⟩ := open_full (hval 0 25 v0 rfl rfl) t0
  subst e0
  have o1 := open_int Try.underlying3 (hval 1 3 v1 rfl rfl) t1
  obtain ⟨a1, e1, _, _, wf1⟩ := o1
  have w1 := i64_of_wf wf1
  subst e1
  obtain ⟨l2, b2, z2⟩ := open_nv (hval 2 23 v2 rfl rfl) t2
  have hs3 := szd_len z2 (fun el sp e => by subst e; exact sized_slice hsz (j := 2) (t := 23) (e := 3) rfl rfl Try.underlying23)
  refine (spoutwhole_walk br0 ba0 bo0 b2 (by omega)).mono fun e W' ⟨he, hB⟩ => ?_
  subst he
  exact ⟨_, rfl, post_of_below (pv := []) hW' (fun _ _ _ => (trodAll_cons_mk (shut_bool Try.underlying4 _) trodAll_mk0)) (fun sp hsp => (trodAll_cons_mk (again (by kernel_rfl) (of_decide_eq_true (by kernel_rfl)) t0 hB (fun x hx => by simpa using hW'.lt x (by simp [hx])) (fun x hx => hsp x (by simp [hx]))) (trodAll_cons_mk (again (by kernel_rfl) (of_decide_eq_true (by kernel_rfl)) t1 hB (fun x hx => by simpa using hW'.lt x (by simp [hx])) (fun x hx => hsp x (by simp [hx]))) (trodAll_cons_mk (again (by kernel_rfl) (of_decide_eq_true (by kernel_rfl)) t2 hB (fun x hx => by simpa using hW'.lt x (by simp [hx])) (fun x hx => hsp x (by simp [hx]))) trodAll_mk0)))) (fun _ _ => rfl) (by simp) hB⟩

theorem spoutWhole_holds : Rows.SpoutWholeSaid :=
  OpenClaim.holds_of_wide 6 Try.f6 rfl rfl rfl rfl rfl rfl rfl ⟨rfl, rfl, rfl, rfl, rfl⟩ rfl rfl rfl rfl rfl (by kernel_rfl) Try.func6 (by kernel_rfl)
    (of_decide_eq_true (by kernel_rfl)) (by unfold Func.isWrapper; first | (rw [if_pos (by decide +kernel)]; kernel_rfl) | (rw [if_neg (by decide +kernel)]; exact ⟨rfl, rfl⟩))
    (fun os started H enc _ => lifted_spoutWhole os started H enc)
#print axioms spoutWhole_holds
end Go.Proofs.Ytjkhegekojflhaa
