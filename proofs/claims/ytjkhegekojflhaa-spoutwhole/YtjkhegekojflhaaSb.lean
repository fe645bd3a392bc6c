/- SpoutForms, walked. -/
import Derived.Test.YtjkhegekojflhaaNi
namespace Go.Proofs.Ytjkhegekojflhaa
open Ieee Go.RowKit

theorem formI_zero {S : Sc} {a : List Int} {m : Int} (h : formI S a m = 0) : Fit S a ∧ 1 ≤ m := by
  unfold formI at h
  by_cases h1 : m < 1 ∨ 16 < m
  · rw [if_pos h1] at h; omega
  · rw [if_neg h1] at h
    by_cases h2 : Fit S a
    · exact ⟨h2, by omega⟩
    · rw [if_neg (fun e => h2 (Fit.of e))] at h; omega
theorem formL_in64 {S : Sc} (hok : S.ok) (a : List Int) (m : Int) : In64 (formL S a m) := by
  unfold formL
  split
  · rename_i h
    obtain ⟨h1, h2⟩ := formI_zero h
    exact form_in64 hok h1 h2
  · intro x hx; simp at hx
theorem formR_ok {S : Sc} (hok : S.ok) (a : List Int) (m : Int) : ∀ r ∈ formR S a m, r.ok := by
  unfold formR
  split
  · exact betS_ok hok _ _ _
  · simp
theorem formR_len {S : Sc} (hok : S.ok) (a : List Int) (m : Int) : (formR S a m).length ≤ 1048576 := by
  unfold formR
  split
  · rename_i h
    obtain ⟨h1, h2⟩ := formI_zero h
    have := betS_le hok a (formT S a m) a.length
    have := h1.1
    have := hok.np4
    omega
  · simp
/-- A row of records of the call's own, as the statements' records asks it. -/
theorem own_recs {w : World} {base e n : Nat} {v : Value} {l : List Rcd} (h : w.ownsRow base e 2 v n (flatR l)) (hok : ∀ r ∈ l, r.ok) : ∃ ao cap, v = .slice ao l.length cap ∧ Rl w ao l := own_rl h hok

/-- A filling in its block: what the block holds while nothing below it turns. -/
theorem full_box {w w0 : World} {n : Int} {rv av ov : Value} (h : w0 = w.alloc (Obj.cells #[.int .i64 n, rv, av, ov] 25)) :
    ∀ wx, Below w0.heap.size w0 wx → wx.cell? ⟨w.heap.size, 0, none⟩ = some (.int .i64 n) ∧ wx.cell? ⟨w.heap.size, 1, none⟩ = some rv ∧ wx.cell? ⟨w.heap.size, 2, none⟩ = some av ∧ wx.cell? ⟨w.heap.size, 3, none⟩ = some ov := fun wx hb => by
  have hz : w.heap.size < w0.heap.size := by rw [h]; simp
  refine ⟨?_, ?_, ?_, ?_⟩ <;> (rw [hb.cell (p := ⟨w.heap.size, _, none⟩) hz, h]; simp [go_sem])

set_option maxRecDepth 100000 in
set_option maxHeartbeats 1000000 in
theorem spoutforms_walk {rv av ov fv : Value} {F : Fl} {a : List Int} {m : Int} {w : World} (hr : Rv w rv F.recs) (ha : Nv w av F.places) (ho : Nv w ov F.off) (hf : Nv w fv a) :
    Calls Try.prog 3 #[.agg #[.int .i64 F.n, rv, av, ov], fv, .int .i64 m] w fun e w' => e = .returned (.bool true) ∧ Below w.heap.size w w' := by
  obtain ⟨w0, hw0⟩ : ∃ w0, w0 = w.alloc (Obj.cells #[.int .i64 F.n, rv, av, ov] 25) := ⟨_, rfl⟩
  have HB0 : Hid (Below w.heap.size w w0) := by show Below _ _ _; rw [hw0]; exact below_alloc _ _
  have HR : Hid (Rv w0 rv F.recs) := hr.below HB0.out
  have HA : Hid (Nv w0 av F.places) := ha.below HB0.out
  have HO : Hid (Nv w0 ov F.off) := ho.below HB0.out
  have HF : Hid (Nv w0 fv a) := hf.below HB0.out
  obtain ⟨⟨ro, rc, rfl, _⟩, _⟩ := hr
  obtain ⟨ao, ac, rfl, _⟩ := ha.form
  obtain ⟨oo, oc, rfl, _⟩ := ho.form
  obtain ⟨fo, fc, rfl, _⟩ := hf.form
  have HK := full_box hw0
  have HKH : Hid (∀ wx, Below w0.heap.size w0 wx → wx.cell? ⟨w.heap.size, 0, none⟩ = some (.int .i64 F.n) ∧ wx.cell? ⟨w.heap.size, 1, none⟩ = some (.slice ro F.recs.length rc) ∧ wx.cell? ⟨w.heap.size, 2, none⟩ = some (.slice ao F.places.length ac) ∧ wx.cell? ⟨w.heap.size, 3, none⟩ = some (.slice oo F.off.length oc)) := HK
  have HW0 : Hid (w0 = w.alloc (Obj.cells #[.int .i64 F.n, .slice ro F.recs.length rc, .slice ao F.places.length ac, .slice oo F.off.length oc] 25)) := hw0
  clear ha ho hf hw0 HK
  go_enter Try.func3, Try.ntmps3
  go_wp2_with fail
  rw [← HW0.out]
  refine (awake_walk w0).mono ?_
  rintro e w1 ⟨rfl, hB⟩
  have HB1 : Hid (Below w0.heap.size w0 w1) := hB
  clear hB
  obtain ⟨y0, y1, y2, y3⟩ := HKH.out w1 HB1.out
  go_wp2_with (go_at_call 10; refine (form_nil _ m w1).mono ?_; rintro e w9 ⟨rfl, h9⟩; have h9 := h9.symm; subst h9)
  by_cases hn : F.n < 1 ∨ 4 < F.n
  · refine (filled_none hn ⟨_, _, _, rfl⟩ ⟨_, _, _, rfl⟩ ⟨_, _, _, rfl⟩).mono ?_
    rintro e w2 ⟨rfl, hB2⟩
    go_wp2_with fail
    go_ret
    exact ⟨rfl, below_trans (below_trans HB0.out HB1.out) hB2⟩
  · refine (filled_walk (F := F) (by omega) (by omega) (HR.out.below HB1.out) (HA.out.below HB1.out) (HO.out.below HB1.out)).mono ?_
    rintro e w2 ⟨sv, tv, rfl, hF⟩
    have HB2 : Hid (Below w0.heap.size w0 w2) := below_trans HB1.out hF.world
    obtain ⟨Ds, hS, _⟩ := hF.src
    obtain ⟨Dt, hT⟩ := hF.rs
    obtain ⟨sb, tb, rfl, rfl⟩ := hF.form
    obtain ⟨S, hSe⟩ : ∃ S, S = filS F := ⟨_, rfl⟩
    rw [← hSe] at hS hT
    have HS : Hid (Src Ds w2 (.pointer (some ⟨sb, 0, none⟩)) S) := hS
    have HT : Hid (Rs Dt w2 (.pointer (some ⟨tb, 0, none⟩)) S) := hT
    have HOK : Hid S.ok := hS.good
    clear hF hS hT hSe y0 y1 y2 y3 hn
    go_wp2_with fail
    refine (form_walk HS.out (HF.out.below HB2.out)).mono ?_
    rintro e w3 ⟨t1, r1, rfl, ht1, hr1, _, hB3⟩
    have HB3 : Hid (Below w2.heap.size w2 w3) := hB3
    have HT1 : Hid (Nv w3 t1 (formL S a m)) := own_nv ht1 (formL_in64 HOK.out a m)
    obtain ⟨p1, q1, hv1, hl1⟩ := own_recs hr1 (formR_ok HOK.out a m)
    subst hv1
    have HR1 : Hid (Rl w3 p1 (formR S a m)) := hl1
    clear ht1 hr1 hB3 hl1
    go_wp2_with fail
    refine (rform_walk (HT.out.below HB3.out) (HF.out.below (below_trans HB2.out HB3.out))).mono ?_
    rintro e w4 ⟨t2, r2, rfl, ht2, hr2, _, hB4⟩
    have HB4 : Hid (Below w3.heap.size w3 w4) := hB4
    have HT2 : Hid (Nv w4 t2 (formL S a m)) := own_nv ht2 (formL_in64 HOK.out a m)
    obtain ⟨p2, q2, hv2, hl2⟩ := own_recs hr2 (formR_ok HOK.out a m)
    subst hv2
    have HR2 : Hid (Rl w4 p2 (formR S a m)) := hl2
    clear ht2 hr2 hB4 hl2
    go_wp2_with fail
    refine (ints_walk (HT1.out.below HB4.out) HT2.out).mono ?_
    rw [decide_eq_true rfl]
    rintro e w5 ⟨rfl, hB5⟩
    have HB5 : Hid (Below w4.heap.size w4 w5) := hB5
    clear hB5
    go_wp2_with fail
    refine (lrecs_walk (formR_len HOK.out a m) (HR1.out.below (below_trans HB4.out HB5.out)) (HR2.out.below HB5.out)).mono ?_
    rintro e w6 ⟨rfl, hB6⟩
    have HB6 : Hid (Below w5.heap.size w5 w6) := hB6
    clear hB6
    obtain ⟨c, hc⟩ : ∃ c, c = formI S a m := ⟨_, rfl⟩
    rw [← hc]
    have hcc : (c == c) = true := by simp
    clear hc
    go_wp2_with fail
    go_ret
    exact ⟨rfl, below_trans (below_trans (below_trans (below_trans (below_trans HB0.out HB2.out) HB3.out) HB4.out) HB5.out) HB6.out⟩

end Go.Proofs.Ytjkhegekojflhaa
