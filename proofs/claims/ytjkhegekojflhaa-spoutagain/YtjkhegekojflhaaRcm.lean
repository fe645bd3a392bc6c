/- SpoutAgain: Again, Forward and Left of every source and raw ends are the document's; of no source ErrNil.
-/
import Derived.Test.YtjkhegekojflhaaSb
import Derived.Test.YtjkhegekojflhaaNz
namespace Go.Proofs.Ytjkhegekojflhaa
open Ieee Go.RowKit

theorem againR_ok {S : Sc} (hok : S.ok) (a b : List Int) : ∀ r ∈ againR S a b, r.ok := by
  unfold againR
  split
  · exact betS_ok hok _ _ _
  · simp
theorem againR_len {S : Sc} (hok : S.ok) (a b : List Int) : (againR S a b).length ≤ 1048576 := by
  unfold againR
  split
  · rename_i h
    have := betS_le hok a b a.length
    have := (again_of h).1.1
    have := hok.np4
    omega
  · simp

set_option maxRecDepth 100000 in
set_option maxHeartbeats 1000000 in
theorem spoutagain_walk {rv av ov fv gv : Value} {F : Fl} {a b : List Int} {w : World} (hr : Rv w rv F.recs) (ha : Nv w av F.places) (ho : Nv w ov F.off) (hf : Nv w fv a) (hg : Nv w gv b) :
    Calls Try.prog 4 #[.agg #[.int .i64 F.n, rv, av, ov], fv, gv] w fun e w' => e = .returned (.bool true) ∧ Below w.heap.size w w' := by
  obtain ⟨w0, hw0⟩ : ∃ w0, w0 = w.alloc (Obj.cells #[.int .i64 F.n, rv, av, ov] 25) := ⟨_, rfl⟩
  have HB0 : Hid (Below w.heap.size w w0) := by show Below _ _ _; rw [hw0]; exact below_alloc _ _
  have HR : Hid (Rv w0 rv F.recs) := hr.below HB0.out
  have HA : Hid (Nv w0 av F.places) := ha.below HB0.out
  have HO : Hid (Nv w0 ov F.off) := ho.below HB0.out
  have HF : Hid (Nv w0 fv a) := hf.below HB0.out
  have HG : Hid (Nv w0 gv b) := hg.below HB0.out
  obtain ⟨⟨ro, rc, rfl, _⟩, _⟩ := hr
  obtain ⟨ao, ac, rfl, _⟩ := ha.form
  obtain ⟨oo, oc, rfl, _⟩ := ho.form
  obtain ⟨fo, fc, rfl, _⟩ := hf.form
  obtain ⟨go, gc, rfl, _⟩ := hg.form
  have HKH : Hid (∀ wx, Below w0.heap.size w0 wx → wx.cell? ⟨w.heap.size, 0, none⟩ = some (.int .i64 F.n) ∧ wx.cell? ⟨w.heap.size, 1, none⟩ = some (.slice ro F.recs.length rc) ∧ wx.cell? ⟨w.heap.size, 2, none⟩ = some (.slice ao F.places.length ac) ∧ wx.cell? ⟨w.heap.size, 3, none⟩ = some (.slice oo F.off.length oc)) := full_box hw0
  have HW0 : Hid (w0 = w.alloc (Obj.cells #[.int .i64 F.n, .slice ro F.recs.length rc, .slice ao F.places.length ac, .slice oo F.off.length oc] 25)) := hw0
  obtain ⟨d, hd⟩ : ∃ d, d = fwdB a b := ⟨_, rfl⟩
  have HD : Hid (d = fwdB a b) := hd
  have hdd : (d != d) = false := by simp
  clear ha ho hf hg hw0 hd
  go_enter Try.func4, Try.ntmps4
  go_wp2_with fail
  rw [← HW0.out]
  refine (awake_walk w0).mono ?_
  rintro e w1 ⟨rfl, hB⟩
  have HB1 : Hid (Below w0.heap.size w0 w1) := hB
  clear hB
  go_wp2_with fail
  refine (fwd_walk (HF.out.below HB1.out) (HG.out.below HB1.out)).mono ?_
  rw [← HD.out]
  rintro e w2 ⟨rfl, hB⟩
  have HB2 : Hid (Below w0.heap.size w0 w2) := below_trans HB1.out hB
  clear hB
  go_wp2_with fail
  refine (rfwd_walk (HF.out.below HB2.out) (HG.out.below HB2.out)).mono ?_
  rw [← HD.out]
  rintro e w3 ⟨rfl, hB⟩
  have HB3 : Hid (Below w0.heap.size w0 w3) := below_trans HB2.out hB
  clear hB
  obtain ⟨y0, y1, y2, y3⟩ := HKH.out w3 HB3.out
  go_wp2_with (first
    | (go_at_call 17; refine (again_nil _ _ w3).mono ?_; rintro e w9 ⟨rfl, h9⟩; have h9 := h9.symm; subst h9)
    | (go_at_call 18; refine (left_nil _ w3).mono ?_; rintro e w9 ⟨rfl, h9⟩; have h9 := h9.symm; subst h9))
  by_cases hn : F.n < 1 ∨ 4 < F.n
  · refine (filled_none hn ⟨_, _, _, rfl⟩ ⟨_, _, _, rfl⟩ ⟨_, _, _, rfl⟩).mono ?_
    rintro e w4 ⟨rfl, hB4⟩
    go_wp2_with fail
    go_ret
    exact ⟨rfl, below_trans (below_trans HB0.out HB3.out) hB4⟩
  · refine (filled_walk (F := F) (by omega) (by omega) (HR.out.below HB3.out) (HA.out.below HB3.out) (HO.out.below HB3.out)).mono ?_
    rintro e w4 ⟨sv, tv, rfl, hF⟩
    have HB4 : Hid (Below w0.heap.size w0 w4) := below_trans HB3.out hF.world
    obtain ⟨Ds, hS, _⟩ := hF.src
    obtain ⟨Dt, hT⟩ := hF.rs
    obtain ⟨sb, tb, rfl, rfl⟩ := hF.form
    obtain ⟨S, hSe⟩ : ∃ S, S = filS F := ⟨_, rfl⟩
    rw [← hSe] at hS hT
    have HS : Hid (Src Ds w4 (.pointer (some ⟨sb, 0, none⟩)) S) := hS
    have HT : Hid (Rs Dt w4 (.pointer (some ⟨tb, 0, none⟩)) S) := hT
    have HOK : Hid S.ok := hS.good
    obtain ⟨c, hc⟩ : ∃ c, c = againI S a b := ⟨_, rfl⟩
    have HC : Hid (c = againI S a b) := hc
    have hcc : (c != c) = false := by simp
    clear hF hS hT hSe y0 y1 y2 y3 hn hc
    go_wp2_with fail
    refine (again_walk HS.out (HF.out.below HB4.out) (HG.out.below HB4.out)).mono ?_
    rw [← HC.out]
    rintro e w5 ⟨r1, rfl, hr1, hB5⟩
    have HB5 : Hid (Below w4.heap.size w4 w5) := hB5
    obtain ⟨p1, q1, hv1, hl1⟩ := own_recs hr1 (againR_ok HOK.out a b)
    subst hv1
    have HR1 : Hid (Rl w5 p1 (againR S a b)) := hl1
    clear hr1 hB5 hl1
    go_wp2_with fail
    refine (ragain_walk (HT.out.below HB5.out) (HF.out.below (below_trans HB4.out HB5.out)) (HG.out.below (below_trans HB4.out HB5.out))).mono ?_
    rw [← HC.out]
    rintro e w6 ⟨r2, rfl, hr2, hB6⟩
    have HB6 : Hid (Below w5.heap.size w5 w6) := hB6
    obtain ⟨p2, q2, hv2, hl2⟩ := own_recs hr2 (againR_ok HOK.out a b)
    subst hv2
    have HR2 : Hid (Rl w6 p2 (againR S a b)) := hl2
    clear hr2 hB6 hl2
    go_wp2_with fail
    refine (lrecs_walk (againR_len HOK.out a b) (HR1.out.below HB6.out) HR2.out).mono ?_
    rintro e w7 ⟨rfl, hB7⟩
    have HB7 : Hid (Below w6.heap.size w6 w7) := hB7
    have HB47 : Hid (Below w4.heap.size w4 w7) := below_trans (below_trans HB5.out HB6.out) HB7.out
    obtain ⟨n, hnn⟩ : ∃ n, n = leftN S a := ⟨_, rfl⟩
    have HN : Hid (n = leftN S a) := hnn
    have hnq : (n == n) = true := by simp
    obtain ⟨i, hi⟩ : ∃ i, i = leftI S a := ⟨_, rfl⟩
    have HI : Hid (i = leftI S a) := hi
    have hiq : (i == i) = true := by simp
    clear hB7 hnn hi
    go_wp2_with fail
    refine (left_walk (HS.out.below HB47.out) (HF.out.below (below_trans HB4.out HB47.out))).mono ?_
    rw [← HN.out, ← HI.out]
    rintro e w8 ⟨rfl, hB8⟩
    have HB48 : Hid (Below w4.heap.size w4 w8) := below_trans HB47.out hB8
    clear hB8
    go_wp2_with fail
    refine (rleft_walk (HT.out.below HB48.out) (HF.out.below (below_trans HB4.out HB48.out))).mono ?_
    rw [← HN.out, ← HI.out]
    rintro e w9 ⟨rfl, hB9⟩
    have HB49 : Hid (Below w4.heap.size w4 w9) := below_trans HB48.out hB9
    clear hB9
    go_wp2_with fail
    go_ret
    exact ⟨rfl, below_trans (below_trans HB0.out HB4.out) HB49.out⟩

end Go.Proofs.Ytjkhegekojflhaa

namespace Go.Proofs.Ytjkhegekojflhaa
open Go.ChangeShapes Go.WideShapes Go.ChangeAt Go.RowKit

set_option maxRecDepth 100000 in
theorem lifted_spoutAgain (os : Os) (started : os.Started) (H : Type) (enc : TypeId × Value → H) :
    ReturnsInHanded {} Try.checked os 4 .any (Rows.spoutAgainSpec.pre6 enc Try.prog Try.f4 Rows.spoutAgainRow.domain false) (Rows.spoutAgainSpec.post enc Try.prog Try.f4 false true false false) := by
  refine returnsInHanded_of_change (C := Try.checked) own_knob started (by kernel_rfl) Try.func4
    (ChangeSpec.witness6 (enc := enc) (C := Try.checked) false ⟨#[], #[.agg #[.int .i64 0, .slice none 0 0, .slice none 0 0, .slice none 0 0], .slice none 0 0, .slice none 0 0], []⟩ 8 (by kernel_rfl) (by kernel_rfl) (by kernel_rfl) (by kernel_rfl)) ?_
  intro W base args ds gs before hval0 hW hcnd _
  have hval : ∀ (j : Nat) t v, Try.f4.params[j]? = some t → args[j]? = some v → Value.okWide Try.prog W .any base t v := hval0
  have hW' := hW
  obtain ⟨p, q, hA0, hV, rfl, hfz, hnd⟩ := hW
  have hA : DataW.TrodAll enc Try.prog W 0 (fun _ => true) true Try.f4.params.toList args.toList ds p := hA0
  rw [Try.params4] at hA hval
  obtain ⟨v0, vs0, d0, ds0, p0, q0, hargs, rfl, rfl, t0, r0⟩ := trodAll_cons hA
  obtain ⟨v1, vs1, d1, ds1, p1, q1, rfl, rfl, rfl, t1, r1⟩ := trodAll_cons r0
  obtain ⟨v2, vs2, d2, ds2, p2, q2, rfl, rfl, rfl, t2, r2⟩ := trodAll_cons r1
  obtain ⟨rfl, rfl, rfl⟩ := trodAll_nil r2
  obtain rfl : args = #[v0, v1, v2] := by cases args; simp_all
  obtain ⟨rfl, rfl⟩ := trodVars_none hV
  simp only [List.append_nil] at hW'
  obtain ⟨rv0, av0, ov0, F0, e0, br0, ba0, bo0, bn0⟩ := open_full (hval 0 25 v0 rfl rfl) t0
  subst e0
  obtain ⟨l1, b1, z1⟩ := open_nv (hval 1 23 v1 rfl rfl) t1
  obtain ⟨l2, b2, z2⟩ := open_nv (hval 2 23 v2 rfl rfl) t2
  refine (spoutagain_walk br0 ba0 bo0 b1 b2).mono fun e W' ⟨he, hB⟩ => ?_
  subst he
  exact ⟨_, rfl, post_of_below (pv := []) hW' (fun _ _ _ => (trodAll_cons_mk (shut_bool Try.underlying4 _) trodAll_mk0)) (fun sp hsp => (trodAll_cons_mk (again (by kernel_rfl) (of_decide_eq_true (by kernel_rfl)) t0 hB (fun x hx => by simpa using hW'.lt x (by simp [hx])) (fun x hx => hsp x (by simp [hx]))) (trodAll_cons_mk (again (by kernel_rfl) (of_decide_eq_true (by kernel_rfl)) t1 hB (fun x hx => by simpa using hW'.lt x (by simp [hx])) (fun x hx => hsp x (by simp [hx]))) (trodAll_cons_mk (again (by kernel_rfl) (of_decide_eq_true (by kernel_rfl)) t2 hB (fun x hx => by simpa using hW'.lt x (by simp [hx])) (fun x hx => hsp x (by simp [hx]))) trodAll_mk0)))) (fun _ _ => rfl) (by simp) hB⟩

theorem spoutAgain_holds : Rows.SpoutAgainSaid :=
  OpenClaim.holds_of_wide 4 Try.f4 rfl rfl rfl rfl rfl rfl rfl ⟨rfl, rfl, rfl, rfl, rfl⟩ rfl rfl rfl rfl rfl (by kernel_rfl) Try.func4 (by kernel_rfl)
    (of_decide_eq_true (by kernel_rfl)) (by unfold Func.isWrapper; first | (rw [if_pos (by decide +kernel)]; kernel_rfl) | (rw [if_neg (by decide +kernel)]; exact ⟨rfl, rfl⟩))
    (fun os started H enc _ => lifted_spoutAgain os started H enc)
#print axioms spoutAgain_holds
end Go.Proofs.Ytjkhegekojflhaa
