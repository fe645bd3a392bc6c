/- ScriptPrints, walked. -/
import Derived.Test.YtkiplcmndpdifaaGreatDoorRo

import Derived.Test.YtkiplcmndpdifaaGreatDoorTh

namespace Go.Proofs.YtkiplcmndpdifaaGreatDoor

open Go.RowKit

attribute [local go_sem] run_store_float


set_option maxRecDepth 100000 in
set_option maxHeartbeats 8000000 in
theorem prints_walk {p : Pl} {ops : List Og} {sts : List Sp} {ov sv : Value} {w : World} (hov : OVw w ov ops) (hsv : SVw w sv sts) (hp : p.ok) (ho : ∀ x ∈ ops, x.ok) (hs : ∀ x ∈ sts, x.ok) (htb : Tb w) :
    Calls Tryz.prog 4 #[PlV p ov, sv] w fun e w' => e = .returned (.bool true) ∧ Below w.heap.size w w' := by
  have HT : Hid (Tb w) := htb
  have HO : Hid (OVw w ov ops) := hov
  have HS : Hid (SVw w sv sts) := hsv
  have HR : Hid (p.ok ∧ (∀ x ∈ ops, x.ok) ∧ (∀ x ∈ sts, x.ok)) := ⟨hp, ho, hs⟩
  obtain ⟨oa, oc, rfl, _, _, _, _⟩ := hov
  obtain ⟨sa, sc, rfl, _, _, _, _⟩ := hsv
  obtain ⟨E, hE⟩ : ∃ E, E = printE p ops sts := ⟨_, rfl⟩
  obtain ⟨u, hu⟩ : ∃ u : ByteArray, u = ⟨(printT p ops sts).toArray⟩ := ⟨_, rfl⟩
  have HPR : Hid (∀ wx, Below w.heap.size w wx → (Calls Tryz.prog 10 #[.agg #[.int .i64 p.P, .int .i64 p.S, .int .i64 p.W, .slice oa ops.length oc, .int .i64 p.A, .int .i64 p.B, .int .i64 p.N, .int .i64 p.G], .slice sa sts.length sc] wx fun e w' => e = .returned (.tuple #[.string u, .int .i64 E]) ∧ Below wx.heap.size wx w') ∧ (Calls Tryz.prog 11 #[.agg #[.int .i64 p.P, .int .i64 p.S, .int .i64 p.W, .slice oa ops.length oc, .int .i64 p.A, .int .i64 p.B, .int .i64 p.N, .int .i64 p.G], .slice sa sts.length sc] wx fun e w' => e = .returned (.tuple #[.string u, .int .i64 E]) ∧ Below wx.heap.size wx w')) := by
    intro wx hx
    have h1 := print_walk (p := p) (HO.out.below (fun _ => rfl) hx) (HS.out.below (fun _ => rfl) hx) HR.out.1 HR.out.2.1 HR.out.2.2 (HT.out.below hx)
    have h2 := rprint_walk (p := p) (HO.out.below (fun _ => rfl) hx) (HS.out.below (fun _ => rfl) hx) HR.out.1 HR.out.2.1 HR.out.2.2
    unfold PrintGot at h1 h2
    rw [hu, hE]
    exact ⟨h1, h2⟩
  have he1 : (u.toList == u.toList) = true := by simp
  have he2 : (E == E) = true := by simp
  obtain ⟨g, hg⟩ : ∃ g, g = w.heap.size := ⟨_, rfl⟩
  obtain ⟨w0, hw0⟩ : ∃ w0, w0 = w.alloc (.cells #[.int .i64 p.P, .int .i64 p.S, .int .i64 p.W, .slice oa ops.length oc, .int .i64 p.A, .int .i64 p.B, .int .i64 p.N, .int .i64 p.G] 25) := ⟨_, rfl⟩
  have HW0 : Hid (w0 = w.alloc (.cells #[.int .i64 p.P, .int .i64 p.S, .int .i64 p.W, .slice oa ops.length oc, .int .i64 p.A, .int .i64 p.B, .int .i64 p.N, .int .i64 p.G] 25) ∧ g = w.heap.size) := ⟨hw0, hg⟩
  have HB0 : Hid (Below w.heap.size w w0 ∧ w0.heap[g]? = some (.cells #[.int .i64 p.P, .int .i64 p.S, .int .i64 p.W, .slice oa ops.length oc, .int .i64 p.A, .int .i64 p.B, .int .i64 p.N, .int .i64 p.G] 25 (0, 0))) := by rw [hw0]; exact ⟨below_alloc _ _, alloc_at hg⟩
  unfold PlV
  clear htb hp ho hs hE hu hg hw0
  go_enter Tryz.func4, Tryz.ntmps4
  go_wp2_with fail
  rw [← HW0.out.2, ← HW0.out.1]
  refine (awake_walk (HT.out.below HB0.out.1)).mono ?_
  rintro e9 w1 ⟨rfl, hB1⟩
  have HB1 : Hid (Below w0.heap.size w0 w1) := hB1
  obtain ⟨c0, c1, c2, c3, c4, c5, c6, c7⟩ := pl_cells9 (blk_below HB0.out.2 hB1)
  clear hB1
  go_wp2_with fail
  refine (HPR.out w1 (below_trans HB0.out.1 HB1.out)).1.mono ?_
  rintro e9 w2 ⟨rfl, hB2⟩
  have HB2 : Hid (Below w0.heap.size w0 w2) := below_trans HB1.out hB2
  clear hB2 c0 c1 c2 c3 c4 c5 c6 c7
  obtain ⟨c0, c1, c2, c3, c4, c5, c6, c7⟩ := pl_cells9 (blk_below HB0.out.2 HB2.out)
  go_wp2_with fail
  refine (HPR.out w2 (below_trans HB0.out.1 HB2.out)).2.mono ?_
  rintro e9 w3 ⟨rfl, hB3⟩
  have HB3 : Hid (Below w.heap.size w w3) := below_trans (below_trans HB0.out.1 HB2.out) hB3
  clear hB3 c0 c1 c2 c3 c4 c5 c6 c7
  go_wp2_with fail
  go_ret
  exact ⟨rfl, HB3.out⟩
end Go.Proofs.YtkiplcmndpdifaaGreatDoor


