/- The walk of FoldBatch. -/
import Derived.Test.YtfcpooihihklaaaGreatKs
namespace Go.Proofs.YtfcpooihihklaaaGreat
open Ieee Go.RowKit

theorem empty_ql (w : World) : Ql w none [] := fun i hi => by simp at hi

set_option maxRecDepth 100000 in
set_option maxHeartbeats 4000000 in
theorem foldbatch_walk {lv rv : Value} {l : List Stp} {recs : List Rcd} {kind : Int} {w : World} (ho : Ov w lv l) (hr : Rv w rv recs) :
    Calls Tryz.prog 3 #[lv, .int .i64 kind, rv] w fun e w' => e = .returned (.bool true) ∧ Below w.heap.size w w' := by
  have HO : Hid (Ov w lv l) := ho
  have HR : Hid (Rv w rv recs) := hr
  obtain ⟨ro, rcap, hrv, _, _, _, _⟩ := hr.parts
  subst hrv
  clear ho hr
  by_cases h4 : recs.length ≤ 4096
  · have h4i : ¬ ((4096 : Int) < (recs.length : Int)) := by omega
    have HS : Hid (recs.length ≤ 4096) := h4
    have HLN : Hid ((batchT l kind recs).length ≤ maxLen) := by have := batch_len l kind recs; show _ ≤ _; simp only [maxLen]; omega
    clear h4
    go_enter Tryz.func3, Tryz.ntmps3
    go_wp2_with fail
    refine (awake_walk _).mono ?_
    rintro e w1 ⟨rfl, hB1⟩
    have HB1 : Hid (Below w.heap.size w w1) := hB1
    clear hB1
    cases hc : checkB l
    · go_wp2_with fail
      refine (batch_bad (HO.out.below HB1.out) hc).mono ?_
      rintro e w2 ⟨rfl, hB2⟩
      have HB2 : Hid (Below w.heap.size w w2) := below_trans HB1.out hB2
      clear hB2
      go_wp2_with fail
      refine (rbatch_bad (HO.out.below HB2.out) hc).mono ?_
      rintro e w3 ⟨rfl, hB3⟩
      have HB3 : Hid (Below w.heap.size w w3) := below_trans HB2.out hB3
      clear hB3
      go_wp2_with fail
      refine (same_walk (l := []) (by simp [maxLen]) (empty_ql _) (empty_ql _)).mono ?_
      rintro e w4 ⟨rfl, hB4⟩
      go_wp2_with fail
      go_ret
      exact ⟨rfl, below_trans HB3.out hB4⟩
    · cases hk : knownB kind
      · go_wp2_with fail
        refine (batch_unknown (HO.out.below HB1.out) hc hk).mono ?_
        rintro e w2 ⟨rfl, hB2⟩
        have HB2 : Hid (Below w.heap.size w w2) := below_trans HB1.out hB2
        clear hB2
        go_wp2_with fail
        refine (rbatch_unknown (HO.out.below HB2.out) hc hk).mono ?_
        rintro e w3 ⟨rfl, hB3⟩
        have HB3 : Hid (Below w.heap.size w w3) := below_trans HB2.out hB3
        clear hB3
        go_wp2_with fail
        refine (same_walk (l := []) (by simp [maxLen]) (empty_ql _) (empty_ql _)).mono ?_
        rintro e w4 ⟨rfl, hB4⟩
        go_wp2_with fail
        go_ret
        exact ⟨rfl, below_trans HB3.out hB4⟩
      · go_wp2_with fail
        refine (batch_good (HO.out.below HB1.out) (HR.out.below HB1.out) hc hk (by have := HS.out; omega)).mono ?_
        rintro e w2 ⟨g2, rfl, hM2, _, hg2, hB2⟩
        have HB2 : Hid (Below w.heap.size w w2) := below_trans HB1.out hB2
        have HM2 : Hid (Mq w2 g2 (batchT l kind recs)) := hM2
        have HG2 : Hid (g2 < w2.heap.size) := hg2
        clear hB2 hM2 hg2
        go_wp2_with fail
        refine (rbatch_good (HO.out.below HB2.out) (HR.out.below HB2.out) hc hk HS.out).mono ?_
        rintro e w3 ⟨g3, cap3, rfl, hO3, hB3⟩
        have HB3 : Hid (Below w.heap.size w w3) := below_trans HB2.out hB3
        have HM3 : Hid (Ql w3 (some ⟨g2, 0, none⟩) (batchT l kind recs)) := mq_ql (HM2.out.below hB3 HG2.out)
        have HN3 : Hid (Ql w3 (some ⟨g3, 0, none⟩) (batchT l kind recs)) := mq_ql hO3.2.2.2
        clear hB3 hO3
        go_wp2_with fail
        refine (same_walk HLN.out HM3.out HN3.out).mono ?_
        rintro e w4 ⟨rfl, hB4⟩
        go_wp2_with fail
        go_ret
        exact ⟨ret_bool (by simp), below_trans HB3.out hB4⟩
  · have h4i : (4096 : Int) < (recs.length : Int) := by omega
    go_enter Tryz.func3, Tryz.ntmps3
    go_wp2_with fail
    refine (awake_walk _).mono ?_
    rintro e w1 ⟨rfl, hB1⟩
    go_wp2_with fail
    go_ret
    exact ⟨rfl, hB1⟩
end Go.Proofs.YtfcpooihihklaaaGreat
