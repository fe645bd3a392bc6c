/- The walk of FoldAdd. -/
import Derived.Test.YtfcpooihihklaaaKp
namespace Go.Proofs.Ytfcpooihihklaaa
open Ieee Go.RowKit

theorem own_ql {w : World} {base e n : Nat} {v : Value} {t : List Pr} (h : w.ownsRow base e 3 v n (flatQ t)) : ∃ ao cap, v = .slice ao t.length cap ∧ Ql w ao t := by
  have hn : n = t.length := by have := h.1; rw [flatQ_len] at this; omega
  subst hn
  rcases h.2 with ⟨rfl, h0⟩ | ⟨g, cap, cur, rfl, _⟩
  · have : t = [] := List.eq_nil_of_length_eq_zero h0
    subst this
    exact ⟨none, 0, rfl, fun i hi => by simp at hi⟩
  · exact ⟨_, cap, rfl, mq_ql (own_mq h)⟩
theorem empty_ql (w : World) : Ql w none [] := fun i hi => by simp at hi

set_option maxRecDepth 100000 in
set_option maxHeartbeats 4000000 in
theorem foldadd_walk {av bv : Value} {a b : List Pr} {kind : Int} {w : World} (ha : Qv w av a) (hb : Qv w bv b) (hsa : a.length ≤ 1048576) (hsb : b.length ≤ 1048576) :
    Calls Try.prog 3 #[.int .i64 kind, av, bv] w fun e w' => e = .returned (.bool true) ∧ Below w.heap.size w w' := by
  have HLA : Hid (a.length ≤ maxLen) := ha.len
  have HLB : Hid (b.length ≤ maxLen) := hb.len
  have HVA : Hid (Qv w av a) := ha
  have HVB : Hid (Qv w bv b) := hb
  obtain ⟨⟨ao, ca, rfl, _, _, _, a4⟩, a5⟩ := ha
  obtain ⟨⟨bo, cb, rfl, _, _, _, b4⟩, b5⟩ := hb
  have HA : Hid (Ql w ao a) := a4
  have HB : Hid (Ql w bo b) := b4
  have HOA : Hid (okT a) := a5
  have HOB : Hid (okT b) := b5
  have HS1 : Hid ((a.length + b.length) * 24 ≤ 281474976710656) := by show _ ≤ _; omega
  have HS2 : Hid ((a.length + b.length + 1) * 24 ≤ 140737488355328) := by show _ ≤ _; omega
  have HLN : Hid ((addT kind a b).length ≤ maxLen) := by have := adds_len kind [] (a ++ b); simp at this; show (addsT kind [] (a ++ b)).length ≤ _; simp only [maxLen]; omega
  clear a4 b4 a5 b5 hsa hsb
  go_enter Try.func3, Try.ntmps3
  go_wp2_with fail
  refine (awake_walk _).mono ?_
  rintro e w1 ⟨rfl, hB1⟩
  have HB1 : Hid (Below w.heap.size w w1) := hB1
  clear hB1
  go_wp2_with fail
  refine (sound_walk HLA.out (HA.out.below HB1.out)).mono ?_
  rintro e w2 ⟨rfl, hB2⟩
  have HB2 : Hid (Below w.heap.size w w2) := below_trans HB1.out hB2
  clear hB2
  go_wp2_with fail
  refine (rsound_walk HLA.out (HA.out.below HB2.out)).mono ?_
  rintro e w3 ⟨rfl, hB3⟩
  have HB3 : Hid (Below w.heap.size w w3) := below_trans HB2.out hB3
  clear hB3
  go_wp2_with fail
  refine (sound_walk HLB.out (HB.out.below HB3.out)).mono ?_
  rintro e w4 ⟨rfl, hB4⟩
  have HB4 : Hid (Below w.heap.size w w4) := below_trans HB3.out hB4
  clear hB4
  go_wp2_with fail
  refine (rsound_walk HLB.out (HB.out.below HB4.out)).mono ?_
  rintro e w5 ⟨rfl, hB5⟩
  have HB5 : Hid (Below w.heap.size w w5) := below_trans HB4.out hB5
  clear hB5
  cases hk : knownB kind
  · go_wp2_with fail
    refine (add_unknown hk).mono ?_
    rintro e w6 ⟨rfl, hB6⟩
    have HB6 : Hid (Below w.heap.size w w6) := below_trans HB5.out hB6
    clear hB6
    go_wp2_with fail
    refine (radd_unknown hk).mono ?_
    rintro e w7 ⟨rfl, hB7⟩
    have HB7 : Hid (Below w.heap.size w w7) := below_trans HB6.out hB7
    clear hB7
    go_wp2_with fail
    refine (same_walk (l := []) (by simp [maxLen]) (empty_ql _) (empty_ql _)).mono ?_
    rintro e w8 ⟨rfl, hB8⟩
    go_wp2_with fail
    go_ret
    exact ⟨rfl, below_trans HB7.out hB8⟩
  · cases hs : tabB a && tabB b
    · go_wp2_with fail
      refine (add_order (HVA.out.below HB5.out) (HVB.out.below HB5.out) hk hs).mono ?_
      rintro e w6 ⟨rfl, hB6⟩
      have HB6 : Hid (Below w.heap.size w w6) := below_trans HB5.out hB6
      clear hB6
      go_wp2_with fail
      refine (radd_order (HVA.out.below HB6.out) (HVB.out.below HB6.out) hk hs).mono ?_
      rintro e w7 ⟨rfl, hB7⟩
      have HB7 : Hid (Below w.heap.size w w7) := below_trans HB6.out hB7
      clear hB7
      go_wp2_with fail
      refine (same_walk (l := []) (by simp [maxLen]) (empty_ql _) (empty_ql _)).mono ?_
      rintro e w8 ⟨rfl, hB8⟩
      go_wp2_with fail
      go_ret
      exact ⟨rfl, below_trans HB7.out hB8⟩
    · rw [Bool.and_eq_true] at hs
      have HTA : Hid (tabB a = true) := hs.1
      have HTB : Hid (tabB b = true) := hs.2
      have HME : Hid (mrg kind a b = addT kind a b) := mrg_add hk (tab_iff.1 hs.1).1 (tab_iff.1 hs.2).1 (tab_iff.1 hs.1).2 (tab_iff.1 hs.2).2 HOA.out HOB.out
      clear hs
      go_wp2_with fail
      refine (add_good (HVA.out.below HB5.out) (HVB.out.below HB5.out) hk HTA.out HTB.out HS1.out).mono ?_
      rintro e w6 ⟨g6, rfl, hM6, _, hg6, hB6⟩
      have HB6 : Hid (Below w.heap.size w w6) := below_trans HB5.out hB6
      have HM6 : Hid (Mq w6 g6 (addT kind a b)) := hM6
      have HG6 : Hid (g6 < w6.heap.size) := hg6
      clear hB6 hM6 hg6
      go_wp2_with fail
      refine (radd_good (HVA.out.below HB6.out) (HVB.out.below HB6.out) hk HTA.out HTB.out HS2.out).mono ?_
      rw [HME.out]
      rintro e w7 ⟨v7, rfl, hO7, hB7⟩
      have HB7 : Hid (Below w.heap.size w w7) := below_trans HB6.out hB7
      have HM7 : Hid (Ql w7 (some ⟨g6, 0, none⟩) (addT kind a b)) := mq_ql (HM6.out.below hB7 HG6.out)
      obtain ⟨vo, vc, hve, hq7⟩ := own_ql hO7
      subst hve
      have HQ7 : Hid (Ql w7 vo (addT kind a b)) := hq7
      clear hB7 hO7 hq7
      go_wp2_with fail
      refine (same_walk HLN.out HM7.out HQ7.out).mono ?_
      rintro e w8 ⟨rfl, hB8⟩
      go_wp2_with fail
      go_ret
      exact ⟨rfl, below_trans HB7.out hB8⟩
end Go.Proofs.Ytfcpooihihklaaa
