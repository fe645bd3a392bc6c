/- SpoutForward, walked. -/
import Derived.Test.YtjkhegekojflhaaNi
namespace Go.Proofs.Ytjkhegekojflhaa
open Ieee Go.RowKit

theorem fwd_self (a : List Int) : Fwd a a := ⟨rfl, fun _ _ => Int.le_refl _⟩
theorem fwd_trans {a b c : List Int} (h : Fwd a b) (k : Fwd b c) : Fwd a c := ⟨h.1.trans k.1, fun i hi => Int.le_trans (h.2 i hi) (k.2 i (by rw [← h.1]; exact hi))⟩
theorem fwd_both {a b : List Int} (h : Fwd a b) (k : Fwd b a) : a = b := nth_ext h.1 fun i hi => Int.le_antisymm (h.2 i hi) (k.2 i (by rw [← h.1]; exact hi))

set_option maxRecDepth 100000 in
set_option maxHeartbeats 1000000 in
theorem spoutforward_walk {av bv cv : Value} {a b c : List Int} {w : World} (ha : Nv w av a) (hb : Nv w bv b) (hc : Nv w cv c) :
    Calls Try.prog 7 #[av, bv, cv] w fun e w' => e = .returned (.bool true) ∧ Below w.heap.size w w' := by
  have HA : Hid (Nv w av a) := ha
  have HB : Hid (Nv w bv b) := hb
  have HC : Hid (Nv w cv c) := hc
  obtain ⟨ao, ca, rfl, _⟩ := ha.form
  obtain ⟨bo, cb, rfl, _⟩ := hb.form
  obtain ⟨co, cc, rfl, _⟩ := hc.form
  clear ha hb hc
  have HAA : Hid (fwdB a a = true) := Fwd.yes (fwd_self a)
  by_cases hab : Fwd a b
  · have HAB : Hid (fwdB a b = true) := Fwd.yes hab
    by_cases hba : Fwd b a
    · have HBA : Hid (fwdB b a = true) := Fwd.yes hba
      have HE : Hid (decide (a = b) = true) := decide_eq_true (fwd_both hab hba)
      by_cases hbc : Fwd b c
      · have HBC : Hid (fwdB b c = true) := Fwd.yes hbc
        have HAC : Hid (fwdB a c = true) := Fwd.yes (fwd_trans hab hbc)
        clear hab hba hbc
        go_enter Try.func7, Try.ntmps7
        go_wp2_with fail
        refine (awake_walk w).mono ?_
        rintro e w1 ⟨rfl, hB⟩
        have HB1 : Hid (Below w.heap.size w w1) := hB
        clear hB
        go_wp2_with fail
        refine (fwd_walk (HA.out.below HB1.out) (HB.out.below HB1.out)).mono ?_
        rw [HAB.out]
        rintro e w2 ⟨rfl, hB⟩
        have HB2 : Hid (Below w.heap.size w w2) := below_trans HB1.out hB
        clear hB
        go_wp2_with fail
        refine (fwd_walk (HB.out.below HB2.out) (HC.out.below HB2.out)).mono ?_
        rw [HBC.out]
        rintro e w3 ⟨rfl, hB⟩
        have HB3 : Hid (Below w.heap.size w w3) := below_trans HB2.out hB
        clear hB
        go_wp2_with fail
        refine (fwd_walk (HA.out.below HB3.out) (HA.out.below HB3.out)).mono ?_
        rw [HAA.out]
        rintro e w4 ⟨rfl, hB⟩
        have HB4 : Hid (Below w.heap.size w w4) := below_trans HB3.out hB
        clear hB
        go_wp2_with fail
        refine (fwd_walk (HA.out.below HB4.out) (HC.out.below HB4.out)).mono ?_
        rw [HAC.out]
        rintro e w5 ⟨rfl, hB⟩
        have HB5 : Hid (Below w.heap.size w w5) := below_trans HB4.out hB
        clear hB
        go_wp2_with fail
        refine (fwd_walk (HB.out.below HB5.out) (HA.out.below HB5.out)).mono ?_
        rw [HBA.out]
        rintro e w6 ⟨rfl, hB⟩
        have HB6 : Hid (Below w.heap.size w w6) := below_trans HB5.out hB
        clear hB
        go_wp2_with fail
        refine (ints_walk (HA.out.below HB6.out) (HB.out.below HB6.out)).mono ?_
        rw [HE.out]
        rintro e w7 ⟨rfl, hB⟩
        have HB7 : Hid (Below w.heap.size w w7) := below_trans HB6.out hB
        clear hB
        go_wp2_with fail
        go_ret
        exact ⟨rfl, HB7.out⟩
      · have HBC : Hid (fwdB b c = false) := Fwd.no hbc
        clear hab hba hbc
        go_enter Try.func7, Try.ntmps7
        go_wp2_with fail
        refine (awake_walk w).mono ?_
        rintro e w1 ⟨rfl, hB⟩
        have HB1 : Hid (Below w.heap.size w w1) := hB
        clear hB
        go_wp2_with fail
        refine (fwd_walk (HA.out.below HB1.out) (HB.out.below HB1.out)).mono ?_
        rw [HAB.out]
        rintro e w2 ⟨rfl, hB⟩
        have HB2 : Hid (Below w.heap.size w w2) := below_trans HB1.out hB
        clear hB
        go_wp2_with fail
        refine (fwd_walk (HB.out.below HB2.out) (HC.out.below HB2.out)).mono ?_
        rw [HBC.out]
        rintro e w3 ⟨rfl, hB⟩
        have HB3 : Hid (Below w.heap.size w w3) := below_trans HB2.out hB
        clear hB
        go_wp2_with fail
        refine (fwd_walk (HA.out.below HB3.out) (HA.out.below HB3.out)).mono ?_
        rw [HAA.out]
        rintro e w4 ⟨rfl, hB⟩
        have HB4 : Hid (Below w.heap.size w w4) := below_trans HB3.out hB
        clear hB
        go_wp2_with fail
        refine (fwd_walk (HB.out.below HB4.out) (HA.out.below HB4.out)).mono ?_
        rw [HBA.out]
        rintro e w5 ⟨rfl, hB⟩
        have HB5 : Hid (Below w.heap.size w w5) := below_trans HB4.out hB
        clear hB
        go_wp2_with fail
        refine (ints_walk (HA.out.below HB5.out) (HB.out.below HB5.out)).mono ?_
        rw [HE.out]
        rintro e w6 ⟨rfl, hB⟩
        have HB6 : Hid (Below w.heap.size w w6) := below_trans HB5.out hB
        clear hB
        go_wp2_with fail
        go_ret
        exact ⟨rfl, HB6.out⟩
    · have HBA : Hid (fwdB b a = false) := Fwd.no hba
      have HE : Hid (decide (a = b) = false) := decide_eq_false fun h => hba (h ▸ fwd_self a)
      by_cases hbc : Fwd b c
      · have HBC : Hid (fwdB b c = true) := Fwd.yes hbc
        have HAC : Hid (fwdB a c = true) := Fwd.yes (fwd_trans hab hbc)
        clear hab hba hbc
        go_enter Try.func7, Try.ntmps7
        go_wp2_with fail
        refine (awake_walk w).mono ?_
        rintro e w1 ⟨rfl, hB⟩
        have HB1 : Hid (Below w.heap.size w w1) := hB
        clear hB
        go_wp2_with fail
        refine (fwd_walk (HA.out.below HB1.out) (HB.out.below HB1.out)).mono ?_
        rw [HAB.out]
        rintro e w2 ⟨rfl, hB⟩
        have HB2 : Hid (Below w.heap.size w w2) := below_trans HB1.out hB
        clear hB
        go_wp2_with fail
        refine (fwd_walk (HB.out.below HB2.out) (HC.out.below HB2.out)).mono ?_
        rw [HBC.out]
        rintro e w3 ⟨rfl, hB⟩
        have HB3 : Hid (Below w.heap.size w w3) := below_trans HB2.out hB
        clear hB
        go_wp2_with fail
        refine (fwd_walk (HA.out.below HB3.out) (HA.out.below HB3.out)).mono ?_
        rw [HAA.out]
        rintro e w4 ⟨rfl, hB⟩
        have HB4 : Hid (Below w.heap.size w w4) := below_trans HB3.out hB
        clear hB
        go_wp2_with fail
        refine (fwd_walk (HA.out.below HB4.out) (HC.out.below HB4.out)).mono ?_
        rw [HAC.out]
        rintro e w5 ⟨rfl, hB⟩
        have HB5 : Hid (Below w.heap.size w w5) := below_trans HB4.out hB
        clear hB
        go_wp2_with fail
        refine (fwd_walk (HB.out.below HB5.out) (HA.out.below HB5.out)).mono ?_
        rw [HBA.out]
        rintro e w6 ⟨rfl, hB⟩
        have HB6 : Hid (Below w.heap.size w w6) := below_trans HB5.out hB
        clear hB
        go_wp2_with fail
        refine (ints_walk (HA.out.below HB6.out) (HB.out.below HB6.out)).mono ?_
        rw [HE.out]
        rintro e w7 ⟨rfl, hB⟩
        have HB7 : Hid (Below w.heap.size w w7) := below_trans HB6.out hB
        clear hB
        go_wp2_with fail
        go_ret
        exact ⟨rfl, HB7.out⟩
      · have HBC : Hid (fwdB b c = false) := Fwd.no hbc
        clear hab hba hbc
        go_enter Try.func7, Try.ntmps7
        go_wp2_with fail
        refine (awake_walk w).mono ?_
        rintro e w1 ⟨rfl, hB⟩
        have HB1 : Hid (Below w.heap.size w w1) := hB
        clear hB
        go_wp2_with fail
        refine (fwd_walk (HA.out.below HB1.out) (HB.out.below HB1.out)).mono ?_
        rw [HAB.out]
        rintro e w2 ⟨rfl, hB⟩
        have HB2 : Hid (Below w.heap.size w w2) := below_trans HB1.out hB
        clear hB
        go_wp2_with fail
        refine (fwd_walk (HB.out.below HB2.out) (HC.out.below HB2.out)).mono ?_
        rw [HBC.out]
        rintro e w3 ⟨rfl, hB⟩
        have HB3 : Hid (Below w.heap.size w w3) := below_trans HB2.out hB
        clear hB
        go_wp2_with fail
        refine (fwd_walk (HA.out.below HB3.out) (HA.out.below HB3.out)).mono ?_
        rw [HAA.out]
        rintro e w4 ⟨rfl, hB⟩
        have HB4 : Hid (Below w.heap.size w w4) := below_trans HB3.out hB
        clear hB
        go_wp2_with fail
        refine (fwd_walk (HB.out.below HB4.out) (HA.out.below HB4.out)).mono ?_
        rw [HBA.out]
        rintro e w5 ⟨rfl, hB⟩
        have HB5 : Hid (Below w.heap.size w w5) := below_trans HB4.out hB
        clear hB
        go_wp2_with fail
        refine (ints_walk (HA.out.below HB5.out) (HB.out.below HB5.out)).mono ?_
        rw [HE.out]
        rintro e w6 ⟨rfl, hB⟩
        have HB6 : Hid (Below w.heap.size w w6) := below_trans HB5.out hB
        clear hB
        go_wp2_with fail
        go_ret
        exact ⟨rfl, HB6.out⟩
  · have HAB : Hid (fwdB a b = false) := Fwd.no hab
    have HE : Hid (decide (a = b) = false) := decide_eq_false fun h => hab (h ▸ fwd_self a)
    obtain ⟨B, hBC⟩ : ∃ B, fwdB b c = B := ⟨_, rfl⟩
    have HBC : Hid (fwdB b c = B) := hBC
    clear hab hBC
    go_enter Try.func7, Try.ntmps7
    go_wp2_with fail
    refine (awake_walk w).mono ?_
    rintro e w1 ⟨rfl, hB⟩
    have HB1 : Hid (Below w.heap.size w w1) := hB
    clear hB
    go_wp2_with fail
    refine (fwd_walk (HA.out.below HB1.out) (HB.out.below HB1.out)).mono ?_
    rw [HAB.out]
    rintro e w2 ⟨rfl, hB⟩
    have HB2 : Hid (Below w.heap.size w w2) := below_trans HB1.out hB
    clear hB
    go_wp2_with fail
    refine (fwd_walk (HB.out.below HB2.out) (HC.out.below HB2.out)).mono ?_
    rw [HBC.out]
    rintro e w3 ⟨rfl, hB⟩
    have HB3 : Hid (Below w.heap.size w w3) := below_trans HB2.out hB
    clear hB
    go_wp2_with fail
    refine (fwd_walk (HA.out.below HB3.out) (HA.out.below HB3.out)).mono ?_
    rw [HAA.out]
    rintro e w4 ⟨rfl, hB⟩
    have HB4 : Hid (Below w.heap.size w w4) := below_trans HB3.out hB
    clear hB
    go_wp2_with fail
    refine (ints_walk (HA.out.below HB4.out) (HB.out.below HB4.out)).mono ?_
    rw [HE.out]
    rintro e w5 ⟨rfl, hB⟩
    have HB5 : Hid (Below w.heap.size w w5) := below_trans HB4.out hB
    clear hB
    go_wp2_with fail
    go_ret
    exact ⟨rfl, HB5.out⟩

end Go.Proofs.Ytjkhegekojflhaa
