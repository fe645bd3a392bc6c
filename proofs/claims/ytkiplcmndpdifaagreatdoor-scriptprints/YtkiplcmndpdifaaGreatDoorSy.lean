/- The law's compares: the same steps, the same plan. -/
import Derived.Test.YtkiplcmndpdifaaGreatDoorSx

namespace Go.Proofs.YtkiplcmndpdifaaGreatDoor

open Go.RowKit

attribute [local go_sem] run_store_float run_bits


theorem ret_bool21 {a b : Bool} (h : a = b) : Ending.returned (.bool a) = .returned (.bool b) := by rw [h]


theorem rsame_walk (a b : Nat) (w : World) :
    Calls Tryz.prog 20 #[.float .f64 a, .float .f64 b] w fun e w' => e = .returned (.bool (decide (a = b))) ∧ w' = w := by
  go_enter Tryz.func20, Tryz.ntmps20
  go_wp2_with fail
  go_ret
  exact ⟨ret_bool21 (by rw [Bool.eq_iff_iff]; simp; omega), rfl⟩


set_option maxRecDepth 100000 in
set_option maxHeartbeats 8000000 in
theorem same_walk {l : List Sp} {av bv : Value} {w : World} (ha : SVw w av l) (hb : SVw w bv l) :
    Calls Tryz.prog 9 #[av, bv] w fun e w' => e = .returned (.bool true) ∧ Below w.heap.size w w' := by
  obtain ⟨aa, ac, rfl, hal, ham, _, hag⟩ := ha
  obtain ⟨ba, bc, rfl, _, _, _, hbg⟩ := hb
  have hli : (l.length : Int) < 9223372036854775808 := by simp only [maxLen] at ham; omega
  have HA : Hid (Gl w aa 5 stF l) := hag
  have HB : Hid (Gl w ba 5 stF l) := hbg
  clear hal ham hag hbg
  go_enter Tryz.func9, Tryz.ntmps9
  go_wp2_with fail
  go_loopw [5] (fun iv wr => ∃ k : Nat, k ≤ l.length ∧ iv = .int .i64 k ∧ Below w.heap.size w wr) (fun iv _ => l.length - (intOf iv).toNat)
  case atStart => exact ⟨0, Nat.zero_le _, rfl, below_same _⟩
  case round =>
    obtain ⟨k, hk, rfl, hB⟩ := hrel
    have HW : Hid (Below w.heap.size w wr) := hB
    by_cases hlt : k < l.length
    · obtain ⟨s, hs⟩ : ∃ s, l[k]? = some s := ⟨_, List.getElem?_eq_getElem hlt⟩
      obtain ⟨b, off, rfl, c0, c1, c2, c3, c4⟩ := gv_cells5 (HA.out.below (fun _ => rfl) hB) hs
      obtain ⟨d, doff, rfl, d0, d1, d2, d3, d4⟩ := gv_cells5 (HB.out.below (fun _ => rfl) hB) hs
      have hbl : b < wr.heap.size := cell_lt c0
      have hbn : ¬ b = wr.heap.size := by omega
      have hdl : d < wr.heap.size := cell_lt d0
      have hdn : ¬ d = wr.heap.size := by omega
      have hdn2 : ¬ d = wr.heap.size + 1 := by omega
      clear hB hs
      go_wp2_with fail
      refine (rsame_walk _ _ _).mono ?_
      rintro e9 w3 ⟨rfl, rfl⟩
      rw [decide_eq_true rfl]
      clear c0 c1 c2 c3 c4 d0 d1 d2 d3 d4 hbl hbn hdl hdn hdn2
      go_wp2_with fail
      exact ⟨⟨k + 1, by omega, by (congr 1), below_trans (below_trans HW.out (below_alloc _ _)) (below_alloc _ _)⟩, by simp [intOf]; omega⟩
    · have hni : ¬ (k : Int) < (l.length : Int) := by omega
      clear hB
      go_wp2_with fail
      go_ret
      exact ⟨rfl, HW.out⟩
end Go.Proofs.YtkiplcmndpdifaaGreatDoor


