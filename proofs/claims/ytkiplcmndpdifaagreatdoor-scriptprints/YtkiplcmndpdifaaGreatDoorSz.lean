/- The law's compares: the same plan. -/
import Derived.Test.YtkiplcmndpdifaaGreatDoorSy

namespace Go.Proofs.YtkiplcmndpdifaaGreatDoor

open Go.RowKit



theorem alloc_sz (w : World) (o : Obj) : (w.alloc o).heap.size = w.heap.size + 1 := by show (w.heap.push o).size = _; exact Array.size_push _


set_option maxRecDepth 100000 in
set_option maxHeartbeats 8000000 in
theorem plans_walk {p : Pl} {l : List Og} {av bv : Value} {w : World} (ha : OVw w av l) (hb : OVw w bv l) :
    Calls Tryz.prog 8 #[PlV p av, PlV p bv] w fun e w' => e = .returned (.bool true) ∧ Below w.heap.size w w' := by
  obtain ⟨aa, ac, rfl, hal, ham, _, hag⟩ := ha
  obtain ⟨ba, bc, rfl, _, _, _, hbg⟩ := hb
  have hli : (l.length : Int) < 9223372036854775808 := by simp only [maxLen] at ham; omega
  obtain ⟨w2, hw2⟩ : ∃ w2, w2 = (w.alloc (.cells #[.int .i64 p.P, .int .i64 p.S, .int .i64 p.W, .slice aa l.length ac, .int .i64 p.A, .int .i64 p.B, .int .i64 p.N, .int .i64 p.G] 25)).alloc (.cells #[.int .i64 p.P, .int .i64 p.S, .int .i64 p.W, .slice ba l.length bc, .int .i64 p.A, .int .i64 p.B, .int .i64 p.N, .int .i64 p.G] 25) := ⟨_, rfl⟩
  obtain ⟨g, hg⟩ : ∃ g, g = w.heap.size := ⟨_, rfl⟩
  obtain ⟨g2, hg2⟩ : ∃ g, g = w.heap.size + 1 := ⟨_, rfl⟩
  have hs1 : (w.alloc (.cells #[.int .i64 p.P, .int .i64 p.S, .int .i64 p.W, .slice aa l.length ac, .int .i64 p.A, .int .i64 p.B, .int .i64 p.N, .int .i64 p.G] 25)).heap.size = w.heap.size + 1 := alloc_sz _ _
  have HB2 : Hid (Below w.heap.size w w2) := by rw [hw2]; exact below_trans (below_alloc _ _) (below_alloc _ _)
  have hG : w2.heap[g]? = some (.cells (PlC p (.slice aa l.length ac)) 25 (0, 0)) := by
    rw [hw2, hg]
    rw [(below_alloc (w.alloc _) _).block _ (by rw [hs1]; omega)]
    exact alloc_at rfl
  have hG2 : w2.heap[g2]? = some (.cells (PlC p (.slice ba l.length bc)) 25 (0, 0)) := by
    rw [hw2, hg2]
    exact alloc_at hs1.symm
  have HG : Hid (w2.heap[g]? = some (.cells (PlC p (.slice aa l.length ac)) 25 (0, 0)) ∧ w2.heap[g2]? = some (.cells (PlC p (.slice ba l.length bc)) 25 (0, 0))) := ⟨hG, hG2⟩
  have HW2 : Hid (w2 = (w.alloc (.cells #[.int .i64 p.P, .int .i64 p.S, .int .i64 p.W, .slice aa l.length ac, .int .i64 p.A, .int .i64 p.B, .int .i64 p.N, .int .i64 p.G] 25)).alloc (.cells #[.int .i64 p.P, .int .i64 p.S, .int .i64 p.W, .slice ba l.length bc, .int .i64 p.A, .int .i64 p.B, .int .i64 p.N, .int .i64 p.G] 25) ∧ g = w.heap.size ∧ g2 = w.heap.size + 1) := ⟨hw2, hg, hg2⟩
  have HA : Hid (Gl w aa 3 opF l) := hag
  have HB : Hid (Gl w ba 3 opF l) := hbg
  unfold PlV
  clear hal ham hag hbg hw2 hg hg2 hs1 hG hG2
  go_enter Tryz.func8, Tryz.ntmps8
  go_wp2_with fail
  rw [← HW2.out.2.2, ← HW2.out.2.1, ← HW2.out.1]
  go_loopw [5] (fun iv wr => ∃ k : Nat, k ≤ l.length ∧ iv = .int .i64 k ∧ Below w2.heap.size w2 wr) (fun iv _ => l.length - (intOf iv).toNat)
  case atStart => exact ⟨0, Nat.zero_le _, rfl, below_same _⟩
  case round =>
    obtain ⟨k, hk, rfl, hB⟩ := hrel
    have HW : Hid (Below w2.heap.size w2 wr) := hB
    have c3 : wr.cell? ⟨g, 3, none⟩ = some (.slice aa l.length ac) := blk_cell (blk_below HG.out.1 hB) 3
    have e3 : wr.cell? ⟨g2, 3, none⟩ = some (.slice ba l.length bc) := blk_cell (blk_below HG.out.2 hB) 3
    by_cases hlt : k < l.length
    · obtain ⟨s, hs⟩ : ∃ s, l[k]? = some s := ⟨_, List.getElem?_eq_getElem hlt⟩
      obtain ⟨b, off, rfl, k0, k1, k2⟩ := gv_cells3 (HA.out.below (fun _ => rfl) (below_trans HB2.out hB)) hs
      obtain ⟨d, doff, rfl, d0, d1, d2⟩ := gv_cells3 (HB.out.below (fun _ => rfl) (below_trans HB2.out hB)) hs
      clear hB hs
      go_wp2_with fail
      go_quiet ((go_at_call 20; exact Calls.quiet_of_same (rsame_walk _ _ _)))
      go_wp2_with fail
      go_roundw
      case rel => exact ⟨k + 1, by omega, by go_num, below_trans HW.out (below_drewN _ _)⟩
      case measure => simp [intOf]; omega
    · have hni : ¬ (k : Int) < (l.length : Int) := by omega
      clear hB
      go_wp2_with fail
      go_ret
      exact ⟨rfl, below_trans HB2.out HW.out⟩
end Go.Proofs.YtkiplcmndpdifaaGreatDoor


