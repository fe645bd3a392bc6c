/- JournalGoes, walked. -/
import Derived.Test.YtcbkeicgnfgpnaaJs

namespace Go.Proofs.Ytcbkeicgnfgpnaa

open Ieee Go.RowKit

set_option maxRecDepth 100000 in
set_option maxHeartbeats 32000000 in
theorem journalgoes_walk {w : World} {tv : Value} {ts : List Tr} (a0 : Int) (ht : Tus w tv ts) :
    Calls Try.prog 5 #[.int .i64 a0, tv] w fun e w' => e = .returned (.bool true) ∧ Below w.heap.size w w' := by
  have HT : Hid (Tus w tv ts) := ht
  obtain ⟨ta, tc, rfl, htl, htm, _⟩ := ht
  have htl : (ts.length : Int) ≤ 9223372036854775807 := by unfold maxLen at htm; omega
  clear htm
  go_enter Try.func5, Try.ntmps5
  go_wp2_with fail
  refine (awake18_walk w).mono ?_
  rintro e wz ⟨rfl, hBz⟩
  have HBZ : Hid (Below w.heap.size w wz) := hBz
  have HTZ : Hid (Tus wz (.slice ta ts.length tc) ts) := HT.out.below hBz
  clear hBz
  go_wp2_with fail
  refine (new_walk (n := 2) (by omega) (by omega)).mono ?_
  rintro e w1 ⟨v, D1, rfl, hD1, hB1, hx1⟩
  obtain ⟨sb, hv⟩ : ∃ sb, v = .pointer (some ⟨sb, 0, none⟩) := by obtain ⟨sb, _, _, e, _⟩ := hD1; exact ⟨sb, e⟩
  subst hv
  have HD1 : Hid (Dsk 79 D1 w1 (.pointer (some ⟨sb, 0, none⟩)) (loadS (List.replicate 2 []))) := hD1
  have HB1 : Hid (Below wz.heap.size wz w1 ∧ ∀ x, D1 x → wz.heap.size ≤ x) := ⟨hB1, hx1⟩
  clear hD1 hB1 hx1
  go_wp2_with fail
  refine (lw_format HD1.out HB1.out.1 HB1.out.2 (by show (0 : Nat) < _; omega) a0).mono ?_
  by_cases hr : refJ a0 = 0
  rotate_left
  · have hI : fmtI (loadS (List.replicate 2 [])) a0 = 1 := if_pos hr
    rintro e w2 ⟨hb2, ⟨_, rfl⟩ | ⟨h0, _⟩⟩
    rotate_left
    · rw [hI] at h0; exact absurd h0 (by decide)
    rw [hI]
    have HB2 : Hid (Below wz.heap.size wz w2) := hb2
    have hor : a0 < 1 ∨ 4 < a0 := by
      unfold refJ at hr
      split at hr
      · assumption
      · exact absurd rfl hr
    clear hb2 hI hr
    rcases hor with h1 | h4
    · go_wp2_with fail
      go_ret
      exact ⟨rfl, below_trans HBZ.out HB2.out⟩
    · have h1 : ¬ a0 < 1 := by omega
      go_wp2_with fail
      go_ret
      exact ⟨rfl, below_trans HBZ.out HB2.out⟩
  obtain ⟨p, rfl, hp1, hp4⟩ := refJ_ok hr
  clear hr
  obtain ⟨g0, g1, g2, g3⟩ := gd_new hp1 hp4
  rintro e w2 ⟨hb2, ⟨hne, _⟩ | ⟨_, jb, rfl, hL2⟩⟩
  · exact absurd g0 hne
  rw [Int.toNat_natCast] at hL2
  have HL2 : Hid (Lw wz (fun _ => False) sb jb p ⟨1, n0 p, 0, false⟩ (fmtS (loadS (List.replicate 2 [])) p) w2) := hL2
  have HG2 : Hid (Gd p ⟨1, n0 p, 0, false⟩ (fmtS (loadS (List.replicate 2 [])) p)) := g3
  have HWR2 : Hid ((fmtS (loadS (List.replicate 2 [])) p).wr = 2 ∧ (fmtS (loadS (List.replicate 2 [])) p).rd = 0) := ⟨g1, g2⟩
  clear hL2 hb2 g0 g1 g2 g3 HD1 HB1
  go_wp2_with fail
  refine (lw_note HL2.out).mono ?_
  rintro e w3 ⟨pa, pc, ca, cc, rfl, ho1, ho2, hB3⟩
  have HFI : Hid (∃ A J S pv cv, Fit wz A sb jb w3.heap.size p 0 J S pv cv (w3.alloc (Obj.cells #[.int .i64 (n0 p).b, .slice pa (n0 p).p.length pc, .slice ca (n0 p).c.length cc, .int .i64 (n0 p).a] 41))) := by
    have hs := alloc_size w3 (Obj.cells #[.int .i64 (n0 p).b, .slice pa (n0 p).p.length pc, .slice ca (n0 p).c.length cc, .int .i64 (n0 p).a] 41)
    have hb := below_trans hB3 (below_alloc w3 (Obj.cells #[.int .i64 (n0 p).b, .slice pa (n0 p).p.length pc, .slice ca (n0 p).c.length cc, .int .i64 (n0 p).a] 41))
    have hz := HL2.out.bel.size
    refine ⟨_, _, _, _, _, ⟨HL2.out.more hb, HG2.out, ⟨.inr ⟨hB3.size, by rw [hs]; omega⟩, alloc_at rfl, ⟨(own_nv ho1 (zeros_in64 p)).below (below_alloc _ _), own_inA ho1 fun x h1 h2 => ⟨.inr ⟨h1, by rw [hs]; omega⟩, by omega⟩⟩, ⟨(own_nv ho2 (zeros_in64 p)).below (below_alloc _ _), own_inA ho2 fun x h1 h2 => ⟨.inr ⟨h1, by rw [hs]; omega⟩, by omega⟩⟩⟩, by show 1 ≤ _; omega, by show (0 : Int) ≤ _; omega, by show (0 : Int) ≤ _; omega, by rw [HWR2.out.1]; omega, by rw [HWR2.out.2]; omega, fun x hx => ?_⟩⟩
    rcases hx with hx | hx
    · exact hx.elim
    · omega
  obtain ⟨w4, hw4⟩ : ∃ w4, w4 = w3.alloc (Obj.cells #[.int .i64 (n0 p).b, .slice pa (n0 p).p.length pc, .slice ca (n0 p).c.length cc, .int .i64 (n0 p).a] 41) := ⟨_, rfl⟩
  have HW4 : Hid (w4 = w3.alloc (Obj.cells #[.int .i64 (n0 p).b, .slice pa (n0 p).p.length pc, .slice ca (n0 p).c.length cc, .int .i64 (n0 p).a] 41)) := hw4
  rw [← hw4] at HFI
  have HP4 : Hid (Nv w4 (.slice pa (n0 p).p.length pc) (zeros p)) := by show Nv _ _ _; rw [hw4]; exact (own_nv ho1 (zeros_in64 p)).below (below_alloc _ _)
  have HC4 : Hid (Nv w4 (.slice ca (n0 p).c.length cc) (zeros p)) := by show Nv _ _ _; rw [hw4]; exact (own_nv ho2 (zeros_in64 p)).below (below_alloc _ _)
  have HNC : Hid (∀ wx, Below w4.heap.size w4 wx → wx.cell? ⟨w3.heap.size, 0, none⟩ = some (.int .i64 0) ∧ wx.cell? ⟨w3.heap.size, 1, none⟩ = some (.slice pa (n0 p).p.length pc) ∧ wx.cell? ⟨w3.heap.size, 2, none⟩ = some (.slice ca (n0 p).c.length cc) ∧ wx.cell? ⟨w3.heap.size, 3, none⟩ = some (.int .i64 0)) := fun wx hb => by
    have h4 : w4.heap[w3.heap.size]? = some (.cells #[.int .i64 (n0 p).b, .slice pa (n0 p).p.length pc, .slice ca (n0 p).c.length cc, .int .i64 (n0 p).a] 41 (0, 0)) := by rw [hw4]; exact alloc_at rfl
    have hb := blk_below h4 hb
    exact ⟨by rw [blk_cell hb]; rfl, by rw [blk_cell hb]; rfl, by rw [blk_cell hb]; rfl, by rw [blk_cell hb]; rfl⟩
  have HB4 : Hid (Below wz.heap.size wz w4) := by
    obtain ⟨A, J, S, pv, cv, hF⟩ := HFI.out
    exact hF.lw.bel
  obtain ⟨Z, hZ⟩ : ∃ Z, Z = madeCells #[Value.int .i64 0] (p * 1) := ⟨_, rfl⟩
  have hmk := make_ints hp4
  rw [← hZ] at hmk
  have HZ : Hid (Z = madeCells #[Value.int .i64 0] (p * 1)) := hZ
  clear ho1 ho2 hB3 hw4 hZ
  go_upto_region 8 with fail
  rw [← HW4.out]
  refine wp_region_noPanic ?_
  refine wp_region_held_drew (S := fun wx => wx.cell? ⟨w3.heap.size, 0, none⟩ = some (.int .i64 0) ∧ wx.cell? ⟨w3.heap.size, 1, none⟩ = some (.slice pa (n0 p).p.length pc) ∧ wx.cell? ⟨w3.heap.size, 2, none⟩ = some (.slice ca (n0 p).c.length cc) ∧ wx.cell? ⟨w3.heap.size, 3, none⟩ = some (.int .i64 0)) (by kernel_rfl) ?_ (fun hHeld => ?_)
  · exact (HNC.out _ (below_drewN w4 1))
  refine wpAnyH_take (i := 0) (oi := ⟨some 56, _, _, _, _, _⟩) (v := ?_) rfl (by kernel_rfl) (by kernel_rfl) (by kernel_rfl) (fun _ _ _ h => h) (Or.inl ⟨by rfl, ?_⟩) hHeld ?_
  rotate_left
  · intro w hSw; (try dsimp only at hSw); go_simp; all_goals (with_reducible rfl)
  try simp only [Act.put, List.setIfInBounds_toArray, List.set_cons_zero, List.set_cons_succ]
  refine wpAnyH_take (i := 1) (oi := ⟨some 57, _, _, _, _, _⟩) (v := ?_) rfl (by kernel_rfl) (by kernel_rfl) (by kernel_rfl) (fun _ _ _ h => h) (Or.inl ⟨by rfl, ?_⟩) hHeld ?_
  rotate_left
  · intro w hSw; (try dsimp only at hSw); go_simp; all_goals (with_reducible rfl)
  try simp only [Act.put, List.setIfInBounds_toArray, List.set_cons_zero, List.set_cons_succ]
  refine wpAnyH_take (i := 2) (oi := ⟨some 58, _, _, _, _, _⟩) (v := ?_) rfl (by kernel_rfl) (by kernel_rfl) (by kernel_rfl) (fun _ _ _ h => h) (Or.inl ⟨by rfl, ?_⟩) hHeld ?_
  rotate_left
  · intro w hSw; (try dsimp only at hSw); go_simp; all_goals (with_reducible rfl)
  try simp only [Act.put, List.setIfInBounds_toArray, List.set_cons_zero, List.set_cons_succ]
  refine wpAnyH_take (i := 3) (oi := ⟨some 59, _, _, _, _, _⟩) (v := ?_) rfl (by kernel_rfl) (by kernel_rfl) (by kernel_rfl) (fun _ _ _ h => h) (Or.inl ⟨by rfl, ?_⟩) hHeld ?_
  rotate_left
  · intro w hSw; (try dsimp only at hSw); go_simp; all_goals (with_reducible rfl)
  try simp only [Act.put, List.setIfInBounds_toArray, List.set_cons_zero, List.set_cons_succ]
  refine wpAnyH_take (i := 4) (oi := ⟨some 60, _, _, _, _, _⟩) (v := ?_) rfl (by kernel_rfl) (by kernel_rfl) (by kernel_rfl) (fun _ _ _ h => h) (Or.inl ⟨by rfl, ?_⟩) hHeld ?_
  rotate_left
  · intro w hSw; (try dsimp only at hSw); go_simp; all_goals (with_reducible rfl)
  try simp only [Act.put, List.setIfInBounds_toArray, List.set_cons_zero, List.set_cons_succ]
  refine wpAnyH_take (i := 5) (oi := ⟨some 61, _, _, _, _, _⟩) (v := ?_) rfl (by kernel_rfl) (by kernel_rfl) (by kernel_rfl) (fun _ _ _ h => h) (Or.inl ⟨by rfl, ?_⟩) hHeld ?_
  rotate_left
  · intro w hSw; (try dsimp only at hSw); go_simp; all_goals (with_reducible rfl)
  try simp only [Act.put, List.setIfInBounds_toArray, List.set_cons_zero, List.set_cons_succ]
  refine wpAnyH_take (i := 6) (oi := ⟨some 62, _, _, _, _, _⟩) (v := ?_) rfl (by kernel_rfl) (by kernel_rfl) (by kernel_rfl) (fun _ _ _ h => h) (Or.inl ⟨by rfl, ?_⟩) hHeld ?_
  rotate_left
  · intro w hSw; (try dsimp only at hSw); go_simp; all_goals (with_reducible rfl)
  try simp only [Act.put, List.setIfInBounds_toArray, List.set_cons_zero, List.set_cons_succ]
  refine wpAnyH_take (i := 7) (oi := ⟨some 63, _, _, _, _, _⟩) (v := ?_) rfl (by kernel_rfl) (by kernel_rfl) (by kernel_rfl) (fun _ _ _ h => h) (Or.inl ⟨by rfl, ?_⟩) hHeld ?_
  rotate_left
  · intro w hSw; (try dsimp only at hSw); go_simp; all_goals (with_reducible rfl)
  try simp only [Act.put, List.setIfInBounds_toArray, List.set_cons_zero, List.set_cons_succ]
  refine wpAnyH_take (i := 8) (oi := ⟨some 64, _, _, _, _, _⟩) (v := ?_) rfl (by kernel_rfl) (by kernel_rfl) (by kernel_rfl) (fun _ _ _ h => h) (Or.inl ⟨by rfl, ?_⟩) hHeld ?_
  rotate_left
  · intro w hSw; (try dsimp only at hSw); go_simp; all_goals (with_reducible rfl)
  try simp only [Act.put, List.setIfInBounds_toArray, List.set_cons_zero, List.set_cons_succ]
  refine wpAnyH_take (i := 9) (oi := ⟨some 65, _, _, _, _, _⟩) (v := ?_) rfl (by kernel_rfl) (by kernel_rfl) (by kernel_rfl) (fun _ _ _ h => h) (Or.inl ⟨by rfl, ?_⟩) hHeld ?_
  rotate_left
  · intro w hSw; (try dsimp only at hSw); go_simp; all_goals (with_reducible rfl)
  try simp only [Act.put, List.setIfInBounds_toArray, List.set_cons_zero, List.set_cons_succ]
  refine wpAnyH_take (i := 10) (oi := ⟨some 66, _, _, _, _, _⟩) (v := ?_) rfl (by kernel_rfl) (by kernel_rfl) (by kernel_rfl) (fun _ _ _ h => h) (Or.inl ⟨by rfl, ?_⟩) hHeld ?_
  rotate_left
  · intro w hSw; (try dsimp only at hSw); go_simp; all_goals (with_reducible rfl)
  try simp only [Act.put, List.setIfInBounds_toArray, List.set_cons_zero, List.set_cons_succ]
  refine wpAnyH_take (i := 11) (oi := ⟨some 67, _, _, _, _, _⟩) (v := ?_) rfl (by kernel_rfl) (by kernel_rfl) (by kernel_rfl) (fun _ _ _ h => h) (Or.inl ⟨by rfl, ?_⟩) hHeld ?_
  rotate_left
  · intro w hSw; (try dsimp only at hSw); go_simp; all_goals (with_reducible rfl)
  try simp only [Act.put, List.setIfInBounds_toArray, List.set_cons_zero, List.set_cons_succ]
  refine wpAnyH_take (i := 12) (oi := ⟨some 68, _, _, _, _, _⟩) (v := ?_) rfl (by kernel_rfl) (by kernel_rfl) (by kernel_rfl) (fun _ _ _ h => h) (Or.inl ⟨by rfl, ?_⟩) hHeld ?_
  rotate_left
  · intro w hSw; (try dsimp only at hSw); go_simp; all_goals (with_reducible rfl)
  try simp only [Act.put, List.setIfInBounds_toArray, List.set_cons_zero, List.set_cons_succ]
  refine wpAnyH_take (i := 13) (oi := ⟨some 69, _, _, _, _, _⟩) (v := ?_) rfl (by kernel_rfl) (by kernel_rfl) (by kernel_rfl) (fun _ _ _ h => h) (Or.inl ⟨by rfl, ?_⟩) hHeld ?_
  rotate_left
  · intro w hSw; (try dsimp only at hSw); go_simp; all_goals (with_reducible rfl)
  try simp only [Act.put, List.setIfInBounds_toArray, List.set_cons_zero, List.set_cons_succ]
  refine wpAnyH_ready (rs := [14]) (by kernel_rfl) (by simp) ?_
  refine AllReadyH.cons (o := ⟨some 70, _, _, _, _, _⟩) rfl (fun K hK => ?_) AllReadyH.nil
  go_simp
  have HO5 : Hid (OwN w4.heap.size ((w4.drewN 1).alloc (Obj.cells Z 3)) (.slice (some ⟨w4.heap.size, 0, none⟩) p p) (zeros p)) := own_at HZ.out hp4 (alloc_at rfl) (Nat.le_refl _)
  have HB5 : Hid (Below w4.heap.size w4 ((w4.drewN 1).alloc (Obj.cells Z 3))) := below_trans (below_drewN w4 1) (below_alloc _ _)
  refine hK.out _ _ ?_ (fun hHeld => ?_)
  · exact (HNC.out _ HB5.out)
  clear hK K
  try simp only [Act.put, List.setIfInBounds_toArray, List.set_cons_zero, List.set_cons_succ]
  refine wpAnyH_ready (rs := [15]) (by kernel_rfl) (by simp) ?_
  refine AllReadyH.cons (o := ⟨some 71, _, _, _, _, _⟩) rfl (fun K hK => ?_) AllReadyH.nil
  go_simp
  refine (ints18_walk (HC4.out.below HB5.out) (own_nv HO5.out (zeros_in64 p))).mono ?_
  rw [decide_eq_true rfl]
  rintro e w6 ⟨rfl, hB6⟩
  have HB6 : Hid (Below w4.heap.size w4 w6) := below_trans HB5.out hB6
  clear hB6
  go_simp
  refine hK.out _ _ ?_ (fun hHeld => ?_)
  · exact (HNC.out _ HB6.out)
  clear hK K
  try simp only [Act.put, List.setIfInBounds_toArray, List.set_cons_zero, List.set_cons_succ]
  refine wpAnyH_take (i := 16) (oi := ⟨some 72, _, _, _, _, _⟩) (v := ?_) rfl (by kernel_rfl) (by kernel_rfl) (by kernel_rfl) (fun _ _ _ h => h) (Or.inl ⟨by rfl, ?_⟩) hHeld ?_
  rotate_left
  · intro w hSw; (try dsimp only at hSw); go_simp; all_goals (with_reducible rfl)
  try simp only [Act.put, List.setIfInBounds_toArray, List.set_cons_zero, List.set_cons_succ]
  refine wpAnyH_take (i := 17) (oi := ⟨some 73, _, _, _, _, _⟩) (v := ?_) rfl (by kernel_rfl) (by kernel_rfl) (by kernel_rfl) (fun _ _ _ h => h) (Or.inl ⟨by rfl, ?_⟩) hHeld ?_
  rotate_left
  · intro w hSw; (try dsimp only at hSw); go_simp; all_goals (with_reducible rfl)
  try simp only [Act.put, List.setIfInBounds_toArray, List.set_cons_zero, List.set_cons_succ]
  refine wpAnyH_take (i := 18) (oi := ⟨some 74, _, _, _, _, _⟩) (v := ?_) rfl (by kernel_rfl) (by kernel_rfl) (by kernel_rfl) (fun _ _ _ h => h) (Or.inl ⟨by rfl, ?_⟩) hHeld ?_
  rotate_left
  · intro w hSw; (try dsimp only at hSw); go_simp; all_goals (with_reducible rfl)
  try simp only [Act.put, List.setIfInBounds_toArray, List.set_cons_zero, List.set_cons_succ]
  refine wpAnyH_take (i := 19) (oi := ⟨some 75, _, _, _, _, _⟩) (v := ?_) rfl (by kernel_rfl) (by kernel_rfl) (by kernel_rfl) (fun _ _ _ h => h) (Or.inl ⟨by rfl, ?_⟩) hHeld ?_
  rotate_left
  · intro w hSw; (try dsimp only at hSw); go_simp; all_goals (with_reducible rfl)
  try simp only [Act.put, List.setIfInBounds_toArray, List.set_cons_zero, List.set_cons_succ]
  refine wpAnyH_take (i := 20) (oi := ⟨some 76, _, _, _, _, _⟩) (v := ?_) rfl (by kernel_rfl) (by kernel_rfl) (by kernel_rfl) (fun _ _ _ h => h) (Or.inl ⟨by rfl, ?_⟩) hHeld ?_
  rotate_left
  · intro w hSw; (try dsimp only at hSw); go_simp; all_goals (with_reducible rfl)
  try simp only [Act.put, List.setIfInBounds_toArray, List.set_cons_zero, List.set_cons_succ]
  refine wpAnyH_take (i := 21) (oi := ⟨some 77, _, _, _, _, _⟩) (v := ?_) rfl (by kernel_rfl) (by kernel_rfl) (by kernel_rfl) (fun _ _ _ h => h) (Or.inl ⟨by rfl, ?_⟩) hHeld ?_
  rotate_left
  · intro w hSw; (try dsimp only at hSw); go_simp; all_goals (with_reducible rfl)
  try simp only [Act.put, List.setIfInBounds_toArray, List.set_cons_zero, List.set_cons_succ]
  refine wpAnyH_take (i := 22) (oi := ⟨some 78, _, _, _, _, _⟩) (v := ?_) rfl (by kernel_rfl) (by kernel_rfl) (by kernel_rfl) (fun _ _ _ h => h) (Or.inl ⟨by rfl, ?_⟩) hHeld ?_
  rotate_left
  · intro w hSw; (try dsimp only at hSw); go_simp; all_goals (with_reducible rfl)
  try simp only [Act.put, List.setIfInBounds_toArray, List.set_cons_zero, List.set_cons_succ]
  refine wpAnyH_take (i := 23) (oi := ⟨some 79, _, _, _, _, _⟩) (v := ?_) rfl (by kernel_rfl) (by kernel_rfl) (by kernel_rfl) (fun _ _ _ h => h) (Or.inl ⟨by rfl, ?_⟩) hHeld ?_
  rotate_left
  · intro w hSw; (try dsimp only at hSw); go_simp; all_goals (with_reducible rfl)
  try simp only [Act.put, List.setIfInBounds_toArray, List.set_cons_zero, List.set_cons_succ]
  refine wpAnyH_take (i := 24) (oi := ⟨some 80, _, _, _, _, _⟩) (v := ?_) rfl (by kernel_rfl) (by kernel_rfl) (by kernel_rfl) (fun _ _ _ h => h) (Or.inl ⟨by rfl, ?_⟩) hHeld ?_
  rotate_left
  · intro w hSw; (try dsimp only at hSw); go_simp; all_goals (with_reducible rfl)
  try simp only [Act.put, List.setIfInBounds_toArray, List.set_cons_zero, List.set_cons_succ]
  refine wpAnyH_ready (rs := [25]) (by kernel_rfl) (by simp) ?_
  refine AllReadyH.cons (o := ⟨some 81, _, _, _, _, _⟩) rfl (fun K hK => ?_) AllReadyH.nil
  go_simp
  refine (ints18_walk (HP4.out.below HB6.out) (HC4.out.below HB6.out)).mono ?_
  rw [decide_eq_true rfl]
  rintro e w7 ⟨rfl, hB7⟩
  have HB7 : Hid (Below w4.heap.size w4 w7) := below_trans HB6.out hB7
  clear hB7
  go_simp
  refine hK.out _ _ ?_ (fun hHeld => ?_)
  · exact (HNC.out _ HB7.out)
  clear hK K
  try simp only [Act.put, List.setIfInBounds_toArray, List.set_cons_zero, List.set_cons_succ]
  refine wpAnyH_take (i := 26) (oi := ⟨some 82, _, _, _, _, _⟩) (v := ?_) rfl (by kernel_rfl) (by kernel_rfl) (by kernel_rfl) (fun _ _ _ h => h) (Or.inl ⟨by rfl, ?_⟩) hHeld ?_
  rotate_left
  · intro w hSw; (try dsimp only at hSw); go_simp; all_goals (with_reducible rfl)
  try simp only [Act.put, List.setIfInBounds_toArray, List.set_cons_zero, List.set_cons_succ]
  refine wpAnyH_take (i := 27) (oi := ⟨some 83, _, _, _, _, _⟩) (v := ?_) rfl (by kernel_rfl) (by kernel_rfl) (by kernel_rfl) (fun _ _ _ h => h) (Or.inl ⟨by rfl, ?_⟩) hHeld ?_
  rotate_left
  · intro w hSw; (try dsimp only at hSw); go_simp; all_goals (with_reducible rfl)
  try simp only [Act.put, List.setIfInBounds_toArray, List.set_cons_zero, List.set_cons_succ]
  refine wpAnyH_done (by kernel_rfl) ?_ _
  refine NoPanic.normal ?_
  have HST : Hid (∃ A J S pv cv, Fit wz A sb jb w3.heap.size p 0 J S pv cv w7) := by
    obtain ⟨A, J, S, pv, cv, hF⟩ := HFI.out
    exact ⟨A, J, S, pv, cv, ⟨hF.lw.below HB7.out, hF.gd, hF.vn.below HB7.out, hF.g, hF.b, hF.a, hF.wr, hF.rd, hF.base⟩⟩
  clear hmk HNC HP4 HC4 HFI HW4 HB5 HB6 HO5
  go_wp2_with fail
  generalize w3.heap.size = N at HST ⊢
  go_loopw [7, 10] (fun jv iv wr => ∃ k : Nat, k ≤ ts.length ∧ k ≤ 500 ∧ iv = .int .i64 k ∧ ∃ A J S pv cv jb, jv = .pointer (some ⟨jb, 0, none⟩) ∧ Fit wz A sb jb N p k J S pv cv wr) (fun _ iv _ => ts.length - (intOf iv).toNat)
  case atStart =>
    obtain ⟨A, J, S, pv, cv, hF⟩ := HST.out
    exact ⟨0, Nat.zero_le _, by omega, rfl, A, J, S, pv, cv, jb, rfl, hF⟩
  case round =>
    clear HST HL2 HG2 HWR2
    obtain ⟨k, hk, hk5, rfl, A, J, S, pv, cv, jb, rfl, hF⟩ := hrel
    have HF : Hid (Fit wz A sb jb N p k J S pv cv wr) := hF
    obtain ⟨po, pc, co, cc, rfl, rfl⟩ := hF.vn.forms
    clear hF
    by_cases hlt : k < ts.length ∧ k < 500
    rotate_left
    · by_cases hk1 : k < ts.length
      · have hk1i : (k : Int) < (ts.length : Int) := by omega
        have hk2i : ¬ (k : Int) < 500 := by omega
        go_wp2_with fail
        go_ret
        exact ⟨rfl, below_trans HBZ.out HF.out.lw.bel⟩
      · have hk1i : ¬ (k : Int) < (ts.length : Int) := by omega
        go_wp2_with fail
        go_ret
        exact ⟨rfl, below_trans HBZ.out HF.out.lw.bel⟩
    obtain ⟨hk1, hk2⟩ := hlt
    have hk1i : (k : Int) < (ts.length : Int) := by omega
    have hk2i : (k : Int) < 500 := by omega
    obtain ⟨ao, cap, e0, _, _, hcell⟩ := HTZ.out
    simp only [Value.slice.injEq] at e0
    obtain ⟨tb, toff, ov, e1, t0, t1, t2, t3, t4, hov⟩ := hcell k hk1
    obtain rfl : ta = some ⟨tb, toff, none⟩ := e0.1.trans e1
    clear e0 hcell
    obtain ⟨oo, oc, rfl, _⟩ := hov.form
    have HOV : Hid (Nv wz (.slice oo (tth ts k).on.length oc) (tth ts k).on) := hov
    have y0 := (HF.out.lw.bel.cell (p := ⟨tb, toff + k * 5, none⟩) (cell_lt t0)).trans t0
    have y1 := (HF.out.lw.bel.cell (p := ⟨tb, toff + k * 5 + 1, none⟩) (cell_lt t1)).trans t1
    have y2 := (HF.out.lw.bel.cell (p := ⟨tb, toff + k * 5 + 2, none⟩) (cell_lt t2)).trans t2
    have y3 := (HF.out.lw.bel.cell (p := ⟨tb, toff + k * 5 + 3, none⟩) (cell_lt t3)).trans t3
    have y4 := (HF.out.lw.bel.cell (p := ⟨tb, toff + k * 5 + 4, none⟩) (cell_lt t4)).trans t4
    generalize tth ts k = t at y0 y1 y2 y3 y4 HOV
    have HS4 : Hid (S.rd ≤ 4 * k) := HF.out.rd
    clear t0 t1 t2 t3 t4 hov e1
    go_upto_region 13 with fail
    go_cut [11] (fun tv wx => ∃ T A, tv = .pointer (some ⟨T, 0, none⟩) ∧ Gs wz A sb jb N T p k J S (.slice po J.n.p.length pc) (.slice co J.n.c.length cc) t (.slice oo t.on.length oc) wx)
    case first =>
      go_wp2_with fail
      go_meet
      exact ⟨_, _, rfl, Gs.of HF.out HOV.out⟩
    case rest =>
    obtain ⟨T, A0, rfl, hS0⟩ := hcut
    obtain ⟨v0, hv0⟩ : ∃ v0, v0 = wc := ⟨_, rfl⟩
    subst hv0
    have HG := hidH hS0
    clear y0 y1 y2 y3 y4 HF HOV hS0 A
    have HRN : Hid (Rgt J.n p) := HG.out.gd.ok.r
    have HKS : Hid (k ≤ 1000) := by show _ ≤ _; omega
    have q4 : v0.cell? ⟨T, 4, none⟩ = some (.int .i64 t.b) := by rw [blk_cell HG.out.tb]; rfl
    rename_i aK1
    refine aK1 _ _ ?_
    refine wp_seq_k fun K9 hK9 => ?_
    go_cut [12, 13] (fun _ _ wx => ∃ A, Gs wz A sb jb N T p k J S (.slice po J.n.p.length pc) (.slice co J.n.c.length cc) t (.slice oo t.on.length oc) wx)
    case first =>
      clear hK9
      as_aux_lemma =>
        by_cases hb1 : 1 ≤ t.b ∧ t.b ≤ 4
        rotate_left
        · by_cases hb2 : 1 ≤ t.b
          · have hb3 : ¬ t.b ≤ 4 := by omega
            go_wp2_with fail
            go_meet
            exact ⟨_, HG.out⟩
          · go_wp2_with fail
            go_meet
            exact ⟨_, HG.out⟩
        · obtain ⟨hb2, hb3⟩ := hb1
          have HBB : Hid (1 ≤ t.b ∧ t.b ≤ 4) := ⟨hb2, hb3⟩
          go_wp2_with fail
          refine (lw_image HG.out.lw).mono ?_
          rintro e v1 ⟨g, cap, rfl, hGr, hgb, hB1⟩
          have hG1 := HG.out.more hB1
          have HG1 := hidH hG1
          have HGR : Hid (Gr (fun x => v0.heap.size ≤ x ∧ x < v1.heap.size) v1 g cap S.bl) := hGr.fit
          have HGA : Hid (v0.heap.size ≤ g ∧ g < v1.heap.size) := ⟨hgb, hGr.lt⟩
          have HOK : Hid S.ok := HG.out.lw.dok
          clear q4 hG1 hGr hgb hB1
          have c0 : v1.cell? ⟨N, 0, none⟩ = some (.int .i64 J.n.b) := by rw [blk_cell HG1.out.vn.blk]; rfl
          have c1 : v1.cell? ⟨N, 1, none⟩ = some (.slice po J.n.p.length pc) := by rw [blk_cell HG1.out.vn.blk]; rfl
          have c2 : v1.cell? ⟨N, 2, none⟩ = some (.slice co J.n.c.length cc) := by rw [blk_cell HG1.out.vn.blk]; rfl
          have c3 : v1.cell? ⟨N, 3, none⟩ = some (.int .i64 J.n.a) := by rw [blk_cell HG1.out.vn.blk]; rfl
          have q4 : v1.cell? ⟨T, 4, none⟩ = some (.int .i64 t.b) := by rw [blk_cell HG1.out.tb]; rfl
          go_wp2_with fail
          refine (spoilt_walk (n := J.n) (q := p) HG1.out.vn.p.nv HG1.out.vn.c.nv HRN.out (by omega) (by omega) HBB.out.1 HBB.out.2).mono ?_
          rintro e v2 ⟨sp2, sc2, rfl, hp2, hc2, hB2, _⟩
          have HL2 : Hid (Lw wz (fun x => A0 x ∨ (v0.heap.size ≤ x ∧ x < v1.heap.size)) sb jb p J S v2) := HG1.out.lw.below hB2
          have HG2 : Hid (Gs wz (fun x => A0 x ∨ (v0.heap.size ≤ x ∧ x < v1.heap.size)) sb jb N T p k J S (.slice po J.n.p.length pc) (.slice co J.n.c.length cc) t (.slice oo t.on.length oc) v2) := HG1.out.ch (HG1.out.lw.below hB2) (Ch.of_below hB2)
          have HGR2 : Hid (Gr (fun x => v0.heap.size ≤ x ∧ x < v1.heap.size) v2 g cap S.bl) := HGR.out.below hB2
          have HP2 := hidH hp2
          have HC2 := hidH hc2
          obtain ⟨f1, f2, f3⟩ := HG1.out.gd.refuse (n := sptN J.n t.b) (spt_fol (by have := HRN.out.lc; omega))
          have HF1 := hidH f1
          have HF23 : Hid (savJ J S p (sptN J.n t.b) = J ∧ savS J S p (sptN J.n t.b) = S) := ⟨f2, f3⟩
          have HNB : Hid (-9223372036854775808 ≤ (sptN J.n t.b).b ∧ (sptN J.n t.b).b < 9223372036854775808) := by
            have h1 := HRN.out.b0; have h2 := HRN.out.b1
            unfold sptN
            split
            · exact ⟨by show _ ≤ J.n.b; omega, by show J.n.b < _; omega⟩
            · split
              · exact ⟨by show _ ≤ J.n.b + 2; omega, by show J.n.b + 2 < _; omega⟩
              · split
                · exact ⟨by show _ ≤ J.n.b - 1; omega, by show J.n.b - 1 < _; omega⟩
                · exact ⟨by show _ ≤ J.n.b; omega, by show J.n.b < _; omega⟩
          clear f1 f2 f3 hp2 hc2 hB2 c0 c1 c2 c3 q4
          go_wp2_with fail
          refine (lw_save (n := sptN J.n t.b) HL2.out HP2.out HC2.out HNB.out (by have := HG.out.wr; omega)).mono ?_
          rintro e v3 ⟨he, hL3, hC3⟩
          rw [HF23.out.1, HF23.out.2] at hL3
          have HG3 := hidH (HG2.out.ch hL3 hC3)
          have HGR3 : Hid (Gr (fun x => v0.heap.size ≤ x ∧ x < v1.heap.size) v3 g cap S.bl) := HGR2.out.keep (hC3.block g HGR2.out.lt (fun x => x.2 (.inr HGA.out))) (fun x hx hx2 _ => hC3.block x hx2 (fun y => y.2 (.inr hx)))
          have HN3 : Hid (∀ wx, Below v3.heap.size v3 wx → wx.cell? ⟨N, 0, none⟩ = some (.int .i64 J.n.b) ∧ wx.cell? ⟨N, 1, none⟩ = some (.slice po J.n.p.length pc) ∧ wx.cell? ⟨N, 2, none⟩ = some (.slice co J.n.c.length cc) ∧ wx.cell? ⟨N, 3, none⟩ = some (.int .i64 J.n.a)) := fun wx hx => by
            have hb := (HG3.out.vn.below hx).blk
            exact ⟨by rw [blk_cell hb]; rfl, by rw [blk_cell hb]; rfl, by rw [blk_cell hb]; rfl, by rw [blk_cell hb]; rfl⟩
          obtain ⟨c, hc⟩ : ∃ c, c = savI J S p (sptN J.n t.b) := ⟨_, rfl⟩
          have hc17 := HF1.out
          rw [← hc] at he hc17
          subst he
          clear hc hL3 hC3
          rcases hc17 with rfl | rfl
          · go_wp2_with fail
            refine wp_region_noPanic ?_
            refine wp_region_held_drew (S := fun wx => wx.cell? ⟨N, 0, none⟩ = some (.int .i64 J.n.b) ∧ wx.cell? ⟨N, 1, none⟩ = some (.slice po J.n.p.length pc) ∧ wx.cell? ⟨N, 2, none⟩ = some (.slice co J.n.c.length cc) ∧ wx.cell? ⟨N, 3, none⟩ = some (.int .i64 J.n.a)) (by kernel_rfl) ?_ (fun hHeld => ?_)
            · exact (HN3.out _ (below_drewN v3 1))
            refine wpAnyH_take (i := 0) (oi := ⟨some 114, _, _, _, _, _⟩) (v := ?_) rfl (by kernel_rfl) (by kernel_rfl) (by kernel_rfl) (fun _ _ _ h => h) (Or.inl ⟨by rfl, ?_⟩) hHeld ?_
            rotate_left
            · intro w hSw; (try dsimp only at hSw); go_simp; all_goals (with_reducible rfl)
            try simp only [Act.put, List.setIfInBounds_toArray, List.set_cons_zero, List.set_cons_succ]
            refine wpAnyH_take (i := 1) (oi := ⟨some 115, _, _, _, _, _⟩) (v := ?_) rfl (by kernel_rfl) (by kernel_rfl) (by kernel_rfl) (fun _ _ _ h => h) (Or.inl ⟨by rfl, ?_⟩) hHeld ?_
            rotate_left
            · intro w hSw; (try dsimp only at hSw); go_simp; all_goals (with_reducible rfl)
            try simp only [Act.put, List.setIfInBounds_toArray, List.set_cons_zero, List.set_cons_succ]
            refine wpAnyH_take (i := 2) (oi := ⟨some 116, _, _, _, _, _⟩) (v := ?_) rfl (by kernel_rfl) (by kernel_rfl) (by kernel_rfl) (fun _ _ _ h => h) (Or.inl ⟨by rfl, ?_⟩) hHeld ?_
            rotate_left
            · intro w hSw; (try dsimp only at hSw); go_simp; all_goals (with_reducible rfl)
            try simp only [Act.put, List.setIfInBounds_toArray, List.set_cons_zero, List.set_cons_succ]
            refine wpAnyH_take (i := 3) (oi := ⟨some 117, _, _, _, _, _⟩) (v := ?_) rfl (by kernel_rfl) (by kernel_rfl) (by kernel_rfl) (fun _ _ _ h => h) (Or.inl ⟨by rfl, ?_⟩) hHeld ?_
            rotate_left
            · intro w hSw; (try dsimp only at hSw); go_simp; all_goals (with_reducible rfl)
            try simp only [Act.put, List.setIfInBounds_toArray, List.set_cons_zero, List.set_cons_succ]
            refine wpAnyH_take (i := 4) (oi := ⟨some 118, _, _, _, _, _⟩) (v := ?_) rfl (by kernel_rfl) (by kernel_rfl) (by kernel_rfl) (fun _ _ _ h => h) (Or.inl ⟨by rfl, ?_⟩) hHeld ?_
            rotate_left
            · intro w hSw; (try dsimp only at hSw); go_simp; all_goals (with_reducible rfl)
            try simp only [Act.put, List.setIfInBounds_toArray, List.set_cons_zero, List.set_cons_succ]
            refine wpAnyH_take (i := 5) (oi := ⟨some 119, _, _, _, _, _⟩) (v := ?_) rfl (by kernel_rfl) (by kernel_rfl) (by kernel_rfl) (fun _ _ _ h => h) (Or.inl ⟨by rfl, ?_⟩) hHeld ?_
            rotate_left
            · intro w hSw; (try dsimp only at hSw); go_simp; all_goals (with_reducible rfl)
            try simp only [Act.put, List.setIfInBounds_toArray, List.set_cons_zero, List.set_cons_succ]
            refine wpAnyH_take (i := 6) (oi := ⟨some 120, _, _, _, _, _⟩) (v := ?_) rfl (by kernel_rfl) (by kernel_rfl) (by kernel_rfl) (fun _ _ _ h => h) (Or.inl ⟨by rfl, ?_⟩) hHeld ?_
            rotate_left
            · intro w hSw; (try dsimp only at hSw); go_simp; all_goals (with_reducible rfl)
            try simp only [Act.put, List.setIfInBounds_toArray, List.set_cons_zero, List.set_cons_succ]
            refine wpAnyH_take (i := 7) (oi := ⟨some 121, _, _, _, _, _⟩) (v := ?_) rfl (by kernel_rfl) (by kernel_rfl) (by kernel_rfl) (fun _ _ _ h => h) (Or.inl ⟨by rfl, ?_⟩) hHeld ?_
            rotate_left
            · intro w hSw; (try dsimp only at hSw); go_simp; all_goals (with_reducible rfl)
            try simp only [Act.put, List.setIfInBounds_toArray, List.set_cons_zero, List.set_cons_succ]
            refine wpAnyH_take (i := 9) (oi := ⟨some 123, _, _, _, _, _⟩) (v := ?_) rfl (by kernel_rfl) (by kernel_rfl) (by kernel_rfl) (fun _ _ _ h => h) (Or.inl ⟨by rfl, ?_⟩) hHeld ?_
            rotate_left
            · intro w hSw; (try dsimp only at hSw); go_simp; all_goals (with_reducible rfl)
            try simp only [Act.put, List.setIfInBounds_toArray, List.set_cons_zero, List.set_cons_succ]
            refine wpAnyH_ready (rs := [8]) (by kernel_rfl) (by simp) ?_
            refine AllReadyH.cons (o := ⟨some 122, _, _, _, _, _⟩) rfl (fun K hK => ?_) AllReadyH.nil
            go_simp
            refine (lw_image (HG3.out.lw.below (below_drewN v3 1))).mono ?_
            rintro e v4 ⟨g2, cap2, rfl, hGr, _, hB4⟩
            have HB4 : Hid (Below v3.heap.size v3 v4) := below_trans (below_drewN v3 1) hB4
            have HI4 : Hid (PvD v4 (.slice (some ⟨g2, 0, none⟩) S.bl.length cap2) S.bl) := hGr.pv HOK.out.byt
            clear hGr hB4
            go_simp
            refine hK.out _ _ ?_ (fun hHeld => ?_)
            · exact (HN3.out _ HB4.out)
            clear hK K
            try simp only [Act.put, List.setIfInBounds_toArray, List.set_cons_zero, List.set_cons_succ]
            refine wpAnyH_ready (rs := [10]) (by kernel_rfl) (by simp) ?_
            refine AllReadyH.cons (o := ⟨some 124, _, _, _, _, _⟩) rfl (fun K hK => ?_) AllReadyH.nil
            go_simp
            refine (images_walk HI4.out ((HGR3.out.below HB4.out).pv HOK.out.byt)).mono ?_
            rw [decide_eq_true rfl]
            rintro e v5 ⟨rfl, hB5⟩
            have HB5 : Hid (Below v3.heap.size v3 v5) := below_trans HB4.out hB5
            clear hB5
            go_simp
            refine hK.out _ _ ?_ (fun hHeld => ?_)
            · exact (HN3.out _ HB5.out)
            clear hK K
            try simp only [Act.put, List.setIfInBounds_toArray, List.set_cons_zero, List.set_cons_succ]
            refine wpAnyH_take (i := 11) (oi := ⟨some 125, _, _, _, _, _⟩) (v := ?_) rfl (by kernel_rfl) (by kernel_rfl) (by kernel_rfl) (fun _ _ _ h => h) (Or.inl ⟨by rfl, ?_⟩) hHeld ?_
            rotate_left
            · intro w hSw; (try dsimp only at hSw); go_simp; all_goals (with_reducible rfl)
            try simp only [Act.put, List.setIfInBounds_toArray, List.set_cons_zero, List.set_cons_succ]
            refine wpAnyH_take (i := 12) (oi := ⟨some 126, _, _, _, _, _⟩) (v := ?_) rfl (by kernel_rfl) (by kernel_rfl) (by kernel_rfl) (fun _ _ _ h => h) (Or.inl ⟨by rfl, ?_⟩) hHeld ?_
            rotate_left
            · intro w hSw; (try dsimp only at hSw); go_simp; all_goals (with_reducible rfl)
            try simp only [Act.put, List.setIfInBounds_toArray, List.set_cons_zero, List.set_cons_succ]
            refine wpAnyH_take (i := 13) (oi := ⟨some 127, _, _, _, _, _⟩) (v := ?_) rfl (by kernel_rfl) (by kernel_rfl) (by kernel_rfl) (fun _ _ _ h => h) (Or.inl ⟨by rfl, ?_⟩) hHeld ?_
            rotate_left
            · intro w hSw; (try dsimp only at hSw); go_simp; all_goals (with_reducible rfl)
            try simp only [Act.put, List.setIfInBounds_toArray, List.set_cons_zero, List.set_cons_succ]
            refine wpAnyH_take (i := 14) (oi := ⟨some 128, _, _, _, _, _⟩) (v := ?_) rfl (by kernel_rfl) (by kernel_rfl) (by kernel_rfl) (fun _ _ _ h => h) (Or.inl ⟨by rfl, ?_⟩) hHeld ?_
            rotate_left
            · intro w hSw; (try dsimp only at hSw); go_simp; all_goals (with_reducible rfl)
            try simp only [Act.put, List.setIfInBounds_toArray, List.set_cons_zero, List.set_cons_succ]
            refine wpAnyH_take (i := 16) (oi := ⟨some 130, _, _, _, _, _⟩) (v := ?_) rfl (by kernel_rfl) (by kernel_rfl) (by kernel_rfl) (fun _ _ _ h => h) (Or.inl ⟨by rfl, ?_⟩) hHeld ?_
            rotate_left
            · intro w hSw; (try dsimp only at hSw); go_simp; all_goals (with_reducible rfl)
            try simp only [Act.put, List.setIfInBounds_toArray, List.set_cons_zero, List.set_cons_succ]
            refine wpAnyH_ready (rs := [15]) (by kernel_rfl) (by simp) ?_
            refine AllReadyH.cons (o := ⟨some 129, _, _, _, _, _⟩) rfl (fun K hK => ?_) AllReadyH.nil
            go_simp
            refine (lw_note (HG3.out.lw.below HB5.out)).mono ?_
            rintro e v6 ⟨pa9, pc9, ca9, cc9, rfl, ho1, ho2, hB6⟩
            have HB6 : Hid (Below v3.heap.size v3 v6) := below_trans HB5.out hB6
            have HP9 : Hid (Nv v6 (.slice pa9 J.n.p.length pc9) J.n.p) := own_nv ho1 (rgt_p64 HRN.out)
            have HQ9 : Hid (Nv v6 (.slice ca9 J.n.c.length cc9) J.n.c) := own_nv ho2 (rgt_c64 HRN.out)
            clear ho1 ho2 hB6
            go_simp
            refine hK.out _ _ ?_ (fun hHeld => ?_)
            · exact (HN3.out _ HB6.out)
            clear hK K
            try simp only [Act.put, List.setIfInBounds_toArray, List.set_cons_zero, List.set_cons_succ]
            refine wpAnyH_ready (rs := [17]) (by kernel_rfl) (by simp) ?_
            refine AllReadyH.cons (o := ⟨some 131, _, _, _, _, _⟩) rfl (fun K hK => ?_) AllReadyH.nil
            go_simp
            refine (notes_walk (n := J.n) HP9.out HQ9.out ((HG3.out.vn.below HB6.out).p.nv) ((HG3.out.vn.below HB6.out).c.nv)).mono ?_
            rintro e v7 ⟨rfl, hB7⟩
            have HB7 : Hid (Below v3.heap.size v3 v7) := below_trans HB6.out hB7
            clear hB7
            go_simp
            refine hK.out _ _ ?_ (fun hHeld => ?_)
            · exact (HN3.out _ HB7.out)
            clear hK K
            try simp only [Act.put, List.setIfInBounds_toArray, List.set_cons_zero, List.set_cons_succ]
            refine wpAnyH_take (i := 18) (oi := ⟨some 132, _, _, _, _, _⟩) (v := ?_) rfl (by kernel_rfl) (by kernel_rfl) (by kernel_rfl) (fun _ _ _ h => h) (Or.inl ⟨by rfl, ?_⟩) hHeld ?_
            rotate_left
            · intro w hSw; (try dsimp only at hSw); go_simp; all_goals (with_reducible rfl)
            try simp only [Act.put, List.setIfInBounds_toArray, List.set_cons_zero, List.set_cons_succ]
            refine wpAnyH_take (i := 19) (oi := ⟨some 133, _, _, _, _, _⟩) (v := ?_) rfl (by kernel_rfl) (by kernel_rfl) (by kernel_rfl) (fun _ _ _ h => h) (Or.inl ⟨by rfl, ?_⟩) hHeld ?_
            rotate_left
            · intro w hSw; (try dsimp only at hSw); go_simp; all_goals (with_reducible rfl)
            try simp only [Act.put, List.setIfInBounds_toArray, List.set_cons_zero, List.set_cons_succ]
            refine wpAnyH_done (by kernel_rfl) ?_ _
            refine NoPanic.normal ?_
            go_wp2_with fail
            go_meet
            exact ⟨_, HG3.out.ch (HG3.out.lw.below HB7.out) (Ch.of_below HB7.out)⟩
          · go_wp2_with fail
            refine wp_region_noPanic ?_
            refine wp_region_held_drew (S := fun wx => wx.cell? ⟨N, 0, none⟩ = some (.int .i64 J.n.b) ∧ wx.cell? ⟨N, 1, none⟩ = some (.slice po J.n.p.length pc) ∧ wx.cell? ⟨N, 2, none⟩ = some (.slice co J.n.c.length cc) ∧ wx.cell? ⟨N, 3, none⟩ = some (.int .i64 J.n.a)) (by kernel_rfl) ?_ (fun hHeld => ?_)
            · exact (HN3.out _ (below_drewN v3 1))
            refine wpAnyH_take (i := 0) (oi := ⟨some 114, _, _, _, _, _⟩) (v := ?_) rfl (by kernel_rfl) (by kernel_rfl) (by kernel_rfl) (fun _ _ _ h => h) (Or.inl ⟨by rfl, ?_⟩) hHeld ?_
            rotate_left
            · intro w hSw; (try dsimp only at hSw); go_simp; all_goals (with_reducible rfl)
            try simp only [Act.put, List.setIfInBounds_toArray, List.set_cons_zero, List.set_cons_succ]
            refine wpAnyH_take (i := 1) (oi := ⟨some 115, _, _, _, _, _⟩) (v := ?_) rfl (by kernel_rfl) (by kernel_rfl) (by kernel_rfl) (fun _ _ _ h => h) (Or.inl ⟨by rfl, ?_⟩) hHeld ?_
            rotate_left
            · intro w hSw; (try dsimp only at hSw); go_simp; all_goals (with_reducible rfl)
            try simp only [Act.put, List.setIfInBounds_toArray, List.set_cons_zero, List.set_cons_succ]
            refine wpAnyH_take (i := 2) (oi := ⟨some 116, _, _, _, _, _⟩) (v := ?_) rfl (by kernel_rfl) (by kernel_rfl) (by kernel_rfl) (fun _ _ _ h => h) (Or.inl ⟨by rfl, ?_⟩) hHeld ?_
            rotate_left
            · intro w hSw; (try dsimp only at hSw); go_simp; all_goals (with_reducible rfl)
            try simp only [Act.put, List.setIfInBounds_toArray, List.set_cons_zero, List.set_cons_succ]
            refine wpAnyH_take (i := 3) (oi := ⟨some 117, _, _, _, _, _⟩) (v := undef) rfl (by kernel_rfl) (by kernel_rfl) (by kernel_rfl) (fun _ _ _ h => h) (Or.inr ⟨by rfl, rfl⟩) hHeld ?_
            try simp only [Act.put, List.setIfInBounds_toArray, List.set_cons_zero, List.set_cons_succ]
            refine wpAnyH_take (i := 4) (oi := ⟨some 118, _, _, _, _, _⟩) (v := undef) rfl (by kernel_rfl) (by kernel_rfl) (by kernel_rfl) (fun _ _ _ h => h) (Or.inr ⟨by rfl, rfl⟩) hHeld ?_
            try simp only [Act.put, List.setIfInBounds_toArray, List.set_cons_zero, List.set_cons_succ]
            refine wpAnyH_take (i := 5) (oi := ⟨some 119, _, _, _, _, _⟩) (v := ?_) rfl (by kernel_rfl) (by kernel_rfl) (by kernel_rfl) (fun _ _ _ h => h) (Or.inl ⟨by rfl, ?_⟩) hHeld ?_
            rotate_left
            · intro w hSw; (try dsimp only at hSw); go_simp; all_goals (with_reducible rfl)
            try simp only [Act.put, List.setIfInBounds_toArray, List.set_cons_zero, List.set_cons_succ]
            refine wpAnyH_take (i := 6) (oi := ⟨some 120, _, _, _, _, _⟩) (v := ?_) rfl (by kernel_rfl) (by kernel_rfl) (by kernel_rfl) (fun _ _ _ h => h) (Or.inl ⟨by rfl, ?_⟩) hHeld ?_
            rotate_left
            · intro w hSw; (try dsimp only at hSw); go_simp; all_goals (with_reducible rfl)
            try simp only [Act.put, List.setIfInBounds_toArray, List.set_cons_zero, List.set_cons_succ]
            refine wpAnyH_take (i := 7) (oi := ⟨some 121, _, _, _, _, _⟩) (v := ?_) rfl (by kernel_rfl) (by kernel_rfl) (by kernel_rfl) (fun _ _ _ h => h) (Or.inl ⟨by rfl, ?_⟩) hHeld ?_
            rotate_left
            · intro w hSw; (try dsimp only at hSw); go_simp; all_goals (with_reducible rfl)
            try simp only [Act.put, List.setIfInBounds_toArray, List.set_cons_zero, List.set_cons_succ]
            refine wpAnyH_take (i := 9) (oi := ⟨some 123, _, _, _, _, _⟩) (v := ?_) rfl (by kernel_rfl) (by kernel_rfl) (by kernel_rfl) (fun _ _ _ h => h) (Or.inl ⟨by rfl, ?_⟩) hHeld ?_
            rotate_left
            · intro w hSw; (try dsimp only at hSw); go_simp; all_goals (with_reducible rfl)
            try simp only [Act.put, List.setIfInBounds_toArray, List.set_cons_zero, List.set_cons_succ]
            refine wpAnyH_ready (rs := [8]) (by kernel_rfl) (by simp) ?_
            refine AllReadyH.cons (o := ⟨some 122, _, _, _, _, _⟩) rfl (fun K hK => ?_) AllReadyH.nil
            go_simp
            refine (lw_image (HG3.out.lw.below (below_drewN v3 1))).mono ?_
            rintro e v4 ⟨g2, cap2, rfl, hGr, _, hB4⟩
            have HB4 : Hid (Below v3.heap.size v3 v4) := below_trans (below_drewN v3 1) hB4
            have HI4 : Hid (PvD v4 (.slice (some ⟨g2, 0, none⟩) S.bl.length cap2) S.bl) := hGr.pv HOK.out.byt
            clear hGr hB4
            go_simp
            refine hK.out _ _ ?_ (fun hHeld => ?_)
            · exact (HN3.out _ HB4.out)
            clear hK K
            try simp only [Act.put, List.setIfInBounds_toArray, List.set_cons_zero, List.set_cons_succ]
            refine wpAnyH_ready (rs := [10]) (by kernel_rfl) (by simp) ?_
            refine AllReadyH.cons (o := ⟨some 124, _, _, _, _, _⟩) rfl (fun K hK => ?_) AllReadyH.nil
            go_simp
            refine (images_walk HI4.out ((HGR3.out.below HB4.out).pv HOK.out.byt)).mono ?_
            rw [decide_eq_true rfl]
            rintro e v5 ⟨rfl, hB5⟩
            have HB5 : Hid (Below v3.heap.size v3 v5) := below_trans HB4.out hB5
            clear hB5
            go_simp
            refine hK.out _ _ ?_ (fun hHeld => ?_)
            · exact (HN3.out _ HB5.out)
            clear hK K
            try simp only [Act.put, List.setIfInBounds_toArray, List.set_cons_zero, List.set_cons_succ]
            refine wpAnyH_take (i := 11) (oi := ⟨some 125, _, _, _, _, _⟩) (v := ?_) rfl (by kernel_rfl) (by kernel_rfl) (by kernel_rfl) (fun _ _ _ h => h) (Or.inl ⟨by rfl, ?_⟩) hHeld ?_
            rotate_left
            · intro w hSw; (try dsimp only at hSw); go_simp; all_goals (with_reducible rfl)
            try simp only [Act.put, List.setIfInBounds_toArray, List.set_cons_zero, List.set_cons_succ]
            refine wpAnyH_take (i := 12) (oi := ⟨some 126, _, _, _, _, _⟩) (v := ?_) rfl (by kernel_rfl) (by kernel_rfl) (by kernel_rfl) (fun _ _ _ h => h) (Or.inl ⟨by rfl, ?_⟩) hHeld ?_
            rotate_left
            · intro w hSw; (try dsimp only at hSw); go_simp; all_goals (with_reducible rfl)
            try simp only [Act.put, List.setIfInBounds_toArray, List.set_cons_zero, List.set_cons_succ]
            refine wpAnyH_take (i := 13) (oi := ⟨some 127, _, _, _, _, _⟩) (v := ?_) rfl (by kernel_rfl) (by kernel_rfl) (by kernel_rfl) (fun _ _ _ h => h) (Or.inl ⟨by rfl, ?_⟩) hHeld ?_
            rotate_left
            · intro w hSw; (try dsimp only at hSw); go_simp; all_goals (with_reducible rfl)
            try simp only [Act.put, List.setIfInBounds_toArray, List.set_cons_zero, List.set_cons_succ]
            refine wpAnyH_take (i := 14) (oi := ⟨some 128, _, _, _, _, _⟩) (v := ?_) rfl (by kernel_rfl) (by kernel_rfl) (by kernel_rfl) (fun _ _ _ h => h) (Or.inl ⟨by rfl, ?_⟩) hHeld ?_
            rotate_left
            · intro w hSw; (try dsimp only at hSw); go_simp; all_goals (with_reducible rfl)
            try simp only [Act.put, List.setIfInBounds_toArray, List.set_cons_zero, List.set_cons_succ]
            refine wpAnyH_take (i := 16) (oi := ⟨some 130, _, _, _, _, _⟩) (v := ?_) rfl (by kernel_rfl) (by kernel_rfl) (by kernel_rfl) (fun _ _ _ h => h) (Or.inl ⟨by rfl, ?_⟩) hHeld ?_
            rotate_left
            · intro w hSw; (try dsimp only at hSw); go_simp; all_goals (with_reducible rfl)
            try simp only [Act.put, List.setIfInBounds_toArray, List.set_cons_zero, List.set_cons_succ]
            refine wpAnyH_ready (rs := [15]) (by kernel_rfl) (by simp) ?_
            refine AllReadyH.cons (o := ⟨some 129, _, _, _, _, _⟩) rfl (fun K hK => ?_) AllReadyH.nil
            go_simp
            refine (lw_note (HG3.out.lw.below HB5.out)).mono ?_
            rintro e v6 ⟨pa9, pc9, ca9, cc9, rfl, ho1, ho2, hB6⟩
            have HB6 : Hid (Below v3.heap.size v3 v6) := below_trans HB5.out hB6
            have HP9 : Hid (Nv v6 (.slice pa9 J.n.p.length pc9) J.n.p) := own_nv ho1 (rgt_p64 HRN.out)
            have HQ9 : Hid (Nv v6 (.slice ca9 J.n.c.length cc9) J.n.c) := own_nv ho2 (rgt_c64 HRN.out)
            clear ho1 ho2 hB6
            go_simp
            refine hK.out _ _ ?_ (fun hHeld => ?_)
            · exact (HN3.out _ HB6.out)
            clear hK K
            try simp only [Act.put, List.setIfInBounds_toArray, List.set_cons_zero, List.set_cons_succ]
            refine wpAnyH_ready (rs := [17]) (by kernel_rfl) (by simp) ?_
            refine AllReadyH.cons (o := ⟨some 131, _, _, _, _, _⟩) rfl (fun K hK => ?_) AllReadyH.nil
            go_simp
            refine (notes_walk (n := J.n) HP9.out HQ9.out ((HG3.out.vn.below HB6.out).p.nv) ((HG3.out.vn.below HB6.out).c.nv)).mono ?_
            rintro e v7 ⟨rfl, hB7⟩
            have HB7 : Hid (Below v3.heap.size v3 v7) := below_trans HB6.out hB7
            clear hB7
            go_simp
            refine hK.out _ _ ?_ (fun hHeld => ?_)
            · exact (HN3.out _ HB7.out)
            clear hK K
            try simp only [Act.put, List.setIfInBounds_toArray, List.set_cons_zero, List.set_cons_succ]
            refine wpAnyH_take (i := 18) (oi := ⟨some 132, _, _, _, _, _⟩) (v := ?_) rfl (by kernel_rfl) (by kernel_rfl) (by kernel_rfl) (fun _ _ _ h => h) (Or.inl ⟨by rfl, ?_⟩) hHeld ?_
            rotate_left
            · intro w hSw; (try dsimp only at hSw); go_simp; all_goals (with_reducible rfl)
            try simp only [Act.put, List.setIfInBounds_toArray, List.set_cons_zero, List.set_cons_succ]
            refine wpAnyH_take (i := 19) (oi := ⟨some 133, _, _, _, _, _⟩) (v := ?_) rfl (by kernel_rfl) (by kernel_rfl) (by kernel_rfl) (fun _ _ _ h => h) (Or.inl ⟨by rfl, ?_⟩) hHeld ?_
            rotate_left
            · intro w hSw; (try dsimp only at hSw); go_simp; all_goals (with_reducible rfl)
            try simp only [Act.put, List.setIfInBounds_toArray, List.set_cons_zero, List.set_cons_succ]
            refine wpAnyH_done (by kernel_rfl) ?_ _
            refine NoPanic.normal ?_
            go_wp2_with fail
            go_meet
            exact ⟨_, HG3.out.ch (HG3.out.lw.below HB7.out) (Ch.of_below HB7.out)⟩
    case rest =>
      obtain ⟨A1, hG1⟩ := hcut
      obtain ⟨x0, hx0⟩ : ∃ x0, x0 = wc := ⟨_, rfl⟩
      subst hx0
      have HG1 := hidH hG1
      clear hG1 q4 HG
      have c0 : x0.cell? ⟨N, 0, none⟩ = some (.int .i64 J.n.b) := by rw [blk_cell HG1.out.vn.blk]; rfl
      have c1 : x0.cell? ⟨N, 1, none⟩ = some (.slice po J.n.p.length pc) := by rw [blk_cell HG1.out.vn.blk]; rfl
      have c2 : x0.cell? ⟨N, 2, none⟩ = some (.slice co J.n.c.length cc) := by rw [blk_cell HG1.out.vn.blk]; rfl
      have c3 : x0.cell? ⟨N, 3, none⟩ = some (.int .i64 J.n.a) := by rw [blk_cell HG1.out.vn.blk]; rfl
      have q0 : x0.cell? ⟨T, 0, none⟩ = some (.slice oo t.on.length oc) := by rw [blk_cell HG1.out.tb]; rfl
      have q1 : x0.cell? ⟨T, 1, none⟩ = some (.int .i64 t.m) := by rw [blk_cell HG1.out.tb]; rfl
      have q2 : x0.cell? ⟨T, 2, none⟩ = some (.bool t.s) := by rw [blk_cell HG1.out.tb]; rfl
      have q3 : x0.cell? ⟨T, 3, none⟩ = some (.bool t.k) := by rw [blk_cell HG1.out.tb]; rfl
      have q4 : x0.cell? ⟨T, 4, none⟩ = some (.int .i64 t.b) := by rw [blk_cell HG1.out.tb]; rfl
      refine hK9 _ _ ?_
      refine wp_seq_k fun K8 hK8 => ?_
      go_cut [14] (fun nv wx => ∃ (M : Nat) (A2 : Nat → Prop) (po2 co2 : Option Addr) (pc2 cc2 : Nat), nv = .pointer (some ⟨M, 0, none⟩) ∧ Gt wz A2 sb jb N M p k J S (.slice po J.n.p.length pc) (.slice co J.n.c.length cc) (.slice po2 (nxtN J.n t).p.length pc2) (.slice co2 (nxtN J.n t).c.length cc2) t wx ∧ wx.cell? ⟨T, 3, none⟩ = some (.bool t.k))
      case first =>
        clear hK8
        as_aux_lemma =>
          go_wp2_with fail
          refine (next_walk (n := J.n) (t := t) (q := p) HG1.out.vn.p.nv HG1.out.vn.c.nv (HG1.out.on.below HG1.out.lw.bel) HRN.out (by omega) (by omega) (by have := HG1.out.b; omega) (by have := HG1.out.a; omega)).mono ?_
          rintro e x1 ⟨p2, c2, rfl, hp2, hc2, hB1, hA⟩
          obtain ⟨⟨po2, pc2, rfl, _⟩, _⟩ := (show Nv x1 p2 (nxtN J.n t).p from hp2)
          obtain ⟨⟨co2, cc2, rfl, _⟩, _⟩ := (show Nv x1 c2 (nxtN J.n t).c from hc2)
          obtain ⟨A2, hT⟩ := Gt.of HG1.out hB1 hp2 hc2 hA
          have HT1 := hidH hT
          have HTC : Hid ((x1.alloc (Obj.cells #[.int .i64 (nxtN J.n t).b, .slice po2 (nxtN J.n t).p.length pc2, .slice co2 (nxtN J.n t).c.length cc2, .int .i64 (nxtN J.n t).a] 41)).cell? ⟨T, 3, none⟩ = some (.bool t.k)) := by show _ = _; rw [blk_cell (blk_below HG1.out.tb (below_trans hB1 (below_alloc _ _)))]; rfl
          clear hT hp2 hc2 hB1 hA
          go_wp2_with fail
          go_meet
          exact ⟨_, A2, po2, co2, pc2, cc2, rfl, HT1.out, HTC.out⟩
      case rest =>
      obtain ⟨M, A2, po2, co2, pc2, cc2, rfl, hT1, q3⟩ := hcut
      obtain ⟨x2, hx2⟩ : ∃ x2, x2 = wc := ⟨_, rfl⟩
      subst hx2
      have HT1 := hidH hT1
      have HRX : Hid (Rgt (nxtN J.n t) p) := HT1.out.rn HKS.out
      have HNB : Hid (-9223372036854775808 ≤ (nxtN J.n t).b ∧ (nxtN J.n t).b < 9223372036854775808) := ⟨by have := HRX.out.b0; omega, by have := HRX.out.b1; omega⟩
      have HG40 : Hid (J.g < 1099511627776) := by have := HT1.out.g; show _ < _; omega
      have HT0 : Hid (S.rd ≤ 4 * k) := HS4.out
      clear hT1 HG1 c0 c1 c2 c3 q0 q1 q2 q4
      refine hK8 _ _ ?_
      refine wp_seq_k fun K7 hK7 => ?_
      go_cut [6, 7] (fun _ jv wx => ∃ jb S, jv = .pointer (some ⟨jb, 0, none⟩) ∧ Gt wz A2 sb jb N M p k J S (.slice po J.n.p.length pc) (.slice co J.n.c.length cc) (.slice po2 (nxtN J.n t).p.length pc2) (.slice co2 (nxtN J.n t).c.length cc2) t wx)
      case first =>
        clear hK7
        as_aux_lemma =>
          cases hcut0 : t.k
          · rw [hcut0] at q3
            clear hcut0
            go_wp2_with fail
            go_meet
            exact ⟨jb, S, rfl, HT1.out⟩
          · rw [hcut0] at q3
            clear hcut0
            obtain ⟨u1, u2, u3⟩ := HT1.out.gd.cut (n := nxtN J.n t) HRX.out nxt_fol HG40.out
            obtain ⟨v1, v2, v3⟩ := over_save J S p (nxtN J.n t)
            have HU : Hid (savI J (cutS S 0) p (nxtN J.n t) = 80 ∧ savJ J (cutS S 0) p (nxtN J.n t) = { J with o := true } ∧ onS (savS J (cutS S 0) p (nxtN J.n t)) = S) := ⟨u1, u2, u3⟩
            have HV : Hid (savI { J with o := true } S p (nxtN J.n t) = 80 ∧ savJ { J with o := true } S p (nxtN J.n t) = { J with o := true } ∧ savS { J with o := true } S p (nxtN J.n t) = S) := ⟨v1, v2, v3⟩
            have HWR : Hid (S.wr < 9223372036854775800 ∧ S.rd < 9223372036854775800) := ⟨by have := HT1.out.wr; omega, by have := HT1.out.rd; omega⟩
            clear u1 u2 u3 v1 v2 v3
            go_wp2_with fail
            refine (lw_cut HT1.out.lw (m := 0) (by omega)).mono ?_
            rintro e x3 ⟨rfl, hL3, hC3⟩
            have HL3 := hidH hL3
            have HC3 : Hid (ChA wz A2 x2 x3) := hC3
            have HNM : Hid (∀ wx, ChA wz A2 x2 wx → (wx.cell? ⟨N, 0, none⟩ = some (.int .i64 J.n.b) ∧ wx.cell? ⟨N, 1, none⟩ = some (.slice po J.n.p.length pc) ∧ wx.cell? ⟨N, 2, none⟩ = some (.slice co J.n.c.length cc) ∧ wx.cell? ⟨N, 3, none⟩ = some (.int .i64 J.n.a)) ∧ (wx.cell? ⟨M, 0, none⟩ = some (.int .i64 (nxtN J.n t).b) ∧ wx.cell? ⟨M, 1, none⟩ = some (.slice po2 (nxtN J.n t).p.length pc2) ∧ wx.cell? ⟨M, 2, none⟩ = some (.slice co2 (nxtN J.n t).c.length cc2) ∧ wx.cell? ⟨M, 3, none⟩ = some (.int .i64 (nxtN J.n t).a))) := fun wx hx => by
              refine ⟨?_, ?_⟩
              · have hb := (HT1.out.vn.chA hx).blk
                exact ⟨by rw [blk_cell hb]; rfl, by rw [blk_cell hb]; rfl, by rw [blk_cell hb]; rfl, by rw [blk_cell hb]; rfl⟩
              · have hb := (HT1.out.vm.chA hx).blk
                exact ⟨by rw [blk_cell hb]; rfl, by rw [blk_cell hb]; rfl, by rw [blk_cell hb]; rfl, by rw [blk_cell hb]; rfl⟩
            clear hL3 hC3 q3
            go_wp2_with fail
            refine wp_region_noPanic ?_
            refine wp_region_held_drew (S := fun wx => (wx.cell? ⟨N, 0, none⟩ = some (.int .i64 J.n.b) ∧ wx.cell? ⟨N, 1, none⟩ = some (.slice po J.n.p.length pc) ∧ wx.cell? ⟨N, 2, none⟩ = some (.slice co J.n.c.length cc) ∧ wx.cell? ⟨N, 3, none⟩ = some (.int .i64 J.n.a)) ∧ (wx.cell? ⟨M, 0, none⟩ = some (.int .i64 (nxtN J.n t).b) ∧ wx.cell? ⟨M, 1, none⟩ = some (.slice po2 (nxtN J.n t).p.length pc2) ∧ wx.cell? ⟨M, 2, none⟩ = some (.slice co2 (nxtN J.n t).c.length cc2) ∧ wx.cell? ⟨M, 3, none⟩ = some (.int .i64 (nxtN J.n t).a))) (by kernel_rfl) ?_ (fun hHeld => ?_)
            · exact (HNM.out _ (HC3.out.self (Ch.of_below (below_drewN x3 1))))
            refine wpAnyH_take (i := 0) (oi := ⟨some 141, _, _, _, _, _⟩) (v := ?_) rfl (by kernel_rfl) (by kernel_rfl) (by kernel_rfl) (fun _ _ _ h => h) (Or.inl ⟨by rfl, ?_⟩) hHeld ?_
            rotate_left
            · intro w hSw; (try dsimp only at hSw); go_simp; all_goals (with_reducible rfl)
            try simp only [Act.put, List.setIfInBounds_toArray, List.set_cons_zero, List.set_cons_succ]
            refine wpAnyH_take (i := 1) (oi := ⟨some 142, _, _, _, _, _⟩) (v := ?_) rfl (by kernel_rfl) (by kernel_rfl) (by kernel_rfl) (fun _ _ _ h => h) (Or.inl ⟨by rfl, ?_⟩) hHeld ?_
            rotate_left
            · intro w hSw; (try dsimp only at hSw); go_simp; all_goals (with_reducible rfl)
            try simp only [Act.put, List.setIfInBounds_toArray, List.set_cons_zero, List.set_cons_succ]
            refine wpAnyH_ready (rs := [2]) (by kernel_rfl) (by simp) ?_
            refine AllReadyH.cons (o := ⟨some 143, _, _, _, _, _⟩) rfl (fun K hK => ?_) AllReadyH.nil
            go_simp
            refine (lw_save (n := nxtN J.n t) (HL3.out.below (below_drewN x3 1)) ((HT1.out.vm.chA (HC3.out.self (Ch.of_below (below_drewN x3 1)))).p.nv) ((HT1.out.vm.chA (HC3.out.self (Ch.of_below (below_drewN x3 1)))).c.nv) HNB.out HWR.out.1).mono ?_
            rintro e x4 ⟨he, hL4, hC4⟩
            rw [HU.out.1] at he
            subst he
            rw [HU.out.2.1] at hL4
            have HL4 := hidH hL4
            have HC4 : Hid (ChA wz A2 x2 x4) := (HC3.out.self (Ch.of_below (below_drewN x3 1))).self hC4
            clear hL4 hC4
            go_simp
            refine hK.out _ _ ?_ (fun hHeld => ?_)
            · exact (HNM.out _ HC4.out)
            clear hK K
            try simp only [Act.put, List.setIfInBounds_toArray, List.set_cons_zero, List.set_cons_succ]
            refine wpAnyH_take (i := 3) (oi := ⟨some 144, _, _, _, _, _⟩) (v := ?_) rfl (by kernel_rfl) (by kernel_rfl) (by kernel_rfl) (fun _ _ _ h => h) (Or.inl ⟨by rfl, ?_⟩) hHeld ?_
            rotate_left
            · intro w hSw; (try dsimp only at hSw); go_simp; all_goals (with_reducible rfl)
            try simp only [Act.put, List.setIfInBounds_toArray, List.set_cons_zero, List.set_cons_succ]
            refine wpAnyH_take (i := 4) (oi := ⟨some 145, _, _, _, _, _⟩) (v := ?_) rfl (by kernel_rfl) (by kernel_rfl) (by kernel_rfl) (fun _ _ _ h => h) (Or.inl ⟨by rfl, ?_⟩) hHeld ?_
            rotate_left
            · intro w hSw; (try dsimp only at hSw); go_simp; all_goals (with_reducible rfl)
            try simp only [Act.put, List.setIfInBounds_toArray, List.set_cons_zero, List.set_cons_succ]
            refine wpAnyH_take (i := 5) (oi := ⟨some 146, _, _, _, _, _⟩) (v := ?_) rfl (by kernel_rfl) (by kernel_rfl) (by kernel_rfl) (fun _ _ _ h => h) (Or.inl ⟨by rfl, ?_⟩) hHeld ?_
            rotate_left
            · intro w hSw; (try dsimp only at hSw); go_simp; all_goals (with_reducible rfl)
            try simp only [Act.put, List.setIfInBounds_toArray, List.set_cons_zero, List.set_cons_succ]
            refine wpAnyH_ready (rs := [6]) (by kernel_rfl) (by simp) ?_
            refine AllReadyH.cons (o := ⟨some 147, _, _, _, _, _⟩) rfl (fun K hK => ?_) AllReadyH.nil
            go_simp
            refine (lw_ended HL4.out).mono ?_
            rintro e x5 ⟨rfl, h5⟩
            replace h5 := h5.symm
            subst h5
            go_simp
            refine hK.out _ _ ?_ (fun hHeld => ?_)
            · exact (HNM.out _ HC4.out)
            clear hK K
            try simp only [Act.put, List.setIfInBounds_toArray, List.set_cons_zero, List.set_cons_succ]
            refine wpAnyH_take (i := 7) (oi := ⟨some 148, _, _, _, _, _⟩) (v := ?_) rfl (by kernel_rfl) (by kernel_rfl) (by kernel_rfl) (fun _ _ _ h => h) (Or.inl ⟨by rfl, ?_⟩) hHeld ?_
            rotate_left
            · intro w hSw; (try dsimp only at hSw); go_simp; all_goals (with_reducible rfl)
            try simp only [Act.put, List.setIfInBounds_toArray, List.set_cons_zero, List.set_cons_succ]
            refine wpAnyH_take (i := 8) (oi := ⟨some 149, _, _, _, _, _⟩) (v := ?_) rfl (by kernel_rfl) (by kernel_rfl) (by kernel_rfl) (fun _ _ _ h => h) (Or.inl ⟨by rfl, ?_⟩) hHeld ?_
            rotate_left
            · intro w hSw; (try dsimp only at hSw); go_simp; all_goals (with_reducible rfl)
            try simp only [Act.put, List.setIfInBounds_toArray, List.set_cons_zero, List.set_cons_succ]
            refine wpAnyH_take (i := 9) (oi := ⟨some 150, _, _, _, _, _⟩) (v := ?_) rfl (by kernel_rfl) (by kernel_rfl) (by kernel_rfl) (fun _ _ _ h => h) (Or.inl ⟨by rfl, ?_⟩) hHeld ?_
            rotate_left
            · intro w hSw; (try dsimp only at hSw); go_simp; all_goals (with_reducible rfl)
            try simp only [Act.put, List.setIfInBounds_toArray, List.set_cons_zero, List.set_cons_succ]
            refine wpAnyH_take (i := 10) (oi := ⟨some 151, _, _, _, _, _⟩) (v := ?_) rfl (by kernel_rfl) (by kernel_rfl) (by kernel_rfl) (fun _ _ _ h => h) (Or.inl ⟨by rfl, ?_⟩) hHeld ?_
            rotate_left
            · intro w hSw; (try dsimp only at hSw); go_simp; all_goals (with_reducible rfl)
            try simp only [Act.put, List.setIfInBounds_toArray, List.set_cons_zero, List.set_cons_succ]
            refine wpAnyH_take (i := 12) (oi := ⟨some 153, _, _, _, _, _⟩) (v := ?_) rfl (by kernel_rfl) (by kernel_rfl) (by kernel_rfl) (fun _ _ _ h => h) (Or.inl ⟨by rfl, ?_⟩) hHeld ?_
            rotate_left
            · intro w hSw; (try dsimp only at hSw); go_simp; all_goals (with_reducible rfl)
            try simp only [Act.put, List.setIfInBounds_toArray, List.set_cons_zero, List.set_cons_succ]
            refine wpAnyH_ready (rs := [11]) (by kernel_rfl) (by simp) ?_
            refine AllReadyH.cons (o := ⟨some 152, _, _, _, _, _⟩) rfl (fun K hK => ?_) AllReadyH.nil
            go_simp
            refine (lw_note HL4.out).mono ?_
            rintro e x5 ⟨pa9, pc9, ca9, cc9, rfl, ho1, ho2, hB5⟩
            have HB5 : Hid (Below x4.heap.size x4 x5) := hB5
            have HC5 : Hid (ChA wz A2 x2 x5) := HC4.out.self (Ch.of_below hB5)
            have HP9 : Hid (Nv x5 (.slice pa9 J.n.p.length pc9) J.n.p) := own_nv ho1 (rgt_p64 HRN.out)
            have HQ9 : Hid (Nv x5 (.slice ca9 J.n.c.length cc9) J.n.c) := own_nv ho2 (rgt_c64 HRN.out)
            clear ho1 ho2 hB5
            go_simp
            refine hK.out _ _ ?_ (fun hHeld => ?_)
            · exact (HNM.out _ HC5.out)
            clear hK K
            try simp only [Act.put, List.setIfInBounds_toArray, List.set_cons_zero, List.set_cons_succ]
            refine wpAnyH_ready (rs := [13]) (by kernel_rfl) (by simp) ?_
            refine AllReadyH.cons (o := ⟨some 154, _, _, _, _, _⟩) rfl (fun K hK => ?_) AllReadyH.nil
            go_simp
            refine (notes_walk (n := J.n) HP9.out HQ9.out ((HT1.out.vn.chA HC5.out).p.nv) ((HT1.out.vn.chA HC5.out).c.nv)).mono ?_
            rintro e x6 ⟨rfl, hB6⟩
            have HL6 := hidH ((HL4.out.below HB5.out).below hB6)
            have HC6 : Hid (ChA wz A2 x2 x6) := HC5.out.self (Ch.of_below hB6)
            clear hB6
            go_simp
            refine hK.out _ _ ?_ (fun hHeld => ?_)
            · exact (HNM.out _ HC6.out)
            clear hK K
            try simp only [Act.put, List.setIfInBounds_toArray, List.set_cons_zero, List.set_cons_succ]
            refine wpAnyH_take (i := 14) (oi := ⟨some 155, _, _, _, _, _⟩) (v := ?_) rfl (by kernel_rfl) (by kernel_rfl) (by kernel_rfl) (fun _ _ _ h => h) (Or.inl ⟨by rfl, ?_⟩) hHeld ?_
            rotate_left
            · intro w hSw; (try dsimp only at hSw); go_simp; all_goals (with_reducible rfl)
            try simp only [Act.put, List.setIfInBounds_toArray, List.set_cons_zero, List.set_cons_succ]
            refine wpAnyH_take (i := 15) (oi := ⟨some 156, _, _, _, _, _⟩) (v := ?_) rfl (by kernel_rfl) (by kernel_rfl) (by kernel_rfl) (fun _ _ _ h => h) (Or.inl ⟨by rfl, ?_⟩) hHeld ?_
            rotate_left
            · intro w hSw; (try dsimp only at hSw); go_simp; all_goals (with_reducible rfl)
            try simp only [Act.put, List.setIfInBounds_toArray, List.set_cons_zero, List.set_cons_succ]
            refine wpAnyH_done (by kernel_rfl) ?_ _
            refine NoPanic.normal ?_
            clear HP9 HQ9 HL3 HC3 HL4 HC4 HB5 HC5
            go_wp2_with fail
            refine (lw_on HL6.out).mono ?_
            rintro e x7 ⟨rfl, hL7, hC7⟩
            rw [HU.out.2.2] at hL7
            have HL7 := hidH hL7
            have HC7 : Hid (ChA wz A2 x2 x7) := HC6.out.self hC7
            obtain ⟨_, m0, m1, m2, m3⟩ := HNM.out _ HC7.out
            clear hL7 hC7 HL6 HC6
            go_wp2_with fail
            refine (lw_save (n := nxtN J.n t) HL7.out ((HT1.out.vm.chA HC7.out).p.nv) ((HT1.out.vm.chA HC7.out).c.nv) HNB.out HWR.out.1).mono ?_
            rintro e x8 ⟨he, hL8, hC8⟩
            rw [HV.out.1] at he
            subst he
            rw [HV.out.2.1, HV.out.2.2] at hL8
            have HL8 := hidH hL8
            have HC8 : Hid (ChA wz A2 x2 x8) := HC7.out.self hC8
            clear hL8 hC8 HL7 HC7 m0 m1 m2 m3
            go_wp2_with fail
            refine (lw_open HL8.out p HWR.out.2).mono ?_
            obtain ⟨o1, o2⟩ := HT1.out.gd.opn (by omega)
            rintro e x9 ⟨hC9, ⟨hne, _⟩ | ⟨h', g', n', jb', _, hop, rfl, hL9⟩⟩
            · exact absurd o1 hne
            rw [HT1.out.gd.found] at hop
            simp only [Option.some.injEq, Prod.mk.injEq] at hop
            obtain ⟨rfl, rfl, rfl⟩ := hop
            rw [o2] at hL9
            have HL9 : Hid (Lw wz A2 sb jb' p J (rdK S 2) x9) := by
              show Lw _ _ _ _ _ _ _ _
              have e : J = ⟨J.g, J.n, J.h, false⟩ := by
                have := HT1.out.gd.no
                obtain ⟨g, n, h, o⟩ := J
                simp only at this
                subst this
                rfl
              rw [e]
              exact hL9
            have HC9 : Hid (ChA wz A2 x2 x9) := HC8.out.self hC9
            clear o1 o2 hL9 hC9 HL8 HC8
            go_wp2_with fail
            refine wp_region_noPanic ?_
            refine wp_region_held_drew (S := fun wx => (wx.cell? ⟨N, 0, none⟩ = some (.int .i64 J.n.b) ∧ wx.cell? ⟨N, 1, none⟩ = some (.slice po J.n.p.length pc) ∧ wx.cell? ⟨N, 2, none⟩ = some (.slice co J.n.c.length cc) ∧ wx.cell? ⟨N, 3, none⟩ = some (.int .i64 J.n.a)) ∧ (wx.cell? ⟨M, 0, none⟩ = some (.int .i64 (nxtN J.n t).b) ∧ wx.cell? ⟨M, 1, none⟩ = some (.slice po2 (nxtN J.n t).p.length pc2) ∧ wx.cell? ⟨M, 2, none⟩ = some (.slice co2 (nxtN J.n t).c.length cc2) ∧ wx.cell? ⟨M, 3, none⟩ = some (.int .i64 (nxtN J.n t).a))) (by kernel_rfl) ?_ (fun hHeld => ?_)
            · exact (HNM.out _ (HC9.out.self (Ch.of_below (below_drewN x9 1))))
            refine wpAnyH_take (i := 0) (oi := ⟨some 169, _, _, _, _, _⟩) (v := ?_) rfl (by kernel_rfl) (by kernel_rfl) (by kernel_rfl) (fun _ _ _ h => h) (Or.inl ⟨by rfl, ?_⟩) hHeld ?_
            rotate_left
            · intro w hSw; (try dsimp only at hSw); go_simp; all_goals (with_reducible rfl)
            try simp only [Act.put, List.setIfInBounds_toArray, List.set_cons_zero, List.set_cons_succ]
            refine wpAnyH_take (i := 1) (oi := ⟨some 170, _, _, _, _, _⟩) (v := ?_) rfl (by kernel_rfl) (by kernel_rfl) (by kernel_rfl) (fun _ _ _ h => h) (Or.inl ⟨by rfl, ?_⟩) hHeld ?_
            rotate_left
            · intro w hSw; (try dsimp only at hSw); go_simp; all_goals (with_reducible rfl)
            try simp only [Act.put, List.setIfInBounds_toArray, List.set_cons_zero, List.set_cons_succ]
            refine wpAnyH_take (i := 2) (oi := ⟨some 171, _, _, _, _, _⟩) (v := ?_) rfl (by kernel_rfl) (by kernel_rfl) (by kernel_rfl) (fun _ _ _ h => h) (Or.inl ⟨by rfl, ?_⟩) hHeld ?_
            rotate_left
            · intro w hSw; (try dsimp only at hSw); go_simp; all_goals (with_reducible rfl)
            try simp only [Act.put, List.setIfInBounds_toArray, List.set_cons_zero, List.set_cons_succ]
            refine wpAnyH_take (i := 3) (oi := ⟨some 172, _, _, _, _, _⟩) (v := ?_) rfl (by kernel_rfl) (by kernel_rfl) (by kernel_rfl) (fun _ _ _ h => h) (Or.inl ⟨by rfl, ?_⟩) hHeld ?_
            rotate_left
            · intro w hSw; (try dsimp only at hSw); go_simp; all_goals (with_reducible rfl)
            try simp only [Act.put, List.setIfInBounds_toArray, List.set_cons_zero, List.set_cons_succ]
            refine wpAnyH_take (i := 5) (oi := ⟨some 174, _, _, _, _, _⟩) (v := ?_) rfl (by kernel_rfl) (by kernel_rfl) (by kernel_rfl) (fun _ _ _ h => h) (Or.inl ⟨by rfl, ?_⟩) hHeld ?_
            rotate_left
            · intro w hSw; (try dsimp only at hSw); go_simp; all_goals (with_reducible rfl)
            try simp only [Act.put, List.setIfInBounds_toArray, List.set_cons_zero, List.set_cons_succ]
            refine wpAnyH_ready (rs := [4]) (by kernel_rfl) (by simp) ?_
            refine AllReadyH.cons (o := ⟨some 173, _, _, _, _, _⟩) rfl (fun K hK => ?_) AllReadyH.nil
            go_simp
            refine (lw_note (HL9.out.below (below_drewN x9 1))).mono ?_
            rintro e x10 ⟨pa9, pc9, ca9, cc9, rfl, ho1, ho2, hB9⟩
            have HBy : Hid (Below x9.heap.size x9 x10) := below_trans (below_drewN x9 1) hB9
            have HCy : Hid (ChA wz A2 x2 x10) := HC9.out.self (Ch.of_below HBy.out)
            have HP9 : Hid (Nv x10 (.slice pa9 J.n.p.length pc9) J.n.p) := own_nv ho1 (rgt_p64 HRN.out)
            have HQ9 : Hid (Nv x10 (.slice ca9 J.n.c.length cc9) J.n.c) := own_nv ho2 (rgt_c64 HRN.out)
            clear ho1 ho2 hB9
            go_simp
            refine hK.out _ _ ?_ (fun hHeld => ?_)
            · exact (HNM.out _ HCy.out)
            clear hK K
            try simp only [Act.put, List.setIfInBounds_toArray, List.set_cons_zero, List.set_cons_succ]
            refine wpAnyH_ready (rs := [6]) (by kernel_rfl) (by simp) ?_
            refine AllReadyH.cons (o := ⟨some 175, _, _, _, _, _⟩) rfl (fun K hK => ?_) AllReadyH.nil
            go_simp
            refine (notes_walk (n := J.n) HP9.out HQ9.out ((HT1.out.vn.chA HCy.out).p.nv) ((HT1.out.vn.chA HCy.out).c.nv)).mono ?_
            rintro e x11 ⟨rfl, hBz⟩
            have HBw : Hid (Below x9.heap.size x9 x11) := below_trans HBy.out hBz
            have HCz : Hid (ChA wz A2 x2 x11) := HC9.out.self (Ch.of_below HBw.out)
            clear hBz
            go_simp
            refine hK.out _ _ ?_ (fun hHeld => ?_)
            · exact (HNM.out _ HCz.out)
            clear hK K
            try simp only [Act.put, List.setIfInBounds_toArray, List.set_cons_zero, List.set_cons_succ]
            refine wpAnyH_take (i := 7) (oi := ⟨some 176, _, _, _, _, _⟩) (v := ?_) rfl (by kernel_rfl) (by kernel_rfl) (by kernel_rfl) (fun _ _ _ h => h) (Or.inl ⟨by rfl, ?_⟩) hHeld ?_
            rotate_left
            · intro w hSw; (try dsimp only at hSw); go_simp; all_goals (with_reducible rfl)
            try simp only [Act.put, List.setIfInBounds_toArray, List.set_cons_zero, List.set_cons_succ]
            refine wpAnyH_take (i := 8) (oi := ⟨some 177, _, _, _, _, _⟩) (v := ?_) rfl (by kernel_rfl) (by kernel_rfl) (by kernel_rfl) (fun _ _ _ h => h) (Or.inl ⟨by rfl, ?_⟩) hHeld ?_
            rotate_left
            · intro w hSw; (try dsimp only at hSw); go_simp; all_goals (with_reducible rfl)
            try simp only [Act.put, List.setIfInBounds_toArray, List.set_cons_zero, List.set_cons_succ]
            refine wpAnyH_done (by kernel_rfl) ?_ _
            refine NoPanic.normal ?_
            go_wp2_with fail
            go_meet
            exact ⟨jb', rdK S 2, rfl, HT1.out.turn (HL9.out.below HBw.out) HCz.out (HT1.out.gd.rd 2) (by rw [(rdK_same S 2).2.2.2.1]; exact HT1.out.wr) (by have h1 := (rdK_same S 2).2.2.2.2; have h2 := HT0.out; omega)⟩
      case rest =>
        as_aux_lemma =>
          clear HT1 q3
          obtain ⟨jb2, S2, rfl, hT2⟩ := hcut
          obtain ⟨x3, hx3⟩ : ∃ x3, x3 = wc := ⟨_, rfl⟩
          subst hx3
          have HT2 := hidH hT2
          have HSV := hidH (hT2.gd.save (n := nxtN J.n t) HRX.out nxt_fol HG40.out)
          have HGN := hidH (hT2.gd.next (n := nxtN J.n t) HRX.out HG40.out)
          have HWR : Hid (S2.wr < 9223372036854775800 ∧ S2.rd < 9223372036854775800) := ⟨by have := hT2.wr; omega, by have := hT2.rd; omega⟩
          have HNM : Hid (∀ wx, ChA wz A2 x3 wx → (wx.cell? ⟨N, 0, none⟩ = some (.int .i64 J.n.b) ∧ wx.cell? ⟨N, 1, none⟩ = some (.slice po J.n.p.length pc) ∧ wx.cell? ⟨N, 2, none⟩ = some (.slice co J.n.c.length cc) ∧ wx.cell? ⟨N, 3, none⟩ = some (.int .i64 J.n.a)) ∧ (wx.cell? ⟨M, 0, none⟩ = some (.int .i64 (nxtN J.n t).b) ∧ wx.cell? ⟨M, 1, none⟩ = some (.slice po2 (nxtN J.n t).p.length pc2) ∧ wx.cell? ⟨M, 2, none⟩ = some (.slice co2 (nxtN J.n t).c.length cc2) ∧ wx.cell? ⟨M, 3, none⟩ = some (.int .i64 (nxtN J.n t).a))) := fun wx hx => by
            refine ⟨?_, ?_⟩
            · have hb := (HT2.out.vn.chA hx).blk
              exact ⟨by rw [blk_cell hb]; rfl, by rw [blk_cell hb]; rfl, by rw [blk_cell hb]; rfl, by rw [blk_cell hb]; rfl⟩
            · have hb := (HT2.out.vm.chA hx).blk
              exact ⟨by rw [blk_cell hb]; rfl, by rw [blk_cell hb]; rfl, by rw [blk_cell hb]; rfl, by rw [blk_cell hb]; rfl⟩
          have rw1 : IntKind.i64.wrap ((S2.wr : Int) + 1) = (S2.wr : Int) + 1 := wrapU (by omega) (by have := HWR.out.1; omega)
          have rw2 : (((S2.wr + 1 : Nat) : Int) != (S2.wr : Int) + 1) = false := by simp
          have ab := nxt_ab (n := J.n) (t := t)
          have ra1 : decide ((nxtN J.n t).a < J.n.a) = false := by rw [decide_eq_false_iff_not]; omega
          have ra2 : decide ((nxtN J.n t).b < J.n.b) = false := by rw [decide_eq_false_iff_not]; omega
          have HFW : Hid (fwdB J.n.c (nxtN J.n t).c = true) := (nxt_fwd HRN.out).yes
          clear hT2 ab
          refine hK7 _ _ ?_
          go_wp2_with fail
          refine (lw_writes HT2.out.lw).mono ?_
          rintro e x4 ⟨rfl, h4⟩
          replace h4 := h4.symm
          subst h4
          go_wp2_with fail
          refine wp_region_noPanic ?_
          refine wp_region_held_drew (S := fun wx => (wx.cell? ⟨N, 0, none⟩ = some (.int .i64 J.n.b) ∧ wx.cell? ⟨N, 1, none⟩ = some (.slice po J.n.p.length pc) ∧ wx.cell? ⟨N, 2, none⟩ = some (.slice co J.n.c.length cc) ∧ wx.cell? ⟨N, 3, none⟩ = some (.int .i64 J.n.a)) ∧ (wx.cell? ⟨M, 0, none⟩ = some (.int .i64 (nxtN J.n t).b) ∧ wx.cell? ⟨M, 1, none⟩ = some (.slice po2 (nxtN J.n t).p.length pc2) ∧ wx.cell? ⟨M, 2, none⟩ = some (.slice co2 (nxtN J.n t).c.length cc2) ∧ wx.cell? ⟨M, 3, none⟩ = some (.int .i64 (nxtN J.n t).a))) (by kernel_rfl) ?_ (fun hHeld => ?_)
          · exact (HNM.out _ (Ch.of_below (below_drewN x3 1)))
          refine wpAnyH_take (i := 0) (oi := ⟨some 180, _, _, _, _, _⟩) (v := ?_) rfl (by kernel_rfl) (by kernel_rfl) (by kernel_rfl) (fun _ _ _ h => h) (Or.inl ⟨by rfl, ?_⟩) hHeld ?_
          rotate_left
          · intro w hSw; (try dsimp only at hSw); go_simp; all_goals (with_reducible rfl)
          try simp only [Act.put, List.setIfInBounds_toArray, List.set_cons_zero, List.set_cons_succ]
          refine wpAnyH_take (i := 1) (oi := ⟨some 181, _, _, _, _, _⟩) (v := ?_) rfl (by kernel_rfl) (by kernel_rfl) (by kernel_rfl) (fun _ _ _ h => h) (Or.inl ⟨by rfl, ?_⟩) hHeld ?_
          rotate_left
          · intro w hSw; (try dsimp only at hSw); go_simp; all_goals (with_reducible rfl)
          try simp only [Act.put, List.setIfInBounds_toArray, List.set_cons_zero, List.set_cons_succ]
          refine wpAnyH_ready (rs := [2]) (by kernel_rfl) (by simp) ?_
          refine AllReadyH.cons (o := ⟨some 182, _, _, _, _, _⟩) rfl (fun K hK => ?_) AllReadyH.nil
          go_simp
          refine (lw_save (n := nxtN J.n t) (HT2.out.lw.below (below_drewN x3 1)) ((HT2.out.vm.below (below_drewN x3 1)).p.nv) ((HT2.out.vm.below (below_drewN x3 1)).c.nv) HNB.out HWR.out.1).mono ?_
          rintro e x5 ⟨he, hL5, hC5⟩
          rw [HSV.out.1] at he
          subst he
          rw [HSV.out.2.1, HSV.out.2.2] at hL5
          have HL5 := hidH hL5
          have HC5 : Hid (ChA wz A2 x3 x5) := (Ch.of_below (D := fun x => wz.heap.size ≤ x ∧ ¬ A2 x) (below_drewN x3 1)).self hC5
          clear hL5 hC5
          go_simp
          refine hK.out _ _ ?_ (fun hHeld => ?_)
          · exact (HNM.out _ HC5.out)
          clear hK K
          try simp only [Act.put, List.setIfInBounds_toArray, List.set_cons_zero, List.set_cons_succ]
          refine wpAnyH_take (i := 3) (oi := ⟨some 183, _, _, _, _, _⟩) (v := ?_) rfl (by kernel_rfl) (by kernel_rfl) (by kernel_rfl) (fun _ _ _ h => h) (Or.inl ⟨by rfl, ?_⟩) hHeld ?_
          rotate_left
          · intro w hSw; (try dsimp only at hSw); go_simp; all_goals (with_reducible rfl)
          try simp only [Act.put, List.setIfInBounds_toArray, List.set_cons_zero, List.set_cons_succ]
          refine wpAnyH_take (i := 4) (oi := ⟨some 184, _, _, _, _, _⟩) (v := ?_) rfl (by kernel_rfl) (by kernel_rfl) (by kernel_rfl) (fun _ _ _ h => h) (Or.inl ⟨by rfl, ?_⟩) hHeld ?_
          rotate_left
          · intro w hSw; (try dsimp only at hSw); go_simp; all_goals (with_reducible rfl)
          try simp only [Act.put, List.setIfInBounds_toArray, List.set_cons_zero, List.set_cons_succ]
          refine wpAnyH_take (i := 5) (oi := ⟨some 185, _, _, _, _, _⟩) (v := ?_) rfl (by kernel_rfl) (by kernel_rfl) (by kernel_rfl) (fun _ _ _ h => h) (Or.inl ⟨by rfl, ?_⟩) hHeld ?_
          rotate_left
          · intro w hSw; (try dsimp only at hSw); go_simp; all_goals (with_reducible rfl)
          try simp only [Act.put, List.setIfInBounds_toArray, List.set_cons_zero, List.set_cons_succ]
          refine wpAnyH_take (i := 7) (oi := ⟨some 187, _, _, _, _, _⟩) (v := ?_) rfl (by kernel_rfl) (by kernel_rfl) (by kernel_rfl) (fun _ _ _ h => h) (Or.inl ⟨by rfl, ?_⟩) hHeld ?_
          rotate_left
          · intro w hSw; (try dsimp only at hSw); go_simp; all_goals (with_reducible rfl)
          try simp only [Act.put, List.setIfInBounds_toArray, List.set_cons_zero, List.set_cons_succ]
          refine wpAnyH_take (i := 8) (oi := ⟨some 188, _, _, _, _, _⟩) (v := ?_) rfl (by kernel_rfl) (by kernel_rfl) (by kernel_rfl) (fun _ _ _ h => h) (Or.inl ⟨by rfl, ?_⟩) hHeld ?_
          rotate_left
          · intro w hSw; (try dsimp only at hSw); go_simp; all_goals (with_reducible rfl)
          try simp only [Act.put, List.setIfInBounds_toArray, List.set_cons_zero, List.set_cons_succ]
          refine wpAnyH_ready (rs := [6]) (by kernel_rfl) (by simp) ?_
          refine AllReadyH.cons (o := ⟨some 186, _, _, _, _, _⟩) rfl (fun K hK => ?_) AllReadyH.nil
          go_simp
          refine (lw_writes HL5.out).mono ?_
          rintro e x6 ⟨he, h6⟩
          replace h6 := h6.symm
          subst h6
          replace he : e = .returned (.int .i64 ((S2.wr + 1 : Nat) : Int)) := he
          subst he
          go_simp
          refine hK.out _ _ ?_ (fun hHeld => ?_)
          · exact (HNM.out _ HC5.out)
          clear hK K
          try simp only [Act.put, List.setIfInBounds_toArray, List.set_cons_zero, List.set_cons_succ]
          refine wpAnyH_take (i := 9) (oi := ⟨some 189, _, _, _, _, _⟩) (v := ?_) rfl (by kernel_rfl) (by kernel_rfl) (by kernel_rfl) (fun _ _ _ h => h) (Or.inl ⟨by rfl, ?_⟩) hHeld ?_
          rotate_left
          · intro w hSw; (try dsimp only at hSw); go_simp; all_goals (with_reducible rfl)
          try simp only [Act.put, List.setIfInBounds_toArray, List.set_cons_zero, List.set_cons_succ]
          refine wpAnyH_take (i := 10) (oi := ⟨some 190, _, _, _, _, _⟩) (v := ?_) rfl (by kernel_rfl) (by kernel_rfl) (by kernel_rfl) (fun _ _ _ h => h) (Or.inl ⟨by rfl, ?_⟩) hHeld ?_
          rotate_left
          · intro w hSw; (try dsimp only at hSw); go_simp; all_goals (with_reducible rfl)
          try simp only [Act.put, List.setIfInBounds_toArray, List.set_cons_zero, List.set_cons_succ]
          refine wpAnyH_take (i := 11) (oi := ⟨some 191, _, _, _, _, _⟩) (v := ?_) rfl (by kernel_rfl) (by kernel_rfl) (by kernel_rfl) (fun _ _ _ h => h) (Or.inl ⟨by rfl, ?_⟩) hHeld ?_
          rotate_left
          · intro w hSw; (try dsimp only at hSw); go_simp; all_goals (with_reducible rfl)
          try simp only [Act.put, List.setIfInBounds_toArray, List.set_cons_zero, List.set_cons_succ]
          refine wpAnyH_take (i := 12) (oi := ⟨some 192, _, _, _, _, _⟩) (v := ?_) rfl (by kernel_rfl) (by kernel_rfl) (by kernel_rfl) (fun _ _ _ h => h) (Or.inl ⟨by rfl, ?_⟩) hHeld ?_
          rotate_left
          · intro w hSw; (try dsimp only at hSw); go_simp; all_goals (with_reducible rfl)
          try simp only [Act.put, List.setIfInBounds_toArray, List.set_cons_zero, List.set_cons_succ]
          refine wpAnyH_take (i := 14) (oi := ⟨some 194, _, _, _, _, _⟩) (v := ?_) rfl (by kernel_rfl) (by kernel_rfl) (by kernel_rfl) (fun _ _ _ h => h) (Or.inl ⟨by rfl, ?_⟩) hHeld ?_
          rotate_left
          · intro w hSw; (try dsimp only at hSw); go_simp; all_goals (with_reducible rfl)
          try simp only [Act.put, List.setIfInBounds_toArray, List.set_cons_zero, List.set_cons_succ]
          refine wpAnyH_ready (rs := [13]) (by kernel_rfl) (by simp) ?_
          refine AllReadyH.cons (o := ⟨some 193, _, _, _, _, _⟩) rfl (fun K hK => ?_) AllReadyH.nil
          go_simp
          refine (lw_note HL5.out).mono ?_
          rintro e x6 ⟨pa9, pc9, ca9, cc9, he, ho1, ho2, hB6⟩
          replace he : e = .returned (.agg #[.int .i64 (nxtN J.n t).b, .slice pa9 (nxtN J.n t).p.length pc9, .slice ca9 (nxtN J.n t).c.length cc9, .int .i64 (nxtN J.n t).a]) := he
          subst he
          have HB6 : Hid (Below x5.heap.size x5 x6) := hB6
          have HC6 : Hid (ChA wz A2 x3 x6) := HC5.out.self (Ch.of_below hB6)
          have HP9 : Hid (Nv x6 (.slice pa9 (nxtN J.n t).p.length pc9) (nxtN J.n t).p) := own_nv ho1 (rgt_p64 HRX.out)
          have HQ9 : Hid (Nv x6 (.slice ca9 (nxtN J.n t).c.length cc9) (nxtN J.n t).c) := own_nv ho2 (rgt_c64 HRX.out)
          clear ho1 ho2 hB6
          go_simp
          refine hK.out _ _ ?_ (fun hHeld => ?_)
          · exact (HNM.out _ HC6.out)
          clear hK K
          try simp only [Act.put, List.setIfInBounds_toArray, List.set_cons_zero, List.set_cons_succ]
          refine wpAnyH_ready (rs := [15]) (by kernel_rfl) (by simp) ?_
          refine AllReadyH.cons (o := ⟨some 195, _, _, _, _, _⟩) rfl (fun K hK => ?_) AllReadyH.nil
          go_simp
          refine (notes_walk (n := nxtN J.n t) HP9.out HQ9.out ((HT2.out.vm.chA HC6.out).p.nv) ((HT2.out.vm.chA HC6.out).c.nv)).mono ?_
          rintro e x7 ⟨rfl, hB7⟩
          have HB7 : Hid (Below x5.heap.size x5 x7) := below_trans HB6.out hB7
          have HC7 : Hid (ChA wz A2 x3 x7) := HC5.out.self (Ch.of_below HB7.out)
          clear hB7
          go_simp
          refine hK.out _ _ ?_ (fun hHeld => ?_)
          · exact (HNM.out _ HC7.out)
          clear hK K
          try simp only [Act.put, List.setIfInBounds_toArray, List.set_cons_zero, List.set_cons_succ]
          refine wpAnyH_take (i := 16) (oi := ⟨some 196, _, _, _, _, _⟩) (v := ?_) rfl (by kernel_rfl) (by kernel_rfl) (by kernel_rfl) (fun _ _ _ h => h) (Or.inl ⟨by rfl, ?_⟩) hHeld ?_
          rotate_left
          · intro w hSw; (try dsimp only at hSw); go_simp; all_goals (with_reducible rfl)
          try simp only [Act.put, List.setIfInBounds_toArray, List.set_cons_zero, List.set_cons_succ]
          refine wpAnyH_take (i := 17) (oi := ⟨some 197, _, _, _, _, _⟩) (v := ?_) rfl (by kernel_rfl) (by kernel_rfl) (by kernel_rfl) (fun _ _ _ h => h) (Or.inl ⟨by rfl, ?_⟩) hHeld ?_
          rotate_left
          · intro w hSw; (try dsimp only at hSw); go_simp; all_goals (with_reducible rfl)
          try simp only [Act.put, List.setIfInBounds_toArray, List.set_cons_zero, List.set_cons_succ]
          refine wpAnyH_take (i := 18) (oi := ⟨some 198, _, _, _, _, _⟩) (v := ?_) rfl (by kernel_rfl) (by kernel_rfl) (by kernel_rfl) (fun _ _ _ h => h) (Or.inl ⟨by rfl, ?_⟩) hHeld ?_
          rotate_left
          · intro w hSw; (try dsimp only at hSw); go_simp; all_goals (with_reducible rfl)
          try simp only [Act.put, List.setIfInBounds_toArray, List.set_cons_zero, List.set_cons_succ]
          refine wpAnyH_take (i := 19) (oi := ⟨some 199, _, _, _, _, _⟩) (v := ?_) rfl (by kernel_rfl) (by kernel_rfl) (by kernel_rfl) (fun _ _ _ h => h) (Or.inl ⟨by rfl, ?_⟩) hHeld ?_
          rotate_left
          · intro w hSw; (try dsimp only at hSw); go_simp; all_goals (with_reducible rfl)
          try simp only [Act.put, List.setIfInBounds_toArray, List.set_cons_zero, List.set_cons_succ]
          refine wpAnyH_take (i := 20) (oi := ⟨some 200, _, _, _, _, _⟩) (v := ?_) rfl (by kernel_rfl) (by kernel_rfl) (by kernel_rfl) (fun _ _ _ h => h) (Or.inl ⟨by rfl, ?_⟩) hHeld ?_
          rotate_left
          · intro w hSw; (try dsimp only at hSw); go_simp; all_goals (with_reducible rfl)
          try simp only [Act.put, List.setIfInBounds_toArray, List.set_cons_zero, List.set_cons_succ]
          refine wpAnyH_take (i := 21) (oi := ⟨some 201, _, _, _, _, _⟩) (v := ?_) rfl (by kernel_rfl) (by kernel_rfl) (by kernel_rfl) (fun _ _ _ h => h) (Or.inl ⟨by rfl, ?_⟩) hHeld ?_
          rotate_left
          · intro w hSw; (try dsimp only at hSw); go_simp; all_goals (with_reducible rfl)
          try simp only [Act.put, List.setIfInBounds_toArray, List.set_cons_zero, List.set_cons_succ]
          refine wpAnyH_take (i := 22) (oi := ⟨some 202, _, _, _, _, _⟩) (v := ?_) rfl (by kernel_rfl) (by kernel_rfl) (by kernel_rfl) (fun _ _ _ h => h) (Or.inl ⟨by rfl, ?_⟩) hHeld ?_
          rotate_left
          · intro w hSw; (try dsimp only at hSw); go_simp; all_goals (with_reducible rfl)
          try simp only [Act.put, List.setIfInBounds_toArray, List.set_cons_zero, List.set_cons_succ]
          refine wpAnyH_take (i := 23) (oi := ⟨some 203, _, _, _, _, _⟩) (v := ?_) rfl (by kernel_rfl) (by kernel_rfl) (by kernel_rfl) (fun _ _ _ h => h) (Or.inl ⟨by rfl, ?_⟩) hHeld ?_
          rotate_left
          · intro w hSw; (try dsimp only at hSw); go_simp; all_goals (with_reducible rfl)
          try simp only [Act.put, List.setIfInBounds_toArray, List.set_cons_zero, List.set_cons_succ]
          refine wpAnyH_take (i := 24) (oi := ⟨some 204, _, _, _, _, _⟩) (v := ?_) rfl (by kernel_rfl) (by kernel_rfl) (by kernel_rfl) (fun _ _ _ h => h) (Or.inl ⟨by rfl, ?_⟩) hHeld ?_
          rotate_left
          · intro w hSw; (try dsimp only at hSw); go_simp; all_goals (with_reducible rfl)
          try simp only [Act.put, List.setIfInBounds_toArray, List.set_cons_zero, List.set_cons_succ]
          refine wpAnyH_take (i := 25) (oi := ⟨some 205, _, _, _, _, _⟩) (v := ?_) rfl (by kernel_rfl) (by kernel_rfl) (by kernel_rfl) (fun _ _ _ h => h) (Or.inl ⟨by rfl, ?_⟩) hHeld ?_
          rotate_left
          · intro w hSw; (try dsimp only at hSw); go_simp; all_goals (with_reducible rfl)
          try simp only [Act.put, List.setIfInBounds_toArray, List.set_cons_zero, List.set_cons_succ]
          refine wpAnyH_take (i := 26) (oi := ⟨some 206, _, _, _, _, _⟩) (v := ?_) rfl (by kernel_rfl) (by kernel_rfl) (by kernel_rfl) (fun _ _ _ h => h) (Or.inl ⟨by rfl, ?_⟩) hHeld ?_
          rotate_left
          · intro w hSw; (try dsimp only at hSw); go_simp; all_goals (with_reducible rfl)
          try simp only [Act.put, List.setIfInBounds_toArray, List.set_cons_zero, List.set_cons_succ]
          refine wpAnyH_take (i := 27) (oi := ⟨some 207, _, _, _, _, _⟩) (v := ?_) rfl (by kernel_rfl) (by kernel_rfl) (by kernel_rfl) (fun _ _ _ h => h) (Or.inl ⟨by rfl, ?_⟩) hHeld ?_
          rotate_left
          · intro w hSw; (try dsimp only at hSw); go_simp; all_goals (with_reducible rfl)
          try simp only [Act.put, List.setIfInBounds_toArray, List.set_cons_zero, List.set_cons_succ]
          refine wpAnyH_take (i := 28) (oi := ⟨some 208, _, _, _, _, _⟩) (v := ?_) rfl (by kernel_rfl) (by kernel_rfl) (by kernel_rfl) (fun _ _ _ h => h) (Or.inl ⟨by rfl, ?_⟩) hHeld ?_
          rotate_left
          · intro w hSw; (try dsimp only at hSw); go_simp; all_goals (with_reducible rfl)
          try simp only [Act.put, List.setIfInBounds_toArray, List.set_cons_zero, List.set_cons_succ]
          refine wpAnyH_take (i := 29) (oi := ⟨some 209, _, _, _, _, _⟩) (v := ?_) rfl (by kernel_rfl) (by kernel_rfl) (by kernel_rfl) (fun _ _ _ h => h) (Or.inl ⟨by rfl, ?_⟩) hHeld ?_
          rotate_left
          · intro w hSw; (try dsimp only at hSw); go_simp; all_goals (with_reducible rfl)
          try simp only [Act.put, List.setIfInBounds_toArray, List.set_cons_zero, List.set_cons_succ]
          refine wpAnyH_take (i := 30) (oi := ⟨some 210, _, _, _, _, _⟩) (v := ?_) rfl (by kernel_rfl) (by kernel_rfl) (by kernel_rfl) (fun _ _ _ h => h) (Or.inl ⟨by rfl, ?_⟩) hHeld ?_
          rotate_left
          · intro w hSw; (try dsimp only at hSw); go_simp; all_goals (with_reducible rfl)
          try simp only [Act.put, List.setIfInBounds_toArray, List.set_cons_zero, List.set_cons_succ]
          refine wpAnyH_take (i := 31) (oi := ⟨some 211, _, _, _, _, _⟩) (v := ?_) rfl (by kernel_rfl) (by kernel_rfl) (by kernel_rfl) (fun _ _ _ h => h) (Or.inl ⟨by rfl, ?_⟩) hHeld ?_
          rotate_left
          · intro w hSw; (try dsimp only at hSw); go_simp; all_goals (with_reducible rfl)
          try simp only [Act.put, List.setIfInBounds_toArray, List.set_cons_zero, List.set_cons_succ]
          refine wpAnyH_ready (rs := [32]) (by kernel_rfl) (by simp) ?_
          refine AllReadyH.cons (o := ⟨some 212, _, _, _, _, _⟩) rfl (fun K hK => ?_) AllReadyH.nil
          go_simp
          refine (fwd_walk ((HT2.out.vn.chA HC7.out).c.nv) ((HT2.out.vm.chA HC7.out).c.nv)).mono ?_
          rw [HFW.out]
          rintro e x8 ⟨rfl, hB8⟩
          have HB8 : Hid (Below x5.heap.size x5 x8) := below_trans HB7.out hB8
          have HC8 : Hid (ChA wz A2 x3 x8) := HC5.out.self (Ch.of_below HB8.out)
          clear hB8
          go_simp
          refine hK.out _ _ ?_ (fun hHeld => ?_)
          · exact (HNM.out _ HC8.out)
          clear hK K
          try simp only [Act.put, List.setIfInBounds_toArray, List.set_cons_zero, List.set_cons_succ]
          refine wpAnyH_take (i := 33) (oi := ⟨some 213, _, _, _, _, _⟩) (v := ?_) rfl (by kernel_rfl) (by kernel_rfl) (by kernel_rfl) (fun _ _ _ h => h) (Or.inl ⟨by rfl, ?_⟩) hHeld ?_
          rotate_left
          · intro w hSw; (try dsimp only at hSw); go_simp; all_goals (with_reducible rfl)
          try simp only [Act.put, List.setIfInBounds_toArray, List.set_cons_zero, List.set_cons_succ]
          refine wpAnyH_take (i := 34) (oi := ⟨some 214, _, _, _, _, _⟩) (v := ?_) rfl (by kernel_rfl) (by kernel_rfl) (by kernel_rfl) (fun _ _ _ h => h) (Or.inl ⟨by rfl, ?_⟩) hHeld ?_
          rotate_left
          · intro w hSw; (try dsimp only at hSw); go_simp; all_goals (with_reducible rfl)
          try simp only [Act.put, List.setIfInBounds_toArray, List.set_cons_zero, List.set_cons_succ]
          refine wpAnyH_take (i := 35) (oi := ⟨some 215, _, _, _, _, _⟩) (v := ?_) rfl (by kernel_rfl) (by kernel_rfl) (by kernel_rfl) (fun _ _ _ h => h) (Or.inl ⟨by rfl, ?_⟩) hHeld ?_
          rotate_left
          · intro w hSw; (try dsimp only at hSw); go_simp; all_goals (with_reducible rfl)
          try simp only [Act.put, List.setIfInBounds_toArray, List.set_cons_zero, List.set_cons_succ]
          refine wpAnyH_take (i := 36) (oi := ⟨some 216, _, _, _, _, _⟩) (v := ?_) rfl (by kernel_rfl) (by kernel_rfl) (by kernel_rfl) (fun _ _ _ h => h) (Or.inl ⟨by rfl, ?_⟩) hHeld ?_
          rotate_left
          · intro w hSw; (try dsimp only at hSw); go_simp; all_goals (with_reducible rfl)
          try simp only [Act.put, List.setIfInBounds_toArray, List.set_cons_zero, List.set_cons_succ]
          refine wpAnyH_take (i := 37) (oi := ⟨some 217, _, _, _, _, _⟩) (v := ?_) rfl (by kernel_rfl) (by kernel_rfl) (by kernel_rfl) (fun _ _ _ h => h) (Or.inl ⟨by rfl, ?_⟩) hHeld ?_
          rotate_left
          · intro w hSw; (try dsimp only at hSw); go_simp; all_goals (with_reducible rfl)
          try simp only [Act.put, List.setIfInBounds_toArray, List.set_cons_zero, List.set_cons_succ]
          refine wpAnyH_take (i := 38) (oi := ⟨some 218, _, _, _, _, _⟩) (v := ?_) rfl (by kernel_rfl) (by kernel_rfl) (by kernel_rfl) (fun _ _ _ h => h) (Or.inl ⟨by rfl, ?_⟩) hHeld ?_
          rotate_left
          · intro w hSw; (try dsimp only at hSw); go_simp; all_goals (with_reducible rfl)
          try simp only [Act.put, List.setIfInBounds_toArray, List.set_cons_zero, List.set_cons_succ]
          refine wpAnyH_take (i := 39) (oi := ⟨some 219, _, _, _, _, _⟩) (v := ?_) rfl (by kernel_rfl) (by kernel_rfl) (by kernel_rfl) (fun _ _ _ h => h) (Or.inl ⟨by rfl, ?_⟩) hHeld ?_
          rotate_left
          · intro w hSw; (try dsimp only at hSw); go_simp; all_goals (with_reducible rfl)
          try simp only [Act.put, List.setIfInBounds_toArray, List.set_cons_zero, List.set_cons_succ]
          refine wpAnyH_take (i := 40) (oi := ⟨some 220, _, _, _, _, _⟩) (v := ?_) rfl (by kernel_rfl) (by kernel_rfl) (by kernel_rfl) (fun _ _ _ h => h) (Or.inl ⟨by rfl, ?_⟩) hHeld ?_
          rotate_left
          · intro w hSw; (try dsimp only at hSw); go_simp; all_goals (with_reducible rfl)
          try simp only [Act.put, List.setIfInBounds_toArray, List.set_cons_zero, List.set_cons_succ]
          refine wpAnyH_take (i := 41) (oi := ⟨some 221, _, _, _, _, _⟩) (v := ?_) rfl (by kernel_rfl) (by kernel_rfl) (by kernel_rfl) (fun _ _ _ h => h) (Or.inl ⟨by rfl, ?_⟩) hHeld ?_
          rotate_left
          · intro w hSw; (try dsimp only at hSw); go_simp; all_goals (with_reducible rfl)
          try simp only [Act.put, List.setIfInBounds_toArray, List.set_cons_zero, List.set_cons_succ]
          refine wpAnyH_take (i := 42) (oi := ⟨some 222, _, _, _, _, _⟩) (v := ?_) rfl (by kernel_rfl) (by kernel_rfl) (by kernel_rfl) (fun _ _ _ h => h) (Or.inl ⟨by rfl, ?_⟩) hHeld ?_
          rotate_left
          · intro w hSw; (try dsimp only at hSw); go_simp; all_goals (with_reducible rfl)
          try simp only [Act.put, List.setIfInBounds_toArray, List.set_cons_zero, List.set_cons_succ]
          refine wpAnyH_take (i := 43) (oi := ⟨some 223, _, _, _, _, _⟩) (v := ?_) rfl (by kernel_rfl) (by kernel_rfl) (by kernel_rfl) (fun _ _ _ h => h) (Or.inl ⟨by rfl, ?_⟩) hHeld ?_
          rotate_left
          · intro w hSw; (try dsimp only at hSw); go_simp; all_goals (with_reducible rfl)
          try simp only [Act.put, List.setIfInBounds_toArray, List.set_cons_zero, List.set_cons_succ]
          refine wpAnyH_done (by kernel_rfl) ?_ _
          refine NoPanic.normal ?_
          have HL8 := hidH (HL5.out.below HB8.out)
          have HV8 := hidH (HT2.out.vn.chA HC8.out)
          have HM8 := hidH (HT2.out.vm.chA HC8.out)
          have HL8w : Hid (Lw wz A2 sb jb2 p ⟨J.g + 1, nxtN J.n t, 1 - J.h, false⟩ (putS S2 (1 - J.h) (bytN (J.g + 1) (nxtN J.n t))) ((((x8.setCell ⟨N, 0, none⟩ (.int .i64 (nxtN J.n t).b)).setCell ⟨N, 1, none⟩ (.slice po2 (nxtN J.n t).p.length pc2)).setCell ⟨N, 2, none⟩ (.slice co2 (nxtN J.n t).c.length cc2)).setCell ⟨N, 3, none⟩ (.int .i64 (nxtN J.n t).a))) := HL8.out.write (Ch.of_grown (grown_set4 _ _ _ _ _ _) (fun x hx => by cases hx; exact HV8.out.a)) HT2.out.base
          have HV8w : Hid (Vn A2 N (.slice po2 (nxtN J.n t).p.length pc2) (.slice co2 (nxtN J.n t).c.length cc2) (nxtN J.n t) ((((x8.setCell ⟨N, 0, none⟩ (.int .i64 (nxtN J.n t).b)).setCell ⟨N, 1, none⟩ (.slice po2 (nxtN J.n t).p.length pc2)).setCell ⟨N, 2, none⟩ (.slice co2 (nxtN J.n t).c.length cc2)).setCell ⟨N, 3, none⟩ (.int .i64 (nxtN J.n t).a))) := HV8.out.set ⟨HM8.out.p.nv, HT2.out.np⟩ ⟨HM8.out.c.nv, HT2.out.nc⟩
          have hMN : ¬ M = N := HT2.out.mn
          have hNM : ¬ N = M := fun e => HT2.out.mn e.symm
          obtain ⟨⟨c0, c1, c2, c3⟩, m0, m1, m2, m3⟩ := HNM.out _ HC8.out
          have f0 : x8.frozen? ⟨N, 0, none⟩ = false := blk_soft HV8.out.blk 0
          have f1 : x8.frozen? ⟨N, 1, none⟩ = false := blk_soft HV8.out.blk 1
          have f2 : x8.frozen? ⟨N, 2, none⟩ = false := blk_soft HV8.out.blk 2
          have f3 : x8.frozen? ⟨N, 3, none⟩ = false := blk_soft HV8.out.blk 3
          clear rw1 rw2 ra1 ra2 HP9 HQ9
          go_upto_region 34 with fail
          generalize (((x8.setCell ⟨N, 0, none⟩ (.int .i64 (nxtN J.n t).b)).setCell ⟨N, 1, none⟩ (.slice po2 (nxtN J.n t).p.length pc2)).setCell ⟨N, 2, none⟩ (.slice co2 (nxtN J.n t).c.length cc2)).setCell ⟨N, 3, none⟩ (.int .i64 (nxtN J.n t).a) = x9 at HL8w HV8w ⊢
          clear c0 c1 c2 c3 m0 m1 m2 m3 f0 f1 f2 f3 hMN hNM
          go_wp2_with fail
          refine (lw_open HL8w.out p HWR.out.2).mono ?_
          obtain ⟨o1, o2⟩ := HGN.out.opn (by omega)
          rintro e x10 ⟨hC10, ⟨hne, _⟩ | ⟨h', g', n', jb', _, hop, rfl, hL10⟩⟩
          · exact absurd o1 hne
          rw [HGN.out.found] at hop
          simp only [Option.some.injEq, Prod.mk.injEq] at hop
          obtain ⟨rfl, rfl, rfl⟩ := hop
          rw [o2] at hL10
          have HL10 := hidH hL10
          have HV10 := hidH (HV8w.out.chA hC10)
          have HN10 : Hid (∀ wx, Below x10.heap.size x10 wx → wx.cell? ⟨N, 0, none⟩ = some (.int .i64 (nxtN J.n t).b) ∧ wx.cell? ⟨N, 1, none⟩ = some (.slice po2 (nxtN J.n t).p.length pc2) ∧ wx.cell? ⟨N, 2, none⟩ = some (.slice co2 (nxtN J.n t).c.length cc2) ∧ wx.cell? ⟨N, 3, none⟩ = some (.int .i64 (nxtN J.n t).a)) := fun wx hx => by
            have hb := (HV10.out.below hx).blk
            exact ⟨by rw [blk_cell hb]; rfl, by rw [blk_cell hb]; rfl, by rw [blk_cell hb]; rfl, by rw [blk_cell hb]; rfl⟩
          have HRR := hidH (rdK_same (putS S2 (1 - J.h) (bytN (J.g + 1) (nxtN J.n t))) 2)
          clear o1 o2 hL10 hC10
          go_wp2_with fail
          refine wp_region_noPanic ?_
          refine wp_region_held_drew (S := fun wx => wx.cell? ⟨N, 0, none⟩ = some (.int .i64 (nxtN J.n t).b) ∧ wx.cell? ⟨N, 1, none⟩ = some (.slice po2 (nxtN J.n t).p.length pc2) ∧ wx.cell? ⟨N, 2, none⟩ = some (.slice co2 (nxtN J.n t).c.length cc2) ∧ wx.cell? ⟨N, 3, none⟩ = some (.int .i64 (nxtN J.n t).a)) (by kernel_rfl) ?_ (fun hHeld => ?_)
          · exact (HN10.out _ (below_drewN x10 1))
          refine wpAnyH_take (i := 0) (oi := ⟨some 231, _, _, _, _, _⟩) (v := ?_) rfl (by kernel_rfl) (by kernel_rfl) (by kernel_rfl) (fun _ _ _ h => h) (Or.inl ⟨by rfl, ?_⟩) hHeld ?_
          rotate_left
          · intro w hSw; (try dsimp only at hSw); go_simp; all_goals (with_reducible rfl)
          try simp only [Act.put, List.setIfInBounds_toArray, List.set_cons_zero, List.set_cons_succ]
          refine wpAnyH_take (i := 1) (oi := ⟨some 232, _, _, _, _, _⟩) (v := ?_) rfl (by kernel_rfl) (by kernel_rfl) (by kernel_rfl) (fun _ _ _ h => h) (Or.inl ⟨by rfl, ?_⟩) hHeld ?_
          rotate_left
          · intro w hSw; (try dsimp only at hSw); go_simp; all_goals (with_reducible rfl)
          try simp only [Act.put, List.setIfInBounds_toArray, List.set_cons_zero, List.set_cons_succ]
          refine wpAnyH_take (i := 2) (oi := ⟨some 233, _, _, _, _, _⟩) (v := ?_) rfl (by kernel_rfl) (by kernel_rfl) (by kernel_rfl) (fun _ _ _ h => h) (Or.inl ⟨by rfl, ?_⟩) hHeld ?_
          rotate_left
          · intro w hSw; (try dsimp only at hSw); go_simp; all_goals (with_reducible rfl)
          try simp only [Act.put, List.setIfInBounds_toArray, List.set_cons_zero, List.set_cons_succ]
          refine wpAnyH_take (i := 3) (oi := ⟨some 234, _, _, _, _, _⟩) (v := ?_) rfl (by kernel_rfl) (by kernel_rfl) (by kernel_rfl) (fun _ _ _ h => h) (Or.inl ⟨by rfl, ?_⟩) hHeld ?_
          rotate_left
          · intro w hSw; (try dsimp only at hSw); go_simp; all_goals (with_reducible rfl)
          try simp only [Act.put, List.setIfInBounds_toArray, List.set_cons_zero, List.set_cons_succ]
          refine wpAnyH_take (i := 5) (oi := ⟨some 236, _, _, _, _, _⟩) (v := ?_) rfl (by kernel_rfl) (by kernel_rfl) (by kernel_rfl) (fun _ _ _ h => h) (Or.inl ⟨by rfl, ?_⟩) hHeld ?_
          rotate_left
          · intro w hSw; (try dsimp only at hSw); go_simp; all_goals (with_reducible rfl)
          try simp only [Act.put, List.setIfInBounds_toArray, List.set_cons_zero, List.set_cons_succ]
          refine wpAnyH_ready (rs := [4]) (by kernel_rfl) (by simp) ?_
          refine AllReadyH.cons (o := ⟨some 235, _, _, _, _, _⟩) rfl (fun K hK => ?_) AllReadyH.nil
          go_simp
          refine (lw_note (HL10.out.below (below_drewN x10 1))).mono ?_
          rintro e x11 ⟨pa9, pc9, ca9, cc9, he, ho1, ho2, hB11⟩
          replace he : e = .returned (.agg #[.int .i64 (nxtN J.n t).b, .slice pa9 (nxtN J.n t).p.length pc9, .slice ca9 (nxtN J.n t).c.length cc9, .int .i64 (nxtN J.n t).a]) := he
          subst he
          have HB11 : Hid (Below x10.heap.size x10 x11) := below_trans (below_drewN x10 1) hB11
          have HP9 : Hid (Nv x11 (.slice pa9 (nxtN J.n t).p.length pc9) (nxtN J.n t).p) := own_nv ho1 (rgt_p64 HRX.out)
          have HQ9 : Hid (Nv x11 (.slice ca9 (nxtN J.n t).c.length cc9) (nxtN J.n t).c) := own_nv ho2 (rgt_c64 HRX.out)
          clear ho1 ho2 hB11
          go_simp
          refine hK.out _ _ ?_ (fun hHeld => ?_)
          · exact (HN10.out _ HB11.out)
          clear hK K
          try simp only [Act.put, List.setIfInBounds_toArray, List.set_cons_zero, List.set_cons_succ]
          refine wpAnyH_ready (rs := [6]) (by kernel_rfl) (by simp) ?_
          refine AllReadyH.cons (o := ⟨some 237, _, _, _, _, _⟩) rfl (fun K hK => ?_) AllReadyH.nil
          go_simp
          refine (notes_walk (n := nxtN J.n t) HP9.out HQ9.out ((HV10.out.below HB11.out).p.nv) ((HV10.out.below HB11.out).c.nv)).mono ?_
          rintro e x12 ⟨rfl, hB12⟩
          have HB12 : Hid (Below x10.heap.size x10 x12) := below_trans HB11.out hB12
          clear hB12
          go_simp
          refine hK.out _ _ ?_ (fun hHeld => ?_)
          · exact (HN10.out _ HB12.out)
          clear hK K
          try simp only [Act.put, List.setIfInBounds_toArray, List.set_cons_zero, List.set_cons_succ]
          refine wpAnyH_take (i := 7) (oi := ⟨some 238, _, _, _, _, _⟩) (v := ?_) rfl (by kernel_rfl) (by kernel_rfl) (by kernel_rfl) (fun _ _ _ h => h) (Or.inl ⟨by rfl, ?_⟩) hHeld ?_
          rotate_left
          · intro w hSw; (try dsimp only at hSw); go_simp; all_goals (with_reducible rfl)
          try simp only [Act.put, List.setIfInBounds_toArray, List.set_cons_zero, List.set_cons_succ]
          refine wpAnyH_take (i := 8) (oi := ⟨some 239, _, _, _, _, _⟩) (v := ?_) rfl (by kernel_rfl) (by kernel_rfl) (by kernel_rfl) (fun _ _ _ h => h) (Or.inl ⟨by rfl, ?_⟩) hHeld ?_
          rotate_left
          · intro w hSw; (try dsimp only at hSw); go_simp; all_goals (with_reducible rfl)
          try simp only [Act.put, List.setIfInBounds_toArray, List.set_cons_zero, List.set_cons_succ]
          refine wpAnyH_done (by kernel_rfl) ?_ _
          refine NoPanic.normal ?_
          have HEND : Hid (Fit wz A2 sb jb' N p (k + 1) ⟨J.g + 1, nxtN J.n t, 1 - J.h, false⟩ (rdK (putS S2 (1 - J.h) (bytN (J.g + 1) (nxtN J.n t))) 2) (.slice po2 (nxtN J.n t).p.length pc2) (.slice co2 (nxtN J.n t).c.length cc2) x12) := HT2.out.last (HL10.out.below HB12.out) (HV10.out.below HB12.out) (HGN.out.rd 2) (by rw [HRR.out.2.2.2.1]; show S2.wr + 1 ≤ _; have := HT2.out.wr; omega) (by have h1 := HRR.out.2.2.2.2; have h2 := HT2.out.rd; have h3 : (putS S2 (1 - J.h) (bytN (J.g + 1) (nxtN J.n t))).rd = S2.rd := rfl; omega)
          go_wp2_with fail
          go_roundw
          case rel => exact ⟨k + 1, by omega, by omega, by go_num, _, _, _, _, _, jb', rfl, HEND.out⟩
          case measure => simp [intOf]; omega
end Go.Proofs.Ytcbkeicgnfgpnaa


