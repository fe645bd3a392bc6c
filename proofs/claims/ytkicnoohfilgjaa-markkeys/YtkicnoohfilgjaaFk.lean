/- The walk of MarkKeys. -/
import Derived.Test.YtkicnoohfilgjaaKt

import Derived.Test.YtkicnoohfilgjaaKq

import Derived.Test.YtkicnoohfilgjaaKl

import Derived.Deep.RegionHeld3

namespace Go.Proofs.Ytkicnoohfilgjaa

open Go.RowKit



set_option maxRecDepth 100000 in
set_option maxHeartbeats 4000000 in
theorem markkeys_walk {w : World} {av bv : Value} {la lb : List Nat} (key : Nat) (ha : Kv w av la) (hb : Kv w bv lb) :
    Calls Try.prog 4 #[av, bv, .int .u64 key] w fun e w' => e = .returned (.bool true) ∧ Below w.heap.size w w' := by
  have HA : Hid (Kv w av la) := ha
  have HB : Hid (Kv w bv lb) := hb
  obtain ⟨aa, ac, hav, hal, ham⟩ := kv_form ha
  obtain ⟨ba, bc, hbv, hbl, hbm⟩ := kv_form hb
  obtain ⟨an, han⟩ : ∃ n, n = la.length := ⟨_, rfl⟩
  obtain ⟨bn, hbn⟩ : ∃ n, n = lb.length := ⟨_, rfl⟩
  rw [← han] at hav
  rw [← hbn] at hbv
  subst hav hbv
  have HAN : Hid (an = la.length) := han
  have HBN : Hid (bn = lb.length) := hbn
  clear ha hb han hbn hal ham hbl hbm
  go_enter Try.func4, Try.ntmps4
  go_wp2_with fail
  refine (awake_walk _).mono ?_
  rintro e w0 ⟨rfl, hB0⟩
  have HB0 : Hid (Below w.heap.size w w0) := hB0
  clear hB0
  by_cases h1 : an ≤ 4096
  rotate_left
  · have h1i : (4096 : Int) < (an : Int) := by omega
    clear h1
    go_wp2_with fail
    go_ret
    exact ⟨rfl, HB0.out⟩
  have h1i : ¬ (4096 : Int) < (an : Int) := by omega
  by_cases h2 : bn ≤ 4096
  rotate_left
  · have h2i : (4096 : Int) < (bn : Int) := by omega
    clear h1 h2
    go_wp2_with fail
    go_ret
    exact ⟨rfl, HB0.out⟩
  have h2i : ¬ (4096 : Int) < (bn : Int) := by omega
  have HLA : Hid (la.length ≤ 4096) := by show _ ≤ _; rw [← HAN.out]; exact h1
  have HLB : Hid (lb.length ≤ 4096) := by show _ ≤ _; rw [← HBN.out]; exact h2
  have HSZ : Hid ((la ++ lb).length * 8 ≤ 140737488355328) := by show _ ≤ _; have := HLA.out; have := HLB.out; rw [List.length_append]; omega
  clear h1 h2
  go_upto_region 6 with fail
  have HM : Hid _ := mb_new w0 0 0 (.slice aa an ac)
  have HB1' : Hid (Below w.heap.size w (w0.alloc (Obj.cells #[.int .i64 0, .int .i64 0, .slice aa an ac] 26))) := below_trans HB0.out (below_alloc _ _)
  have HA1 : Hid (Kv (w0.alloc (Obj.cells #[.int .i64 0, .int .i64 0, .slice aa an ac] 26)) (.slice aa an ac) la) := HA.out.below HB1'.out
  have HB1 : Hid (Kv (w0.alloc (Obj.cells #[.int .i64 0, .int .i64 0, .slice aa an ac] 26)) (.slice ba bn bc) lb) := HB.out.below HB1'.out
  generalize hP : w0.heap.size = P at HM ⊢
  clear hP HB0 HA HB
  generalize w0.alloc (Obj.cells #[.int .i64 0, .int .i64 0, .slice aa an ac] 26) = w1 at HM HA1 HB1 HB1' ⊢
  have c0 : ∀ wx, Below w1.heap.size w1 wx → wx.cell? ⟨P, 0, none⟩ = some (.int .i64 0) := fun wx h => (HM.out.keep h).c0
  have c1 : ∀ wx, Below w1.heap.size w1 wx → wx.cell? ⟨P, 1, none⟩ = some (.int .i64 0) := fun wx h => (HM.out.keep h).c1
  have c2 : ∀ wx, Below w1.heap.size w1 wx → wx.cell? ⟨P, 2, none⟩ = some (.slice aa an ac) := fun wx h => (HM.out.keep h).c2
  refine wp_region_noPanic ?_
  refine wp_region_held_drew (S := fun wx => Below w1.heap.size w1 wx) (by kernel_rfl) ?_ (fun hHeld => ?_)
  · exact (Below.refl _ _).drew
  refine wpAnyH_take (i := 0) (oi := ⟨some 20, _, _, _, _, _⟩) (v := ?_) rfl (by kernel_rfl) (by kernel_rfl) (by kernel_rfl) (fun _ _ _ h => h) (Or.inl ⟨by rfl, ?_⟩) hHeld ?_
  rotate_left
  · intro w hSw; (try dsimp only at hSw); go_simp; all_goals (with_reducible rfl)
  try simp only [Act.put, List.setIfInBounds_toArray, List.set_cons_zero, List.set_cons_succ]
  refine wpAnyH_take (i := 1) (oi := ⟨some 21, _, _, _, _, _⟩) (v := ?_) rfl (by kernel_rfl) (by kernel_rfl) (by kernel_rfl) (fun _ _ _ h => h) (Or.inl ⟨by rfl, ?_⟩) hHeld ?_
  rotate_left
  · intro w hSw; (try dsimp only at hSw); go_simp; all_goals (with_reducible rfl)
  try simp only [Act.put, List.setIfInBounds_toArray, List.set_cons_zero, List.set_cons_succ]
  refine wpAnyH_take (i := 3) (oi := ⟨some 23, _, _, _, _, _⟩) (v := ?_) rfl (by kernel_rfl) (by kernel_rfl) (by kernel_rfl) (fun _ _ _ h => h) (Or.inl ⟨by rfl, ?_⟩) hHeld ?_
  rotate_left
  · intro w hSw; (try dsimp only at hSw); go_simp; all_goals (with_reducible rfl)
  try simp only [Act.put, List.setIfInBounds_toArray, List.set_cons_zero, List.set_cons_succ]
  refine wpAnyH_take (i := 4) (oi := ⟨some 24, _, _, _, _, _⟩) (v := ?_) rfl (by kernel_rfl) (by kernel_rfl) (by kernel_rfl) (fun _ _ _ h => h) (Or.inl ⟨by rfl, ?_⟩) hHeld ?_
  rotate_left
  · intro w hSw; (try dsimp only at hSw); go_simp; all_goals (with_reducible rfl)
  try simp only [Act.put, List.setIfInBounds_toArray, List.set_cons_zero, List.set_cons_succ]
  refine wpAnyH_ready (rs := [2]) (by kernel_rfl) (by simp) ?_
  refine AllReadyH.cons (o := ⟨some 22, _, _, _, _, _⟩) rfl (fun K hK => ?_) AllReadyH.nil
  go_simp
  refine (union_walk (w := w1.drew) HA1.out HB1.out HSZ.out).mono ?_
  rintro e9 w2 ⟨v2, rfl, ho2, hB2⟩
  have HK2 : Hid (Kv w2 v2 (uniU (la ++ lb))) := own_sv ho2
  have HL2 : Hid (Below w1.heap.size w1 w2) := (Below.refl _ _).drew.trans hB2
  clear ho2 hB2
  refine hK.out _ _ ?_ (fun hHeld => ?_)
  · exact HL2.out
  clear hK K
  try simp only [Act.put, List.setIfInBounds_toArray, List.set_cons_zero, List.set_cons_succ]
  refine wpAnyH_ready (rs := [5]) (by kernel_rfl) (by simp) ?_
  refine AllReadyH.cons (o := ⟨some 25, _, _, _, _, _⟩) rfl (fun K hK => ?_) AllReadyH.nil
  go_simp
  refine (runion_walk (HA1.out.below HL2.out) (HB1.out.below HL2.out) HLA.out HLB.out).mono ?_
  rintro e9 w3 ⟨v3, rfl, hk3, hB3⟩
  have HK3 : Hid (Kv w3 v3 (uniU (la ++ lb))) := hk3
  have HU3 : Hid (Kv w3 v2 (uniU (la ++ lb))) := HK2.out.below hB3
  have HL3 : Hid (Below w1.heap.size w1 w3) := below_trans HL2.out hB3
  clear hk3 hB3 HK2 HL2
  refine hK.out _ _ ?_ (fun hHeld => ?_)
  · exact HL3.out
  clear hK K
  try simp only [Act.put, List.setIfInBounds_toArray, List.set_cons_zero, List.set_cons_succ]
  refine wpAnyH_ready (rs := [6]) (by kernel_rfl) (by simp) ?_
  refine AllReadyH.cons (o := ⟨some 26, _, _, _, _, _⟩) rfl (fun K hK => ?_) AllReadyH.nil
  go_simp
  refine (eqk_walk HU3.out HK3.out).mono ?_
  rintro e9 w4 ⟨rfl, hB4⟩
  have HL4 : Hid (Below w1.heap.size w1 w4) := below_trans HL3.out hB4
  clear hB4 HL3 HU3 HK3
  refine hK.out _ _ ?_ (fun hHeld => ?_)
  · exact HL4.out
  clear hK K
  try simp only [Act.put, List.setIfInBounds_toArray, List.set_cons_zero, List.set_cons_succ]
  refine wpAnyH_take (i := 7) (oi := ⟨some 27, _, _, _, _, _⟩) (v := ?_) rfl (by kernel_rfl) (by kernel_rfl) (by kernel_rfl) (fun _ _ _ h => h) (Or.inl ⟨by rfl, ?_⟩) hHeld ?_
  rotate_left
  · intro w hSw; (try dsimp only at hSw); go_simp; all_goals (with_reducible rfl)
  try simp only [Act.put, List.setIfInBounds_toArray, List.set_cons_zero, List.set_cons_succ]
  refine wpAnyH_take (i := 8) (oi := ⟨some 28, _, _, _, _, _⟩) (v := ?_) rfl (by kernel_rfl) (by kernel_rfl) (by kernel_rfl) (fun _ _ _ h => h) (Or.inl ⟨by rfl, ?_⟩) hHeld ?_
  rotate_left
  · intro w hSw; (try dsimp only at hSw); go_simp; all_goals (with_reducible rfl)
  try simp only [Act.put, List.setIfInBounds_toArray, List.set_cons_zero, List.set_cons_succ]
  refine wpAnyH_take (i := 10) (oi := ⟨some 30, _, _, _, _, _⟩) (v := ?_) rfl (by kernel_rfl) (by kernel_rfl) (by kernel_rfl) (fun _ _ _ h => h) (Or.inl ⟨by rfl, ?_⟩) hHeld ?_
  rotate_left
  · intro w hSw; (try dsimp only at hSw); go_simp; all_goals (with_reducible rfl)
  try simp only [Act.put, List.setIfInBounds_toArray, List.set_cons_zero, List.set_cons_succ]
  refine wpAnyH_ready (rs := [9]) (by kernel_rfl) (by simp) ?_
  refine AllReadyH.cons (o := ⟨some 29, _, _, _, _, _⟩) rfl (fun K hK => ?_) AllReadyH.nil
  go_simp
  refine (ris_walk (HA1.out.below HL4.out)).mono ?_
  rintro e9 w5 ⟨rfl, hB5⟩
  have HL5 : Hid (Below w1.heap.size w1 w5) := below_trans HL4.out hB5
  clear hB5 HL4
  refine hK.out _ _ ?_ (fun hHeld => ?_)
  · exact HL5.out
  clear hK K
  try simp only [Act.put, List.setIfInBounds_toArray, List.set_cons_zero, List.set_cons_succ]
  refine wpAnyH_ready (rs := [11]) (by kernel_rfl) (by simp) ?_
  refine AllReadyH.cons (o := ⟨some 31, _, _, _, _, _⟩) rfl (fun K hK => ?_) AllReadyH.nil
  go_simp
  refine (rris_walk (HA1.out.below HL5.out)).mono ?_
  rintro e9 w6 ⟨rfl, hB6⟩
  have HL6 : Hid (Below w1.heap.size w1 w6) := below_trans HL5.out hB6
  clear hB6 HL5
  refine hK.out _ _ ?_ (fun hHeld => ?_)
  · exact HL6.out
  clear hK K
  try simp only [Act.put, List.setIfInBounds_toArray, List.set_cons_zero, List.set_cons_succ]
  refine wpAnyH_take (i := 12) (oi := ⟨some 32, _, _, _, _, _⟩) (v := ?_) rfl (by kernel_rfl) (by kernel_rfl) (by kernel_rfl) (fun _ _ _ h => h) (Or.inl ⟨by rfl, ?_⟩) hHeld ?_
  rotate_left
  · intro w hSw; (try dsimp only at hSw); go_simp; all_goals (with_reducible rfl)
  try simp only [Act.put, List.setIfInBounds_toArray, List.set_cons_zero, List.set_cons_succ]
  refine wpAnyH_take (i := 13) (oi := ⟨some 33, _, _, _, _, _⟩) (v := ?_) rfl (by kernel_rfl) (by kernel_rfl) (by kernel_rfl) (fun _ _ _ h => h) (Or.inl ⟨by rfl, ?_⟩) hHeld ?_
  rotate_left
  · intro w hSw; (try dsimp only at hSw); go_simp; all_goals (with_reducible rfl)
  try simp only [Act.put, List.setIfInBounds_toArray, List.set_cons_zero, List.set_cons_succ]
  refine wpAnyH_take (i := 14) (oi := ⟨some 34, _, _, _, _, _⟩) (v := ?_) rfl (by kernel_rfl) (by kernel_rfl) (by kernel_rfl) (fun _ _ _ h => h) (Or.inl ⟨by rfl, ?_⟩) hHeld ?_
  rotate_left
  · intro w hSw; (try dsimp only at hSw); go_simp; all_goals (with_reducible rfl)
  try simp only [Act.put, List.setIfInBounds_toArray, List.set_cons_zero, List.set_cons_succ]
  refine wpAnyH_take (i := 15) (oi := ⟨some 35, _, _, _, _, _⟩) (v := ?_) rfl (by kernel_rfl) (by kernel_rfl) (by kernel_rfl) (fun _ _ _ h => h) (Or.inl ⟨by rfl, ?_⟩) hHeld ?_
  rotate_left
  · intro w hSw; (try dsimp only at hSw); go_simp; all_goals (with_reducible rfl)
  try simp only [Act.put, List.setIfInBounds_toArray, List.set_cons_zero, List.set_cons_succ]
  refine wpAnyH_take (i := 16) (oi := ⟨some 36, _, _, _, _, _⟩) (v := ?_) rfl (by kernel_rfl) (by kernel_rfl) (by kernel_rfl) (fun _ _ _ h => h) (Or.inl ⟨by rfl, ?_⟩) hHeld ?_
  rotate_left
  · intro w hSw; (try dsimp only at hSw); go_simp; all_goals (with_reducible rfl)
  try simp only [Act.put, List.setIfInBounds_toArray, List.set_cons_zero, List.set_cons_succ]
  refine wpAnyH_take (i := 18) (oi := ⟨some 38, _, _, _, _, _⟩) (v := ?_) rfl (by kernel_rfl) (by kernel_rfl) (by kernel_rfl) (fun _ _ _ h => h) (Or.inl ⟨by rfl, ?_⟩) hHeld ?_
  rotate_left
  · intro w hSw; (try dsimp only at hSw); go_simp; all_goals (with_reducible rfl)
  try simp only [Act.put, List.setIfInBounds_toArray, List.set_cons_zero, List.set_cons_succ]
  refine wpAnyH_take (i := 19) (oi := ⟨some 39, _, _, _, _, _⟩) (v := ?_) rfl (by kernel_rfl) (by kernel_rfl) (by kernel_rfl) (fun _ _ _ h => h) (Or.inl ⟨by rfl, ?_⟩) hHeld ?_
  rotate_left
  · intro w hSw; (try dsimp only at hSw); go_simp; all_goals (with_reducible rfl)
  try simp only [Act.put, List.setIfInBounds_toArray, List.set_cons_zero, List.set_cons_succ]
  refine wpAnyH_ready (rs := [17]) (by kernel_rfl) (by simp) ?_
  refine AllReadyH.cons (o := ⟨some 37, _, _, _, _, _⟩) rfl (fun K hK => ?_) AllReadyH.nil
  go_simp
  refine (has_walk (HA1.out.below HL6.out) 0 0 key).mono ?_
  rintro e9 w7 ⟨rfl, hB7⟩
  have HL7 : Hid (Below w1.heap.size w1 w7) := below_trans HL6.out hB7
  clear hB7 HL6
  refine hK.out _ _ ?_ (fun hHeld => ?_)
  · exact HL7.out
  clear hK K
  try simp only [Act.put, List.setIfInBounds_toArray, List.set_cons_zero, List.set_cons_succ]
  refine wpAnyH_ready (rs := [20]) (by kernel_rfl) (by simp) ?_
  refine AllReadyH.cons (o := ⟨some 40, _, _, _, _, _⟩) rfl (fun K hK => ?_) AllReadyH.nil
  go_simp
  refine (rhas_walk (HA1.out.below HL7.out) 0 0 key).mono ?_
  rintro e9 w8 ⟨rfl, hB8⟩
  have HL8 : Hid (Below w1.heap.size w1 w8) := below_trans HL7.out hB8
  clear hB8 HL7
  refine hK.out _ _ ?_ (fun hHeld => ?_)
  · exact HL8.out
  clear hK K
  try simp only [Act.put, List.setIfInBounds_toArray, List.set_cons_zero, List.set_cons_succ]
  refine wpAnyH_take (i := 21) (oi := ⟨some 41, _, _, _, _, _⟩) (v := ?_) rfl (by kernel_rfl) (by kernel_rfl) (by kernel_rfl) (fun _ _ _ h => h) (Or.inl ⟨by rfl, ?_⟩) hHeld ?_
  rotate_left
  · intro w hSw; (try dsimp only at hSw); go_simp; all_goals (with_reducible rfl)
  try simp only [Act.put, List.setIfInBounds_toArray, List.set_cons_zero, List.set_cons_succ]
  refine wpAnyH_take (i := 22) (oi := ⟨some 42, _, _, _, _, _⟩) (v := ?_) rfl (by kernel_rfl) (by kernel_rfl) (by kernel_rfl) (fun _ _ _ h => h) (Or.inl ⟨by rfl, ?_⟩) hHeld ?_
  rotate_left
  · intro w hSw; (try dsimp only at hSw); go_simp; all_goals (with_reducible rfl)
  try simp only [Act.put, List.setIfInBounds_toArray, List.set_cons_zero, List.set_cons_succ]
  refine wpAnyH_take (i := 23) (oi := ⟨some 6, _, _, _, _, _⟩) (v := ?_) rfl (by kernel_rfl) (by kernel_rfl) (by kernel_rfl) (fun _ _ _ h => h) (Or.inl ⟨by rfl, ?_⟩) hHeld ?_
  rotate_left
  · intro w hSw; (try dsimp only at hSw); go_simp; all_goals (with_reducible rfl)
  try simp only [Act.put, List.setIfInBounds_toArray, List.set_cons_zero, List.set_cons_succ]
  refine wpAnyH_done (by kernel_rfl) ?_ _
  refine NoPanic.normal ?_
  go_wp2_with fail
  go_ret
  exact ⟨rfl, below_trans HB1'.out HL8.out⟩
end Go.Proofs.Ytkicnoohfilgjaa


