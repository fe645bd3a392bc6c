/- Contracts of bucket's Drop, of Put at no cells. -/
import Derived.Test.YtjcmmhonidamoaaBn
namespace Go.Proofs.Ytjcmmhonidamoaa
open Go.RowKit

set_option maxRecDepth 100000 in
set_option maxHeartbeats 4000000 in
theorem drop_bad (l : List Cl) (k : Nat) (ao : Option Addr) (cap : Nat) (w : World) (hv : Cv w (.slice ao l.length cap) l) (ho : ordB l = false) :
    Calls Try.prog 19 #[.slice ao l.length cap, .int .u64 k] w (CellsGot (dropR l k) w) := by
  have HV : Hid (Cv w (.slice ao l.length cap) l) := hv
  have HR : Hid (dropR l k = ([], 7)) := by show _ = _; unfold dropR; rw [if_pos ho]
  clear hv
  go_enter Try.func19, Try.ntmps19
  go_wp2_with fail
  refine (inOrder_walk HV.out).mono ?_
  rw [ho]
  rintro e w1 ⟨rfl, hB1⟩
  go_wp2_with fail
  go_ret2
  exact got_bad HR.out rfl hB1

set_option maxRecDepth 100000 in
set_option maxHeartbeats 4000000 in
theorem drop_there (l : List Cl) (k : Nat) (ao : Option Addr) (cap : Nat) (w : World) (hv : Cv w (.slice ao l.length cap) l) (ho : ordB l = true) (hk : isK l (fndF l k) k = true) (hsz : l.length * 48 ≤ 140737488355328) :
    Calls Try.prog 19 #[.slice ao l.length cap, .int .u64 k] w (CellsGot (dropR l k) w) := by
  have HV : Hid (Cv w (.slice ao l.length cap) l) := hv
  have HOB : Hid (ordB l = true) := ho
  obtain ⟨A, hA⟩ : ∃ A, A = fndF l k := ⟨_, rfl⟩
  have hAl : A ≤ l.length := by rw [hA]; exact fnd_le l k
  obtain ⟨ao', cap', hvv, hlc, hcm, hnone, _⟩ := hv
  cases hvv
  unfold maxLen at hcm
  have hci : (cap : Int) ≤ 9223372036854775807 := by omega
  have hlci : (l.length : Int) ≤ (cap : Int) := by omega
  have hAi : (A : Int) ≤ (l.length : Int) := by omega
  have hAc : (A : Int) ≤ (cap : Int) := by omega
  have HA : Hid (A = fndF l k) := hA
  have HIS : Hid (isK l A k = true) := by show _ = _; rw [hA]; exact hk
  have hlt : A < l.length := isK_lt HIS.out
  have HR : Hid (dropR l k = (l.take A ++ l.drop (A + 1), 0)) := by show _ = _; unfold dropR; rw [if_neg (by simp [ho]), if_pos hk, hA]
  have HSZ : Hid ([l.take A, l.drop (A + 1)].flatten.length * 48 ≤ 140737488355328) := by show _ ≤ _; rw [flat_2]; simp only [List.length_append, List.length_take, List.length_drop]; omega
  have hltc : (A : Int) < (l.length : Int) := by omega
  have hlt1 : (A : Int) + 1 ≤ (l.length : Int) := by omega
  have hlt2 : (A : Int) + 1 ≤ (cap : Int) := by omega
  have HLT : Hid (A + 1 ≤ l.length) := hlt
  have hwr : IntKind.i64.wrap ((A : Int) + 1) = (A : Int) + 1 := by rw [IntKind.wrap_i64]; omega
  have h0A : (0 : Int) ≤ (A : Int) + 1 := by omega
  have htn : ((A : Int) + 1).toNat = A + 1 := by omega
  have hA1 : (A : Int) ≤ (A : Int) + 1 := by omega
  obtain ⟨b, off, rfl⟩ : ∃ b off, ao = some ⟨b, off, none⟩ := by
    rcases cv_cases HV.out with ⟨h0, _⟩ | ⟨b, off, cap', e, _⟩
    · rw [h0] at hlt; simp at hlt
    · cases e; exact ⟨b, off, rfl⟩
  have HLC : Hid (l.length ≤ cap) := hlc
  clear hA hk hsz hAl hlc hcm hnone hlt ho
  go_enter Try.func19, Try.ntmps19
  go_wp2_with fail
  refine (inOrder_walk HV.out).mono ?_
  rw [HOB.out]
  rintro e w1 ⟨rfl, hB1⟩
  have HB1 : Hid (Below w.heap.size w w1) := hB1
  clear hB1
  go_wp2_with fail
  refine (find_walk (HV.out.below HB1.out) k).mono ?_
  rw [findI_ord HOB.out, findB_ord HOB.out, ← HA.out, HIS.out]
  rintro e w2 ⟨rfl, hB2⟩
  have HB2 : Hid (Below w.heap.size w w2) := below_trans HB1.out hB2
  clear hB2
  have HT1 : ∀ wx, Below w2.heap.size w2 wx → Cv wx (.slice (some ⟨b, off, none⟩) A cap) (l.take A) := fun wx h => (HV.out.below (below_trans HB2.out h)).upto A (by have := HLT.out; omega)
  by_cases hce : cap = A + 1
  · have HLE : Hid (l.length ≤ A + 1) := by have := HLC.out; show _ ≤ _; omega
    subst hce
    go_upto_region 6 with fail
    have HT2 : ∀ wx, Below w2.heap.size w2 wx → Cv wx (.slice (some ⟨b, off, none⟩) (l.length - (A + 1)) 0) (l.drop (A + 1)) := fun wx h => by
      rw [show l.length - (A + 1) = 0 from by have := HLE.out; omega]; exact Cv.void HLE.out
    refine wp_region_noPanic ?_
    refine wp_region_held_drew (S := fun wx => Below w2.heap.size w2 wx) (by kernel_rfl) ?_ (fun hHeld => ?_)
    · exact (Below.refl _ _).drew
    refine wpAnyH_take (i := 0) (oi := ⟨some 22, _, _, _, _, _⟩) (v := ?_) rfl (by kernel_rfl) (by kernel_rfl) (by kernel_rfl) (fun _ _ _ h => h) (Or.inl ⟨by rfl, ?_⟩) hHeld ?_
    rotate_left
    · intro w hSw; (try dsimp only at hSw); go_simp; all_goals (with_reducible rfl)
    try simp only [Act.put, List.setIfInBounds_toArray, List.set_cons_zero, List.set_cons_succ]
    refine wpAnyH_take (i := 1) (oi := ⟨some 23, _, _, _, _, _⟩) (v := ?_) rfl (by kernel_rfl) (by kernel_rfl) (by kernel_rfl) (fun _ _ _ h => h) (Or.inl ⟨by rfl, ?_⟩) hHeld ?_
    rotate_left
    · intro w hSw; (try dsimp only at hSw); go_simp; all_goals (with_reducible rfl)
    try simp only [Act.put, List.setIfInBounds_toArray, List.set_cons_zero, List.set_cons_succ]
    refine wpAnyH_take (i := 2) (oi := ⟨some 24, _, _, _, _, _⟩) (v := ?_) rfl (by kernel_rfl) (by kernel_rfl) (by kernel_rfl) (fun _ _ _ h => h) (Or.inl ⟨by rfl, ?_⟩) hHeld ?_
    rotate_left
    · intro w hSw; (try dsimp only at hSw); go_simp; all_goals (with_reducible rfl)
    try simp only [Act.put, List.setIfInBounds_toArray, List.set_cons_zero, List.set_cons_succ]
    refine wpAnyH_take (i := 3) (oi := ⟨some 25, _, _, _, _, _⟩) (v := ?_) rfl (by kernel_rfl) (by kernel_rfl) (by kernel_rfl) (fun _ _ _ h => h) (Or.inl ⟨by rfl, ?_⟩) hHeld ?_
    rotate_left
    · intro w hSw; (try dsimp only at hSw); go_simp; all_goals (with_reducible rfl)
    try simp only [Act.put, List.setIfInBounds_toArray, List.set_cons_zero, List.set_cons_succ]
    refine wpAnyH_take (i := 4) (oi := ⟨some 26, _, _, _, _, _⟩) (v := ?_) rfl (by kernel_rfl) (by kernel_rfl) (by kernel_rfl) (fun _ _ _ h => h) (Or.inl ⟨by rfl, ?_⟩) hHeld ?_
    rotate_left
    · intro w hSw; (try dsimp only at hSw); go_simp; all_goals (with_reducible rfl)
    try simp only [Act.put, List.setIfInBounds_toArray, List.set_cons_zero, List.set_cons_succ]
    refine wpAnyH_take (i := 5) (oi := ⟨some 27, _, _, _, _, _⟩) (v := ?_) rfl (by kernel_rfl) (by kernel_rfl) (by kernel_rfl) (fun _ _ _ h => h) (Or.inl ⟨by rfl, ?_⟩) hHeld ?_
    rotate_left
    · intro w hSw; (try dsimp only at hSw); go_simp; all_goals (with_reducible rfl)
    try simp only [Act.put, List.setIfInBounds_toArray, List.set_cons_zero, List.set_cons_succ]
    refine wpAnyH_take (i := 6) (oi := ⟨some 28, _, _, _, _, _⟩) (v := ?_) rfl (by kernel_rfl) (by kernel_rfl) (by kernel_rfl) (fun _ _ _ h => h) (Or.inl ⟨by rfl, ?_⟩) hHeld ?_
    rotate_left
    · intro w hSw; (try dsimp only at hSw); go_simp; all_goals (with_reducible rfl)
    try simp only [Act.put, List.setIfInBounds_toArray, List.set_cons_zero, List.set_cons_succ]
    refine wpAnyH_ready (rs := [7]) (by kernel_rfl) (by simp) ?_
    refine AllReadyH.cons (o := ⟨some 29, _, _, _, _, _⟩) rfl (fun K hK => ?_) AllReadyH.nil
    go_simp
    have hP := pc_two 22 (HT1 _ hHeld) (HT2 _ hHeld)
    have hSC : Below w2.heap.size w2 ((w2.alloc (Obj.cells #[.slice (some ⟨b, off, none⟩) A (A + 1), .slice (some ⟨b, off, none⟩) (l.length - (A + 1)) 0] 22)).drew) := (below_alloc _ _).drew
    clear hHeld
    have hP : Pc ((w2.alloc (Obj.cells #[.slice (some ⟨b, off, none⟩) A (A + 1), .slice (some ⟨b, off, none⟩) (l.length - (A + 1)) 0] 22)).drew) (.slice (some ⟨w2.heap.size, 0, none⟩) 2 2) [l.take A, l.drop (A + 1)] := hP
    generalize (w2.alloc (Obj.cells #[.slice (some ⟨b, off, none⟩) A (A + 1), .slice (some ⟨b, off, none⟩) (l.length - (A + 1)) 0] 22)).drew = wC at hP hSC ⊢
    refine hK.out _ _ ?_ (fun hHeld => ?_)
    · exact hSC
    clear hK K
    try simp only [Act.put, List.setIfInBounds_toArray, List.set_cons_zero, List.set_cons_succ]
    refine wpAnyH_ready (rs := [8]) (by kernel_rfl) (by simp) ?_
    refine AllReadyH.cons (o := ⟨some 30, _, _, _, _, _⟩) rfl (fun K hK => ?_) AllReadyH.nil
    go_simp
    refine (joined_walk hP (by simp) HSZ.out).mono ?_
    rintro e w9 ⟨v9, rfl, ho9, hB9⟩
    have hS9 := below_trans hHeld hB9
    have hBC := hHeld
    clear hB9 hHeld
    go_simp
    refine hK.out _ _ ?_ (fun hHeld => ?_)
    · exact hS9
    clear hK K
    try simp only [Act.put, List.setIfInBounds_toArray, List.set_cons_zero, List.set_cons_succ]
    refine wpAnyH_take (i := 9) (oi := ⟨some 4, _, _, _, _, _⟩) (v := ?_) rfl (by kernel_rfl) (by kernel_rfl) (by kernel_rfl) (fun _ _ _ h => h) (Or.inl ⟨by rfl, ?_⟩) hHeld ?_
    rotate_left
    · intro w hSw; (try dsimp only at hSw); go_simp; all_goals (with_reducible rfl)
    try simp only [Act.put, List.setIfInBounds_toArray, List.set_cons_zero, List.set_cons_succ]
    refine wpAnyH_take (i := 10) (oi := ⟨some 5, _, _, _, _, _⟩) (v := ?_) rfl (by kernel_rfl) (by kernel_rfl) (by kernel_rfl) (fun _ _ _ h => h) (Or.inl ⟨by rfl, ?_⟩) hHeld ?_
    rotate_left
    · intro w hSw; (try dsimp only at hSw); go_simp; all_goals (with_reducible rfl)
    try simp only [Act.put, List.setIfInBounds_toArray, List.set_cons_zero, List.set_cons_succ]
    refine wpAnyH_done (by kernel_rfl) ?_ _
    refine NoPanic.normal ?_
    go_wp2_with fail
    go_ret2
    exact got_ok HR.out (by rw [flat_2] at ho9; exact ho9) (by have h1 := HB2.out.size; have h2 := hBC.size; omega) (below_trans HB2.out hHeld)
  · go_upto_region 6 with fail
    have HT2 : ∀ wx, Below w2.heap.size w2 wx → Cv wx (.slice (some ⟨b, off + (A + 1) * 6, none⟩) (l.length - (A + 1)) (cap - (A + 1))) (l.drop (A + 1)) := fun wx h => by
      have := (HV.out.below (below_trans HB2.out h)).from (A + 1) HLT.out hce
      simpa [WideShapes.add_plain] using this
    refine wp_region_noPanic ?_
    refine wp_region_held_drew (S := fun wx => Below w2.heap.size w2 wx) (by kernel_rfl) ?_ (fun hHeld => ?_)
    · exact (Below.refl _ _).drew
    refine wpAnyH_take (i := 0) (oi := ⟨some 22, _, _, _, _, _⟩) (v := ?_) rfl (by kernel_rfl) (by kernel_rfl) (by kernel_rfl) (fun _ _ _ h => h) (Or.inl ⟨by rfl, ?_⟩) hHeld ?_
    rotate_left
    · intro w hSw; (try dsimp only at hSw); go_simp; all_goals (with_reducible rfl)
    try simp only [Act.put, List.setIfInBounds_toArray, List.set_cons_zero, List.set_cons_succ]
    refine wpAnyH_take (i := 1) (oi := ⟨some 23, _, _, _, _, _⟩) (v := ?_) rfl (by kernel_rfl) (by kernel_rfl) (by kernel_rfl) (fun _ _ _ h => h) (Or.inl ⟨by rfl, ?_⟩) hHeld ?_
    rotate_left
    · intro w hSw; (try dsimp only at hSw); go_simp; all_goals (with_reducible rfl)
    try simp only [Act.put, List.setIfInBounds_toArray, List.set_cons_zero, List.set_cons_succ]
    refine wpAnyH_take (i := 2) (oi := ⟨some 24, _, _, _, _, _⟩) (v := ?_) rfl (by kernel_rfl) (by kernel_rfl) (by kernel_rfl) (fun _ _ _ h => h) (Or.inl ⟨by rfl, ?_⟩) hHeld ?_
    rotate_left
    · intro w hSw; (try dsimp only at hSw); go_simp; all_goals (with_reducible rfl)
    try simp only [Act.put, List.setIfInBounds_toArray, List.set_cons_zero, List.set_cons_succ]
    refine wpAnyH_take (i := 3) (oi := ⟨some 25, _, _, _, _, _⟩) (v := ?_) rfl (by kernel_rfl) (by kernel_rfl) (by kernel_rfl) (fun _ _ _ h => h) (Or.inl ⟨by rfl, ?_⟩) hHeld ?_
    rotate_left
    · intro w hSw; (try dsimp only at hSw); go_simp; all_goals (with_reducible rfl)
    try simp only [Act.put, List.setIfInBounds_toArray, List.set_cons_zero, List.set_cons_succ]
    refine wpAnyH_take (i := 4) (oi := ⟨some 26, _, _, _, _, _⟩) (v := ?_) rfl (by kernel_rfl) (by kernel_rfl) (by kernel_rfl) (fun _ _ _ h => h) (Or.inl ⟨by rfl, ?_⟩) hHeld ?_
    rotate_left
    · intro w hSw; (try dsimp only at hSw); go_simp; all_goals (with_reducible rfl)
    try simp only [Act.put, List.setIfInBounds_toArray, List.set_cons_zero, List.set_cons_succ]
    refine wpAnyH_take (i := 5) (oi := ⟨some 27, _, _, _, _, _⟩) (v := ?_) rfl (by kernel_rfl) (by kernel_rfl) (by kernel_rfl) (fun _ _ _ h => h) (Or.inl ⟨by rfl, ?_⟩) hHeld ?_
    rotate_left
    · intro w hSw; (try dsimp only at hSw); go_simp; all_goals (with_reducible rfl)
    try simp only [Act.put, List.setIfInBounds_toArray, List.set_cons_zero, List.set_cons_succ]
    refine wpAnyH_take (i := 6) (oi := ⟨some 28, _, _, _, _, _⟩) (v := ?_) rfl (by kernel_rfl) (by kernel_rfl) (by kernel_rfl) (fun _ _ _ h => h) (Or.inl ⟨by rfl, ?_⟩) hHeld ?_
    rotate_left
    · intro w hSw; (try dsimp only at hSw); go_simp; all_goals (with_reducible rfl)
    try simp only [Act.put, List.setIfInBounds_toArray, List.set_cons_zero, List.set_cons_succ]
    refine wpAnyH_ready (rs := [7]) (by kernel_rfl) (by simp) ?_
    refine AllReadyH.cons (o := ⟨some 29, _, _, _, _, _⟩) rfl (fun K hK => ?_) AllReadyH.nil
    go_simp
    have hP := pc_two 22 (HT1 _ hHeld) (HT2 _ hHeld)
    have hSC : Below w2.heap.size w2 ((w2.alloc (Obj.cells #[.slice (some ⟨b, off, none⟩) A cap, .slice (some ⟨b, off + (A + 1) * 6, none⟩) (l.length - (A + 1)) (cap - (A + 1))] 22)).drew) := (below_alloc _ _).drew
    clear hHeld
    have hP : Pc ((w2.alloc (Obj.cells #[.slice (some ⟨b, off, none⟩) A cap, .slice (some ⟨b, off + (A + 1) * 6, none⟩) (l.length - (A + 1)) (cap - (A + 1))] 22)).drew) (.slice (some ⟨w2.heap.size, 0, none⟩) 2 2) [l.take A, l.drop (A + 1)] := hP
    generalize (w2.alloc (Obj.cells #[.slice (some ⟨b, off, none⟩) A cap, .slice (some ⟨b, off + (A + 1) * 6, none⟩) (l.length - (A + 1)) (cap - (A + 1))] 22)).drew = wC at hP hSC ⊢
    refine hK.out _ _ ?_ (fun hHeld => ?_)
    · exact hSC
    clear hK K
    try simp only [Act.put, List.setIfInBounds_toArray, List.set_cons_zero, List.set_cons_succ]
    refine wpAnyH_ready (rs := [8]) (by kernel_rfl) (by simp) ?_
    refine AllReadyH.cons (o := ⟨some 30, _, _, _, _, _⟩) rfl (fun K hK => ?_) AllReadyH.nil
    go_simp
    refine (joined_walk hP (by simp) HSZ.out).mono ?_
    rintro e w9 ⟨v9, rfl, ho9, hB9⟩
    have hS9 := below_trans hHeld hB9
    have hBC := hHeld
    clear hB9 hHeld
    go_simp
    refine hK.out _ _ ?_ (fun hHeld => ?_)
    · exact hS9
    clear hK K
    try simp only [Act.put, List.setIfInBounds_toArray, List.set_cons_zero, List.set_cons_succ]
    refine wpAnyH_take (i := 9) (oi := ⟨some 4, _, _, _, _, _⟩) (v := ?_) rfl (by kernel_rfl) (by kernel_rfl) (by kernel_rfl) (fun _ _ _ h => h) (Or.inl ⟨by rfl, ?_⟩) hHeld ?_
    rotate_left
    · intro w hSw; (try dsimp only at hSw); go_simp; all_goals (with_reducible rfl)
    try simp only [Act.put, List.setIfInBounds_toArray, List.set_cons_zero, List.set_cons_succ]
    refine wpAnyH_take (i := 10) (oi := ⟨some 5, _, _, _, _, _⟩) (v := ?_) rfl (by kernel_rfl) (by kernel_rfl) (by kernel_rfl) (fun _ _ _ h => h) (Or.inl ⟨by rfl, ?_⟩) hHeld ?_
    rotate_left
    · intro w hSw; (try dsimp only at hSw); go_simp; all_goals (with_reducible rfl)
    try simp only [Act.put, List.setIfInBounds_toArray, List.set_cons_zero, List.set_cons_succ]
    refine wpAnyH_done (by kernel_rfl) ?_ _
    refine NoPanic.normal ?_
    go_wp2_with fail
    go_ret2
    exact got_ok HR.out (by rw [flat_2] at ho9; exact ho9) (by have h1 := HB2.out.size; have h2 := hBC.size; omega) (below_trans HB2.out hHeld)

set_option maxRecDepth 100000 in
set_option maxHeartbeats 4000000 in
theorem drop_none (l : List Cl) (k : Nat) (ao : Option Addr) (cap : Nat) (w : World) (hv : Cv w (.slice ao l.length cap) l) (ho : ordB l = true) (hk : isK l (fndF l k) k = false) (hsz : l.length * 48 ≤ 140737488355328) :
    Calls Try.prog 19 #[.slice ao l.length cap, .int .u64 k] w (CellsGot (dropR l k) w) := by
  have HV : Hid (Cv w (.slice ao l.length cap) l) := hv
  have HOB : Hid (ordB l = true) := ho
  obtain ⟨A, hA⟩ : ∃ A, A = fndF l k := ⟨_, rfl⟩
  have hAl : A ≤ l.length := by rw [hA]; exact fnd_le l k
  obtain ⟨ao', cap', hvv, hlc, hcm, hnone, _⟩ := hv
  cases hvv
  unfold maxLen at hcm
  have hci : (cap : Int) ≤ 9223372036854775807 := by omega
  have hlci : (l.length : Int) ≤ (cap : Int) := by omega
  have hAi : (A : Int) ≤ (l.length : Int) := by omega
  have hAc : (A : Int) ≤ (cap : Int) := by omega
  have HA : Hid (A = fndF l k) := hA
  have HIS : Hid (isK l A k = false) := by show _ = _; rw [hA]; exact hk
  have HR : Hid (dropR l k = (l, 0)) := by show _ = _; unfold dropR; rw [if_neg (by simp [ho]), if_neg (by simp [hk])]
  have HSZ : Hid ([l].flatten.length * 48 ≤ 140737488355328) := by show _ ≤ _; rw [flat_1]; exact hsz
  clear hA hk hsz hAl hlc hcm hnone ho
  go_enter Try.func19, Try.ntmps19
  go_wp2_with fail
  refine (inOrder_walk HV.out).mono ?_
  rw [HOB.out]
  rintro e w1 ⟨rfl, hB1⟩
  have HB1 : Hid (Below w.heap.size w w1) := hB1
  clear hB1
  go_wp2_with fail
  refine (find_walk (HV.out.below HB1.out) k).mono ?_
  rw [findI_ord HOB.out, findB_ord HOB.out, ← HA.out, HIS.out]
  rintro e w2 ⟨rfl, hB2⟩
  have HB2 : Hid (Below w.heap.size w w2) := below_trans HB1.out hB2
  clear hB2
  go_wp2_with fail
  refine (joined_walk (pc_one 22 (HV.out.below HB2.out)) (by simp) HSZ.out).mono ?_
  rintro e w9 ⟨v9, rfl, ho9, hB9⟩
  have HB9 : Hid (Below w.heap.size w w9) := below_trans HB2.out (below_trans (below_alloc _ _) hB9)
  have HO9 : Hid (w9.ownsRow w2.heap.size 37 6 v9 l.length (flatC l)) := by show World.ownsRow _ _ _ _ _ _ _; rw [flat_1] at ho9; exact own_baseC ho9 (by rw [size_allocC]; omega)
  clear ho9 hB9
  go_wp2_with fail
  go_ret2
  exact got_ok HR.out HO9.out HB2.out.size HB9.out
theorem drop_walk {w : World} {v : Value} {l : List Cl} (h : Cv w v l) (k : Nat) (hsz : l.length * 48 ≤ 140737488355328) :
    Calls Try.prog 19 #[v, .int .u64 k] w (CellsGot (dropR l k) w) := by
  obtain ⟨ao, cap, rfl⟩ := h.form
  cases ho : ordB l
  · exact drop_bad l k ao cap w h ho
  · cases hk : isK l (fndF l k) k
    · exact drop_none l k ao cap w h ho hk hsz
    · exact drop_there l k ao cap w h ho hk hsz
end Go.Proofs.Ytjcmmhonidamoaa
