/- Contract of bucket's Put at no cells, and of Put. -/
import Derived.Test.YtjcmmhonidamoaaBo
namespace Go.Proofs.Ytjcmmhonidamoaa
open Go.RowKit

theorem inOrder_void (ao : Option Addr) (cap : Nat) (w : World) : Calls Try.prog 34 #[.slice ao 0 cap] w fun e w' => e = .returned (.bool true) ∧ Below w.heap.size w w' := inOrder_none ao cap w
theorem cv_void (w : World) (ao : Option Addr) : Cv w (.slice ao 0 0) [] := ⟨ao, 0, rfl, by simp, by simp [maxLen], by simp, fun i hi => by simp at hi⟩

set_option maxRecDepth 100000 in
set_option maxHeartbeats 4000000 in
theorem put_nil (c : Cl) (w : World)  :
    Calls Try.prog 17 #[.slice none 0 0, .agg #[.int .u64 c.k, .bool c.p.h, .int .u64 c.p.b, .bool c.c.h, .int .u64 c.c.b, .int .i64 c.n]] w (CellsGot ([c], 0) w) := by
  have HCB : Hid (CB (w.alloc (Obj.cells #[.int .u64 c.k, .bool c.p.h, .int .u64 c.p.b, .bool c.c.h, .int .u64 c.c.b, .int .i64 c.n] 37)) w.heap.size c) := cb_new w c
  have HB0 : Hid (Below w.heap.size w (w.alloc (Obj.cells #[.int .u64 c.k, .bool c.p.h, .int .u64 c.p.b, .bool c.c.h, .int .u64 c.c.b, .int .i64 c.n] 37))) := below_alloc _ _
  have HSZ : Hid ([[], [c], ([] : List Cl)].flatten.length * 48 ≤ 140737488355328) := by show _ ≤ _; simp
  have HT1 : ∀ wx : World, Cv wx (.slice none 0 0) [] := fun wx => cv_void wx none
  go_enter Try.func17, Try.ntmps17
  go_wp2_with fail
  refine (inOrder_void none 0 _).mono ?_
  rintro e w1 ⟨rfl, hB1⟩
  have HB1 : Hid (Below w.heap.size w w1) := below_trans HB0.out hB1
  have HC1 : Hid (CB w1 w.heap.size c) := HCB.out.keep hB1
  have k0 := HC1.out.c0
  clear hB1
  go_wp2_with fail
  refine (find_none none 0 c.k _).mono ?_
  rintro e w2 ⟨rfl, hB2⟩
  have HB2 : Hid (Below w.heap.size w w2) := below_trans HB1.out hB2
  have HC2 : Hid (CB w2 w.heap.size c) := HC1.out.keep hB2
  clear k0 hB2
  go_upto_region 8 with fail
  have j0 : ∀ wx, Below w2.heap.size w2 wx → wx.cell? ⟨w.heap.size, 0, none⟩ = some (.int .u64 c.k) := fun wx h => (HC2.out.keep h).c0
  have j1 : ∀ wx, Below w2.heap.size w2 wx → wx.cell? ⟨w.heap.size, 1, none⟩ = some (.bool c.p.h) := fun wx h => (HC2.out.keep h).c1
  have j2 : ∀ wx, Below w2.heap.size w2 wx → wx.cell? ⟨w.heap.size, 2, none⟩ = some (.int .u64 c.p.b) := fun wx h => (HC2.out.keep h).c2
  have j3 : ∀ wx, Below w2.heap.size w2 wx → wx.cell? ⟨w.heap.size, 3, none⟩ = some (.bool c.c.h) := fun wx h => (HC2.out.keep h).c3
  have j4 : ∀ wx, Below w2.heap.size w2 wx → wx.cell? ⟨w.heap.size, 4, none⟩ = some (.int .u64 c.c.b) := fun wx h => (HC2.out.keep h).c4
  have j5 : ∀ wx, Below w2.heap.size w2 wx → wx.cell? ⟨w.heap.size, 5, none⟩ = some (.int .i64 c.n) := fun wx h => (HC2.out.keep h).c5
  refine wp_region_noPanic ?_
  refine wp_region_held_drew (S := fun wx => Below w2.heap.size w2 wx) (by kernel_rfl) ?_ (fun hHeld => ?_)
  · exact (Below.refl _ _).drew
  refine wpAnyH_take (i := 0) (oi := ⟨some 33, _, _, _, _, _⟩) (v := ?_) rfl (by kernel_rfl) (by kernel_rfl) (by kernel_rfl) (fun _ _ _ h => h) (Or.inl ⟨by rfl, ?_⟩) hHeld ?_
  rotate_left
  · intro w hSw; (try dsimp only at hSw); go_simp; all_goals (with_reducible rfl)
  try simp only [Act.put, List.setIfInBounds_toArray, List.set_cons_zero, List.set_cons_succ]
  refine wpAnyH_take (i := 1) (oi := ⟨some 34, _, _, _, _, _⟩) (v := ?_) rfl (by kernel_rfl) (by kernel_rfl) (by kernel_rfl) (fun _ _ _ h => h) (Or.inl ⟨by rfl, ?_⟩) hHeld ?_
  rotate_left
  · intro w hSw; (try dsimp only at hSw); go_simp; all_goals (with_reducible rfl)
  try simp only [Act.put, List.setIfInBounds_toArray, List.set_cons_zero, List.set_cons_succ]
  refine wpAnyH_take (i := 2) (oi := ⟨some 35, _, _, _, _, _⟩) (v := ?_) rfl (by kernel_rfl) (by kernel_rfl) (by kernel_rfl) (fun _ _ _ h => h) (Or.inl ⟨by rfl, ?_⟩) hHeld ?_
  rotate_left
  · intro w hSw; (try dsimp only at hSw); go_simp; all_goals (with_reducible rfl)
  try simp only [Act.put, List.setIfInBounds_toArray, List.set_cons_zero, List.set_cons_succ]
  refine wpAnyH_take (i := 3) (oi := ⟨some 36, _, _, _, _, _⟩) (v := ?_) rfl (by kernel_rfl) (by kernel_rfl) (by kernel_rfl) (fun _ _ _ h => h) (Or.inl ⟨by rfl, ?_⟩) hHeld ?_
  rotate_left
  · intro w hSw; (try dsimp only at hSw); go_simp; all_goals (with_reducible rfl)
  try simp only [Act.put, List.setIfInBounds_toArray, List.set_cons_zero, List.set_cons_succ]
  refine wpAnyH_take (i := 5) (oi := ⟨some 38, _, _, _, _, _⟩) (v := ?_) rfl (by kernel_rfl) (by kernel_rfl) (by kernel_rfl) (fun _ _ _ h => h) (Or.inl ⟨by rfl, ?_⟩) hHeld ?_
  rotate_left
  · intro w hSw; (try dsimp only at hSw); go_simp; all_goals (with_reducible rfl)
  try simp only [Act.put, List.setIfInBounds_toArray, List.set_cons_zero, List.set_cons_succ]
  refine wpAnyH_take (i := 6) (oi := ⟨some 39, _, _, _, _, _⟩) (v := ?_) rfl (by kernel_rfl) (by kernel_rfl) (by kernel_rfl) (fun _ _ _ h => h) (Or.inl ⟨by rfl, ?_⟩) hHeld ?_
  rotate_left
  · intro w hSw; (try dsimp only at hSw); go_simp; all_goals (with_reducible rfl)
  try simp only [Act.put, List.setIfInBounds_toArray, List.set_cons_zero, List.set_cons_succ]
  refine wpAnyH_take (i := 7) (oi := ⟨some 40, _, _, _, _, _⟩) (v := ?_) rfl (by kernel_rfl) (by kernel_rfl) (by kernel_rfl) (fun _ _ _ h => h) (Or.inl ⟨by rfl, ?_⟩) hHeld ?_
  rotate_left
  · intro w hSw; (try dsimp only at hSw); go_simp; all_goals (with_reducible rfl)
  try simp only [Act.put, List.setIfInBounds_toArray, List.set_cons_zero, List.set_cons_succ]
  refine wpAnyH_ready (rs := [4]) (by kernel_rfl) (by simp) ?_
  refine AllReadyH.cons (o := ⟨some 37, _, _, _, _, _⟩) rfl (fun K hK => ?_) AllReadyH.nil
  go_simp
  have hN : Cv ((w2.alloc (Obj.cells #[.int .u64 c.k, .bool c.p.h, .int .u64 c.p.b, .bool c.c.h, .int .u64 c.c.b, .int .i64 c.n] 37)).drew) (.slice (some ⟨w2.heap.size, 0, none⟩) 1 1) [c] := (cv_one w2 c).below (below_drew _)
  have hSB : Below w2.heap.size w2 ((w2.alloc (Obj.cells #[.int .u64 c.k, .bool c.p.h, .int .u64 c.p.b, .bool c.c.h, .int .u64 c.c.b, .int .i64 c.n] 37)).drew) := (below_alloc _ _).drew
  clear hHeld
  generalize (w2.alloc (Obj.cells #[.int .u64 c.k, .bool c.p.h, .int .u64 c.p.b, .bool c.c.h, .int .u64 c.c.b, .int .i64 c.n] 37)).drew = wB at hN hSB ⊢
  refine hK.out _ _ ?_ (fun hHeld => ?_)
  · exact hSB
  clear hK K
  try simp only [Act.put, List.setIfInBounds_toArray, List.set_cons_zero, List.set_cons_succ]
  refine wpAnyH_ready (rs := [8]) (by kernel_rfl) (by simp) ?_
  refine AllReadyH.cons (o := ⟨some 41, _, _, _, _, _⟩) rfl (fun K hK => ?_) AllReadyH.nil
  go_simp
  have hP := pc_three 22 (HT1 wB) hN (HT1 wB)
  have hSC : Below w2.heap.size w2 (wB.alloc (Obj.cells #[.slice none 0 0, .slice (some ⟨w2.heap.size, 0, none⟩) 1 1, .slice none 0 0] 22)) := hHeld.alloc hHeld.size _
  clear hHeld
  generalize wB.alloc (Obj.cells #[.slice none 0 0, .slice (some ⟨w2.heap.size, 0, none⟩) 1 1, .slice none 0 0] 22) = wC at hP hSC ⊢
  refine hK.out _ _ ?_ (fun hHeld => ?_)
  · exact hSC
  clear hK K
  try simp only [Act.put, List.setIfInBounds_toArray, List.set_cons_zero, List.set_cons_succ]
  refine wpAnyH_ready (rs := [9]) (by kernel_rfl) (by simp) ?_
  refine AllReadyH.cons (o := ⟨some 42, _, _, _, _, _⟩) rfl (fun K hK => ?_) AllReadyH.nil
  go_simp
  refine (joined_walk hP (by simp) HSZ.out).mono ?_
  rintro e w9 ⟨v9, rfl, ho9, hB9⟩
  have hS9 := below_trans hHeld hB9
  have hBC := hHeld
  clear hB9 hHeld
  go_simp
  refine hK.out _ _ ?_ (fun hHeld => ?_)
  · exact hS9
  clear hK K
  try simp only [Act.put, List.setIfInBounds_toArray, List.set_cons_zero, List.set_cons_succ]
  refine wpAnyH_take (i := 10) (oi := ⟨some 4, _, _, _, _, _⟩) (v := ?_) rfl (by kernel_rfl) (by kernel_rfl) (by kernel_rfl) (fun _ _ _ h => h) (Or.inl ⟨by rfl, ?_⟩) hHeld ?_
  rotate_left
  · intro w hSw; (try dsimp only at hSw); go_simp; all_goals (with_reducible rfl)
  try simp only [Act.put, List.setIfInBounds_toArray, List.set_cons_zero, List.set_cons_succ]
  refine wpAnyH_take (i := 11) (oi := ⟨some 5, _, _, _, _, _⟩) (v := ?_) rfl (by kernel_rfl) (by kernel_rfl) (by kernel_rfl) (fun _ _ _ h => h) (Or.inl ⟨by rfl, ?_⟩) hHeld ?_
  rotate_left
  · intro w hSw; (try dsimp only at hSw); go_simp; all_goals (with_reducible rfl)
  try simp only [Act.put, List.setIfInBounds_toArray, List.set_cons_zero, List.set_cons_succ]
  refine wpAnyH_done (by kernel_rfl) ?_ _
  refine NoPanic.normal ?_
  go_wp2_with fail
  go_ret2
  exact got_ok rfl (by rw [flat_3] at ho9; exact ho9) (by have h1 := HB2.out.size; have h2 := hBC.size; omega) (below_trans HB2.out hHeld)

set_option maxRecDepth 100000 in
set_option maxHeartbeats 4000000 in
theorem put_some (c : Cl) (p : Addr) (cap : Nat) (w : World) (hcm : cap ≤ maxLen) :
    Calls Try.prog 17 #[.slice (some p) 0 cap, .agg #[.int .u64 c.k, .bool c.p.h, .int .u64 c.p.b, .bool c.c.h, .int .u64 c.c.b, .int .i64 c.n]] w (CellsGot ([c], 0) w) := by
  have HCB : Hid (CB (w.alloc (Obj.cells #[.int .u64 c.k, .bool c.p.h, .int .u64 c.p.b, .bool c.c.h, .int .u64 c.c.b, .int .i64 c.n] 37)) w.heap.size c) := cb_new w c
  have HB0 : Hid (Below w.heap.size w (w.alloc (Obj.cells #[.int .u64 c.k, .bool c.p.h, .int .u64 c.p.b, .bool c.c.h, .int .u64 c.c.b, .int .i64 c.n] 37))) := below_alloc _ _
  have HSZ : Hid ([[], [c], ([] : List Cl)].flatten.length * 48 ≤ 140737488355328) := by show _ ≤ _; simp
  unfold maxLen at hcm
  have hci : (cap : Int) ≤ 9223372036854775807 := by omega
  have hc0 : (0 : Int) ≤ (cap : Int) := by omega
  have HT1 : ∀ wx : World, Cv wx (.slice (some p) 0 cap) [] := fun wx => ⟨some p, cap, rfl, by simp, by simp only [maxLen]; exact hcm, by simp, fun i hi => by simp at hi⟩
  go_enter Try.func17, Try.ntmps17
  go_wp2_with fail
  refine (inOrder_void (some p) cap _).mono ?_
  rintro e w1 ⟨rfl, hB1⟩
  have HB1 : Hid (Below w.heap.size w w1) := below_trans HB0.out hB1
  have HC1 : Hid (CB w1 w.heap.size c) := HCB.out.keep hB1
  have k0 := HC1.out.c0
  clear hB1
  go_wp2_with fail
  refine (find_none (some p) cap c.k _).mono ?_
  rintro e w2 ⟨rfl, hB2⟩
  have HB2 : Hid (Below w.heap.size w w2) := below_trans HB1.out hB2
  have HC2 : Hid (CB w2 w.heap.size c) := HC1.out.keep hB2
  clear k0 hB2
  by_cases hz : cap = 0
  · subst hz
    go_upto_region 8 with fail
    have j0 : ∀ wx, Below w2.heap.size w2 wx → wx.cell? ⟨w.heap.size, 0, none⟩ = some (.int .u64 c.k) := fun wx h => (HC2.out.keep h).c0
    have j1 : ∀ wx, Below w2.heap.size w2 wx → wx.cell? ⟨w.heap.size, 1, none⟩ = some (.bool c.p.h) := fun wx h => (HC2.out.keep h).c1
    have j2 : ∀ wx, Below w2.heap.size w2 wx → wx.cell? ⟨w.heap.size, 2, none⟩ = some (.int .u64 c.p.b) := fun wx h => (HC2.out.keep h).c2
    have j3 : ∀ wx, Below w2.heap.size w2 wx → wx.cell? ⟨w.heap.size, 3, none⟩ = some (.bool c.c.h) := fun wx h => (HC2.out.keep h).c3
    have j4 : ∀ wx, Below w2.heap.size w2 wx → wx.cell? ⟨w.heap.size, 4, none⟩ = some (.int .u64 c.c.b) := fun wx h => (HC2.out.keep h).c4
    have j5 : ∀ wx, Below w2.heap.size w2 wx → wx.cell? ⟨w.heap.size, 5, none⟩ = some (.int .i64 c.n) := fun wx h => (HC2.out.keep h).c5
    refine wp_region_noPanic ?_
    refine wp_region_held_drew (S := fun wx => Below w2.heap.size w2 wx) (by kernel_rfl) ?_ (fun hHeld => ?_)
    · exact (Below.refl _ _).drew
    refine wpAnyH_take (i := 0) (oi := ⟨some 33, _, _, _, _, _⟩) (v := ?_) rfl (by kernel_rfl) (by kernel_rfl) (by kernel_rfl) (fun _ _ _ h => h) (Or.inl ⟨by rfl, ?_⟩) hHeld ?_
    rotate_left
    · intro w hSw; (try dsimp only at hSw); go_simp; all_goals (with_reducible rfl)
    try simp only [Act.put, List.setIfInBounds_toArray, List.set_cons_zero, List.set_cons_succ]
    refine wpAnyH_take (i := 1) (oi := ⟨some 34, _, _, _, _, _⟩) (v := ?_) rfl (by kernel_rfl) (by kernel_rfl) (by kernel_rfl) (fun _ _ _ h => h) (Or.inl ⟨by rfl, ?_⟩) hHeld ?_
    rotate_left
    · intro w hSw; (try dsimp only at hSw); go_simp; all_goals (with_reducible rfl)
    try simp only [Act.put, List.setIfInBounds_toArray, List.set_cons_zero, List.set_cons_succ]
    refine wpAnyH_take (i := 2) (oi := ⟨some 35, _, _, _, _, _⟩) (v := ?_) rfl (by kernel_rfl) (by kernel_rfl) (by kernel_rfl) (fun _ _ _ h => h) (Or.inl ⟨by rfl, ?_⟩) hHeld ?_
    rotate_left
    · intro w hSw; (try dsimp only at hSw); go_simp; all_goals (with_reducible rfl)
    try simp only [Act.put, List.setIfInBounds_toArray, List.set_cons_zero, List.set_cons_succ]
    refine wpAnyH_take (i := 3) (oi := ⟨some 36, _, _, _, _, _⟩) (v := ?_) rfl (by kernel_rfl) (by kernel_rfl) (by kernel_rfl) (fun _ _ _ h => h) (Or.inl ⟨by rfl, ?_⟩) hHeld ?_
    rotate_left
    · intro w hSw; (try dsimp only at hSw); go_simp; all_goals (with_reducible rfl)
    try simp only [Act.put, List.setIfInBounds_toArray, List.set_cons_zero, List.set_cons_succ]
    refine wpAnyH_take (i := 5) (oi := ⟨some 38, _, _, _, _, _⟩) (v := ?_) rfl (by kernel_rfl) (by kernel_rfl) (by kernel_rfl) (fun _ _ _ h => h) (Or.inl ⟨by rfl, ?_⟩) hHeld ?_
    rotate_left
    · intro w hSw; (try dsimp only at hSw); go_simp; all_goals (with_reducible rfl)
    try simp only [Act.put, List.setIfInBounds_toArray, List.set_cons_zero, List.set_cons_succ]
    refine wpAnyH_take (i := 6) (oi := ⟨some 39, _, _, _, _, _⟩) (v := ?_) rfl (by kernel_rfl) (by kernel_rfl) (by kernel_rfl) (fun _ _ _ h => h) (Or.inl ⟨by rfl, ?_⟩) hHeld ?_
    rotate_left
    · intro w hSw; (try dsimp only at hSw); go_simp; all_goals (with_reducible rfl)
    try simp only [Act.put, List.setIfInBounds_toArray, List.set_cons_zero, List.set_cons_succ]
    refine wpAnyH_take (i := 7) (oi := ⟨some 40, _, _, _, _, _⟩) (v := ?_) rfl (by kernel_rfl) (by kernel_rfl) (by kernel_rfl) (fun _ _ _ h => h) (Or.inl ⟨by rfl, ?_⟩) hHeld ?_
    rotate_left
    · intro w hSw; (try dsimp only at hSw); go_simp; all_goals (with_reducible rfl)
    try simp only [Act.put, List.setIfInBounds_toArray, List.set_cons_zero, List.set_cons_succ]
    refine wpAnyH_ready (rs := [4]) (by kernel_rfl) (by simp) ?_
    refine AllReadyH.cons (o := ⟨some 37, _, _, _, _, _⟩) rfl (fun K hK => ?_) AllReadyH.nil
    go_simp
    have hN : Cv ((w2.alloc (Obj.cells #[.int .u64 c.k, .bool c.p.h, .int .u64 c.p.b, .bool c.c.h, .int .u64 c.c.b, .int .i64 c.n] 37)).drew) (.slice (some ⟨w2.heap.size, 0, none⟩) 1 1) [c] := (cv_one w2 c).below (below_drew _)
    have hSB : Below w2.heap.size w2 ((w2.alloc (Obj.cells #[.int .u64 c.k, .bool c.p.h, .int .u64 c.p.b, .bool c.c.h, .int .u64 c.c.b, .int .i64 c.n] 37)).drew) := (below_alloc _ _).drew
    clear hHeld
    generalize (w2.alloc (Obj.cells #[.int .u64 c.k, .bool c.p.h, .int .u64 c.p.b, .bool c.c.h, .int .u64 c.c.b, .int .i64 c.n] 37)).drew = wB at hN hSB ⊢
    refine hK.out _ _ ?_ (fun hHeld => ?_)
    · exact hSB
    clear hK K
    try simp only [Act.put, List.setIfInBounds_toArray, List.set_cons_zero, List.set_cons_succ]
    refine wpAnyH_ready (rs := [8]) (by kernel_rfl) (by simp) ?_
    refine AllReadyH.cons (o := ⟨some 41, _, _, _, _, _⟩) rfl (fun K hK => ?_) AllReadyH.nil
    go_simp
    have hP := pc_three 22 (HT1 wB) hN (HT1 wB)
    have hSC : Below w2.heap.size w2 (wB.alloc (Obj.cells #[.slice (some p) 0 0, .slice (some ⟨w2.heap.size, 0, none⟩) 1 1, .slice (some p) 0 0] 22)) := hHeld.alloc hHeld.size _
    clear hHeld
    generalize wB.alloc (Obj.cells #[.slice (some p) 0 0, .slice (some ⟨w2.heap.size, 0, none⟩) 1 1, .slice (some p) 0 0] 22) = wC at hP hSC ⊢
    refine hK.out _ _ ?_ (fun hHeld => ?_)
    · exact hSC
    clear hK K
    try simp only [Act.put, List.setIfInBounds_toArray, List.set_cons_zero, List.set_cons_succ]
    refine wpAnyH_ready (rs := [9]) (by kernel_rfl) (by simp) ?_
    refine AllReadyH.cons (o := ⟨some 42, _, _, _, _, _⟩) rfl (fun K hK => ?_) AllReadyH.nil
    go_simp
    refine (joined_walk hP (by simp) HSZ.out).mono ?_
    rintro e w9 ⟨v9, rfl, ho9, hB9⟩
    have hS9 := below_trans hHeld hB9
    have hBC := hHeld
    clear hB9 hHeld
    go_simp
    refine hK.out _ _ ?_ (fun hHeld => ?_)
    · exact hS9
    clear hK K
    try simp only [Act.put, List.setIfInBounds_toArray, List.set_cons_zero, List.set_cons_succ]
    refine wpAnyH_take (i := 10) (oi := ⟨some 4, _, _, _, _, _⟩) (v := ?_) rfl (by kernel_rfl) (by kernel_rfl) (by kernel_rfl) (fun _ _ _ h => h) (Or.inl ⟨by rfl, ?_⟩) hHeld ?_
    rotate_left
    · intro w hSw; (try dsimp only at hSw); go_simp; all_goals (with_reducible rfl)
    try simp only [Act.put, List.setIfInBounds_toArray, List.set_cons_zero, List.set_cons_succ]
    refine wpAnyH_take (i := 11) (oi := ⟨some 5, _, _, _, _, _⟩) (v := ?_) rfl (by kernel_rfl) (by kernel_rfl) (by kernel_rfl) (fun _ _ _ h => h) (Or.inl ⟨by rfl, ?_⟩) hHeld ?_
    rotate_left
    · intro w hSw; (try dsimp only at hSw); go_simp; all_goals (with_reducible rfl)
    try simp only [Act.put, List.setIfInBounds_toArray, List.set_cons_zero, List.set_cons_succ]
    refine wpAnyH_done (by kernel_rfl) ?_ _
    refine NoPanic.normal ?_
    go_wp2_with fail
    go_ret2
    exact got_ok rfl (by rw [flat_3] at ho9; exact ho9) (by have h1 := HB2.out.size; have h2 := hBC.size; omega) (below_trans HB2.out hHeld)
  · have hz' : ¬ (cap : Int) = 0 := by omega
    go_upto_region 8 with fail
    have j0 : ∀ wx, Below w2.heap.size w2 wx → wx.cell? ⟨w.heap.size, 0, none⟩ = some (.int .u64 c.k) := fun wx h => (HC2.out.keep h).c0
    have j1 : ∀ wx, Below w2.heap.size w2 wx → wx.cell? ⟨w.heap.size, 1, none⟩ = some (.bool c.p.h) := fun wx h => (HC2.out.keep h).c1
    have j2 : ∀ wx, Below w2.heap.size w2 wx → wx.cell? ⟨w.heap.size, 2, none⟩ = some (.int .u64 c.p.b) := fun wx h => (HC2.out.keep h).c2
    have j3 : ∀ wx, Below w2.heap.size w2 wx → wx.cell? ⟨w.heap.size, 3, none⟩ = some (.bool c.c.h) := fun wx h => (HC2.out.keep h).c3
    have j4 : ∀ wx, Below w2.heap.size w2 wx → wx.cell? ⟨w.heap.size, 4, none⟩ = some (.int .u64 c.c.b) := fun wx h => (HC2.out.keep h).c4
    have j5 : ∀ wx, Below w2.heap.size w2 wx → wx.cell? ⟨w.heap.size, 5, none⟩ = some (.int .i64 c.n) := fun wx h => (HC2.out.keep h).c5
    refine wp_region_noPanic ?_
    refine wp_region_held_drew (S := fun wx => Below w2.heap.size w2 wx) (by kernel_rfl) ?_ (fun hHeld => ?_)
    · exact (Below.refl _ _).drew
    refine wpAnyH_take (i := 0) (oi := ⟨some 33, _, _, _, _, _⟩) (v := ?_) rfl (by kernel_rfl) (by kernel_rfl) (by kernel_rfl) (fun _ _ _ h => h) (Or.inl ⟨by rfl, ?_⟩) hHeld ?_
    rotate_left
    · intro w hSw; (try dsimp only at hSw); go_simp; all_goals (with_reducible rfl)
    try simp only [Act.put, List.setIfInBounds_toArray, List.set_cons_zero, List.set_cons_succ]
    refine wpAnyH_take (i := 1) (oi := ⟨some 34, _, _, _, _, _⟩) (v := ?_) rfl (by kernel_rfl) (by kernel_rfl) (by kernel_rfl) (fun _ _ _ h => h) (Or.inl ⟨by rfl, ?_⟩) hHeld ?_
    rotate_left
    · intro w hSw; (try dsimp only at hSw); go_simp; all_goals (with_reducible rfl)
    try simp only [Act.put, List.setIfInBounds_toArray, List.set_cons_zero, List.set_cons_succ]
    refine wpAnyH_take (i := 2) (oi := ⟨some 35, _, _, _, _, _⟩) (v := ?_) rfl (by kernel_rfl) (by kernel_rfl) (by kernel_rfl) (fun _ _ _ h => h) (Or.inl ⟨by rfl, ?_⟩) hHeld ?_
    rotate_left
    · intro w hSw; (try dsimp only at hSw); go_simp; all_goals (with_reducible rfl)
    try simp only [Act.put, List.setIfInBounds_toArray, List.set_cons_zero, List.set_cons_succ]
    refine wpAnyH_take (i := 3) (oi := ⟨some 36, _, _, _, _, _⟩) (v := ?_) rfl (by kernel_rfl) (by kernel_rfl) (by kernel_rfl) (fun _ _ _ h => h) (Or.inl ⟨by rfl, ?_⟩) hHeld ?_
    rotate_left
    · intro w hSw; (try dsimp only at hSw); go_simp; all_goals (with_reducible rfl)
    try simp only [Act.put, List.setIfInBounds_toArray, List.set_cons_zero, List.set_cons_succ]
    refine wpAnyH_take (i := 5) (oi := ⟨some 38, _, _, _, _, _⟩) (v := ?_) rfl (by kernel_rfl) (by kernel_rfl) (by kernel_rfl) (fun _ _ _ h => h) (Or.inl ⟨by rfl, ?_⟩) hHeld ?_
    rotate_left
    · intro w hSw; (try dsimp only at hSw); go_simp; all_goals (with_reducible rfl)
    try simp only [Act.put, List.setIfInBounds_toArray, List.set_cons_zero, List.set_cons_succ]
    refine wpAnyH_take (i := 6) (oi := ⟨some 39, _, _, _, _, _⟩) (v := ?_) rfl (by kernel_rfl) (by kernel_rfl) (by kernel_rfl) (fun _ _ _ h => h) (Or.inl ⟨by rfl, ?_⟩) hHeld ?_
    rotate_left
    · intro w hSw; (try dsimp only at hSw); go_simp; all_goals (with_reducible rfl)
    try simp only [Act.put, List.setIfInBounds_toArray, List.set_cons_zero, List.set_cons_succ]
    refine wpAnyH_take (i := 7) (oi := ⟨some 40, _, _, _, _, _⟩) (v := ?_) rfl (by kernel_rfl) (by kernel_rfl) (by kernel_rfl) (fun _ _ _ h => h) (Or.inl ⟨by rfl, ?_⟩) hHeld ?_
    rotate_left
    · intro w hSw; (try dsimp only at hSw); go_simp; all_goals (with_reducible rfl)
    try simp only [Act.put, List.setIfInBounds_toArray, List.set_cons_zero, List.set_cons_succ]
    refine wpAnyH_ready (rs := [4]) (by kernel_rfl) (by simp) ?_
    refine AllReadyH.cons (o := ⟨some 37, _, _, _, _, _⟩) rfl (fun K hK => ?_) AllReadyH.nil
    go_simp
    have hN : Cv ((w2.alloc (Obj.cells #[.int .u64 c.k, .bool c.p.h, .int .u64 c.p.b, .bool c.c.h, .int .u64 c.c.b, .int .i64 c.n] 37)).drew) (.slice (some ⟨w2.heap.size, 0, none⟩) 1 1) [c] := (cv_one w2 c).below (below_drew _)
    have hSB : Below w2.heap.size w2 ((w2.alloc (Obj.cells #[.int .u64 c.k, .bool c.p.h, .int .u64 c.p.b, .bool c.c.h, .int .u64 c.c.b, .int .i64 c.n] 37)).drew) := (below_alloc _ _).drew
    clear hHeld
    generalize (w2.alloc (Obj.cells #[.int .u64 c.k, .bool c.p.h, .int .u64 c.p.b, .bool c.c.h, .int .u64 c.c.b, .int .i64 c.n] 37)).drew = wB at hN hSB ⊢
    refine hK.out _ _ ?_ (fun hHeld => ?_)
    · exact hSB
    clear hK K
    try simp only [Act.put, List.setIfInBounds_toArray, List.set_cons_zero, List.set_cons_succ]
    refine wpAnyH_ready (rs := [8]) (by kernel_rfl) (by simp) ?_
    refine AllReadyH.cons (o := ⟨some 41, _, _, _, _, _⟩) rfl (fun K hK => ?_) AllReadyH.nil
    go_simp
    have hP := pc_three 22 (HT1 wB) hN (HT1 wB)
    have hSC : Below w2.heap.size w2 (wB.alloc (Obj.cells #[.slice (some p) 0 cap, .slice (some ⟨w2.heap.size, 0, none⟩) 1 1, .slice (some p) 0 cap] 22)) := hHeld.alloc hHeld.size _
    clear hHeld
    generalize wB.alloc (Obj.cells #[.slice (some p) 0 cap, .slice (some ⟨w2.heap.size, 0, none⟩) 1 1, .slice (some p) 0 cap] 22) = wC at hP hSC ⊢
    refine hK.out _ _ ?_ (fun hHeld => ?_)
    · exact hSC
    clear hK K
    try simp only [Act.put, List.setIfInBounds_toArray, List.set_cons_zero, List.set_cons_succ]
    refine wpAnyH_ready (rs := [9]) (by kernel_rfl) (by simp) ?_
    refine AllReadyH.cons (o := ⟨some 42, _, _, _, _, _⟩) rfl (fun K hK => ?_) AllReadyH.nil
    go_simp
    refine (joined_walk hP (by simp) HSZ.out).mono ?_
    rintro e w9 ⟨v9, rfl, ho9, hB9⟩
    have hS9 := below_trans hHeld hB9
    have hBC := hHeld
    clear hB9 hHeld
    go_simp
    refine hK.out _ _ ?_ (fun hHeld => ?_)
    · exact hS9
    clear hK K
    try simp only [Act.put, List.setIfInBounds_toArray, List.set_cons_zero, List.set_cons_succ]
    refine wpAnyH_take (i := 10) (oi := ⟨some 4, _, _, _, _, _⟩) (v := ?_) rfl (by kernel_rfl) (by kernel_rfl) (by kernel_rfl) (fun _ _ _ h => h) (Or.inl ⟨by rfl, ?_⟩) hHeld ?_
    rotate_left
    · intro w hSw; (try dsimp only at hSw); go_simp; all_goals (with_reducible rfl)
    try simp only [Act.put, List.setIfInBounds_toArray, List.set_cons_zero, List.set_cons_succ]
    refine wpAnyH_take (i := 11) (oi := ⟨some 5, _, _, _, _, _⟩) (v := ?_) rfl (by kernel_rfl) (by kernel_rfl) (by kernel_rfl) (fun _ _ _ h => h) (Or.inl ⟨by rfl, ?_⟩) hHeld ?_
    rotate_left
    · intro w hSw; (try dsimp only at hSw); go_simp; all_goals (with_reducible rfl)
    try simp only [Act.put, List.setIfInBounds_toArray, List.set_cons_zero, List.set_cons_succ]
    refine wpAnyH_done (by kernel_rfl) ?_ _
    refine NoPanic.normal ?_
    go_wp2_with fail
    go_ret2
    exact got_ok rfl (by rw [flat_3] at ho9; exact ho9) (by have h1 := HB2.out.size; have h2 := hBC.size; omega) (below_trans HB2.out hHeld)

theorem put_walk11 {w : World} {v : Value} {l : List Cl} (h : Cv w v l) (c : Cl) (hsz : (l.length + 1) * 48 ≤ 140737488355328) :
    Calls Try.prog 17 #[v, .agg #[.int .u64 c.k, .bool c.p.h, .int .u64 c.p.b, .bool c.c.h, .int .u64 c.c.b, .int .i64 c.n]] w (CellsGot (putR l c) w) := by
  obtain ⟨ao, cap, rfl⟩ := h.form
  cases ho : ordB l
  · exact put_bad l c ao cap w h ho
  · cases hk : isK l (fndF l c.k) c.k
    · by_cases h16 : 16 ≤ l.length
      · exact put_full l c ao cap w h ho hk h16
      · by_cases hp : 0 < l.length
        · exact put_new l c ao cap w h ho hk (by omega) hp
        · obtain rfl : l = [] := List.eq_nil_of_length_eq_zero (by omega)
          have e : putR [] c = ([c], 0) := rfl
          rw [e]
          obtain ⟨ao', cap', e1, _, h2, h3, _⟩ := h
          cases e1
          cases ao with
          | none => obtain rfl := h3 rfl; exact put_nil c w
          | some p => exact put_some c p cap w h2
    · exact put_there l c ao cap w h ho hk hsz
end Go.Proofs.Ytjcmmhonidamoaa
