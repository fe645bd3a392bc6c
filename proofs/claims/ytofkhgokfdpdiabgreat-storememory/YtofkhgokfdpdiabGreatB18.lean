/- A shelf in memory: six slices of cells in a block; what find, room, resolve, apply, revert make of it. Contracts of find, room, resolve. -/
import Derived.Test.YtofkhgokfdpdiabGreatB02
import Derived.Test.YtofkhgokfdpdiabGreatB17
import Derived.Test.YtofkhgokfdpdiabGreatB06
import Derived.Deep.RegionHeld3
import Derived.Laws.ResultCell
set_option maxRecDepth 100000
set_option maxHeartbeats 16000000
namespace Go.Proofs.YtofkhgokfdpdiabGreat
section
open Go.RowKit

theorem inOrder_void (ao : Option Addr) (cap : Nat) (w : World) : Calls Tryz.prog 126 #[.slice ao 0 cap] w fun e w' => e = .returned (.bool true) ∧ Below w.heap.size w w' := inOrder_none ao cap w
theorem cv_void (w : World) (ao : Option Addr) : Cv w (.slice ao 0 0) [] := ⟨ao, 0, rfl, by simp, by simp [maxLen], by simp, fun i hi => by simp at hi⟩
theorem put_nilB (c : Cl) (w : World)  :
  Calls Tryz.prog 84 #[.slice none 0 0, .agg #[.int .u64 c.k, .bool c.p.h, .int .u64 c.p.b, .bool c.c.h, .int .u64 c.c.b, .int .i64 c.n]] w (CellsGot ([c], 0) w) := by
 have HCB : Hid (CB (w.alloc (Obj.cells #[.int .u64 c.k, .bool c.p.h, .int .u64 c.p.b, .bool c.c.h, .int .u64 c.c.b, .int .i64 c.n] 63)) w.heap.size c) := cb_new w c
 have HB0 : Hid (Below w.heap.size w (w.alloc (Obj.cells #[.int .u64 c.k, .bool c.p.h, .int .u64 c.p.b, .bool c.c.h, .int .u64 c.c.b, .int .i64 c.n] 63))) := below_alloc _ _
 have HSZ : Hid ([[], [c], ([] : List Cl)].flatten.length * 48 ≤ 140737488355328) := by show _ ≤ _; simp
 have HT1 : ∀ wx : World, Cv wx (.slice none 0 0) [] := fun wx => cv_void wx none
 go_in
 go_wp2_with fail
 refine (inOrder_void none 0 _).mono ?_
 rintro e w1 ⟨rfl, hB1⟩
 have HB1 := hidH (below_trans HB0.out hB1)
 have HC1 : Hid (CB w1 w.heap.size c) := HCB.out.keep hB1
 have k0 := HC1.out.c0
 clear hB1
 go_wp2_with fail
 refine (find_none none 0 c.k _).mono ?_
 rintro e w2 ⟨rfl, hB2⟩
 have HB2 := hidH (below_trans HB1.out hB2)
 have HC2 : Hid (CB w2 w.heap.size c) := HC1.out.keep hB2
 clear k0 hB2
 go_upto_region 8 with fail
 have j0 : ∀ wx, Below w2.heap.size w2 wx → wx.cell? ⟨w.heap.size, 0, none⟩ = some (.int .u64 c.k) := fun wx h => (HC2.out.keep h).c0
 have j1 : ∀ wx, Below w2.heap.size w2 wx → wx.cell? ⟨w.heap.size, 1, none⟩ = some (.bool c.p.h) := fun wx h => (HC2.out.keep h).c1
 have j2 : ∀ wx, Below w2.heap.size w2 wx → wx.cell? ⟨w.heap.size, 2, none⟩ = some (.int .u64 c.p.b) := fun wx h => (HC2.out.keep h).c2
 have j3 : ∀ wx, Below w2.heap.size w2 wx → wx.cell? ⟨w.heap.size, 3, none⟩ = some (.bool c.c.h) := fun wx h => (HC2.out.keep h).c3
 have j4 : ∀ wx, Below w2.heap.size w2 wx → wx.cell? ⟨w.heap.size, 4, none⟩ = some (.int .u64 c.c.b) := fun wx h => (HC2.out.keep h).c4
 have j5 : ∀ wx, Below w2.heap.size w2 wx → wx.cell? ⟨w.heap.size, 5, none⟩ = some (.int .i64 c.n) := fun wx h => (HC2.out.keep h).c5
 refine wp_region_noPanic ?_
 refine wp_region_held_drew (S := fun wx => Below w2.heap.size w2 wx) (by kernel_rfl) ?_ (fun hHeld => ?_)
 ·exact (Below.refl _ _).drew
 refine tkS 0 33 rfl hHeld ?_
 refine tkS 1 34 rfl hHeld ?_
 refine tkS 2 35 rfl hHeld ?_
 refine tkS 3 36 rfl hHeld ?_
 refine tkS 5 38 rfl hHeld ?_
 refine tkS 6 39 rfl hHeld ?_
 refine tkS 7 40 rfl hHeld ?_
 refine rdH 4 37 rfl (fun K hK => ?_)
 go_simp
 have hN : Cv ((w2.alloc (Obj.cells #[.int .u64 c.k, .bool c.p.h, .int .u64 c.p.b, .bool c.c.h, .int .u64 c.c.b, .int .i64 c.n] 63)).drew) (.slice (some ⟨w2.heap.size, 0, none⟩) 1 1) [c] := (cv_one w2 c).below (below_drew _)
 have hSB : Below w2.heap.size w2 ((w2.alloc (Obj.cells #[.int .u64 c.k, .bool c.p.h, .int .u64 c.p.b, .bool c.c.h, .int .u64 c.c.b, .int .i64 c.n] 63)).drew) := (below_alloc _ _).drew
 clear hHeld
 generalize (w2.alloc (Obj.cells #[.int .u64 c.k, .bool c.p.h, .int .u64 c.p.b, .bool c.c.h, .int .u64 c.c.b, .int .i64 c.n] 63)).drew = wB at hN hSB ⊢
 refine hK.out _ _ ?_ (fun hHeld => ?_)
 ·exact hSB
 clear hK K
 try simp only [Act.put, zA, zB, zC]
 refine rdH 8 41 rfl (fun K hK => ?_)
 go_simp
 have hP := pc_three 46 (HT1 wB) hN (HT1 wB)
 have hSC : Below w2.heap.size w2 (wB.alloc (Obj.cells #[.slice none 0 0, .slice (some ⟨w2.heap.size, 0, none⟩) 1 1, .slice none 0 0] 46)) := hHeld.alloc hHeld.size _
 clear hHeld
 generalize wB.alloc (Obj.cells #[.slice none 0 0, .slice (some ⟨w2.heap.size, 0, none⟩) 1 1, .slice none 0 0] 46) = wC at hP hSC ⊢
 refine hK.out _ _ ?_ (fun hHeld => ?_)
 ·exact hSC
 clear hK K
 try simp only [Act.put, zA, zB, zC]
 refine rdH 9 42 rfl (fun K hK => ?_)
 go_simp
 refine (joined_walk hP (by simp) HSZ.out).mono ?_
 rintro e w9 ⟨v9, rfl, ho9, hB9⟩
 have hS9 := below_trans hHeld hB9
 have hBC := hHeld
 clear hB9 hHeld
 go_simp
 refine hK.out _ _ ?_ (fun hHeld => ?_)
 ·exact hS9
 clear hK K
 try simp only [Act.put, zA, zB, zC]
 refine tkS 10 4 rfl hHeld ?_
 refine tkS 11 5 rfl hHeld ?_
 refine wpAnyH_done (by kernel_rfl) ?_ _
 refine NoPanic.normal ?_
 go_wp2_with fail
 go_ret2
 exact got_ok rfl (by rw [flat_3] at ho9; exact ho9) (by have h1 := HB2.out.size; have h2 := hBC.size; omega) (below_trans HB2.out hHeld)
theorem put_some (c : Cl) (p : Addr) (cap : Nat) (w : World) (hcm : cap ≤ maxLen) :
  Calls Tryz.prog 84 #[.slice (some p) 0 cap, .agg #[.int .u64 c.k, .bool c.p.h, .int .u64 c.p.b, .bool c.c.h, .int .u64 c.c.b, .int .i64 c.n]] w (CellsGot ([c], 0) w) := by
 have HCB : Hid (CB (w.alloc (Obj.cells #[.int .u64 c.k, .bool c.p.h, .int .u64 c.p.b, .bool c.c.h, .int .u64 c.c.b, .int .i64 c.n] 63)) w.heap.size c) := cb_new w c
 have HB0 : Hid (Below w.heap.size w (w.alloc (Obj.cells #[.int .u64 c.k, .bool c.p.h, .int .u64 c.p.b, .bool c.c.h, .int .u64 c.c.b, .int .i64 c.n] 63))) := below_alloc _ _
 have HSZ : Hid ([[], [c], ([] : List Cl)].flatten.length * 48 ≤ 140737488355328) := by show _ ≤ _; simp
 unfold maxLen at hcm
 have hci : (cap : Int) ≤ 9223372036854775807 := by omega
 have hc0 : (0 : Int) ≤ (cap : Int) := by omega
 have HT1 : ∀ wx : World, Cv wx (.slice (some p) 0 cap) [] := fun wx => ⟨some p, cap, rfl, by simp, by simp only [maxLen]; exact hcm, by simp, fun i hi => by simp at hi⟩
 go_in
 go_wp2_with fail
 refine (inOrder_void (some p) cap _).mono ?_
 rintro e w1 ⟨rfl, hB1⟩
 have HB1 := hidH (below_trans HB0.out hB1)
 have HC1 : Hid (CB w1 w.heap.size c) := HCB.out.keep hB1
 have k0 := HC1.out.c0
 clear hB1
 go_wp2_with fail
 refine (find_none (some p) cap c.k _).mono ?_
 rintro e w2 ⟨rfl, hB2⟩
 have HB2 := hidH (below_trans HB1.out hB2)
 have HC2 : Hid (CB w2 w.heap.size c) := HC1.out.keep hB2
 clear k0 hB2
 by_cases hz : cap = 0
 ·subst hz
  go_upto_region 8 with fail
  have j0 : ∀ wx, Below w2.heap.size w2 wx → wx.cell? ⟨w.heap.size, 0, none⟩ = some (.int .u64 c.k) := fun wx h => (HC2.out.keep h).c0
  have j1 : ∀ wx, Below w2.heap.size w2 wx → wx.cell? ⟨w.heap.size, 1, none⟩ = some (.bool c.p.h) := fun wx h => (HC2.out.keep h).c1
  have j2 : ∀ wx, Below w2.heap.size w2 wx → wx.cell? ⟨w.heap.size, 2, none⟩ = some (.int .u64 c.p.b) := fun wx h => (HC2.out.keep h).c2
  have j3 : ∀ wx, Below w2.heap.size w2 wx → wx.cell? ⟨w.heap.size, 3, none⟩ = some (.bool c.c.h) := fun wx h => (HC2.out.keep h).c3
  have j4 : ∀ wx, Below w2.heap.size w2 wx → wx.cell? ⟨w.heap.size, 4, none⟩ = some (.int .u64 c.c.b) := fun wx h => (HC2.out.keep h).c4
  have j5 : ∀ wx, Below w2.heap.size w2 wx → wx.cell? ⟨w.heap.size, 5, none⟩ = some (.int .i64 c.n) := fun wx h => (HC2.out.keep h).c5
  refine wp_region_noPanic ?_
  refine wp_region_held_drew (S := fun wx => Below w2.heap.size w2 wx) (by kernel_rfl) ?_ (fun hHeld => ?_)
  ·exact (Below.refl _ _).drew
  refine tkS 0 33 rfl hHeld ?_
  refine tkS 1 34 rfl hHeld ?_
  refine tkS 2 35 rfl hHeld ?_
  refine tkS 3 36 rfl hHeld ?_
  refine tkS 5 38 rfl hHeld ?_
  refine tkS 6 39 rfl hHeld ?_
  refine tkS 7 40 rfl hHeld ?_
  refine rdH 4 37 rfl (fun K hK => ?_)
  go_simp
  have hN : Cv ((w2.alloc (Obj.cells #[.int .u64 c.k, .bool c.p.h, .int .u64 c.p.b, .bool c.c.h, .int .u64 c.c.b, .int .i64 c.n] 63)).drew) (.slice (some ⟨w2.heap.size, 0, none⟩) 1 1) [c] := (cv_one w2 c).below (below_drew _)
  have hSB : Below w2.heap.size w2 ((w2.alloc (Obj.cells #[.int .u64 c.k, .bool c.p.h, .int .u64 c.p.b, .bool c.c.h, .int .u64 c.c.b, .int .i64 c.n] 63)).drew) := (below_alloc _ _).drew
  clear hHeld
  generalize (w2.alloc (Obj.cells #[.int .u64 c.k, .bool c.p.h, .int .u64 c.p.b, .bool c.c.h, .int .u64 c.c.b, .int .i64 c.n] 63)).drew = wB at hN hSB ⊢
  refine hK.out _ _ ?_ (fun hHeld => ?_)
  ·exact hSB
  clear hK K
  try simp only [Act.put, zA, zB, zC]
  refine rdH 8 41 rfl (fun K hK => ?_)
  go_simp
  have hP := pc_three 46 (HT1 wB) hN (HT1 wB)
  have hSC : Below w2.heap.size w2 (wB.alloc (Obj.cells #[.slice (some p) 0 0, .slice (some ⟨w2.heap.size, 0, none⟩) 1 1, .slice (some p) 0 0] 46)) := hHeld.alloc hHeld.size _
  clear hHeld
  generalize wB.alloc (Obj.cells #[.slice (some p) 0 0, .slice (some ⟨w2.heap.size, 0, none⟩) 1 1, .slice (some p) 0 0] 46) = wC at hP hSC ⊢
  refine hK.out _ _ ?_ (fun hHeld => ?_)
  ·exact hSC
  clear hK K
  try simp only [Act.put, zA, zB, zC]
  refine rdH 9 42 rfl (fun K hK => ?_)
  go_simp
  refine (joined_walk hP (by simp) HSZ.out).mono ?_
  rintro e w9 ⟨v9, rfl, ho9, hB9⟩
  have hS9 := below_trans hHeld hB9
  have hBC := hHeld
  clear hB9 hHeld
  go_simp
  refine hK.out _ _ ?_ (fun hHeld => ?_)
  ·exact hS9
  clear hK K
  try simp only [Act.put, zA, zB, zC]
  refine tkS 10 4 rfl hHeld ?_
  refine tkS 11 5 rfl hHeld ?_
  refine wpAnyH_done (by kernel_rfl) ?_ _
  refine NoPanic.normal ?_
  go_wp2_with fail
  go_ret2
  exact got_ok rfl (by rw [flat_3] at ho9; exact ho9) (by have h1 := HB2.out.size; have h2 := hBC.size; omega) (below_trans HB2.out hHeld)
 ·have hz' : ¬ (cap : Int) = 0 := by omega
  go_upto_region 8 with fail
  have j0 : ∀ wx, Below w2.heap.size w2 wx → wx.cell? ⟨w.heap.size, 0, none⟩ = some (.int .u64 c.k) := fun wx h => (HC2.out.keep h).c0
  have j1 : ∀ wx, Below w2.heap.size w2 wx → wx.cell? ⟨w.heap.size, 1, none⟩ = some (.bool c.p.h) := fun wx h => (HC2.out.keep h).c1
  have j2 : ∀ wx, Below w2.heap.size w2 wx → wx.cell? ⟨w.heap.size, 2, none⟩ = some (.int .u64 c.p.b) := fun wx h => (HC2.out.keep h).c2
  have j3 : ∀ wx, Below w2.heap.size w2 wx → wx.cell? ⟨w.heap.size, 3, none⟩ = some (.bool c.c.h) := fun wx h => (HC2.out.keep h).c3
  have j4 : ∀ wx, Below w2.heap.size w2 wx → wx.cell? ⟨w.heap.size, 4, none⟩ = some (.int .u64 c.c.b) := fun wx h => (HC2.out.keep h).c4
  have j5 : ∀ wx, Below w2.heap.size w2 wx → wx.cell? ⟨w.heap.size, 5, none⟩ = some (.int .i64 c.n) := fun wx h => (HC2.out.keep h).c5
  refine wp_region_noPanic ?_
  refine wp_region_held_drew (S := fun wx => Below w2.heap.size w2 wx) (by kernel_rfl) ?_ (fun hHeld => ?_)
  ·exact (Below.refl _ _).drew
  refine tkS 0 33 rfl hHeld ?_
  refine tkS 1 34 rfl hHeld ?_
  refine tkS 2 35 rfl hHeld ?_
  refine tkS 3 36 rfl hHeld ?_
  refine tkS 5 38 rfl hHeld ?_
  refine tkS 6 39 rfl hHeld ?_
  refine tkS 7 40 rfl hHeld ?_
  refine rdH 4 37 rfl (fun K hK => ?_)
  go_simp
  have hN : Cv ((w2.alloc (Obj.cells #[.int .u64 c.k, .bool c.p.h, .int .u64 c.p.b, .bool c.c.h, .int .u64 c.c.b, .int .i64 c.n] 63)).drew) (.slice (some ⟨w2.heap.size, 0, none⟩) 1 1) [c] := (cv_one w2 c).below (below_drew _)
  have hSB : Below w2.heap.size w2 ((w2.alloc (Obj.cells #[.int .u64 c.k, .bool c.p.h, .int .u64 c.p.b, .bool c.c.h, .int .u64 c.c.b, .int .i64 c.n] 63)).drew) := (below_alloc _ _).drew
  clear hHeld
  generalize (w2.alloc (Obj.cells #[.int .u64 c.k, .bool c.p.h, .int .u64 c.p.b, .bool c.c.h, .int .u64 c.c.b, .int .i64 c.n] 63)).drew = wB at hN hSB ⊢
  refine hK.out _ _ ?_ (fun hHeld => ?_)
  ·exact hSB
  clear hK K
  try simp only [Act.put, zA, zB, zC]
  refine rdH 8 41 rfl (fun K hK => ?_)
  go_simp
  have hP := pc_three 46 (HT1 wB) hN (HT1 wB)
  have hSC : Below w2.heap.size w2 (wB.alloc (Obj.cells #[.slice (some p) 0 cap, .slice (some ⟨w2.heap.size, 0, none⟩) 1 1, .slice (some p) 0 cap] 46)) := hHeld.alloc hHeld.size _
  clear hHeld
  generalize wB.alloc (Obj.cells #[.slice (some p) 0 cap, .slice (some ⟨w2.heap.size, 0, none⟩) 1 1, .slice (some p) 0 cap] 46) = wC at hP hSC ⊢
  refine hK.out _ _ ?_ (fun hHeld => ?_)
  ·exact hSC
  clear hK K
  try simp only [Act.put, zA, zB, zC]
  refine rdH 9 42 rfl (fun K hK => ?_)
  go_simp
  refine (joined_walk hP (by simp) HSZ.out).mono ?_
  rintro e w9 ⟨v9, rfl, ho9, hB9⟩
  have hS9 := below_trans hHeld hB9
  have hBC := hHeld
  clear hB9 hHeld
  go_simp
  refine hK.out _ _ ?_ (fun hHeld => ?_)
  ·exact hS9
  clear hK K
  try simp only [Act.put, zA, zB, zC]
  refine tkS 10 4 rfl hHeld ?_
  refine tkS 11 5 rfl hHeld ?_
  refine wpAnyH_done (by kernel_rfl) ?_ _
  refine NoPanic.normal ?_
  go_wp2_with fail
  go_ret2
  exact got_ok rfl (by rw [flat_3] at ho9; exact ho9) (by have h1 := HB2.out.size; have h2 := hBC.size; omega) (below_trans HB2.out hHeld)
theorem put_walk11 {w : World} {v : Value} {l : List Cl} (h : Cv w v l) (c : Cl) (hsz : (l.length + 1) * 48 ≤ 140737488355328) :
  Calls Tryz.prog 84 #[v, .agg #[.int .u64 c.k, .bool c.p.h, .int .u64 c.p.b, .bool c.c.h, .int .u64 c.c.b, .int .i64 c.n]] w (CellsGot (putR l c) w) := by
 obtain ⟨ao, cap, rfl⟩ := h.form
 cases ho : ordB l
 ·exact put_bad l c ao cap w h ho
 ·cases hk : isK l (fndF l c.k) c.k
  ·by_cases h16 : 16 ≤ l.length
   ·exact put_full l c ao cap w h ho hk h16
   ·by_cases hp : 0 < l.length
    ·exact put_new l c ao cap w h ho hk (by omega) hp
    ·obtain rfl : l = [] := List.eq_nil_of_length_eq_zero (by omega)
     have e : putR [] c = ([c], 0) := rfl
     rw [e]
     obtain ⟨ao', cap', e1, _, h2, h3, _⟩ := h
     cases e1
     cases ao with
     | none => obtain rfl := h3 rfl; exact put_nilB c w
     | some p => exact put_some c p cap w h2
  ·exact put_there l c ao cap w h ho hk hsz
end
section
open Go.RowKit
/-! The mathematics. -/
def pgc (Ls : List (List Cl)) (i : Nat) : List Cl := Ls.getD i []
def shG (p : Nat → Bool) : Nat → Nat → Option Nat
 | _, 0 => none
 | i, n + 1 => if p i = true then some i else shG p (i + 1) n
theorem shG_yes {p : Nat → Bool} {i : Nat} {o : Option Nat} (hi : i < 6) (h : o = shG p i (6 - i)) (hp : p i = true) : o = some i := by
 rw [h, show 6 - i = (6 - (i + 1)) + 1 by omega, shG, if_pos hp]
theorem shG_no {p : Nat → Bool} {i : Nat} {o : Option Nat} (hi : i < 6) (h : o = shG p i (6 - i)) (hp : p i = false) : o = shG p (i + 1) (6 - (i + 1)) := by
 rw [h, show 6 - i = (6 - (i + 1)) + 1 by omega, shG, if_neg (by simp [hp])]
theorem shG_lt {p : Nat → Bool} {a : Nat} : ∀ (n i : Nat), shG p i n = some a → i ≤ a ∧ a < i + n ∧ p a = true := by
 intro n
 induction n with
 | zero => intro i h; simp [shG] at h
 | succ n ih =>
  intro i h
  unfold shG at h
  split at h
  ·rename_i hp; cases h; exact ⟨Nat.le_refl _, by omega, hp⟩
  ·obtain ⟨h1, h2, h3⟩ := ih (i + 1) h; exact ⟨by omega, by omega, h3⟩
theorem shG_none {p : Nat → Bool} : ∀ (n i : Nat), shG p i n = none → ∀ a, i ≤ a → a < i + n → p a = false := by
 intro n
 induction n with
 | zero => intro i h a h1 h2; omega
 | succ n ih =>
  intro i h a h1 h2
  unfold shG at h
  split at h
  ·cases h
  ·rename_i hp
   by_cases e : a = i
   ·subst e; simpa using hp
   ·exact ih (i + 1) h a (by omega) (by omega)
def shAt (Ls : List (List Cl)) (k : Nat) : Option Nat := shG (fun i => findB (pgc Ls i) k) 0 6
def shRoom (Ls : List (List Cl)) : Option Nat := shG (fun i => decide ((pgc Ls i).length < 16)) 0 6
def cellAt (Ls : List (List Cl)) (i k : Nat) : Cl := (pgc Ls i).getD (findI (pgc Ls i) k) zeroC
def shRes (Ls : List (List Cl)) (k : Nat) (m : Int) : Vl := match shAt Ls k with
 | none => noV
 | some i => resC (cellAt Ls i k) m
theorem is_at {l : List Cl} {i k : Nat} (h : isK l i k = true) : ∃ hi : i < l.length, l[i].k = k := by
 unfold isK at h
 split at h
 ·cases h
 ·rename_i c hc
  obtain ⟨hi, e⟩ := List.getElem?_eq_some_iff.1 hc
  exact ⟨hi, by rw [e]; simpa using h⟩
theorem find_at {l : List Cl} {k : Nat} (h : findB l k = true) : ∃ hi : findI l k < l.length, l[findI l k].k = k := by
 simp only [findB, Bool.and_eq_true] at h
 obtain ⟨hi, e⟩ := is_at h.2
 have e2 : findI l k = fndF l k := if_pos h.1
 exact ⟨by rw [e2]; exact hi, by simp only [e2]; exact e⟩
/-! A shelf in memory. -/
theorem Cv.set {w : World} {v : Value} {l : List Cl} (h : Cv w v l) {p : Addr} {u : Value} (hp : w.cell? p = some u) (hu : ∀ c : Cl, u ∉ clF c) (u' : Value) : Cv (w.setCell p u') v l := by
 obtain ⟨ao, cap, e, h1, h2, h3, h4⟩ := h
 refine ⟨ao, cap, e, h1, h2, h3, fun i hi => ?_⟩
 obtain ⟨b, off, e1, e2⟩ := h4 i hi
 refine ⟨b, off, e1, fun j hj => ?_⟩
 have h5 := e2 j hj
 have h6 : (clF l[i])[j]? = some ((clF l[i])[j]'(by rw [clF_len]; exact hj)) := List.getElem?_eq_getElem _
 rw [h6] at h5 ⊢
 rw [World.cell?_setCell_other _ _ _ _ (by rintro rfl; rw [hp] at h5; cases h5; exact hu l[i] (List.getElem_mem _))]
 exact h5
theorem Cv.ch {D : Nat → Prop} {w w' : World} {v : Value} {l : List Cl} (h : Cv w v l) (hc : Ch D w w') (hd : ∀ x, v.ownBlock = some x → ¬ D x) : Cv w' v l := by
 obtain ⟨ao, cap, e, h1, h2, h3, h4⟩ := h
 refine ⟨ao, cap, e, h1, h2, h3, fun i hi => ?_⟩
 obtain ⟨b, off, e1, e2⟩ := h4 i hi
 refine ⟨b, off, e1, fun j hj => ?_⟩
 have h5 := e2 j hj
 have h6 : (clF l[i])[j]? = some ((clF l[i])[j]'(by rw [clF_len]; exact hj)) := List.getElem?_eq_getElem _
 rw [h6] at h5 ⊢
 exact hc.cell h5 (hd b (by rw [e, e1]; rfl))
theorem slice_noCl {ao : Option Addr} {n cap : Nat} (c : Cl) : Value.slice ao n cap ∉ clF c := by
 simp [clF]
theorem below_six {B N : Nat} {w w2 : World} (h : Below B w w2) (hN : B ≤ N) (a b c d e f : Value) : Below B w ((((((w2.setCell ⟨N, 0, none⟩ a).setCell ⟨N, 1, none⟩ b).setCell ⟨N, 2, none⟩ c).setCell ⟨N, 3, none⟩ d).setCell ⟨N, 4, none⟩ e).setCell ⟨N, 5, none⟩ f) :=
 (((((h.setCell hN a).setCell hN b).setCell hN c).setCell hN d).setCell hN e).setCell hN f
structure SH (w : World) (Q : Nat) (f : Nat → Value) (Ls : List (List Cl)) : Prop where
 len : Ls.length = 6
 c : ∀ i, i < 6 → w.cell? ⟨Q, i, none⟩ = some (f i)
 z : ∀ j, w.frozen? ⟨Q, j, none⟩ = false
 cv : ∀ i, i < 6 → Cv w (f i) (pgc Ls i)
theorem SH.lt {w : World} {Q : Nat} {f : Nat → Value} {Ls : List (List Cl)} (h : SH w Q f Ls) : Q < w.heap.size := cell_lt (h.c 0 (by omega))
theorem SH.below {w w' : World} {Q : Nat} {f : Nat → Value} {Ls : List (List Cl)} (h : SH w Q f Ls) (hb : Below w.heap.size w w') : SH w' Q f Ls :=
 ⟨h.len, fun i hi => by rw [hb.cell (p := ⟨Q, i, none⟩) h.lt]; exact h.c i hi, fun j => by rw [hb.frozen (p := ⟨Q, j, none⟩) h.lt]; exact h.z j, fun i hi => (h.cv i hi).below hb⟩
theorem SH.form {w : World} {Q : Nat} {f : Nat → Value} {Ls : List (List Cl)} (h : SH w Q f Ls) {i : Nat} (hi : i < 6) : ∃ ao cap, f i = .slice ao (pgc Ls i).length cap := (h.cv i hi).form
theorem pgc_set {Ls : List (List Cl)} {i j : Nat} {l : List Cl} (hj : j < Ls.length) : pgc (Ls.set i l) j = if i = j then l else pgc Ls j := by
 unfold pgc
 rw [List.getD_eq_getElem?_getD, List.getElem?_set, List.getD_eq_getElem?_getD]
 split
 ·rename_i e; subst e; rw [if_pos hj]; rfl
 ·rfl
def upd (f : Nat → Value) (i : Nat) (v : Value) : Nat → Value := fun j => if i = j then v else f j
theorem SH.set {w : World} {Q : Nat} {f : Nat → Value} {Ls : List (List Cl)} (h : SH w Q f Ls) {i : Nat} (hi : i < 6) {v : Value} {l : List Cl} (hv : Cv w v l) : SH (w.setCell ⟨Q, i, none⟩ v) Q (upd f i v) (Ls.set i l) := by
 obtain ⟨ao, cap, e⟩ := h.form hi
 have hn : ∀ c : Cl, f i ∉ clF c := fun c => by rw [e]; exact slice_noCl c
 refine ⟨by rw [List.length_set]; exact h.len, fun j hj => ?_, fun j => by simpa [go_sem] using h.z j, fun j hj => ?_⟩
 ·unfold upd
  by_cases q : i = j
  ·subst q; rw [if_pos rfl]; simp [go_sem, h.c i hi]
  ·rw [if_neg q, World.cell?_setCell_other _ _ _ _ (by rintro ⟨⟩; exact q rfl)]; exact h.c j hj
 ·rw [pgc_set (by rw [h.len]; exact hj)]
  unfold upd
  by_cases q : i = j
  ·rw [if_pos q, if_pos q]; exact hv.set (h.c i hi) hn v
  ·rw [if_neg q, if_neg q]; exact (h.cv j hj).set (h.c i hi) hn v
section

variable {w : World} {Q : Nat} {f : Nat → Value} {Ls : List (List Cl)}

theorem room_walk (h : SH w Q f Ls) : Calls Tryz.prog 82 #[.pointer (some ⟨Q, 0, none⟩)] w fun e w' => e = .returned (.tuple #[.int .i64 ((shRoom Ls).getD 0 : Nat), .bool (shRoom Ls).isSome]) ∧ w' = w := by
 have H : Hid (SH w Q f Ls) := h
 obtain ⟨o, ho⟩ : ∃ o, o = shRoom Ls := ⟨_, rfl⟩
 rw [← ho]
 have HS : Hid (o = shG (fun i => decide ((pgc Ls i).length < 16)) 0 (6 - 0)) := ho
 clear h ho
 go_in
 go_wp2_with fail
 go_loop [5] (fun iv => ∃ i : Nat, iv = .int .i64 i ∧ i ≤ 6 ∧ o = shG (fun i => decide ((pgc Ls i).length < 16)) i (6 - i)) (fun iv => 6 - (intOf iv).toNat)
 case atStart => exact ⟨0, rfl, by omega, HS.out⟩
 case round =>
  obtain ⟨i, rfl, hi, hs⟩ := hrel
  have HI : Hid (o = shG (fun i => decide ((pgc Ls i).length < 16)) i (6 - i)) := hs
  clear hs
  by_cases hlt : i < 6
  ·have hlti : (i : Int) < 6 := by omega
   obtain ⟨ao, cap, e⟩ := H.out.form hlt
   have m0 := H.out.c i hlt
   rw [e] at m0
   obtain ⟨n, hn⟩ : ∃ n, n = (pgc Ls i).length := ⟨_, rfl⟩
   rw [← hn] at m0
   by_cases hl : n < 16
   ·have HO : Hid (o = some i) := shG_yes hlt HI.out (by rw [← hn]; exact decide_eq_true hl)
    have hli : (n : Int) < 16 := by omega
    clear hl hn e
    go_wp2_with fail
    go_ret2
    exact ⟨by rw [HO.out]; rfl, rfl⟩
   ·have HO : Hid (o = shG (fun i => decide ((pgc Ls i).length < 16)) (i + 1) (6 - (i + 1))) := shG_no hlt HI.out (by rw [← hn]; exact decide_eq_false hl)
    have hli : ¬ (n : Int) < 16 := by omega
    clear hl hn e
    go_wp2_with fail
    go_round
    case rel => exact ⟨i + 1, by go_num, hlt, HO.out⟩
    case measure => simp [intOf]; omega
  ·have hlti : ¬ (i : Int) < 6 := by omega
   obtain rfl : i = 6 := by omega
   have HO : Hid (o = none) := HI.out
   go_wp2_with fail
   go_ret2
   exact ⟨by rw [HO.out]; rfl, rfl⟩
theorem results_tct {fn : Func} {p u x : Tmp} {ty : TypeId} (h : fn.results = #[.tmp u, .cell p ty, .tmp x]) (tmps : Array Value) (P : Program) (w : World) :
  (results fn tmps).run P w =
   ((asAddr (tmps.getD p undef)).run P w).andThen fun a w₁ => ((loadVar ty a).run P w₁).andThen fun v w₂ => .ok (.tuple #[tmps.getD u undef, v, tmps.getD x undef]) w₂ := by
 simp only [results, h]
 simp [Sem.run_bind, Result.andThen]
def FindGot (Ls : List (List Cl)) (k : Nat) (w : World) (e : Ending) (w' : World) : Prop :=
 ∃ (i : Nat) (c : Cl) (t : Bool), e = .returned (.tuple #[.int .i64 i, .agg #[.int .u64 c.k, .bool c.p.h, .int .u64 c.p.b, .bool c.c.h, .int .u64 c.c.b, .int .i64 c.n], .bool t]) ∧ ((shAt Ls k = some i ∧ i < 6 ∧ t = true ∧ c = cellAt Ls i k ∧ c ∈ pgc Ls i ∧ c.k = k) ∨ (shAt Ls k = none ∧ i = 0 ∧ t = false ∧ c = zeroC)) ∧ Below w.heap.size w w'
theorem find_walkS (h : SH w Q f Ls) (k : Nat) : Calls Tryz.prog 81 #[.pointer (some ⟨Q, 0, none⟩), .int .u64 k] w (FindGot Ls k w) := by
 have H0 : Hid (SH (w.alloc (Obj.cells #[.int .u64 zeroC.k, .bool zeroC.p.h, .int .u64 zeroC.p.b, .bool zeroC.c.h, .int .u64 zeroC.c.b, .int .i64 zeroC.n] 63)) Q f Ls) := h.below (below_alloc _ _)
 have HZ0 : Hid _ := cb_new w zeroC
 have HB0 : Hid _ := below_alloc w (Obj.cells #[.int .u64 zeroC.k, .bool zeroC.p.h, .int .u64 zeroC.p.b, .bool zeroC.c.h, .int .u64 zeroC.c.b, .int .i64 zeroC.n] 63)
 have HQ : Hid (Q < w.heap.size) := h.lt
 have HW : Hid (SH w Q f Ls) := h
 obtain ⟨o, ho⟩ : ∃ o, o = shAt Ls k := ⟨_, rfl⟩
 have HS : Hid (o = shG (fun i => findB (pgc Ls i) k) 0 (6 - 0)) := ho
 have HOO : Hid (shAt Ls k = o) := ho.symm
 clear h ho
 go_in
 go_upto_region 1 with fail
 obtain ⟨N, hN⟩ : ∃ N, N = w.heap.size := ⟨_, rfl⟩
 rw [← hN] at HZ0 HQ ⊢
 have HN : Hid (N = w.heap.size) := hN
 clear hN
 change Code.wp _ _ _ _ (w.alloc (Obj.cells #[.int .u64 zeroC.k, .bool zeroC.p.h, .int .u64 zeroC.p.b, .bool zeroC.c.h, .int .u64 zeroC.c.b, .int .i64 zeroC.n] 63))
 generalize w.alloc (Obj.cells #[.int .u64 zeroC.k, .bool zeroC.p.h, .int .u64 zeroC.p.b, .bool zeroC.c.h, .int .u64 zeroC.c.b, .int .i64 zeroC.n] 63) = w0 at H0 HZ0 HB0 ⊢
 go_wp2_with fail
 go_loopw [10] (fun iv wr => ∃ i : Nat, iv = .int .i64 i ∧ i ≤ 6 ∧ o = shG (fun i => findB (pgc Ls i) k) i (6 - i) ∧ Below w0.heap.size w0 wr) (fun iv _ => 6 - (intOf iv).toNat)
 case atStart => exact ⟨0, rfl, by omega, HS.out, Below.refl _ _⟩
 case round =>
  obtain ⟨i, rfl, hi, hs, hb⟩ := hrel
  have HI : Hid (o = shG (fun i => findB (pgc Ls i) k) i (6 - i)) := hs
  have HB := hidH hb
  have HSH : Hid (SH wr Q f Ls) := H0.out.below hb
  clear hs hb
  by_cases hlt : i < 6
  ·have hlti : (i : Int) < 6 := by omega
   obtain ⟨ao, cap, e⟩ := HSH.out.form hlt
   have m0 := HSH.out.c i hlt
   rw [e] at m0
   have HFI : Hid (f i = .slice ao (pgc Ls i).length cap) := e
   have HCV : Hid (Cv wr (.slice ao (pgc Ls i).length cap) (pgc Ls i)) := by have := HSH.out.cv i hlt; rw [e] at this; exact this
   obtain ⟨l, hl⟩ : ∃ l, l = pgc Ls i := ⟨_, rfl⟩
   rw [← hl] at m0 HCV
   have HL : Hid (l = pgc Ls i) := hl
   obtain ⟨n, hn⟩ : ∃ n, n = l.length := ⟨_, rfl⟩
   rw [← hn] at m0 HCV
   have HLN : Hid (n = l.length) := hn
   clear e hl hn
   obtain ⟨t, ht⟩ : ∃ t, t = findB l k := ⟨_, rfl⟩
   obtain ⟨a, ha⟩ : ∃ a, a = findI l k := ⟨_, rfl⟩
   have HT : Hid (t = findB l k) := ht
   have HA : Hid (a = findI l k) := ha
   clear ht ha
   go_wp2_with fail
   refine (find_walkB HCV.out k).mono ?_
   rw [← HT.out, ← HA.out]
   rintro e w2 ⟨rfl, hB2⟩
   have HB2 := hidH (below_trans HB.out hB2)
   have HCV2 := hidH (HCV.out.below hB2)
   have m1 : w2.cell? ⟨Q, i, none⟩ = some (.slice ao n cap) := by rw [hB2.cell (p := ⟨Q, i, none⟩) (cell_lt m0)]; exact m0
   clear hB2 m0
   cases t
   ·have HO : Hid (o = shG (fun i => findB (pgc Ls i) k) (i + 1) (6 - (i + 1))) := shG_no hlt HI.out (by rw [← HL.out]; exact HT.out.symm)
    clear m1
    go_wp2_with fail
    go_roundw
    case rel => exact ⟨i + 1, by go_num, hlt, HO.out, HB2.out⟩
    case measure => simp [intOf]; omega
   ·have HO : Hid (o = some i) := shG_yes hlt HI.out (by rw [← HL.out]; exact HT.out.symm)
    obtain ⟨hal, hak⟩ := find_at HT.out.symm
    obtain ⟨c, hc⟩ : ∃ c, c = l[findI l k] := ⟨_, rfl⟩
    have HC : Hid (c = cellAt Ls i k ∧ c ∈ pgc Ls i ∧ c.k = k) := ⟨by unfold cellAt; rw [← HL.out, hc]; simp [hal], by rw [← HL.out, hc]; exact List.getElem_mem _, by rw [hc]; exact hak⟩
    have han : a < n := by have := HA.out; have := HLN.out; omega
    have hani : (a : Int) < (n : Int) := by omega
    have hanb : decide (a < n) = true := decide_eq_true han
    obtain ⟨b, off, cp, e, _, _, _, hca⟩ : ∃ b off cp, Value.slice ao n cap = .slice (some ⟨b, off, none⟩) l.length cp ∧ 0 < l.length ∧ l.length ≤ cp ∧ cp ≤ maxLen ∧ ∀ i, (hi : i < l.length) → CA w2 b (off + i * 6) l[i] := by
     rcases cv_cases HCV2.out with ⟨h0, _⟩ | h
     ·rw [h0] at hal; simp at hal
     ·exact h
    simp only [Value.slice.injEq] at e
    have e1 := e.1
    subst e1
    have HCA : Hid (CA w2 b (off + a * 6) c) := by have := hca (findI l k) hal; rw [← hc, ← HA.out] at this; exact this
    have hnm : (n : Int) ≤ 9223372036854775807 := by have h1 := HCV2.out.len_le; have h2 := HLN.out; unfold maxLen at h1; omega
    have HZ2 : Hid (CB w2 N zeroC) := HZ0.out.keep HB2.out
    have HNB : Hid (b ≠ N) := by
     have h1 := HW.out.cv i hlt
     rw [HFI.out] at h1
     rcases cv_cases h1 with ⟨h0, _⟩ | ⟨b', off', cp', e', hp', _, _, hca'⟩
     ·rw [← HL.out] at h0; rw [h0] at hal; simp at hal
     ·simp only [Value.slice.injEq, Option.some.injEq, Addr.mk.injEq] at e'
      have h2 := (hca' 0 hp').lt
      have h3 := HN.out
      show _ ≠ _
      omega
    obtain ⟨y0, y1, y2, y3, y4, y5⟩ := HCA.out
    have y0' : ∀ q, (w2.drewN q).cell? ⟨b, off + a * 6, none⟩ = some (.int .u64 c.k) := fun _ => y0
    have y1' : ∀ q, (w2.drewN q).cell? ⟨b, off + a * 6 + 1, none⟩ = some (.bool c.p.h) := fun _ => y1
    have y2' : ∀ q, (w2.drewN q).cell? ⟨b, off + a * 6 + 2, none⟩ = some (.int .u64 c.p.b) := fun _ => y2
    have y3' : ∀ q, (w2.drewN q).cell? ⟨b, off + a * 6 + 3, none⟩ = some (.bool c.c.h) := fun _ => y3
    have y4' : ∀ q, (w2.drewN q).cell? ⟨b, off + a * 6 + 4, none⟩ = some (.int .u64 c.c.b) := fun _ => y4
    have y5' : ∀ q, (w2.drewN q).cell? ⟨b, off + a * 6 + 5, none⟩ = some (.int .i64 c.n) := fun _ => y5
    have m1' : ∀ q, (w2.drewN q).cell? ⟨Q, i, none⟩ = some (.slice (some ⟨b, off, none⟩) n cap) := fun _ => m1
    obtain ⟨z0, z1, z2, z3, z4, z5, zz⟩ := HZ2.out
    have f0 := zz 0
    have f1 := zz 1
    have f2 := zz 2
    have f3 := zz 3
    have f4 := zz 4
    have f5 := zz 5
    have HB9 := hidH (below_trans HB0.out HB2.out)
    have HI9 : Hid (i < 6) := hlt
    clear hca hal hak hc e zz hlt
    go_wp2_with fail
    go_region_with (fail)
    all_goals go_wp2_with fail
    all_goals (try simp only [Exit.inBlock, Exit.then])
    all_goals refine bodyPost_ret (v := .tuple #[.int .i64 i, .agg #[.int .u64 c.k, .bool c.p.h, .int .u64 c.p.b, .bool c.c.h, .int .u64 c.c.b, .int .i64 c.n], .bool true]) (by rw [results_tct rfl]; go_simp) rfl ?_
    all_goals exact ⟨i, c, true, rfl, .inl ⟨HOO.out.trans HO.out, HI9.out, rfl, HC.out⟩, (below_six HB9.out (by rw [HN.out]; exact Nat.le_refl _) _ _ _ _ _ _).drew⟩
  ·have hlti : ¬ (i : Int) < 6 := by omega
   obtain rfl : i = 6 := by omega
   have HO : Hid (o = none) := HI.out
   have HZ2 : Hid (CB wr N zeroC) := HZ0.out.keep HB.out
   obtain ⟨z0, z1, z2, z3, z4, z5, zz⟩ := HZ2.out
   have y0 := zz 0
   have y1 := zz 1
   have y2 := zz 2
   have y3 := zz 3
   have y4 := zz 4
   have y5 := zz 5
   clear zz
   go_wp2_with fail
   refine bodyPost_ret (v := .tuple #[.int .i64 0, .agg #[.int .u64 0, .bool false, .int .u64 0, .bool false, .int .u64 0, .int .i64 0], .bool false]) (by rw [results_tct rfl]; go_simp) rfl ?_
   exact ⟨0, zeroC, false, rfl, .inr ⟨HOO.out.trans HO.out, rfl, rfl, rfl⟩, below_six (below_trans HB0.out HB.out) (by rw [HN.out]; exact Nat.le_refl _) _ _ _ _ _ _⟩
theorem sresolve_walk (h : SH w Q f Ls) (k : Nat) (m : Int) : Calls Tryz.prog 50 #[.pointer (some ⟨Q, 0, none⟩), .int .u64 k, .int .i64 m] w fun e w' => e = .returned (.agg #[.bool (shRes Ls k m).h, .int .u64 (shRes Ls k m).b]) ∧ Below w.heap.size w w' := by
 have H0 : Hid (SH (w.alloc (Obj.cells #[.bool false, .int .u64 0] 58)) Q f Ls) := h.below (below_alloc _ _)
 have HB0 : Hid _ := below_alloc w (Obj.cells #[.bool false, .int .u64 0] 58)
 have z0 : (w.alloc (Obj.cells #[.bool false, .int .u64 0] 58)).cell? ⟨w.heap.size, 0, none⟩ = some (.bool false) := by simp [go_sem]
 have z1 : (w.alloc (Obj.cells #[.bool false, .int .u64 0] 58)).cell? ⟨w.heap.size, 1, none⟩ = some (.int .u64 0) := by simp [go_sem]
 have zz : ∀ j, (w.alloc (Obj.cells #[.bool false, .int .u64 0] 58)).frozen? ⟨w.heap.size, j, none⟩ = false := by intro j; simp [go_sem]
 have HZ0 : Hid _ := z0
 have HZ1 : Hid _ := z1
 have HZZ : Hid _ := zz
 clear h z0 z1 zz
 go_in
 go_upto_region 1 with fail
 generalize hN : w.heap.size = N at HZ0 HZ1 HZZ ⊢
 have HN : Hid (w.heap.size = N) := hN
 rw [hN] at HB0
 clear hN
 generalize w.alloc (Obj.cells #[.bool false, .int .u64 0] 58) = w0 at H0 HB0 HZ0 HZ1 HZZ ⊢
 go_wp2_with fail
 refine (find_walkS H0.out k).mono ?_
 rintro e w1 ⟨i, c, t, rfl, hfind, hB1⟩
 have HF : Hid ((shAt Ls k = some i ∧ i < 6 ∧ t = true ∧ c = cellAt Ls i k ∧ c ∈ pgc Ls i ∧ c.k = k) ∨ (shAt Ls k = none ∧ i = 0 ∧ t = false ∧ c = zeroC)) := hfind
 have HNW : Hid (N < w0.heap.size) := cell_lt HZ0.out
 have h0 : w1.cell? ⟨N, 0, none⟩ = some (.bool false) := by rw [hB1.cell (p := ⟨N, 0, none⟩) HNW.out]; exact HZ0.out
 have h1 : w1.cell? ⟨N, 1, none⟩ = some (.int .u64 0) := by rw [hB1.cell (p := ⟨N, 1, none⟩) HNW.out]; exact HZ1.out
 have hz : ∀ j, w1.frozen? ⟨N, j, none⟩ = false := fun j => by rw [hB1.frozen (p := ⟨N, j, none⟩) HNW.out]; exact HZZ.out j
 have HB1 : Hid (Below N w w1) := HB0.out.trans (hB1.mono (Nat.le_of_lt HNW.out))
 have hl1 : N < w1.heap.size := cell_lt h0
 clear hfind hB1 H0 HB0 HZ0 HZ1 HZZ
 go_upto_region 2 with fail
 have HC2 : Hid _ := cb_new w1 c
 have HB2 : Hid (Below N w (w1.alloc (Obj.cells #[.int .u64 c.k, .bool c.p.h, .int .u64 c.p.b, .bool c.c.h, .int .u64 c.c.b, .int .i64 c.n] 63))) := HB1.out.trans ((below_alloc _ _).mono (Nat.le_of_lt hl1))
 have HM0 : Hid ((w1.alloc (Obj.cells #[.int .u64 c.k, .bool c.p.h, .int .u64 c.p.b, .bool c.c.h, .int .u64 c.c.b, .int .i64 c.n] 63)).cell? ⟨N, 0, none⟩ = some (.bool false)) := by show _ = _; rw [(below_alloc w1 _).cell (p := ⟨N, 0, none⟩) hl1]; exact h0
 have HM1 : Hid ((w1.alloc (Obj.cells #[.int .u64 c.k, .bool c.p.h, .int .u64 c.p.b, .bool c.c.h, .int .u64 c.c.b, .int .i64 c.n] 63)).cell? ⟨N, 1, none⟩ = some (.int .u64 0)) := by show _ = _; rw [(below_alloc w1 _).cell (p := ⟨N, 1, none⟩) hl1]; exact h1
 have HMZ : Hid (∀ j, (w1.alloc (Obj.cells #[.int .u64 c.k, .bool c.p.h, .int .u64 c.p.b, .bool c.c.h, .int .u64 c.c.b, .int .i64 c.n] 63)).frozen? ⟨N, j, none⟩ = false) := fun j => by rw [(below_alloc w1 _).frozen (p := ⟨N, j, none⟩) hl1]; exact hz j
 have HL2 : Hid (N < (w1.alloc (Obj.cells #[.int .u64 c.k, .bool c.p.h, .int .u64 c.p.b, .bool c.c.h, .int .u64 c.c.b, .int .i64 c.n] 63)).heap.size) := cell_lt HM0.out
 clear h0 h1 hz HB1 HNW hl1
 generalize hM : w1.heap.size = M at HC2 ⊢
 clear hM
 generalize w1.alloc (Obj.cells #[.int .u64 c.k, .bool c.p.h, .int .u64 c.p.b, .bool c.c.h, .int .u64 c.c.b, .int .i64 c.n] 63) = w2 at HC2 HB2 HM0 HM1 HMZ HL2 ⊢
 rcases HF.out with ⟨h1, h2, rfl, h4, h5, h6⟩ | ⟨h1, rfl, rfl, rfl⟩
 ·have HR : Hid (shRes Ls k m = resC c m) := by show _ = _; unfold shRes; rw [h1, h4]
  obtain ⟨c0, c1, c2, c3, c4, c5, zz⟩ := HC2.out
  clear h1 h2 h4 h5 h6 zz
  go_wp2_with fail
  refine (resolve_walk c m _).mono ?_
  rintro e w3 ⟨rfl, hB3⟩
  have h0 : w3.cell? ⟨N, 0, none⟩ = some (.bool false) := by rw [hB3.cell (p := ⟨N, 0, none⟩) HL2.out]; exact HM0.out
  have h1 : w3.cell? ⟨N, 1, none⟩ = some (.int .u64 0) := by rw [hB3.cell (p := ⟨N, 1, none⟩) HL2.out]; exact HM1.out
  have hz0 : w3.frozen? ⟨N, 0, none⟩ = false := by rw [hB3.frozen (p := ⟨N, 0, none⟩) HL2.out]; exact HMZ.out 0
  have hz1 : w3.frozen? ⟨N, 1, none⟩ = false := by rw [hB3.frozen (p := ⟨N, 1, none⟩) HL2.out]; exact HMZ.out 1
  have HB3 : Hid (Below N w w3) := HB2.out.trans (hB3.mono (Nat.le_of_lt HL2.out))
  generalize resC c m = r at HR ⊢
  clear hB3 c0 c1 c2 c3 c4 c5
  go_wp2_with fail
  refine bodyPost_ret (v := .agg #[.bool r.h, .int .u64 r.b]) (by simp [results, Tryz.results50, go_sem, h0, h1]) rfl ?_
  rw [HR.out, HN.out]
  exact ⟨rfl, (HB3.out.setCell (Nat.le_refl _) _).setCell (Nat.le_refl _) _⟩
 ·have HR : Hid (shRes Ls k m = noV) := by show _ = _; unfold shRes; rw [h1]
  have h0 := HM0.out
  have h1 := HM1.out
  have hz0 := HMZ.out 0
  have hz1 := HMZ.out 1
  go_wp2_with fail
  refine bodyPost_ret (v := .agg #[.bool false, .int .u64 0]) (by simp [results, Tryz.results50, go_sem, h0, h1]) rfl ?_
  rw [HR.out, HN.out]
  exact ⟨rfl, (HB2.out.setCell (Nat.le_refl _) _).setCell (Nat.le_refl _) _⟩
end
end
end Go.Proofs.YtofkhgokfdpdiabGreat
