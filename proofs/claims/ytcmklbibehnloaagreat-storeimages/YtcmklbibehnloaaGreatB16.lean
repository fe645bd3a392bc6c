/- Contract of bucket's Put at no cells, and of Put. -/
import Derived.Test.YtcmklbibehnloaaGreatB15
set_option maxRecDepth 100000
set_option maxHeartbeats 16000000
namespace Go.Proofs.YtcmklbibehnloaaGreat
open Go.RowKit
def putR (l : List Cl) (c : Cl) : List Cl × Nat :=
 if ordB l = false then ([], 7) else if isK l (fndF l c.k) c.k = true then (l.take (fndF l c.k) ++ ([c] ++ l.drop (fndF l c.k + 1)), 0) else
 if 16 ≤ l.length then ([], 92) else (l.take (fndF l c.k) ++ ([c] ++ l.drop (fndF l c.k)), 0)
def CellsGot (r : List Cl × Nat) (w : World) (e : Ending) (w' : World) : Prop :=
 ∃ v, e = .returned (.tuple #[v, .int .i64 (r.2 : Nat)]) ∧ w'.ownsRow w.heap.size 114 6 v r.1.length (flatC r.1) ∧ Below w.heap.size w w'
theorem got_bad {r : List Cl × Nat} {w w' : World} {e : Nat} {x : Int} (h : r = ([], e)) (hx : x = e) (hb : Below w.heap.size w w') : CellsGot r w (.returned (.tuple #[.slice none 0 0, .int .i64 x])) w' := by
 subst hx h;exact ⟨_, rfl, ⟨rfl, .inl ⟨rfl, rfl⟩⟩, hb⟩
theorem got_ok {r : List Cl × Nat} {l : List Cl} {v : Value} {w w1 w' : World} (h : r = (l, 0)) (ho : w'.ownsRow w1.heap.size 114 6 v l.length (flatC l)) (h1 : w.heap.size ≤ w1.heap.size) (hb : Below w.heap.size w w') : CellsGot r w (.returned (.tuple #[v, .int .i64 0])) w' := by
 subst h;exact ⟨v, rfl, own_baseC ho h1, hb⟩
theorem isK_lt {l : List Cl} {i k : Nat} (h : isK l i k = true) : i < l.length := by
 rcases Nat.lt_or_ge i l.length with q | q
 ·exact q
 ·simp [isK, List.getElem?_eq_none q] at h
theorem flat_3 (a b c : List Cl) : [a, b, c].flatten = a ++ (b ++ c) := by simp
theorem findI_ord {l : List Cl} {k : Nat} (h : ordB l = true) : findI l k = fndF l k := by simp [findI, h]
theorem findB_ord {l : List Cl} {k : Nat} (h : ordB l = true) : findB l k = isK l (fndF l k) k := by simp [findB, h]
theorem put_bad (l : List Cl) (c : Cl) (ao : Option Addr) (cap : Nat) (w : World) (hv : Cv w (.slice ao l.length cap) l) (ho : ordB l = false) :
  Calls Tryz.prog 143 #[.slice ao l.length cap, .agg #[.int .u64 c.k, .bool c.p.h, .int .u64 c.p.b, .bool c.c.h, .int .u64 c.c.b, .int .i64 c.n]] w (CellsGot (putR l c) w) := by
 have HV := hidH hv;have HCB : Hid (CB (w.alloc (Obj.cells #[.int .u64 c.k, .bool c.p.h, .int .u64 c.p.b, .bool c.c.h, .int .u64 c.c.b, .int .i64 c.n] 114)) w.heap.size c) := cb_new w c;have HB0 : Hid (Below w.heap.size w (w.alloc (Obj.cells #[.int .u64 c.k, .bool c.p.h, .int .u64 c.p.b, .bool c.c.h, .int .u64 c.c.b, .int .i64 c.n] 114))) := below_alloc _ _;have HR : Hid (putR l c = ([], 7)) := by show _ = _; unfold putR; rw [if_pos ho]
 clear hv;go_in;go_wp2_with fail;refine (inOrder_walk (HV.out.below HB0.out)).mono ?_;rw [ho];rintro e w1 ⟨rfl, hB1⟩;go_wp2_with fail;go_ret2;exact got_bad HR.out rfl (below_trans HB0.out hB1)
theorem put_there (l : List Cl) (c : Cl) (ao : Option Addr) (cap : Nat) (w : World) (hv : Cv w (.slice ao l.length cap) l) (ho : ordB l = true) (hk : isK l (fndF l c.k) c.k = true) (hsz : (l.length + 1) * 48 ≤ 140737488355328) :
  Calls Tryz.prog 143 #[.slice ao l.length cap, .agg #[.int .u64 c.k, .bool c.p.h, .int .u64 c.p.b, .bool c.c.h, .int .u64 c.c.b, .int .i64 c.n]] w (CellsGot (putR l c) w) := by
 have HV := hidH hv;have HCB : Hid (CB (w.alloc (Obj.cells #[.int .u64 c.k, .bool c.p.h, .int .u64 c.p.b, .bool c.c.h, .int .u64 c.c.b, .int .i64 c.n] 114)) w.heap.size c) := cb_new w c;have HB0 : Hid (Below w.heap.size w (w.alloc (Obj.cells #[.int .u64 c.k, .bool c.p.h, .int .u64 c.p.b, .bool c.c.h, .int .u64 c.c.b, .int .i64 c.n] 114))) := below_alloc _ _;have HOB : Hid (ordB l = true) := ho;obtain ⟨A, hA⟩ : ∃ A, A = fndF l c.k := ⟨_, rfl⟩;have hAl : A ≤ l.length := by rw [hA]; exact fnd_le l c.k
 obtain ⟨ao', cap', hvv, hlc, hcm, hnone, _⟩ := hv
 cases hvv
 unfold maxLen at hcm;have hci : (cap : Int) ≤ 9223372036854775807 := by omega
 have hlci : (l.length : Int) ≤ (cap : Int) := by omega
 have hAi : (A : Int) ≤ (l.length : Int) := by omega
 have hAc : (A : Int) ≤ (cap : Int) := by omega
 have HA : Hid (A = fndF l c.k) := hA;have HIS : Hid (isK l A c.k = true) := by show _ = _; rw [hA]; exact hk
 have hlt : A < l.length := isK_lt HIS.out;have HR : Hid (putR l c = (l.take A ++ ([c] ++ l.drop (A + 1)), 0)) := by show _ = _; unfold putR; rw [if_neg (by simp [ho]), if_pos hk, hA]
 have HSZ : Hid ([l.take A, [c], l.drop (A + 1)].flatten.length * 48 ≤ 140737488355328) := by show _ ≤ _; rw [flat_3]; simp only [List.length_append, List.length_take, List.length_drop, List.length_singleton]; omega
 have hltc : (A : Int) < (l.length : Int) := by omega
 have hlt1 : (A : Int) + 1 ≤ (l.length : Int) := by omega
 have hlt2 : (A : Int) + 1 ≤ (cap : Int) := by omega
 have HLT : Hid (A + 1 ≤ l.length) := hlt;have hwr : IntKind.i64.wrap ((A : Int) + 1) = (A : Int) + 1 := by rw [IntKind.wrap_i64]; omega
 have h0A : (0 : Int) ≤ (A : Int) + 1 := by omega
 have htn : ((A : Int) + 1).toNat = A + 1 := by omega
 have hA1 : (A : Int) ≤ (A : Int) + 1 := by omega
 obtain ⟨b, off, rfl⟩ : ∃ b off, ao = some ⟨b, off, none⟩ := by
  rcases cv_cases HV.out with ⟨h0, _⟩ | ⟨b, off, cap', e, _⟩
  ·rw [h0] at hlt; simp at hlt
  ·cases e; exact ⟨b, off, rfl⟩
 have HLC : Hid (l.length ≤ cap) := hlc;clear hA hk hsz hAl hlc hcm hnone hlt ho;go_in;go_wp2_with fail;refine (inOrder_walk (HV.out.below HB0.out)).mono ?_;rw [HOB.out];rintro e w1 ⟨rfl, hB1⟩;have HB1 := hidH (below_trans HB0.out hB1);have HC1 : Hid (CB w1 w.heap.size c) := HCB.out.keep hB1;have k0 := HC1.out.c0;clear hB1;go_wp2_with fail;refine (find_walkB (HV.out.below HB1.out) c.k).mono ?_;rw [findI_ord HOB.out, findB_ord HOB.out, ← HA.out, HIS.out];rintro e w2 ⟨rfl, hB2⟩;have HB2 := hidH (below_trans HB1.out hB2);have HC2 : Hid (CB w2 w.heap.size c) := HC1.out.keep hB2;clear k0;clear hB2;have HT1 : ∀ wx, Below w2.heap.size w2 wx → Cv wx (.slice (some ⟨b, off, none⟩) A cap) (l.take A) := fun wx h => (HV.out.below (below_trans HB2.out h)).upto A (by have := HLT.out; omega);by_cases hce : cap = A + 1
 ·have HLE : Hid (l.length ≤ A + 1) := by have := HLC.out; show _ ≤ _; omega
  subst hce;go_upto_region 5 with fail
  have HT2 : ∀ wx, Below w2.heap.size w2 wx → Cv wx (.slice (some ⟨b, off, none⟩) (l.length - (A + 1)) 0) (l.drop (A + 1)) := fun wx h => by
   rw [show l.length - (A + 1) = 0 from by have := HLE.out; omega]; exact Cv.void HLE.out
  have j0 : ∀ wx, Below w2.heap.size w2 wx → wx.cell? ⟨w.heap.size, 0, none⟩ = some (.int .u64 c.k) := fun wx h => (HC2.out.keep h).c0;have j1 : ∀ wx, Below w2.heap.size w2 wx → wx.cell? ⟨w.heap.size, 1, none⟩ = some (.bool c.p.h) := fun wx h => (HC2.out.keep h).c1;have j2 : ∀ wx, Below w2.heap.size w2 wx → wx.cell? ⟨w.heap.size, 2, none⟩ = some (.int .u64 c.p.b) := fun wx h => (HC2.out.keep h).c2;have j3 : ∀ wx, Below w2.heap.size w2 wx → wx.cell? ⟨w.heap.size, 3, none⟩ = some (.bool c.c.h) := fun wx h => (HC2.out.keep h).c3;have j4 : ∀ wx, Below w2.heap.size w2 wx → wx.cell? ⟨w.heap.size, 4, none⟩ = some (.int .u64 c.c.b) := fun wx h => (HC2.out.keep h).c4;have j5 : ∀ wx, Below w2.heap.size w2 wx → wx.cell? ⟨w.heap.size, 5, none⟩ = some (.int .i64 c.n) := fun wx h => (HC2.out.keep h).c5;refine wp_region_noPanic ?_;refine wp_region_held_drew (S := fun wx => Below w2.heap.size w2 wx) (by kernel_rfl) ?_ fun hHeld => ?_
  ·exact (Below.refl _ _).drew
  refine tkS 0 19 rfl hHeld ?_;refine tkS 1 20 rfl hHeld ?_;refine tkS 2 21 rfl hHeld ?_;refine tkS 3 22 rfl hHeld ?_;refine tkS 5 24 rfl hHeld ?_;refine tkS 6 25 rfl hHeld ?_;refine tkS 7 26 rfl hHeld ?_;refine tkS 8 27 rfl hHeld ?_;refine rdH 4 23 rfl fun K hK => ?_;go_simp;have hN : Cv ((w2.alloc (Obj.cells #[.int .u64 c.k, .bool c.p.h, .int .u64 c.p.b, .bool c.c.h, .int .u64 c.c.b, .int .i64 c.n] 114)).drew) (.slice (some ⟨w2.heap.size, 0, none⟩) 1 1) [c] := (cv_one w2 c).below (below_drew _);have hSB : Below w2.heap.size w2 ((w2.alloc (Obj.cells #[.int .u64 c.k, .bool c.p.h, .int .u64 c.p.b, .bool c.c.h, .int .u64 c.c.b, .int .i64 c.n] 114)).drew) := (below_alloc _ _).drew;clear hHeld;generalize (w2.alloc (Obj.cells #[.int .u64 c.k, .bool c.p.h, .int .u64 c.p.b, .bool c.c.h, .int .u64 c.c.b, .int .i64 c.n] 114)).drew = wB at hN hSB ⊢;refine hK.out _ _ ?_ fun hHeld => ?_
  ·exact hSB
  clear hK K;try simp only [Act.put, zz]
  refine rdH 9 28 rfl fun K hK => ?_;go_simp;have hP := pc_three 68 (HT1 _ hHeld) hN (HT2 _ hHeld);have hSC : Below w2.heap.size w2 (wB.alloc (Obj.cells #[.slice (some ⟨b, off, none⟩) A (A + 1), .slice (some ⟨w2.heap.size, 0, none⟩) 1 1, .slice (some ⟨b, off, none⟩) (l.length - (A + 1)) 0] 68)) := hHeld.alloc hHeld.size _;clear hHeld;generalize wB.alloc (Obj.cells #[.slice (some ⟨b, off, none⟩) A (A + 1), .slice (some ⟨w2.heap.size, 0, none⟩) 1 1, .slice (some ⟨b, off, none⟩) (l.length - (A + 1)) 0] 68) = wC at hP hSC ⊢;refine hK.out _ _ ?_ fun hHeld => ?_
  ·exact hSC
  clear hK K;try simp only [Act.put, zz]
  refine rdH 10 29 rfl fun K hK => ?_;go_simp;refine (joined_walk hP (by simp) HSZ.out).mono ?_;rintro e w9 ⟨v9, rfl, ho9, hB9⟩;have hS9 := below_trans hHeld hB9;have hBC := hHeld;clear hB9 hHeld;go_simp;refine hK.out _ _ ?_ fun hHeld => ?_
  ·exact hS9
  clear hK K;try simp only [Act.put, zz]
  refine tkS 11 4 rfl hHeld ?_;refine tkS 12 5 rfl hHeld ?_;refine wpAnyH_done (by kernel_rfl) ?_ _;refine NoPanic.normal ?_;go_wp2_with fail;go_ret2;exact got_ok HR.out (by rw [flat_3] at ho9; exact ho9) (by have h1 := HB2.out.size; have h2 := hBC.size; omega) (below_trans HB2.out hHeld)
 ·go_upto_region 5 with fail
  have HT2 : ∀ wx, Below w2.heap.size w2 wx → Cv wx (.slice (some ⟨b, off + (A + 1) * 6, none⟩) (l.length - (A + 1)) (cap - (A + 1))) (l.drop (A + 1)) := fun wx h => by
   have := (HV.out.below (below_trans HB2.out h)).from (A + 1) HLT.out hce;simpa [WideShapes.add_plain] using this
  have j0 : ∀ wx, Below w2.heap.size w2 wx → wx.cell? ⟨w.heap.size, 0, none⟩ = some (.int .u64 c.k) := fun wx h => (HC2.out.keep h).c0;have j1 : ∀ wx, Below w2.heap.size w2 wx → wx.cell? ⟨w.heap.size, 1, none⟩ = some (.bool c.p.h) := fun wx h => (HC2.out.keep h).c1;have j2 : ∀ wx, Below w2.heap.size w2 wx → wx.cell? ⟨w.heap.size, 2, none⟩ = some (.int .u64 c.p.b) := fun wx h => (HC2.out.keep h).c2;have j3 : ∀ wx, Below w2.heap.size w2 wx → wx.cell? ⟨w.heap.size, 3, none⟩ = some (.bool c.c.h) := fun wx h => (HC2.out.keep h).c3;have j4 : ∀ wx, Below w2.heap.size w2 wx → wx.cell? ⟨w.heap.size, 4, none⟩ = some (.int .u64 c.c.b) := fun wx h => (HC2.out.keep h).c4;have j5 : ∀ wx, Below w2.heap.size w2 wx → wx.cell? ⟨w.heap.size, 5, none⟩ = some (.int .i64 c.n) := fun wx h => (HC2.out.keep h).c5;refine wp_region_noPanic ?_;refine wp_region_held_drew (S := fun wx => Below w2.heap.size w2 wx) (by kernel_rfl) ?_ fun hHeld => ?_
  ·exact (Below.refl _ _).drew
  refine tkS 0 19 rfl hHeld ?_;refine tkS 1 20 rfl hHeld ?_;refine tkS 2 21 rfl hHeld ?_;refine tkS 3 22 rfl hHeld ?_;refine tkS 5 24 rfl hHeld ?_;refine tkS 6 25 rfl hHeld ?_;refine tkS 7 26 rfl hHeld ?_;refine tkS 8 27 rfl hHeld ?_;refine rdH 4 23 rfl fun K hK => ?_;go_simp;have hN : Cv ((w2.alloc (Obj.cells #[.int .u64 c.k, .bool c.p.h, .int .u64 c.p.b, .bool c.c.h, .int .u64 c.c.b, .int .i64 c.n] 114)).drew) (.slice (some ⟨w2.heap.size, 0, none⟩) 1 1) [c] := (cv_one w2 c).below (below_drew _);have hSB : Below w2.heap.size w2 ((w2.alloc (Obj.cells #[.int .u64 c.k, .bool c.p.h, .int .u64 c.p.b, .bool c.c.h, .int .u64 c.c.b, .int .i64 c.n] 114)).drew) := (below_alloc _ _).drew;clear hHeld;generalize (w2.alloc (Obj.cells #[.int .u64 c.k, .bool c.p.h, .int .u64 c.p.b, .bool c.c.h, .int .u64 c.c.b, .int .i64 c.n] 114)).drew = wB at hN hSB ⊢;refine hK.out _ _ ?_ fun hHeld => ?_
  ·exact hSB
  clear hK K;try simp only [Act.put, zz]
  refine rdH 9 28 rfl fun K hK => ?_;go_simp;have hP := pc_three 68 (HT1 _ hHeld) hN (HT2 _ hHeld);have hSC : Below w2.heap.size w2 (wB.alloc (Obj.cells #[.slice (some ⟨b, off, none⟩) A cap, .slice (some ⟨w2.heap.size, 0, none⟩) 1 1, .slice (some ⟨b, off + (A + 1) * 6, none⟩) (l.length - (A + 1)) (cap - (A + 1))] 68)) := hHeld.alloc hHeld.size _;clear hHeld;generalize wB.alloc (Obj.cells #[.slice (some ⟨b, off, none⟩) A cap, .slice (some ⟨w2.heap.size, 0, none⟩) 1 1, .slice (some ⟨b, off + (A + 1) * 6, none⟩) (l.length - (A + 1)) (cap - (A + 1))] 68) = wC at hP hSC ⊢;refine hK.out _ _ ?_ fun hHeld => ?_
  ·exact hSC
  clear hK K;try simp only [Act.put, zz]
  refine rdH 10 29 rfl fun K hK => ?_;go_simp;refine (joined_walk hP (by simp) HSZ.out).mono ?_;rintro e w9 ⟨v9, rfl, ho9, hB9⟩;have hS9 := below_trans hHeld hB9;have hBC := hHeld;clear hB9 hHeld;go_simp;refine hK.out _ _ ?_ fun hHeld => ?_
  ·exact hS9
  clear hK K;try simp only [Act.put, zz]
  refine tkS 11 4 rfl hHeld ?_;refine tkS 12 5 rfl hHeld ?_;refine wpAnyH_done (by kernel_rfl) ?_ _;refine NoPanic.normal ?_;go_wp2_with fail;go_ret2;exact got_ok HR.out (by rw [flat_3] at ho9; exact ho9) (by have h1 := HB2.out.size; have h2 := hBC.size; omega) (below_trans HB2.out hHeld)
theorem put_full (l : List Cl) (c : Cl) (ao : Option Addr) (cap : Nat) (w : World) (hv : Cv w (.slice ao l.length cap) l) (ho : ordB l = true) (hk : isK l (fndF l c.k) c.k = false) (h16 : 16 ≤ l.length) :
  Calls Tryz.prog 143 #[.slice ao l.length cap, .agg #[.int .u64 c.k, .bool c.p.h, .int .u64 c.p.b, .bool c.c.h, .int .u64 c.c.b, .int .i64 c.n]] w (CellsGot (putR l c) w) := by
 have HV := hidH hv;have HCB : Hid (CB (w.alloc (Obj.cells #[.int .u64 c.k, .bool c.p.h, .int .u64 c.p.b, .bool c.c.h, .int .u64 c.c.b, .int .i64 c.n] 114)) w.heap.size c) := cb_new w c;have HB0 : Hid (Below w.heap.size w (w.alloc (Obj.cells #[.int .u64 c.k, .bool c.p.h, .int .u64 c.p.b, .bool c.c.h, .int .u64 c.c.b, .int .i64 c.n] 114))) := below_alloc _ _;have HOB : Hid (ordB l = true) := ho;obtain ⟨A, hA⟩ : ∃ A, A = fndF l c.k := ⟨_, rfl⟩;have hAl : A ≤ l.length := by rw [hA]; exact fnd_le l c.k
 obtain ⟨ao', cap', hvv, hlc, hcm, hnone, _⟩ := hv
 cases hvv
 unfold maxLen at hcm;have hci : (cap : Int) ≤ 9223372036854775807 := by omega
 have hlci : (l.length : Int) ≤ (cap : Int) := by omega
 have hAi : (A : Int) ≤ (l.length : Int) := by omega
 have hAc : (A : Int) ≤ (cap : Int) := by omega
 have HA : Hid (A = fndF l c.k) := hA;have HIS : Hid (isK l A c.k = false) := by show _ = _; rw [hA]; exact hk
 have HR : Hid (putR l c = ([], 92)) := by show _ = _; unfold putR; rw [if_neg (by simp [ho]), if_neg (by simp [hk]), if_pos h16]
 have h16i : (16 : Int) ≤ (l.length : Int) := by omega
 clear hA hk hAl hlc hcm hnone ho h16;go_in;go_wp2_with fail;refine (inOrder_walk (HV.out.below HB0.out)).mono ?_;rw [HOB.out];rintro e w1 ⟨rfl, hB1⟩;have HB1 := hidH (below_trans HB0.out hB1);have HC1 : Hid (CB w1 w.heap.size c) := HCB.out.keep hB1;have k0 := HC1.out.c0;clear hB1;go_wp2_with fail;refine (find_walkB (HV.out.below HB1.out) c.k).mono ?_;rw [findI_ord HOB.out, findB_ord HOB.out, ← HA.out, HIS.out];rintro e w2 ⟨rfl, hB2⟩;have HB2 := hidH (below_trans HB1.out hB2);have HC2 : Hid (CB w2 w.heap.size c) := HC1.out.keep hB2;clear k0;clear hB2;go_wp2_with fail;go_ret2;exact got_bad HR.out rfl HB2.out
theorem put_new (l : List Cl) (c : Cl) (ao : Option Addr) (cap : Nat) (w : World) (hv : Cv w (.slice ao l.length cap) l) (ho : ordB l = true) (hk : isK l (fndF l c.k) c.k = false) (h16 : l.length < 16) (hp : 0 < l.length) :
  Calls Tryz.prog 143 #[.slice ao l.length cap, .agg #[.int .u64 c.k, .bool c.p.h, .int .u64 c.p.b, .bool c.c.h, .int .u64 c.c.b, .int .i64 c.n]] w (CellsGot (putR l c) w) := by
 have HV := hidH hv;have HCB : Hid (CB (w.alloc (Obj.cells #[.int .u64 c.k, .bool c.p.h, .int .u64 c.p.b, .bool c.c.h, .int .u64 c.c.b, .int .i64 c.n] 114)) w.heap.size c) := cb_new w c;have HB0 : Hid (Below w.heap.size w (w.alloc (Obj.cells #[.int .u64 c.k, .bool c.p.h, .int .u64 c.p.b, .bool c.c.h, .int .u64 c.c.b, .int .i64 c.n] 114))) := below_alloc _ _;have HOB : Hid (ordB l = true) := ho;obtain ⟨A, hA⟩ : ∃ A, A = fndF l c.k := ⟨_, rfl⟩;have hAl : A ≤ l.length := by rw [hA]; exact fnd_le l c.k
 obtain ⟨ao', cap', hvv, hlc, hcm, hnone, _⟩ := hv
 cases hvv
 unfold maxLen at hcm;have hci : (cap : Int) ≤ 9223372036854775807 := by omega
 have hlci : (l.length : Int) ≤ (cap : Int) := by omega
 have hAi : (A : Int) ≤ (l.length : Int) := by omega
 have hAc : (A : Int) ≤ (cap : Int) := by omega
 have HA : Hid (A = fndF l c.k) := hA;have HIS : Hid (isK l A c.k = false) := by show _ = _; rw [hA]; exact hk
 have HR : Hid (putR l c = (l.take A ++ ([c] ++ l.drop A), 0)) := by show _ = _; unfold putR; rw [if_neg (by simp [ho]), if_neg (by simp [hk]), if_neg (by omega), hA]
 have HSZ : Hid ([l.take A, [c], l.drop A].flatten.length * 48 ≤ 140737488355328) := by show _ ≤ _; rw [flat_3]; simp only [List.length_append, List.length_take, List.length_drop, List.length_singleton]; omega
 have h16i : ¬ (16 : Int) ≤ (l.length : Int) := by omega
 obtain ⟨b, off, rfl⟩ : ∃ b off, ao = some ⟨b, off, none⟩ := by
  rcases cv_cases HV.out with ⟨h0, _⟩ | ⟨b, off, cap', e, _⟩
  ·rw [h0] at hp; simp at hp
  ·cases e; exact ⟨b, off, rfl⟩
 have HLC : Hid (l.length ≤ cap) := hlc;have HAL : Hid (A ≤ l.length) := hAl;clear hA hk hAl hlc hcm hnone ho h16 hp;go_in;go_wp2_with fail;refine (inOrder_walk (HV.out.below HB0.out)).mono ?_;rw [HOB.out];rintro e w1 ⟨rfl, hB1⟩;have HB1 := hidH (below_trans HB0.out hB1);have HC1 : Hid (CB w1 w.heap.size c) := HCB.out.keep hB1;have k0 := HC1.out.c0;clear hB1;go_wp2_with fail;refine (find_walkB (HV.out.below HB1.out) c.k).mono ?_;rw [findI_ord HOB.out, findB_ord HOB.out, ← HA.out, HIS.out];rintro e w2 ⟨rfl, hB2⟩;have HB2 := hidH (below_trans HB1.out hB2);have HC2 : Hid (CB w2 w.heap.size c) := HC1.out.keep hB2;clear k0;clear hB2;have HT1 : ∀ wx, Below w2.heap.size w2 wx → Cv wx (.slice (some ⟨b, off, none⟩) A cap) (l.take A) := fun wx h => (HV.out.below (below_trans HB2.out h)).upto A HAL.out;by_cases hce : cap = A
 ·have HLE : Hid (l.length ≤ A) := by have := HLC.out; show _ ≤ _; omega
  subst hce;go_upto_region 8 with fail
  have HT2 : ∀ wx, Below w2.heap.size w2 wx → Cv wx (.slice (some ⟨b, off, none⟩) (l.length - cap) 0) (l.drop cap) := fun wx h => by
   rw [show l.length - cap = 0 from by have := HLE.out; omega]; exact Cv.void HLE.out
  have j0 : ∀ wx, Below w2.heap.size w2 wx → wx.cell? ⟨w.heap.size, 0, none⟩ = some (.int .u64 c.k) := fun wx h => (HC2.out.keep h).c0;have j1 : ∀ wx, Below w2.heap.size w2 wx → wx.cell? ⟨w.heap.size, 1, none⟩ = some (.bool c.p.h) := fun wx h => (HC2.out.keep h).c1;have j2 : ∀ wx, Below w2.heap.size w2 wx → wx.cell? ⟨w.heap.size, 2, none⟩ = some (.int .u64 c.p.b) := fun wx h => (HC2.out.keep h).c2;have j3 : ∀ wx, Below w2.heap.size w2 wx → wx.cell? ⟨w.heap.size, 3, none⟩ = some (.bool c.c.h) := fun wx h => (HC2.out.keep h).c3;have j4 : ∀ wx, Below w2.heap.size w2 wx → wx.cell? ⟨w.heap.size, 4, none⟩ = some (.int .u64 c.c.b) := fun wx h => (HC2.out.keep h).c4;have j5 : ∀ wx, Below w2.heap.size w2 wx → wx.cell? ⟨w.heap.size, 5, none⟩ = some (.int .i64 c.n) := fun wx h => (HC2.out.keep h).c5;refine wp_region_noPanic ?_;refine wp_region_held_drew (S := fun wx => Below w2.heap.size w2 wx) (by kernel_rfl) ?_ fun hHeld => ?_
  ·exact (Below.refl _ _).drew
  refine tkS 0 33 rfl hHeld ?_;refine tkS 1 34 rfl hHeld ?_;refine tkS 2 35 rfl hHeld ?_;refine tkS 3 36 rfl hHeld ?_;refine tkS 5 38 rfl hHeld ?_;refine tkS 6 39 rfl hHeld ?_;refine tkS 7 40 rfl hHeld ?_;refine rdH 4 37 rfl fun K hK => ?_;go_simp;have hN : Cv ((w2.alloc (Obj.cells #[.int .u64 c.k, .bool c.p.h, .int .u64 c.p.b, .bool c.c.h, .int .u64 c.c.b, .int .i64 c.n] 114)).drew) (.slice (some ⟨w2.heap.size, 0, none⟩) 1 1) [c] := (cv_one w2 c).below (below_drew _);have hSB : Below w2.heap.size w2 ((w2.alloc (Obj.cells #[.int .u64 c.k, .bool c.p.h, .int .u64 c.p.b, .bool c.c.h, .int .u64 c.c.b, .int .i64 c.n] 114)).drew) := (below_alloc _ _).drew;clear hHeld;generalize (w2.alloc (Obj.cells #[.int .u64 c.k, .bool c.p.h, .int .u64 c.p.b, .bool c.c.h, .int .u64 c.c.b, .int .i64 c.n] 114)).drew = wB at hN hSB ⊢;refine hK.out _ _ ?_ fun hHeld => ?_
  ·exact hSB
  clear hK K;try simp only [Act.put, zz]
  refine rdH 8 41 rfl fun K hK => ?_;go_simp;have hP := pc_three 68 (HT1 _ hHeld) hN (HT2 _ hHeld);have hSC : Below w2.heap.size w2 (wB.alloc (Obj.cells #[.slice (some ⟨b, off, none⟩) cap cap, .slice (some ⟨w2.heap.size, 0, none⟩) 1 1, .slice (some ⟨b, off, none⟩) (l.length - cap) 0] 68)) := hHeld.alloc hHeld.size _;clear hHeld;generalize wB.alloc (Obj.cells #[.slice (some ⟨b, off, none⟩) cap cap, .slice (some ⟨w2.heap.size, 0, none⟩) 1 1, .slice (some ⟨b, off, none⟩) (l.length - cap) 0] 68) = wC at hP hSC ⊢;refine hK.out _ _ ?_ fun hHeld => ?_
  ·exact hSC
  clear hK K;try simp only [Act.put, zz]
  refine rdH 9 42 rfl fun K hK => ?_;go_simp;refine (joined_walk hP (by simp) HSZ.out).mono ?_;rintro e w9 ⟨v9, rfl, ho9, hB9⟩;have hS9 := below_trans hHeld hB9;have hBC := hHeld;clear hB9 hHeld;go_simp;refine hK.out _ _ ?_ fun hHeld => ?_
  ·exact hS9
  clear hK K;try simp only [Act.put, zz]
  refine tkS 10 4 rfl hHeld ?_;refine tkS 11 5 rfl hHeld ?_;refine wpAnyH_done (by kernel_rfl) ?_ _;refine NoPanic.normal ?_;go_wp2_with fail;go_ret2;exact got_ok HR.out (by rw [flat_3] at ho9; exact ho9) (by have h1 := HB2.out.size; have h2 := hBC.size; omega) (below_trans HB2.out hHeld)
 ·go_upto_region 8 with fail
  have HT2 : ∀ wx, Below w2.heap.size w2 wx → Cv wx (.slice (some ⟨b, off + A * 6, none⟩) (l.length - A) (cap - A)) (l.drop A) := fun wx h => by
   have := (HV.out.below (below_trans HB2.out h)).from A HAL.out hce;simpa [WideShapes.add_plain] using this
  have j0 : ∀ wx, Below w2.heap.size w2 wx → wx.cell? ⟨w.heap.size, 0, none⟩ = some (.int .u64 c.k) := fun wx h => (HC2.out.keep h).c0;have j1 : ∀ wx, Below w2.heap.size w2 wx → wx.cell? ⟨w.heap.size, 1, none⟩ = some (.bool c.p.h) := fun wx h => (HC2.out.keep h).c1;have j2 : ∀ wx, Below w2.heap.size w2 wx → wx.cell? ⟨w.heap.size, 2, none⟩ = some (.int .u64 c.p.b) := fun wx h => (HC2.out.keep h).c2;have j3 : ∀ wx, Below w2.heap.size w2 wx → wx.cell? ⟨w.heap.size, 3, none⟩ = some (.bool c.c.h) := fun wx h => (HC2.out.keep h).c3;have j4 : ∀ wx, Below w2.heap.size w2 wx → wx.cell? ⟨w.heap.size, 4, none⟩ = some (.int .u64 c.c.b) := fun wx h => (HC2.out.keep h).c4;have j5 : ∀ wx, Below w2.heap.size w2 wx → wx.cell? ⟨w.heap.size, 5, none⟩ = some (.int .i64 c.n) := fun wx h => (HC2.out.keep h).c5;refine wp_region_noPanic ?_;refine wp_region_held_drew (S := fun wx => Below w2.heap.size w2 wx) (by kernel_rfl) ?_ fun hHeld => ?_
  ·exact (Below.refl _ _).drew
  refine tkS 0 33 rfl hHeld ?_;refine tkS 1 34 rfl hHeld ?_;refine tkS 2 35 rfl hHeld ?_;refine tkS 3 36 rfl hHeld ?_;refine tkS 5 38 rfl hHeld ?_;refine tkS 6 39 rfl hHeld ?_;refine tkS 7 40 rfl hHeld ?_;refine rdH 4 37 rfl fun K hK => ?_;go_simp;have hN : Cv ((w2.alloc (Obj.cells #[.int .u64 c.k, .bool c.p.h, .int .u64 c.p.b, .bool c.c.h, .int .u64 c.c.b, .int .i64 c.n] 114)).drew) (.slice (some ⟨w2.heap.size, 0, none⟩) 1 1) [c] := (cv_one w2 c).below (below_drew _);have hSB : Below w2.heap.size w2 ((w2.alloc (Obj.cells #[.int .u64 c.k, .bool c.p.h, .int .u64 c.p.b, .bool c.c.h, .int .u64 c.c.b, .int .i64 c.n] 114)).drew) := (below_alloc _ _).drew;clear hHeld;generalize (w2.alloc (Obj.cells #[.int .u64 c.k, .bool c.p.h, .int .u64 c.p.b, .bool c.c.h, .int .u64 c.c.b, .int .i64 c.n] 114)).drew = wB at hN hSB ⊢;refine hK.out _ _ ?_ fun hHeld => ?_
  ·exact hSB
  clear hK K;try simp only [Act.put, zz]
  refine rdH 8 41 rfl fun K hK => ?_;go_simp;have hP := pc_three 68 (HT1 _ hHeld) hN (HT2 _ hHeld);have hSC : Below w2.heap.size w2 (wB.alloc (Obj.cells #[.slice (some ⟨b, off, none⟩) A cap, .slice (some ⟨w2.heap.size, 0, none⟩) 1 1, .slice (some ⟨b, off + A * 6, none⟩) (l.length - A) (cap - A)] 68)) := hHeld.alloc hHeld.size _;clear hHeld;generalize wB.alloc (Obj.cells #[.slice (some ⟨b, off, none⟩) A cap, .slice (some ⟨w2.heap.size, 0, none⟩) 1 1, .slice (some ⟨b, off + A * 6, none⟩) (l.length - A) (cap - A)] 68) = wC at hP hSC ⊢;refine hK.out _ _ ?_ fun hHeld => ?_
  ·exact hSC
  clear hK K;try simp only [Act.put, zz]
  refine rdH 9 42 rfl fun K hK => ?_;go_simp;refine (joined_walk hP (by simp) HSZ.out).mono ?_;rintro e w9 ⟨v9, rfl, ho9, hB9⟩;have hS9 := below_trans hHeld hB9;have hBC := hHeld;clear hB9 hHeld;go_simp;refine hK.out _ _ ?_ fun hHeld => ?_
  ·exact hS9
  clear hK K;try simp only [Act.put, zz]
  refine tkS 10 4 rfl hHeld ?_;refine tkS 11 5 rfl hHeld ?_;refine wpAnyH_done (by kernel_rfl) ?_ _;refine NoPanic.normal ?_;go_wp2_with fail;go_ret2;exact got_ok HR.out (by rw [flat_3] at ho9; exact ho9) (by have h1 := HB2.out.size; have h2 := hBC.size; omega) (below_trans HB2.out hHeld)

theorem inOrder_void (ao : Option Addr) (cap : Nat) (w : World) : Calls Tryz.prog 188 #[.slice ao 0 cap] w fun e w' => e = .returned (.bool true) ∧ Below w.heap.size w w' := inOrder_none ao cap w
theorem cv_void (w : World) (ao : Option Addr) : Cv w (.slice ao 0 0) [] := ⟨ao, 0, rfl, by simp, by simp [maxLen], by simp, fun i hi => by simp at hi⟩
theorem put_nilB (c : Cl) (w : World)  :
  Calls Tryz.prog 143 #[.slice none 0 0, .agg #[.int .u64 c.k, .bool c.p.h, .int .u64 c.p.b, .bool c.c.h, .int .u64 c.c.b, .int .i64 c.n]] w (CellsGot ([c], 0) w) := by
 have HCB : Hid (CB (w.alloc (Obj.cells #[.int .u64 c.k, .bool c.p.h, .int .u64 c.p.b, .bool c.c.h, .int .u64 c.c.b, .int .i64 c.n] 114)) w.heap.size c) := cb_new w c;have HB0 : Hid (Below w.heap.size w (w.alloc (Obj.cells #[.int .u64 c.k, .bool c.p.h, .int .u64 c.p.b, .bool c.c.h, .int .u64 c.c.b, .int .i64 c.n] 114))) := below_alloc _ _;have HSZ : Hid ([[], [c], ([] : List Cl)].flatten.length * 48 ≤ 140737488355328) := by show _ ≤ _; simp
 have HT1 : ∀ wx : World, Cv wx (.slice none 0 0) [] := fun wx => cv_void wx none;go_in;go_wp2_with fail;refine (inOrder_void none 0 _).mono ?_;rintro e w1 ⟨rfl, hB1⟩;have HB1 := hidH (below_trans HB0.out hB1);have HC1 : Hid (CB w1 w.heap.size c) := HCB.out.keep hB1;have k0 := HC1.out.c0;clear hB1;go_wp2_with fail;refine (find_none none 0 c.k _).mono ?_;rintro e w2 ⟨rfl, hB2⟩;have HB2 := hidH (below_trans HB1.out hB2);have HC2 : Hid (CB w2 w.heap.size c) := HC1.out.keep hB2;clear k0 hB2;go_upto_region 8 with fail
 have j0 : ∀ wx, Below w2.heap.size w2 wx → wx.cell? ⟨w.heap.size, 0, none⟩ = some (.int .u64 c.k) := fun wx h => (HC2.out.keep h).c0;have j1 : ∀ wx, Below w2.heap.size w2 wx → wx.cell? ⟨w.heap.size, 1, none⟩ = some (.bool c.p.h) := fun wx h => (HC2.out.keep h).c1;have j2 : ∀ wx, Below w2.heap.size w2 wx → wx.cell? ⟨w.heap.size, 2, none⟩ = some (.int .u64 c.p.b) := fun wx h => (HC2.out.keep h).c2;have j3 : ∀ wx, Below w2.heap.size w2 wx → wx.cell? ⟨w.heap.size, 3, none⟩ = some (.bool c.c.h) := fun wx h => (HC2.out.keep h).c3;have j4 : ∀ wx, Below w2.heap.size w2 wx → wx.cell? ⟨w.heap.size, 4, none⟩ = some (.int .u64 c.c.b) := fun wx h => (HC2.out.keep h).c4;have j5 : ∀ wx, Below w2.heap.size w2 wx → wx.cell? ⟨w.heap.size, 5, none⟩ = some (.int .i64 c.n) := fun wx h => (HC2.out.keep h).c5;refine wp_region_noPanic ?_;refine wp_region_held_drew (S := fun wx => Below w2.heap.size w2 wx) (by kernel_rfl) ?_ fun hHeld => ?_
 ·exact (Below.refl _ _).drew
 refine tkS 0 33 rfl hHeld ?_;refine tkS 1 34 rfl hHeld ?_;refine tkS 2 35 rfl hHeld ?_;refine tkS 3 36 rfl hHeld ?_;refine tkS 5 38 rfl hHeld ?_;refine tkS 6 39 rfl hHeld ?_;refine tkS 7 40 rfl hHeld ?_;refine rdH 4 37 rfl fun K hK => ?_;go_simp;have hN : Cv ((w2.alloc (Obj.cells #[.int .u64 c.k, .bool c.p.h, .int .u64 c.p.b, .bool c.c.h, .int .u64 c.c.b, .int .i64 c.n] 114)).drew) (.slice (some ⟨w2.heap.size, 0, none⟩) 1 1) [c] := (cv_one w2 c).below (below_drew _);have hSB : Below w2.heap.size w2 ((w2.alloc (Obj.cells #[.int .u64 c.k, .bool c.p.h, .int .u64 c.p.b, .bool c.c.h, .int .u64 c.c.b, .int .i64 c.n] 114)).drew) := (below_alloc _ _).drew;clear hHeld;generalize (w2.alloc (Obj.cells #[.int .u64 c.k, .bool c.p.h, .int .u64 c.p.b, .bool c.c.h, .int .u64 c.c.b, .int .i64 c.n] 114)).drew = wB at hN hSB ⊢;refine hK.out _ _ ?_ fun hHeld => ?_
 ·exact hSB
 clear hK K;try simp only [Act.put, zz]
 refine rdH 8 41 rfl fun K hK => ?_;go_simp;have hP := pc_three 68 (HT1 wB) hN (HT1 wB);have hSC : Below w2.heap.size w2 (wB.alloc (Obj.cells #[.slice none 0 0, .slice (some ⟨w2.heap.size, 0, none⟩) 1 1, .slice none 0 0] 68)) := hHeld.alloc hHeld.size _;clear hHeld;generalize wB.alloc (Obj.cells #[.slice none 0 0, .slice (some ⟨w2.heap.size, 0, none⟩) 1 1, .slice none 0 0] 68) = wC at hP hSC ⊢;refine hK.out _ _ ?_ fun hHeld => ?_
 ·exact hSC
 clear hK K;try simp only [Act.put, zz]
 refine rdH 9 42 rfl fun K hK => ?_;go_simp;refine (joined_walk hP (by simp) HSZ.out).mono ?_;rintro e w9 ⟨v9, rfl, ho9, hB9⟩;have hS9 := below_trans hHeld hB9;have hBC := hHeld;clear hB9 hHeld;go_simp;refine hK.out _ _ ?_ fun hHeld => ?_
 ·exact hS9
 clear hK K;try simp only [Act.put, zz]
 refine tkS 10 4 rfl hHeld ?_;refine tkS 11 5 rfl hHeld ?_;refine wpAnyH_done (by kernel_rfl) ?_ _;refine NoPanic.normal ?_;go_wp2_with fail;go_ret2;exact got_ok rfl (by rw [flat_3] at ho9; exact ho9) (by have h1 := HB2.out.size; have h2 := hBC.size; omega) (below_trans HB2.out hHeld)
theorem put_some (c : Cl) (p : Addr) (cap : Nat) (w : World) (hcm : cap ≤ maxLen) :
  Calls Tryz.prog 143 #[.slice (some p) 0 cap, .agg #[.int .u64 c.k, .bool c.p.h, .int .u64 c.p.b, .bool c.c.h, .int .u64 c.c.b, .int .i64 c.n]] w (CellsGot ([c], 0) w) := by
 have HCB : Hid (CB (w.alloc (Obj.cells #[.int .u64 c.k, .bool c.p.h, .int .u64 c.p.b, .bool c.c.h, .int .u64 c.c.b, .int .i64 c.n] 114)) w.heap.size c) := cb_new w c;have HB0 : Hid (Below w.heap.size w (w.alloc (Obj.cells #[.int .u64 c.k, .bool c.p.h, .int .u64 c.p.b, .bool c.c.h, .int .u64 c.c.b, .int .i64 c.n] 114))) := below_alloc _ _;have HSZ : Hid ([[], [c], ([] : List Cl)].flatten.length * 48 ≤ 140737488355328) := by show _ ≤ _; simp
 unfold maxLen at hcm;have hci : (cap : Int) ≤ 9223372036854775807 := by omega
 have hc0 : (0 : Int) ≤ (cap : Int) := by omega
 have HT1 : ∀ wx : World, Cv wx (.slice (some p) 0 cap) [] := fun wx => ⟨some p, cap, rfl, by simp, by simp only [maxLen]; exact hcm, by simp, fun i hi => by simp at hi⟩;go_in;go_wp2_with fail;refine (inOrder_void (some p) cap _).mono ?_;rintro e w1 ⟨rfl, hB1⟩;have HB1 := hidH (below_trans HB0.out hB1);have HC1 : Hid (CB w1 w.heap.size c) := HCB.out.keep hB1;have k0 := HC1.out.c0;clear hB1;go_wp2_with fail;refine (find_none (some p) cap c.k _).mono ?_;rintro e w2 ⟨rfl, hB2⟩;have HB2 := hidH (below_trans HB1.out hB2);have HC2 : Hid (CB w2 w.heap.size c) := HC1.out.keep hB2;clear k0 hB2;by_cases hz : cap = 0
 ·subst hz;go_upto_region 8 with fail
  have j0 : ∀ wx, Below w2.heap.size w2 wx → wx.cell? ⟨w.heap.size, 0, none⟩ = some (.int .u64 c.k) := fun wx h => (HC2.out.keep h).c0;have j1 : ∀ wx, Below w2.heap.size w2 wx → wx.cell? ⟨w.heap.size, 1, none⟩ = some (.bool c.p.h) := fun wx h => (HC2.out.keep h).c1;have j2 : ∀ wx, Below w2.heap.size w2 wx → wx.cell? ⟨w.heap.size, 2, none⟩ = some (.int .u64 c.p.b) := fun wx h => (HC2.out.keep h).c2;have j3 : ∀ wx, Below w2.heap.size w2 wx → wx.cell? ⟨w.heap.size, 3, none⟩ = some (.bool c.c.h) := fun wx h => (HC2.out.keep h).c3;have j4 : ∀ wx, Below w2.heap.size w2 wx → wx.cell? ⟨w.heap.size, 4, none⟩ = some (.int .u64 c.c.b) := fun wx h => (HC2.out.keep h).c4;have j5 : ∀ wx, Below w2.heap.size w2 wx → wx.cell? ⟨w.heap.size, 5, none⟩ = some (.int .i64 c.n) := fun wx h => (HC2.out.keep h).c5;refine wp_region_noPanic ?_;refine wp_region_held_drew (S := fun wx => Below w2.heap.size w2 wx) (by kernel_rfl) ?_ fun hHeld => ?_
  ·exact (Below.refl _ _).drew
  refine tkS 0 33 rfl hHeld ?_;refine tkS 1 34 rfl hHeld ?_;refine tkS 2 35 rfl hHeld ?_;refine tkS 3 36 rfl hHeld ?_;refine tkS 5 38 rfl hHeld ?_;refine tkS 6 39 rfl hHeld ?_;refine tkS 7 40 rfl hHeld ?_;refine rdH 4 37 rfl fun K hK => ?_;go_simp;have hN : Cv ((w2.alloc (Obj.cells #[.int .u64 c.k, .bool c.p.h, .int .u64 c.p.b, .bool c.c.h, .int .u64 c.c.b, .int .i64 c.n] 114)).drew) (.slice (some ⟨w2.heap.size, 0, none⟩) 1 1) [c] := (cv_one w2 c).below (below_drew _);have hSB : Below w2.heap.size w2 ((w2.alloc (Obj.cells #[.int .u64 c.k, .bool c.p.h, .int .u64 c.p.b, .bool c.c.h, .int .u64 c.c.b, .int .i64 c.n] 114)).drew) := (below_alloc _ _).drew;clear hHeld;generalize (w2.alloc (Obj.cells #[.int .u64 c.k, .bool c.p.h, .int .u64 c.p.b, .bool c.c.h, .int .u64 c.c.b, .int .i64 c.n] 114)).drew = wB at hN hSB ⊢;refine hK.out _ _ ?_ fun hHeld => ?_
  ·exact hSB
  clear hK K;try simp only [Act.put, zz]
  refine rdH 8 41 rfl fun K hK => ?_;go_simp;have hP := pc_three 68 (HT1 wB) hN (HT1 wB);have hSC : Below w2.heap.size w2 (wB.alloc (Obj.cells #[.slice (some p) 0 0, .slice (some ⟨w2.heap.size, 0, none⟩) 1 1, .slice (some p) 0 0] 68)) := hHeld.alloc hHeld.size _;clear hHeld;generalize wB.alloc (Obj.cells #[.slice (some p) 0 0, .slice (some ⟨w2.heap.size, 0, none⟩) 1 1, .slice (some p) 0 0] 68) = wC at hP hSC ⊢;refine hK.out _ _ ?_ fun hHeld => ?_
  ·exact hSC
  clear hK K;try simp only [Act.put, zz]
  refine rdH 9 42 rfl fun K hK => ?_;go_simp;refine (joined_walk hP (by simp) HSZ.out).mono ?_;rintro e w9 ⟨v9, rfl, ho9, hB9⟩;have hS9 := below_trans hHeld hB9;have hBC := hHeld;clear hB9 hHeld;go_simp;refine hK.out _ _ ?_ fun hHeld => ?_
  ·exact hS9
  clear hK K;try simp only [Act.put, zz]
  refine tkS 10 4 rfl hHeld ?_;refine tkS 11 5 rfl hHeld ?_;refine wpAnyH_done (by kernel_rfl) ?_ _;refine NoPanic.normal ?_;go_wp2_with fail;go_ret2;exact got_ok rfl (by rw [flat_3] at ho9; exact ho9) (by have h1 := HB2.out.size; have h2 := hBC.size; omega) (below_trans HB2.out hHeld)
 ·have hz' : ¬ (cap : Int) = 0 := by omega
  go_upto_region 8 with fail
  have j0 : ∀ wx, Below w2.heap.size w2 wx → wx.cell? ⟨w.heap.size, 0, none⟩ = some (.int .u64 c.k) := fun wx h => (HC2.out.keep h).c0;have j1 : ∀ wx, Below w2.heap.size w2 wx → wx.cell? ⟨w.heap.size, 1, none⟩ = some (.bool c.p.h) := fun wx h => (HC2.out.keep h).c1;have j2 : ∀ wx, Below w2.heap.size w2 wx → wx.cell? ⟨w.heap.size, 2, none⟩ = some (.int .u64 c.p.b) := fun wx h => (HC2.out.keep h).c2;have j3 : ∀ wx, Below w2.heap.size w2 wx → wx.cell? ⟨w.heap.size, 3, none⟩ = some (.bool c.c.h) := fun wx h => (HC2.out.keep h).c3;have j4 : ∀ wx, Below w2.heap.size w2 wx → wx.cell? ⟨w.heap.size, 4, none⟩ = some (.int .u64 c.c.b) := fun wx h => (HC2.out.keep h).c4;have j5 : ∀ wx, Below w2.heap.size w2 wx → wx.cell? ⟨w.heap.size, 5, none⟩ = some (.int .i64 c.n) := fun wx h => (HC2.out.keep h).c5;refine wp_region_noPanic ?_;refine wp_region_held_drew (S := fun wx => Below w2.heap.size w2 wx) (by kernel_rfl) ?_ fun hHeld => ?_
  ·exact (Below.refl _ _).drew
  refine tkS 0 33 rfl hHeld ?_;refine tkS 1 34 rfl hHeld ?_;refine tkS 2 35 rfl hHeld ?_;refine tkS 3 36 rfl hHeld ?_;refine tkS 5 38 rfl hHeld ?_;refine tkS 6 39 rfl hHeld ?_;refine tkS 7 40 rfl hHeld ?_;refine rdH 4 37 rfl fun K hK => ?_;go_simp;have hN : Cv ((w2.alloc (Obj.cells #[.int .u64 c.k, .bool c.p.h, .int .u64 c.p.b, .bool c.c.h, .int .u64 c.c.b, .int .i64 c.n] 114)).drew) (.slice (some ⟨w2.heap.size, 0, none⟩) 1 1) [c] := (cv_one w2 c).below (below_drew _);have hSB : Below w2.heap.size w2 ((w2.alloc (Obj.cells #[.int .u64 c.k, .bool c.p.h, .int .u64 c.p.b, .bool c.c.h, .int .u64 c.c.b, .int .i64 c.n] 114)).drew) := (below_alloc _ _).drew;clear hHeld;generalize (w2.alloc (Obj.cells #[.int .u64 c.k, .bool c.p.h, .int .u64 c.p.b, .bool c.c.h, .int .u64 c.c.b, .int .i64 c.n] 114)).drew = wB at hN hSB ⊢;refine hK.out _ _ ?_ fun hHeld => ?_
  ·exact hSB
  clear hK K;try simp only [Act.put, zz]
  refine rdH 8 41 rfl fun K hK => ?_;go_simp;have hP := pc_three 68 (HT1 wB) hN (HT1 wB);have hSC : Below w2.heap.size w2 (wB.alloc (Obj.cells #[.slice (some p) 0 cap, .slice (some ⟨w2.heap.size, 0, none⟩) 1 1, .slice (some p) 0 cap] 68)) := hHeld.alloc hHeld.size _;clear hHeld;generalize wB.alloc (Obj.cells #[.slice (some p) 0 cap, .slice (some ⟨w2.heap.size, 0, none⟩) 1 1, .slice (some p) 0 cap] 68) = wC at hP hSC ⊢;refine hK.out _ _ ?_ fun hHeld => ?_
  ·exact hSC
  clear hK K;try simp only [Act.put, zz]
  refine rdH 9 42 rfl fun K hK => ?_;go_simp;refine (joined_walk hP (by simp) HSZ.out).mono ?_;rintro e w9 ⟨v9, rfl, ho9, hB9⟩;have hS9 := below_trans hHeld hB9;have hBC := hHeld;clear hB9 hHeld;go_simp;refine hK.out _ _ ?_ fun hHeld => ?_
  ·exact hS9
  clear hK K;try simp only [Act.put, zz]
  refine tkS 10 4 rfl hHeld ?_;refine tkS 11 5 rfl hHeld ?_;refine wpAnyH_done (by kernel_rfl) ?_ _;refine NoPanic.normal ?_;go_wp2_with fail;go_ret2;exact got_ok rfl (by rw [flat_3] at ho9; exact ho9) (by have h1 := HB2.out.size; have h2 := hBC.size; omega) (below_trans HB2.out hHeld)
theorem put_walk11 {w : World} {v : Value} {l : List Cl} (h : Cv w v l) (c : Cl) (hsz : (l.length + 1) * 48 ≤ 140737488355328) :
  Calls Tryz.prog 143 #[v, .agg #[.int .u64 c.k, .bool c.p.h, .int .u64 c.p.b, .bool c.c.h, .int .u64 c.c.b, .int .i64 c.n]] w (CellsGot (putR l c) w) := by
 obtain ⟨ao, cap, rfl⟩ := h.form
 cases ho : ordB l
 ·exact put_bad l c ao cap w h ho
 ·cases hk : isK l (fndF l c.k) c.k
  ·by_cases h16 : 16 ≤ l.length
   ·exact put_full l c ao cap w h ho hk h16
   ·by_cases hp : 0 < l.length
    ·exact put_new l c ao cap w h ho hk (by omega) hp
    ·obtain rfl : l = [] := List.eq_nil_of_length_eq_zero (by omega);have e : putR [] c = ([c], 0) := rfl;rw [e];obtain ⟨ao', cap', e1, _, h2, h3, _⟩ := h
     cases e1
     cases ao with
     | none => obtain rfl := h3 rfl; exact put_nilB c w
     | some p => exact put_some c p cap w h2
  ·exact put_there l c ao cap w h ho hk hsz
end Go.Proofs.YtcmklbibehnloaaGreat
