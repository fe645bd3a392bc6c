/- Contracts of the reference's Put, Drop over cells. -/
import Derived.Test.YtjcmmhonidamoaaCb
namespace Go.Proofs.Ytjcmmhonidamoaa
open Go.RowKit

theorem own_join3 {w : World} {B : Nat} {v : Value} {a b c : List Cl} (h : w.ownsRow B 37 6 v (0 + a.length + b.length + c.length) ([] ++ flatC a ++ flatC b ++ flatC c)) : w.ownsRow B 37 6 v (a ++ (b ++ c)).length (flatC (a ++ (b ++ c))) := by
  rw [flatC_append, flatC_append, List.length_append, List.length_append]
  simpa [Nat.add_assoc] using h

theorem bd48 {n m : Nat} (h : n ≤ m) (hs : m * 48 ≤ 140737488355328) : n * 48 ≤ 140737488355328 := Nat.le_trans (Nat.mul_le_mul_right 48 h) hs
theorem bm48 {n m : Nat} (h : n ≤ m) (hs : m * 48 ≤ 140737488355328) : n ≤ maxLen := by unfold maxLen; omega
theorem tk_len {l : List Cl} (A : Nat) : 0 + (l.take A).length ≤ l.length + 1 := by simp; omega
theorem tk_len1 {l : List Cl} (A : Nat) (c : Cl) : 0 + (l.take A).length + [c].length ≤ l.length + 1 := by simp; omega
theorem tk_len2 {l : List Cl} {A A2 : Nat} (c : Cl) (h : A ≤ A2) : 0 + (l.take A).length + [c].length + (l.drop A2).length ≤ l.length + 1 := by simp; omega

set_option maxRecDepth 100000 in
set_option maxHeartbeats 4000000 in
theorem rput_bad (l : List Cl) (c : Cl) (v : Value) (w : World) (hv : Cv w v l) (ho : ordB l = false) :
    Calls Try.prog 18 #[v, .agg #[.int .u64 c.k, .bool c.p.h, .int .u64 c.p.b, .bool c.c.h, .int .u64 c.c.b, .int .i64 c.n]] w (CellsGot (putR l c) w) := by
  have HV : Hid (Cv w v l) := hv
  have HB0 : Hid (Below w.heap.size w (w.alloc (Obj.cells #[.int .u64 c.k, .bool c.p.h, .int .u64 c.p.b, .bool c.c.h, .int .u64 c.c.b, .int .i64 c.n] 37))) := below_alloc _ _
  have HR : Hid (putR l c = ([], 7)) := by show _ = _; unfold putR; rw [if_pos ho]
  clear hv
  go_enter Try.func18, Try.ntmps18
  go_wp2_with fail
  refine (rrising_walk (HV.out.below HB0.out)).mono ?_
  rw [ho]
  rintro e w1 ⟨rfl, hB1⟩
  go_wp2_with fail
  go_ret2
  exact got_bad HR.out rfl (below_trans HB0.out hB1)

set_option maxRecDepth 100000 in
set_option maxHeartbeats 4000000 in
theorem rput_full (l : List Cl) (c : Cl) (ao : Option Addr) (cap : Nat) (w : World) (hv : Cv w (.slice ao l.length cap) l) (ho : ordB l = true) (hk : isK l (fndF l c.k) c.k = false) (h16 : 16 ≤ l.length) :
    Calls Try.prog 18 #[.slice ao l.length cap, .agg #[.int .u64 c.k, .bool c.p.h, .int .u64 c.p.b, .bool c.c.h, .int .u64 c.c.b, .int .i64 c.n]] w (CellsGot (putR l c) w) := by
  have HV : Hid (Cv w (.slice ao l.length cap) l) := hv
  have HCB : Hid (CB (w.alloc (Obj.cells #[.int .u64 c.k, .bool c.p.h, .int .u64 c.p.b, .bool c.c.h, .int .u64 c.c.b, .int .i64 c.n] 37)) w.heap.size c) := cb_new w c
  have HB0 : Hid (Below w.heap.size w (w.alloc (Obj.cells #[.int .u64 c.k, .bool c.p.h, .int .u64 c.p.b, .bool c.c.h, .int .u64 c.c.b, .int .i64 c.n] 37))) := below_alloc _ _
  have HOB : Hid (ordB l = true) := ho
  obtain ⟨A, hA⟩ : ∃ A, A = fndF l c.k := ⟨_, rfl⟩
  have HA : Hid (A = fndF l c.k) := hA
  have HIS : Hid (isK l A c.k = false) := by show _ = _; rw [hA]; exact hk
  have HR : Hid (putR l c = ([], 92)) := by show _ = _; unfold putR; rw [if_neg (by simp [ho]), if_neg (by simp [hk]), if_pos h16]
  have h16i : (16 : Int) ≤ (l.length : Int) := by omega
  clear hv hk hA ho h16
  go_enter Try.func18, Try.ntmps18
  go_wp2_with fail
  refine (rrising_walk (HV.out.below HB0.out)).mono ?_
  rw [HOB.out]
  rintro e w1 ⟨rfl, hB1⟩
  have HB1 : Hid (Below w.heap.size w w1) := below_trans HB0.out hB1
  have k0 := (HCB.out.keep hB1).c0
  clear hB1
  go_wp2_with fail
  refine (rfind_walk (HV.out.below HB1.out) c.k).mono ?_
  rw [findI_ord HOB.out, findB_ord HOB.out, ← HA.out, HIS.out]
  rintro e w2 ⟨rfl, hB2⟩
  have HB2 : Hid (Below w.heap.size w w2) := below_trans HB1.out hB2
  clear k0 hB2
  go_wp2_with fail
  go_ret2
  exact got_bad HR.out rfl HB2.out

set_option maxRecDepth 100000 in
set_option maxHeartbeats 4000000 in
theorem rput_there0 (l : List Cl) (c : Cl) (b off cap : Nat) (w : World) (hv : Cv w (.slice (some ⟨b, off, none⟩) l.length cap) l) (ho : ordB l = true) (hlc : l.length ≤ cap) (hcm : cap ≤ maxLen) (hk : isK l (fndF l c.k) c.k = true) (hsz : (l.length + 1) * 48 ≤ 140737488355328) (hce : cap = fndF l c.k + 1) :
    Calls Try.prog 18 #[.slice (some ⟨b, off, none⟩) l.length cap, .agg #[.int .u64 c.k, .bool c.p.h, .int .u64 c.p.b, .bool c.c.h, .int .u64 c.c.b, .int .i64 c.n]] w (CellsGot (putR l c) w) := by
  have HV : Hid (Cv w (.slice (some ⟨b, off, none⟩) l.length cap) l) := hv
  have HCB : Hid (CB (w.alloc (Obj.cells #[.int .u64 c.k, .bool c.p.h, .int .u64 c.p.b, .bool c.c.h, .int .u64 c.c.b, .int .i64 c.n] 37)) w.heap.size c) := cb_new w c
  have HB0 : Hid (Below w.heap.size w (w.alloc (Obj.cells #[.int .u64 c.k, .bool c.p.h, .int .u64 c.p.b, .bool c.c.h, .int .u64 c.c.b, .int .i64 c.n] 37))) := below_alloc _ _
  have HOB : Hid (ordB l = true) := ho
  obtain ⟨A, hA⟩ : ∃ A, A = fndF l c.k := ⟨_, rfl⟩
  have HA : Hid (A = fndF l c.k) := hA
  have HAL : Hid (A ≤ l.length) := by show _ ≤ _; rw [hA]; exact fnd_le l c.k
  have HIS : Hid (isK l A c.k = true) := by show _ = _; rw [hA]; exact hk
  have HLT : Hid (A + 1 ≤ l.length) := isK_lt HIS.out
  have HR : Hid (putR l c = (l.take A ++ ([c] ++ l.drop (A + 1)), 0)) := by show _ = _; unfold putR; rw [if_neg (by simp [ho]), if_pos hk, hA]
  have HSZ : Hid ((l.length + 1) * 48 ≤ 140737488355328) := hsz
  have hwr : IntKind.i64.wrap ((A : Int) + 1) = (A : Int) + 1 := by rw [IntKind.wrap_i64]; have := HLT.out; unfold maxLen at hcm; omega
  have h0A : (0 : Int) ≤ (A : Int) + 1 := by omega
  have htn : ((A : Int) + 1).toNat = A + 1 := by omega
  have hlt1 : (A : Int) + 1 ≤ (l.length : Int) := by have := HLT.out; omega
  have hlt2 : (A : Int) + 1 ≤ (cap : Int) := by have := HLT.out; omega
  have hcmi : (cap : Int) ≤ 9223372036854775807 := by unfold maxLen at hcm; omega
  have hlci : (l.length : Int) ≤ (cap : Int) := by omega
  have hAi : (A : Int) ≤ (l.length : Int) := by have := HAL.out; omega
  have hAc : (A : Int) ≤ (cap : Int) := by omega
  have HLC : Hid (l.length ≤ cap) := hlc
  rw [← hA] at hce
  have HLE : Hid (l.length ≤ A + 1) := by show _ ≤ _; omega
  subst hce
  clear hv hk hA ho hsz hlc hcm
  go_enter Try.func18, Try.ntmps18
  go_wp2_with fail
  refine (rrising_walk (HV.out.below HB0.out)).mono ?_
  rw [HOB.out]
  rintro e w1 ⟨rfl, hB1⟩
  have HB1 : Hid (Below w.heap.size w w1) := below_trans HB0.out hB1
  have HC1 : Hid (CB w1 w.heap.size c) := HCB.out.keep hB1
  have k0 := HC1.out.c0
  clear hB1
  go_wp2_with fail
  refine (rfind_walk (HV.out.below HB1.out) c.k).mono ?_
  rw [findI_ord HOB.out, findB_ord HOB.out, ← HA.out, HIS.out]
  rintro e w2 ⟨rfl, hB2⟩
  have HB2 : Hid (Below w.heap.size w w2) := below_trans HB1.out hB2
  have HC2 : Hid (CB w2 w.heap.size c) := HC1.out.keep hB2
  clear k0 hB2
  have HO0 : Hid ((w2.alloc (Obj.cells #[] 37)).ownsRow w2.heap.size 37 6 (.slice (some ⟨w2.heap.size, 0, none⟩) 0 0) 0 []) := World.ownsRow_made w2 #[] 0 (Nat.le_refl _) (by simp [maxLen]) rfl
  have HT1 : Hid (Cv (w2.alloc (Obj.cells #[] 37)) (.slice (some ⟨b, off, none⟩) A (A + 1)) (l.take A)) := (HV.out.below (below_trans HB2.out (below_alloc _ _))).upto A HAL.out
  go_upto_region 8 with (at_builtin; refine wpList_append_cv (by rfl) (.tmp 27) (.tmp 30) (by rfl) w2.heap.size _ _ _ (by rfl) HO0.out _ (l.take A) (by rfl) HT1.out (bm48 (tk_len A) HSZ.out) (bd48 (tk_len A) HSZ.out) (by rw [size_allocC]; omega) ?_; intro v3 w3 hown hgrow)
  have HO3 : Hid (w3.ownsRow w2.heap.size 37 6 v3 (0 + (l.take A).length) ([] ++ flatC (l.take A))) := hown
  have HB3 : Hid (Below w2.heap.size w2 w3) := (below_alloc w2 _).trans (grown_belowC HO0.out hgrow (by rw [size_allocC]; omega))
  clear hown hgrow HO0 HT1
  obtain ⟨c0, c1, c2, c3, c4, c5, zz⟩ := HC2.out.keep HB3.out
  go_upto_region 9 with (at_builtin; refine wpList_append_cv (by rfl) (.tmp 32) (.tmp 34) (by rfl) w2.heap.size _ _ _ (by rfl) (HO3.out.alloc _) _ [c] (by rfl) (cv_one w3 c) (bm48 (tk_len1 A c) HSZ.out) (bd48 (tk_len1 A c) HSZ.out) (by rw [size_allocC]; have := HB3.out.size; omega) ?_; intro v4 w4 hown hgrow)
  have HO4 : Hid (w4.ownsRow w2.heap.size 37 6 v4 (0 + (l.take A).length + [c].length) ([] ++ flatC (l.take A) ++ flatC [c])) := hown
  have HB4 : Hid (Below w2.heap.size w2 w4) := HB3.out.trans (((below_alloc w3 _).mono HB3.out.size).trans (grown_belowC (HO3.out.alloc _) hgrow (by rw [size_allocC]; have := HB3.out.size; omega)))
  have HT3 : Hid (Cv w4 (.slice (some ⟨b, off, none⟩) (l.length - (A + 1)) 0) (l.drop (A + 1))) := (by show Cv _ _ _; rw [show l.length - (A + 1) = 0 from by have := HLE.out; omega]; exact Cv.void HLE.out)
  clear hown hgrow c0 c1 c2 c3 c4 c5 zz HO3
  go_wp2_with (at_builtin; refine wpList_append_cv (by rfl) (.tmp 39) (.tmp 42) (by rfl) w2.heap.size _ _ _ (by rfl) HO4.out _ (l.drop (A + 1)) (by rfl) HT3.out (bm48 (tk_len2 c (by omega)) HSZ.out) (bd48 (tk_len2 c (by omega)) HSZ.out) HB4.out.size ?_; intro v5 w5 hown hgrow)
  have HO5 : Hid (w5.ownsRow w2.heap.size 37 6 v5 (0 + (l.take A).length + [c].length + (l.drop (A + 1)).length) ([] ++ flatC (l.take A) ++ flatC [c] ++ flatC (l.drop (A + 1)))) := hown
  have HB5 : Hid (Below w2.heap.size w2 w5) := HB4.out.trans (grown_belowC HO4.out hgrow HB4.out.size)
  clear hown hgrow
  go_ret2
  exact got_ok HR.out (own_join3 HO5.out) HB2.out.size (below_trans HB2.out HB5.out)

set_option maxRecDepth 100000 in
set_option maxHeartbeats 4000000 in
theorem rput_there1 (l : List Cl) (c : Cl) (b off cap : Nat) (w : World) (hv : Cv w (.slice (some ⟨b, off, none⟩) l.length cap) l) (ho : ordB l = true) (hlc : l.length ≤ cap) (hcm : cap ≤ maxLen) (hk : isK l (fndF l c.k) c.k = true) (hsz : (l.length + 1) * 48 ≤ 140737488355328) (hce : ¬ cap = fndF l c.k + 1) :
    Calls Try.prog 18 #[.slice (some ⟨b, off, none⟩) l.length cap, .agg #[.int .u64 c.k, .bool c.p.h, .int .u64 c.p.b, .bool c.c.h, .int .u64 c.c.b, .int .i64 c.n]] w (CellsGot (putR l c) w) := by
  have HV : Hid (Cv w (.slice (some ⟨b, off, none⟩) l.length cap) l) := hv
  have HCB : Hid (CB (w.alloc (Obj.cells #[.int .u64 c.k, .bool c.p.h, .int .u64 c.p.b, .bool c.c.h, .int .u64 c.c.b, .int .i64 c.n] 37)) w.heap.size c) := cb_new w c
  have HB0 : Hid (Below w.heap.size w (w.alloc (Obj.cells #[.int .u64 c.k, .bool c.p.h, .int .u64 c.p.b, .bool c.c.h, .int .u64 c.c.b, .int .i64 c.n] 37))) := below_alloc _ _
  have HOB : Hid (ordB l = true) := ho
  obtain ⟨A, hA⟩ : ∃ A, A = fndF l c.k := ⟨_, rfl⟩
  have HA : Hid (A = fndF l c.k) := hA
  have HAL : Hid (A ≤ l.length) := by show _ ≤ _; rw [hA]; exact fnd_le l c.k
  have HIS : Hid (isK l A c.k = true) := by show _ = _; rw [hA]; exact hk
  have HLT : Hid (A + 1 ≤ l.length) := isK_lt HIS.out
  have HR : Hid (putR l c = (l.take A ++ ([c] ++ l.drop (A + 1)), 0)) := by show _ = _; unfold putR; rw [if_neg (by simp [ho]), if_pos hk, hA]
  have HSZ : Hid ((l.length + 1) * 48 ≤ 140737488355328) := hsz
  have hwr : IntKind.i64.wrap ((A : Int) + 1) = (A : Int) + 1 := by rw [IntKind.wrap_i64]; have := HLT.out; unfold maxLen at hcm; omega
  have h0A : (0 : Int) ≤ (A : Int) + 1 := by omega
  have htn : ((A : Int) + 1).toNat = A + 1 := by omega
  have hlt1 : (A : Int) + 1 ≤ (l.length : Int) := by have := HLT.out; omega
  have hlt2 : (A : Int) + 1 ≤ (cap : Int) := by have := HLT.out; omega
  have hcmi : (cap : Int) ≤ 9223372036854775807 := by unfold maxLen at hcm; omega
  have hlci : (l.length : Int) ≤ (cap : Int) := by omega
  have hAi : (A : Int) ≤ (l.length : Int) := by have := HAL.out; omega
  have hAc : (A : Int) ≤ (cap : Int) := by omega
  have HLC : Hid (l.length ≤ cap) := hlc
  rw [← hA] at hce
  have HNE : Hid (¬ cap = A + 1) := hce
  clear hv hk hA ho hsz hlc hcm
  go_enter Try.func18, Try.ntmps18
  go_wp2_with fail
  refine (rrising_walk (HV.out.below HB0.out)).mono ?_
  rw [HOB.out]
  rintro e w1 ⟨rfl, hB1⟩
  have HB1 : Hid (Below w.heap.size w w1) := below_trans HB0.out hB1
  have HC1 : Hid (CB w1 w.heap.size c) := HCB.out.keep hB1
  have k0 := HC1.out.c0
  clear hB1
  go_wp2_with fail
  refine (rfind_walk (HV.out.below HB1.out) c.k).mono ?_
  rw [findI_ord HOB.out, findB_ord HOB.out, ← HA.out, HIS.out]
  rintro e w2 ⟨rfl, hB2⟩
  have HB2 : Hid (Below w.heap.size w w2) := below_trans HB1.out hB2
  have HC2 : Hid (CB w2 w.heap.size c) := HC1.out.keep hB2
  clear k0 hB2
  have HO0 : Hid ((w2.alloc (Obj.cells #[] 37)).ownsRow w2.heap.size 37 6 (.slice (some ⟨w2.heap.size, 0, none⟩) 0 0) 0 []) := World.ownsRow_made w2 #[] 0 (Nat.le_refl _) (by simp [maxLen]) rfl
  have HT1 : Hid (Cv (w2.alloc (Obj.cells #[] 37)) (.slice (some ⟨b, off, none⟩) A cap) (l.take A)) := (HV.out.below (below_trans HB2.out (below_alloc _ _))).upto A HAL.out
  go_upto_region 8 with (at_builtin; refine wpList_append_cv (by rfl) (.tmp 27) (.tmp 30) (by rfl) w2.heap.size _ _ _ (by rfl) HO0.out _ (l.take A) (by rfl) HT1.out (bm48 (tk_len A) HSZ.out) (bd48 (tk_len A) HSZ.out) (by rw [size_allocC]; omega) ?_; intro v3 w3 hown hgrow)
  have HO3 : Hid (w3.ownsRow w2.heap.size 37 6 v3 (0 + (l.take A).length) ([] ++ flatC (l.take A))) := hown
  have HB3 : Hid (Below w2.heap.size w2 w3) := (below_alloc w2 _).trans (grown_belowC HO0.out hgrow (by rw [size_allocC]; omega))
  clear hown hgrow HO0 HT1
  obtain ⟨c0, c1, c2, c3, c4, c5, zz⟩ := HC2.out.keep HB3.out
  go_upto_region 9 with (at_builtin; refine wpList_append_cv (by rfl) (.tmp 32) (.tmp 34) (by rfl) w2.heap.size _ _ _ (by rfl) (HO3.out.alloc _) _ [c] (by rfl) (cv_one w3 c) (bm48 (tk_len1 A c) HSZ.out) (bd48 (tk_len1 A c) HSZ.out) (by rw [size_allocC]; have := HB3.out.size; omega) ?_; intro v4 w4 hown hgrow)
  have HO4 : Hid (w4.ownsRow w2.heap.size 37 6 v4 (0 + (l.take A).length + [c].length) ([] ++ flatC (l.take A) ++ flatC [c])) := hown
  have HB4 : Hid (Below w2.heap.size w2 w4) := HB3.out.trans (((below_alloc w3 _).mono HB3.out.size).trans (grown_belowC (HO3.out.alloc _) hgrow (by rw [size_allocC]; have := HB3.out.size; omega)))
  have HT3 : Hid (Cv w4 (.slice (some ⟨b, off + (A + 1) * 6, none⟩) (l.length - (A + 1)) (cap - (A + 1))) (l.drop (A + 1))) := (by show Cv _ _ _; have := (HV.out.below (below_trans HB2.out HB4.out)).from (A + 1) HLT.out HNE.out; simpa [WideShapes.add_plain] using this)
  clear hown hgrow c0 c1 c2 c3 c4 c5 zz HO3
  go_wp2_with (at_builtin; refine wpList_append_cv (by rfl) (.tmp 39) (.tmp 42) (by rfl) w2.heap.size _ _ _ (by rfl) HO4.out _ (l.drop (A + 1)) (by rfl) HT3.out (bm48 (tk_len2 c (by omega)) HSZ.out) (bd48 (tk_len2 c (by omega)) HSZ.out) HB4.out.size ?_; intro v5 w5 hown hgrow)
  have HO5 : Hid (w5.ownsRow w2.heap.size 37 6 v5 (0 + (l.take A).length + [c].length + (l.drop (A + 1)).length) ([] ++ flatC (l.take A) ++ flatC [c] ++ flatC (l.drop (A + 1)))) := hown
  have HB5 : Hid (Below w2.heap.size w2 w5) := HB4.out.trans (grown_belowC HO4.out hgrow HB4.out.size)
  clear hown hgrow
  go_ret2
  exact got_ok HR.out (own_join3 HO5.out) HB2.out.size (below_trans HB2.out HB5.out)

set_option maxRecDepth 100000 in
set_option maxHeartbeats 4000000 in
theorem rput_new0 (l : List Cl) (c : Cl) (b off cap : Nat) (w : World) (hv : Cv w (.slice (some ⟨b, off, none⟩) l.length cap) l) (ho : ordB l = true) (hlc : l.length ≤ cap) (hcm : cap ≤ maxLen) (hk : isK l (fndF l c.k) c.k = false) (h16 : l.length < 16) (hce : cap = fndF l c.k) :
    Calls Try.prog 18 #[.slice (some ⟨b, off, none⟩) l.length cap, .agg #[.int .u64 c.k, .bool c.p.h, .int .u64 c.p.b, .bool c.c.h, .int .u64 c.c.b, .int .i64 c.n]] w (CellsGot (putR l c) w) := by
  have HV : Hid (Cv w (.slice (some ⟨b, off, none⟩) l.length cap) l) := hv
  have HCB : Hid (CB (w.alloc (Obj.cells #[.int .u64 c.k, .bool c.p.h, .int .u64 c.p.b, .bool c.c.h, .int .u64 c.c.b, .int .i64 c.n] 37)) w.heap.size c) := cb_new w c
  have HB0 : Hid (Below w.heap.size w (w.alloc (Obj.cells #[.int .u64 c.k, .bool c.p.h, .int .u64 c.p.b, .bool c.c.h, .int .u64 c.c.b, .int .i64 c.n] 37))) := below_alloc _ _
  have HOB : Hid (ordB l = true) := ho
  obtain ⟨A, hA⟩ : ∃ A, A = fndF l c.k := ⟨_, rfl⟩
  have HA : Hid (A = fndF l c.k) := hA
  have HAL : Hid (A ≤ l.length) := by show _ ≤ _; rw [hA]; exact fnd_le l c.k
  have HIS : Hid (isK l A c.k = false) := by show _ = _; rw [hA]; exact hk
  have HR : Hid (putR l c = (l.take A ++ ([c] ++ l.drop A), 0)) := by show _ = _; unfold putR; rw [if_neg (by simp [ho]), if_neg (by simp [hk]), if_neg (by omega), hA]
  have HSZ : Hid ((l.length + 1) * 48 ≤ 140737488355328) := by show _ ≤ _; omega
  have h16i : ¬ (16 : Int) ≤ (l.length : Int) := by omega
  have hcmi : (cap : Int) ≤ 9223372036854775807 := by unfold maxLen at hcm; omega
  have hlci : (l.length : Int) ≤ (cap : Int) := by omega
  have hAi : (A : Int) ≤ (l.length : Int) := by have := HAL.out; omega
  have hAc : (A : Int) ≤ (cap : Int) := by omega
  have HLC : Hid (l.length ≤ cap) := hlc
  rw [← hA] at hce
  have HLE : Hid (l.length ≤ A) := by show _ ≤ _; omega
  replace hce := hce.symm
  subst hce
  clear hv hk hA ho h16 hlc hcm
  go_enter Try.func18, Try.ntmps18
  go_wp2_with fail
  refine (rrising_walk (HV.out.below HB0.out)).mono ?_
  rw [HOB.out]
  rintro e w1 ⟨rfl, hB1⟩
  have HB1 : Hid (Below w.heap.size w w1) := below_trans HB0.out hB1
  have HC1 : Hid (CB w1 w.heap.size c) := HCB.out.keep hB1
  have k0 := HC1.out.c0
  clear hB1
  go_wp2_with fail
  refine (rfind_walk (HV.out.below HB1.out) c.k).mono ?_
  rw [findI_ord HOB.out, findB_ord HOB.out, ← HA.out, HIS.out]
  rintro e w2 ⟨rfl, hB2⟩
  have HB2 : Hid (Below w.heap.size w w2) := below_trans HB1.out hB2
  have HC2 : Hid (CB w2 w.heap.size c) := HC1.out.keep hB2
  clear k0 hB2
  have HO0 : Hid ((w2.alloc (Obj.cells #[] 37)).ownsRow w2.heap.size 37 6 (.slice (some ⟨w2.heap.size, 0, none⟩) 0 0) 0 []) := World.ownsRow_made w2 #[] 0 (Nat.le_refl _) (by simp [maxLen]) rfl
  have HT1 : Hid (Cv (w2.alloc (Obj.cells #[] 37)) (.slice (some ⟨b, off, none⟩) A A) (l.take A)) := (HV.out.below (below_trans HB2.out (below_alloc _ _))).upto A HAL.out
  go_upto_region 8 with (at_builtin; refine wpList_append_cv (by rfl) (.tmp 27) (.tmp 30) (by rfl) w2.heap.size _ _ _ (by rfl) HO0.out _ (l.take A) (by rfl) HT1.out (bm48 (tk_len A) HSZ.out) (bd48 (tk_len A) HSZ.out) (by rw [size_allocC]; omega) ?_; intro v3 w3 hown hgrow)
  have HO3 : Hid (w3.ownsRow w2.heap.size 37 6 v3 (0 + (l.take A).length) ([] ++ flatC (l.take A))) := hown
  have HB3 : Hid (Below w2.heap.size w2 w3) := (below_alloc w2 _).trans (grown_belowC HO0.out hgrow (by rw [size_allocC]; omega))
  clear hown hgrow HO0 HT1
  obtain ⟨c0, c1, c2, c3, c4, c5, zz⟩ := HC2.out.keep HB3.out
  go_upto_region 9 with (at_builtin; refine wpList_append_cv (by rfl) (.tmp 32) (.tmp 34) (by rfl) w2.heap.size _ _ _ (by rfl) (HO3.out.alloc _) _ [c] (by rfl) (cv_one w3 c) (bm48 (tk_len1 A c) HSZ.out) (bd48 (tk_len1 A c) HSZ.out) (by rw [size_allocC]; have := HB3.out.size; omega) ?_; intro v4 w4 hown hgrow)
  have HO4 : Hid (w4.ownsRow w2.heap.size 37 6 v4 (0 + (l.take A).length + [c].length) ([] ++ flatC (l.take A) ++ flatC [c])) := hown
  have HB4 : Hid (Below w2.heap.size w2 w4) := HB3.out.trans (((below_alloc w3 _).mono HB3.out.size).trans (grown_belowC (HO3.out.alloc _) hgrow (by rw [size_allocC]; have := HB3.out.size; omega)))
  have HT3 : Hid (Cv w4 (.slice (some ⟨b, off, none⟩) (l.length - A) 0) (l.drop A)) := (by show Cv _ _ _; rw [show l.length - A = 0 from by have := HLE.out; omega]; exact Cv.void HLE.out)
  clear hown hgrow c0 c1 c2 c3 c4 c5 zz HO3
  go_wp2_with (at_builtin; refine wpList_append_cv (by rfl) (.tmp 39) (.tmp 42) (by rfl) w2.heap.size _ _ _ (by rfl) HO4.out _ (l.drop A) (by rfl) HT3.out (bm48 (tk_len2 c (by omega)) HSZ.out) (bd48 (tk_len2 c (by omega)) HSZ.out) HB4.out.size ?_; intro v5 w5 hown hgrow)
  have HO5 : Hid (w5.ownsRow w2.heap.size 37 6 v5 (0 + (l.take A).length + [c].length + (l.drop A).length) ([] ++ flatC (l.take A) ++ flatC [c] ++ flatC (l.drop A))) := hown
  have HB5 : Hid (Below w2.heap.size w2 w5) := HB4.out.trans (grown_belowC HO4.out hgrow HB4.out.size)
  clear hown hgrow
  go_ret2
  exact got_ok HR.out (own_join3 HO5.out) HB2.out.size (below_trans HB2.out HB5.out)

set_option maxRecDepth 100000 in
set_option maxHeartbeats 4000000 in
theorem rput_new1 (l : List Cl) (c : Cl) (b off cap : Nat) (w : World) (hv : Cv w (.slice (some ⟨b, off, none⟩) l.length cap) l) (ho : ordB l = true) (hlc : l.length ≤ cap) (hcm : cap ≤ maxLen) (hk : isK l (fndF l c.k) c.k = false) (h16 : l.length < 16) (hce : ¬ cap = fndF l c.k) :
    Calls Try.prog 18 #[.slice (some ⟨b, off, none⟩) l.length cap, .agg #[.int .u64 c.k, .bool c.p.h, .int .u64 c.p.b, .bool c.c.h, .int .u64 c.c.b, .int .i64 c.n]] w (CellsGot (putR l c) w) := by
  have HV : Hid (Cv w (.slice (some ⟨b, off, none⟩) l.length cap) l) := hv
  have HCB : Hid (CB (w.alloc (Obj.cells #[.int .u64 c.k, .bool c.p.h, .int .u64 c.p.b, .bool c.c.h, .int .u64 c.c.b, .int .i64 c.n] 37)) w.heap.size c) := cb_new w c
  have HB0 : Hid (Below w.heap.size w (w.alloc (Obj.cells #[.int .u64 c.k, .bool c.p.h, .int .u64 c.p.b, .bool c.c.h, .int .u64 c.c.b, .int .i64 c.n] 37))) := below_alloc _ _
  have HOB : Hid (ordB l = true) := ho
  obtain ⟨A, hA⟩ : ∃ A, A = fndF l c.k := ⟨_, rfl⟩
  have HA : Hid (A = fndF l c.k) := hA
  have HAL : Hid (A ≤ l.length) := by show _ ≤ _; rw [hA]; exact fnd_le l c.k
  have HIS : Hid (isK l A c.k = false) := by show _ = _; rw [hA]; exact hk
  have HR : Hid (putR l c = (l.take A ++ ([c] ++ l.drop A), 0)) := by show _ = _; unfold putR; rw [if_neg (by simp [ho]), if_neg (by simp [hk]), if_neg (by omega), hA]
  have HSZ : Hid ((l.length + 1) * 48 ≤ 140737488355328) := by show _ ≤ _; omega
  have h16i : ¬ (16 : Int) ≤ (l.length : Int) := by omega
  have hcmi : (cap : Int) ≤ 9223372036854775807 := by unfold maxLen at hcm; omega
  have hlci : (l.length : Int) ≤ (cap : Int) := by omega
  have hAi : (A : Int) ≤ (l.length : Int) := by have := HAL.out; omega
  have hAc : (A : Int) ≤ (cap : Int) := by omega
  have HLC : Hid (l.length ≤ cap) := hlc
  rw [← hA] at hce
  have HNE : Hid (¬ cap = A) := hce
  have hcne : ¬ (cap : Int) = (A : Int) := by omega
  clear hv hk hA ho h16 hlc hcm
  go_enter Try.func18, Try.ntmps18
  go_wp2_with fail
  refine (rrising_walk (HV.out.below HB0.out)).mono ?_
  rw [HOB.out]
  rintro e w1 ⟨rfl, hB1⟩
  have HB1 : Hid (Below w.heap.size w w1) := below_trans HB0.out hB1
  have HC1 : Hid (CB w1 w.heap.size c) := HCB.out.keep hB1
  have k0 := HC1.out.c0
  clear hB1
  go_wp2_with fail
  refine (rfind_walk (HV.out.below HB1.out) c.k).mono ?_
  rw [findI_ord HOB.out, findB_ord HOB.out, ← HA.out, HIS.out]
  rintro e w2 ⟨rfl, hB2⟩
  have HB2 : Hid (Below w.heap.size w w2) := below_trans HB1.out hB2
  have HC2 : Hid (CB w2 w.heap.size c) := HC1.out.keep hB2
  clear k0 hB2
  have HO0 : Hid ((w2.alloc (Obj.cells #[] 37)).ownsRow w2.heap.size 37 6 (.slice (some ⟨w2.heap.size, 0, none⟩) 0 0) 0 []) := World.ownsRow_made w2 #[] 0 (Nat.le_refl _) (by simp [maxLen]) rfl
  have HT1 : Hid (Cv (w2.alloc (Obj.cells #[] 37)) (.slice (some ⟨b, off, none⟩) A cap) (l.take A)) := (HV.out.below (below_trans HB2.out (below_alloc _ _))).upto A HAL.out
  go_upto_region 8 with (at_builtin; refine wpList_append_cv (by rfl) (.tmp 27) (.tmp 30) (by rfl) w2.heap.size _ _ _ (by rfl) HO0.out _ (l.take A) (by rfl) HT1.out (bm48 (tk_len A) HSZ.out) (bd48 (tk_len A) HSZ.out) (by rw [size_allocC]; omega) ?_; intro v3 w3 hown hgrow)
  have HO3 : Hid (w3.ownsRow w2.heap.size 37 6 v3 (0 + (l.take A).length) ([] ++ flatC (l.take A))) := hown
  have HB3 : Hid (Below w2.heap.size w2 w3) := (below_alloc w2 _).trans (grown_belowC HO0.out hgrow (by rw [size_allocC]; omega))
  clear hown hgrow HO0 HT1
  obtain ⟨c0, c1, c2, c3, c4, c5, zz⟩ := HC2.out.keep HB3.out
  go_upto_region 9 with (at_builtin; refine wpList_append_cv (by rfl) (.tmp 32) (.tmp 34) (by rfl) w2.heap.size _ _ _ (by rfl) (HO3.out.alloc _) _ [c] (by rfl) (cv_one w3 c) (bm48 (tk_len1 A c) HSZ.out) (bd48 (tk_len1 A c) HSZ.out) (by rw [size_allocC]; have := HB3.out.size; omega) ?_; intro v4 w4 hown hgrow)
  have HO4 : Hid (w4.ownsRow w2.heap.size 37 6 v4 (0 + (l.take A).length + [c].length) ([] ++ flatC (l.take A) ++ flatC [c])) := hown
  have HB4 : Hid (Below w2.heap.size w2 w4) := HB3.out.trans (((below_alloc w3 _).mono HB3.out.size).trans (grown_belowC (HO3.out.alloc _) hgrow (by rw [size_allocC]; have := HB3.out.size; omega)))
  have HT3 : Hid (Cv w4 (.slice (some ⟨b, off + A * 6, none⟩) (l.length - A) (cap - A)) (l.drop A)) := (by show Cv _ _ _; have := (HV.out.below (below_trans HB2.out HB4.out)).from A HAL.out HNE.out; simpa [WideShapes.add_plain] using this)
  clear hown hgrow c0 c1 c2 c3 c4 c5 zz HO3
  go_wp2_with (at_builtin; refine wpList_append_cv (by rfl) (.tmp 39) (.tmp 42) (by rfl) w2.heap.size _ _ _ (by rfl) HO4.out _ (l.drop A) (by rfl) HT3.out (bm48 (tk_len2 c (by omega)) HSZ.out) (bd48 (tk_len2 c (by omega)) HSZ.out) HB4.out.size ?_; intro v5 w5 hown hgrow)
  have HO5 : Hid (w5.ownsRow w2.heap.size 37 6 v5 (0 + (l.take A).length + [c].length + (l.drop A).length) ([] ++ flatC (l.take A) ++ flatC [c] ++ flatC (l.drop A))) := hown
  have HB5 : Hid (Below w2.heap.size w2 w5) := HB4.out.trans (grown_belowC HO4.out hgrow HB4.out.size)
  clear hown hgrow
  go_ret2
  exact got_ok HR.out (own_join3 HO5.out) HB2.out.size (below_trans HB2.out HB5.out)

set_option maxRecDepth 100000 in
set_option maxHeartbeats 4000000 in
theorem rput_nil (c : Cl) (w : World) :
    Calls Try.prog 18 #[.slice none 0 0, .agg #[.int .u64 c.k, .bool c.p.h, .int .u64 c.p.b, .bool c.c.h, .int .u64 c.c.b, .int .i64 c.n]] w (CellsGot (putR [] c) w) := by
  have HV : Hid (Cv w (.slice none 0 0) []) := Cv.nil w
  have HCB : Hid (CB (w.alloc (Obj.cells #[.int .u64 c.k, .bool c.p.h, .int .u64 c.p.b, .bool c.c.h, .int .u64 c.c.b, .int .i64 c.n] 37)) w.heap.size c) := cb_new w c
  have HB0 : Hid (Below w.heap.size w (w.alloc (Obj.cells #[.int .u64 c.k, .bool c.p.h, .int .u64 c.p.b, .bool c.c.h, .int .u64 c.c.b, .int .i64 c.n] 37))) := below_alloc _ _
  have HR : Hid (putR [] c = ([c], 0)) := rfl
  have HSZ : Hid ((([] : List Cl).length + 1) * 48 ≤ 140737488355328) := by show _ ≤ _; simp
  go_enter Try.func18, Try.ntmps18
  go_wp2_with fail
  refine (rrising_walk (HV.out.below HB0.out)).mono ?_
  rw [show ordB [] = true from rfl]
  rintro e w1 ⟨rfl, hB1⟩
  have HB1 : Hid (Below w.heap.size w w1) := below_trans HB0.out hB1
  have HC1 : Hid (CB w1 w.heap.size c) := HCB.out.keep hB1
  have k0 := HC1.out.c0
  clear hB1
  go_wp2_with fail
  refine (rfind_walk (HV.out.below HB1.out) c.k).mono ?_
  rw [show findI [] c.k = 0 from rfl, show findB [] c.k = false from rfl]
  rintro e w2 ⟨rfl, hB2⟩
  have HB2 : Hid (Below w.heap.size w w2) := below_trans HB1.out hB2
  have HC2 : Hid (CB w2 w.heap.size c) := HC1.out.keep hB2
  clear k0 hB2
  have HO0 : Hid ((w2.alloc (Obj.cells #[] 37)).ownsRow w2.heap.size 37 6 (.slice (some ⟨w2.heap.size, 0, none⟩) 0 0) 0 []) := World.ownsRow_made w2 #[] 0 (Nat.le_refl _) (by simp [maxLen]) rfl
  have HT1 : Hid (Cv (w2.alloc (Obj.cells #[] 37)) (.slice none 0 0) ([] : List Cl)) := (HV.out.below (below_trans HB2.out (below_alloc _ _)))
  go_upto_region 8 with (at_builtin; refine wpList_append_cv (by rfl) (.tmp 27) (.tmp 30) (by rfl) w2.heap.size _ _ _ (by rfl) HO0.out _ ([] : List Cl) (by rfl) HT1.out (bm48 (tk_len (l := []) 0) HSZ.out) (bd48 (tk_len (l := []) 0) HSZ.out) (by rw [size_allocC]; omega) ?_; intro v3 w3 hown hgrow)
  have HO3 : Hid (w3.ownsRow w2.heap.size 37 6 v3 (0 + ([] : List Cl).length) ([] ++ flatC ([] : List Cl))) := hown
  have HB3 : Hid (Below w2.heap.size w2 w3) := (below_alloc w2 _).trans (grown_belowC HO0.out hgrow (by rw [size_allocC]; omega))
  clear hown hgrow HO0 HT1
  obtain ⟨c0, c1, c2, c3, c4, c5, zz⟩ := HC2.out.keep HB3.out
  go_upto_region 9 with (at_builtin; refine wpList_append_cv (by rfl) (.tmp 32) (.tmp 34) (by rfl) w2.heap.size _ _ _ (by rfl) (HO3.out.alloc _) _ [c] (by rfl) (cv_one w3 c) (bm48 (tk_len1 (l := []) 0 c) HSZ.out) (bd48 (tk_len1 (l := []) 0 c) HSZ.out) (by rw [size_allocC]; have := HB3.out.size; omega) ?_; intro v4 w4 hown hgrow)
  have HO4 : Hid (w4.ownsRow w2.heap.size 37 6 v4 (0 + ([] : List Cl).length + [c].length) ([] ++ flatC ([] : List Cl) ++ flatC [c])) := hown
  have HB4 : Hid (Below w2.heap.size w2 w4) := HB3.out.trans (((below_alloc w3 _).mono HB3.out.size).trans (grown_belowC (HO3.out.alloc _) hgrow (by rw [size_allocC]; have := HB3.out.size; omega)))
  have HT3 : Hid (Cv w4 (.slice none 0 0) ([] : List Cl)) := (⟨_, _, rfl, by simp, by simp only [maxLen]; omega, by simp, fun i hi => by simp at hi⟩)
  clear hown hgrow c0 c1 c2 c3 c4 c5 zz HO3
  go_wp2_with (at_builtin; refine wpList_append_cv (by rfl) (.tmp 39) (.tmp 42) (by rfl) w2.heap.size _ _ _ (by rfl) HO4.out _ ([] : List Cl) (by rfl) HT3.out (bm48 (tk_len2 (l := []) (A := 0) (A2 := 0) c (by omega)) HSZ.out) (bd48 (tk_len2 (l := []) (A := 0) (A2 := 0) c (by omega)) HSZ.out) HB4.out.size ?_; intro v5 w5 hown hgrow)
  have HO5 : Hid (w5.ownsRow w2.heap.size 37 6 v5 (0 + ([] : List Cl).length + [c].length + ([] : List Cl).length) ([] ++ flatC ([] : List Cl) ++ flatC [c] ++ flatC ([] : List Cl))) := hown
  have HB5 : Hid (Below w2.heap.size w2 w5) := HB4.out.trans (grown_belowC HO4.out hgrow HB4.out.size)
  clear hown hgrow
  go_ret2
  exact got_ok HR.out (own_join3 (a := []) (b := [c]) (c := []) HO5.out) HB2.out.size (below_trans HB2.out HB5.out)

set_option maxRecDepth 100000 in
set_option maxHeartbeats 4000000 in
theorem rput_void0 (c : Cl) (w : World) (p : Addr) :
    Calls Try.prog 18 #[.slice (some p) 0 0, .agg #[.int .u64 c.k, .bool c.p.h, .int .u64 c.p.b, .bool c.c.h, .int .u64 c.c.b, .int .i64 c.n]] w (CellsGot (putR [] c) w) := by
  have HV : Hid (Cv w (.slice (some p) 0 0) []) := cv_void w (some p)
  have HCB : Hid (CB (w.alloc (Obj.cells #[.int .u64 c.k, .bool c.p.h, .int .u64 c.p.b, .bool c.c.h, .int .u64 c.c.b, .int .i64 c.n] 37)) w.heap.size c) := cb_new w c
  have HB0 : Hid (Below w.heap.size w (w.alloc (Obj.cells #[.int .u64 c.k, .bool c.p.h, .int .u64 c.p.b, .bool c.c.h, .int .u64 c.c.b, .int .i64 c.n] 37))) := below_alloc _ _
  have HR : Hid (putR [] c = ([c], 0)) := rfl
  have HSZ : Hid ((([] : List Cl).length + 1) * 48 ≤ 140737488355328) := by show _ ≤ _; simp
  go_enter Try.func18, Try.ntmps18
  go_wp2_with fail
  refine (rrising_walk (HV.out.below HB0.out)).mono ?_
  rw [show ordB [] = true from rfl]
  rintro e w1 ⟨rfl, hB1⟩
  have HB1 : Hid (Below w.heap.size w w1) := below_trans HB0.out hB1
  have HC1 : Hid (CB w1 w.heap.size c) := HCB.out.keep hB1
  have k0 := HC1.out.c0
  clear hB1
  go_wp2_with fail
  refine (rfind_walk (HV.out.below HB1.out) c.k).mono ?_
  rw [show findI [] c.k = 0 from rfl, show findB [] c.k = false from rfl]
  rintro e w2 ⟨rfl, hB2⟩
  have HB2 : Hid (Below w.heap.size w w2) := below_trans HB1.out hB2
  have HC2 : Hid (CB w2 w.heap.size c) := HC1.out.keep hB2
  clear k0 hB2
  have HO0 : Hid ((w2.alloc (Obj.cells #[] 37)).ownsRow w2.heap.size 37 6 (.slice (some ⟨w2.heap.size, 0, none⟩) 0 0) 0 []) := World.ownsRow_made w2 #[] 0 (Nat.le_refl _) (by simp [maxLen]) rfl
  have HT1 : Hid (Cv (w2.alloc (Obj.cells #[] 37)) (.slice (some p) 0 0) ([] : List Cl)) := (HV.out.below (below_trans HB2.out (below_alloc _ _)))
  go_upto_region 8 with (at_builtin; refine wpList_append_cv (by rfl) (.tmp 27) (.tmp 30) (by rfl) w2.heap.size _ _ _ (by rfl) HO0.out _ ([] : List Cl) (by rfl) HT1.out (bm48 (tk_len (l := []) 0) HSZ.out) (bd48 (tk_len (l := []) 0) HSZ.out) (by rw [size_allocC]; omega) ?_; intro v3 w3 hown hgrow)
  have HO3 : Hid (w3.ownsRow w2.heap.size 37 6 v3 (0 + ([] : List Cl).length) ([] ++ flatC ([] : List Cl))) := hown
  have HB3 : Hid (Below w2.heap.size w2 w3) := (below_alloc w2 _).trans (grown_belowC HO0.out hgrow (by rw [size_allocC]; omega))
  clear hown hgrow HO0 HT1
  obtain ⟨c0, c1, c2, c3, c4, c5, zz⟩ := HC2.out.keep HB3.out
  go_upto_region 9 with (at_builtin; refine wpList_append_cv (by rfl) (.tmp 32) (.tmp 34) (by rfl) w2.heap.size _ _ _ (by rfl) (HO3.out.alloc _) _ [c] (by rfl) (cv_one w3 c) (bm48 (tk_len1 (l := []) 0 c) HSZ.out) (bd48 (tk_len1 (l := []) 0 c) HSZ.out) (by rw [size_allocC]; have := HB3.out.size; omega) ?_; intro v4 w4 hown hgrow)
  have HO4 : Hid (w4.ownsRow w2.heap.size 37 6 v4 (0 + ([] : List Cl).length + [c].length) ([] ++ flatC ([] : List Cl) ++ flatC [c])) := hown
  have HB4 : Hid (Below w2.heap.size w2 w4) := HB3.out.trans (((below_alloc w3 _).mono HB3.out.size).trans (grown_belowC (HO3.out.alloc _) hgrow (by rw [size_allocC]; have := HB3.out.size; omega)))
  have HT3 : Hid (Cv w4 (.slice (some p) 0 0) ([] : List Cl)) := (⟨_, _, rfl, by simp, by simp only [maxLen]; omega, by simp, fun i hi => by simp at hi⟩)
  clear hown hgrow c0 c1 c2 c3 c4 c5 zz HO3
  go_wp2_with (at_builtin; refine wpList_append_cv (by rfl) (.tmp 39) (.tmp 42) (by rfl) w2.heap.size _ _ _ (by rfl) HO4.out _ ([] : List Cl) (by rfl) HT3.out (bm48 (tk_len2 (l := []) (A := 0) (A2 := 0) c (by omega)) HSZ.out) (bd48 (tk_len2 (l := []) (A := 0) (A2 := 0) c (by omega)) HSZ.out) HB4.out.size ?_; intro v5 w5 hown hgrow)
  have HO5 : Hid (w5.ownsRow w2.heap.size 37 6 v5 (0 + ([] : List Cl).length + [c].length + ([] : List Cl).length) ([] ++ flatC ([] : List Cl) ++ flatC [c] ++ flatC ([] : List Cl))) := hown
  have HB5 : Hid (Below w2.heap.size w2 w5) := HB4.out.trans (grown_belowC HO4.out hgrow HB4.out.size)
  clear hown hgrow
  go_ret2
  exact got_ok HR.out (own_join3 (a := []) (b := [c]) (c := []) HO5.out) HB2.out.size (below_trans HB2.out HB5.out)

set_option maxRecDepth 100000 in
set_option maxHeartbeats 4000000 in
theorem rput_void1 (c : Cl) (w : World) (p : Addr) (cap : Nat) (hcm : cap ≤ maxLen) (hce : ¬ cap = 0) :
    Calls Try.prog 18 #[.slice (some p) 0 cap, .agg #[.int .u64 c.k, .bool c.p.h, .int .u64 c.p.b, .bool c.c.h, .int .u64 c.c.b, .int .i64 c.n]] w (CellsGot (putR [] c) w) := by
  have HV : Hid (Cv w (.slice (some p) 0 cap) []) := ⟨some p, cap, rfl, by simp, hcm, by simp, fun i hi => by simp at hi⟩
  have HCB : Hid (CB (w.alloc (Obj.cells #[.int .u64 c.k, .bool c.p.h, .int .u64 c.p.b, .bool c.c.h, .int .u64 c.c.b, .int .i64 c.n] 37)) w.heap.size c) := cb_new w c
  have HB0 : Hid (Below w.heap.size w (w.alloc (Obj.cells #[.int .u64 c.k, .bool c.p.h, .int .u64 c.p.b, .bool c.c.h, .int .u64 c.c.b, .int .i64 c.n] 37))) := below_alloc _ _
  have HR : Hid (putR [] c = ([c], 0)) := rfl
  have HSZ : Hid ((([] : List Cl).length + 1) * 48 ≤ 140737488355328) := by show _ ≤ _; simp
  have hcmi : (cap : Int) ≤ 9223372036854775807 := by unfold maxLen at hcm; omega
  have hc0 : (0 : Int) ≤ (cap : Int) := by omega
  have hce' : ¬ (cap : Int) = 0 := by omega
  have HCM : Hid (cap ≤ maxLen) := hcm
  clear hcm
  go_enter Try.func18, Try.ntmps18
  go_wp2_with fail
  refine (rrising_walk (HV.out.below HB0.out)).mono ?_
  rw [show ordB [] = true from rfl]
  rintro e w1 ⟨rfl, hB1⟩
  have HB1 : Hid (Below w.heap.size w w1) := below_trans HB0.out hB1
  have HC1 : Hid (CB w1 w.heap.size c) := HCB.out.keep hB1
  have k0 := HC1.out.c0
  clear hB1
  go_wp2_with fail
  refine (rfind_walk (HV.out.below HB1.out) c.k).mono ?_
  rw [show findI [] c.k = 0 from rfl, show findB [] c.k = false from rfl]
  rintro e w2 ⟨rfl, hB2⟩
  have HB2 : Hid (Below w.heap.size w w2) := below_trans HB1.out hB2
  have HC2 : Hid (CB w2 w.heap.size c) := HC1.out.keep hB2
  clear k0 hB2
  have HO0 : Hid ((w2.alloc (Obj.cells #[] 37)).ownsRow w2.heap.size 37 6 (.slice (some ⟨w2.heap.size, 0, none⟩) 0 0) 0 []) := World.ownsRow_made w2 #[] 0 (Nat.le_refl _) (by simp [maxLen]) rfl
  have HT1 : Hid (Cv (w2.alloc (Obj.cells #[] 37)) (.slice (some p) 0 cap) ([] : List Cl)) := (HV.out.below (below_trans HB2.out (below_alloc _ _)))
  go_upto_region 8 with (at_builtin; refine wpList_append_cv (by rfl) (.tmp 27) (.tmp 30) (by rfl) w2.heap.size _ _ _ (by rfl) HO0.out _ ([] : List Cl) (by rfl) HT1.out (bm48 (tk_len (l := []) 0) HSZ.out) (bd48 (tk_len (l := []) 0) HSZ.out) (by rw [size_allocC]; omega) ?_; intro v3 w3 hown hgrow)
  have HO3 : Hid (w3.ownsRow w2.heap.size 37 6 v3 (0 + ([] : List Cl).length) ([] ++ flatC ([] : List Cl))) := hown
  have HB3 : Hid (Below w2.heap.size w2 w3) := (below_alloc w2 _).trans (grown_belowC HO0.out hgrow (by rw [size_allocC]; omega))
  clear hown hgrow HO0 HT1
  obtain ⟨c0, c1, c2, c3, c4, c5, zz⟩ := HC2.out.keep HB3.out
  go_upto_region 9 with (at_builtin; refine wpList_append_cv (by rfl) (.tmp 32) (.tmp 34) (by rfl) w2.heap.size _ _ _ (by rfl) (HO3.out.alloc _) _ [c] (by rfl) (cv_one w3 c) (bm48 (tk_len1 (l := []) 0 c) HSZ.out) (bd48 (tk_len1 (l := []) 0 c) HSZ.out) (by rw [size_allocC]; have := HB3.out.size; omega) ?_; intro v4 w4 hown hgrow)
  have HO4 : Hid (w4.ownsRow w2.heap.size 37 6 v4 (0 + ([] : List Cl).length + [c].length) ([] ++ flatC ([] : List Cl) ++ flatC [c])) := hown
  have HB4 : Hid (Below w2.heap.size w2 w4) := HB3.out.trans (((below_alloc w3 _).mono HB3.out.size).trans (grown_belowC (HO3.out.alloc _) hgrow (by rw [size_allocC]; have := HB3.out.size; omega)))
  have HT3 : Hid (Cv w4 (.slice (some p) 0 cap) ([] : List Cl)) := (⟨_, _, rfl, by simp, HCM.out, by simp, fun i hi => by simp at hi⟩)
  clear hown hgrow c0 c1 c2 c3 c4 c5 zz HO3
  go_wp2_with (at_builtin; refine wpList_append_cv (by rfl) (.tmp 39) (.tmp 42) (by rfl) w2.heap.size _ _ _ (by rfl) HO4.out _ ([] : List Cl) (by rfl) HT3.out (bm48 (tk_len2 (l := []) (A := 0) (A2 := 0) c (by omega)) HSZ.out) (bd48 (tk_len2 (l := []) (A := 0) (A2 := 0) c (by omega)) HSZ.out) HB4.out.size ?_; intro v5 w5 hown hgrow)
  have HO5 : Hid (w5.ownsRow w2.heap.size 37 6 v5 (0 + ([] : List Cl).length + [c].length + ([] : List Cl).length) ([] ++ flatC ([] : List Cl) ++ flatC [c] ++ flatC ([] : List Cl))) := hown
  have HB5 : Hid (Below w2.heap.size w2 w5) := HB4.out.trans (grown_belowC HO4.out hgrow HB4.out.size)
  clear hown hgrow
  go_ret2
  exact got_ok HR.out (own_join3 (a := []) (b := [c]) (c := []) HO5.out) HB2.out.size (below_trans HB2.out HB5.out)

theorem rput_walk11 {w : World} {v : Value} {l : List Cl} (h : Cv w v l) (c : Cl) (hsz : (l.length + 1) * 48 ≤ 140737488355328) :
    Calls Try.prog 18 #[v, .agg #[.int .u64 c.k, .bool c.p.h, .int .u64 c.p.b, .bool c.c.h, .int .u64 c.c.b, .int .i64 c.n]] w (CellsGot (putR l c) w) := by
  have hv := h
  obtain ⟨ao, cap, rfl, hlc, hcm, hno, _⟩ := h
  cases ho : ordB l
  · exact rput_bad l c _ w hv ho
  · cases hk : isK l (fndF l c.k) c.k
    · by_cases h16 : 16 ≤ l.length
      · exact rput_full l c ao cap w hv ho hk h16
      · by_cases hp : 0 < l.length
        · rcases cv_cases hv with ⟨h0, _⟩ | ⟨b, off, cap', e, _⟩
          · rw [h0] at hp; simp at hp
          · cases e
            by_cases hce : cap = fndF l c.k
            · exact rput_new0 l c b off cap w hv ho hlc hcm hk (by omega) hce
            · exact rput_new1 l c b off cap w hv ho hlc hcm hk (by omega) hce
        · obtain rfl : l = [] := List.eq_nil_of_length_eq_zero (by omega)
          cases ao with
          | none => obtain rfl := hno rfl; exact rput_nil c w
          | some p =>
            by_cases hce : cap = 0
            · subst hce; exact rput_void0 c w p
            · exact rput_void1 c w p cap hcm hce
    · have hlt := isK_lt hk
      rcases cv_cases hv with ⟨h0, _⟩ | ⟨b, off, cap', e, _⟩
      · rw [h0] at hlt; simp at hlt
      · cases e
        by_cases hce : cap = fndF l c.k + 1
        · exact rput_there0 l c b off cap w hv ho hlc hcm hk hsz hce
        · exact rput_there1 l c b off cap w hv ho hlc hcm hk hsz hce

theorem fl_len (l : List Cl) (i k : Nat) (c : Cl) : ((l.take i).filter (neK k)).length + [c].length ≤ l.length + 1 := by have := filt_len l i k; simp; omega
/-- Where the reference's Drop stands. -/
def RdRel (l : List Cl) (k : Nat) (w : World) (v iv : Value) (wr : World) : Prop :=
  ∃ i : Nat, iv = .int .i64 i ∧ i ≤ l.length ∧ wr.ownsRow w.heap.size 37 6 v ((l.take i).filter (neK k)).length (flatC ((l.take i).filter (neK k))) ∧ Below w.heap.size w wr
theorem rdrel_step {l : List Cl} {i k : Nat} {w wr w2 : World} {v v' : Value} (hi : i < l.length) (hk : l[i].k ≠ k) (o : Obj) (hbel : Below w.heap.size w wr) (ho : wr.ownsRow w.heap.size 37 6 v ((l.take i).filter (neK k)).length (flatC ((l.take i).filter (neK k))))
    (h : w2.ownsRow w.heap.size 37 6 v' (((l.take i).filter (neK k)).length + [l[i]].length) (flatC ((l.take i).filter (neK k)) ++ flatC [l[i]])) (hg : (wr.alloc o).grownBy w2 v.ownBlock) : RdRel l k w v' (.int .i64 ((i : Int) + 1)) w2 := by
  refine ⟨i + 1, rfl, hi, ?_, hbel.trans (((below_alloc wr o).mono hbel.size).trans (grown_belowC (ho.alloc o) hg (by rw [size_allocC]; have := hbel.size; omega)))⟩
  rw [filt_succ hi hk, List.length_append, flatC_append]
  exact h

set_option maxRecDepth 100000 in
set_option maxHeartbeats 2000000 in
theorem rdrop_some (l : List Cl) (k b off cap : Nat) (w : World) (hv : Cv w (.slice (some ⟨b, off, none⟩) l.length cap) l) (hp : 0 < l.length) (ho : ordB l = true) (hsz : (l.length + 1) * 48 ≤ 140737488355328) :
    Calls Try.prog 20 #[.slice (some ⟨b, off, none⟩) l.length cap, .int .u64 k] w (CellsGot (dropR l k) w) := by
  have HV : Hid (Cv w (.slice (some ⟨b, off, none⟩) l.length cap) l) := hv
  have HOB : Hid (ordB l = true) := ho
  have HSZ : Hid ((l.length + 1) * 48 ≤ 140737488355328) := hsz
  have HR : Hid (dropR l k = (l.filter (neK k), 0)) := dropR_filter ho
  have hli : (l.length : Int) ≤ 9223372036854775807 := by omega
  clear hv ho hsz hp
  go_enter Try.func20, Try.ntmps20
  go_wp2_with fail
  refine (rrising_walk HV.out).mono ?_
  rw [HOB.out]
  rintro e w1 ⟨rfl, hB1⟩
  have HST : Hid (RdRel l k w (.slice (some ⟨w1.heap.size, 0, none⟩) 0 0) (.int .i64 0) (w1.alloc (.cells #[] 37))) := ⟨0, rfl, by omega, own_baseC (World.ownsRow_made w1 #[] 0 (Nat.le_refl _) (by simp [maxLen]) rfl) hB1.size, below_trans hB1 (below_alloc _ _)⟩
  clear hB1
  go_wp2_with fail
  go_loopw [6, 7] (fun v iv wr => RdRel l k w v iv wr) (fun _ iv _ => l.length - (intOf iv).toNat)
  case atStart => exact HST.out
  case round =>
    clear HST
    obtain ⟨i, rfl, hil, hown, hbel⟩ := hrel
    have HB : Hid (Below w.heap.size w wr) := hbel
    have HO : Hid (wr.ownsRow w.heap.size 37 6 u6 ((l.take i).filter (neK k)).length (flatC ((l.take i).filter (neK k)))) := hown
    clear hbel hown
    by_cases hlt : i < l.length
    · have hA := (HV.out.at i hlt).keep HB.out
      obtain ⟨c, hcd⟩ : ∃ c, l[i] = c := ⟨_, rfl⟩
      rw [hcd] at hA
      have HCD : Hid (l[i] = c) := hcd
      clear hcd
      obtain ⟨c0, c1, c2, c3, c4, c5⟩ := hA
      have hlti : (i : Int) < (l.length : Int) := by omega
      by_cases hk : c.k = k
      · have hkb : ((c.k : Int) != (k : Int)) = false := by simp [hk]
        have HF : Hid ((l.take (i + 1)).filter (neK k) = (l.take i).filter (neK k)) := filt_skip hlt (by rw [HCD.out]; exact hk)
        clear hk
        go_wp2_with fail
        go_roundw
        case rel => exact ⟨i + 1, by go_num, hlt, by rw [HF.out]; exact HO.out, HB.out⟩
        case measure => simp [intOf]; omega
      · have hkb : ((c.k : Int) != (k : Int)) = true := by rw [bne_iff_ne]; omega
        have HK : Hid (l[i].k ≠ k) := by show _ ≠ _; rw [HCD.out]; exact hk
        clear hk
        go_upto_region 6 with (at_builtin; refine wpList_append_cv (by rfl) (.tmp 25) (.tmp 30) (by rfl) w.heap.size _ _ _ (by rfl) (HO.out.alloc _) _ [c] (by rfl) (cv_one wr c) (bm48 (fl_len l i k c) HSZ.out) (bd48 (fl_len l i k c) HSZ.out) (by rw [size_allocC]; have := HB.out.size; omega) ?_; intro v2 w2 hown hgrow)
        have R : Hid (RdRel l k w v2 (.int .i64 ((i : Int) + 1)) w2) := rdrel_step hlt HK.out _ HB.out HO.out (by rw [HCD.out]; exact hown) hgrow
        clear hown hgrow c0 c1 c2 c3 c4 c5
        go_wp2_with fail
        go_roundw
        case rel => exact R.out
        case measure => simp [intOf]; omega
    · have hlti : ¬ (i : Int) < (l.length : Int) := by omega
      have HF : Hid (l.take i = l) := List.take_of_length_le (by omega)
      go_wp2_with fail
      go_ret2
      exact got_ok HR.out (by have := HO.out; rw [HF.out] at this; exact this) (Nat.le_refl _) HB.out

set_option maxRecDepth 100000 in
theorem rdrop_none (k : Nat) (ao : Option Addr) (cap : Nat) (w : World) :
    Calls Try.prog 20 #[.slice ao 0 cap, .int .u64 k] w (CellsGot (dropR [] k) w) := by
  go_enter Try.func20, Try.ntmps20
  go_wp2_with fail
  refine (rrising_none ao cap _).mono ?_
  rintro e w1 ⟨rfl, hB1⟩
  go_wp2_with fail
  refine wp_loop_rounds 1 ?_
  rw [rounds_succ]
  go_wp2_with fail
  go_ret2
  exact got_ok (l := []) rfl (World.ownsRow_made w1 #[] 0 (Nat.le_refl _) (by simp [maxLen]) rfl) hB1.size (below_trans hB1 (below_alloc _ _))

theorem rdrop_bad (l : List Cl) (k : Nat) (v : Value) (w : World) (hv : Cv w v l) (ho : ordB l = false) :
    Calls Try.prog 20 #[v, .int .u64 k] w (CellsGot (dropR l k) w) := by
  have HR : Hid (dropR l k = ([], 7)) := by show _ = _; unfold dropR; rw [if_pos ho]
  go_enter Try.func20, Try.ntmps20
  go_wp2_with fail
  refine (rrising_walk hv).mono ?_
  rw [ho]
  rintro e w1 ⟨rfl, hB1⟩
  go_wp2_with fail
  go_ret2
  exact got_bad HR.out rfl hB1

theorem rdrop_walk {w : World} {v : Value} {l : List Cl} (h : Cv w v l) (k : Nat) (hsz : (l.length + 1) * 48 ≤ 140737488355328) :
    Calls Try.prog 20 #[v, .int .u64 k] w (CellsGot (dropR l k) w) := by
  cases ho : ordB l
  · exact rdrop_bad l k v w h ho
  · rcases cv_cases h with ⟨rfl, ao, cap, rfl⟩ | ⟨b, off, cap, rfl, hp, _⟩
    · exact rdrop_none k ao cap w
    · exact rdrop_some l k b off cap w h hp ho hsz

end Go.Proofs.Ytjcmmhonidamoaa
