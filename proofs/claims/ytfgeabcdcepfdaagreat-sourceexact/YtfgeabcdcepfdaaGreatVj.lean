/- awake: the answers that the document fixes by number. -/
import Derived.Test.YtfgeabcdcepfdaaGreatVi
namespace Go.Proofs.YtfgeabcdcepfdaaGreat
open Ieee Go.RowKit
attribute [local go_sem] run_store_float

def awL : List Stp := [⟨1, 0, 4617315517961601024⟩, ⟨11, 3, 0⟩]
def awA : Rcd := ⟨7, 4607182418800017408⟩
def awB : Rcd := ⟨9, 4620693217682128896⟩
theorem aw_chk : checkB awL = true := by kernel_rfl
theorem aw_a : runS awL awA = (1, ⟨1, 4607182418800017408⟩) := by kernel_rfl
theorem aw_b : (runS awL awB).1 = 2 := by kernel_rfl
def awS1 : Sc := addS (newS 2 awL) 0 awA [1]
def awS2 : Sc := addS awS1 0 awB [1]
theorem aw_p1 : prodS (newS 2 awL) 0 awA = (0, awS1) := by
  unfold prodS
  rw [if_pos (by unfold hasS newS; simp), if_neg (by simp [newS]), if_pos (by show (runS awL awA).1 = 1; rw [aw_a]), if_pos (by right; simp [newS])]
  show (0, addS (newS 2 awL) 0 awA (insK (runS awL awA).2.k [])) = _
  rw [aw_a]; rfl
theorem aw_log1 : awS1.logs 0 = [awA] := by show upd (newS 2 awL).logs 0 ((newS 2 awL).logs 0 ++ [awA]) 0 = _; rw [upd_same]; rfl
theorem aw_log2 : awS2.logs 0 = [awA, awB] := by show upd awS1.logs 0 (awS1.logs 0 ++ [awB]) 0 = _; rw [upd_same, aw_log1]; rfl
theorem aw_p2 : prodS awS1 0 awB = (0, awS2) := by
  unfold prodS
  rw [if_pos (by unfold hasS; show (0 : Int) ≤ 0 ∧ (0 : Int) < ((2 : Nat) : Int); simp), if_neg (by show ¬ 256 ≤ (awS1.logs 0).length; rw [aw_log1]; simp), if_neg (by show ¬ (runS awL awB).1 = 1; rw [aw_b]; simp)]
  rfl
theorem aw_p3 : prodS awS2 2 ⟨0, 0⟩ = (60, awS2) := by
  unfold prodS
  rw [if_neg (by unfold hasS; show ¬ ((0 : Int) ≤ 2 ∧ (2 : Int) < ((2 : Nat) : Int)); simp)]
theorem aw_has (p : Int) (h0 : 0 ≤ p) (h1 : p < 2) : hasS awS2 p := ⟨h0, h1⟩
theorem aw_ri : readI awS2 0 1 9 = 0 := by
  unfold readI
  rw [if_pos (aw_has 0 (by omega) (by omega)), if_neg (by show ¬ ((1 : Int) < 0 ∨ (1 : Int) > ((awS2.logs 0).length : Nat) ∨ (9 : Int) < 0); rw [aw_log2]; simp), if_pos (by rfl)]
theorem aw_rl : readL awS2 0 1 9 = [awB] := by
  unfold readL
  rw [if_pos aw_ri]
  show ((awS2.logs 0).drop 1).take 9 = _
  rw [aw_log2]; rfl
theorem aw_len : lenS awS2 0 = 2 := by
  unfold lenS
  rw [if_pos (aw_has 0 (by omega) (by omega))]
  show (awS2.logs 0).length = 2
  rw [aw_log2]; rfl
theorem aw_up : upS awS2 1 = true := by
  unfold upS
  rw [if_pos (aw_has 1 (by omega) (by omega))]; rfl
theorem aw_lg : logS awS2 0 = [awA, awB] := by
  unfold logS
  rw [if_pos (aw_has 0 (by omega) (by omega))]
  exact aw_log2
theorem ok_awA : awA.ok := ⟨by simp [awA], by simp [awA]⟩
theorem ok_awB : awB.ok := ⟨by simp [awB], by simp [awB]⟩

theorem aw_ov (w : World) (t : TypeId) : Ov (w.alloc (Obj.cells #[.int .i64 1, .int .i64 0, .float .f64 4617315517961601024, .int .i64 11, .int .i64 3, .float .f64 0] t)) (.slice (some ⟨w.heap.size, 0, none⟩) 2 2) awL := by
  refine ⟨⟨_, 2, rfl, by simp [awL], by simp [maxLen], by simp, fun i hi => ?_⟩, ?_⟩
  · have : i = 0 ∨ i = 1 := by have : i < 2 := hi; omega
    rcases this with rfl | rfl <;> (refine ⟨_, _, rfl, ?_, ?_, ?_⟩ <;> simp [go_sem, awL])
  · intro o ho
    simp [awL] at ho
    rcases ho with rfl | rfl <;> exact ⟨⟨by simp, by simp⟩, ⟨by simp, by simp⟩, by simp⟩

theorem rl_one (w : World) (g : Nat) (hg : g = w.heap.size) (r : Rcd) (t : TypeId) : Rl (w.alloc (Obj.cells #[.int .u64 r.k, .float .f64 r.x] t)) (some ⟨g, 0, none⟩) [r] := by
  subst hg
  intro i hi
  have : i = 0 := by simpa using hi
  subst this
  refine ⟨_, _, rfl, ?_, ?_⟩ <;> simp [go_sem]
theorem kl_one (w : World) (g k : Nat) (hg : g = w.heap.size) (t : TypeId) : Kl (w.alloc (Obj.cells #[.int .u64 (k : Nat)] t)) (some ⟨g, 0, none⟩) [k] := by
  subst hg
  intro i hi
  have : i = 0 := by simpa using hi
  subst this
  refine ⟨_, _, rfl, ?_⟩; simp [go_sem]

set_option maxRecDepth 100000 in
set_option maxHeartbeats 4000000 in
theorem awake_walk (w : World) :
    Calls Tryz.prog 4 #[] w fun e w' => e = .returned (.bool true) ∧ Below w.heap.size w w' := by
  go_enter Tryz.func4, Tryz.ntmps4
  go_wp2_with fail
  refine (newB (n := 2) (l := awL) (by omega) (by omega) (aw_ov w _) aw_chk).mono ?_
  rintro e w1 ⟨v, rfl, hS, hB⟩
  have HS1 : Hid (Sb w.heap.size w1 v (newS 2 awL)) := hS.mono (below_alloc _ _).size
  have HB1 : Hid (Below w.heap.size w w1) := below_trans (below_alloc _ _) hB
  obtain ⟨sb, rfl⟩ := hS.form
  clear hS hB
  go_wp2_with fail
  refine (produceB HS1.out HB1.out.size 0 ok_awA).mono ?_
  rw [aw_p1]
  rintro e w2 ⟨rfl, hS, hB, _⟩
  have HS2 : Hid (Sb w.heap.size w2 (.pointer (some ⟨sb, 0, none⟩)) awS1) := hS
  have HB2 : Hid (Below w.heap.size w w2) := HB1.out.trans hB
  clear hS hB
  go_wp2_with fail
  refine (produceB HS2.out HB2.out.size 0 ok_awB).mono ?_
  rw [aw_p2]
  rintro e w3 ⟨rfl, hS, hB, _⟩
  have HS3 : Hid (Sb w.heap.size w3 (.pointer (some ⟨sb, 0, none⟩)) awS2) := hS
  have HB3 : Hid (Below w.heap.size w w3) := HB2.out.trans hB
  clear hS hB
  go_wp2_with fail
  refine (readB HS3.out 0 1 9 (by omega) (by omega)).mono ?_
  rw [aw_ri, aw_rl]
  rintro e w4 ⟨rd, rfl, hr, hB⟩
  obtain ⟨ro, rc, rfl, hrl⟩ := own_rl hr (by simpa using ok_awB)
  have HR4 : Hid (Rl w4 ro [awB]) := hrl
  have HS4 : Hid (Sb w.heap.size w4 (.pointer (some ⟨sb, 0, none⟩)) awS2) := HS3.out.below hB
  have HB4 : Hid (Below w.heap.size w w4) := below_trans HB3.out hB
  clear hr hrl hB
  rw [show ([awB] : List Rcd).length = 1 from rfl]
  go_wp2_with (first
    | (go_at_call 20; refine (produceB HS4.out HB4.out.size 2 (r := ⟨0, 0⟩) ⟨by simp, by simp⟩).mono ?_; rw [aw_p3]; rintro e w5 ⟨rfl, hS5, _, hB5⟩; have HS5 : Hid (Sb w.heap.size w5 (.pointer (some ⟨sb, 0, none⟩)) awS2) := hS5; have HQ5 : Hid (Below w4.heap.size w4 w5) := hB5 (by simp); clear hS5 hB5)
    | (go_at_call 18; refine (lenB HS5.out 0).mono ?_; rw [aw_len]; rintro e w9 ⟨rfl, h9⟩; have h9 := h9.symm; subst h9))
  refine (lrecs_walk (l := [awB]) (by simp) (HR4.out.below (below_trans HQ5.out (below_alloc _ _))) (rl_one w5 _ rfl awB _)).mono ?_
  rintro e w6 ⟨rfl, hB6⟩
  have HB56 : Hid (Below w5.heap.size w5 w6) := below_trans (below_alloc _ _) hB6
  have HS6 : Hid (Sb w.heap.size w6 (.pointer (some ⟨sb, 0, none⟩)) awS2) := HS5.out.below HB56.out
  have HB6 : Hid (Below w.heap.size w w6) := below_trans (below_trans HB4.out HQ5.out) HB56.out
  clear hB6
  go_wp2_with fail
  refine (keysB HS6.out).mono ?_
  rintro e w7 ⟨kv, rfl, hk, hB7⟩
  obtain ⟨ko, kc, hkv, hkl⟩ := own_kl (l := [1]) hk
  subst hkv
  have HK7 : Hid (Kl w7 ko [1]) := hkl
  have HS7 : Hid (Sb w.heap.size w7 (.pointer (some ⟨sb, 0, none⟩)) awS2) := HS6.out.below hB7
  have HB7 : Hid (Below w.heap.size w w7) := below_trans HB6.out hB7
  clear hk hkl hB7
  rw [show ([1] : List Nat).length = 1 from rfl]
  go_wp2_with fail
  refine (kkeys_walk (l := [1]) (by simp) (HK7.out.below (below_alloc _ _)) (kl_one w7 _ 1 rfl _)).mono ?_
  rintro e w8 ⟨rfl, hB8⟩
  have HS8 : Hid (Sb w.heap.size w8 (.pointer (some ⟨sb, 0, none⟩)) awS2) := HS7.out.below (below_trans (below_alloc _ _) hB8)
  have HB8 : Hid (Below w.heap.size w w8) := below_trans (below_trans HB7.out (below_alloc _ _)) hB8
  clear hB8
  go_wp2_with (first
    | (go_at_call 16; refine (upB HS8.out 1).mono ?_; rw [aw_up]; rintro e w9 ⟨rfl, h9⟩; have h9 := h9.symm; subst h9)
    | (go_at_call 11; refine (partsB HS8.out).mono ?_; rw [show awS2.np = 2 from rfl]; rintro e w9 ⟨rfl, h9⟩; have h9 := h9.symm; subst h9))
  refine (logB HS8.out 0).mono ?_
  rw [aw_lg]
  rintro e w9 ⟨lg, rfl, hr, hB9⟩
  obtain ⟨lo, lc, rfl, _⟩ := own_rl hr (by intro r hr; simp at hr; rcases hr with rfl | rfl; exact ok_awA; exact ok_awB)
  have HB9 : Hid (Below w.heap.size w w9) := below_trans HB8.out hB9
  clear hr hB9
  rw [show ([awA, awB] : List Rcd).length = 2 from rfl]
  go_wp2_with fail
  go_ret
  exact ⟨rfl, HB9.out⟩
end Go.Proofs.YtfgeabcdcepfdaaGreat
