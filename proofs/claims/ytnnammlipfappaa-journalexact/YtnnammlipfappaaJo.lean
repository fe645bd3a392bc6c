/- awake; how a statement begins. -/
import Derived.Test.YtnnammlipfappaaJn

import Derived.Lib.SlBytesConst

namespace Go.Proofs.Ytnnammlipfappaa

open Ieee Go.RowKit



theorem lit_image18 (w : World) : PvD (((w.alloc (.cells #[.int .u8 3, .int .u8 1, .int .u8 1, .int .u8 1, .int .u8 0, .int .u8 1, .int .u8 5] 5 (7, 8))).alloc (.cells #[.int .u8 2, .int .u8 0, .int .u8 1, .int .u8 1, .int .u8 0, .int .u8 1, .int .u8 0] 5 (7, 8))).alloc (.cells #[.slice (some ⟨w.heap.size, 0, none⟩) 7 7, .slice (some ⟨w.heap.size + 1, 0, none⟩) 7 7] 57))
    (.slice (some ⟨w.heap.size + 1 + 1, 0, none⟩) 2 2) [[3, 1, 1, 1, 0, 1, 5], [2, 0, 1, 1, 0, 1, 0]] := by
  have h1 := (lit_bv w [3, 1, 1, 1, 0, 1, 5] 5 (7, 8) (by simp [maxLen]) (by decide)).below (below_trans (below_alloc _ (.cells #[.int .u8 2, .int .u8 0, .int .u8 1, .int .u8 1, .int .u8 0, .int .u8 1, .int .u8 0] 5 (7, 8))) (below_alloc _ (.cells #[.slice (some ⟨w.heap.size, 0, none⟩) 7 7, .slice (some ⟨w.heap.size + 1, 0, none⟩) 7 7] 57)))
  have h2 := (lit_bv (w.alloc (.cells #[.int .u8 3, .int .u8 1, .int .u8 1, .int .u8 1, .int .u8 0, .int .u8 1, .int .u8 5] 5 (7, 8))) [2, 0, 1, 1, 0, 1, 0] 5 (7, 8) (by simp [maxLen]) (by decide)).below (below_alloc _ (.cells #[.slice (some ⟨w.heap.size, 0, none⟩) 7 7, .slice (some ⟨w.heap.size + 1, 0, none⟩) 7 7] 57))
  refine ⟨_, 2, rfl, Nat.le_refl _, by simp [maxLen], by simp, fun i hi => ?_⟩
  simp at hi
  have : i = 0 ∨ i = 1 := by omega
  rcases this with rfl | rfl
  · exact ⟨_, _, _, rfl, by simp [go_sem], h1⟩
  · exact ⟨w.heap.size + 1 + 1, 0, .slice (some ⟨w.heap.size + 1, 0, none⟩) 7 7, rfl, by simp [go_sem], by have h := h2; rw [alloc_size] at h; exact h⟩


def aN1 : Nt := ⟨0, [0], [0], 1⟩
def aN2 : Nt := ⟨1, [0], [5], 1⟩
def aN3 : Nt := ⟨2, [4], [6], 1⟩
def aS1 : Dk := ⟨[[1, 0, 0, 1, 0, 1, 0], []], false, -1, 0, 2⟩
def aS2 : Dk := ⟨[[1, 0, 0, 1, 0, 1, 0], [2, 0, 1, 1, 0, 1, 0]], false, -1, 0, 3⟩
def aS3 : Dk := ⟨[[3, 1, 1, 1, 0, 1, 5], [2, 0, 1, 1, 0, 1, 0]], false, -1, 0, 4⟩
theorem aw18_0 : fmtI (loadS (List.replicate 2 [])) 1 = 0 ∧ fmtS (loadS (List.replicate 2 [])) 1 = aS1 := ⟨rfl, rfl⟩
theorem aw18_1 : savI ⟨1, n0 1, 0, false⟩ aS1 1 aN1 = 0 ∧ savJ ⟨1, n0 1, 0, false⟩ aS1 1 aN1 = ⟨2, aN1, 1, false⟩ ∧ savS ⟨1, n0 1, 0, false⟩ aS1 1 aN1 = aS2 := ⟨rfl, rfl, rfl⟩
theorem aw18_2 : savI ⟨2, aN1, 1, false⟩ aS2 1 aN2 = 0 ∧ savJ ⟨2, aN1, 1, false⟩ aS2 1 aN2 = ⟨3, aN2, 0, false⟩ ∧ savS ⟨2, aN1, 1, false⟩ aS2 1 aN2 = aS3 := ⟨rfl, rfl, rfl⟩
theorem aw18_3 : savI ⟨3, aN2, 0, false⟩ aS3 1 aN3 = 7 ∧ savJ ⟨3, aN2, 0, false⟩ aS3 1 aN3 = ⟨3, aN2, 0, false⟩ ∧ savS ⟨3, aN2, 0, false⟩ aS3 1 aN3 = aS3 := ⟨rfl, rfl, rfl⟩
theorem one64 (x : Int) (h0 : 0 ≤ x) (h1 : x ≤ 256) : In64 [x] := fun y hy => by rw [List.mem_singleton.1 hy]; constructor <;> omega


set_option maxRecDepth 100000 in
set_option maxHeartbeats 4000000 in
theorem awake18_walk (w : World) : Calls Try.prog 5 #[] w fun e w' => e = .returned (.bool true) ∧ Below w.heap.size w w' := by
  have hcv := conv_lit
  have hcv2 := conv_lit2
  go_enter Try.func5, Try.ntmps5
  go_wp2_with fail
  refine (new_walk (n := 2) (by omega) (by omega)).mono ?_
  rintro e w1 ⟨v, D1, rfl, hD1, hB1, hx1⟩
  obtain ⟨sb, hv⟩ : ∃ sb, v = .pointer (some ⟨sb, 0, none⟩) := by obtain ⟨sb, _, _, e, _⟩ := hD1; exact ⟨sb, e⟩
  subst hv
  have HD1 : Hid (Dsk 70 D1 w1 (.pointer (some ⟨sb, 0, none⟩)) (loadS (List.replicate 2 []))) := hD1
  have HB1 : Hid (Below w.heap.size w w1 ∧ ∀ x, D1 x → w.heap.size ≤ x) := ⟨hB1, hx1⟩
  clear hD1 hB1 hx1
  go_wp2_with fail
  refine (lw_format HD1.out HB1.out.1 HB1.out.2 (by show (0 : Nat) < _; omega) 1).mono ?_
  rintro e w2 ⟨hb2, ⟨hne, _⟩ | ⟨_, jb, rfl, hL2⟩⟩
  · exact absurd aw18_0.1 hne
  rw [aw18_0.2] at hL2
  have HL2 : Hid (Lw w (fun _ => False) sb jb 1 ⟨1, n0 1, 0, false⟩ aS1 w2) := hL2
  clear hL2 hb2
  go_wp2_with fail
  refine (laid18_walk 0 0 0 1).mono ?_
  rintro e w3 ⟨x, y, rfl, ho1, ho2, hB3⟩
  have HP : Hid (Nv w3 (.slice (some ⟨x, 0, none⟩) 1 1) aN1.p) := own_nv ho1 (one64 0 (by decide) (by decide))
  have HC : Hid (Nv w3 (.slice (some ⟨y, 0, none⟩) 1 1) aN1.c) := own_nv ho2 (one64 0 (by decide) (by decide))
  have HL3 : Hid (Lw w (fun _ => False) sb jb 1 ⟨1, n0 1, 0, false⟩ aS1 w3) := HL2.out.below hB3
  clear ho1 ho2 hB3
  go_wp2_with fail
  refine (lw_save (n := aN1) HL3.out HP.out HC.out (by decide) (by decide)).mono ?_
  rintro e w4 ⟨rfl, hL4, _⟩
  rw [aw18_1.1]
  rw [aw18_1.2.1, aw18_1.2.2] at hL4
  have HL4 : Hid (Lw w (fun _ => False) sb jb 1 ⟨2, aN1, 1, false⟩ aS2 w4) := hL4
  clear hL4 HP HC
  go_wp2_with fail
  refine (laid18_walk 1 0 5 1).mono ?_
  rintro e w5 ⟨x2, y2, rfl, ho1, ho2, hB5⟩
  have HP : Hid (Nv w5 (.slice (some ⟨x2, 0, none⟩) 1 1) aN2.p) := own_nv ho1 (one64 0 (by decide) (by decide))
  have HC : Hid (Nv w5 (.slice (some ⟨y2, 0, none⟩) 1 1) aN2.c) := own_nv ho2 (one64 5 (by decide) (by decide))
  have HL5 : Hid (Lw w (fun _ => False) sb jb 1 ⟨2, aN1, 1, false⟩ aS2 w5) := HL4.out.below hB5
  clear ho1 ho2 hB5
  go_wp2_with fail
  refine (lw_save (n := aN2) HL5.out HP.out HC.out (by decide) (by decide)).mono ?_
  rintro e w6 ⟨rfl, hL6, _⟩
  rw [aw18_2.1]
  rw [aw18_2.2.1, aw18_2.2.2] at hL6
  have HL6 : Hid (Lw w (fun _ => False) sb jb 1 ⟨3, aN2, 0, false⟩ aS3 w6) := hL6
  clear hL6 HP HC
  go_wp2_with fail
  refine (laid18_walk 2 4 6 1).mono ?_
  rintro e w7 ⟨x3, y3, rfl, ho1, ho2, hB7⟩
  have HP : Hid (Nv w7 (.slice (some ⟨x3, 0, none⟩) 1 1) aN3.p) := own_nv ho1 (one64 4 (by decide) (by decide))
  have HC : Hid (Nv w7 (.slice (some ⟨y3, 0, none⟩) 1 1) aN3.c) := own_nv ho2 (one64 6 (by decide) (by decide))
  have HL7 : Hid (Lw w (fun _ => False) sb jb 1 ⟨3, aN2, 0, false⟩ aS3 w7) := HL6.out.below hB7
  clear ho1 ho2 hB7
  go_wp2_with fail
  refine (lw_save (n := aN3) HL7.out HP.out HC.out (by decide) (by decide)).mono ?_
  rintro e w8 ⟨rfl, hL8, _⟩
  rw [aw18_3.1]
  rw [aw18_3.2.1, aw18_3.2.2] at hL8
  have HL8 : Hid (Lw w (fun _ => False) sb jb 1 ⟨3, aN2, 0, false⟩ aS3 w8) := hL8
  clear hL8 HP HC
  go_wp2_with fail
  refine (lw_note HL8.out).mono ?_
  rintro e w9 ⟨pa, pc, ca, cc, rfl, ho1, ho2, hB9⟩
  have HP : Hid (Nv w9 (.slice pa aN2.p.length pc) aN2.p) := own_nv ho1 (one64 0 (by decide) (by decide))
  have HC : Hid (Nv w9 (.slice ca aN2.c.length cc) aN2.c) := own_nv ho2 (one64 5 (by decide) (by decide))
  have HL9 : Hid (Lw w (fun _ => False) sb jb 1 ⟨3, aN2, 0, false⟩ aS3 w9) := HL8.out.below hB9
  clear ho1 ho2 hB9
  go_wp2_with fail
  refine (laid18_walk 1 0 5 1).mono ?_
  rintro e w10 ⟨x4, y4, rfl, ho1, ho2, hB10⟩
  have HP2 : Hid (Nv w10 (.slice (some ⟨x4, 0, none⟩) 1 1) aN2.p) := own_nv ho1 (one64 0 (by decide) (by decide))
  have HC2 : Hid (Nv w10 (.slice (some ⟨y4, 0, none⟩) 1 1) aN2.c) := own_nv ho2 (one64 5 (by decide) (by decide))
  have HP3 : Hid (Nv w10 (.slice pa aN2.p.length pc) aN2.p) := HP.out.below hB10
  have HC3 : Hid (Nv w10 (.slice ca aN2.c.length cc) aN2.c) := HC.out.below hB10
  have HL10 : Hid (Lw w (fun _ => False) sb jb 1 ⟨3, aN2, 0, false⟩ aS3 w10) := HL9.out.below hB10
  clear ho1 ho2 hB10 HP HC
  go_wp2_with fail
  refine (notes_walk (n := aN2) HP3.out HC3.out HP2.out HC2.out).mono ?_
  rintro e w11 ⟨rfl, hB11⟩
  have HL11 : Hid (Lw w (fun _ => False) sb jb 1 ⟨3, aN2, 0, false⟩ aS3 w11) := HL10.out.below hB11
  clear hB11
  go_wp2_with fail
  refine (lw_ended HL11.out).mono ?_
  rintro e w12 ⟨rfl, h12⟩
  replace h12 := h12.symm
  subst h12
  go_wp2_with fail
  refine (lw_image HL11.out).mono ?_
  rintro e w13 ⟨g, cap, rfl, hG, _, hB13⟩
  have HG : Hid (PvD w13 (.slice (some ⟨g, 0, none⟩) 2 cap) [[3, 1, 1, 1, 0, 1, 5], [2, 0, 1, 1, 0, 1, 0]]) := hG.pv (by decide)
  have HB13 : Hid (Below w11.heap.size w11 w13) := hB13
  clear hG hB13
  go_wp2_with fail
  refine (images_walk (HG.out.below (below_trans (below_trans (below_alloc _ _) (below_alloc _ _)) (below_alloc _ _))) (lit_image18 w13)).mono ?_
  rintro e w14 ⟨rfl, hB14⟩
  rw [decide_eq_true rfl]
  go_wp2_with fail
  go_ret
  exact ⟨rfl, HL11.out.bel.trans ((below_trans HB13.out (below_trans (below_trans (below_trans (below_alloc _ _) (below_alloc _ _)) (below_alloc _ _)) hB14)).mono HL11.out.bel.size)⟩
end Go.Proofs.Ytnnammlipfappaa


