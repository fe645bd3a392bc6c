/- The walk of AggMerge. -/
import Derived.Test.YtomjofhjmghdfaaDoorGl
namespace Go.Proofs.YtomjofhjmghdfaaDoor
open Ieee Go.RowKit

theorem next_mod (i n : Nat) : ((i : Int) + 1).tmod (n : Int) = (((i + 1) % n : Nat) : Int) := by
  rw [Int.tmod_eq_emod_of_nonneg (by omega)]
  simp

set_option maxRecDepth 100000 in
set_option maxHeartbeats 8000000 in
theorem aggmerge_walk (k : Int) {l : List Vl} {v : Value} (w : World) (ht : Tb w) (hv : Vv w v l) :
    Calls Tryd.prog 4 #[.int .i64 k, v] w fun e w' => e = .returned (.bool true) ∧ Below w.heap.size w w' := by
  obtain ⟨⟨ao, cap, rfl, hlc, hcm, hnil, hV⟩, hok⟩ := hv
  have HV : Hid (Vc w ao l) := hV
  have HOK : Hid (∀ o ∈ l, o.ok) := hok
  have HLC : Hid (l.length ≤ cap ∧ cap ≤ maxLen) := ⟨hlc, hcm⟩
  have hll : l.length ≤ 9223372036854775807 := by unfold maxLen at hcm; omega
  clear hV hok hnil hlc hcm
  go_enter Tryd.func4, Tryd.ntmps4
  go_wp2_with fail
  refine (awake_walk _ ht).mono ?_
  rintro e w1 ⟨rfl, hB1⟩
  have HB1 : Hid (Below w.heap.size w w1) := hB1
  clear hB1
  go_wp2_with fail
  go_loopw [5] (fun iv wr => Lp w l.length iv wr) (fun iv _ => l.length - (intOf iv).toNat)
  case atStart => exact lp_start _ _ _ HB1.out
  case round =>
    obtain ⟨i, hi, rfl, hBr⟩ := hrel
    have HBR : Hid (Below w.heap.size w wr) := hBr
    clear hBr
    by_cases hlt : i < l.length
    · have em := next_mod i l.length
      obtain ⟨j, hj⟩ : ∃ j, j = (i + 1) % l.length := ⟨_, rfl⟩
      rw [← hj] at em
      have hjl : j < l.length := by rw [hj]; exact Nat.mod_lt _ (by omega)
      clear hj
      obtain ⟨b, off, rfl, c0, c1⟩ := HV.out.below HBR.out i hlt
      obtain ⟨b', off', hbo, d0, d1⟩ := HV.out.below HBR.out j hjl
      obtain ⟨rfl, rfl⟩ : b' = b ∧ off' = off := by cases hbo; exact ⟨rfl, rfl⟩
      clear hbo
      obtain ⟨o, hoe⟩ : ∃ o, o = l[i] := ⟨_, rfl⟩
      obtain ⟨p, hpe⟩ : ∃ p, p = l[j] := ⟨_, rfl⟩
      rw [← hoe] at c0 c1
      rw [← hpe] at d0 d1
      have HO : Hid o.ok := by show o.ok; rw [hoe]; exact HOK.out _ (List.getElem_mem hlt)
      have HP : Hid p.ok := by show p.ok; rw [hpe]; exact HOK.out _ (List.getElem_mem hjl)
      clear hoe hpe
      obtain ⟨F, hF⟩ : ∃ F, F = fitV k o := ⟨_, rfl⟩
      have HFE : Hid (F = fitV k o) := hF
      obtain ⟨M, hM⟩ : ∃ M, M = mergeV k o p := ⟨_, rfl⟩
      have HME : Hid (M = mergeV k o p) := hM
      clear hF hM
      have hnz : ¬ (l.length : Int) = 0 := by omega
      have d2 : ∀ q, (wr.alloc q).cell? ⟨b', off' + j * 2, none⟩ = some (.bool p.h) := fun q => by rw [(below_alloc wr q).cell (p := ⟨b', off' + j * 2, none⟩) (cell_lt d0)]; exact d0
      have d3 : ∀ q, (wr.alloc q).cell? ⟨b', off' + j * 2 + 1, none⟩ = some (.int .u64 p.b) := fun q => by rw [(below_alloc wr q).cell (p := ⟨b', off' + j * 2 + 1, none⟩) (cell_lt d1)]; exact d1
      go_wp2_with fail
      have HW5 : Hid (Below wr.heap.size wr ((wr.alloc (Obj.cells #[Value.bool o.h, Value.int IntKind.u64 (o.b : Int)] 27)).alloc (Obj.cells #[Value.bool p.h, Value.int IntKind.u64 (p.b : Int)] 27))) := below_two _ _ _
      have HV1 : Hid (VB ((wr.alloc (Obj.cells #[Value.bool o.h, Value.int IntKind.u64 (o.b : Int)] 27)).alloc (Obj.cells #[Value.bool p.h, Value.int IntKind.u64 (p.b : Int)] 27)) wr.heap.size o) := (vb_new wr o.h o.b).below (below_alloc _ _) (by rw [size_alloc]; omega)
      have HV2 : Hid (VB ((wr.alloc (Obj.cells #[Value.bool o.h, Value.int IntKind.u64 (o.b : Int)] 27)).alloc (Obj.cells #[Value.bool p.h, Value.int IntKind.u64 (p.b : Int)] 27)) (wr.heap.size + 1) p) := by
        have h := vb_new (wr.alloc (Obj.cells #[Value.bool o.h, Value.int IntKind.u64 (o.b : Int)] 27)) p.h p.b
        rw [size_alloc] at h
        exact h
      clear d2 d3 c0 c1 d0 d1 em hnz
      generalize (wr.alloc (Obj.cells #[Value.bool o.h, Value.int IntKind.u64 (o.b : Int)] 27)).alloc (Obj.cells #[Value.bool p.h, Value.int IntKind.u64 (p.b : Int)] 27) = w5 at HW5 HV1 HV2 ⊢
      have k0 : ∀ wx, Below w5.heap.size w5 wx → wx.cell? ⟨wr.heap.size, 0, none⟩ = some (.bool o.h) := fun wx h => (HV1.out.below h (cell_lt HV1.out.c0)).c0
      have k1 : ∀ wx, Below w5.heap.size w5 wx → wx.cell? ⟨wr.heap.size, 1, none⟩ = some (.int .u64 o.b) := fun wx h => (HV1.out.below h (cell_lt HV1.out.c0)).c1
      have k2 : ∀ wx, Below w5.heap.size w5 wx → wx.cell? ⟨wr.heap.size + 1, 0, none⟩ = some (.bool p.h) := fun wx h => (HV2.out.below h (cell_lt HV2.out.c0)).c0
      have k3 : ∀ wx, Below w5.heap.size w5 wx → wx.cell? ⟨wr.heap.size + 1, 1, none⟩ = some (.int .u64 p.b) := fun wx h => (HV2.out.below h (cell_lt HV2.out.c0)).c1
      go_cut [45] (fun g wx => g = .bool false ∧ Below w5.heap.size w5 wx)
      case first =>
        go_region_held3 (fun wx => Below w5.heap.size w5 wx) (first | assumption | exact (Below.refl _ _).drew)
          (first
            | (go_at_call 14; refine (fit_walk k HO.out _).mono ?_; rw [← HFE.out]; rintro e w3 ⟨rfl, hB3⟩; have hS3 : Below w5.heap.size w5 w3 := below_trans (by assumption) hB3)
            | (go_at_call 15; refine (rfit_walk k HO.out _).mono ?_; rw [← HFE.out]; rintro e w3 ⟨rfl, hB3⟩; have hS3 : Below w5.heap.size w5 w3 := below_trans (by assumption) hB3)
            | (go_at_call 16; refine (merge_walk k HO.out HP.out _).mono ?_; rw [← HME.out]; rintro e w3 ⟨rfl, hB3⟩; have hS3 : Below w5.heap.size w5 w3 := below_trans (by assumption) hB3)
            | (go_at_call 17; refine (rmerge_walk k HO.out HP.out _).mono ?_; rw [← HME.out]; rintro e w3 ⟨rfl, hB3⟩; have hS3 : Below w5.heap.size w5 w3 := below_trans (by assumption) hB3))
        all_goals go_wp2_with fail
        all_goals go_meet
        all_goals exact ⟨by simp, by assumption⟩
      case rest =>
        obtain ⟨rfl, hBc⟩ := hcut
        go_wp2_with fail
        go_roundw
        case rel => exact lp_step hlt HBR.out (below_trans HW5.out hBc)
        case measure => simp [intOf]; omega
    · go_wp2_with fail
      go_ret
      exact ⟨rfl, HBR.out⟩
end Go.Proofs.YtomjofhjmghdfaaDoor
