/- The walk of AggOf. -/
import Derived.Test.YtomjofhjmghdfaaDoorGl
namespace Go.Proofs.YtomjofhjmghdfaaDoor
open Ieee Go.RowKit

set_option maxRecDepth 100000 in
set_option maxHeartbeats 8000000 in
theorem aggof_walk (k : Int) {l : List Nat} {v : Value} (w : World) (ht : Tb w) (hv : Fv w v l) :
    Calls Tryd.prog 3 #[.int .i64 k, v] w fun e w' => e = .returned (.bool true) ∧ Below w.heap.size w w' := by
  obtain ⟨⟨ao, cap, rfl, hlc, hcm, hnil, hV⟩, hok⟩ := hv
  have HV : Hid (Fc w ao l) := hV
  have HOK : Hid (∀ x ∈ l, x < 18446744073709551616) := hok
  have HLC : Hid (l.length ≤ cap ∧ cap ≤ maxLen) := ⟨hlc, hcm⟩
  have hll : l.length ≤ 9223372036854775807 := by unfold maxLen at hcm; omega
  clear hV hok hnil hlc hcm
  go_enter Tryd.func3, Tryd.ntmps3
  go_wp2_with fail
  refine (awake_walk _ ht).mono ?_
  rintro e w1 ⟨rfl, hB1⟩
  have HB1 : Hid (Below w.heap.size w w1) := hB1
  clear hB1
  go_wp2_with (first
    | (go_at_call 10; refine (known_walk _ _).mono ?_; rintro e w' ⟨rfl, rfl⟩)
    | (go_at_call 11; refine (rknown_walk _ _).mono ?_; rintro e w' ⟨rfl, rfl⟩))
  go_loopw [5] (fun iv wr => Lp w l.length iv wr) (fun iv _ => l.length - (intOf iv).toNat)
  case atStart => exact lp_start _ _ _ HB1.out
  case round =>
    obtain ⟨i, hi, rfl, hBr⟩ := hrel
    have HBR : Hid (Below w.heap.size w wr) := hBr
    clear hBr
    by_cases hlt : i < l.length
    · go_wp2_with fail
      obtain ⟨x, hxe⟩ : ∃ x, x = l[i] := ⟨_, rfl⟩
      have HX : Hid (x < 18446744073709551616) := by show _ < _; rw [hxe]; exact HOK.out _ (List.getElem_mem hlt)
      have HXE : Hid (x = l[i]) := hxe
      obtain ⟨wR, hwR⟩ : ∃ wR, wR = wr := ⟨_, rfl⟩
      rw [← hwR] at HBR
      have R0 : Lp wR 6 (.int .i64 0) wr := lp_start _ _ _ (by rw [hwR]; exact below_same _)
      clear hxe hwR
      go_loopw [6] (fun jv wx => Lp wR 6 jv wx) (fun jv _ => 6 - (intOf jv).toNat)
      case atStart => exact R0
      case round =>
        obtain ⟨j, hj, rfl, hBj⟩ := hrel
        have HBJ : Hid (Below wR.heap.size wR wr) := hBj
        clear hBj
        obtain ⟨b, off, rfl, c0⟩ := (HV.out.below HBR.out).below HBJ.out i hlt
        rw [← HXE.out] at c0
        have k0 : ∀ wx, Below wr.heap.size wr wx → wx.cell? ⟨b, off + i, none⟩ = some (.float .f64 x) := fun wx h => by rw [h.cell (p := ⟨b, off + i, none⟩) (cell_lt c0)]; exact c0
        by_cases hj6 : j < 6
        · have hj6' : (j : Int) < 6 := by omega
          obtain ⟨O, hO⟩ : ∃ O, O = ofV j x := ⟨_, rfl⟩
          have HOE : Hid (O = ofV j x) := hO
          clear hO c0
          go_wp2_with fail
          go_cut [38] (fun g wx => g = .bool false ∧ Below wr.heap.size wr wx)
          case first =>
            go_region_held3 (fun wx => Below wr.heap.size wr wx) (first | assumption | exact (Below.refl _ _).drew)
              (first
                | (go_at_call 12; refine (aof_walk j HX.out _).mono ?_; rw [← HOE.out]; rintro e w3 ⟨rfl, hB3⟩; have hS3 : Below wr.heap.size wr w3 := below_trans (by assumption) hB3)
                | (go_at_call 13; refine (rof_walk j HX.out _).mono ?_; rw [← HOE.out]; rintro e w3 ⟨rfl, hB3⟩; have hS3 : Below wr.heap.size wr w3 := below_trans (by assumption) hB3))
            all_goals go_wp2_with fail
            all_goals go_meet
            all_goals exact ⟨by simp, by assumption⟩
          case rest =>
            obtain ⟨rfl, hBc⟩ := hcut
            go_wp2_with fail
            go_roundw
            case rel => exact lp_step hj6 HBJ.out hBc
            case measure => simp [intOf]; omega
        · have hj6' : (6 : Int) ≤ (j : Int) := by omega
          obtain ⟨O, hO⟩ : ∃ O, O = ofV k x := ⟨_, rfl⟩
          have HOE : Hid (O = ofV k x) := hO
          clear hO c0
          go_wp2_with fail
          go_cut [51] (fun g wx => g = .bool false ∧ Below wr.heap.size wr wx)
          case first =>
            go_region_held3 (fun wx => Below wr.heap.size wr wx) (first | assumption | exact (Below.refl _ _).drew)
              (first
                | (go_at_call 12; refine (aof_walk k HX.out _).mono ?_; rw [← HOE.out]; rintro e w3 ⟨rfl, hB3⟩; have hS3 : Below wr.heap.size wr w3 := below_trans (by assumption) hB3)
                | (go_at_call 13; refine (rof_walk k HX.out _).mono ?_; rw [← HOE.out]; rintro e w3 ⟨rfl, hB3⟩; have hS3 : Below wr.heap.size wr w3 := below_trans (by assumption) hB3))
            all_goals go_wp2_with fail
            all_goals go_meet
            all_goals exact ⟨by simp, by assumption⟩
          case rest =>
            obtain ⟨rfl, hBc⟩ := hcut
            go_wp2_with fail
            go_roundw
            case rel => exact lp_step hlt HBR.out (below_trans HBJ.out hBc)
            case measure => simp [intOf]; omega
    · go_wp2_with fail
      go_ret
      exact ⟨rfl, HBR.out⟩
end Go.Proofs.YtomjofhjmghdfaaDoor
