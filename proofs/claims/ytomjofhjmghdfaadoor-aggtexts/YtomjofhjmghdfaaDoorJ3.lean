/- The walk of AggTexts. -/
import Derived.Test.YtomjofhjmghdfaaDoorGl
namespace Go.Proofs.YtomjofhjmghdfaaDoor
open Ieee Go.RowKit

set_option maxRecDepth 100000 in
set_option maxHeartbeats 4000000 in
theorem aggtexts_walk (k : Int) {l : List Vl} {v : Value} (w : World) (ht : Tb w) (hv : Vv w v l) :
    Calls Tryd.prog 5 #[.int .i64 k, v] w fun e w' => e = .returned (.bool true) ∧ Below w.heap.size w w' := by
  obtain ⟨⟨ao, cap, rfl, hlc, hcm, hnil, hV⟩, hok⟩ := hv
  have HV : Hid (Vc w ao l) := hV
  have HOK : Hid (∀ o ∈ l, o.ok) := hok
  have HLC : Hid (l.length ≤ cap ∧ cap ≤ maxLen) := ⟨hlc, hcm⟩
  have hll : l.length ≤ 9223372036854775807 := by unfold maxLen at hcm; omega
  clear hV hok hnil hlc hcm
  go_enter Tryd.func5, Tryd.ntmps5
  go_wp2_with fail
  refine (awake_walk _ ht).mono ?_
  rintro e w1 ⟨rfl, hB1⟩
  have HB1 : Hid (Below w.heap.size w w1) := hB1
  clear hB1
  go_wp2_with fail
  go_loopw [5] (fun iv wr => Lp w l.length iv wr) (fun iv _ => l.length - (intOf iv).toNat)
  case atStart => exact lp_start _ _ _ HB1.out
  case round =>
    obtain ⟨i, hi, rfl, hBr⟩ := hrel
    have HBR : Hid (Below w.heap.size w wr) := hBr
    clear hBr
    by_cases hlt : i < l.length
    · obtain ⟨b, off, rfl, c0, c1⟩ := HV.out.below HBR.out i hlt
      obtain ⟨o, hoe⟩ : ∃ o, o = l[i] := ⟨_, rfl⟩
      rw [← hoe] at c0 c1
      have HO : Hid o.ok := by show o.ok; rw [hoe]; exact HOK.out _ (List.getElem_mem hlt)
      have HT : Hid (Tb wr) := ht.below HBR.out
      clear hoe
      have k0 : ∀ wx, Below wr.heap.size wr wx → wx.cell? ⟨b, off + i * 2, none⟩ = some (.bool o.h) := fun wx h => by rw [h.cell (p := ⟨b, off + i * 2, none⟩) (cell_lt c0)]; exact c0
      have k1 : ∀ wx, Below wr.heap.size wr wx → wx.cell? ⟨b, off + i * 2 + 1, none⟩ = some (.int .u64 o.b) := fun wx h => by rw [h.cell (p := ⟨b, off + i * 2 + 1, none⟩) (cell_lt c1)]; exact c1
      clear c0 c1
      obtain ⟨T, hT⟩ : ∃ T, T = textL k o := ⟨_, rfl⟩
      have HTE : Hid (T = textL k o) := hT
      clear hT
      go_wp2_with fail
      go_cut [26] (fun g wx => g = .bool false ∧ Below wr.heap.size wr wx)
      case first =>
        go_region_held3 (fun wx => Below wr.heap.size wr wx) (first | assumption | exact (Below.refl _ _).drew)
          (first
            | (go_at_call 18; refine (text_walk k HO.out _ (HT.out.below (by assumption))).mono ?_; rw [← HTE.out]; rintro e w3 ⟨rfl, hB3⟩; have hS3 : Below wr.heap.size wr w3 := below_trans (by assumption) hB3)
            | (go_at_call 19; refine (rtext_walk k HO.out _).mono ?_; rw [← HTE.out]; rintro e w3 ⟨rfl, hB3⟩; have hS3 : Below wr.heap.size wr w3 := below_trans (by assumption) hB3))
        all_goals go_wp2_with fail
        all_goals go_meet
        all_goals exact ⟨by simp, by assumption⟩
      case rest =>
        obtain ⟨rfl, hBc⟩ := hcut
        go_wp2_with fail
        go_roundw
        case rel => exact lp_step hlt HBR.out hBc
        case measure => simp [intOf]; omega
    · go_wp2_with fail
      go_ret
      exact ⟨rfl, HBR.out⟩
end Go.Proofs.YtomjofhjmghdfaaDoor
