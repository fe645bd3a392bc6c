/- The walk of OpsOne. -/
import Derived.Test.YtkpfjoklbindjaaXh
namespace Go.Proofs.Ytkpfjoklbindjaa
open Ieee Go.RowKit
attribute [local go_sem] run_store_float

set_option maxRecDepth 100000 in
set_option maxHeartbeats 2000000 in
theorem opsone_walk {v u : Value} {l : List Stp} {rs : List Rcd} {w : World} (ho : Ov w v l) (hr : Rv w u rs) :
    Calls Try.prog 5 #[v, u] w fun e w' => e = .returned (.bool true) ∧ Below w.heap.size w w' := by
  obtain ⟨⟨ao, cap, rfl, h1, h2, h3, h4⟩, h5⟩ := hr
  obtain ⟨⟨bo, cap', rfl, g1, g2, g3, g4⟩, g5⟩ := ho
  have hli : (rs.length : Int) ≤ 9223372036854775807 := by simp only [maxLen] at h2; omega
  have hlo : (l.length : Int) ≤ 9223372036854775807 := by simp only [maxLen] at g2; omega
  have HO : Hid (Ol w bo l) := g4
  have HKO : Hid (∀ o ∈ l, o.ok) := g5
  have HRL : Hid (Rl w ao rs) := h4
  have HKR : Hid (∀ r ∈ rs, r.ok) := h5
  clear h1 h2 h3 h4 h5 g1 g2 g3 g4 g5
  go_enter Try.func5, Try.ntmps5
  go_wp2_with fail
  refine (awake_walk _).mono ?_
  rintro e w1 ⟨rfl, hB⟩
  have HB1 : Hid (Below w.heap.size w w1) := hB
  clear hB
  go_wp2_with fail
  go_loopw [5] (fun iv wr => Onw w l.length iv wr) (fun iv _ => l.length - (intOf iv).toNat)
  case atStart => exact ⟨0, Nat.zero_le _, rfl, HB1.out⟩
  case round =>
    clear HB1
    obtain ⟨k, hk, rfl, hB⟩ := hrel
    obtain ⟨wR, hwR⟩ : ∃ wR, wR = wr := ⟨_, rfl⟩
    subst hwR
    have HB : Hid (Below w.heap.size w wR) := hB
    clear hB
    by_cases hlt : k < l.length
    · by_cases h64 : (k : Int) < 64
      · obtain ⟨b, off, rfl, o0, o1, o2⟩ := HO.out.below HB.out k hlt
        obtain ⟨o, hoe⟩ : ∃ o, o = l[k] := ⟨_, rfl⟩
        rw [← hoe] at o0 o1 o2
        have HOK : Hid o.ok := by show o.ok; rw [hoe]; exact HKO.out _ (List.getElem_mem hlt)
        have H0 : Hid (wR.cell? ⟨b, off + k * 3, none⟩ = some (.int .i64 o.K)) := o0
        have H1 : Hid (wR.cell? ⟨b, off + k * 3 + 1, none⟩ = some (.int .i64 o.N)) := o1
        have H2 : Hid (wR.cell? ⟨b, off + k * 3 + 2, none⟩ = some (.float .f64 o.X)) := o2
        clear hoe o0 o1 o2
        go_wp2_with fail
        go_loopw [6] (fun iv wr => Onw wR rs.length iv wr) (fun iv _ => rs.length - (intOf iv).toNat)
        case atStart => exact ⟨0, Nat.zero_le _, rfl, below_same _⟩
        case round =>
          obtain ⟨j, hj, rfl, hB⟩ := hrel
          have HBW : Hid (Below wR.heap.size wR wr) := hB
          clear hB
          by_cases hlj : j < rs.length
          · by_cases j64 : (j : Int) < 64
            · obtain ⟨d, doff, rfl, c0, c1⟩ := (HRL.out.below HB.out).below HBW.out j hlj
              obtain ⟨r, hre⟩ : ∃ r, r = rs[j] := ⟨_, rfl⟩
              rw [← hre] at c0 c1
              have HR : Hid r.ok := by show r.ok; rw [hre]; exact HKR.out _ (List.getElem_mem hlj)
              clear hre
              have o0 : wr.cell? ⟨b, off + k * 3, none⟩ = some (.int .i64 o.K) := by rw [HBW.out.cell (p := ⟨b, off + k * 3, none⟩) (cell_lt H0.out)]; exact H0.out
              have o1 : wr.cell? ⟨b, off + k * 3 + 1, none⟩ = some (.int .i64 o.N) := by rw [HBW.out.cell (p := ⟨b, off + k * 3 + 1, none⟩) (cell_lt H1.out)]; exact H1.out
              have o2 : wr.cell? ⟨b, off + k * 3 + 2, none⟩ = some (.float .f64 o.X) := by rw [HBW.out.cell (p := ⟨b, off + k * 3 + 2, none⟩) (cell_lt H2.out)]; exact H2.out
              obtain ⟨R, hRe⟩ : ∃ R, R = oneS o r := ⟨_, rfl⟩
              have HE : Hid (R = oneS o r) := hRe
              clear hRe
              have k0 : ∀ wx, Below wr.heap.size wr wx → wx.cell? ⟨b, off + k * 3, none⟩ = some (.int .i64 o.K) := fun wx h => by rw [h.cell (p := ⟨b, off + k * 3, none⟩) (cell_lt o0)]; exact o0
              have k1 : ∀ wx, Below wr.heap.size wr wx → wx.cell? ⟨b, off + k * 3 + 1, none⟩ = some (.int .i64 o.N) := fun wx h => by rw [h.cell (p := ⟨b, off + k * 3 + 1, none⟩) (cell_lt o1)]; exact o1
              have k2 : ∀ wx, Below wr.heap.size wr wx → wx.cell? ⟨b, off + k * 3 + 2, none⟩ = some (.float .f64 o.X) := fun wx h => by rw [h.cell (p := ⟨b, off + k * 3 + 2, none⟩) (cell_lt o2)]; exact o2
              have k3 : ∀ wx, Below wr.heap.size wr wx → wx.cell? ⟨d, doff + j * 2, none⟩ = some (.int .u64 r.k) := fun wx h => by rw [h.cell (p := ⟨d, doff + j * 2, none⟩) (cell_lt c0)]; exact c0
              have k4 : ∀ wx, Below wr.heap.size wr wx → wx.cell? ⟨d, doff + j * 2 + 1, none⟩ = some (.float .f64 r.x) := fun wx h => by rw [h.cell (p := ⟨d, doff + j * 2 + 1, none⟩) (cell_lt c1)]; exact c1
              go_wp2_with fail
              go_cut [7, 8] (fun p f wx => ∃ b', p = .pointer (some ⟨b', 0, none⟩) ∧ f = .int .i64 R.1 ∧ RB wx b' R.2.k R.2.x ∧ wr.heap.size ≤ b' ∧ Below wr.heap.size wr wx)
              case first =>
                go_region_held3 (fun wx => Below wr.heap.size wr wx) (first | assumption | exact (Below.refl _ _).drew | exact Below.drew ((Below.refl _ _).alloc (Nat.le_refl _) _) | exact Below.alloc (by assumption) (Below.size (by assumption)) _ | exact keep_store (by assumption) _ (Nat.le_refl _) _ _)
                  (first | (go_at_call 17; refine (one_walk o r HOK.out HR.out _).mono ?_; rw [← HE.out]; rintro e w3 ⟨rfl, hB3⟩; have hS3 : Below wr.heap.size wr w3 := below_trans (by assumption) hB3; try (have q0 := (new_rec hB3).c0; have q1 := (new_rec hB3).c1; have q2 := (new_rec hB3).z0; have q3 := (new_rec hB3).z1)))
                all_goals go_wp2_with fail
                all_goals go_meet
                · exact cut_new hS3 R
                · exact cut_old hS3 ⟨q0, q1, q2, q3⟩ R
              case rest =>
                obtain ⟨b7, rfl, rfl, hR7, _, hBc⟩ := hcut
                obtain ⟨wc1, hwc⟩ : ∃ wc1, wc1 = wc := ⟨_, rfl⟩
                subst hwc
                have HR7 : Hid (RB wc1 b7 R.2.k R.2.x) := hR7
                have HBC : Hid (Below wr.heap.size wr wc1) := hBc
                have o0 := k0 _ hBc
                have o1 := k1 _ hBc
                have o2 := k2 _ hBc
                have c0 := k3 _ hBc
                have c1 := k4 _ hBc
                clear k0 k1 k2 k3 k4 hBc hR7
                have k0 : ∀ wx, Below wc1.heap.size wc1 wx → wx.cell? ⟨b, off + k * 3, none⟩ = some (.int .i64 o.K) := fun wx h => by rw [h.cell (p := ⟨b, off + k * 3, none⟩) (cell_lt o0)]; exact o0
                have k1 : ∀ wx, Below wc1.heap.size wc1 wx → wx.cell? ⟨b, off + k * 3 + 1, none⟩ = some (.int .i64 o.N) := fun wx h => by rw [h.cell (p := ⟨b, off + k * 3 + 1, none⟩) (cell_lt o1)]; exact o1
                have k2 : ∀ wx, Below wc1.heap.size wc1 wx → wx.cell? ⟨b, off + k * 3 + 2, none⟩ = some (.float .f64 o.X) := fun wx h => by rw [h.cell (p := ⟨b, off + k * 3 + 2, none⟩) (cell_lt o2)]; exact o2
                have k3 : ∀ wx, Below wc1.heap.size wc1 wx → wx.cell? ⟨d, doff + j * 2, none⟩ = some (.int .u64 r.k) := fun wx h => by rw [h.cell (p := ⟨d, doff + j * 2, none⟩) (cell_lt c0)]; exact c0
                have k4 : ∀ wx, Below wc1.heap.size wc1 wx → wx.cell? ⟨d, doff + j * 2 + 1, none⟩ = some (.float .f64 r.x) := fun wx h => by rw [h.cell (p := ⟨d, doff + j * 2 + 1, none⟩) (cell_lt c1)]; exact c1
                go_wp2_with fail
                go_cut [9, 10] (fun p f wx => ∃ b', p = .pointer (some ⟨b', 0, none⟩) ∧ f = .int .i64 R.1 ∧ RB wx b' R.2.k R.2.x ∧ wc1.heap.size ≤ b' ∧ Below wc1.heap.size wc1 wx)
                case first =>
                  go_region_held3 (fun wx => Below wc1.heap.size wc1 wx) (first | assumption | exact (Below.refl _ _).drew | exact Below.drew ((Below.refl _ _).alloc (Nat.le_refl _) _) | exact Below.alloc (by assumption) (Below.size (by assumption)) _ | exact keep_store (by assumption) _ (Nat.le_refl _) _ _)
                    (first | (go_at_call 18; refine (rone_walk o r HOK.out HR.out _).mono ?_; rw [← HE.out]; rintro e w3 ⟨rfl, hB3⟩; have hS3 : Below wc1.heap.size wc1 w3 := below_trans (by assumption) hB3; try (have q0 := (new_rec hB3).c0; have q1 := (new_rec hB3).c1; have q2 := (new_rec hB3).z0; have q3 := (new_rec hB3).z1)))
                  all_goals go_wp2_with fail
                  all_goals go_meet
                  · exact cut_new hS3 R
                  · exact cut_old hS3 ⟨q0, q1, q2, q3⟩ R
                case rest =>
                  obtain ⟨b9, rfl, rfl, hR9, _, hBd⟩ := hcut
                  clear k0 k1 k2 k3 k4
                  obtain ⟨s0, s1, _, _⟩ := HR7.out.below hBd (cell_lt HR7.out.c0)
                  obtain ⟨t0, t1, _, _⟩ := hR9
                  have HBD : Hid (Below wR.heap.size wR wc) := below_trans HBW.out (below_trans HBC.out hBd)
                  clear hBd
                  go_wp2_with fail
                  refine (same_walk R.2 R.2 _).mono ?_
                  rw [sameB_self]
                  rintro e w8 ⟨rfl, hB⟩
                  have HB8 : Hid (Below wR.heap.size wR w8) := below_trans HBD.out hB
                  clear hB
                  go_wp2_with fail
                  go_roundw
                  case rel => exact onw_step hlj HB8.out
                  case measure => simp [intOf]; omega
            · have HL : Hid (Below w.heap.size w wr) := below_trans HB.out HBW.out
              go_wp2_with fail
              go_roundw
              case rel => exact onw_step hlt HL.out
              case measure => simp [intOf]; omega
          · have HL : Hid (Below w.heap.size w wr) := below_trans HB.out HBW.out
            go_wp2_with fail
            go_roundw
            case rel => exact onw_step hlt HL.out
            case measure => simp [intOf]; omega
      · go_wp2_with fail
        go_ret
        exact ⟨rfl, HB.out⟩
    · go_wp2_with fail
      go_ret
      exact ⟨rfl, HB.out⟩
end Go.Proofs.Ytkpfjoklbindjaa
