/- Contracts of the reference's Fit, of both Merge. -/
import Derived.Test.YtnppgeokbhecfaaGb
import Derived.Deep.DeepCutAuto
import Derived.Deep.RegionHeld3
namespace Go.Proofs.Ytnppgeokbhecfaa
open Ieee Go.RowKit

attribute [local go_sem] run_bits run_frombits

theorem rfit_walk (k : Int) {v : Vl} (hv : v.ok) (w : World) :
    Calls Try.prog 27 #[.int .i64 k, .agg #[.bool v.h, .int .u64 v.b]] w fun e w' => e = .returned (.agg #[.bool (fitV k v).h, .int .u64 (fitV k v).b]) ∧ Below w.heap.size w w' := by
  obtain ⟨h, b⟩ := v
  cases hk : knownB k
  · have hu := unknown_kind hk
    have e : fitV k ⟨h, b⟩ = noV := by
      unfold fitV
      split
      · rfl
      rw [if_neg (by omega), if_neg (by omega)]
    rw [e]
    clear hu e
    go_enter Try.func27, Try.ntmps27
    go_wp2_with (go_at_call 24; refine (rknown_walk _ _).mono ?_; rintro e w' ⟨rfl, rfl⟩)
    all_goals (refine bodyPost_ret (v := .agg #[.bool false, .int .u64 0]) (by simp [results, Try.results27, go_sem]) rfl ⟨rfl, ?_⟩; exact below_two _ _ _)
  have hk' := known_kind.1 hk
  cases h
  · have e : fitV k ⟨false, b⟩ = noV := by unfold fitV; rw [if_pos rfl]
    rw [e]
    clear hk' e
    go_enter Try.func27, Try.ntmps27
    go_wp2_with (go_at_call 24; refine (rknown_walk _ _).mono ?_; rintro e w' ⟨rfl, rfl⟩)
    all_goals (refine bodyPost_ret (v := .agg #[.bool false, .int .u64 0]) (by simp [results, Try.results27, go_sem]) rfl ⟨rfl, ?_⟩; exact below_two _ _ _)
  by_cases h12 : k = 1 ∨ k = 2
  · have e : fitV k ⟨true, b⟩ = ⟨true, b⟩ := by unfold fitV; rw [if_neg (by simp), if_pos h12]
    rw [e]
    clear hk' e
    rcases h12 with rfl | rfl
    all_goals
      go_enter Try.func27, Try.ntmps27
      go_wp2_with (go_at_call 24; refine (rknown_walk _ _).mono ?_; rintro e w' ⟨rfl, rfl⟩)
      refine bodyPost_ret (v := .agg #[.bool true, .int .u64 b]) (by simp [results, Try.results27, go_sem]) rfl ⟨rfl, ?_⟩
      exact below_two _ _ _
  have h34 : k = 3 ∨ k = 4 := by omega
  have e : fitV k ⟨true, b⟩ = ofV k b := by
    unfold fitV ofV
    rw [if_neg (by simp), if_neg h12, if_pos h34, if_neg (by omega), if_neg (by omega)]
  rw [e]
  clear hk' e h12
  rcases h34 with rfl | rfl
  all_goals
    go_enter Try.func27, Try.ntmps27
    go_wp2_with (first
      | (go_at_call 24; refine (rknown_walk _ _).mono ?_; rintro e w' ⟨rfl, rfl⟩)
      | (go_at_call 33; refine (from_walk _ _).mono ?_; rintro e w' ⟨rfl, rfl⟩))
    refine (rof_walk _ hv _).mono ?_
    rintro e w1 ⟨rfl, hB⟩
    obtain ⟨c0, c1, z0, z1⟩ := (vb_zero (w.alloc (Obj.cells #[Value.bool true, Value.int IntKind.u64 (b : Int)] 24))).below hB (by simp [go_sem])
    have HB : Hid (Below w.heap.size w w1) := below_trans (below_two _ _ _) hB
    clear hB
    rw [size_alloc] at c0 c1 z0 z1
    go_wp2_with fail
    refine bodyPost_ret (by simp [results, Try.results27, go_sem, c0, c1]) rfl ⟨rfl, ?_⟩
    exact keep_store HB.out _ (Nat.le_succ _) _ _
end Go.Proofs.Ytnppgeokbhecfaa
