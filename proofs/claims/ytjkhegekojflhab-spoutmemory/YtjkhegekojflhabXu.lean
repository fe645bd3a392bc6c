/- OpPer's turn. -/
import Derived.Test.YtjkhegekojflhabXt
import Derived.BigQuiet
import Derived.Deep.QuietTactic
import Derived.Deep.RegionWith
namespace Go.Proofs.Ytjkhegekojflhab
open Ieee Go.RowKit

theorem of_walk' (n : Int) (w : World) :
    Calls Try.prog 70 #[.int .i64 n] w fun e w' => e = .returned (.float .f64 (ofW n)) ∧ w' = w := of_walk n w

theorem turn_per (N : Int) (X : Nat) {x : Nat} (hx : x < 18446744073709551616) (h0 : ¬ wholeI x = 0) (w : World) :
    Calls Try.prog 56 #[.agg #[.int .i64 10, .int .i64 N, .float .f64 X], .float .f64 x] w fun e w' => ∃ y, e = .returned (.float .f64 y) ∧ y < 18446744073709551616 ∧ canonW y = canonW (ofW (perI N (wholeI x))) ∧ Below w.heap.size w w' := by
  go_enter Try.func56, Try.ntmps56
  go_wp2_with fail
  generalize hw1 : w.alloc (Obj.cells #[Value.int IntKind.i64 10, Value.int IntKind.i64 N, Value.float FloatKind.f64 X] 55) = w1
  have hc : w1.cell? ⟨w.heap.size, 1, none⟩ = some (.int .i64 N) := by rw [← hw1]; simp [go_sem]
  have hB : Below w.heap.size w w1 := by rw [← hw1]; exact below_alloc _ _
  clear hw1
  go_quiet ((first | (go_at_call 71; exact Calls.quiet_of_same (whole_walk hx _)) | (go_at_call 70; exact Calls.quiet_of_same (of_walk' _ _))))
  go_wp2_with fail
  go_ret
  exact ⟨_, rfl, of_lt _, rfl, below_trans hB (below_drewN _ _)⟩

theorem turn_per_trap (N : Int) (X : Nat) {x : Nat} (hx : x < 18446744073709551616) (h0 : wholeI x = 0) (w : World) :
    Calls Try.prog 56 #[.agg #[.int .i64 10, .int .i64 N, .float .f64 X], .float .f64 x] w fun e w' => (∃ u pv, e = .panicked [{ v := .iface u pv, recovered := false }]) ∧ Below w.heap.size w w' := by
  go_enter Try.func56, Try.ntmps56
  go_wp2_with fail
  refine wp_region_any (by kernel_rfl) ?_
  change wpAny _ _ _ _ _ _ _ (World.drew _)
  refine wpAny_take (i := 0) (v := ?_) rfl (by kernel_rfl) (by kernel_rfl) (by kernel_rfl) (fun _ _ _ h => h) (Or.inl ⟨by rfl, ?_⟩) ?_
  rotate_left
  · intro w; go_simp; all_goals (with_reducible rfl)
  refine wpAny_take (i := 2) (v := ?_) rfl (by kernel_rfl) (by kernel_rfl) (by kernel_rfl) (fun _ _ _ h => h) (Or.inl ⟨by rfl, ?_⟩) ?_
  rotate_left
  · intro w; go_simp; all_goals (with_reducible rfl)
  refine wpAny_ready (rs := [1, 3]) (by kernel_rfl) (by simp) ?_
  refine AllReady.cons rfl (fun K hK => ?_) ?_
  · go_simp
    refine hK _ _ ?_
    clear hK K
    refine wpAny_ready (rs := [3]) (by kernel_rfl) (by simp) ?_
    refine AllReady.cons rfl (fun K hK => ?_) AllReady.nil
    go_simp
    go_wp2_with ((go_at_call 71; refine (whole_walk hx _).mono ?_; rintro e w' ⟨rfl, rfl⟩))
    refine wpAny_ready (rs := [4]) (by kernel_rfl) (by simp) ?_
    refine AllReady.cons rfl (fun K hK => ?_) AllReady.nil
    go_simp
    exact ⟨rfl, ⟨_, _, rfl⟩, (below_alloc _ _).drew⟩
  · refine AllReady.cons rfl (fun K hK => ?_) AllReady.nil
    go_simp
    go_wp2_with ((go_at_call 71; refine (whole_walk hx _).mono ?_; rintro e w' ⟨rfl, rfl⟩))
    refine wpAny_ready (rs := [1]) (by kernel_rfl) (by simp) ?_
    refine AllReady.cons rfl (fun K hK => ?_) AllReady.nil
    go_simp
    refine hK _ _ ?_
    clear hK K
    refine wpAny_ready (rs := [4]) (by kernel_rfl) (by simp) ?_
    refine AllReady.cons rfl (fun K hK => ?_) AllReady.nil
    go_simp
    exact ⟨rfl, ⟨_, _, rfl⟩, (below_alloc _ _).drew⟩
end Go.Proofs.Ytjkhegekojflhab
