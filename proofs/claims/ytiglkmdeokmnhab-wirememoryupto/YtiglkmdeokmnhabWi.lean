/- ints: the same numbers; two slices that hold one list. -/
import Derived.Test.YtiglkmdeokmnhabWp
import Derived.Deep.QuietTactic
import Derived.BigQuiet
namespace Go.Proofs.Ytiglkmdeokmnhab
open Go.RowKit

set_option maxRecDepth 100000 in
set_option maxHeartbeats 1000000 in
theorem ints_some (l : List Int) (b1 o1 c1 b2 o2 c2 : Nat) (w : World) (hsz : l.length ≤ 9223372036854775807)
    (h1 : ∀ i, i < l.length → w.cell? ⟨b1, o1 + i, none⟩ = some (.int .i64 (l.getD i 0))) (h2 : ∀ i, i < l.length → w.cell? ⟨b2, o2 + i, none⟩ = some (.int .i64 (l.getD i 0))) :
    Calls Try.prog 7 #[.slice (some ⟨b1, o1, none⟩) l.length c1, .slice (some ⟨b2, o2, none⟩) l.length c2] w fun e w' => e = .returned (.bool true) ∧ Below w.heap.size w w' := by
  have H1 : Hid (∀ i, i < l.length → w.cell? ⟨b1, o1 + i, none⟩ = some (.int .i64 (l.getD i 0))) := h1
  have H2 : Hid (∀ i, i < l.length → w.cell? ⟨b2, o2 + i, none⟩ = some (.int .i64 (l.getD i 0))) := h2
  have hle : (l.length : Int) ≤ 9223372036854775807 := by omega
  clear h1 h2 hsz
  go_enter Try.func7, Try.ntmps7
  go_wp2_with fail
  go_loopw [5] (fun iv wr => ∃ k : Nat, k ≤ l.length ∧ iv = .int .i64 k ∧ Below w.heap.size w wr) (fun iv _ => l.length - (intOf iv).toNat)
  case atStart => exact ⟨0, Nat.zero_le _, rfl, Below.refl _ _⟩
  case round =>
    obtain ⟨k, hk, rfl, hbel⟩ := hrel
    have HB : Hid (Below w.heap.size w wr) := hbel
    clear hbel
    by_cases hlt : (k : Int) < (l.length : Int)
    · have h1 := H1.out k (by omega)
      have h2 := H2.out k (by omega)
      obtain ⟨x, hx⟩ : ∃ x, l.getD k 0 = x := ⟨_, rfl⟩
      rw [hx] at h1 h2
      have g1 : wr.cell? ⟨b1, o1 + k, none⟩ = some (.int .i64 x) := by rw [HB.out.cell (p := ⟨b1, o1 + k, none⟩) (cell_lt h1)]; exact h1
      have g2 : wr.cell? ⟨b2, o2 + k, none⟩ = some (.int .i64 x) := by rw [HB.out.cell (p := ⟨b2, o2 + k, none⟩) (cell_lt h2)]; exact h2
      clear h1 h2 hx
      go_wp2_with fail
      go_quiet (fail)
      go_wp2_with fail
      go_roundw
      case rel => exact ⟨k + 1, by omega, by go_num, below_trans HB.out (below_drewN _ _)⟩
      case measure => simp [intOf]; omega
    · go_wp2_with fail
      go_ret
      exact ⟨rfl, HB.out⟩

set_option maxRecDepth 100000 in
theorem ints_none (a1 a2 : Option Addr) (c1 c2 : Nat) (w : World) :
    Calls Try.prog 7 #[.slice a1 0 c1, .slice a2 0 c2] w fun e w' => e = .returned (.bool true) ∧ Below w.heap.size w w' := by
  go_enter Try.func7, Try.ntmps7
  go_wp2_with fail
  refine wp_loop_rounds 1 ?_
  rw [rounds_succ]
  go_wp2_with fail
  go_ret
  exact ⟨rfl, Below.refl _ _⟩

theorem sv_at {k : IntKind} {w : World} {v : Value} {l : List Int} (h : Sv k w v l) (h0 : l ≠ []) : ∃ b off cap, v = .slice (some ⟨b, off, none⟩) l.length cap ∧ ∀ i, i < l.length → w.cell? ⟨b, off + i, none⟩ = some (.int k (l.getD i 0)) := by
  obtain ⟨ao, cap, rfl, _, _, _, h4⟩ := h
  obtain ⟨b, off, rfl, _⟩ := h4 0 (List.length_pos_iff.2 h0)
  refine ⟨b, off, cap, rfl, fun i hi => ?_⟩
  obtain ⟨b', off', e1, e2⟩ := h4 i hi
  cases e1
  exact e2

theorem ints_walk {w : World} {u v : Value} {l : List Int} (hu : Sv .i64 w u l) (hv : Sv .i64 w v l) :
    Calls Try.prog 7 #[u, v] w fun e w' => e = .returned (.bool true) ∧ Below w.heap.size w w' := by
  by_cases h0 : l = []
  · subst h0
    obtain ⟨a1, c1, rfl, _⟩ := hu
    obtain ⟨a2, c2, rfl, _⟩ := hv
    exact ints_none a1 a2 c1 c2 w
  · have hl := hu.len_le
    unfold maxLen at hl
    obtain ⟨b1, o1, c1, rfl, h1⟩ := sv_at hu h0
    obtain ⟨b2, o2, c2, rfl, h2⟩ := sv_at hv h0
    exact ints_some l b1 o1 c1 b2 o2 c2 w hl h1 h2
end Go.Proofs.Ytiglkmdeokmnhab
