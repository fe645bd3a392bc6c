/- Worlds that grow; the number behind a small one. -/
import Derived.Test.YtjkhegekojflhabW1
import Derived.Lib.Hide
import Derived.CellFam
import Derived.Deep.DeepCutAuto
import Derived.BigQuiet
import Derived.Deep.QuietTactic
import Derived.Maps.RangeWalk
namespace Go.Proofs.Ytjkhegekojflhab
open Go.RowKit

theorem grown_set (w : World) (g i : Nat) (u : Value) : w.grownBy (w.setCell ⟨g, i, none⟩ u) (some g) :=
  ⟨rfl, rfl, rfl, by simp [go_sem], fun k hk hne => by rw [Below.heap_setCell w _ _ k (by rintro rfl; exact hne rfl)]⟩
theorem grown_refl (w : World) (r : Option Nat) : w.grownBy w r := ⟨rfl, rfl, rfl, Nat.le_refl _, fun _ _ _ => rfl⟩
theorem grown_trans {a b c : World} {g : Nat} (h : a.grownBy b (some g)) (k : b.grownBy c (some g)) : a.grownBy c (some g) := h.andThen k (fun _ hj => Or.inr hj)
theorem grown_swap {w0 w : World} {g : Nat} (h : w0.grownBy w (some g)) (i j : Nat) (u v : Value) : w0.grownBy ((w.setCell ⟨g, i, none⟩ u).setCell ⟨g, j, none⟩ v) (some g) :=
  grown_trans (grown_trans h (grown_set _ _ _ _)) (grown_set _ _ _ _)
theorem wrapU {x : Int} (h0 : 0 ≤ x) (h1 : x < 9223372036854775808) : IntKind.i64.wrap x = x := by
  rw [IntKind.wrap_i64]; omega
end Go.Proofs.Ytjkhegekojflhab
