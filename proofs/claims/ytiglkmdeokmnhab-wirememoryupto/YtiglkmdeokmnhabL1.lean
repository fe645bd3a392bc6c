/- The walk of the statement WireNumbers. -/
import Derived.Test.YtiglkmdeokmnhabL5
namespace Go.Proofs.Ytiglkmdeokmnhab
open Go.RowKit

theorem wd_lt (x : Nat) : ∀ c ∈ Wm.wd x, c < 256 := Wm.wdF_lt 8 x

/-- What a caller takes of a function that answers the bytes l. -/
def Gives (l : List Nat) (w : World) (e : Ending) (w' : World) : Prop :=
  ∃ ao cap, e = .returned (.slice ao l.length cap) ∧ Bv w' (.slice ao l.length cap) l ∧ Below w.heap.size w w'

theorem gives_of {l : List Nat} {n : Nat} {w : World} (hl : ∀ c ∈ l, c < 256) {e : Ending} {w' : World} (h : ∃ v, e = .returned v ∧ w'.ownsRow w.heap.size 5 1 v n ((ib l).map (Value.int .u8)) ∧ Below w.heap.size w w') : Gives l w e w' := by
  obtain ⟨v, rfl, hown, hbel⟩ := h
  obtain rfl : n = l.length := by have := own_len hown; rwa [ib_len] at this
  obtain ⟨ao, cap, rfl⟩ := own_form hown
  exact ⟨ao, cap, rfl, own_bv hown hl, hbel⟩

theorem takeW_wd {x : Nat} (r : List Nat) (hx : x < 18446744073709551616) : Wm.takeW (Wm.wd x ++ r) = (x, 0) := by
  unfold Wm.takeW
  rw [if_neg (by rw [List.length_append, Wm.wd_len]; omega), List.take_append_of_le_length (by rw [Wm.wd_len]; omega), List.take_of_length_le (by rw [Wm.wd_len]; omega), Wm.unw_wd x hx]
end Go.Proofs.Ytiglkmdeokmnhab
