/- Run, Nums and their references: rows of the call's own. -/
import Derived.Test.YtnnammlipfappaaWj

import Derived.Test.YtnnammlipfappaaWt

namespace Go.Proofs.Ytnnammlipfappaa

open Go.RowKit



theorem own_below {w w' : World} {base e size n : Nat} {v : Value} {xs : List Value} (h : w.ownsRow base e size v n xs) (hb : Below w.heap.size w w') : w'.ownsRow base e size v n xs := by
  refine ⟨h.1, ?_⟩
  rcases h.2 with h' | ⟨g, cap, cur, hv, hg, hh, r⟩
  · exact .inl h'
  · exact .inr ⟨g, cap, cur, hv, hg, by rw [hb.block g (Array.getElem?_eq_some_iff.1 hh).1]; exact hh, r⟩


theorem bv_form {w : World} {v : Value} {l : List Nat} (h : Bv w v l) : ∃ ao cap, v = .slice ao l.length cap := by
  obtain ⟨⟨ao, cap, rfl, _⟩, _⟩ := h
  exact ⟨ao, cap, by rw [ib_len]⟩


theorem own_base {w : World} {base base' e size n : Nat} {v : Value} {xs : List Value} (h : w.ownsRow base e size v n xs) (hb : base' ≤ base) : w.ownsRow base' e size v n xs := by
  refine ⟨h.1, ?_⟩
  rcases h.2 with h' | ⟨g, cap, cur, hv, hg, hh, r⟩
  · exact .inl h'
  · exact .inr ⟨g, cap, cur, hv, Nat.le_trans hb hg, hh, r⟩


theorem pv_two {w : World} {u v : Value} {l r : List Nat} (t : TypeId) (hu : Bv w u l) (hv : Bv w v r) :
    Pv (w.alloc (.cells #[u, v] t)) (.slice (some ⟨w.heap.size, 0, none⟩) 2 2) [l, r] := by
  refine ⟨_, 2, rfl, Nat.le_refl _, by simp [maxLen], by simp, fun i hi => ?_⟩
  simp at hi
  have : i = 0 ∨ i = 1 := by omega
  rcases this with rfl | rfl
  · exact ⟨_, _, u, rfl, by simp, hu.below (below_alloc _ _)⟩
  · exact ⟨_, _, v, rfl, by simp, hv.below (below_alloc _ _)⟩


theorem pv_one {w : World} {u : Value} {l : List Nat} (t : TypeId) (hu : Bv w u l) :
    Pv (w.alloc (.cells #[u] t)) (.slice (some ⟨w.heap.size, 0, none⟩) 1 1) [l] := by
  refine ⟨_, 1, rfl, Nat.le_refl _, by simp [maxLen], by simp, fun i hi => ?_⟩
  simp at hi
  subst hi
  exact ⟨_, _, u, rfl, by simp, hu.below (below_alloc _ _)⟩


/-- s as a run. -/
def runOf (l : List Nat) : List Nat := Wm.enc l.length ++ l


theorem runOf_len (l : List Nat) : (runOf l).length ≤ 10 + l.length := by
  have := (Wm.enc_len l.length).2
  unfold runOf; rw [List.length_append]; omega
theorem flat_two (a b : List Nat) : [a, b].flatten = a ++ b := by simp




end Go.Proofs.Ytnnammlipfappaa


