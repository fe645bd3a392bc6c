/- Run, Nums and their references: rows of the call's own. -/
import Derived.Test.YtiglkmdeokmnhabWj
import Derived.Test.YtiglkmdeokmnhabWt
namespace Go.Proofs.Ytiglkmdeokmnhab
open Go.RowKit

theorem own_below {w w' : World} {base e size n : Nat} {v : Value} {xs : List Value} (h : w.ownsRow base e size v n xs) (hb : Below w.heap.size w w') : w'.ownsRow base e size v n xs := by
  refine ⟨h.1, ?_⟩
  rcases h.2 with h' | ⟨g, cap, cur, hv, hg, hh, r⟩
  · exact .inl h'
  · exact .inr ⟨g, cap, cur, hv, hg, by rw [hb.block g (Array.getElem?_eq_some_iff.1 hh).1]; exact hh, r⟩

theorem bv_form {w : World} {v : Value} {l : List Nat} (h : Bv w v l) : ∃ ao cap, v = .slice ao l.length cap := by
  obtain ⟨⟨ao, cap, rfl, _⟩, _⟩ := h
  exact ⟨ao, cap, by rw [ib_len]⟩

theorem own_base {w : World} {base base' e size n : Nat} {v : Value} {xs : List Value} (h : w.ownsRow base e size v n xs) (hb : base' ≤ base) : w.ownsRow base' e size v n xs := by
  refine ⟨h.1, ?_⟩
  rcases h.2 with h' | ⟨g, cap, cur, hv, hg, hh, r⟩
  · exact .inl h'
  · exact .inr ⟨g, cap, cur, hv, Nat.le_trans hb hg, hh, r⟩

theorem pv_two {w : World} {u v : Value} {l r : List Nat} (t : TypeId) (hu : Bv w u l) (hv : Bv w v r) :
    Pv (w.alloc (.cells #[u, v] t)) (.slice (some ⟨w.heap.size, 0, none⟩) 2 2) [l, r] := by
  refine ⟨_, 2, rfl, Nat.le_refl _, by simp [maxLen], by simp, fun i hi => ?_⟩
  simp at hi
  have : i = 0 ∨ i = 1 := by omega
  rcases this with rfl | rfl
  · exact ⟨_, _, u, rfl, by simp, hu.below (below_alloc _ _)⟩
  · exact ⟨_, _, v, rfl, by simp, hv.below (below_alloc _ _)⟩

theorem pv_one {w : World} {u : Value} {l : List Nat} (t : TypeId) (hu : Bv w u l) :
    Pv (w.alloc (.cells #[u] t)) (.slice (some ⟨w.heap.size, 0, none⟩) 1 1) [l] := by
  refine ⟨_, 1, rfl, Nat.le_refl _, by simp [maxLen], by simp, fun i hi => ?_⟩
  simp at hi
  subst hi
  exact ⟨_, _, u, rfl, by simp, hu.below (below_alloc _ _)⟩

/-- s as a run. -/
def runOf (l : List Nat) : List Nat := Wm.enc l.length ++ l

theorem runOf_len (l : List Nat) : (runOf l).length ≤ 10 + l.length := by
  have := (Wm.enc_len l.length).2
  unfold runOf; rw [List.length_append]; omega
theorem flat_two (a b : List Nat) : [a, b].flatten = a ++ b := by simp

set_option maxRecDepth 100000 in
set_option maxHeartbeats 1000000 in
theorem run_walk {w : World} {v : Value} {l : List Nat} (h : Bv w v l) (hsz : l.length + 10 ≤ 140737488355328) :
    Calls Try.prog 8 #[v] w fun e w' => ∃ v', e = .returned v' ∧ w'.ownsRow w.heap.size 5 1 v' (runOf l).length ((ib (runOf l)).map (Value.int .u8)) ∧ Below w.heap.size w w' := by
  have HB : Hid (Bv w v l) := h
  have HSZ : Hid (l.length + 10 ≤ 140737488355328) := hsz
  have hle : (l.length : Int) ≤ 140737488355328 := by omega
  obtain ⟨⟨ao, cap, rfl, _⟩, _⟩ := h
  rw [ib_len] at HB ⊢
  clear hsz
  go_enter Try.func8, Try.ntmps8
  go_wp2_with fail
  refine (put_walk l.length (by omega) _).mono ?_
  rintro e w1 ⟨v1, rfl, hown1, hbel1⟩
  have hb1 : Hid (Bv w1 v1 (Wm.enc l.length)) := own_bv hown1 (Wm.enc_lt _ (by omega))
  obtain ⟨a1, c1, rfl⟩ := bv_form hb1.out
  have hb2 : Hid (Bv w1 (.slice ao l.length cap) l) := HB.out.below hbel1
  go_wp2_with fail
  refine (join_walk (pv_two _ hb1.out hb2.out) (by rw [flat_two, List.length_append]; have := (Wm.enc_len l.length).2; have := HSZ.out; omega)).mono ?_
  rintro e w2 ⟨v2, rfl, hown2, hbel2⟩
  have HO : Hid (w2.ownsRow w.heap.size 5 1 v2 (runOf l).length ((ib (runOf l)).map (Value.int .u8))) := by
    rw [flat_two] at hown2
    exact own_base hown2 (by have := hbel1.size; simp; omega)
  have HBL : Hid (Below w.heap.size w w2) := below_trans hbel1 (below_trans (below_alloc _ _) hbel2)
  clear hown2 hbel2 hown1 hbel1
  go_wp2_with fail
  go_ret
  exact ⟨_, rfl, HO.out, HBL.out⟩
end Go.Proofs.Ytiglkmdeokmnhab
