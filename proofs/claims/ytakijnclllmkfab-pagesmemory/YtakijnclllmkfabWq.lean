/- TakeRun and its reference. -/
import Derived.Test.YtakijnclllmkfabWr

import Derived.Test.YtakijnclllmkfabWo

namespace Go.Proofs.Ytakijnclllmkfab

open Go.RowKit

theorem t3_lit {r : Nat × Nat × Nat} {a b c : Nat} (h : r = (a, b, c)) : t3 r = .tuple #[.int .u64 a, .int .i64 b, .int .i64 c] := by subst h; rfl
theorem own_form {w : World} {base e n : Nat} {v : Value} {xs : List Value} (h : w.ownsRow base e 1 v n xs) : ∃ ao cap, v = .slice ao n cap := by
  rcases h.2 with ⟨rfl, rfl⟩ | ⟨g, cap, cur, rfl, _⟩
  · exact ⟨_, _, rfl⟩
  · exact ⟨_, _, rfl⟩


theorem Bv.le_cap {w : World} {ao : Option Addr} {cap : Nat} {l : List Nat} (h : Bv w (.slice ao l.length cap) l) : l.length ≤ cap := by
  obtain ⟨⟨ao', cap', e, h1, _⟩, _⟩ := h
  simp only [Value.slice.injEq] at e
  obtain ⟨_, _, rfl⟩ := e
  rwa [ib_len] at h1




theorem takeRun_err {l : List Nat} {e : Nat} (h : Wm.take l = (0, 0, e)) (h34 : e = 3 ∨ e = 4) : Wm.takeRun l = ([], 0, e) := by
  unfold Wm.takeRun; rw [h]; rcases h34 with rfl | rfl <;> rfl
theorem takeRun_short {l : List Nat} {x n : Nat} (h : Wm.take l = (x, n, 0)) (hs : l.length - n < x) : Wm.takeRun l = ([], 0, 3) := by
  unfold Wm.takeRun; rw [h]; simp only; rw [if_pos hs]
theorem takeRun_ok {l : List Nat} {x n : Nat} (h : Wm.take l = (x, n, 0)) (hs : ¬ l.length - n < x) : Wm.takeRun l = ((l.drop n).take x, n + x, 0) := by
  unfold Wm.takeRun; rw [h]; simp only; rw [if_neg hs]


/-- What TakeRun leaves: the bytes (nil or a row of its own), how many, the error. -/
def RunLeft (l : List Nat) (w : World) (e : Ending) (w' : World) : Prop :=
  ∃ ao cap, e = .returned (.tuple #[.slice ao (Wm.takeRun l).1.length cap, .int .i64 ((Wm.takeRun l).2.1 : Nat), .int .i64 ((Wm.takeRun l).2.2 : Nat)]) ∧ Bv w' (.slice ao (Wm.takeRun l).1.length cap) (Wm.takeRun l).1 ∧ Below w.heap.size w w'


theorem runleft_none {l : List Nat} {w : World} {e : Nat} {c : Int} (h : Wm.takeRun l = ([], 0, e)) (hc : c = e) : RunLeft l w (.returned (.tuple #[.slice none 0 0, .int .i64 0, .int .i64 c])) w := by
  refine ⟨none, 0, by rw [h, hc]; rfl, ?_, Below.refl _ _⟩
  rw [h]; exact Bv.nil w


theorem runleft_some {l r : List Nat} {w w' : World} {n m : Nat} {c : Int} {ao : Option Addr} {cap : Nat} (h : Wm.takeRun l = (r, m, 0)) (hb : Bv w' (.slice ao n cap) r) (hn : n = r.length) (hB : Below w.heap.size w w') (hc : c = m) :
    RunLeft l w (.returned (.tuple #[.slice ao n cap, .int .i64 c, .int .i64 0])) w' := by
  subst hn hc
  refine ⟨ao, cap, by rw [h]; rfl, ?_, hB⟩
  rw [h]; exact hb


theorem Bv.cutB {w : World} {ao : Option Addr} {cap : Nat} {l : List Nat} (h : Bv w (.slice ao l.length cap) l) (n x : Nat) (hx : n + x ≤ l.length) (hne : ¬ cap = n) :
    Bv w (.slice (ao.map fun a => a.add n) x (cap - n)) ((l.drop n).take x) := by
  have := h.cut n (n + x) (by omega) hx False (by simp [hne])
  simpa using this


theorem Bv.cutA {w : World} {ao : Option Addr} {l : List Nat} (n : Nat) : Bv w (.slice ao 0 0) ((l.drop n).take 0) := by
  refine ⟨⟨ao, 0, by simp [ib], by simp [ib], by simp [maxLen], fun _ => rfl, fun i hi => by simp [ib] at hi⟩, by simp⟩






end Go.Proofs.Ytakijnclllmkfab


