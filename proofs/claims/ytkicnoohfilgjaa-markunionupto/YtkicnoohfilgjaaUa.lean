/- Rows of whole numbers that are sorted in place: what they hold, two places exchanged. -/
import Derived.Test.YtkicnoohfilgjaaWb

import Derived.Sort.LotA

import Derived.Sort.LotB

import Derived.Sort.LotC

import Derived.Sort.LotD3

import Derived.Sort.Row

import Derived.BigQuiet

import Derived.Deep.QuietTactic

import Derived.Maps.RangeWalk

namespace Go.Proofs.Ytkicnoohfilgjaa

open Go.RowKit



def ltN (x y : Nat) : Bool := decide (x < y)
theorem swo_ltN : Sort.SWO ltN where
  irrefl x := by simp [ltN]
  trans x y z h k := by simp [ltN] at *; omega
  ntrans x y z h k := by simp [ltN] at *; omega


/-- Block g is a row of cap numbers, none of it frozen; those from o on are d. -/
def Un (w : World) (g o cap : Nat) (d : Array Nat) : Prop :=
  ∃ cur, w.heap[g]? = some (.cells cur 32 (0, 0)) ∧ cur.size = cap ∧ o + d.size ≤ cap ∧ ∀ j, j < d.size → cur[o + j]? = some (.int .u64 (d[j]! : Nat))


theorem Un.cell {w : World} {g o cap : Nat} {d : Array Nat} (h : Un w g o cap d) {j : Nat} (hj : j < d.size) : w.cell? ⟨g, o + j, none⟩ = some (.int .u64 (d[j]! : Nat)) := by
  obtain ⟨cur, h1, _, _, h4⟩ := h
  rw [cell_of_row w g (o + j) cur _ (0, 0) h1]
  exact h4 j hj
theorem Un.soft {w : World} {g o cap : Nat} {d : Array Nat} (h : Un w g o cap d) (j : Nat) : w.frozen? ⟨g, o + j, none⟩ = false := by
  obtain ⟨cur, h1, _⟩ := h
  simp [World.frozen?, h1]
theorem Un.lt {w : World} {g o cap : Nat} {d : Array Nat} (h : Un w g o cap d) : g < w.heap.size := by
  obtain ⟨cur, h1, _⟩ := h
  exact (Array.getElem?_eq_some_iff.1 h1).1
theorem Un.kept {w w' : World} {g o cap : Nat} {d : Array Nat} (h : Un w g o cap d) (hb : w'.heap[g]? = w.heap[g]?) : Un w' g o cap d := by
  obtain ⟨cur, h1, h2⟩ := h
  exact ⟨cur, by rw [hb]; exact h1, h2⟩


/-- A number laid into the row. -/
theorem Un.set {w : World} {g o cap : Nat} {d : Array Nat} (h : Un w g o cap d) {i : Nat} (hi : i < d.size) (x : Nat) : Un (w.setCell ⟨g, o + i, none⟩ (.int .u64 x)) g o cap (d.setIfInBounds i x) := by
  obtain ⟨cur, h1, h2, h3, h4⟩ := h
  refine ⟨cur.setIfInBounds (o + i) (.int .u64 x), ?_, by simpa using h2, by simpa using h3, fun j hj => ?_⟩
  · rw [Sort.setCell_eq]
    simp [Sort.mapBlock, Array.getElem?_modify, h1, Sort.onCells]
  · have hj' : j < d.size := by simpa using hj
    rw [Array.getElem?_setIfInBounds]
    by_cases e : i = j
    · subst e
      rw [if_pos rfl, if_pos (by omega), Sort.getElem!_set_same d i x hi]
    · rw [if_neg (by omega), h4 j hj', getElem!_pos (d.setIfInBounds i x) j hj, Array.getElem_setIfInBounds hj', if_neg e, getElem!_pos d j hj']
/-- Two places exchanged. -/
theorem Un.swap {w : World} {g o cap : Nat} {d : Array Nat} (h : Un w g o cap d) {i j : Nat} (hi : i < d.size) (hj : j < d.size) :
    Un ((w.setCell ⟨g, o + i, none⟩ (.int .u64 (d[j]! : Nat))).setCell ⟨g, o + j, none⟩ (.int .u64 (d[i]! : Nat))) g o cap (Sort.swp d i j) := (h.set hi d[j]!).set (by simpa using hj) d[i]!


theorem grown_set (w : World) (g i : Nat) (u : Value) : w.grownBy (w.setCell ⟨g, i, none⟩ u) (some g) :=
  ⟨rfl, rfl, rfl, by simp [go_sem], fun k hk hne => by rw [Below.heap_setCell w _ _ k (by rintro rfl; exact hne rfl)]⟩
theorem grown_refl (w : World) (r : Option Nat) : w.grownBy w r := ⟨rfl, rfl, rfl, Nat.le_refl _, fun _ _ _ => rfl⟩
theorem grown_trans {a b c : World} {g : Nat} (h : a.grownBy b (some g)) (k : b.grownBy c (some g)) : a.grownBy c (some g) := h.andThen k (fun _ hj => Or.inr hj)
theorem grown_swap {w0 w : World} {g : Nat} (h : w0.grownBy w (some g)) (i j : Nat) (u v : Value) : w0.grownBy ((w.setCell ⟨g, i, none⟩ u).setCell ⟨g, j, none⟩ v) (some g) :=
  grown_trans (grown_trans h (grown_set _ _ _ _)) (grown_set _ _ _ _)


/-- Where a function stands that turns the row g alone: the row holds dk. -/
structure Us (w : World) (g o cap n : Nat) (dk : Array Nat) (wr : World) : Prop where
  row : Un wr g o cap dk
  size : dk.size = n
  grown : w.grownBy wr (some g)


theorem Us.start {w : World} {g o cap : Nat} {d : Array Nat} (h : Un w g o cap d) : Us w g o cap d.size d w := ⟨h, rfl, grown_refl _ _⟩
theorem Us.swap {w wr : World} {g o cap n : Nat} {d : Array Nat} (h : Us w g o cap n d wr) {i j : Nat} (hi : i < n) (hj : j < n) {x y : Nat} (hx : x = d[j]!) (hy : y = d[i]!) :
    Us w g o cap n (Sort.swp d i j) ((wr.setCell ⟨g, o + i, none⟩ (.int .u64 (x : Nat))).setCell ⟨g, o + j, none⟩ (.int .u64 (y : Nat))) := by
  subst hx; subst hy
  obtain ⟨h1, h2, h3⟩ := h
  exact ⟨h1.swap (by omega) (by omega), by rw [Sort.size_swp]; exact h2, grown_swap h3 _ _ _ _⟩
theorem Us.drew {w wr : World} {g o cap n : Nat} {d : Array Nat} (h : Us w g o cap n d wr) (k : Nat) : Us w g o cap n d (wr.drewN k) := ⟨h.row, h.size, ⟨h.grown.os, h.grown.tape, h.grown.output, h.grown.size, h.grown.block⟩⟩
theorem Us.after {w w1 w2 : World} {g o cap n : Nat} {d e : Array Nat} (h : Us w g o cap n d w1) (k : Us w1 g o cap n e w2) : Us w g o cap n e w2 := ⟨k.row, k.size, grown_trans h.grown k.grown⟩
theorem Us.cell {w wr : World} {g o cap n : Nat} {d : Array Nat} (h : Us w g o cap n d wr) : ∀ t, t < n → wr.cell? ⟨g, o + t, none⟩ = some (.int .u64 (d[t]! : Nat)) := fun t ht => h.row.cell (by rw [h.size]; exact ht)
theorem Us.soft {w wr : World} {g o cap n : Nat} {d : Array Nat} (h : Us w g o cap n d wr) : ∀ t, wr.frozen? ⟨g, o + t, none⟩ = false := fun t => h.row.soft t
theorem Us.drew1 {w wr : World} {g o cap n : Nat} {d : Array Nat} (h : Us w g o cap n d wr) : Us w g o cap n d wr.drew := ⟨h.row, h.size, ⟨h.grown.os, h.grown.tape, h.grown.output, h.grown.size, h.grown.block⟩⟩
/-- The row's numbers under a name, read and written. -/
theorem Us.fam {w wr : World} {g o cap n : Nat} {d : Array Nat} (h : Us w g o cap n d wr) : ∃ G : Nat → Nat, (∀ t, G t = d[t]!) ∧ (∀ t, t < n → wr.cell? ⟨g, o + t, none⟩ = some (.int .u64 (G t : Nat))) ∧ (∀ t, t < n → wr.frozen? ⟨g, o + t, none⟩ = false) :=
  ⟨fun t => d[t]!, fun _ => rfl, h.cell, fun t _ => h.soft t⟩
/-- Two places exchanged, as the walk leaves it. -/
theorem Us.swp {w wr : World} {g o cap n : Nat} {d : Array Nat} (h : Us w g o cap n d wr) {G : Nat → Nat} (hG : ∀ t, G t = d[t]!) {i j : Nat} (hi : i < n) (hj : j < n) (q : Nat) :
    Us w g o cap n (Sort.swp d i j) (((wr.drewN q).setCell ⟨g, o + i, none⟩ (.int .u64 (G j : Nat))).setCell ⟨g, o + j, none⟩ (.int .u64 (G i : Nat))) := (h.drew q).swap hi hj (hG j) (hG i)
theorem Us.swp0 {w wr : World} {g o cap n : Nat} {d : Array Nat} (h : Us w g o cap n d wr) {G : Nat → Nat} (hG : ∀ t, G t = d[t]!) {i j : Nat} (hi : i < n) (hj : j < n) :
    Us w g o cap n (Sort.swp d i j) (((wr.setCell ⟨g, o + i, none⟩ (.int .u64 (G j : Nat))).setCell ⟨g, o + j, none⟩ (.int .u64 (G i : Nat))).drew) := (h.swap hi hj (hG j) (hG i)).drew1
theorem wrapU {x : Int} (h0 : 0 ≤ x) (h1 : x < 9223372036854775808) : IntKind.i64.wrap x = x := by
  rw [IntKind.wrap_i64]; omega
end Go.Proofs.Ytkicnoohfilgjaa


