/- Slices of values, slices of floats, as lists. -/
import Derived.Test.YtomjofhjmghdfaaDoorGw
import Derived.Deep.DeepCutAuto
import Derived.Deep.RegionHeld3
namespace Go.Proofs.YtomjofhjmghdfaaDoor
open Ieee Go.RowKit

/-- The cells behind ao hold the values l. -/
def Vc (w : World) (ao : Option Addr) (l : List Vl) : Prop :=
  ∀ i, (h : i < l.length) → ∃ b off, ao = some ⟨b, off, none⟩ ∧ w.cell? ⟨b, off + i * 2, none⟩ = some (.bool l[i].h) ∧ w.cell? ⟨b, off + i * 2 + 1, none⟩ = some (.int .u64 l[i].b)

/-- The value v is a slice that holds the values l. -/
def Vv (w : World) (v : Value) (l : List Vl) : Prop :=
  (∃ ao cap, v = .slice ao l.length cap ∧ l.length ≤ cap ∧ cap ≤ maxLen ∧ (ao = none → cap = 0) ∧ Vc w ao l) ∧ ∀ o ∈ l, o.ok

theorem Vc.below {w w' : World} {ao : Option Addr} {l : List Vl} (h : Vc w ao l) (hb : Below w.heap.size w w') : Vc w' ao l := by
  intro i hi
  obtain ⟨b, off, e, h0, h1⟩ := h i hi
  exact ⟨b, off, e, by rw [hb.cell (p := ⟨b, off + i * 2, none⟩) (cell_lt h0)]; exact h0, by rw [hb.cell (p := ⟨b, off + i * 2 + 1, none⟩) (cell_lt h1)]; exact h1⟩

/-- The cells behind ao hold the floats l. -/
def Fc (w : World) (ao : Option Addr) (l : List Nat) : Prop :=
  ∀ i, (h : i < l.length) → ∃ b off, ao = some ⟨b, off, none⟩ ∧ w.cell? ⟨b, off + i, none⟩ = some (.float .f64 l[i])

/-- The value v is a slice that holds the floats l. -/
def Fv (w : World) (v : Value) (l : List Nat) : Prop :=
  (∃ ao cap, v = .slice ao l.length cap ∧ l.length ≤ cap ∧ cap ≤ maxLen ∧ (ao = none → cap = 0) ∧ Fc w ao l) ∧ ∀ x ∈ l, x < 18446744073709551616

theorem Fc.below {w w' : World} {ao : Option Addr} {l : List Nat} (h : Fc w ao l) (hb : Below w.heap.size w w') : Fc w' ao l := by
  intro i hi
  obtain ⟨b, off, e, h0⟩ := h i hi
  exact ⟨b, off, e, by rw [hb.cell (p := ⟨b, off + i, none⟩) (cell_lt h0)]; exact h0⟩

theorem Fv.below {w w' : World} {v : Value} {l : List Nat} (h : Fv w v l) (hb : Below w.heap.size w w') : Fv w' v l := by
  obtain ⟨⟨ao, cap, e, h1, h2, h3, h4⟩, h5⟩ := h
  exact ⟨⟨ao, cap, e, h1, h2, h3, h4.below hb⟩, h5⟩

/-- How far a loop over n has come. -/
def Lp (w : World) (n : Nat) (iv : Value) (wr : World) : Prop := ∃ i : Nat, i ≤ n ∧ iv = .int .i64 i ∧ Below w.heap.size w wr

theorem lp_start (w w1 : World) (n : Nat) (h : Below w.heap.size w w1) : Lp w n (.int .i64 0) w1 := ⟨0, Nat.zero_le _, rfl, h⟩

theorem lp_step {w wr w1 : World} {n i : Nat} (hi : i < n) (h : Below w.heap.size w wr) (h1 : Below wr.heap.size wr w1) : Lp w n (.int .i64 ((i : Int) + 1)) w1 :=
  ⟨i + 1, hi, by simp, below_trans h h1⟩
end Go.Proofs.YtomjofhjmghdfaaDoor
