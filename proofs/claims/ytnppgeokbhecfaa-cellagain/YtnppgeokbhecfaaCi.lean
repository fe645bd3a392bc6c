/- Slices as lists: of values, of flags, of acts, of rounds. -/
import Derived.Test.YtnppgeokbhecfaaCh
namespace Go.Proofs.Ytnppgeokbhecfaa
open Ieee Go.RowKit

/-- The cells behind ao hold the list l, n cells an element. -/
def Gl {α : Type} (w : World) (ao : Option Addr) (n : Nat) (f : α → List Value) (l : List α) : Prop :=
  ∀ i, (h : i < l.length) → ∃ b off, ao = some ⟨b, off, none⟩ ∧ ∀ j, j < n → w.cell? ⟨b, off + (i * n + j), none⟩ = (f l[i])[j]?

/-- The value v is a slice that holds the list l. -/
def Gv {α : Type} (w : World) (v : Value) (n : Nat) (f : α → List Value) (l : List α) : Prop :=
  ∃ ao cap, v = .slice ao l.length cap ∧ l.length ≤ cap ∧ cap ≤ maxLen ∧ (ao = none → cap = 0) ∧ Gl w ao n f l

theorem Gl.below {α : Type} {w w' : World} {ao : Option Addr} {n : Nat} {f : α → List Value} {l : List α} (hf : ∀ a, (f a).length = n) (h : Gl w ao n f l) (hb : Below w.heap.size w w') : Gl w' ao n f l := by
  intro i hi
  obtain ⟨b, off, e, hc⟩ := h i hi
  refine ⟨b, off, e, fun j hj => ?_⟩
  have h1 := hc j hj
  have h2 : (f l[i])[j]? = some ((f l[i])[j]'(by rw [hf]; exact hj)) := List.getElem?_eq_getElem _
  rw [h2] at h1 ⊢
  rw [hb.cell (p := ⟨b, off + (i * n + j), none⟩) (cell_lt h1)]
  exact h1

def valF (v : Vl) : List Value := [.bool v.h, .int .u64 v.b]
def flagF (b : Bool) : List Value := [.bool b]

/-- What is done to a cell. -/
structure At where
  a : Int
  b : Int
  v : Vl

def At.ok (x : At) : Prop := x.v.ok ∧ -9223372036854775808 ≤ x.b ∧ x.b < 9223372036854775808
def actF (x : At) : List Value := [.int .i64 x.a, .int .i64 x.b, .bool x.v.h, .int .u64 x.v.b]

/-- A batch's part, a part that fails, whether one fails, whether the batch misses the key. -/
structure Ro where
  p : Vl
  w : Vl
  f : Bool
  m : Bool

def Ro.ok (x : Ro) : Prop := x.p.ok ∧ x.w.ok
def rouF (x : Ro) : List Value := [.bool x.p.h, .int .u64 x.p.b, .bool x.w.h, .int .u64 x.w.b, .bool x.f, .bool x.m]
end Go.Proofs.Ytnppgeokbhecfaa
