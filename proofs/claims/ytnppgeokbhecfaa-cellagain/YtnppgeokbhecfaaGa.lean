/- Values of aggregates as numbers: what Known, Of, Fit and Merge answer. -/
import Derived.Test.YtnppgeokbhecfaaW2
import Derived.WalkKit
import Derived.ProofKit
namespace Go.Proofs.Ytnppgeokbhecfaa
open Ieee Go.RowKit

/-- A value: whether there is one, and its bits. -/
structure Vl where
  h : Bool
  b : Nat

def Vl.ok (v : Vl) : Prop := v.b < 18446744073709551616

def noV : Vl := ⟨false, 0⟩

def knownB (k : Int) : Bool := decide (1 ≤ k) && decide (k ≤ 4)

def wholeU (x : Nat) : Nat := (IntKind.u64.wrap (wholeI x)).toNat

def ofV (k : Int) (x : Nat) : Vl := if k = 1 then ⟨true, 1⟩ else if k = 2 then ⟨true, wholeU x⟩ else if k = 3 ∨ k = 4 then ⟨true, canonW x⟩ else noV

def fitV (k : Int) (v : Vl) : Vl := if v.h = false then noV else if k = 1 ∨ k = 2 then v else if k = 3 ∨ k = 4 then ⟨true, canonW v.b⟩ else noV

/-- Two fit values put together. -/
def joinV (k : Int) (a b : Vl) : Vl :=
  if a.h = false then b else if b.h = false then a else if k = 3 then ⟨true, leastW a.b b.b⟩ else if k = 4 then ⟨true, mostW a.b b.b⟩ else ⟨true, (a.b + b.b) % 18446744073709551616⟩

def mergeV (k : Int) (a b : Vl) : Vl := joinV k (fitV k a) (fitV k b)

theorem wholeU_lt (x : Nat) : wholeU x < 18446744073709551616 := by
  unfold wholeU
  rw [IntKind.wrap_u64]
  omega

theorem wholeU_eq (x : Nat) : ((wholeU x : Nat) : Int) = IntKind.u64.wrap (wholeI x) := by
  unfold wholeU
  rw [IntKind.wrap_u64]
  omega

theorem noV_ok : noV.ok := by show 0 < 18446744073709551616; omega

theorem ofV_ok (k : Int) {x : Nat} (hx : x < 18446744073709551616) : (ofV k x).ok := by
  unfold ofV
  split
  · show 1 < 18446744073709551616; omega
  split
  · exact wholeU_lt x
  split
  · exact canon_lt hx
  · exact noV_ok

theorem fitV_ok (k : Int) {v : Vl} (hv : v.ok) : (fitV k v).ok := by
  unfold fitV
  split
  · exact noV_ok
  split
  · exact hv
  split
  · exact canon_lt hv
  · exact noV_ok

theorem leastW_lt {a b : Nat} (ha : a < 18446744073709551616) (hb : b < 18446744073709551616) : leastW a b < 18446744073709551616 := by
  unfold leastW
  split
  · exact canon_lt ha
  · exact canon_lt hb

theorem mostW_lt {a b : Nat} (ha : a < 18446744073709551616) (hb : b < 18446744073709551616) : mostW a b < 18446744073709551616 := by
  unfold mostW
  split
  · exact canon_lt ha
  · exact canon_lt hb

theorem joinV_ok (k : Int) {a b : Vl} (ha : a.ok) (hb : b.ok) : (joinV k a b).ok := by
  unfold joinV
  split
  · exact hb
  split
  · exact ha
  split
  · exact leastW_lt ha hb
  split
  · exact mostW_lt ha hb
  · exact Nat.mod_lt _ (by omega)

theorem mergeV_ok (k : Int) {a b : Vl} (ha : a.ok) (hb : b.ok) : (mergeV k a b).ok := joinV_ok k (fitV_ok k ha) (fitV_ok k hb)

theorem canonW_canonW (x : Nat) : canonW (canonW x) = canonW x := by
  unfold canonW
  cases h : nanB x
  · simp [h]
  · rw [if_pos rfl, if_pos (by decide)]

theorem canonW_leastW (a b : Nat) : canonW (leastW a b) = leastW a b := by
  unfold leastW
  split <;> exact canonW_canonW _

theorem canonW_mostW (a b : Nat) : canonW (mostW a b) = mostW a b := by
  unfold mostW
  split <;> exact canonW_canonW _

theorem known_kind {k : Int} : knownB k = true ↔ k = 1 ∨ k = 2 ∨ k = 3 ∨ k = 4 := by
  unfold knownB
  simp
  omega

theorem unknown_kind {k : Int} (h : knownB k = false) : k ≠ 1 ∧ k ≠ 2 ∧ k ≠ 3 ∧ k ≠ 4 := by
  unfold knownB at h
  simp at h
  omega
end Go.Proofs.Ytnppgeokbhecfaa
