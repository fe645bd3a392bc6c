/- What the row's list of tables gives: the forms of the steps among it. -/
import Derived.Test.YtkiplcmndpdifaaGreatDoorTh

import Derived.Test.YtkiplcmndpdifaaGreatDoorRows

import Derived.WalkKit

import Derived.ProofKit

import Derived.OpenShut

import Derived.Carry

import Derived.Deep.Slices

import Derived.Lib.SmallJoins

import Derived.Lib.LaidTab

import Derived.Stop.LaidErr

import Derived.MakeChecks

import Derived.Lay

namespace Go.Proofs.YtkiplcmndpdifaaGreatDoor

open Go.ChangeShapes Go.WideShapes Go.ChangeAt Go.RowKit



/-- A form, as it is told. -/
def fmD (H : Type) (f : Fm) : DataW H := .agg [.lit (.int .i64 f.K), .lit (.string f.w), .lit (.int .i64 f.g)]


theorem form_cells {H : Type} {enc : TypeId × Value → H} {P : Program} {w : World} {base : Nat} {sp : Nat → Bool} {held : Bool} {fuel : Nat} {e : TypeId} {cs : List Value} {f : Fm} {p : List MemPlace} {f0 f1 f2 : Field}
    (he : P.underlying e = some (.struct #[f0, f1, f2])) (h0 : P.underlying f0.type = some (.int .i64)) (h1 : P.underlying f1.type = some .string) (h2 : P.underlying f2.type = some (.int .i64))
    (o0 : f0.offset = 0) (o1 : f1.offset = 1) (o2 : f2.offset = 2) (c0 : P.cellsOf f0.type = 1) (c1 : P.cellsOf f1.type = 1) (c2 : P.cellsOf f2.type = 1) (ce : P.cellsOf e = 3)
    (h : DataW.trod enc P w base sp held fuel e cs = some (fmD H f, p)) : cs = formV f := by
  cases fuel with
  | zero => simp [DataW.trod] at h
  | succ fuel =>
    simp only [DataW.trod, he, ce] at h
    split at h
    · rename_i hl
      obtain ⟨xs, hm, hx⟩ := Option.map_eq_some_iff.1 h
      have hxs : xs.map (·.1) = [.lit (.int .i64 f.K), .lit (.string f.w), .lit (.int .i64 f.g)] := by
        have := congrArg Prod.fst hx
        simpa [fmD] using this
      match cs, hl with
      | [a, b, c], _ =>
        obtain ⟨x0, e0, t0⟩ := Lib.mapM_at hm 0 f0 rfl
        obtain ⟨x1, e1, t1⟩ := Lib.mapM_at hm 1 f1 rfl
        obtain ⟨x2, e2, t2⟩ := Lib.mapM_at hm 2 f2 rfl
        rw [o0, c0] at t0
        rw [o1, c1] at t1
        rw [o2, c2] at t2
        obtain ⟨z0, q0, rfl, _⟩ := DataW.trod_int h0 t0
        obtain ⟨s1, q1, rfl, _⟩ := DataW.trod_string h1 t1
        obtain ⟨z2, q2, rfl, _⟩ := DataW.trod_int h2 t2
        have g0 := congrArg (·[0]?) hxs
        have g1 := congrArg (·[1]?) hxs
        have g2 := congrArg (·[2]?) hxs
        simp [e0] at g0
        simp [e1] at g1
        simp [e2] at g2
        simp at q0 q1 q2
        subst q0 q1 q2 g0 g2
        have es : s1 = ⟨f.w.toArray⟩ := by
          rw [← g1]
        rw [es]
        rfl
    · cases h


theorem forms_cells {H : Type} {enc : TypeId × Value → H} {P : Program} {w : World} {base : Nat} {sp : Nat → Bool} {held : Bool} {fuel : Nat} {t e : TypeId} {cs : List Value} {l : List Fm} {p : List MemPlace} {f0 f1 f2 : Field}
    (ht : P.underlying t = some (.array l.length e)) (ct : P.cellsOf t = l.length * 3)
    (he : P.underlying e = some (.struct #[f0, f1, f2])) (h0 : P.underlying f0.type = some (.int .i64)) (h1 : P.underlying f1.type = some .string) (h2 : P.underlying f2.type = some (.int .i64))
    (o0 : f0.offset = 0) (o1 : f1.offset = 1) (o2 : f2.offset = 2) (c0 : P.cellsOf f0.type = 1) (c1 : P.cellsOf f1.type = 1) (c2 : P.cellsOf f2.type = 1) (ce : P.cellsOf e = 3)
    (h : DataW.trod enc P w base sp held fuel t cs = some (.agg (l.map (fmD H)), p)) : cs = l.flatMap formV := by
  cases fuel with
  | zero => simp [DataW.trod] at h
  | succ fuel =>
    simp only [DataW.trod, ht, ct, ce] at h
    split at h
    · rename_i hl
      obtain ⟨xs, hm, hx⟩ := Option.map_eq_some_iff.1 h
      have hxs : xs.map (·.1) = l.map (fmD H) := by
        have := congrArg Prod.fst hx
        simpa using this
      apply List.ext_getElem?
      intro k
      have hfl := flat_len formV 3 (fun _ => rfl) l
      by_cases hk : k < l.length * 3
      · have hq : k / 3 < l.length := by omega
        obtain ⟨x, ex, tx⟩ := Lib.mapM_at hm (k / 3) (k / 3) (by simp [hq])
        have g := congrArg (·[k / 3]?) hxs
        simp [ex, List.getElem?_eq_getElem hq] at g
        obtain ⟨x1, x2⟩ := x
        dsimp only at g
        rw [g] at tx
        have hc := form_cells he h0 h1 h2 o0 o1 o2 c0 c1 c2 ce tx
        have e1 : k = k / 3 * 3 + k % 3 := by omega
        have h3 := congrArg (·[k % 3]?) hc
        simp only [List.getElem?_take, List.getElem?_drop] at h3
        rw [if_pos (by omega), ← e1] at h3
        rw [h3]
        have h4 := flat_nth formV 3 (fun _ => rfl) l (k / 3) hq (k % 3) (by omega)
        rw [← e1] at h4
        exact h4.symm
      · rw [List.getElem?_eq_none (by omega), List.getElem?_eq_none (by omega)]
    · cases h
end Go.Proofs.YtkiplcmndpdifaaGreatDoor


