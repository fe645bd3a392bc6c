/- Attempts in a block; what a fit cell gives. -/
import Derived.Test.YtnppgeokbhecfaaCi
import Derived.Test.YtnppgeokbhecfaaC1
namespace Go.Proofs.Ytnppgeokbhecfaa
open Ieee Go.RowKit

/-- A block that holds attempts. -/
structure XB (w : World) (x : Nat) (k : Int) (c : Cl) (b : Int) (pv bv : Value) : Prop where
  c0 : w.cell? ⟨x, 0, none⟩ = some (.int .i64 k)
  c1 : w.cell? ⟨x, 1, none⟩ = some (.int .u64 c.k)
  c2 : w.cell? ⟨x, 2, none⟩ = some (.bool c.p.h)
  c3 : w.cell? ⟨x, 3, none⟩ = some (.int .u64 c.p.b)
  c4 : w.cell? ⟨x, 4, none⟩ = some (.bool c.c.h)
  c5 : w.cell? ⟨x, 5, none⟩ = some (.int .u64 c.c.b)
  c6 : w.cell? ⟨x, 6, none⟩ = some (.int .i64 c.n)
  c7 : w.cell? ⟨x, 7, none⟩ = some (.int .i64 b)
  c8 : w.cell? ⟨x, 8, none⟩ = some pv
  c9 : w.cell? ⟨x, 9, none⟩ = some bv

theorem XB.below {w w' : World} {x B : Nat} {k : Int} {c : Cl} {b : Int} {pv bv : Value} (h : XB w x k c b pv bv) (hb : Below B w w') (hl : x < B) : XB w' x k c b pv bv :=
  ⟨by rw [hb.cell (p := ⟨x, 0, none⟩) hl]; exact h.c0, by rw [hb.cell (p := ⟨x, 1, none⟩) hl]; exact h.c1, by rw [hb.cell (p := ⟨x, 2, none⟩) hl]; exact h.c2, by rw [hb.cell (p := ⟨x, 3, none⟩) hl]; exact h.c3, by rw [hb.cell (p := ⟨x, 4, none⟩) hl]; exact h.c4, by rw [hb.cell (p := ⟨x, 5, none⟩) hl]; exact h.c5, by rw [hb.cell (p := ⟨x, 6, none⟩) hl]; exact h.c6, by rw [hb.cell (p := ⟨x, 7, none⟩) hl]; exact h.c7, by rw [hb.cell (p := ⟨x, 8, none⟩) hl]; exact h.c8, by rw [hb.cell (p := ⟨x, 9, none⟩) hl]; exact h.c9⟩

theorem xb_new (w : World) (k : Int) (c : Cl) (b : Int) (pv bv : Value) : XB (w.alloc (Obj.cells #[.int .i64 k, .int .u64 c.k, .bool c.p.h, .int .u64 c.p.b, .bool c.c.h, .int .u64 c.c.b, .int .i64 c.n, .int .i64 b, pv, bv] 43)) w.heap.size k c b pv bv := by
  constructor <;> simp [go_sem]

theorem eqV_eq {a b : Vl} (h : eqV a b = true) : a = b := by
  obtain ⟨h1, b1⟩ := a
  obtain ⟨h2, b2⟩ := b
  simp [eqV] at h
  simp [h]

theorem eqV_self (a : Vl) : eqV a a = true := by simp [eqV]

/-- What a fit cell gives. -/
theorem fit_gives {k : Int} {c : Cl} (h : fitC k c = true) : knownB k = true ∧ fitV k c.p = c.p ∧ fitV k c.c = c.c ∧ 0 ≤ c.n ∧ c.n ≤ 1099511627776 := by
  simp only [fitC, Bool.and_eq_true, decide_eq_true_eq] at h
  obtain ⟨⟨⟨⟨h1, h2⟩, h3⟩, h4⟩, h5⟩ := h
  exact ⟨h1, eqV_eq h2, eqV_eq h3, h4, h5⟩

theorem fit_of_gives {k : Int} {c : Cl} (h1 : knownB k = true) (h2 : fitV k c.p = c.p) (h3 : fitV k c.c = c.c) (h4 : 0 ≤ c.n) (h5 : c.n ≤ 1099511627776) : fitC k c = true := by
  simp only [fitC, h1, h2, h3, eqV_self, h4, h5, decide_true, Bool.and_self]

theorem ahead_up {c : Cl} {b : Int} (h : c.n < b) : aheadC c b = c.c := if_pos h
theorem ahead_at {c : Cl} {b : Int} (h : ¬ c.n < b) : aheadC c b = c.p := if_neg h
theorem app_up {k : Int} {c : Cl} {b : Int} {v : Vl} (hk : knownB k = true) (h1 : 1 ≤ b) (h : c.n < b) : appC k c b v = ⟨c.k, c.c, mergeV k c.c v, b⟩ := by
  rw [app_good (app_ok hk h1 (by omega)), ahead_up h]
theorem app_at {k : Int} {c : Cl} {v : Vl} (hk : knownB k = true) (h1 : 1 ≤ c.n) : appC k c c.n v = ⟨c.k, c.p, mergeV k c.p v, c.n⟩ := by
  rw [app_good (app_ok hk h1 (Int.le_refl _)), ahead_at (Int.lt_irrefl _)]
theorem rev_other {c : Cl} {b : Int} (h : b ≠ c.n) : revC c b = c := if_pos (.inr h)
theorem rev_at {c : Cl} (h : 1 ≤ c.n) : revC c c.n = ⟨c.k, c.p, c.p, c.n - 1⟩ := if_neg (by simp; omega)
end Go.Proofs.Ytnppgeokbhecfaa
