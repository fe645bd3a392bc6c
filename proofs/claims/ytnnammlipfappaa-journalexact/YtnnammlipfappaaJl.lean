/- next and spoilt. -/
import Derived.Test.YtnnammlipfappaaJk

namespace Go.Proofs.Ytnnammlipfappaa

open Ieee Go.RowKit



/-- A slice lies in a block of A. -/
def InA (A : Nat → Prop) (v : Value) : Prop := ∀ a n c, v = .slice (some a) n c → A a.block
theorem own_inA {A : Nat → Prop} {w : World} {base : Nat} {v : Value} {l : List Int} (h : OwN base w v l) (hA : ∀ x, base ≤ x → x < w.heap.size → A x) : InA A v := by
  intro a n c e
  subst e
  obtain ⟨_, h2⟩ := id h
  rcases h2 with ⟨h, _⟩ | ⟨g, cap, cur, e, hb, hg, _⟩
  · cases h
  · cases e
    exact hA g hb (blk_lt hg)
def NxGot (w : World) (pv cv : Value) (m : Nt) (e : Ending) (w' : World) : Prop := ∃ pv' cv', e = .returned (.agg #[.int .i64 m.b, pv', cv', .int .i64 m.a]) ∧ Nv w' pv' m.p ∧ Nv w' cv' m.c ∧ Below w.heap.size w w' ∧ ∀ A : Nat → Prop, InA A pv → InA A cv → (∀ x, w.heap.size ≤ x → x < w'.heap.size → A x) → InA A pv' ∧ InA A cv'
section

variable {w wr w' : World} {c0 tc : Array Value} {pv cv ov : Value} {n : Nt} {t : Tr} {q : Int}

theorem nv_below {v : Value} {l : List Int} (h : Nv w v l) (hb : Below w.heap.size w w') : Nv w' v l := h.below hb


theorem curK_64 {c on : List Int} {k : Nat} {q : Int} {n : Nt} (hr : Rgt n q) (hc : c = n.c := by rfl) : In64 (curK c on k) := by
  subst hc
  intro x hx
  obtain ⟨i, hi, rfl⟩ := mem_nth hx
  rw [curK_len] at hi
  have h := curK_bnd (on := on) hi (hr.c0 hi) (hr.f i hi) k
  have := hr.c0 hi
  constructor <;> omega
end

end Go.Proofs.Ytnnammlipfappaa


