/- spoilt. -/
import Derived.Test.YtnnammlipfappaaJl

namespace Go.Proofs.Ytnnammlipfappaa

open Ieee Go.RowKit

theorem wrapS {x : Int} (h0 : -9223372036854775808 ≤ x) (h1 : x < 9223372036854775808) : IntKind.i64.wrap x = x := by
  simp only [IntKind.wrap, IntKind.signed, IntKind.bits]
  simp
  omega
/-- spoilt's blocks: what is handed in, the answer's, the note's. -/
structure Sb (w wr : World) (n0 m0 : Array Value) : Prop where
  bel : Below w.heap.size w wr
  b0 : wr.heap[w.heap.size]? = some (.cells n0 41 (0, 0))
  b1 : wr.heap[w.heap.size + 1]? = some (.cells #[.int .i64 0, .slice none 0 0, .slice none 0 0, .int .i64 0] 41 (0, 0))
  b2 : wr.heap[w.heap.size + 1 + 1]? = some (.cells m0 41 (0, 0))
section

variable {w wr w' : World} {c0 m0 : Array Value} {pv cv : Value} {n : Nt} {q : Int}

theorem Sb.go (h : Sb w wr c0 m0) (hb : Below wr.heap.size wr w') : Sb w w' c0 m0 := ⟨h.bel.trans (hb.mono h.bel.size), blk_below h.b0 hb, blk_below h.b1 hb, blk_below h.b2 hb⟩
theorem Sb.set (h : Sb w wr c0 m0) (i : Nat) (u : Value) : Sb w (wr.setCell ⟨w.heap.size + 1 + 1, i, none⟩ u) c0 (m0.setIfInBounds i u) :=
  ⟨h.bel.setCell (p := ⟨w.heap.size + 1 + 1, i, none⟩) (by show w.heap.size ≤ w.heap.size + 1 + 1; omega) _, by rw [set_other _ _ (by omega)]; exact h.b0, by rw [set_other _ _ (by omega)]; exact h.b1, by rw [set_row h.b2]⟩
theorem Sb.other (h : Sb w wr c0 m0) {g : Nat} (hg : w.heap.size + 3 ≤ g) (i : Nat) (u : Value) : Sb w (wr.setCell ⟨g, i, none⟩ u) c0 m0 :=
  ⟨h.bel.setCell (p := ⟨g, i, none⟩) (by show w.heap.size ≤ g; omega) _, by rw [set_other _ _ (by omega)]; exact h.b0, by rw [set_other _ _ (by omega)]; exact h.b1, by rw [set_other _ _ (by omega)]; exact h.b2⟩
theorem Sb.end4 (h : Sb w wr c0 m0) (hg : wr.grownBy w' (some (w.heap.size + 1))) : Below w.heap.size w w' := h.bel.grown hg h.bel.size (fun x hx => by cases hx; omega)


theorem sp_end {w3 : World} {g gc m : Nat} {nb na : Int} {P C : List Int} {C2 : List Int} {p1 c1 : Value} (hp : Nv w p1 P) (hz : Zw w3 g gc C) (hg : w.heap.size + 3 ≤ g) (he : C = C2) (hl : C.length = m) (h64 : In64 C) (hB : Below w.heap.size w w') (hk : w'.heap[g]? = w3.heap[g]?) :
    NxGot w p1 c1 ⟨nb, P, C2, na⟩ (.returned (.agg #[.int .i64 nb, p1, .slice (some ⟨g, 0, none⟩) m gc, .int .i64 na])) w' := by
  subst he hl
  have hz' := hz.keep hk
  refine ⟨_, _, rfl, hp.below hB, hz'.nv h64, hB, fun A h1 _ h3 => ⟨h1, fun a n c e => ?_⟩⟩
  cases e
  exact h3 g (by omega) hz'.lt
end

end Go.Proofs.Ytnnammlipfappaa


