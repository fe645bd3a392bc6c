/- Join and the reference's Join: all bytes of all parts, in a row of the call's own. -/
import Derived.Test.YtnnammlipfappaaWp

namespace Go.Proofs.Ytnnammlipfappaa

open Go.RowKit



/-- The value v is a slice of slices of bytes that hold ls. -/
def Pv (w : World) (v : Value) (ls : List (List Nat)) : Prop :=
  ∃ ao cap, v = .slice ao ls.length cap ∧ ls.length ≤ cap ∧ cap ≤ maxLen ∧ (ao = none → cap = 0) ∧
    ∀ i, i < ls.length → ∃ b off u, ao = some ⟨b, off, none⟩ ∧ w.cell? ⟨b, off + i, none⟩ = some u ∧ Bv w u (ls.getD i [])


theorem Pv.below {w w' : World} {v : Value} {ls : List (List Nat)} (h : Pv w v ls) (hb : Below w.heap.size w w') : Pv w' v ls := by
  obtain ⟨ao, cap, e, h1, h2, h3, h4⟩ := h
  refine ⟨ao, cap, e, h1, h2, h3, fun i hi => ?_⟩
  obtain ⟨b, off, u, e1, e2, e3⟩ := h4 i hi
  exact ⟨b, off, u, e1, by rw [hb.cell (p := ⟨b, off + i, none⟩) (cell_lt e2)]; exact e2, e3.below hb⟩


theorem flat_take_le (ls : List (List Nat)) (k : Nat) : (ls.take k).flatten.length ≤ ls.flatten.length := by
  have : ls.flatten = (ls.take k).flatten ++ (ls.drop k).flatten := by rw [← List.flatten_append, List.take_append_drop]
  rw [this]; simp


theorem flat_take_succ (ls : List (List Nat)) (k : Nat) (hk : k < ls.length) : (ls.take (k + 1)).flatten = (ls.take k).flatten ++ ls.getD k [] := by
  have e : ls.getD k [] = ls[k] := by simp [List.getD, List.getElem?_eq_getElem hk]
  rw [e, List.take_succ_eq_append_getElem hk, List.flatten_append, List.flatten_singleton]


/-- Join's loop: what has been joined. -/
def JoinRel (ls : List (List Nat)) (H : Nat) (w : World) (v iv : Value) (wr : World) : Prop :=
  ∃ k : Nat, k ≤ ls.length ∧ iv = .int .i64 k ∧ wr.ownsRow H 5 1 v (ls.take k).flatten.length ((ib (ls.take k).flatten).map (Value.int .u8)) ∧ Below H w wr


theorem joinrel_start (ls : List (List Nat)) (w : World) :
    JoinRel ls w.heap.size w (.slice (some ⟨w.heap.size, 0, none⟩) 0 0) (.int .i64 0) (w.alloc (.cells #[] 5)) :=
  ⟨0, Nat.zero_le _, rfl, World.ownsRow_made w #[] 0 (Nat.le_refl _) (by simp [maxLen]) rfl, below_alloc w _⟩


theorem joinrel_step {ls : List (List Nat)} {H k : Nat} {w wr w1 : World} {v v' : Value} {p : List Nat} (hp : ls.getD k [] = p) (hk : k < ls.length) (hH : H ≤ wr.heap.size) (hbel : Below H w wr)
    (hown : wr.ownsRow H 5 1 v (ls.take k).flatten.length ((ib (ls.take k).flatten).map (Value.int .u8)))
    (hown' : w1.ownsRow H 5 1 v' ((ls.take k).flatten.length + (ib p).length) ((ib (ls.take k).flatten).map (Value.int .u8) ++ (ib p).map (Value.int .u8))) (hg : wr.grownBy w1 v.ownBlock) :
    JoinRel ls H w v' (.int .i64 ((k : Int) + 1)) w1 := by
  refine ⟨k + 1, hk, rfl, ?_, hbel.trans (grown_below hown hg hH)⟩
  rw [flat_take_succ ls k hk, hp, List.length_append, ib_append, List.map_append]
  rw [ib_len] at hown'
  exact hown'












end Go.Proofs.Ytnnammlipfappaa


