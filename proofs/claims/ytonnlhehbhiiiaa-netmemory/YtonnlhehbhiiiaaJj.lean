/- Contract of msg's Encode. -/
import Derived.Test.YtonnlhehbhiiiaaJi

import Derived.Test.YtonnlhehbhiiiaaJg

import Derived.Test.YtonnlhehbhiiiaaWw

namespace Go.Proofs.Ytonnlhehbhiiiaa

open Go.RowKit



/-- What Encode leaves. -/
def EGot (m : Ms) (w : World) (e : Ending) (w' : World) : Prop :=
  ∃ v, e = .returned (.tuple #[v, .int .i64 ((encS m).2 : Nat)]) ∧ w'.ownsRow w.heap.size 5 1 v (encS m).1.length (cb (encS m).1) ∧ Below w.heap.size w w'
def hdI (m : Ms) : List Int := [m.K, m.F, m.T, m.B, m.A]
theorem head_all (m : Ms) : headL m = Wm.encAll (nats (hdI m)) := by simp [headL, hdI, nats, Wm.encAll]
theorem encAll_take {l : List Nat} {i : Nat} (hi : i < l.length) : Wm.encAll (l.take (i + 1)) = Wm.encAll (l.take i) ++ Wm.enc l[i] := by
  rw [List.take_succ_eq_append_getElem hi, encAll_append]
  simp [Wm.encAll]
theorem pairL_take {l : List Pr} {i : Nat} (hi : i < l.length) : pairL (l.take (i + 1)) = pairL (l.take i) ++ (Wm.enc l[i].k ++ Wm.wd l[i].v.b) := by
  rw [List.take_succ_eq_append_getElem hi, pairL_append]
  simp [pairL]
theorem encAll_tlen (l : List Nat) (i : Nat) : (Wm.encAll (l.take i)).length ≤ 10 * l.length := by
  have := encAll_len (l.take i)
  rw [List.length_take] at this
  omega
theorem pairL_tlen (l : List Pr) (i : Nat) : (pairL (l.take i)).length ≤ 18 * l.length := by
  have := pairL_len (l.take i)
  rw [List.length_take] at this
  omega


/-- Where Encode stands: N its message, G + 1 the variable b, G + 2 the head's numbers. -/
def AG (G : Nat) (x : Nat) : Prop := x = G + 1 ∨ x = G + 2
structure EI (w0 : World) (N G : Nat) (m : Ms) (ev qv pv : Value) (L : List Nat) (w : World) : Prop where
  n : N = w0.heap.size
  g : N < G
  mx : MX w N m ev qv pv
  eb : ∃ v, EB (AG G) (N + 1) (G + 1) L w v
  arr : ∀ i, i < 5 → w.cell? ⟨G + 2, i, none⟩ = some (.int .i64 ((hdI m).getD i 0))
  below : Below N w0 w
theorem EI.turn {w0 w w' : World} {N G : Nat} {m : Ms} {ev qv pv : Value} {L L' : List Nat} (h : EI w0 N G m ev qv pv L w) (he : ∃ v, EB (AG G) (N + 1) (G + 1) L' w' v) (hc : Ch (Wn (AG G) (N + 1) (G + 1)) w w') : EI w0 N G m ev qv pv L' w' :=
  ⟨h.n, h.g, h.mx.ch hc (by rintro (e | ⟨e, _⟩); have := h.g; omega; omega), he, fun i hi => hc.cell (h.arr i hi) (by rintro (e | ⟨_, e⟩); simp only at e; omega; exact e (.inr rfl)),
    h.below.trans (hc.to_below (Nat.le_of_lt (cell_lt h.mx.c0)) (fun x hx => by rcases hx with e | e; have := h.g; omega; omega))⟩
theorem EI.old {w0 w w' : World} {N G : Nat} {m : Ms} {ev qv pv : Value} {L : List Nat} (h : EI w0 N G m ev qv pv L w) (hb : Below w.heap.size w w') : EI w0 N G m ev qv pv L w' :=
  h.turn (by obtain ⟨v, hv⟩ := h.eb; exact ⟨v, hv.below hb⟩) (Ch.of_below hb)
theorem ei_new {w w2 : World} {m : Ms} {ev qv pv : Value} (hx : MX w2 w.heap.size m ev qv pv) (hb : Below w.heap.size w w2) :
    EI w w.heap.size w2.heap.size m ev qv pv [] (((w2.alloc (Obj.cells #[] 5)).alloc (Obj.cells #[.slice (some ⟨w2.heap.size, 0, none⟩) 0 0] 79)).alloc (Obj.cells #[.int .i64 m.K, .int .i64 m.F, .int .i64 m.T, .int .i64 m.B, .int .i64 m.A] 3)) := by
  have hB : Below w2.heap.size w2 (((w2.alloc (Obj.cells #[] 5)).alloc (Obj.cells #[.slice (some ⟨w2.heap.size, 0, none⟩) 0 0] 79)).alloc (Obj.cells #[.int .i64 m.K, .int .i64 m.F, .int .i64 m.T, .int .i64 m.B, .int .i64 m.A] 3)) :=
    below_trans (below_trans (below_alloc _ _) (below_alloc _ _)) (below_alloc _ _)
  have hlt : w.heap.size < w2.heap.size := cell_lt hx.c0
  have ho : (w2.alloc (Obj.cells #[] 5)).ownsRow (w.heap.size + 1) 5 1 (.slice (some ⟨w2.heap.size, 0, none⟩) 0 0) 0 [] := own_baseC (World.ownsRow_made w2 #[] 0 (Nat.le_refl _) (by simp [maxLen]) rfl) hlt
  refine ⟨rfl, hlt, hx.keep hB, ⟨_, ⟨by simp [go_sem], by intro j; simp [go_sem], own_belowC ho (below_trans (below_alloc _ _) (below_alloc _ _)), ?_, .inl rfl, ?_, by omega⟩⟩, ?_, below_trans hb hB⟩
  · intro x e
    simp only [Value.ownBlock, Option.some.injEq] at e
    subst e
    rintro (e | e) <;> omega
  · intro x e
    simp [go_sem]
    rcases e with e | e <;> omega
  · intro i hi
    have : i = 0 ∨ i = 1 ∨ i = 2 ∨ i = 3 ∨ i = 4 := by omega
    rcases this with rfl | rfl | rfl | rfl | rfl <;> simp [go_sem, hdI]


theorem EB.more {A : Nat → Prop} {base BB : Nat} {L : List Nat} {w : World} {v : Value} (h : EB A base BB L w v) (ob : Obj) : EB (fun z => A z ∨ z = w.heap.size) base BB L (w.alloc ob) v := by
  have k := h.below (below_alloc w ob)
  refine ⟨k.c, k.z, k.own, fun x hx e => ?_, .inl h.ab, fun x e => ?_, h.bb⟩
  · rcases e with e | e
    · exact h.ne x hx e
    · have := (own_lt h.own hx).2
      omega
  · rcases e with e | e
    · exact k.al x e
    · rw [e, size_allocC]; omega
theorem EB.less {A : Nat → Prop} {base g : Nat} {L : List Nat} {w : World} {v : Value} (h : EB (fun z => AG g z ∨ A z) base (g + 1) L w v) : EB (AG g) base (g + 1) L w v :=
  ⟨h.c, h.z, h.own, fun x hx e => h.ne x hx (.inl e), .inl rfl, fun x e => h.al x (.inl e), h.bb⟩
theorem encS_bad {m : Ms} (h : sndM m = false) : encS m = ([], 150) := by unfold encS; rw [if_neg (by simp [h])]
theorem encS_ok {m : Ms} (h : sndM m = true) : encS m = (headL m ++ restL m, 0) := by unfold encS; rw [if_pos h]; rfl


end Go.Proofs.Ytonnlhehbhiiiaa


