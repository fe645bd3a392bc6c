/- A net beside the reference's. -/
import Derived.Test.YtokfbnpjndlccaaEd

import Derived.Test.YtokfbnpjndlccaaNl

namespace Go.Proofs.Ytokfbnpjndlccaa

open Go.RowKit



/-- A net and the reference's, apart. -/
structure G2 (w0 : World) (P b R B r nx nr : Nat) (v : Value) (L M : List En) (wr : World) : Prop where
  nt : Nt wr P b r nx L
  rt : Rt wr B R r nr v M
  dj : ∀ x, Bk P b L x → ¬ Br R v M x
  w : Below w0.heap.size w0 wr
  lo : w0.heap.size ≤ P ∧ w0.heap.size ≤ b ∧ w0.heap.size ≤ B
theorem Nt.lt' {w : World} {P b k nx : Nat} {L : List En} (h : Nt w P b k nx L) {x : Nat} (hx : Bk P b L x) : x < w.heap.size := by
  rcases hx with rfl | rfl | ⟨y, hy, _, h2⟩
  · exact h.ltP
  · exact h.ltb
  · have := (h.ent y hy).hi; omega
theorem G2.prog {w0 wr w' : World} {P b R B r nx nx' nr : Nat} {v : Value} {L L' M : List En} (h : G2 w0 P b R B r nx nr v L M wr) (hc : Ch (fun x => x = P ∨ x = b) wr w') (hn : Nt w' P b r nx' L') (hs : ∀ y ∈ L', y ∈ L ∨ wr.heap.size ≤ y.lo) : G2 w0 P b R B r nx' nr v L' M w' := by
  have hlo := h.lo
  refine ⟨hn, h.rt.ch hc (fun x hx hb => ?_), fun x hx hb => ?_, h.w.trans (hc.to_below h.w.size (fun x hx => by omega)), hlo⟩
  · rcases hx with e | e
    · exact h.dj x (.inl e) hb
    · exact h.dj x (.inr (.inl e)) hb
  · rcases hx with e | e | ⟨y, hy, h1, h2⟩
    · exact h.dj x (.inl e) hb
    · exact h.dj x (.inr (.inl e)) hb
    · rcases hs y hy with q | q
      · exact h.dj x (.inr (.inr ⟨y, q, h1, h2⟩)) hb
      · have := h.rt.lt' hb; omega
theorem G2.ref {w0 wr w' : World} {P b R B r nx nr nr' : Nat} {v v' : Value} {L M M' : List En} (h : G2 w0 P b R B r nx nr v L M wr) (hc : Ch (fun x => x = R ∨ v.ownBlock = some x) wr w') (hn : Rt w' B R r nr' v' M') (hs : ∀ y ∈ M', y ∈ M ∨ wr.heap.size ≤ y.lo) (hv : ∀ y, v'.ownBlock = some y → v.ownBlock = some y ∨ wr.heap.size ≤ y) : G2 w0 P b R B r nx nr' v' L M' w' := by
  have hlo := h.lo
  refine ⟨h.nt.ch hc (fun x hx hb => ?_), hn, fun x hx hb => ?_, h.w.trans (hc.to_below h.w.size (fun x hx => ?_)), hlo⟩
  · rcases hx with e | e
    · exact h.dj x hb (.inl e)
    · exact h.dj x hb (.inr (.inl e))
  · have hxl := h.nt.lt' hx
    rcases hb with e | e | ⟨y, hy, h1, h2⟩
    · exact h.dj x hx (.inl e)
    · rcases hv x e with q | q
      · exact h.dj x hx (.inr (.inl q))
      · omega
    · rcases hs y hy with q | q
      · exact h.dj x hx (.inr (.inr ⟨y, q, h1, h2⟩))
      · omega
  · have : Br R v M x := by
      rcases hx with e | e
      · exact .inl e
      · exact .inr (.inl e)
    have := h.rt.ge this
    omega
theorem G2.below {w0 wr w' : World} {P b R B r nx nr : Nat} {v : Value} {L M : List En} (h : G2 w0 P b R B r nx nr v L M wr) (hb : Below wr.heap.size wr w') : G2 w0 P b R B r nx nr v L M w' := h.prog (Ch.of_below hb) (h.nt.below hb) (fun _ hy => .inl hy)
theorem nm_len {L M : List En} (h : M.map nmE = L.map nmE) : M.length = L.length := by have k := congrArg List.length h; simpa using k
theorem nm_none {L M : List En} {k : Int} (h : M.map nmE = L.map nmE) (hat : atN L k = none) : atN M k = none := by
  unfold atN at hat ⊢
  rw [List.find?_eq_none] at hat ⊢
  intro y hy
  obtain ⟨i, hi, rfl⟩ := List.mem_iff_getElem.1 hy
  have hl := nm_len h
  have e : nmE M[i] = nmE (L[i]'(by omega)) := by
    have k := congrArg (fun l => l[i]?) h
    simp only [List.getElem?_map, List.getElem?_eq_getElem hi, List.getElem?_eq_getElem (show i < L.length by omega), Option.map_some, Option.some.injEq] at k
    exact k
  have e1 : M[i].n = (L[i]'(by omega)).n := congrArg Prod.fst e
  have := hat (L[i]'(by omega)) (List.getElem_mem _)
  rw [e1]; exact this
theorem nm_some {L M : List En} {k : Int} {x : En} (h : M.map nmE = L.map nmE) (hat : atN L k = some x) : ∃ (p : Nat) (y : En), M[p]? = some y ∧ L[p]? = some x ∧ y.n = x.n ∧ y.m = x.m ∧ k = (y.n : Int) := by
  obtain ⟨hm, hn⟩ := atN_mem hat
  obtain ⟨i, hi, rfl⟩ := List.mem_iff_getElem.1 hm
  have hl := nm_len h
  have hi' : i < M.length := by omega
  have e : nmE M[i] = nmE L[i] := by
    have k := congrArg (fun l => l[i]?) h
    simp only [List.getElem?_map, List.getElem?_eq_getElem hi, List.getElem?_eq_getElem hi', Option.map_some, Option.some.injEq] at k
    exact k
  have e1 : M[i].n = L[i].n := congrArg Prod.fst e
  have e2 : M[i].m = L[i].m := congrArg Prod.snd e
  exact ⟨i, M[i], List.getElem?_eq_getElem hi', List.getElem?_eq_getElem hi, e1, e2, by rw [e1, hn]⟩
theorem nm_out {L M : List En} (h : M.map nmE = L.map nmE) (k : Int) : (outN M k).map nmE = (outN L k).map nmE := by
  have key : ∀ X : List En, (outN X k).map nmE = (X.map nmE).filter (fun q => !decide ((q.1 : Int) = k)) := fun X => by
    unfold outN
    rw [List.filter_map]
    rfl
  rw [key, key, h]
theorem nm_app {L M : List En} {a c : En} (h : M.map nmE = L.map nmE) (e : nmE c = nmE a) : (M ++ [c]).map nmE = (L ++ [a]).map nmE := by
  rw [List.map_append, List.map_append, h]; simp [e]
/-- Both nets, the same messages on their way. -/
def Py (w0 : World) (P b R B r : Nat) (nx : Nat) (wr : World) : Prop := ∃ v L M, G2 w0 P b R B r nx nx v L M wr ∧ M.map nmE = L.map nmE
theorem Py.below {w0 wr w' : World} {P b R B r nx : Nat} (h : Py w0 P b R B r nx wr) (hb : Below wr.heap.size wr w') : Py w0 P b R B r nx w' := by
  obtain ⟨v, L, M, h1, h2⟩ := h
  exact ⟨v, L, M, h1.below hb, h2⟩
set_option maxRecDepth 100000 in
theorem flights_nilp (w : World) : Calls Try.prog 12 #[.pointer none] w fun e w' => e = .returned (.slice none 0 0) ∧ w' = w := by
  go_enter Try.func12, Try.ntmps12
  go_wp2_with fail
  go_ret
  exact ⟨rfl, rfl⟩
end Go.Proofs.Ytokfbnpjndlccaa


