/- From the walk to the row: slices of bytes, of blocks among the arguments, opened. -/
import Derived.Test.YtnnammlipfappaaWz

import Derived.Test.YtnnammlipfappaaDi

import Derived.Lib.SmallJoins

import Derived.Deep.Strs

import Derived.SizedLaws

namespace Go.Proofs.Ytnnammlipfappaa

open Go.ChangeShapes Go.WideShapes Go.ChangeAt Go.RowKit



theorem cells_bytes : Try.prog.cellsOf 57 = 1 := by kernel_rfl
theorem cells_bool : Try.prog.cellsOf 4 = 1 := by kernel_rfl
/-- What is known of a slice's size. -/
def Szd {H : Type} {α : Type} (d : DataW H) (l : List α) : Prop := (d = .nil ∧ l = []) ∨ ∃ elems spare, d = .slice elems spare ∧ elems.length = l.length


section

variable {H : Type} {enc : TypeId × Value → H} {W : World} {sp : Nat → Bool} {held : Bool} {base : Nat}

theorem cell_i64 {t : TypeId} (ht : Try.prog.underlying t = some (.int .i64)) {n : Nat} {v : Value} {x : DataW H × List MemPlace} (h : DataW.trod enc Try.prog W base sp held n t [v] = some x) : ∃ a : Int, v = .int .i64 a ∧ (-9223372036854775808 ≤ a ∧ a < 9223372036854775808) := by
  cases n with
  | zero => simp [DataW.trod] at h
  | succ n =>
    simp only [DataW.trod, ht] at h
    cases v <;> simp at h
    rename_i k a
    obtain ⟨⟨rfl, hw⟩, _⟩ := h
    exact ⟨a, rfl, i64_of_wf hw⟩
theorem cell_bool {n : Nat} {v : Value} {x : DataW H × List MemPlace} (h : DataW.trod enc Try.prog W base sp held n 4 [v] = some x) : ∃ b : Bool, v = .bool b := by
  cases n with
  | zero => simp [DataW.trod] at h
  | succ n =>
    simp only [DataW.trod, Try.underlying4] at h
    cases v <;> simp at h
    exact ⟨_, rfl⟩
end



section

variable {H : Type} {enc : TypeId × Value → H} {W : World}

theorem core_bv {v : Value} {fuel : Nat} {y : DataW H × List MemPlace} (hf : DataW.trod enc Try.prog W 0 (fun _ => true) true fuel 57 [v] = some y) :
    ∃ l : List Nat, Bv W v l ∧ Szd y.1 l := by
  obtain ⟨d, p⟩ := y
  obtain ⟨l, g1, g2, g3⟩ := open_sv_raw Try.underlying57 Try.underlying5 cells_u8 hf
  obtain ⟨r, g4, g5⟩ := bytes_of g1 g2
  refine ⟨r, g4, ?_⟩
  rcases g3 with ⟨e1, rfl⟩ | ⟨el, sp, e1, e2⟩
  · exact .inl ⟨e1, List.eq_nil_of_length_eq_zero (by simpa using g5)⟩
  · exact .inr ⟨el, sp, e1, by rw [e2, g5]⟩


set_option maxRecDepth 20000 in
/-- A slice of slices of bytes among the arguments, opened. -/
theorem open_pv {v : Value} {d : DataW H} {p : List MemPlace} {base : Nat} (hv : Value.okWide Try.prog W .any base 50 v) (h : DataW.Trod enc Try.prog W 0 (fun _ => true) true 50 v d p) :
    ∃ ls : List (List Nat), PvD W v ls ∧ ((d = .nil ∧ ls = []) ∨ ∃ elems spare, d = .slice elems spare ∧ elems.length = ls.length ∧ ∀ i e, elems[i]? = some e → Szd e (bk ls i)) := by
  obtain ⟨ao, len0, cap0, rfl⟩ := okWide_slice Try.underlying50 hv
  obtain ⟨fuel, hf⟩ := h
  rcases Go.Deep.open_slice1 (cs := [.slice ao len0 cap0]) Try.underlying50 cells_bytes hf with ⟨hcs, hx⟩ | ⟨a, len, cap, m, n, V, D, Pl, hcs, _, hl, hm, hmm, hx, hel⟩
  · simp only [List.cons.injEq, and_true, Value.slice.injEq] at hcs
    obtain ⟨rfl, rfl, rfl⟩ := hcs
    simp only [Prod.mk.injEq] at hx
    exact ⟨[], ⟨none, 0, rfl, Nat.le_refl _, by simp [maxLen], fun _ => rfl, fun i hi => by simp at hi⟩, .inl ⟨hx.1, rfl⟩⟩
  · simp only [List.cons.injEq, and_true, Value.slice.injEq] at hcs
    obtain ⟨rfl, rfl, rfl⟩ := hcs
    simp only [if_true] at hmm
    simp only [Prod.mk.injEq] at hx
    have each : ∀ i, ∃ l : List Nat, i < len0 → W.cell? (a.add i) = some (V i) ∧ Bv W (V i) l ∧ Szd (D i) l := by
      intro i
      by_cases hi : i < len0
      · obtain ⟨h1, h2⟩ := hel i (by omega)
        obtain ⟨l, g1, g2⟩ := core_bv h2
        exact ⟨l, fun _ => ⟨h1, g1, g2⟩⟩
      · exact ⟨[], fun h => absurd h hi⟩
    obtain ⟨L, hL⟩ : ∃ L : Nat → List Nat, ∀ i, i < len0 → W.cell? (a.add i) = some (V i) ∧ Bv W (V i) (L i) ∧ Szd (D i) (L i) := ⟨fun i => (each i).choose, fun i => (each i).choose_spec⟩
    clear each hel
    refine ⟨(List.range len0).map L, ⟨some a, cap0, by simp, by simpa using hl, hm, by simp, ?_⟩, .inr ⟨_, _, hx.1, by simp, fun i e he => ?_⟩⟩
    · intro i hi
      simp at hi
      have h0 := (hL 0 (by omega)).1
      obtain ⟨h1, h2, h3⟩ := hL i hi
      obtain ⟨b, off, spot⟩ := a
      have hs1 : spot = none := by simpa [Addr.add] using World.cell?_spot h0
      subst hs1
      refine ⟨b, off, V i, rfl, ?_, ?_⟩
      · rw [WideShapes.add_plain] at h1; exact h1
      · rw [bk_at (by simpa using hi)]; simpa using h2
    · have hi : i < len0 := by
        rcases Nat.lt_or_ge i len0 with h | h
        · exact h
        · rw [List.getElem?_eq_none (by simpa using h)] at he; cases he
      rw [List.getElem?_map, List.getElem?_range hi] at he
      simp at he
      subst he
      rw [bk_at (by simpa using hi)]
      simpa using (hL i hi).2.2
end

end Go.Proofs.Ytnnammlipfappaa


