/- Marks, attempts and slices of keys among the arguments, opened. -/
import Derived.Test.YtkicnoohfilgjaaWz

import Derived.Test.YtkicnoohfilgjaaKb

import Derived.Deep.Strs

import Derived.SizedLaws

import Derived.Lib.SmallJoins

namespace Go.Proofs.Ytkicnoohfilgjaa

open Go.ChangeShapes Go.WideShapes Go.ChangeAt Go.RowKit



theorem cells_u64 : Try.prog.cellsOf 32 = 1 := by kernel_rfl
theorem cells_keys : Try.prog.cellsOf 24 = 1 := by kernel_rfl
theorem cells_mark : Try.prog.cellsOf 26 = 3 := by kernel_rfl
/-- What is known of a slice's size. -/
def Szd {H : Type} {α : Type} (d : DataW H) (l : List α) : Prop := (d = .nil ∧ l = []) ∨ ∃ elems spare, d = .slice elems spare ∧ elems.length = l.length


section

variable {H : Type} {enc : TypeId × Value → H} {W : World} {sp : Nat → Bool} {held : Bool} {base : Nat}

theorem cell_i64 {n : Nat} {v : Value} {x : DataW H × List MemPlace} (h : DataW.trod enc Try.prog W base sp held n 3 [v] = some x) : ∃ a : Int, v = .int .i64 a ∧ -9223372036854775808 ≤ a ∧ a < 9223372036854775808 := by
  cases n with
  | zero => simp [DataW.trod] at h
  | succ n =>
    simp only [DataW.trod, Try.underlying3] at h
    cases v <;> simp at h
    rename_i k a
    obtain ⟨⟨rfl, hw⟩, _⟩ := h
    exact ⟨a, rfl, i64_of_wf hw⟩
theorem cell_u64 {n : Nat} {v : Value} {x : DataW H × List MemPlace} (h : DataW.trod enc Try.prog W base sp held n 32 [v] = some x) : ∃ a : Nat, v = .int .u64 a ∧ a < 18446744073709551616 := by
  cases n with
  | zero => simp [DataW.trod] at h
  | succ n =>
    simp only [DataW.trod, Try.underlying32] at h
    cases v <;> simp at h
    rename_i k a
    obtain ⟨⟨rfl, hw⟩, _⟩ := h
    obtain ⟨m, rfl, hm⟩ := u64_of_wf hw
    exact ⟨m, rfl, hm⟩
end



set_option maxRecDepth 20000 in
theorem core_kv {H : Type} {enc : TypeId × Value → H} {W : World} {cs : List Value} {fuel : Nat} {y : DataW H × List MemPlace} (hf : DataW.trod enc Try.prog W 0 (fun _ => true) true fuel 24 cs = some y) :
    ∃ (v : Value) (l : List Nat), cs = [v] ∧ (Kv W v l ∧ keysOk l) ∧ Szd y.1 l := by
  rcases Go.Deep.open_slice Try.underlying24 hf with ⟨hcs, hx⟩ | ⟨a, len, cap, m, n, D, Pl, hcs, _, hl, hm, hmm, hx, hel⟩
  · subst hcs
    exact ⟨_, [], rfl, ⟨⟨none, 0, rfl, Nat.le_refl _, by simp, by simp, fun i hi => absurd hi (by simp [ib])⟩, by intro x hx; simp at hx⟩, .inl ⟨by rw [hx], rfl⟩⟩
  · subst hcs
    simp only [if_true] at hmm
    have each : ∀ i, ∃ x : Nat, i < len → W.cell? (a.add i) = some (.int .u64 x) ∧ x < 18446744073709551616 := by
      intro i
      by_cases hi : i < len
      · obtain ⟨cs', h1, h2⟩ := hel i (by omega)
        rw [cells_u64] at h1
        obtain ⟨_, hlen, hcell⟩ := World.cells?_some h1
        match cs', hlen with
        | [c], _ =>
          obtain ⟨x, rfl, hx⟩ := cell_u64 h2
          have e0 := hcell 0 (by omega)
          rw [Go.Deep.add_add] at e0
          exact ⟨x, fun _ => ⟨by simpa using e0, hx⟩⟩
      · exact ⟨0, fun h => absurd h hi⟩
    obtain ⟨X, hX⟩ : ∃ X : Nat → Nat, ∀ i, i < len → W.cell? (a.add i) = some (.int .u64 (X i)) ∧ X i < 18446744073709551616 := ⟨fun i => (each i).choose, fun i => (each i).choose_spec⟩
    clear each hel
    refine ⟨_, (List.range len).map X, rfl, ⟨⟨some a, cap, by simp [ib], by simpa [ib] using hl, hm, by simp, ?_⟩, ?_⟩, .inr ⟨_, _, by rw [hx], by simp⟩⟩
    · intro i hi
      have hil : i < len := by simpa [ib] using hi
      obtain ⟨h0, _⟩ := hX 0 (by omega)
      obtain ⟨g0, _⟩ := hX i hil
      obtain ⟨b, off, spot⟩ := a
      have hs1 : spot = none := by simpa [Addr.add] using World.cell?_spot h0
      subst hs1
      rw [WideShapes.add_plain] at g0
      exact ⟨b, off, rfl, by rw [g0]; simp [ib, List.getElem?_range hil]⟩
    · intro x hx
      simp only [List.mem_map, List.mem_range] at hx
      obtain ⟨i, hi, rfl⟩ := hx
      exact (hX i hi).2


set_option maxRecDepth 20000 in
theorem open_kv {H : Type} {enc : TypeId × Value → H} {W : World} {v : Value} {d : DataW H} {p : List MemPlace} {base : Nat}
    (hv : Value.okWide Try.prog W .any base 24 v) (h : DataW.Trod enc Try.prog W 0 (fun _ => true) true 24 v d p) :
    ∃ l : List Nat, Kv W v l ∧ keysOk l ∧ Szd d l := by
  obtain ⟨ao, len0, cap0, rfl⟩ := okWide_slice Try.underlying24 hv
  obtain ⟨fuel, hf⟩ := h
  obtain ⟨v, l, e, h1, h2⟩ := core_kv hf
  simp [Value.cells] at e
  subst e
  exact ⟨l, h1.1, h1.2, h2⟩


theorem array3 {α : Type} {a : Array α} (h : a.size = 3) : ∃ x y z, a = #[x, y, z] := by
  rcases a with ⟨l⟩
  match l, h with
  | [x, y, z], _ => exact ⟨x, y, z, rfl⟩
set_option maxRecDepth 20000 in
/-- A mark by value among the arguments, opened. -/
theorem open_mark {H : Type} {enc : TypeId × Value → H} {W : World} {v : Value} {d : DataW H} {p : List MemPlace} {base : Nat}
    (hv : Value.okWide Try.prog W .any base 26 v) (h : DataW.Trod enc Try.prog W 0 (fun _ => true) true 26 v d p) :
    ∃ (kv : Value) (b a : Int) (l : List Nat), v = .agg #[.int .i64 b, .int .i64 a, kv] ∧ Kv W kv l ∧ keysOk l ∧ (-9223372036854775808 ≤ b ∧ b < 9223372036854775808) ∧ (-9223372036854775808 ≤ a ∧ a < 9223372036854775808) ∧ ∃ d0 d1 d2, d = .agg [d0, d1, d2] ∧ Szd d2 l := by
  obtain ⟨cs, rfl, hsz⟩ := okWide_struct Try.underlying26 hv
  obtain ⟨fuel, hf⟩ := h
  obtain ⟨y0, y1, y2, m, hx, _, h0, h1, h2⟩ := Go.Deep.trod_struct3 Try.underlying26 hf
  have h3 : cs.size = 3 := by simpa [Value.cells, cells_mark] using hsz
  obtain ⟨c0, c1, c2, rfl⟩ := array3 h3
  simp only [Value.cells, cells_int, cells_keys, List.drop_zero, List.drop_succ_cons, List.take_succ_cons, List.take_zero] at h0 h1 h2
  obtain ⟨b, rfl, hb⟩ := cell_i64 h0
  obtain ⟨a, rfl, ha⟩ := cell_i64 h1
  obtain ⟨kv, l, e1, hk, hz⟩ := core_kv h2
  simp only [List.cons.injEq, and_true] at e1
  subst e1
  simp only [Prod.mk.injEq] at hx
  exact ⟨c2, b, a, l, rfl, hk.1, hk.2, hb, ha, y0.1, y1.1, y2.1, hx.1, hz⟩
theorem array2 {α : Type} {a : Array α} (h : a.size = 2) : ∃ x y, a = #[x, y] := by
  rcases a with ⟨l⟩
  match l, h with
  | [x, y], _ => exact ⟨x, y, rfl⟩
end Go.Proofs.Ytkicnoohfilgjaa


