/- From the walk to the row: slices of ints, of acts among the arguments, opened. -/
import Derived.Test.YtmpdjobllpigpaaPlOz
import Derived.Test.YtmpdjobllpigpaaM38
import Derived.Deep.Strs
namespace Go.Proofs.Ytmpdjobllpigpaa

open Go.ChangeShapes Go.WideShapes Go.ChangeAt Go.RowKit

theorem cells_ints : Try.prog.cellsOf 36 = 1 := by kernel_rfl
theorem cells_act : Try.prog.cellsOf 45 = 3 := by kernel_rfl
/-- What is known of a slice's size. -/
def Szd {H : Type} {α : Type} (d : DataW H) (l : List α) : Prop := (d = .nil ∧ l = []) ∨ ∃ elems spare, d = .slice elems spare ∧ elems.length = l.length


set_option maxRecDepth 20000 in
theorem core_nv {H : Type} {enc : TypeId × Value → H} {W : World} {cs : List Value} {fuel : Nat} {y : DataW H × List MemPlace} (hf : DataW.trod enc Try.prog W 0 (fun _ => true) true fuel 36 cs = some y) :
    ∃ (v : Value) (l : List Int), cs = [v] ∧ Nv W v l ∧ Szd y.1 l := by
  rcases Go.Deep.open_slice Try.underlying36 hf with ⟨hcs, hx⟩ | ⟨a, len, cap, m, n, D, Pl, hcs, _, hl, hm, hmm, hx, hel⟩
  · subst hcs
    exact ⟨_, [], rfl, Nv.nil W, .inl ⟨by rw [hx], rfl⟩⟩
  · subst hcs
    simp only [if_true] at hmm
    have each : ∀ i, ∃ x : Int, i < len → W.cell? (a.add i) = some (.int .i64 x) ∧ (-9223372036854775808 ≤ x ∧ x < 9223372036854775808) := by
      intro i
      by_cases hi : i < len
      · obtain ⟨cs', h1, h2⟩ := hel i (by omega)
        rw [cells_int] at h1
        obtain ⟨_, hlen, hcell⟩ := World.cells?_some h1
        match cs', hlen with
        | [c], _ =>
          obtain ⟨x, rfl, hx⟩ := cell_i64 Try.underlying3 h2
          have e0 := hcell 0 (by omega)
          rw [Go.Deep.add_add] at e0
          exact ⟨x, fun _ => ⟨by simpa using e0, hx⟩⟩
      · exact ⟨0, fun h => absurd h hi⟩
    obtain ⟨X, hX⟩ : ∃ X : Nat → Int, ∀ i, i < len → W.cell? (a.add i) = some (.int .i64 (X i)) ∧ (-9223372036854775808 ≤ X i ∧ X i < 9223372036854775808) := ⟨fun i => (each i).choose, fun i => (each i).choose_spec⟩
    clear each hel
    refine ⟨_, (List.range len).map X, rfl, ⟨⟨some a, cap, by simp, by simpa using hl, hm, by simp, ?_⟩, ?_⟩, .inr ⟨_, _, by rw [hx], by simp⟩⟩
    · intro i hi
      have hil : i < len := by simpa using hi
      obtain ⟨h0, _⟩ := hX 0 (by omega)
      obtain ⟨g0, _⟩ := hX i hil
      obtain ⟨b, off, spot⟩ := a
      have hs1 : spot = none := by simpa [Addr.add] using World.cell?_spot h0
      subst hs1
      rw [WideShapes.add_plain] at g0
      exact ⟨b, off, rfl, by rw [nth_at hi]; simpa using g0⟩
    · intro x hx
      simp only [List.mem_map, List.mem_range] at hx
      obtain ⟨i, hi, rfl⟩ := hx
      exact (hX i hi).2


set_option maxRecDepth 20000 in
/-- A slice of ints among the arguments, opened. -/
theorem open_nv {H : Type} {enc : TypeId × Value → H} {W : World} {v : Value} {d : DataW H} {p : List MemPlace} {base : Nat}
    (hv : Value.okWide Try.prog W .any base 36 v) (h : DataW.Trod enc Try.prog W 0 (fun _ => true) true 36 v d p) :
    ∃ l : List Int, Nv W v l ∧ Szd d l := by
  obtain ⟨ao, len0, cap0, rfl⟩ := okWide_slice Try.underlying36 hv
  obtain ⟨fuel, hf⟩ := h
  obtain ⟨v, l, e, h1, h2⟩ := core_nv hf
  simp [Value.cells] at e
  subst e
  exact ⟨l, h1, h2⟩




set_option maxRecDepth 20000 in
/-- An act's cells, opened. -/
theorem cells_of_act {H : Type} {enc : TypeId × Value → H} {W : World} {cs : List Value} {fuel : Nat} {y : DataW H × List MemPlace} (hl : cs.length = 3) (hf : DataW.trod enc Try.prog W 0 (fun _ => true) true fuel 45 cs = some y) :
    ∃ (ov : Value) (t : Ac0), cs = [.int .i64 t.kd, .int .i64 t.kk, ov] ∧ Nv W ov t.on := by
  obtain ⟨y0, y1, y2, m, _, _, h0, h1, h2⟩ := Go.Deep.trod_struct3 Try.underlying45 hf
  match cs, hl with
  | [c0, c1, c2], _ =>
    simp only [cells_ints, cells_int, List.drop_zero, List.drop_succ_cons, List.take_succ_cons, List.take_zero] at h0 h1 h2
    obtain ⟨a, rfl, _⟩ := cell_i64 Try.underlying3 h0
    obtain ⟨b, rfl, _⟩ := cell_i64 Try.underlying3 h1
    obtain ⟨ov, on, e0, hn, _⟩ := core_nv h2
    simp only [List.cons.injEq, and_true] at e0
    subst e0
    exact ⟨c2, ⟨a, b, on⟩, rfl, hn⟩
set_option maxRecDepth 20000 in
/-- A slice of acts among the arguments, opened. -/
theorem open_acts {H : Type} {enc : TypeId × Value → H} {W : World} {v : Value} {d : DataW H} {p : List MemPlace} {base : Nat}
    (hv : Value.okWide Try.prog W .any base 25 v) (h : DataW.Trod enc Try.prog W 0 (fun _ => true) true 25 v d p) :
    ∃ l : List Ac0, Acl W v l := by
  obtain ⟨ao, len0, cap0, rfl⟩ := okWide_slice Try.underlying25 hv
  obtain ⟨fuel, hf⟩ := h
  rcases Go.Deep.open_slice Try.underlying25 hf with ⟨hcs, hx⟩ | ⟨a, len, cap, m, n, D, Pl, hcs, _, hl, hm, hmm, hx, hel⟩
  · simp [Value.cells] at hcs
    obtain ⟨rfl, rfl, rfl⟩ := hcs
    exact ⟨[], none, 0, rfl, by simp, by simp [maxLen], fun i hi => by simp at hi⟩
  · simp [Value.cells] at hcs
    obtain ⟨rfl, rfl, rfl⟩ := hcs
    simp only [if_true] at hmm
    have each : ∀ i, ∃ o : Value × Ac0, i < len0 → W.cell? (a.add (i * 3)) = some (.int .i64 o.2.kd) ∧ W.cell? (a.add (i * 3 + 1)) = some (.int .i64 o.2.kk) ∧ W.cell? (a.add (i * 3 + 2)) = some o.1 ∧ Nv W o.1 o.2.on := by
      intro i
      by_cases hi : i < len0
      · obtain ⟨cs', h1, h2⟩ := hel i (by omega)
        rw [cells_act] at h1
        obtain ⟨_, hlen, hcell⟩ := World.cells?_some h1
        obtain ⟨ov, t, rfl, hn⟩ := cells_of_act hlen h2
        have e0 := hcell 0 (by omega)
        have e1 := hcell 1 (by omega)
        have e2 := hcell 2 (by omega)
        rw [Go.Deep.add_add] at e0 e1 e2
        exact ⟨⟨ov, t⟩, fun _ => ⟨by simpa using e0, by simpa using e1, by simpa using e2, hn⟩⟩
      · exact ⟨⟨undef, ⟨0, 0, []⟩⟩, fun h => absurd h hi⟩
    obtain ⟨X, hX⟩ : ∃ X : Nat → Value × Ac0, ∀ i, i < len0 → W.cell? (a.add (i * 3)) = some (.int .i64 (X i).2.kd) ∧ W.cell? (a.add (i * 3 + 1)) = some (.int .i64 (X i).2.kk) ∧ W.cell? (a.add (i * 3 + 2)) = some (X i).1 ∧ Nv W (X i).1 (X i).2.on := ⟨fun i => (each i).choose, fun i => (each i).choose_spec⟩
    clear each hel
    refine ⟨(List.range len0).map (fun i => (X i).2), some a, cap0, by simp, by simpa using hl, hm, ?_⟩
    intro i hi
    simp at hi
    obtain ⟨h0, _⟩ := hX 0 (by omega)
    obtain ⟨g0, g1, g2, g5⟩ := hX i hi
    obtain ⟨b, off, spot⟩ := a
    have hs1 : spot = none := by simpa [Addr.add] using World.cell?_spot h0
    subst hs1
    rw [WideShapes.add_plain] at g0 g1 g2
    have ht : ath ((List.range len0).map (fun i => (X i).2)) i = (X i).2 := by unfold ath; rw [List.getD_eq_getElem?_getD]; simp [hi]
    rw [ht]
    exact ⟨b, off, (X i).1, rfl, g0, by simpa [Nat.add_assoc] using g1, by simpa [Nat.add_assoc] using g2, g5⟩
end Go.Proofs.Ytmpdjobllpigpaa
