/- A script among the arguments, opened. -/
import Derived.Test.YtakijnclllmkfaaPz
namespace Go.Proofs.Ytakijnclllmkfaa
open Go.ChangeShapes Go.WideShapes Go.ChangeAt Go.RowKit

/-- One call of a script. -/
structure Cy where
  K : Int
  N : Int
  l : List (Int × List Nat)
/-- The value v is a script cs. -/
def Yv (w : World) (v : Value) (cs : List Cy) : Prop :=
  (∃ ao cap, v = .slice ao cs.length cap ∧ cs.length ≤ cap ∧ cap ≤ maxLen ∧ (ao = none → cap = 0) ∧
    ∀ i (h : i < cs.length), ∃ b off u, ao = some ⟨b, off, none⟩ ∧ w.cell? ⟨b, off + i * 3, none⟩ = some (.int .i64 cs[i].K) ∧ w.cell? ⟨b, off + i * 3 + 1, none⟩ = some (.int .i64 cs[i].N) ∧ w.cell? ⟨b, off + i * 3 + 2, none⟩ = some u ∧ Tv w u cs[i].l) ∧
  ∀ c ∈ cs, -9223372036854775808 ≤ c.N ∧ c.N < 9223372036854775808
theorem cells_cy : Try.prog.cellsOf 40 = 3 := by kernel_rfl

section
variable {H : Type} {enc : TypeId × Value → H} {W : World}
set_option maxRecDepth 20000 in
theorem cells_of_cy {n : Nat} {cs : List Value} {x : DataW H × List MemPlace} (hl : cs.length = 3) (h : DataW.trod enc Try.prog W 0 (fun _ => true) true n 40 cs = some x) :
    ∃ (t : Cy) (u : Value), cs = [.int .i64 t.K, .int .i64 t.N, u] ∧ Tv W u t.l ∧ -9223372036854775808 ≤ t.N ∧ t.N < 9223372036854775808 := by
  obtain ⟨y0, y1, y2, m, _, _, h0, h1, h2⟩ := Go.Deep.trod_struct3 Try.underlying40 h
  match cs, hl with
  | [a, b, c], _ =>
    simp only [cells_int, cells_list, List.drop_zero, List.drop_succ_cons, List.take_succ_cons, List.take_zero] at h0 h1 h2
    obtain ⟨K, rfl, hK⟩ := cell_i64 Try.underlying3 h0
    obtain ⟨N, rfl, hN⟩ := cell_i64 Try.underlying3 h1
    obtain ⟨l, hb, _⟩ := core_tv h2
    exact ⟨⟨K, N, l⟩, c, rfl, hb, hN⟩

set_option maxRecDepth 20000 in
/-- A script among the arguments, opened. -/
theorem open_yv {v : Value} {d : DataW H} {p : List MemPlace} {base : Nat} (hv : Value.okWide Try.prog W .any base 22 v) (h : DataW.Trod enc Try.prog W 0 (fun _ => true) true 22 v d p) : ∃ cs : List Cy, Yv W v cs ∧ ((d = .nil ∧ cs = []) ∨ ∃ elems spare, d = .slice elems spare ∧ elems.length = cs.length) := by
  obtain ⟨ao, len0, cap0, rfl⟩ := okWide_slice Try.underlying22 hv
  obtain ⟨fuel, hf⟩ := h
  rcases Go.Deep.open_slice Try.underlying22 hf with ⟨hcs, hx⟩ | ⟨a, len, cap, m, n, D, Pl, hcs, _, hl, hm, hmm, hx, hel⟩
  · simp [Value.cells] at hcs
    obtain ⟨rfl, rfl, rfl⟩ := hcs
    simp only [Prod.mk.injEq] at hx
    exact ⟨[], ⟨⟨none, 0, rfl, Nat.le_refl _, by simp [maxLen], fun _ => rfl, fun i hi => by simp at hi⟩, by simp⟩, .inl ⟨hx.1, rfl⟩⟩
  · simp [Value.cells] at hcs
    obtain ⟨rfl, rfl, rfl⟩ := hcs
    simp only [if_true] at hmm
    simp only [Prod.mk.injEq] at hx
    have each : ∀ i, ∃ (o : Cy) (u : Value), i < len0 → (W.cell? (a.add (i * 3)) = some (.int .i64 o.K) ∧ W.cell? (a.add (i * 3 + 1)) = some (.int .i64 o.N) ∧ W.cell? (a.add (i * 3 + 2)) = some u ∧ Tv W u o.l) ∧ -9223372036854775808 ≤ o.N ∧ o.N < 9223372036854775808 := by
      intro i
      by_cases hi : i < len0
      · obtain ⟨cs', h1, h2⟩ := hel i (by omega)
        rw [cells_cy] at h1
        obtain ⟨_, hlen, hcell⟩ := World.cells?_some h1
        obtain ⟨o, u, rfl, hb, hok⟩ := cells_of_cy hlen h2
        have e0 := hcell 0 (by omega)
        have e1 := hcell 1 (by omega)
        have e2 := hcell 2 (by omega)
        rw [Go.Deep.add_add] at e0 e1 e2
        exact ⟨o, u, fun _ => ⟨⟨by simpa using e0, by simpa using e1, by simpa using e2, hb⟩, hok⟩⟩
      · exact ⟨⟨0, 0, []⟩, .bool false, fun h => absurd h hi⟩
    obtain ⟨X, hX⟩ : ∃ X : Nat → Cy, ∀ i, i < len0 → ∃ u, (W.cell? (a.add (i * 3)) = some (.int .i64 (X i).K) ∧ W.cell? (a.add (i * 3 + 1)) = some (.int .i64 (X i).N) ∧ W.cell? (a.add (i * 3 + 2)) = some u ∧ Tv W u (X i).l) ∧ -9223372036854775808 ≤ (X i).N ∧ (X i).N < 9223372036854775808 :=
      ⟨fun i => (each i).choose, fun i hi => by obtain ⟨u, hu⟩ := (each i).choose_spec; exact ⟨u, hu hi⟩⟩
    clear each hel
    refine ⟨(List.range len0).map X, ⟨⟨some a, cap0, by simp, by simpa using hl, hm, by simp, ?_⟩, ?_⟩, .inr ⟨_, _, hx.1, by simp⟩⟩
    · intro i hi
      simp at hi
      obtain ⟨_, ⟨h0, _⟩, _⟩ := hX 0 (by omega)
      obtain ⟨u, ⟨g0, g1, g2, g3⟩, _⟩ := hX i hi
      obtain ⟨b, off, spot⟩ := a
      have hs1 : spot = none := by simpa [Addr.add] using World.cell?_spot h0
      subst hs1
      rw [WideShapes.add_plain] at g0 g1 g2
      exact ⟨b, off, u, rfl, by simpa using g0, by simpa [Nat.add_assoc] using g1, by simpa [Nat.add_assoc] using g2, by simpa using g3⟩
    · intro o ho
      simp only [List.mem_map, List.mem_range] at ho
      obtain ⟨i, hi, rfl⟩ := ho
      obtain ⟨_, _, h⟩ := hX i hi
      exact h
end
end Go.Proofs.Ytakijnclllmkfaa
