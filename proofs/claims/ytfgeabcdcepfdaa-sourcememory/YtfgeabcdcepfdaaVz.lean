/- From the walk to the row: slices of items among the arguments, opened. -/
import Derived.Test.YtfgeabcdcepfdaaVk
import Derived.Test.YtfgeabcdcepfdaaXz
namespace Go.Proofs.Ytfgeabcdcepfdaa
open Go.ChangeShapes Go.WideShapes Go.ChangeAt Go.RowKit

theorem cells_item : Try.prog.cellsOf 36 = 3 := by kernel_rfl

section
variable {H : Type} {enc : TypeId × Value → H} {W : World} {sp : Nat → Bool} {held : Bool} {base : Nat}
set_option maxRecDepth 20000 in
theorem cells_of_item {n : Nat} {cs : List Value} {x : DataW H × List MemPlace} (hl : cs.length = 3) (h : DataW.trod enc Try.prog W base sp held n 36 cs = some x) :
    ∃ t : It, cs = [.int .i64 t.p, .int .u64 t.r.k, .float .f64 t.r.x] ∧ t.ok := by
  obtain ⟨y0, y1, m, _, _, h0, h1⟩ := trod_struct2 Try.underlying36 h
  match cs, hl with
  | [a, b, c], _ =>
    simp only [cells_int, cells_rec, List.drop_zero, List.drop_succ_cons, List.take_succ_cons, List.take_zero] at h0 h1
    obtain ⟨p, rfl, hp⟩ := cell_i64 Try.underlying3 h0
    obtain ⟨r, hr, hok⟩ := cells_of_rec rfl h1
    simp only [List.cons.injEq, and_true] at hr
    obtain ⟨rfl, rfl⟩ := hr
    exact ⟨⟨p, r⟩, rfl, hp, hok⟩
end

set_option maxRecDepth 20000 in
/-- A slice of items among the arguments, opened. -/
theorem open_iv {H : Type} {enc : TypeId × Value → H} {W : World} {v : Value} {d : DataW H} {p : List MemPlace} {base : Nat}
    (hv : Value.okWide Try.prog W .any base 23 v) (h : DataW.Trod enc Try.prog W 0 (fun _ => true) true 23 v d p) :
    ∃ (ao : Option Addr) (cap : Nat) (l : List It), v = .slice ao l.length cap ∧ Il W ao l ∧ (∀ t ∈ l, t.ok) ∧ l.length ≤ maxLen := by
  obtain ⟨ao, len0, cap0, rfl⟩ := okWide_slice Try.underlying23 hv
  obtain ⟨fuel, hf⟩ := h
  rcases Go.Deep.open_slice Try.underlying23 hf with ⟨hcs, hx⟩ | ⟨a, len, cap, m, n, D, Pl, hcs, _, hl, hm, hmm, hx, hel⟩
  · simp [Value.cells] at hcs
    obtain ⟨rfl, rfl, rfl⟩ := hcs
    exact ⟨none, 0, [], rfl, fun i hi => by simp at hi, by simp, by simp [maxLen]⟩
  · simp [Value.cells] at hcs
    obtain ⟨rfl, rfl, rfl⟩ := hcs
    simp only [if_true] at hmm
    have each : ∀ i, ∃ o : It, i < len0 → (W.cell? (a.add (i * 3)) = some (.int .i64 o.p) ∧ W.cell? (a.add (i * 3 + 1)) = some (.int .u64 o.r.k) ∧ W.cell? (a.add (i * 3 + 2)) = some (.float .f64 o.r.x)) ∧ o.ok := by
      intro i
      by_cases hi : i < len0
      · obtain ⟨cs', h1, h2⟩ := hel i (by omega)
        rw [cells_item] at h1
        obtain ⟨_, hlen, hcell⟩ := World.cells?_some h1
        obtain ⟨o, rfl, hok⟩ := cells_of_item hlen h2
        have e0 := hcell 0 (by omega)
        have e1 := hcell 1 (by omega)
        have e2 := hcell 2 (by omega)
        rw [Go.Deep.add_add] at e0 e1 e2
        exact ⟨o, fun _ => ⟨⟨by simpa using e0, by simpa using e1, by simpa using e2⟩, hok⟩⟩
      · exact ⟨⟨0, ⟨0, 0⟩⟩, fun h => absurd h hi⟩
    obtain ⟨X, hX⟩ : ∃ X : Nat → It, ∀ i, i < len0 → (W.cell? (a.add (i * 3)) = some (.int .i64 (X i).p) ∧ W.cell? (a.add (i * 3 + 1)) = some (.int .u64 (X i).r.k) ∧ W.cell? (a.add (i * 3 + 2)) = some (.float .f64 (X i).r.x)) ∧ (X i).ok := ⟨fun i => (each i).choose, fun i => (each i).choose_spec⟩
    clear each hel
    refine ⟨some a, cap0, (List.range len0).map X, by simp, ?_, ?_, by simp; omega⟩
    · intro i hi
      simp at hi
      obtain ⟨⟨h0, _, _⟩, _⟩ := hX 0 (by omega)
      obtain ⟨⟨g0, g1, g2⟩, _⟩ := hX i hi
      obtain ⟨b, off, spot⟩ := a
      have hs1 : spot = none := by simpa [Addr.add] using World.cell?_spot h0
      subst hs1
      rw [WideShapes.add_plain] at g0 g1 g2
      exact ⟨b, off, rfl, by simpa using g0, by simpa [Nat.add_assoc] using g1, by simpa [Nat.add_assoc] using g2⟩
    · intro o ho
      simp only [List.mem_map, List.mem_range] at ho
      obtain ⟨i, hi, rfl⟩ := ho
      exact (hX i hi).2
end Go.Proofs.Ytfgeabcdcepfdaa
