/- From the walk to the row: a script among the arguments, opened (printed by gen_dy.py). -/
import Derived.Test.YtninkhijnicbjaaDz
import Derived.Test.YtninkhijnicbjaaEf
namespace Go.Proofs.Ytninkhijnicbjaa
open Go.ChangeShapes Go.WideShapes Go.ChangeAt Go.RowKit

theorem cells_call : Try.prog.cellsOf 38 = 4 := by kernel_rfl

section
variable {H : Type} {enc : TypeId × Value → H} {W : World} {sp : Nat → Bool} {held : Bool} {base : Nat}
theorem trod_structN {P : Program} {t : TypeId} {f0 f1 f2 f3 : Field} {fuel : Nat} {cs : List Value} {x : DataW H × List MemPlace} (ht : P.underlying t = some (.struct #[f0, f1, f2, f3])) (h : DataW.trod enc P W base sp held fuel t cs = some x) :
    ∃ y0 y1 y2 y3 n, x = (.agg [y0.1, y1.1, y2.1, y3.1], y0.2 ++ (y1.2 ++ (y2.2 ++ y3.2))) ∧ cs.length = P.cellsOf t ∧ DataW.trod enc P W base sp held n f0.type ((cs.drop f0.offset).take (P.cellsOf f0.type)) = some y0 ∧ DataW.trod enc P W base sp held n f1.type ((cs.drop f1.offset).take (P.cellsOf f1.type)) = some y1 ∧ DataW.trod enc P W base sp held n f2.type ((cs.drop f2.offset).take (P.cellsOf f2.type)) = some y2 ∧ DataW.trod enc P W base sp held n f3.type ((cs.drop f3.offset).take (P.cellsOf f3.type)) = some y3 := by
  obtain ⟨xs, n, _, rfl, hl, hlen, hf⟩ := DataW.trod_struct ht h
  match xs, hlen with
  | [y0, y1, y2, y3], _ => exact ⟨y0, y1, y2, y3, n, by simp, hl, by simpa using hf 0 f0 rfl, by simpa using hf 1 f1 rfl, by simpa using hf 2 f2 rfl, by simpa using hf 3 f3 rfl⟩
end

section
variable {H : Type} {enc : TypeId × Value → H} {W : World}
set_option maxRecDepth 20000 in
theorem cells_of_call {n : Nat} {cs : List Value} {x : DataW H × List MemPlace} (hl : cs.length = 4) (h : DataW.trod enc Try.prog W 0 (fun _ => true) true n 38 cs = some x) :
    ∃ (t : Cc) (u : Value), cs = [.int .i64 t.K, .int .i64 t.On, .int .i64 t.I, u] ∧ Bv W u t.b ∧ -9223372036854775808 ≤ t.I ∧ t.I < 9223372036854775808 := by
  obtain ⟨y0, y1, y2, y3, m, _, _, h0, h1, h2, h3⟩ := trod_structN Try.underlying38 h
  match cs, hl with
  | [a, b, c, d], _ =>
    simp only [cells_int, cells_bytes, List.drop_zero, List.drop_succ_cons, List.take_succ_cons, List.take_zero] at h0 h1 h2 h3
    obtain ⟨K, rfl, hK⟩ := cell_i64 Try.underlying3 h0
    obtain ⟨On, rfl, hOn⟩ := cell_i64 Try.underlying3 h1
    obtain ⟨I, rfl, hI⟩ := cell_i64 Try.underlying3 h2
    obtain ⟨l, hb, _⟩ := core_bv h3
    exact ⟨⟨K, On, I, l⟩, d, rfl, hb, hI⟩

set_option maxRecDepth 20000 in
/-- A script among the arguments, opened. -/
theorem open_sv8 {v : Value} {d : DataW H} {p : List MemPlace} {base : Nat} (hv : Value.okWide Try.prog W .any base 23 v) (h : DataW.Trod enc Try.prog W 0 (fun _ => true) true 23 v d p) : ∃ cs : List Cc, Zv W v cs := by
  obtain ⟨ao, len0, cap0, rfl⟩ := okWide_slice Try.underlying23 hv
  obtain ⟨fuel, hf⟩ := h
  rcases Go.Deep.open_slice Try.underlying23 hf with ⟨hcs, hx⟩ | ⟨a, len, cap, m, n, D, Pl, hcs, _, hl, hm, hmm, hx, hel⟩
  · simp [Value.cells] at hcs
    obtain ⟨rfl, rfl, rfl⟩ := hcs
    exact ⟨[], ⟨none, 0, rfl, Nat.le_refl _, by simp [maxLen], fun _ => rfl, fun i hi => by simp at hi⟩, by simp⟩
  · simp [Value.cells] at hcs
    obtain ⟨rfl, rfl, rfl⟩ := hcs
    simp only [if_true] at hmm
    have each : ∀ i, ∃ (o : Cc) (u : Value), i < len0 → (W.cell? (a.add (i * 4)) = some (.int .i64 o.K) ∧ W.cell? (a.add (i * 4 + 1)) = some (.int .i64 o.On) ∧ W.cell? (a.add (i * 4 + 2)) = some (.int .i64 o.I) ∧ W.cell? (a.add (i * 4 + 3)) = some u ∧ Bv W u o.b) ∧ -9223372036854775808 ≤ o.I ∧ o.I < 9223372036854775808 := by
      intro i
      by_cases hi : i < len0
      · obtain ⟨cs', h1, h2⟩ := hel i (by omega)
        rw [cells_call] at h1
        obtain ⟨_, hlen, hcell⟩ := World.cells?_some h1
        obtain ⟨o, u, rfl, hb, hok⟩ := cells_of_call hlen h2
        have e0 := hcell 0 (by omega)
        have e1 := hcell 1 (by omega)
        have e2 := hcell 2 (by omega)
        have e3 := hcell 3 (by omega)
        rw [Go.Deep.add_add] at e0 e1 e2 e3
        exact ⟨o, u, fun _ => ⟨⟨by simpa using e0, by simpa using e1, by simpa using e2, by simpa using e3, hb⟩, hok⟩⟩
      · exact ⟨⟨0, 0, 0, []⟩, .bool false, fun h => absurd h hi⟩
    obtain ⟨X, hX⟩ : ∃ X : Nat → Cc, ∀ i, i < len0 → ∃ u, (W.cell? (a.add (i * 4)) = some (.int .i64 (X i).K) ∧ W.cell? (a.add (i * 4 + 1)) = some (.int .i64 (X i).On) ∧ W.cell? (a.add (i * 4 + 2)) = some (.int .i64 (X i).I) ∧ W.cell? (a.add (i * 4 + 3)) = some u ∧ Bv W u (X i).b) ∧ -9223372036854775808 ≤ (X i).I ∧ (X i).I < 9223372036854775808 :=
      ⟨fun i => (each i).choose, fun i hi => by obtain ⟨u, hu⟩ := (each i).choose_spec; exact ⟨u, hu hi⟩⟩
    clear each hel
    refine ⟨(List.range len0).map X, ⟨some a, cap0, by simp, by simpa using hl, hm, by simp, ?_⟩, ?_⟩
    · intro i hi
      simp at hi
      obtain ⟨_, ⟨h0, _⟩, _⟩ := hX 0 (by omega)
      obtain ⟨u, ⟨g0, g1, g2, g3, g4⟩, _⟩ := hX i hi
      obtain ⟨b, off, spot⟩ := a
      have hs1 : spot = none := by simpa [Addr.add] using World.cell?_spot h0
      subst hs1
      rw [WideShapes.add_plain] at g0 g1 g2 g3
      exact ⟨b, off, u, rfl, by simpa using g0, by simpa [Nat.add_assoc] using g1, by simpa [Nat.add_assoc] using g2, by simpa [Nat.add_assoc] using g3, by simpa using g4⟩
    · intro o ho
      simp only [List.mem_map, List.mem_range] at ho
      obtain ⟨i, hi, rfl⟩ := ho
      obtain ⟨_, _, h⟩ := hX i hi
      exact h
end
end Go.Proofs.Ytninkhijnicbjaa
