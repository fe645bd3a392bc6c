/- From the walk to the row: scripts among the arguments, opened. -/
import Derived.Test.YtokfbnpjndlccaaJz

import Derived.Test.YtokfbnpjndlccaaNl

namespace Go.Proofs.Ytokfbnpjndlccaa

open Go.ChangeShapes Go.WideShapes Go.ChangeAt Go.RowKit



theorem cells_opN : Try.prog.cellsOf 37 = 12 := by kernel_rfl
set_option maxRecDepth 20000 in
/-- A message's cells, opened. -/
theorem cells_of_msg {H : Type} {enc : TypeId × Value → H} {W : World} {cs : List Value} {fuel : Nat} {y : DataW H × List MemPlace} (hl : cs.length = 9) (hf : DataW.trod enc Try.prog W 0 (fun _ => true) true fuel 35 cs = some y) :
    ∃ (ev qv pv : Value) (m : Ms), cs = [.int .i64 m.K, .int .i64 m.F, .int .i64 m.T, .int .i64 m.B, .int .i64 m.A, .int .i64 m.C, ev, qv, pv] ∧ ML W m ev qv pv ∧ m.ok := by
  obtain ⟨y0, y1, y2, y3, y4, y5, y6, y7, y8, m, hx, h0, h1, h2, h3, h4, h5, h6, h7, h8⟩ := trod_struct9 Try.underlying35 hf
  match cs, hl with
  | [c0, c1, c2, c3, c4, c5, c6, c7, c8], _ =>
    simp only [cells_int, cells_ints, cells_keys, cells_pairs, List.drop_zero, List.drop_succ_cons, List.take_succ_cons, List.take_zero] at h0 h1 h2 h3 h4 h5 h6 h7 h8
    obtain ⟨a0, rfl, i0⟩ := cell_i64 h0
    obtain ⟨a1, rfl, i1⟩ := cell_i64 h1
    obtain ⟨a2, rfl, i2⟩ := cell_i64 h2
    obtain ⟨a3, rfl, i3⟩ := cell_i64 h3
    obtain ⟨a4, rfl, i4⟩ := cell_i64 h4
    obtain ⟨a5, rfl, i5⟩ := cell_i64 h5
    obtain ⟨le, he, hew, hez⟩ := open_sv_raw Try.underlying31 Try.underlying3 cells_int (d := y6.1) (p := y6.2) h6
    obtain ⟨kv, lq, e1, hq, hqz⟩ := core_kv h7
    obtain ⟨pv, lp, e2, hp, hpz⟩ := core_qv h8
    simp only [List.cons.injEq, and_true] at e1 e2
    subst e1 e2
    exact ⟨c6, c7, c8, ⟨a0, a1, a2, a3, a4, a5, le, lq, lp⟩, rfl, ⟨he, hq.1, hp⟩, ⟨i0, i1, i2, i3, i4, i5, fun x hx => i64_of_wf (hew x hx), hq.2, hp.2⟩⟩
set_option maxRecDepth 20000 in
/-- A call's cells, opened. -/
theorem cells_of_op {H : Type} {enc : TypeId × Value → H} {W : World} {cs : List Value} {fuel : Nat} {y : DataW H × List MemPlace} (hl : cs.length = 12) (hf : DataW.trod enc Try.prog W 0 (fun _ => true) true fuel 37 cs = some y) :
    ∃ x : Oq, cs = cellsO x ∧ ML W x.m x.e x.q x.p ∧ x.ok := by
  obtain ⟨y0, y1, y2, y3, m, hx, _, h0, h1, h2, h3⟩ := Go.Joins.trod_struct4 Try.underlying37 hf
  match cs, hl with
  | [b0, b1, b2, c0, c1, c2, c3, c4, c5, c6, c7, c8], _ =>
    simp only [cells_int, cells_msg, List.drop_zero, List.drop_succ_cons, List.take_succ_cons, List.take_zero] at h0 h1 h2 h3
    obtain ⟨a0, rfl, i0⟩ := cell_i64 h0
    obtain ⟨a1, rfl, i1⟩ := cell_i64 h1
    obtain ⟨a2, rfl, i2⟩ := cell_i64 h2
    obtain ⟨ev, qv, pv, m, e, hm, hok⟩ := cells_of_msg rfl h3
    simp only [List.cons.injEq, and_true] at e
    obtain ⟨rfl, rfl, rfl, rfl, rfl, rfl, rfl, rfl, rfl⟩ := e
    exact ⟨⟨a0, a1, a2, m, c6, c7, c8⟩, rfl, hm, ⟨i0, i1, i2, hok⟩⟩
set_option maxRecDepth 20000 in
/-- A script among the arguments, opened. -/
theorem open_sc {H : Type} {enc : TypeId × Value → H} {W : World} {v : Value} {d : DataW H} {p : List MemPlace} {base : Nat}
    (hv : Value.okWide Try.prog W .any base 22 v) (h : DataW.Trod enc Try.prog W 0 (fun _ => true) true 22 v d p) :
    ∃ l : List Oq, Sc W v l := by
  obtain ⟨ao, len0, cap0, rfl⟩ := okWide_slice Try.underlying22 hv
  obtain ⟨fuel, hf⟩ := h
  rcases Go.Deep.open_slice Try.underlying22 hf with ⟨hcs, hx⟩ | ⟨a, len, cap, m, n, D, Pl, hcs, _, hl, hm, hmm, hx, hel⟩
  · simp [Value.cells] at hcs
    obtain ⟨rfl, rfl, rfl⟩ := hcs
    exact ⟨[], ⟨none, 0, rfl, by simp [maxLen], fun i hi => by simp at hi⟩, by simp, by simp⟩
  · simp [Value.cells] at hcs
    obtain ⟨rfl, rfl, rfl⟩ := hcs
    simp only [if_true] at hmm
    have each : ∀ i, ∃ o : Oq, i < len0 → (∀ j u, (cellsO o)[j]? = some u → W.cell? (a.add (i * 12 + j)) = some u) ∧ ML W o.m o.e o.q o.p ∧ o.ok := by
      intro i
      by_cases hi : i < len0
      · obtain ⟨cs', h1, h2⟩ := hel i (by omega)
        rw [cells_opN] at h1
        obtain ⟨_, hlen, hcell⟩ := World.cells?_some h1
        obtain ⟨o, rfl, hr, hk⟩ := cells_of_op hlen h2
        refine ⟨o, fun _ => ⟨fun j u hj => ?_, hr, hk⟩⟩
        have hj12 : j < 12 := by
          rcases Nat.lt_or_ge j 12 with q | q
          · exact q
          · rw [List.getElem?_eq_none (by simpa [cellsO] using q)] at hj; cases hj
        have e0 := hcell j hj12
        rw [Go.Deep.add_add] at e0
        rw [← hj, e0]
      · exact ⟨⟨0, 0, 0, zeroMs, undef, undef, undef⟩, fun h => absurd h hi⟩
    obtain ⟨X, hX⟩ : ∃ X : Nat → Oq, ∀ i, i < len0 → (∀ j u, (cellsO (X i))[j]? = some u → W.cell? (a.add (i * 12 + j)) = some u) ∧ ML W (X i).m (X i).e (X i).q (X i).p ∧ (X i).ok := ⟨fun i => (each i).choose, fun i => (each i).choose_spec⟩
    clear each hel
    refine ⟨(List.range len0).map X, ⟨some a, cap0, by simp, by simp; omega, fun i hi => ?_⟩, fun x hx => ?_, fun x hx => ?_⟩
    · simp at hi
      obtain ⟨h0, _, _⟩ := hX 0 (by omega)
      obtain ⟨g0, _, _⟩ := hX i hi
      obtain ⟨b, off, spot⟩ := a
      have hs1 : spot = none := by simpa [Addr.add] using World.cell?_spot (h0 0 _ rfl)
      subst hs1
      refine ⟨b, off, rfl, fun j u hj => ?_⟩
      have := g0 j u (by simpa using hj)
      rw [WideShapes.add_plain] at this
      rw [← this]
      congr 2
      omega
    · simp only [List.mem_map, List.mem_range] at hx
      obtain ⟨i, hi, rfl⟩ := hx
      exact (hX i hi).2.1
    · simp only [List.mem_map, List.mem_range] at hx
      obtain ⟨i, hi, rfl⟩ := hx
      exact (hX i hi).2.2
end Go.Proofs.Ytokfbnpjndlccaa


