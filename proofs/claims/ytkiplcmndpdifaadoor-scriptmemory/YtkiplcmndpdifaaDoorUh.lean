/- ScriptMemory: what a plan's pipeline and a list of steps weigh. -/
import Derived.Test.YtkiplcmndpdifaaDoorTz

import Derived.SizedLaws

namespace Go.Proofs.YtkiplcmndpdifaaDoor

open Go.ChangeShapes Go.WideShapes Go.ChangeAt Go.RowKit



theorem trod_struct8d {H : Type} {enc : TypeId × Value → H} {P : Program} {w : World} {base : Nat} {spare : Nat → Bool} {held : Bool} {t : TypeId} {f0 f1 f2 f3 f4 f5 f6 f7 : Field} {fuel : Nat} {cs : List Value} {x : DataW H × List MemPlace} (ht : P.underlying t = some (.struct #[f0, f1, f2, f3, f4, f5, f6, f7])) (h : DataW.trod enc P w base spare held fuel t cs = some x) :
    ∃ y0 y1 y2 y3 y4 y5 y6 y7 n, x.1 = .agg [y0.1, y1.1, y2.1, y3.1, y4.1, y5.1, y6.1, y7.1] ∧ DataW.trod enc P w base spare held n f0.type ((cs.drop f0.offset).take (P.cellsOf f0.type)) = some y0 ∧
      DataW.trod enc P w base spare held n f1.type ((cs.drop f1.offset).take (P.cellsOf f1.type)) = some y1 ∧
      DataW.trod enc P w base spare held n f2.type ((cs.drop f2.offset).take (P.cellsOf f2.type)) = some y2 ∧
      DataW.trod enc P w base spare held n f3.type ((cs.drop f3.offset).take (P.cellsOf f3.type)) = some y3 ∧
      DataW.trod enc P w base spare held n f4.type ((cs.drop f4.offset).take (P.cellsOf f4.type)) = some y4 ∧
      DataW.trod enc P w base spare held n f5.type ((cs.drop f5.offset).take (P.cellsOf f5.type)) = some y5 ∧
      DataW.trod enc P w base spare held n f6.type ((cs.drop f6.offset).take (P.cellsOf f6.type)) = some y6 ∧
      DataW.trod enc P w base spare held n f7.type ((cs.drop f7.offset).take (P.cellsOf f7.type)) = some y7 := by
  obtain ⟨xs, n, _, hx, _, hlen, hf⟩ := DataW.trod_struct ht h
  match xs, hlen with
  | [y0, y1, y2, y3, y4, y5, y6, y7], _ => exact ⟨y0, y1, y2, y3, y4, y5, y6, y7, n, by rw [hx]; rfl, by simpa using hf 0 f0 rfl, by simpa using hf 1 f1 rfl, by simpa using hf 2 f2 rfl, by simpa using hf 3 f3 rfl, by simpa using hf 4 f4 rfl, by simpa using hf 5 f5 rfl, by simpa using hf 6 f6 rfl, by simpa using hf 7 f7 rfl⟩


set_option maxRecDepth 20000 in
/-- A plan by value, opened: its data too. -/
theorem open_plan_sized {H : Type} {enc : TypeId × Value → H} {W : World} {v : Value} {d : DataW H} {p : List MemPlace} {base : Nat}
    (hv : Value.okWide Tryd.prog W .any base 24 v) (h : DataW.Trod enc Tryd.prog W 0 (fun _ => true) true 24 v d p) :
    ∃ (ov : Value) (p : Pl) (l : List Og) (d0 d1 d2 d3 d4 d5 d6 d7 : DataW H), v = PlV p ov ∧ OVw W ov l ∧ p.ok ∧ (∀ x ∈ l, x.ok) ∧ d = .agg [d0, d1, d2, d3, d4, d5, d6, d7] ∧ ((d3 = .nil ∧ l = []) ∨ ∃ elems spare, d3 = .slice elems spare ∧ elems.length = l.length) := by
  obtain ⟨cs, rfl, hsz⟩ := okWide_struct Tryd.underlying24 hv
  obtain ⟨fuel, hf⟩ := h
  obtain ⟨y0, y1, y2, y3, y4, y5, y6, y7, n, hd, h0, h1, h2, h3, h4, h5, h6, h7⟩ := trod_struct8d Tryd.underlying24 hf
  have hl8 : cs.toList.length = 8 := by simpa [Value.cells, cells_plan] using hsz
  obtain ⟨l⟩ := cs
  match l, hl8 with
  | [c0, c1, c2, c3, c4, c5, c6, c7], _ =>
    simp only [Value.cells, cells_int, cells_ops, List.drop_zero, List.drop_succ_cons, List.take_succ_cons, List.take_zero] at h0 h1 h2 h3 h4 h5 h6 h7
    obtain ⟨a0, rfl, k0⟩ := cell_i64 Tryd.underlying3 h0
    obtain ⟨a1, rfl, k1⟩ := cell_i64 Tryd.underlying3 h1
    obtain ⟨a2, rfl, k2⟩ := cell_i64 Tryd.underlying3 h2
    obtain ⟨d3, p3⟩ := y3
    obtain ⟨l, ho, hk, hz⟩ := open_gen (⟨0, 0, 0⟩ : Og) Tryd.underlying22 cells_op (by omega) (fun _ => rfl) cells_of_op h3
    obtain ⟨a4, rfl, k4⟩ := cell_i64 Tryd.underlying3 h4
    obtain ⟨a5, rfl, k5⟩ := cell_i64 Tryd.underlying3 h5
    obtain ⟨a6, rfl, k6⟩ := cell_i64 Tryd.underlying3 h6
    obtain ⟨a7, rfl, k7⟩ := cell_i64 Tryd.underlying3 h7
    exact ⟨c3, ⟨a0, a1, a2, a4, a5, a6, a7⟩, l, _, _, _, _, _, _, _, _, rfl, ho, ⟨k0, k1, k2, k4, k5, k6, k7⟩, hk, hd, hz⟩


theorem size_plan_o {H : Type} {d d0 d1 d2 d3 d4 d5 d6 d7 : DataW H} {ts : List TypeId} {ds : List (DataW H)} {l : List Og} (h : (DataW.weightsEach Tryd.prog (24 :: ts) (d :: ds)).all (· ≤ reachBytes) = true) (hd : d = .agg [d0, d1, d2, d3, d4, d5, d6, d7]) (h2 : (d3 = .nil ∧ l = []) ∨ ∃ elems spare, d3 = .slice elems spare ∧ elems.length = l.length) :
    l.length * 24 ≤ 140737488351232 := by
  subst hd
  rcases h2 with ⟨_, rfl⟩ | ⟨el, sp, rfl, he⟩
  · simp
  · have hm : (el.length + sp.length) * Tryd.prog.bytesOf 46 ∈ DataW.weightsEach Tryd.prog (24 :: ts) (DataW.agg [d0, d1, d2, .slice el sp, d4, d5, d6, d7] :: ds) := by
      simp [DataW.weightsEach, DataW.weights, Tryd.underlying24, Tryd.underlying22]
    have hs := of_decide_eq_true (List.all_eq_true.1 h _ hm)
    rw [show Tryd.prog.bytesOf 46 = 24 by kernel_rfl] at hs
    simp only [reachBytes] at hs
    omega


theorem bytes_step : Tryd.prog.bytesOf 43 = 40 := by kernel_rfl
theorem size_steps {H : Type} {ts : List TypeId} {ds : List (DataW H)} {d : DataW H} {l : List Sp} (h : (DataW.weightsEach Tryd.prog ts ds).all (· ≤ reachBytes) = true) {j : Nat} (ht : ts[j]? = some 25) (hd : ds[j]? = some d)
    (hz : (d = .nil ∧ l = []) ∨ ∃ elems spare, d = .slice elems spare ∧ elems.length = l.length) : l.length * 40 ≤ 140737488351232 := by
  rcases hz with ⟨_, rfl⟩ | ⟨elems, spare, rfl, hl⟩
  · simp
  · have := sized_slice h ht hd Tryd.underlying25
    rw [bytes_step] at this
    simp only [reachBytes] at this
    omega
end Go.Proofs.YtkiplcmndpdifaaDoor


