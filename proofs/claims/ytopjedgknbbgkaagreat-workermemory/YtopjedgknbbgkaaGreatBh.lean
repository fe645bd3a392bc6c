/- WorkerMemory: what a case's pipeline weighs. -/
import Derived.Test.YtopjedgknbbgkaaGreatBz
import Derived.SizedLaws
namespace Go.Proofs.YtopjedgknbbgkaaGreat

open Go.ChangeShapes Go.WideShapes Go.ChangeAt Go.RowKit



theorem trod_struct8d {H : Type} {enc : TypeId × Value → H} {P : Program} {w : World} {base : Nat} {spare : Nat → Bool} {held : Bool} {t : TypeId} {f0 f1 f2 f3 f4 f5 f6 f7 : Field} {fuel : Nat} {cs : List Value} {x : DataW H × List MemPlace} (ht : P.underlying t = some (.struct #[f0, f1, f2, f3, f4, f5, f6, f7])) (h : DataW.trod enc P w base spare held fuel t cs = some x) :
    ∃ y0 y1 y2 y3 y4 y5 y6 y7 n, x.1 = .agg [y0.1, y1.1, y2.1, y3.1, y4.1, y5.1, y6.1, y7.1] ∧ DataW.trod enc P w base spare held n f0.type ((cs.drop f0.offset).take (P.cellsOf f0.type)) = some y0 ∧
      DataW.trod enc P w base spare held n f1.type ((cs.drop f1.offset).take (P.cellsOf f1.type)) = some y1 ∧
      DataW.trod enc P w base spare held n f2.type ((cs.drop f2.offset).take (P.cellsOf f2.type)) = some y2 ∧
      DataW.trod enc P w base spare held n f3.type ((cs.drop f3.offset).take (P.cellsOf f3.type)) = some y3 ∧
      DataW.trod enc P w base spare held n f4.type ((cs.drop f4.offset).take (P.cellsOf f4.type)) = some y4 ∧
      DataW.trod enc P w base spare held n f5.type ((cs.drop f5.offset).take (P.cellsOf f5.type)) = some y5 ∧
      DataW.trod enc P w base spare held n f6.type ((cs.drop f6.offset).take (P.cellsOf f6.type)) = some y6 ∧
      DataW.trod enc P w base spare held n f7.type ((cs.drop f7.offset).take (P.cellsOf f7.type)) = some y7 := by
  obtain ⟨xs, n, _, hx, _, hlen, hf⟩ := DataW.trod_struct ht h
  match xs, hlen with
  | [y0, y1, y2, y3, y4, y5, y6, y7], _ => exact ⟨y0, y1, y2, y3, y4, y5, y6, y7, n, by rw [hx]; rfl, by simpa using hf 0 f0 rfl, by simpa using hf 1 f1 rfl, by simpa using hf 2 f2 rfl, by simpa using hf 3 f3 rfl, by simpa using hf 4 f4 rfl, by simpa using hf 5 f5 rfl, by simpa using hf 6 f6 rfl, by simpa using hf 7 f7 rfl⟩


set_option maxRecDepth 20000 in
theorem open_case_sized {H : Type} {enc : TypeId × Value → H} {W : World} {v : Value} {d : DataW H} {q : List MemPlace} {base : Nat}
    (hv : Value.okWide Tryz.prog W .any base 28 v) (h : DataW.Trod enc Tryz.prog W 0 (fun _ => true) true 28 v d q) :
    ∃ (e0 e1 e2 e3 e4 e5 e6 e7 d1 d2 d3 : DataW H) (p : Pn) (oa ra fa : Option Addr) (oc rc fc : Nat) (recs : List Rcd) (off : Int) (fr : List Int), v = .agg #[.int .i64 p.P, .int .i64 p.S, .int .i64 p.W, .slice oa p.l.length oc, .int .i64 p.A, .int .i64 p.B, .int .i64 p.N, .int .i64 p.G, .slice ra recs.length rc, .int .i64 off, .slice fa fr.length fc] ∧ Ov W (.slice oa p.l.length oc) p.l ∧ Rv W (.slice ra recs.length rc) recs ∧ Nv W (.slice fa fr.length fc) fr ∧ d = .agg [.agg [e0, e1, e2, e3, e4, e5, e6, e7], d1, d2, d3] ∧ ((e3 = .nil ∧ p.l = []) ∨ ∃ elems spare, e3 = .slice elems spare ∧ elems.length = p.l.length) := by
  obtain ⟨cs, rfl, hsz⟩ := okWide_struct Tryz.underlying28 hv
  obtain ⟨fuel, hf⟩ := h
  obtain ⟨y0, y1, y2, y3, m, hx, _, h0, h1, h2, h3⟩ := Go.Joins.trod_struct4 Tryz.underlying28 hf
  have hl11 : cs.toList.length = 11 := by simpa [Value.cells, cells_case] using hsz
  obtain ⟨l⟩ := cs
  match l, hl11 with
  | [c0, c1, c2, c3, c4, c5, c6, c7, c8, c9, c10], _ =>
    simp only [Value.cells, cells_plan, cells_recs, cells_int, cells_ints, List.drop_zero, List.drop_succ_cons, List.take_succ_cons, List.take_zero] at h0 h1 h2 h3
    obtain ⟨z0, z1, z2, z3, z4, z5, z6, z7, n, hz, k0, k1, k2, k3, k4, k5, k6, k7⟩ := trod_struct8d Tryz.underlying24 h0
    simp only [cells_int, cells_ops, List.drop_zero, List.drop_succ_cons, List.take_succ_cons, List.take_zero] at k0 k1 k2 k3 k4 k5 k6 k7
    obtain ⟨a0, rfl, _⟩ := cell_i64 Tryz.underlying3 k0
    obtain ⟨a1, rfl, _⟩ := cell_i64 Tryz.underlying3 k1
    obtain ⟨a2, rfl, _⟩ := cell_i64 Tryz.underlying3 k2
    obtain ⟨z3, q3⟩ := z3
    obtain ⟨ov, l, e3, ho, hzz⟩ := core_ov k3
    obtain ⟨a4, rfl, _⟩ := cell_i64 Tryz.underlying3 k4
    obtain ⟨a5, rfl, _⟩ := cell_i64 Tryz.underlying3 k5
    obtain ⟨a6, rfl, _⟩ := cell_i64 Tryz.underlying3 k6
    obtain ⟨a7, rfl, _⟩ := cell_i64 Tryz.underlying3 k7
    obtain ⟨rv, recs, e8, hr⟩ := core_rv h1
    obtain ⟨off, rfl, _⟩ := cell_i64 Tryz.underlying3 h2
    obtain ⟨fv, fr, e10, hn, _⟩ := core_nv h3
    simp only [List.cons.injEq, and_true] at e3 e8 e10
    subst e3 e8 e10
    obtain ⟨⟨oa, oc, eo, _⟩, _⟩ := id ho
    obtain ⟨⟨ra, rc, er, _⟩, _⟩ := id hr
    obtain ⟨⟨fa, fc, ef, _⟩, _⟩ := id hn
    subst eo er ef
    exact ⟨_, _, _, _, _, _, _, _, _, _, _, ⟨a0, a1, a2, a4, a5, a6, a7, l⟩, oa, ra, fa, oc, rc, fc, recs, off, fr, rfl, ho, hr, hn, by rw [(Prod.mk.inj hx).1, hz], hzz⟩


theorem size_case_o {H : Type} {d e0 e1 e2 e3 e4 e5 e6 e7 d1 d2 d3 : DataW H} {ts : List TypeId} {ds : List (DataW H)} {l : List Stp} (h : (DataW.weightsEach Tryz.prog (28 :: ts) (d :: ds)).all (· ≤ reachBytes) = true) (hd : d = .agg [.agg [e0, e1, e2, e3, e4, e5, e6, e7], d1, d2, d3]) (h2 : (e3 = .nil ∧ l = []) ∨ ∃ elems spare, e3 = .slice elems spare ∧ elems.length = l.length) :
    l.length * 24 ≤ 140737488355328 := by
  subst hd
  rcases h2 with ⟨_, rfl⟩ | ⟨el, sp, rfl, he⟩
  · simp
  · have hm : (el.length + sp.length) * Tryz.prog.bytesOf 72 ∈ DataW.weightsEach Tryz.prog (28 :: ts) (DataW.agg [.agg [e0, e1, e2, .slice el sp, e4, e5, e6, e7], d1, d2, d3] :: ds) := by
      simp [DataW.weightsEach, DataW.weights, Tryz.underlying28, Tryz.underlying24, Tryz.underlying22]
    have hs := of_decide_eq_true (List.all_eq_true.1 h _ hm)
    rw [show Tryz.prog.bytesOf 72 = 24 by kernel_rfl] at hs
    simp only [reachBytes] at hs
    omega
end Go.Proofs.YtopjedgknbbgkaaGreat
