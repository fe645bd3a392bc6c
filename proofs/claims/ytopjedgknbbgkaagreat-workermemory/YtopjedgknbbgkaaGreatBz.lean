/- From the walk to the row: a case by value, slices of ints among the arguments, opened. -/
import Derived.Test.YtopjedgknbbgkaaGreatRows
import Derived.Test.YtopjedgknbbgkaaGreatM06
import Derived.Test.YtopjedgknbbgkaaGreatAq
import Derived.Lib.SmallJoins
namespace Go.Proofs.YtopjedgknbbgkaaGreat

open Go.ChangeShapes Go.WideShapes Go.ChangeAt Go.RowKit



set_option maxRecDepth 20000 in
/-- A slice of steps as it was read, opened. -/
theorem core_ov {H : Type} {enc : TypeId × Value → H} {W : World} {cs : List Value} {fuel : Nat} {y : DataW H × List MemPlace} (hf : DataW.trod enc Tryz.prog W 0 (fun _ => true) true fuel 22 cs = some y) :
    ∃ (v : Value) (l : List Stp), cs = [v] ∧ Ov W v l ∧ ((y.1 = .nil ∧ l = []) ∨ ∃ elems spare, y.1 = .slice elems spare ∧ elems.length = l.length) := by
  rcases Go.Deep.open_slice Tryz.underlying22 hf with ⟨hcs, hx⟩ | ⟨a, len, cap, m, n, D, Pl, hcs, _, hl, hm, hmm, hx, hel⟩
  · subst hcs
    exact ⟨_, [], rfl, ⟨⟨none, 0, rfl, by simp, by simp [maxLen], by simp, fun i hi => by simp at hi⟩, by simp⟩, .inl ⟨by rw [hx], rfl⟩⟩
  · subst hcs
    simp only [if_true] at hmm
    have each : ∀ i, ∃ o : Stp, i < len → (W.cell? (a.add (i * 3)) = some (.int .i64 o.K) ∧ W.cell? (a.add (i * 3 + 1)) = some (.int .i64 o.N) ∧ W.cell? (a.add (i * 3 + 2)) = some (.float .f64 o.X)) ∧ o.ok := by
      intro i
      by_cases hi : i < len
      · obtain ⟨cs', h1, h2⟩ := hel i (by omega)
        rw [cells_op] at h1
        obtain ⟨_, hlen, hcell⟩ := World.cells?_some h1
        obtain ⟨o, rfl, hok⟩ := cells_of_op hlen h2
        have e0 := hcell 0 (by omega)
        have e1 := hcell 1 (by omega)
        have e2 := hcell 2 (by omega)
        rw [Go.Deep.add_add] at e0 e1 e2
        exact ⟨o, fun _ => ⟨⟨by simpa using e0, by simpa using e1, by simpa using e2⟩, hok⟩⟩
      · exact ⟨⟨0, 0, 0⟩, fun h => absurd h hi⟩
    obtain ⟨X, hX⟩ : ∃ X : Nat → Stp, ∀ i, i < len → (W.cell? (a.add (i * 3)) = some (.int .i64 (X i).K) ∧ W.cell? (a.add (i * 3 + 1)) = some (.int .i64 (X i).N) ∧ W.cell? (a.add (i * 3 + 2)) = some (.float .f64 (X i).X)) ∧ (X i).ok := ⟨fun i => (each i).choose, fun i => (each i).choose_spec⟩
    clear each hel
    refine ⟨_, (List.range len).map X, rfl, ⟨⟨some a, cap, by simp, by simpa using hl, hm, by simp, ?_⟩, ?_⟩, .inr ⟨_, _, by rw [hx], by simp⟩⟩
    · intro i hi
      simp at hi
      obtain ⟨⟨h0, _, _⟩, _⟩ := hX 0 (by omega)
      obtain ⟨⟨g0, g1, g2⟩, _⟩ := hX i hi
      obtain ⟨b, off, spot⟩ := a
      have hs1 : spot = none := by simpa [Addr.add] using World.cell?_spot h0
      subst hs1
      rw [WideShapes.add_plain] at g0 g1 g2
      exact ⟨b, off, rfl, by simpa using g0, by simpa [Nat.add_assoc] using g1, by simpa [Nat.add_assoc] using g2⟩
    · intro o ho
      simp only [List.mem_map, List.mem_range] at ho
      obtain ⟨i, hi, rfl⟩ := ho
      exact (hX i hi).2


theorem cells_plan : Tryz.prog.cellsOf 24 = 8 := by kernel_rfl
theorem cells_ops : Tryz.prog.cellsOf 22 = 1 := by kernel_rfl
theorem trod_struct8 {H : Type} {enc : TypeId × Value → H} {P : Program} {w : World} {base : Nat} {spare : Nat → Bool} {held : Bool} {t : TypeId} {f0 f1 f2 f3 f4 f5 f6 f7 : Field} {fuel : Nat} {cs : List Value} {x : DataW H × List MemPlace} (ht : P.underlying t = some (.struct #[f0, f1, f2, f3, f4, f5, f6, f7])) (h : DataW.trod enc P w base spare held fuel t cs = some x) :
    ∃ y0 y1 y2 y3 y4 y5 y6 y7 n, DataW.trod enc P w base spare held n f0.type ((cs.drop f0.offset).take (P.cellsOf f0.type)) = some y0 ∧
      DataW.trod enc P w base spare held n f1.type ((cs.drop f1.offset).take (P.cellsOf f1.type)) = some y1 ∧
      DataW.trod enc P w base spare held n f2.type ((cs.drop f2.offset).take (P.cellsOf f2.type)) = some y2 ∧
      DataW.trod enc P w base spare held n f3.type ((cs.drop f3.offset).take (P.cellsOf f3.type)) = some y3 ∧
      DataW.trod enc P w base spare held n f4.type ((cs.drop f4.offset).take (P.cellsOf f4.type)) = some y4 ∧
      DataW.trod enc P w base spare held n f5.type ((cs.drop f5.offset).take (P.cellsOf f5.type)) = some y5 ∧
      DataW.trod enc P w base spare held n f6.type ((cs.drop f6.offset).take (P.cellsOf f6.type)) = some y6 ∧
      DataW.trod enc P w base spare held n f7.type ((cs.drop f7.offset).take (P.cellsOf f7.type)) = some y7 := by
  obtain ⟨xs, n, _, _, _, hlen, hf⟩ := DataW.trod_struct ht h
  match xs, hlen with
  | [y0, y1, y2, y3, y4, y5, y6, y7], _ => exact ⟨y0, y1, y2, y3, y4, y5, y6, y7, n, by simpa using hf 0 f0 rfl, by simpa using hf 1 f1 rfl, by simpa using hf 2 f2 rfl, by simpa using hf 3 f3 rfl, by simpa using hf 4 f4 rfl, by simpa using hf 5 f5 rfl, by simpa using hf 6 f6 rfl, by simpa using hf 7 f7 rfl⟩


theorem cells_ints : Tryz.prog.cellsOf 26 = 1 := by kernel_rfl
theorem cells_recs : Tryz.prog.cellsOf 25 = 1 := by kernel_rfl
theorem cells_case : Tryz.prog.cellsOf 28 = 11 := by kernel_rfl


/-- What is known of a slice's size. -/
def Szd {H : Type} {α : Type} (d : DataW H) (l : List α) : Prop := (d = .nil ∧ l = []) ∨ ∃ elems spare, d = .slice elems spare ∧ elems.length = l.length


set_option maxRecDepth 20000 in
theorem core_nv {H : Type} {enc : TypeId × Value → H} {W : World} {cs : List Value} {fuel : Nat} {y : DataW H × List MemPlace} (hf : DataW.trod enc Tryz.prog W 0 (fun _ => true) true fuel 26 cs = some y) :
    ∃ (v : Value) (l : List Int), cs = [v] ∧ Nv W v l ∧ Szd y.1 l := by
  rcases Go.Deep.open_slice Tryz.underlying26 hf with ⟨hcs, hx⟩ | ⟨a, len, cap, m, n, D, Pl, hcs, _, hl, hm, hmm, hx, hel⟩
  · subst hcs
    exact ⟨_, [], rfl, Nv.nil W, .inl ⟨by rw [hx], rfl⟩⟩
  · subst hcs
    simp only [if_true] at hmm
    have each : ∀ i, ∃ x : Int, i < len → W.cell? (a.add i) = some (.int .i64 x) ∧ (-9223372036854775808 ≤ x ∧ x < 9223372036854775808) := by
      intro i
      by_cases hi : i < len
      · obtain ⟨cs', h1, h2⟩ := hel i (by omega)
        rw [cells_int] at h1
        obtain ⟨_, hlen, hcell⟩ := World.cells?_some h1
        match cs', hlen with
        | [c], _ =>
          obtain ⟨x, rfl, hx⟩ := cell_i64 Tryz.underlying3 h2
          have e0 := hcell 0 (by omega)
          rw [Go.Deep.add_add] at e0
          exact ⟨x, fun _ => ⟨by simpa using e0, hx⟩⟩
      · exact ⟨0, fun h => absurd h hi⟩
    obtain ⟨X, hX⟩ : ∃ X : Nat → Int, ∀ i, i < len → W.cell? (a.add i) = some (.int .i64 (X i)) ∧ (-9223372036854775808 ≤ X i ∧ X i < 9223372036854775808) := ⟨fun i => (each i).choose, fun i => (each i).choose_spec⟩
    clear each hel
    refine ⟨_, (List.range len).map X, rfl, ⟨⟨some a, cap, by simp, by simpa using hl, hm, by simp, ?_⟩, ?_⟩, .inr ⟨_, _, by rw [hx], by simp⟩⟩
    · intro i hi
      have hil : i < len := by simpa using hi
      obtain ⟨h0, _⟩ := hX 0 (by omega)
      obtain ⟨g0, _⟩ := hX i hil
      obtain ⟨b, off, spot⟩ := a
      have hs1 : spot = none := by simpa [Addr.add] using World.cell?_spot h0
      subst hs1
      rw [WideShapes.add_plain] at g0
      exact ⟨b, off, rfl, by rw [nth_at hi]; simpa using g0⟩
    · intro x hx
      simp only [List.mem_map, List.mem_range] at hx
      obtain ⟨i, hi, rfl⟩ := hx
      exact (hX i hi).2


set_option maxRecDepth 20000 in
/-- A slice of ints among the arguments, opened. -/
theorem open_nv {H : Type} {enc : TypeId × Value → H} {W : World} {v : Value} {d : DataW H} {p : List MemPlace} {base : Nat}
    (hv : Value.okWide Tryz.prog W .any base 26 v) (h : DataW.Trod enc Tryz.prog W 0 (fun _ => true) true 26 v d p) :
    ∃ l : List Int, Nv W v l ∧ Szd d l := by
  obtain ⟨ao, len0, cap0, rfl⟩ := okWide_slice Tryz.underlying26 hv
  obtain ⟨fuel, hf⟩ := h
  obtain ⟨v, l, e, h1, h2⟩ := core_nv hf
  simp [Value.cells] at e
  subst e
  exact ⟨l, h1, h2⟩


set_option maxRecDepth 20000 in
theorem core_rv {H : Type} {enc : TypeId × Value → H} {W : World} {cs : List Value} {fuel : Nat} {y : DataW H × List MemPlace} (hf : DataW.trod enc Tryz.prog W 0 (fun _ => true) true fuel 25 cs = some y) :
    ∃ (v : Value) (l : List Rcd), cs = [v] ∧ Rv W v l := by
  rcases Go.Deep.open_slice Tryz.underlying25 hf with ⟨hcs, hx⟩ | ⟨a, len, cap, m, n, D, Pl, hcs, _, hl, hm, hmm, hx, hel⟩
  · subst hcs
    exact ⟨_, [], rfl, ⟨⟨none, 0, rfl, by simp, by simp [maxLen], by simp, fun i hi => by simp at hi⟩, by simp⟩⟩
  · subst hcs
    simp only [if_true] at hmm
    have each : ∀ i, ∃ o : Rcd, i < len → (W.cell? (a.add (i * 2)) = some (.int .u64 o.k) ∧ W.cell? (a.add (i * 2 + 1)) = some (.float .f64 o.x)) ∧ o.ok := by
      intro i
      by_cases hi : i < len
      · obtain ⟨cs', h1, h2⟩ := hel i (by omega)
        rw [cells_rec] at h1
        obtain ⟨_, hlen, hcell⟩ := World.cells?_some h1
        obtain ⟨o, rfl, hok⟩ := cells_of_rec hlen h2
        have e0 := hcell 0 (by omega)
        have e1 := hcell 1 (by omega)
        rw [Go.Deep.add_add] at e0 e1
        exact ⟨o, fun _ => ⟨⟨by simpa using e0, by simpa using e1⟩, hok⟩⟩
      · exact ⟨⟨0, 0⟩, fun h => absurd h hi⟩
    obtain ⟨X, hX⟩ : ∃ X : Nat → Rcd, ∀ i, i < len → (W.cell? (a.add (i * 2)) = some (.int .u64 (X i).k) ∧ W.cell? (a.add (i * 2 + 1)) = some (.float .f64 (X i).x)) ∧ (X i).ok := ⟨fun i => (each i).choose, fun i => (each i).choose_spec⟩
    clear each hel
    refine ⟨_, (List.range len).map X, rfl, ⟨⟨some a, cap, by simp, by simpa using hl, hm, by simp, ?_⟩, ?_⟩⟩
    · intro i hi
      simp at hi
      obtain ⟨⟨h0, _⟩, _⟩ := hX 0 (by omega)
      obtain ⟨⟨g0, g1⟩, _⟩ := hX i hi
      obtain ⟨b, off, spot⟩ := a
      have hs1 : spot = none := by simpa [Addr.add] using World.cell?_spot h0
      subst hs1
      rw [WideShapes.add_plain] at g0 g1
      exact ⟨b, off, rfl, by simpa using g0, by simpa [Nat.add_assoc] using g1⟩
    · intro o ho
      simp only [List.mem_map, List.mem_range] at ho
      obtain ⟨i, hi, rfl⟩ := ho
      exact (hX i hi).2




set_option maxRecDepth 20000 in
/-- A case by value, opened. -/
theorem open_case {H : Type} {enc : TypeId × Value → H} {W : World} {v : Value} {d : DataW H} {q : List MemPlace} {base : Nat}
    (hv : Value.okWide Tryz.prog W .any base 28 v) (h : DataW.Trod enc Tryz.prog W 0 (fun _ => true) true 28 v d q) :
    ∃ (p : Pn) (oa ra fa : Option Addr) (oc rc fc : Nat) (recs : List Rcd) (off : Int) (fr : List Int), v = .agg #[.int .i64 p.P, .int .i64 p.S, .int .i64 p.W, .slice oa p.l.length oc, .int .i64 p.A, .int .i64 p.B, .int .i64 p.N, .int .i64 p.G, .slice ra recs.length rc, .int .i64 off, .slice fa fr.length fc] ∧ Ov W (.slice oa p.l.length oc) p.l ∧ Rv W (.slice ra recs.length rc) recs ∧ Nv W (.slice fa fr.length fc) fr := by
  obtain ⟨cs, rfl, hsz⟩ := okWide_struct Tryz.underlying28 hv
  obtain ⟨fuel, hf⟩ := h
  obtain ⟨y0, y1, y2, y3, m, hx, _, h0, h1, h2, h3⟩ := Go.Joins.trod_struct4 Tryz.underlying28 hf
  have hl11 : cs.toList.length = 11 := by simpa [Value.cells, cells_case] using hsz
  obtain ⟨l⟩ := cs
  match l, hl11 with
  | [c0, c1, c2, c3, c4, c5, c6, c7, c8, c9, c10], _ =>
    simp only [Value.cells, cells_plan, cells_recs, cells_int, cells_ints, List.drop_zero, List.drop_succ_cons, List.take_succ_cons, List.take_zero] at h0 h1 h2 h3
    obtain ⟨z0, z1, z2, z3, z4, z5, z6, z7, n, k0, k1, k2, k3, k4, k5, k6, k7⟩ := trod_struct8 Tryz.underlying24 h0
    simp only [cells_int, cells_ops, List.drop_zero, List.drop_succ_cons, List.take_succ_cons, List.take_zero] at k0 k1 k2 k3 k4 k5 k6 k7
    obtain ⟨a0, rfl, _⟩ := cell_i64 Tryz.underlying3 k0
    obtain ⟨a1, rfl, _⟩ := cell_i64 Tryz.underlying3 k1
    obtain ⟨a2, rfl, _⟩ := cell_i64 Tryz.underlying3 k2
    obtain ⟨ov, l, e3, ho, _⟩ := core_ov k3
    obtain ⟨a4, rfl, _⟩ := cell_i64 Tryz.underlying3 k4
    obtain ⟨a5, rfl, _⟩ := cell_i64 Tryz.underlying3 k5
    obtain ⟨a6, rfl, _⟩ := cell_i64 Tryz.underlying3 k6
    obtain ⟨a7, rfl, _⟩ := cell_i64 Tryz.underlying3 k7
    obtain ⟨rv, recs, e8, hr⟩ := core_rv h1
    obtain ⟨off, rfl, _⟩ := cell_i64 Tryz.underlying3 h2
    obtain ⟨fv, fr, e10, hn, _⟩ := core_nv h3
    simp only [List.cons.injEq, and_true] at e3 e8 e10
    subst e3 e8 e10
    obtain ⟨⟨oa, oc, eo, _⟩, _⟩ := id ho
    obtain ⟨⟨ra, rc, er, _⟩, _⟩ := id hr
    obtain ⟨⟨fa, fc, ef, _⟩, _⟩ := id hn
    subst eo er ef
    exact ⟨⟨a0, a1, a2, a4, a5, a6, a7, l⟩, oa, ra, fa, oc, rc, fc, recs, off, fr, rfl, ho, hr, hn⟩
end Go.Proofs.YtopjedgknbbgkaaGreat
