/- From the walk to the row: slices of ints and of slices of ints, fillings and triples among the arguments, opened; what is known of their sizes. -/
import Derived.Test.YtjkhegekojflhabNi
import Derived.Test.YtjkhegekojflhabXz
import Derived.Deep.Strs
import Derived.SizedLaws
namespace Go.Proofs.Ytjkhegekojflhab
open Go.ChangeShapes Go.WideShapes Go.ChangeAt Go.RowKit

theorem cells_ints : Try.prog.cellsOf 23 = 1 := by kernel_rfl
theorem cells_recs : Try.prog.cellsOf 22 = 1 := by kernel_rfl
theorem cells_full : Try.prog.cellsOf 25 = 4 := by kernel_rfl

/-- What is known of a slice's size. -/
def Szd {H : Type} {α : Type} (d : DataW H) (l : List α) : Prop := (d = .nil ∧ l = []) ∨ ∃ elems spare, d = .slice elems spare ∧ elems.length = l.length

set_option maxRecDepth 20000 in
theorem core_nv {H : Type} {enc : TypeId × Value → H} {W : World} {cs : List Value} {fuel : Nat} {y : DataW H × List MemPlace} (hf : DataW.trod enc Try.prog W 0 (fun _ => true) true fuel 23 cs = some y) :
    ∃ (v : Value) (l : List Int), cs = [v] ∧ Nv W v l ∧ Szd y.1 l := by
  rcases Go.Deep.open_slice Try.underlying23 hf with ⟨hcs, hx⟩ | ⟨a, len, cap, m, n, D, Pl, hcs, _, hl, hm, hmm, hx, hel⟩
  · subst hcs
    exact ⟨_, [], rfl, Nv.nil W, .inl ⟨by rw [hx], rfl⟩⟩
  · subst hcs
    simp only [if_true] at hmm
    have each : ∀ i, ∃ x : Int, i < len → W.cell? (a.add i) = some (.int .i64 x) ∧ (-9223372036854775808 ≤ x ∧ x < 9223372036854775808) := by
      intro i
      by_cases hi : i < len
      · obtain ⟨cs', h1, h2⟩ := hel i (by omega)
        rw [cells_int] at h1
        obtain ⟨_, hlen, hcell⟩ := World.cells?_some h1
        match cs', hlen with
        | [c], _ =>
          obtain ⟨x, rfl, hx⟩ := cell_i64 Try.underlying3 h2
          have e0 := hcell 0 (by omega)
          rw [Go.Deep.add_add] at e0
          exact ⟨x, fun _ => ⟨by simpa using e0, hx⟩⟩
      · exact ⟨0, fun h => absurd h hi⟩
    obtain ⟨X, hX⟩ : ∃ X : Nat → Int, ∀ i, i < len → W.cell? (a.add i) = some (.int .i64 (X i)) ∧ (-9223372036854775808 ≤ X i ∧ X i < 9223372036854775808) := ⟨fun i => (each i).choose, fun i => (each i).choose_spec⟩
    clear each hel
    refine ⟨_, (List.range len).map X, rfl, ⟨⟨some a, cap, by simp, by simpa using hl, hm, by simp, ?_⟩, ?_⟩, .inr ⟨_, _, by rw [hx], by simp⟩⟩
    · intro i hi
      have hil : i < len := by simpa using hi
      obtain ⟨h0, _⟩ := hX 0 (by omega)
      obtain ⟨g0, _⟩ := hX i hil
      obtain ⟨b, off, spot⟩ := a
      have hs1 : spot = none := by simpa [Addr.add] using World.cell?_spot h0
      subst hs1
      rw [WideShapes.add_plain] at g0
      exact ⟨b, off, rfl, by rw [nth_at hi]; simpa using g0⟩
    · intro x hx
      simp only [List.mem_map, List.mem_range] at hx
      obtain ⟨i, hi, rfl⟩ := hx
      exact (hX i hi).2

set_option maxRecDepth 20000 in
/-- A slice of ints among the arguments, opened. -/
theorem open_nv {H : Type} {enc : TypeId × Value → H} {W : World} {v : Value} {d : DataW H} {p : List MemPlace} {base : Nat}
    (hv : Value.okWide Try.prog W .any base 23 v) (h : DataW.Trod enc Try.prog W 0 (fun _ => true) true 23 v d p) :
    ∃ l : List Int, Nv W v l ∧ Szd d l := by
  obtain ⟨ao, len0, cap0, rfl⟩ := okWide_slice Try.underlying23 hv
  obtain ⟨fuel, hf⟩ := h
  obtain ⟨v, l, e, h1, h2⟩ := core_nv hf
  simp [Value.cells] at e
  subst e
  exact ⟨l, h1, h2⟩

set_option maxRecDepth 20000 in
theorem core_rv {H : Type} {enc : TypeId × Value → H} {W : World} {cs : List Value} {fuel : Nat} {y : DataW H × List MemPlace} (hf : DataW.trod enc Try.prog W 0 (fun _ => true) true fuel 22 cs = some y) :
    ∃ (v : Value) (l : List Rcd), cs = [v] ∧ Rv W v l := by
  rcases Go.Deep.open_slice Try.underlying22 hf with ⟨hcs, hx⟩ | ⟨a, len, cap, m, n, D, Pl, hcs, _, hl, hm, hmm, hx, hel⟩
  · subst hcs
    exact ⟨_, [], rfl, ⟨⟨none, 0, rfl, by simp, by simp [maxLen], by simp, fun i hi => by simp at hi⟩, by simp⟩⟩
  · subst hcs
    simp only [if_true] at hmm
    have each : ∀ i, ∃ o : Rcd, i < len → (W.cell? (a.add (i * 2)) = some (.int .u64 o.k) ∧ W.cell? (a.add (i * 2 + 1)) = some (.float .f64 o.x)) ∧ o.ok := by
      intro i
      by_cases hi : i < len
      · obtain ⟨cs', h1, h2⟩ := hel i (by omega)
        rw [cells_rec] at h1
        obtain ⟨_, hlen, hcell⟩ := World.cells?_some h1
        obtain ⟨o, rfl, hok⟩ := cells_of_rec hlen h2
        have e0 := hcell 0 (by omega)
        have e1 := hcell 1 (by omega)
        rw [Go.Deep.add_add] at e0 e1
        exact ⟨o, fun _ => ⟨⟨by simpa using e0, by simpa using e1⟩, hok⟩⟩
      · exact ⟨⟨0, 0⟩, fun h => absurd h hi⟩
    obtain ⟨X, hX⟩ : ∃ X : Nat → Rcd, ∀ i, i < len → (W.cell? (a.add (i * 2)) = some (.int .u64 (X i).k) ∧ W.cell? (a.add (i * 2 + 1)) = some (.float .f64 (X i).x)) ∧ (X i).ok := ⟨fun i => (each i).choose, fun i => (each i).choose_spec⟩
    clear each hel
    refine ⟨_, (List.range len).map X, rfl, ⟨⟨some a, cap, by simp, by simpa using hl, hm, by simp, ?_⟩, ?_⟩⟩
    · intro i hi
      simp at hi
      obtain ⟨⟨h0, _⟩, _⟩ := hX 0 (by omega)
      obtain ⟨⟨g0, g1⟩, _⟩ := hX i hi
      obtain ⟨b, off, spot⟩ := a
      have hs1 : spot = none := by simpa [Addr.add] using World.cell?_spot h0
      subst hs1
      rw [WideShapes.add_plain] at g0 g1
      exact ⟨b, off, rfl, by simpa using g0, by simpa [Nat.add_assoc] using g1⟩
    · intro o ho
      simp only [List.mem_map, List.mem_range] at ho
      obtain ⟨i, hi, rfl⟩ := ho
      exact (hX i hi).2

set_option maxRecDepth 20000 in
/-- A filling by value among the arguments, opened. -/
theorem open_full {H : Type} {enc : TypeId × Value → H} {W : World} {v : Value} {d : DataW H} {p : List MemPlace} {base : Nat}
    (hv : Value.okWide Try.prog W .any base 25 v) (h : DataW.Trod enc Try.prog W 0 (fun _ => true) true 25 v d p) :
    ∃ (rv av ov : Value) (F : Fl), v = .agg #[.int .i64 F.n, rv, av, ov] ∧ Rv W rv F.recs ∧ Nv W av F.places ∧ Nv W ov F.off ∧ (-9223372036854775808 ≤ F.n ∧ F.n < 9223372036854775808) := by
  obtain ⟨cs, rfl, hsz⟩ := okWide_struct Try.underlying25 hv
  obtain ⟨fuel, hf⟩ := h
  obtain ⟨y0, y1, y2, y3, m, hx, _, h0, h1, h2, h3⟩ := Go.Joins.trod_struct4 Try.underlying25 hf
  have h4 : cs.size = 4 := by simpa [Value.cells, cells_full] using hsz
  obtain ⟨c0, c1, c2, c3, rfl⟩ := Go.Joins.array4 h4
  simp only [Value.cells, cells_recs, cells_int, cells_ints, List.drop_zero, List.drop_succ_cons, List.take_succ_cons, List.take_zero] at h0 h1 h2 h3
  obtain ⟨k, rfl, hk⟩ := cell_i64 Try.underlying3 h0
  obtain ⟨rv, recs, e1, hr⟩ := core_rv h1
  obtain ⟨av, a, e2, ha, _⟩ := core_nv h2
  obtain ⟨ov, o, e3, ho, _⟩ := core_nv h3
  simp only [List.cons.injEq, and_true] at e1 e2 e3
  subst e1
  subst e2
  subst e3
  exact ⟨c1, c2, c3, ⟨k, recs, a, o⟩, rfl, hr, ha, ho, hk⟩

theorem cells_triple : Try.prog.cellsOf 42 = 3 := by kernel_rfl

theorem array3 {α : Type} {a : Array α} (h : a.size = 3) : ∃ x y z, a = #[x, y, z] := by
  obtain ⟨l⟩ := a
  match l, h with
  | [x, y, z], _ => exact ⟨x, y, z, rfl⟩

set_option maxRecDepth 20000 in
/-- A triple by value among the arguments, opened. -/
theorem open_triple {H : Type} {enc : TypeId × Value → H} {W : World} {v : Value} {d : DataW H} {p : List MemPlace} {base : Nat}
    (hv : Value.okWide Try.prog W .any base 42 v) (h : DataW.Trod enc Try.prog W 0 (fun _ => true) true 42 v d p) :
    ∃ (pv cv : Value) (t : Tp), v = .agg #[.int .i64 t.b, pv, cv] ∧ Nv W pv t.p ∧ Nv W cv t.c ∧ (-9223372036854775808 ≤ t.b ∧ t.b < 9223372036854775808) ∧ ∃ d0 d1 d2, d = .agg [d0, d1, d2] ∧ Szd d1 t.p ∧ Szd d2 t.c := by
  obtain ⟨cs, rfl, hsz⟩ := okWide_struct Try.underlying42 hv
  obtain ⟨fuel, hf⟩ := h
  obtain ⟨y0, y1, y2, m, hx, _, h0, h1, h2⟩ := Go.Deep.trod_struct3 Try.underlying42 hf
  have h3 : cs.size = 3 := by simpa [Value.cells, cells_triple] using hsz
  obtain ⟨c0, c1, c2, rfl⟩ := array3 h3
  simp only [Value.cells, cells_int, cells_ints, List.drop_zero, List.drop_succ_cons, List.take_succ_cons, List.take_zero] at h0 h1 h2
  obtain ⟨k, rfl, hk⟩ := cell_i64 Try.underlying3 h0
  obtain ⟨av, a, e1, ha, za⟩ := core_nv h1
  obtain ⟨ov, o, e2, ho, zo⟩ := core_nv h2
  simp only [List.cons.injEq, and_true] at e1 e2
  subst e1
  subst e2
  simp only [Prod.mk.injEq] at hx
  exact ⟨c1, c2, ⟨k, a, o⟩, rfl, ha, ho, hk, y0.1, y1.1, y2.1, hx.1, za, zo⟩

theorem bytes_int : Try.prog.bytesOf 3 = 8 := by kernel_rfl
/-- How long a slice of ints is at most. -/
theorem szd_len {H : Type} {d : DataW H} {l : List Int} (hz : Szd d l) (h : ∀ elems spare, d = .slice elems spare → (elems.length + spare.length) * Try.prog.bytesOf 3 ≤ reachBytes) : l.length * 8 ≤ 140737488351232 := by
  rcases hz with ⟨_, rfl⟩ | ⟨el, sp, hd, he⟩
  · simp
  · have := h el sp hd
    rw [bytes_int] at this
    simp only [reachBytes] at this
    omega
set_option maxRecDepth 20000 in
theorem szd_triple {H : Type} {d d0 d1 d2 : DataW H} {ts : List TypeId} {ds : List (DataW H)} {t : Tp} (h : (DataW.weightsEach Try.prog (42 :: ts) (d :: ds)).all (· ≤ reachBytes) = true) (hd : d = .agg [d0, d1, d2]) (h1 : Szd d1 t.p) (h2 : Szd d2 t.c) :
    t.p.length * 8 ≤ 140737488351232 ∧ t.c.length * 8 ≤ 140737488351232 := by
  subst hd
  constructor
  · refine szd_len h1 fun el sp e => ?_
    subst e
    have hm : (el.length + sp.length) * Try.prog.bytesOf 3 ∈ DataW.weightsEach Try.prog (42 :: ts) (DataW.agg [d0, .slice el sp, d2] :: ds) := by
      simp [DataW.weightsEach, DataW.weights, Try.underlying42, Try.underlying23]
    exact of_decide_eq_true (List.all_eq_true.1 h _ hm)
  · refine szd_len h2 fun el sp e => ?_
    subst e
    have hm : (el.length + sp.length) * Try.prog.bytesOf 3 ∈ DataW.weightsEach Try.prog (42 :: ts) (DataW.agg [d0, d1, .slice el sp] :: ds) := by
      simp [DataW.weightsEach, DataW.weights, Try.underlying42, Try.underlying23]
    exact of_decide_eq_true (List.all_eq_true.1 h _ hm)
end Go.Proofs.Ytjkhegekojflhab
