/- From the walk to the row: slices of pairs, jobs by value among the arguments, opened; what is known of their sizes. -/
import Derived.Test.YtfcpooihihklaabXz
import Derived.Test.YtfcpooihihklaabKm
import Derived.SizedLaws
namespace Go.Proofs.Ytfcpooihihklaab
open Go.ChangeShapes Go.WideShapes Go.ChangeAt Go.RowKit

theorem cells_pair : Try.prog.cellsOf 40 = 3 := by kernel_rfl
theorem cells_bool : Try.prog.cellsOf 4 = 1 := by kernel_rfl

section
variable {H : Type} {enc : TypeId × Value → H} {W : World} {sp : Nat → Bool} {held : Bool} {base : Nat}
theorem cell_bool {n : Nat} {v : Value} {x : DataW H × List MemPlace} (h : DataW.trod enc Try.prog W base sp held n 4 [v] = some x) : ∃ b : Bool, v = .bool b := by
  cases n with
  | zero => simp [DataW.trod] at h
  | succ n =>
    simp only [DataW.trod, Try.underlying4] at h
    cases v <;> simp at h
    exact ⟨_, rfl⟩

set_option maxRecDepth 20000 in
theorem cells_of_value {n : Nat} {cs : List Value} {x : DataW H × List MemPlace} (hl : cs.length = 2) (h : DataW.trod enc Try.prog W base sp held n 33 cs = some x) :
    ∃ v : Vl, cs = [.bool v.h, .int .u64 v.b] ∧ v.ok := by
  obtain ⟨y0, y1, m, _, _, h0, h1⟩ := trod_struct2 Try.underlying33 h
  match cs, hl with
  | [a, b], _ =>
    simp only [cells_bool, cells_u64, List.drop_zero, List.drop_succ_cons, List.take_succ_cons, List.take_zero] at h0 h1
    obtain ⟨g, rfl⟩ := cell_bool h0
    obtain ⟨u, rfl, hu⟩ := cell_u64 h1
    exact ⟨⟨g, u⟩, rfl, hu⟩

set_option maxRecDepth 20000 in
theorem cells_of_pair {n : Nat} {cs : List Value} {x : DataW H × List MemPlace} (hl : cs.length = 3) (h : DataW.trod enc Try.prog W base sp held n 40 cs = some x) :
    ∃ p : Pr, cs = [.int .u64 p.k, .bool p.v.h, .int .u64 p.v.b] ∧ p.ok := by
  obtain ⟨y0, y1, m, _, _, h0, h1⟩ := trod_struct2 Try.underlying40 h
  match cs, hl with
  | [a, b, c], _ =>
    simp only [cells_u64, cells_value, List.drop_zero, List.drop_succ_cons, List.take_succ_cons, List.take_zero] at h0 h1
    obtain ⟨k, rfl, hk⟩ := cell_u64 h0
    obtain ⟨v, hv, ho⟩ := cells_of_value rfl h1
    simp only [List.cons.injEq, and_true] at hv
    obtain ⟨rfl, rfl⟩ := hv
    exact ⟨⟨k, v⟩, rfl, hk, ho⟩
end

set_option maxRecDepth 20000 in
/-- A slice of steps as it was read, opened. -/
theorem core_ov {H : Type} {enc : TypeId × Value → H} {W : World} {cs : List Value} {fuel : Nat} {y : DataW H × List MemPlace} (hf : DataW.trod enc Try.prog W 0 (fun _ => true) true fuel 22 cs = some y) :
    ∃ (v : Value) (l : List Stp), cs = [v] ∧ Ov W v l ∧ ((y.1 = .nil ∧ l = []) ∨ ∃ elems spare, y.1 = .slice elems spare ∧ elems.length = l.length) := by
  rcases Go.Deep.open_slice Try.underlying22 hf with ⟨hcs, hx⟩ | ⟨a, len, cap, m, n, D, Pl, hcs, _, hl, hm, hmm, hx, hel⟩
  · subst hcs
    exact ⟨_, [], rfl, ⟨⟨none, 0, rfl, by simp, by simp [maxLen], by simp, fun i hi => by simp at hi⟩, by simp⟩, .inl ⟨by rw [hx], rfl⟩⟩
  · subst hcs
    simp only [if_true] at hmm
    have each : ∀ i, ∃ o : Stp, i < len → (W.cell? (a.add (i * 3)) = some (.int .i64 o.K) ∧ W.cell? (a.add (i * 3 + 1)) = some (.int .i64 o.N) ∧ W.cell? (a.add (i * 3 + 2)) = some (.float .f64 o.X)) ∧ o.ok := by
      intro i
      by_cases hi : i < len
      · obtain ⟨cs', h1, h2⟩ := hel i (by omega)
        rw [cells_op] at h1
        obtain ⟨_, hlen, hcell⟩ := World.cells?_some h1
        obtain ⟨o, rfl, hok⟩ := cells_of_op hlen h2
        have e0 := hcell 0 (by omega)
        have e1 := hcell 1 (by omega)
        have e2 := hcell 2 (by omega)
        rw [Go.Deep.add_add] at e0 e1 e2
        exact ⟨o, fun _ => ⟨⟨by simpa using e0, by simpa using e1, by simpa using e2⟩, hok⟩⟩
      · exact ⟨⟨0, 0, 0⟩, fun h => absurd h hi⟩
    obtain ⟨X, hX⟩ : ∃ X : Nat → Stp, ∀ i, i < len → (W.cell? (a.add (i * 3)) = some (.int .i64 (X i).K) ∧ W.cell? (a.add (i * 3 + 1)) = some (.int .i64 (X i).N) ∧ W.cell? (a.add (i * 3 + 2)) = some (.float .f64 (X i).X)) ∧ (X i).ok := ⟨fun i => (each i).choose, fun i => (each i).choose_spec⟩
    clear each hel
    refine ⟨_, (List.range len).map X, rfl, ⟨⟨some a, cap, by simp, by simpa using hl, hm, by simp, ?_⟩, ?_⟩, .inr ⟨_, _, by rw [hx], by simp⟩⟩
    · intro i hi
      simp at hi
      obtain ⟨⟨h0, _, _⟩, _⟩ := hX 0 (by omega)
      obtain ⟨⟨g0, g1, g2⟩, _⟩ := hX i hi
      obtain ⟨b, off, spot⟩ := a
      have hs1 : spot = none := by simpa [Addr.add] using World.cell?_spot h0
      subst hs1
      rw [WideShapes.add_plain] at g0 g1 g2
      exact ⟨b, off, rfl, by simpa using g0, by simpa [Nat.add_assoc] using g1, by simpa [Nat.add_assoc] using g2⟩
    · intro o ho
      simp only [List.mem_map, List.mem_range] at ho
      obtain ⟨i, hi, rfl⟩ := ho
      exact (hX i hi).2

set_option maxRecDepth 20000 in
/-- A slice of records as it was read, opened. -/
theorem core_rv {H : Type} {enc : TypeId × Value → H} {W : World} {cs : List Value} {fuel : Nat} {y : DataW H × List MemPlace} (hf : DataW.trod enc Try.prog W 0 (fun _ => true) true fuel 23 cs = some y) :
    ∃ (v : Value) (l : List Rcd), cs = [v] ∧ Rv W v l ∧ ((y.1 = .nil ∧ l = []) ∨ ∃ elems spare, y.1 = .slice elems spare ∧ elems.length = l.length) := by
  rcases Go.Deep.open_slice Try.underlying23 hf with ⟨hcs, hx⟩ | ⟨a, len, cap, m, n, D, Pl, hcs, _, hl, hm, hmm, hx, hel⟩
  · subst hcs
    exact ⟨_, [], rfl, ⟨⟨none, 0, rfl, by simp, by simp [maxLen], by simp, fun i hi => by simp at hi⟩, by simp⟩, .inl ⟨by rw [hx], rfl⟩⟩
  · subst hcs
    simp only [if_true] at hmm
    have each : ∀ i, ∃ o : Rcd, i < len → (W.cell? (a.add (i * 2)) = some (.int .u64 o.k) ∧ W.cell? (a.add (i * 2 + 1)) = some (.float .f64 o.x)) ∧ o.ok := by
      intro i
      by_cases hi : i < len
      · obtain ⟨cs', h1, h2⟩ := hel i (by omega)
        rw [cells_rec] at h1
        obtain ⟨_, hlen, hcell⟩ := World.cells?_some h1
        obtain ⟨o, rfl, hok⟩ := cells_of_rec hlen h2
        have e0 := hcell 0 (by omega)
        have e1 := hcell 1 (by omega)
        rw [Go.Deep.add_add] at e0 e1
        exact ⟨o, fun _ => ⟨⟨by simpa using e0, by simpa using e1⟩, hok⟩⟩
      · exact ⟨⟨0, 0⟩, fun h => absurd h hi⟩
    obtain ⟨X, hX⟩ : ∃ X : Nat → Rcd, ∀ i, i < len → (W.cell? (a.add (i * 2)) = some (.int .u64 (X i).k) ∧ W.cell? (a.add (i * 2 + 1)) = some (.float .f64 (X i).x)) ∧ (X i).ok := ⟨fun i => (each i).choose, fun i => (each i).choose_spec⟩
    clear each hel
    refine ⟨_, (List.range len).map X, rfl, ⟨⟨some a, cap, by simp, by simpa using hl, hm, by simp, ?_⟩, ?_⟩, .inr ⟨_, _, by rw [hx], by simp⟩⟩
    · intro i hi
      simp at hi
      obtain ⟨⟨h0, _⟩, _⟩ := hX 0 (by omega)
      obtain ⟨⟨g0, g1⟩, _⟩ := hX i hi
      obtain ⟨b, off, spot⟩ := a
      have hs1 : spot = none := by simpa [Addr.add] using World.cell?_spot h0
      subst hs1
      rw [WideShapes.add_plain] at g0 g1
      exact ⟨b, off, rfl, by simpa using g0, by simpa [Nat.add_assoc] using g1⟩
    · intro o ho
      simp only [List.mem_map, List.mem_range] at ho
      obtain ⟨i, hi, rfl⟩ := ho
      exact (hX i hi).2

set_option maxRecDepth 20000 in
/-- A slice of pairs as it was read, opened. -/
theorem core_qv {H : Type} {enc : TypeId × Value → H} {W : World} {cs : List Value} {fuel : Nat} {y : DataW H × List MemPlace} (hf : DataW.trod enc Try.prog W 0 (fun _ => true) true fuel 28 cs = some y) :
    ∃ (v : Value) (l : List Pr), cs = [v] ∧ Qv W v l ∧ ((y.1 = .nil ∧ l = []) ∨ ∃ elems spare, y.1 = .slice elems spare ∧ elems.length = l.length) := by
  rcases Go.Deep.open_slice Try.underlying28 hf with ⟨hcs, hx⟩ | ⟨a, len, cap, m, n, D, Pl, hcs, _, hl, hm, hmm, hx, hel⟩
  · subst hcs
    exact ⟨_, [], rfl, ⟨⟨none, 0, rfl, by simp, by simp [maxLen], by simp, fun i hi => by simp at hi⟩, by simp⟩, .inl ⟨by rw [hx], rfl⟩⟩
  · subst hcs
    simp only [if_true] at hmm
    have each : ∀ i, ∃ o : Pr, i < len → (W.cell? (a.add (i * 3)) = some (.int .u64 o.k) ∧ W.cell? (a.add (i * 3 + 1)) = some (.bool o.v.h) ∧ W.cell? (a.add (i * 3 + 2)) = some (.int .u64 o.v.b)) ∧ o.ok := by
      intro i
      by_cases hi : i < len
      · obtain ⟨cs', h1, h2⟩ := hel i (by omega)
        rw [cells_pair] at h1
        obtain ⟨_, hlen, hcell⟩ := World.cells?_some h1
        obtain ⟨o, rfl, hok⟩ := cells_of_pair hlen h2
        have e0 := hcell 0 (by omega)
        have e1 := hcell 1 (by omega)
        have e2 := hcell 2 (by omega)
        rw [Go.Deep.add_add] at e0 e1 e2
        exact ⟨o, fun _ => ⟨⟨by simpa using e0, by simpa using e1, by simpa using e2⟩, hok⟩⟩
      · exact ⟨⟨0, noV⟩, fun h => absurd h hi⟩
    obtain ⟨X, hX⟩ : ∃ X : Nat → Pr, ∀ i, i < len → (W.cell? (a.add (i * 3)) = some (.int .u64 (X i).k) ∧ W.cell? (a.add (i * 3 + 1)) = some (.bool (X i).v.h) ∧ W.cell? (a.add (i * 3 + 2)) = some (.int .u64 (X i).v.b)) ∧ (X i).ok := ⟨fun i => (each i).choose, fun i => (each i).choose_spec⟩
    clear each hel
    refine ⟨_, (List.range len).map X, rfl, ⟨⟨some a, cap, by simp, by simpa using hl, hm, by simp, ?_⟩, ?_⟩, .inr ⟨_, _, by rw [hx], by simp⟩⟩
    · intro i hi
      simp at hi
      obtain ⟨⟨h0, _, _⟩, _⟩ := hX 0 (by omega)
      obtain ⟨⟨g0, g1, g2⟩, _⟩ := hX i hi
      obtain ⟨b, off, spot⟩ := a
      have hs1 : spot = none := by simpa [Addr.add] using World.cell?_spot h0
      subst hs1
      rw [WideShapes.add_plain] at g0 g1 g2
      exact ⟨b, off, rfl, by simpa using g0, by simpa [Nat.add_assoc] using g1, by simpa [Nat.add_assoc] using g2⟩
    · intro o ho
      simp only [List.mem_map, List.mem_range] at ho
      obtain ⟨i, hi, rfl⟩ := ho
      exact (hX i hi).2

theorem cells_job : Try.prog.cellsOf 25 = 4 := by kernel_rfl
theorem cells_ops : Try.prog.cellsOf 22 = 1 := by kernel_rfl
theorem cells_recs : Try.prog.cellsOf 23 = 1 := by kernel_rfl

set_option maxRecDepth 20000 in
/-- A job by value among the arguments, opened. -/
theorem open_job {H : Type} {enc : TypeId × Value → H} {W : World} {v : Value} {d : DataW H} {p : List MemPlace} {base : Nat}
    (hv : Value.okWide Try.prog W .any base 25 v) (h : DataW.Trod enc Try.prog W 0 (fun _ => true) true 25 v d p) :
    ∃ (lv rv : Value) (l : List Stp) (recs : List Rcd) (kind n : Int), v = .agg #[lv, .int .i64 kind, rv, .int .i64 n] ∧ Ov W lv l ∧ Rv W rv recs ∧ (-9223372036854775808 ≤ kind ∧ kind < 9223372036854775808) ∧
      ∃ d0 d1 d2 d3, d = .agg [d0, d1, d2, d3] ∧ ((d2 = .nil ∧ recs = []) ∨ ∃ elems spare, d2 = .slice elems spare ∧ elems.length = recs.length) := by
  obtain ⟨cs, rfl, hsz⟩ := okWide_struct Try.underlying25 hv
  obtain ⟨fuel, hf⟩ := h
  obtain ⟨y0, y1, y2, y3, m, hx, _, h0, h1, h2, h3⟩ := Go.Joins.trod_struct4 Try.underlying25 hf
  have h4 : cs.size = 4 := by simpa [Value.cells, cells_job] using hsz
  obtain ⟨c0, c1, c2, c3, rfl⟩ := Go.Joins.array4 h4
  simp only [Value.cells, cells_ops, cells_int, cells_recs, List.drop_zero, List.drop_succ_cons, List.take_succ_cons, List.take_zero] at h0 h1 h2 h3
  obtain ⟨lv, l, e0, hl, _⟩ := core_ov h0
  obtain ⟨k, rfl, hk⟩ := cell_i64 Try.underlying3 h1
  obtain ⟨rv, recs, e2, hr, hz⟩ := core_rv h2
  obtain ⟨n, rfl, _⟩ := cell_i64 Try.underlying3 h3
  simp only [List.cons.injEq, and_true] at e0 e2
  subst e0
  subst e2
  simp only [Prod.mk.injEq] at hx
  exact ⟨c0, c2, l, recs, k, n, rfl, hl, hr, hk, y0.1, y1.1, y2.1, y3.1, hx.1, hz⟩

theorem bytes_rec : Try.prog.bytesOf 36 = 16 := by kernel_rfl
theorem bytes_pair : Try.prog.bytesOf 40 = 24 := by kernel_rfl

set_option maxRecDepth 20000 in
/-- How many records a job has at most. -/
theorem sized_job {H : Type} {d d0 d1 d2 d3 : DataW H} {recs : List Rcd} (h : (DataW.weightsEach Try.prog [25] [d]).all (· ≤ reachBytes) = true) (hd : d = .agg [d0, d1, d2, d3])
    (hz : (d2 = .nil ∧ recs = []) ∨ ∃ elems spare, d2 = .slice elems spare ∧ elems.length = recs.length) : recs.length * 16 ≤ 140737488351232 := by
  rcases hz with ⟨_, rfl⟩ | ⟨elems, spare, rfl, hl⟩
  · simp
  · subst hd
    have hm : (elems.length + spare.length) * Try.prog.bytesOf 36 ∈ DataW.weightsEach Try.prog [25] [DataW.agg [d0, d1, .slice elems spare, d3]] := by
      simp [DataW.weightsEach, DataW.weights, Try.underlying25, Try.underlying23]
    have := List.all_eq_true.1 h _ hm
    rw [bytes_rec] at this
    simp only [reachBytes] at this
    have h2 : (elems.length + spare.length) * 16 ≤ 140737488351232 := of_decide_eq_true this
    omega
end Go.Proofs.Ytfcpooihihklaab
