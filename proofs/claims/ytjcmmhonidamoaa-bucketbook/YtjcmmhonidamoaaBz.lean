/- Slices of cells among the arguments, opened. -/
import Derived.Test.YtjcmmhonidamoaaWz
import Derived.Test.YtjcmmhonidamoaaBb
import Derived.Lib.SmallJoins
namespace Go.Proofs.Ytjcmmhonidamoaa
open Go.ChangeShapes Go.WideShapes Go.ChangeAt Go.RowKit

theorem cells_bool : Try.prog.cellsOf 4 = 1 := by kernel_rfl
theorem cells_u64 : Try.prog.cellsOf 33 = 1 := by kernel_rfl
theorem cells_value : Try.prog.cellsOf 35 = 2 := by kernel_rfl
theorem cells_cell : Try.prog.cellsOf 37 = 6 := by kernel_rfl
def vlF (v : Vl) : List Value := [.bool v.h, .int .u64 v.b]

section
variable {H : Type} {enc : TypeId × Value → H} {W : World} {sp : Nat → Bool} {held : Bool} {base : Nat}

theorem cell_i64 {n : Nat} {v : Value} {x : DataW H × List MemPlace} (h : DataW.trod enc Try.prog W base sp held n 3 [v] = some x) : ∃ a : Int, v = .int .i64 a ∧ -9223372036854775808 ≤ a ∧ a < 9223372036854775808 := by
  cases n with
  | zero => simp [DataW.trod] at h
  | succ n =>
    simp only [DataW.trod, Try.underlying3] at h
    cases v <;> simp at h
    rename_i k a
    obtain ⟨⟨rfl, hw⟩, _⟩ := h
    exact ⟨a, rfl, i64_of_wf hw⟩

theorem cell_bool {n : Nat} {v : Value} {x : DataW H × List MemPlace} (h : DataW.trod enc Try.prog W base sp held n 4 [v] = some x) : ∃ a : Bool, v = .bool a := by
  cases n with
  | zero => simp [DataW.trod] at h
  | succ n =>
    simp only [DataW.trod, Try.underlying4] at h
    cases v <;> simp at h
    exact ⟨_, rfl⟩

theorem cell_u64 {n : Nat} {v : Value} {x : DataW H × List MemPlace} (h : DataW.trod enc Try.prog W base sp held n 33 [v] = some x) : ∃ a : Nat, v = .int .u64 a ∧ a < 18446744073709551616 := by
  cases n with
  | zero => simp [DataW.trod] at h
  | succ n =>
    simp only [DataW.trod, Try.underlying33] at h
    cases v <;> simp at h
    rename_i k a
    obtain ⟨⟨rfl, hw⟩, _⟩ := h
    obtain ⟨n, rfl, hn⟩ := u64_of_wf hw
    exact ⟨n, rfl, hn⟩

theorem cells_of_value {n : Nat} {cs : List Value} {x : DataW H × List MemPlace} (hl : cs.length = 2) (h : DataW.trod enc Try.prog W base sp held n 35 cs = some x) :
    ∃ v : Vl, cs = vlF v ∧ v.ok := by
  obtain ⟨y0, y1, m, _, _, h0, h1⟩ := trod_struct2 Try.underlying35 h
  match cs, hl with
  | [a, b], _ =>
    simp only [cells_bool, cells_u64, List.drop_zero, List.drop_succ_cons, List.take_succ_cons, List.take_zero] at h0 h1
    obtain ⟨k, rfl⟩ := cell_bool h0
    obtain ⟨x, rfl, hx⟩ := cell_u64 h1
    exact ⟨⟨k, x⟩, rfl, hx⟩

theorem cells_of_cell {n : Nat} {cs : List Value} {x : DataW H × List MemPlace} (hl : cs.length = 6) (h : DataW.trod enc Try.prog W base sp held n 37 cs = some x) :
    ∃ c : Cl, cs = [.int .u64 c.k, .bool c.p.h, .int .u64 c.p.b, .bool c.c.h, .int .u64 c.c.b, .int .i64 c.n] ∧ c.ok := by
  obtain ⟨y0, y1, y2, y3, m, _, _, h0, h1, h2, h3⟩ := Go.Joins.trod_struct4 Try.underlying37 h
  match cs, hl with
  | [c0, c1, c2, c3, c4, c5], _ =>
    simp only [cells_int, cells_u64, cells_value, List.drop_zero, List.drop_succ_cons, List.take_succ_cons, List.take_zero] at h0 h1 h2 h3
    obtain ⟨k, rfl, hk⟩ := cell_u64 h0
    obtain ⟨A, hA, oA⟩ := cells_of_value rfl h1
    obtain ⟨B, hB, oB⟩ := cells_of_value rfl h2
    obtain ⟨m, rfl, hm⟩ := cell_i64 h3
    simp only [vlF, List.cons.injEq, and_true] at hA hB
    obtain ⟨rfl, rfl⟩ := hA
    obtain ⟨rfl, rfl⟩ := hB
    exact ⟨⟨k, A, B, m⟩, rfl, hk, oA, oB, hm⟩

end

set_option maxRecDepth 20000 in
/-- A slice whose elements are opened by hopen. -/
theorem open_gen {α : Type} {H : Type} {enc : TypeId × Value → H} {W : World} {t e : TypeId} {n : Nat} {f : α → List Value} {ok : α → Prop} {v : Value} {d : DataW H} {p : List MemPlace} {fuel : Nat}
    (a0 : α) (ht : Try.prog.underlying t = some (.slice e)) (hc : Try.prog.cellsOf e = n) (hn : 0 < n) (hlenf : ∀ a, (f a).length = n)
    (hopen : ∀ {m : Nat} {cs : List Value} {x : DataW H × List MemPlace}, cs.length = n → DataW.trod enc Try.prog W 0 (fun _ => true) true m e cs = some x → ∃ a, cs = f a ∧ ok a)
    (hf : DataW.trod enc Try.prog W 0 (fun _ => true) true fuel t [v] = some (d, p)) :
    ∃ l : List α, Gv W v n f l ∧ (∀ o ∈ l, ok o) ∧ ((d = .nil ∧ l = []) ∨ ∃ elems spare, d = .slice elems spare ∧ elems.length = l.length) := by
  rcases Go.Deep.open_slice ht hf with ⟨hcs, hx⟩ | ⟨a, len, cap, m, k, D, Pl, hcs, _, hl, hm, hmm, hx, hel⟩
  · simp only [List.cons.injEq, and_true] at hcs
    subst hcs
    simp only [Prod.mk.injEq] at hx
    exact ⟨[], ⟨none, 0, rfl, by simp, by simp [maxLen], by simp, fun i hi => by simp at hi⟩, by simp, .inl ⟨hx.1, rfl⟩⟩
  · simp only [List.cons.injEq, and_true] at hcs
    subst hcs
    simp only [if_true] at hmm
    simp only [Prod.mk.injEq] at hx
    rw [hc] at hel
    have each : ∀ i, ∃ o : α, i < len → (∀ j, j < n → W.cell? (a.add (i * n + j)) = (f o)[j]?) ∧ ok o := by
      intro i
      by_cases hi : i < len
      · obtain ⟨cs', h1, h2⟩ := hel i (by omega)
        obtain ⟨_, hlen, hcell⟩ := World.cells?_some h1
        obtain ⟨o, rfl, hok⟩ := hopen hlen h2
        refine ⟨o, fun _ => ⟨fun j hj => ?_, hok⟩⟩
        have e0 := hcell j hj
        rw [Go.Deep.add_add] at e0
        exact e0
      · exact ⟨a0, fun h => absurd h hi⟩
    obtain ⟨X, hX⟩ : ∃ X : Nat → α, ∀ i, i < len → (∀ j, j < n → W.cell? (a.add (i * n + j)) = (f (X i))[j]?) ∧ ok (X i) := ⟨fun i => (each i).choose, fun i => (each i).choose_spec⟩
    clear each hel
    refine ⟨(List.range len).map X, ⟨some a, cap, by simp, by simpa using hl, hm, by simp, ?_⟩, ?_, .inr ⟨_, _, hx.1, by simp⟩⟩
    · intro i hi
      simp at hi
      have h0 := (hX 0 (by omega)).1 0 hn
      have h1 : (f (X 0))[0]? = some ((f (X 0))[0]'(by rw [hlenf]; exact hn)) := List.getElem?_eq_getElem _
      rw [h1] at h0
      obtain ⟨b, off, spot⟩ := a
      have hs1 : spot = none := by simpa [Addr.add] using World.cell?_spot h0
      subst hs1
      refine ⟨b, off, rfl, fun j hj => ?_⟩
      have h2 := (hX i hi).1 j hj
      rw [WideShapes.add_plain] at h2
      simpa using h2
    · intro o ho
      simp only [List.mem_map, List.mem_range] at ho
      obtain ⟨i, hi, rfl⟩ := ho
      exact (hX i hi).2

/-- A slice among the arguments, opened. -/
theorem open_arg {α : Type} {H : Type} {enc : TypeId × Value → H} {W : World} {t e : TypeId} {n : Nat} {f : α → List Value} {ok : α → Prop} {v : Value} {d : DataW H} {p : List MemPlace} {base : Nat}
    (a0 : α) (ht : Try.prog.underlying t = some (.slice e)) (hc : Try.prog.cellsOf e = n) (hn : 0 < n) (hlenf : ∀ a, (f a).length = n)
    (hopen : ∀ {m : Nat} {cs : List Value} {x : DataW H × List MemPlace}, cs.length = n → DataW.trod enc Try.prog W 0 (fun _ => true) true m e cs = some x → ∃ a, cs = f a ∧ ok a)
    (hv : Value.okWide Try.prog W .any base t v) (h : DataW.Trod enc Try.prog W 0 (fun _ => true) true t v d p) :
    ∃ l : List α, Gv W v n f l ∧ (∀ o ∈ l, ok o) ∧ ((d = .nil ∧ l = []) ∨ ∃ elems spare, d = .slice elems spare ∧ elems.length = l.length) := by
  obtain ⟨ao, len0, cap0, rfl⟩ := okWide_slice ht hv
  obtain ⟨fuel, hf⟩ := h
  exact open_gen a0 ht hc hn hlenf hopen (by simpa [Value.cells] using hf)

/-- A cell by value, opened. -/
theorem open_cell {H : Type} {enc : TypeId × Value → H} {W : World} {v : Value} {d : DataW H} {p : List MemPlace} {base : Nat}
    (hv : Value.okWide Try.prog W .any base 37 v) (h : DataW.Trod enc Try.prog W 0 (fun _ => true) true 37 v d p) :
    ∃ c : Cl, v = .agg #[.int .u64 c.k, .bool c.p.h, .int .u64 c.p.b, .bool c.c.h, .int .u64 c.c.b, .int .i64 c.n] ∧ c.ok := by
  obtain ⟨cs, rfl, hsz⟩ := okWide_struct Try.underlying37 hv
  obtain ⟨fuel, hf⟩ := h
  obtain ⟨c, hr, hok⟩ := cells_of_cell (by simpa [Value.cells, cells_cell] using hsz) hf
  refine ⟨c, ?_, hok⟩
  have : cs = #[.int .u64 c.k, .bool c.p.h, .int .u64 c.p.b, .bool c.c.h, .int .u64 c.c.b, .int .i64 c.n] := by
    apply Array.toList_inj.1
    simpa [Value.cells] using hr
  rw [this]

end Go.Proofs.Ytjcmmhonidamoaa
