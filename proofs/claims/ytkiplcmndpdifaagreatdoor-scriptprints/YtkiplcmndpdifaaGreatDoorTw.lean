/- From the walk to the row: a plan by value, slices of steps among the arguments, opened. -/
import Derived.Test.YtkiplcmndpdifaaGreatDoorTv

import Derived.Test.YtkiplcmndpdifaaGreatDoorTa

import Derived.Deep.Slices

import Derived.Lib.SmallJoins

namespace Go.Proofs.YtkiplcmndpdifaaGreatDoor

open Go.ChangeShapes Go.WideShapes Go.ChangeAt Go.RowKit



theorem cells_op : Tryz.prog.cellsOf 53 = 3 := by kernel_rfl
theorem cells_step : Tryz.prog.cellsOf 41 = 5 := by kernel_rfl
theorem cells_rec : Tryz.prog.cellsOf 39 = 2 := by kernel_rfl
theorem cells_plan : Tryz.prog.cellsOf 25 = 8 := by kernel_rfl
theorem cells_ops : Tryz.prog.cellsOf 23 = 1 := by kernel_rfl
theorem cells_int : Tryz.prog.cellsOf 3 = 1 := by kernel_rfl
theorem cells_i64 : Tryz.prog.cellsOf 2 = 1 := by kernel_rfl
theorem cells_u64 : Tryz.prog.cellsOf 36 = 1 := by kernel_rfl
theorem cells_f64 : Tryz.prog.cellsOf 37 = 1 := by kernel_rfl


theorem u64_of_wf {x : Int} (h : (Lit.int .u64 x).wf = true) : ∃ n : Nat, x = n ∧ n < 18446744073709551616 := by
  have h0 : 0 ≤ x ∧ x ≤ 18446744073709551615 := by simpa [Lit.wf, IntKind.min, IntKind.max, IntKind.signed, IntKind.bits] using h
  exact ⟨x.toNat, by omega, by omega⟩


theorem i64_of_wf {x : Int} (h : (Lit.int .i64 x).wf = true) : -9223372036854775808 ≤ x ∧ x < 9223372036854775808 := by
  have h0 : -9223372036854775808 ≤ x ∧ x ≤ 9223372036854775807 := by simpa [Lit.wf, IntKind.min, IntKind.max, IntKind.signed, IntKind.bits] using h
  omega


theorem f64_of_wf {x : Nat} (h : (Lit.float .f64 x).wf = true) : x < 18446744073709551616 := by simpa [Lit.wf] using h


section

variable {H : Type} {enc : TypeId × Value → H} {W : World} {sp : Nat → Bool} {held : Bool} {base : Nat}

theorem cell_i64 {t : TypeId} (ht : Tryz.prog.underlying t = some (.int .i64)) {n : Nat} {v : Value} {x : DataW H × List MemPlace} (h : DataW.trod enc Tryz.prog W base sp held n t [v] = some x) : ∃ a : Int, v = .int .i64 a ∧ (-9223372036854775808 ≤ a ∧ a < 9223372036854775808) := by
  cases n with
  | zero => simp [DataW.trod] at h
  | succ n =>
    simp only [DataW.trod, ht] at h
    cases v <;> simp at h
    rename_i k a
    obtain ⟨⟨rfl, hw⟩, _⟩ := h
    exact ⟨a, rfl, i64_of_wf hw⟩
theorem cell_u64 {n : Nat} {v : Value} {x : DataW H × List MemPlace} (h : DataW.trod enc Tryz.prog W base sp held n 36 [v] = some x) : ∃ a : Nat, v = .int .u64 a ∧ a < 18446744073709551616 := by
  cases n with
  | zero => simp [DataW.trod] at h
  | succ n =>
    simp only [DataW.trod, Tryz.underlying36] at h
    cases v <;> simp at h
    rename_i k a
    obtain ⟨⟨rfl, hw⟩, _⟩ := h
    obtain ⟨n, rfl, hn⟩ := u64_of_wf hw
    exact ⟨n, rfl, hn⟩
theorem cell_f64 {n : Nat} {v : Value} {x : DataW H × List MemPlace} (h : DataW.trod enc Tryz.prog W base sp held n 37 [v] = some x) : ∃ a : Nat, v = .float .f64 a ∧ a < 18446744073709551616 := by
  cases n with
  | zero => simp [DataW.trod] at h
  | succ n =>
    simp only [DataW.trod, Tryz.underlying37] at h
    cases v <;> simp at h
    rename_i k a
    obtain ⟨⟨rfl, hw⟩, _⟩ := h
    exact ⟨a, rfl, f64_of_wf hw⟩


set_option maxRecDepth 20000 in
theorem cells_of_op {n : Nat} {cs : List Value} {x : DataW H × List MemPlace} (hl : cs.length = 3) (h : DataW.trod enc Tryz.prog W base sp held n 53 cs = some x) :
    ∃ o : Og, cs = opF o ∧ o.ok := by
  obtain ⟨y0, y1, y2, m, _, _, h0, h1, h2⟩ := Go.Deep.trod_struct3 Tryz.underlying53 h
  match cs, hl with
  | [a, b, c], _ =>
    simp only [cells_int, cells_i64, cells_f64, List.drop_zero, List.drop_succ_cons, List.take_succ_cons, List.take_zero] at h0 h1 h2
    obtain ⟨K, rfl, hK⟩ := cell_i64 Tryz.underlying3 h0
    obtain ⟨N, rfl, hN⟩ := cell_i64 Tryz.underlying2 h1
    obtain ⟨X, rfl, hX⟩ := cell_f64 h2
    exact ⟨⟨K, N, X⟩, rfl, hK, hN, hX⟩


set_option maxRecDepth 20000 in
theorem cells_of_step {n : Nat} {cs : List Value} {x : DataW H × List MemPlace} (hl : cs.length = 5) (h : DataW.trod enc Tryz.prog W base sp held n 41 cs = some x) :
    ∃ s : Sp, cs = stF s ∧ s.ok := by
  obtain ⟨y0, y1, y2, y3, m, _, _, h0, h1, h2, h3⟩ := Go.Joins.trod_struct4 Tryz.underlying41 h
  match cs, hl with
  | [c0, c1, c2, c3, c4], _ =>
    simp only [cells_int, cells_rec, List.drop_zero, List.drop_succ_cons, List.take_succ_cons, List.take_zero] at h0 h1 h2 h3
    obtain ⟨z0, z1, m2, _, _, g0, g1⟩ := trod_struct2 Tryz.underlying39 h3
    simp only [cells_u64, cells_f64, List.drop_zero, List.drop_succ_cons, List.take_succ_cons, List.take_zero] at g0 g1
    obtain ⟨K, rfl, hK⟩ := cell_i64 Tryz.underlying3 h0
    obtain ⟨D, rfl, hD⟩ := cell_i64 Tryz.underlying3 h1
    obtain ⟨N, rfl, hN⟩ := cell_i64 Tryz.underlying3 h2
    obtain ⟨k, rfl, hk⟩ := cell_u64 g0
    obtain ⟨u, rfl, hu⟩ := cell_f64 g1
    exact ⟨⟨K, D, N, k, u⟩, rfl, hK, hD, hN, hk, hu⟩
end



set_option maxRecDepth 20000 in
theorem open_gen {α : Type} {H : Type} {enc : TypeId × Value → H} {W : World} {t e : TypeId} {n : Nat} {f : α → List Value} {ok : α → Prop} {v : Value} {d : DataW H} {p : List MemPlace} {fuel : Nat}
    (a0 : α) (ht : Tryz.prog.underlying t = some (.slice e)) (hc : Tryz.prog.cellsOf e = n) (hn : 0 < n) (hlenf : ∀ a, (f a).length = n)
    (hopen : ∀ {m : Nat} {cs : List Value} {x : DataW H × List MemPlace}, cs.length = n → DataW.trod enc Tryz.prog W 0 (fun _ => true) true m e cs = some x → ∃ a, cs = f a ∧ ok a)
    (hf : DataW.trod enc Tryz.prog W 0 (fun _ => true) true fuel t [v] = some (d, p)) :
    ∃ l : List α, Gv W v n f l ∧ (∀ o ∈ l, ok o) ∧ ((d = .nil ∧ l = []) ∨ ∃ elems spare, d = .slice elems spare ∧ elems.length = l.length) := by
  rcases Go.Deep.open_slice ht hf with ⟨hcs, hx⟩ | ⟨a, len, cap, m, k, D, Pl, hcs, _, hl, hm, hmm, hx, hel⟩
  · simp only [List.cons.injEq, and_true] at hcs
    subst hcs
    simp only [Prod.mk.injEq] at hx
    exact ⟨[], ⟨none, 0, rfl, by simp, by simp [maxLen], by simp, fun i hi => by simp at hi⟩, by simp, .inl ⟨hx.1, rfl⟩⟩
  · simp only [List.cons.injEq, and_true] at hcs
    subst hcs
    simp only [if_true] at hmm
    simp only [Prod.mk.injEq] at hx
    rw [hc] at hel
    have each : ∀ i, ∃ o : α, i < len → (∀ j, j < n → W.cell? (a.add (i * n + j)) = (f o)[j]?) ∧ ok o := by
      intro i
      by_cases hi : i < len
      · obtain ⟨cs', h1, h2⟩ := hel i (by omega)
        obtain ⟨_, hlen, hcell⟩ := World.cells?_some h1
        obtain ⟨o, rfl, hok⟩ := hopen hlen h2
        refine ⟨o, fun _ => ⟨fun j hj => ?_, hok⟩⟩
        have e0 := hcell j hj
        rw [Go.Deep.add_add] at e0
        exact e0
      · exact ⟨a0, fun h => absurd h hi⟩
    obtain ⟨X, hX⟩ : ∃ X : Nat → α, ∀ i, i < len → (∀ j, j < n → W.cell? (a.add (i * n + j)) = (f (X i))[j]?) ∧ ok (X i) := ⟨fun i => (each i).choose, fun i => (each i).choose_spec⟩
    clear each hel
    refine ⟨(List.range len).map X, ⟨some a, cap, by simp, by simpa using hl, hm, by simp, ?_⟩, ?_, .inr ⟨_, _, hx.1, by simp⟩⟩
    · intro i hi
      simp at hi
      have h0 := (hX 0 (by omega)).1 0 hn
      have h1 : (f (X 0))[0]? = some ((f (X 0))[0]'(by rw [hlenf]; exact hn)) := List.getElem?_eq_getElem _
      rw [h1] at h0
      obtain ⟨b, off, spot⟩ := a
      have hs1 : spot = none := by simpa [Addr.add] using World.cell?_spot h0
      subst hs1
      refine ⟨b, off, rfl, fun j hj => ?_⟩
      have h2 := (hX i hi).1 j hj
      rw [WideShapes.add_plain] at h2
      simpa using h2
    · intro o ho
      simp only [List.mem_map, List.mem_range] at ho
      obtain ⟨i, hi, rfl⟩ := ho
      exact (hX i hi).2


set_option maxRecDepth 20000 in
/-- A slice among the arguments, opened. -/
theorem open_arg {α : Type} {H : Type} {enc : TypeId × Value → H} {W : World} {t e : TypeId} {n : Nat} {f : α → List Value} {ok : α → Prop} {v : Value} {d : DataW H} {p : List MemPlace} {base : Nat}
    (a0 : α) (ht : Tryz.prog.underlying t = some (.slice e)) (hc : Tryz.prog.cellsOf e = n) (hn : 0 < n) (hlenf : ∀ a, (f a).length = n)
    (hopen : ∀ {m : Nat} {cs : List Value} {x : DataW H × List MemPlace}, cs.length = n → DataW.trod enc Tryz.prog W 0 (fun _ => true) true m e cs = some x → ∃ a, cs = f a ∧ ok a)
    (hv : Value.okWide Tryz.prog W .any base t v) (h : DataW.Trod enc Tryz.prog W 0 (fun _ => true) true t v d p) :
    ∃ l : List α, Gv W v n f l ∧ (∀ o ∈ l, ok o) ∧ ((d = .nil ∧ l = []) ∨ ∃ elems spare, d = .slice elems spare ∧ elems.length = l.length) := by
  obtain ⟨ao, len0, cap0, rfl⟩ := okWide_slice ht hv
  obtain ⟨fuel, hf⟩ := h
  exact open_gen a0 ht hc hn hlenf hopen (by simpa [Value.cells] using hf)


theorem trod_struct8 {H : Type} {enc : TypeId × Value → H} {P : Program} {w : World} {base : Nat} {spare : Nat → Bool} {held : Bool} {t : TypeId} {f0 f1 f2 f3 f4 f5 f6 f7 : Field} {fuel : Nat} {cs : List Value} {x : DataW H × List MemPlace} (ht : P.underlying t = some (.struct #[f0, f1, f2, f3, f4, f5, f6, f7])) (h : DataW.trod enc P w base spare held fuel t cs = some x) :
    ∃ y0 y1 y2 y3 y4 y5 y6 y7 n, DataW.trod enc P w base spare held n f0.type ((cs.drop f0.offset).take (P.cellsOf f0.type)) = some y0 ∧
      DataW.trod enc P w base spare held n f1.type ((cs.drop f1.offset).take (P.cellsOf f1.type)) = some y1 ∧
      DataW.trod enc P w base spare held n f2.type ((cs.drop f2.offset).take (P.cellsOf f2.type)) = some y2 ∧
      DataW.trod enc P w base spare held n f3.type ((cs.drop f3.offset).take (P.cellsOf f3.type)) = some y3 ∧
      DataW.trod enc P w base spare held n f4.type ((cs.drop f4.offset).take (P.cellsOf f4.type)) = some y4 ∧
      DataW.trod enc P w base spare held n f5.type ((cs.drop f5.offset).take (P.cellsOf f5.type)) = some y5 ∧
      DataW.trod enc P w base spare held n f6.type ((cs.drop f6.offset).take (P.cellsOf f6.type)) = some y6 ∧
      DataW.trod enc P w base spare held n f7.type ((cs.drop f7.offset).take (P.cellsOf f7.type)) = some y7 := by
  obtain ⟨xs, n, _, _, _, hlen, hf⟩ := DataW.trod_struct ht h
  match xs, hlen with
  | [y0, y1, y2, y3, y4, y5, y6, y7], _ => exact ⟨y0, y1, y2, y3, y4, y5, y6, y7, n, by simpa using hf 0 f0 rfl, by simpa using hf 1 f1 rfl, by simpa using hf 2 f2 rfl, by simpa using hf 3 f3 rfl, by simpa using hf 4 f4 rfl, by simpa using hf 5 f5 rfl, by simpa using hf 6 f6 rfl, by simpa using hf 7 f7 rfl⟩


set_option maxRecDepth 20000 in
/-- A plan by value, opened. -/
theorem open_plan {H : Type} {enc : TypeId × Value → H} {W : World} {v : Value} {d : DataW H} {p : List MemPlace} {base : Nat}
    (hv : Value.okWide Tryz.prog W .any base 25 v) (h : DataW.Trod enc Tryz.prog W 0 (fun _ => true) true 25 v d p) :
    ∃ (ov : Value) (p : Pl) (l : List Og) (d3 : DataW H), v = PlV p ov ∧ OVw W ov l ∧ p.ok ∧ (∀ x ∈ l, x.ok) ∧ ((d3 = .nil ∧ l = []) ∨ ∃ elems spare, d3 = .slice elems spare ∧ elems.length = l.length) := by
  obtain ⟨cs, rfl, hsz⟩ := okWide_struct Tryz.underlying25 hv
  obtain ⟨fuel, hf⟩ := h
  obtain ⟨y0, y1, y2, y3, y4, y5, y6, y7, n, h0, h1, h2, h3, h4, h5, h6, h7⟩ := trod_struct8 Tryz.underlying25 hf
  have hl8 : cs.toList.length = 8 := by simpa [Value.cells, cells_plan] using hsz
  obtain ⟨l⟩ := cs
  match l, hl8 with
  | [c0, c1, c2, c3, c4, c5, c6, c7], _ =>
    simp only [Value.cells, cells_int, cells_ops, List.drop_zero, List.drop_succ_cons, List.take_succ_cons, List.take_zero] at h0 h1 h2 h3 h4 h5 h6 h7
    obtain ⟨a0, rfl, k0⟩ := cell_i64 Tryz.underlying3 h0
    obtain ⟨a1, rfl, k1⟩ := cell_i64 Tryz.underlying3 h1
    obtain ⟨a2, rfl, k2⟩ := cell_i64 Tryz.underlying3 h2
    obtain ⟨d3, p3⟩ := y3
    obtain ⟨l, ho, hk, hz⟩ := open_gen (⟨0, 0, 0⟩ : Og) Tryz.underlying23 cells_op (by omega) (fun _ => rfl) cells_of_op h3
    obtain ⟨a4, rfl, k4⟩ := cell_i64 Tryz.underlying3 h4
    obtain ⟨a5, rfl, k5⟩ := cell_i64 Tryz.underlying3 h5
    obtain ⟨a6, rfl, k6⟩ := cell_i64 Tryz.underlying3 h6
    obtain ⟨a7, rfl, k7⟩ := cell_i64 Tryz.underlying3 h7
    exact ⟨c3, ⟨a0, a1, a2, a4, a5, a6, a7⟩, l, d3, rfl, ho, ⟨k0, k1, k2, k4, k5, k6, k7⟩, hk, hz⟩


set_option maxRecDepth 20000 in
/-- A slice of steps among the arguments, opened. -/
theorem open_steps {H : Type} {enc : TypeId × Value → H} {W : World} {v : Value} {d : DataW H} {p : List MemPlace} {base : Nat}
    (hv : Value.okWide Tryz.prog W .any base 26 v) (h : DataW.Trod enc Tryz.prog W 0 (fun _ => true) true 26 v d p) :
    ∃ l : List Sp, SVw W v l ∧ (∀ x ∈ l, x.ok) ∧ ((d = .nil ∧ l = []) ∨ ∃ elems spare, d = .slice elems spare ∧ elems.length = l.length) :=
  open_arg (⟨0, 0, 0, 0, 0⟩ : Sp) Tryz.underlying26 cells_step (by omega) (fun _ => rfl) cells_of_step hv h
end Go.Proofs.YtkiplcmndpdifaaGreatDoor


