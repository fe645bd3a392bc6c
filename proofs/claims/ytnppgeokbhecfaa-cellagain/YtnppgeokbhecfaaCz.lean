/- From the walk to the row: cells, acts, attempts by value, slices of values, of flags, of acts, of rounds among the arguments, opened; that what is handed in reads behind the call as before. -/
import Derived.Test.YtnppgeokbhecfaaRows
import Derived.Test.YtnppgeokbhecfaaCi
import Derived.WalkKit
import Derived.ProofKit
import Derived.OpenShut
import Derived.Carry
import Derived.Deep.Slices
import Derived.Lib.SmallJoins
namespace Go.Proofs.Ytnppgeokbhecfaa
open Go.ChangeShapes Go.WideShapes Go.ChangeAt Go.RowKit

theorem own_knob : ownKnob Try.prog.godebug = none := by kernel_rfl
theorem laid_out : laidOutB Try.prog = true := by kernel_rfl
theorem cells_int : Try.prog.cellsOf 3 = 1 := by kernel_rfl
theorem cells_bool : Try.prog.cellsOf 4 = 1 := by kernel_rfl
theorem cells_u64 : Try.prog.cellsOf 22 = 1 := by kernel_rfl
theorem cells_cell : Try.prog.cellsOf 26 = 6 := by kernel_rfl
theorem cells_act : Try.prog.cellsOf 30 = 4 := by kernel_rfl
theorem cells_round : Try.prog.cellsOf 51 = 6 := by kernel_rfl
theorem cells_att : Try.prog.cellsOf 43 = 10 := by kernel_rfl
theorem cells_sv : Try.prog.cellsOf 40 = 1 := by kernel_rfl
theorem cells_sb : Try.prog.cellsOf 41 = 1 := by kernel_rfl

/-- What the law's row asks, where nothing old has turned. -/
theorem post_of_below {H : Type} {enc : TypeId × Value → H} {P : Program} {f : Func} {s : ChangeSpec} {apart fresh handsOn : Bool} {W W' : World} {args : Array Value} {v : Value} {ds gs : List (DataW H)} {before pa pv : List MemPlace}
    (hW : DataW.Whole enc P f.params.toList s.vars apart W args.toList ds gs before)
    (hres : ∀ (b : Nat) (sp : Nat → Bool) (hd : Bool), DataW.TrodAll enc P W' b sp hd f.resultTypes.toList (v.resultList f.resultTypes.size) (s.fn H (ds ++ gs)).results [])
    (hargs : ∀ sp : Nat → Bool, (∀ p ∈ before, sp p.block = true) → DataW.TrodAll enc P W' 0 sp true f.params.toList args.toList (s.fn H (ds ++ gs)).args pa)
    (hvars : ∀ sp : Nat → Bool, (∀ p ∈ before, sp p.block = true) → DataW.TrodVars enc P W' sp s.vars (s.fn H (ds ++ gs)).vars pv)
    (hps : before = pa ++ pv) (hb : Below W.heap.size W W') :
    s.post enc P f apart fresh handsOn false W args v W' := by
  have hold : ∀ p ∈ before, (fun b => decide (b < W.heap.size)) p.block = true := fun p hp => by simpa using hW.lt p hp
  refine ⟨ds, gs, before, [], pa, pv, hW, hres _ _ _, hargs _ hold, hvars _ hold, World.keptBut_mono (fun p hp => ⟨hp, ?_⟩) (hb.frame (· ∈ before)), fun h => by cases h⟩
  rw [hps, List.mem_append] at hp
  exact Or.inr hp

/-- An argument reads behind the call as it read before. -/
theorem again {H : Type} {enc : TypeId × Value → H} {W W' : World} {t : TypeId} {v : Value} {d : DataW H} {p : List MemPlace} {sp : Nat → Bool} (hr : Try.prog.readableRec t = true) (hrow : t < Try.prog.types.size)
    (h : DataW.Trod enc Try.prog W 0 (fun _ => true) true t v d p) (hb : Below W.heap.size W W') (hlt : ∀ x ∈ p, x.block < W.heap.size) (hsp : ∀ x ∈ p, sp x.block = true) :
    DataW.Trod enc Try.prog W' 0 sp true t v d p :=
  WideElems.Trod_stays laid_out hr hrow h (fun x hx => hb.same (hlt x hx)) hsp

theorem u64_of_wf {x : Int} (h : (Lit.int .u64 x).wf = true) : ∃ n : Nat, x = n ∧ n < 18446744073709551616 := by
  have h0 : 0 ≤ x ∧ x ≤ 18446744073709551615 := by simpa [Lit.wf, IntKind.min, IntKind.max, IntKind.signed, IntKind.bits] using h
  exact ⟨x.toNat, by omega, by omega⟩

theorem i64_of_wf {x : Int} (h : (Lit.int .i64 x).wf = true) : -9223372036854775808 ≤ x ∧ x < 9223372036854775808 := by
  have h0 : -9223372036854775808 ≤ x ∧ x ≤ 9223372036854775807 := by simpa [Lit.wf, IntKind.min, IntKind.max, IntKind.signed, IntKind.bits] using h
  omega

section
variable {H : Type} {enc : TypeId × Value → H} {W : World} {sp : Nat → Bool} {held : Bool} {base : Nat}

theorem cell_i64 {n : Nat} {v : Value} {x : DataW H × List MemPlace} (h : DataW.trod enc Try.prog W base sp held n 3 [v] = some x) : ∃ a : Int, v = .int .i64 a ∧ -9223372036854775808 ≤ a ∧ a < 9223372036854775808 := by
  cases n with
  | zero => simp [DataW.trod] at h
  | succ n =>
    simp only [DataW.trod, Try.underlying3] at h
    cases v <;> simp at h
    rename_i k a
    obtain ⟨⟨rfl, hw⟩, _⟩ := h
    exact ⟨a, rfl, i64_of_wf hw⟩

theorem cell_bool {n : Nat} {v : Value} {x : DataW H × List MemPlace} (h : DataW.trod enc Try.prog W base sp held n 4 [v] = some x) : ∃ a : Bool, v = .bool a := by
  cases n with
  | zero => simp [DataW.trod] at h
  | succ n =>
    simp only [DataW.trod, Try.underlying4] at h
    cases v <;> simp at h
    exact ⟨_, rfl⟩

theorem cell_u64 {n : Nat} {v : Value} {x : DataW H × List MemPlace} (h : DataW.trod enc Try.prog W base sp held n 22 [v] = some x) : ∃ a : Nat, v = .int .u64 a ∧ a < 18446744073709551616 := by
  cases n with
  | zero => simp [DataW.trod] at h
  | succ n =>
    simp only [DataW.trod, Try.underlying22] at h
    cases v <;> simp at h
    rename_i k a
    obtain ⟨⟨rfl, hw⟩, _⟩ := h
    obtain ⟨n, rfl, hn⟩ := u64_of_wf hw
    exact ⟨n, rfl, hn⟩

theorem cells_of_value {n : Nat} {cs : List Value} {x : DataW H × List MemPlace} (hl : cs.length = 2) (h : DataW.trod enc Try.prog W base sp held n 24 cs = some x) :
    ∃ v : Vl, cs = valF v ∧ v.ok := by
  obtain ⟨y0, y1, m, _, _, h0, h1⟩ := trod_struct2 Try.underlying24 h
  match cs, hl with
  | [a, b], _ =>
    simp only [cells_bool, cells_u64, List.drop_zero, List.drop_succ_cons, List.take_succ_cons, List.take_zero] at h0 h1
    obtain ⟨k, rfl⟩ := cell_bool h0
    obtain ⟨x, rfl, hx⟩ := cell_u64 h1
    exact ⟨⟨k, x⟩, rfl, hx⟩

theorem cells_of_flag {n : Nat} {cs : List Value} {x : DataW H × List MemPlace} (hl : cs.length = 1) (h : DataW.trod enc Try.prog W base sp held n 4 cs = some x) :
    ∃ b : Bool, cs = flagF b ∧ True := by
  match cs, hl with
  | [a], _ =>
    obtain ⟨k, rfl⟩ := cell_bool h
    exact ⟨k, rfl, trivial⟩

theorem cells_of_cell {n : Nat} {cs : List Value} {x : DataW H × List MemPlace} (hl : cs.length = 6) (h : DataW.trod enc Try.prog W base sp held n 26 cs = some x) :
    ∃ c : Cl, cs = [.int .u64 c.k, .bool c.p.h, .int .u64 c.p.b, .bool c.c.h, .int .u64 c.c.b, .int .i64 c.n] ∧ c.ok ∧ -9223372036854775808 ≤ c.n ∧ c.n < 9223372036854775808 := by
  obtain ⟨y0, y1, y2, y3, m, _, _, h0, h1, h2, h3⟩ := Go.Joins.trod_struct4 Try.underlying26 h
  match cs, hl with
  | [c0, c1, c2, c3, c4, c5], _ =>
    simp only [cells_int, cells_u64, cells_value, List.drop_zero, List.drop_succ_cons, List.take_succ_cons, List.take_zero] at h0 h1 h2 h3
    obtain ⟨k, rfl, _⟩ := cell_u64 h0
    obtain ⟨A, hA, oA⟩ := cells_of_value rfl h1
    obtain ⟨B, hB, oB⟩ := cells_of_value rfl h2
    obtain ⟨m, rfl, hm⟩ := cell_i64 h3
    simp only [valF, List.cons.injEq, and_true] at hA hB
    obtain ⟨rfl, rfl⟩ := hA
    obtain ⟨rfl, rfl⟩ := hB
    exact ⟨⟨k, A, B, m⟩, rfl, ⟨oA, oB⟩, hm⟩

theorem cells_of_act {n : Nat} {cs : List Value} {x : DataW H × List MemPlace} (hl : cs.length = 4) (h : DataW.trod enc Try.prog W base sp held n 30 cs = some x) :
    ∃ a : At, cs = actF a ∧ a.ok := by
  obtain ⟨y0, y1, y2, m, _, _, h0, h1, h2⟩ := Go.Deep.trod_struct3 Try.underlying30 h
  match cs, hl with
  | [c0, c1, c2, c3], _ =>
    simp only [cells_int, cells_value, List.drop_zero, List.drop_succ_cons, List.take_succ_cons, List.take_zero] at h0 h1 h2
    obtain ⟨a, rfl, _⟩ := cell_i64 h0
    obtain ⟨b, rfl, hb⟩ := cell_i64 h1
    obtain ⟨A, hA, oA⟩ := cells_of_value rfl h2
    simp only [valF, List.cons.injEq, and_true] at hA
    obtain ⟨rfl, rfl⟩ := hA
    exact ⟨⟨a, b, A⟩, rfl, oA, hb⟩

theorem cells_of_round {n : Nat} {cs : List Value} {x : DataW H × List MemPlace} (hl : cs.length = 6) (h : DataW.trod enc Try.prog W base sp held n 51 cs = some x) :
    ∃ r : Ro, cs = rouF r ∧ r.ok := by
  obtain ⟨y0, y1, y2, y3, m, _, _, h0, h1, h2, h3⟩ := Go.Joins.trod_struct4 Try.underlying51 h
  match cs, hl with
  | [c0, c1, c2, c3, c4, c5], _ =>
    simp only [cells_bool, cells_value, List.drop_zero, List.drop_succ_cons, List.take_succ_cons, List.take_zero] at h0 h1 h2 h3
    obtain ⟨A, hA, oA⟩ := cells_of_value rfl h0
    obtain ⟨B, hB, oB⟩ := cells_of_value rfl h1
    obtain ⟨f, rfl⟩ := cell_bool h2
    obtain ⟨g, rfl⟩ := cell_bool h3
    simp only [valF, List.cons.injEq, and_true] at hA hB
    obtain ⟨rfl, rfl⟩ := hA
    obtain ⟨rfl, rfl⟩ := hB
    exact ⟨⟨A, B, f, g⟩, rfl, oA, oB⟩
end

set_option maxRecDepth 20000 in
/-- A slice whose elements are opened by hopen. -/
theorem open_gen {α : Type} {H : Type} {enc : TypeId × Value → H} {W : World} {t e : TypeId} {n : Nat} {f : α → List Value} {ok : α → Prop} {v : Value} {d : DataW H} {p : List MemPlace} {fuel : Nat}
    (a0 : α) (ht : Try.prog.underlying t = some (.slice e)) (hc : Try.prog.cellsOf e = n) (hn : 0 < n) (hlenf : ∀ a, (f a).length = n)
    (hopen : ∀ {m : Nat} {cs : List Value} {x : DataW H × List MemPlace}, cs.length = n → DataW.trod enc Try.prog W 0 (fun _ => true) true m e cs = some x → ∃ a, cs = f a ∧ ok a)
    (hf : DataW.trod enc Try.prog W 0 (fun _ => true) true fuel t [v] = some (d, p)) :
    ∃ l : List α, Gv W v n f l ∧ (∀ o ∈ l, ok o) ∧ ((d = .nil ∧ l = []) ∨ ∃ elems spare, d = .slice elems spare ∧ elems.length = l.length) := by
  rcases Go.Deep.open_slice ht hf with ⟨hcs, hx⟩ | ⟨a, len, cap, m, k, D, Pl, hcs, _, hl, hm, hmm, hx, hel⟩
  · simp only [List.cons.injEq, and_true] at hcs
    subst hcs
    simp only [Prod.mk.injEq] at hx
    exact ⟨[], ⟨none, 0, rfl, by simp, by simp [maxLen], by simp, fun i hi => by simp at hi⟩, by simp, .inl ⟨hx.1, rfl⟩⟩
  · simp only [List.cons.injEq, and_true] at hcs
    subst hcs
    simp only [if_true] at hmm
    simp only [Prod.mk.injEq] at hx
    rw [hc] at hel
    have each : ∀ i, ∃ o : α, i < len → (∀ j, j < n → W.cell? (a.add (i * n + j)) = (f o)[j]?) ∧ ok o := by
      intro i
      by_cases hi : i < len
      · obtain ⟨cs', h1, h2⟩ := hel i (by omega)
        obtain ⟨_, hlen, hcell⟩ := World.cells?_some h1
        obtain ⟨o, rfl, hok⟩ := hopen hlen h2
        refine ⟨o, fun _ => ⟨fun j hj => ?_, hok⟩⟩
        have e0 := hcell j hj
        rw [Go.Deep.add_add] at e0
        exact e0
      · exact ⟨a0, fun h => absurd h hi⟩
    obtain ⟨X, hX⟩ : ∃ X : Nat → α, ∀ i, i < len → (∀ j, j < n → W.cell? (a.add (i * n + j)) = (f (X i))[j]?) ∧ ok (X i) := ⟨fun i => (each i).choose, fun i => (each i).choose_spec⟩
    clear each hel
    refine ⟨(List.range len).map X, ⟨some a, cap, by simp, by simpa using hl, hm, by simp, ?_⟩, ?_, .inr ⟨_, _, hx.1, by simp⟩⟩
    · intro i hi
      simp at hi
      have h0 := (hX 0 (by omega)).1 0 hn
      have h1 : (f (X 0))[0]? = some ((f (X 0))[0]'(by rw [hlenf]; exact hn)) := List.getElem?_eq_getElem _
      rw [h1] at h0
      obtain ⟨b, off, spot⟩ := a
      have hs1 : spot = none := by simpa [Addr.add] using World.cell?_spot h0
      subst hs1
      refine ⟨b, off, rfl, fun j hj => ?_⟩
      have h2 := (hX i hi).1 j hj
      rw [WideShapes.add_plain] at h2
      simpa using h2
    · intro o ho
      simp only [List.mem_map, List.mem_range] at ho
      obtain ⟨i, hi, rfl⟩ := ho
      exact (hX i hi).2

/-- A slice among the arguments, opened. -/
theorem open_arg {α : Type} {H : Type} {enc : TypeId × Value → H} {W : World} {t e : TypeId} {n : Nat} {f : α → List Value} {ok : α → Prop} {v : Value} {d : DataW H} {p : List MemPlace} {base : Nat}
    (a0 : α) (ht : Try.prog.underlying t = some (.slice e)) (hc : Try.prog.cellsOf e = n) (hn : 0 < n) (hlenf : ∀ a, (f a).length = n)
    (hopen : ∀ {m : Nat} {cs : List Value} {x : DataW H × List MemPlace}, cs.length = n → DataW.trod enc Try.prog W 0 (fun _ => true) true m e cs = some x → ∃ a, cs = f a ∧ ok a)
    (hv : Value.okWide Try.prog W .any base t v) (h : DataW.Trod enc Try.prog W 0 (fun _ => true) true t v d p) :
    ∃ l : List α, Gv W v n f l ∧ (∀ o ∈ l, ok o) ∧ ((d = .nil ∧ l = []) ∨ ∃ elems spare, d = .slice elems spare ∧ elems.length = l.length) := by
  obtain ⟨ao, len0, cap0, rfl⟩ := okWide_slice ht hv
  obtain ⟨fuel, hf⟩ := h
  exact open_gen a0 ht hc hn hlenf hopen (by simpa [Value.cells] using hf)

/-- A cell by value, opened. -/
theorem open_cell {H : Type} {enc : TypeId × Value → H} {W : World} {v : Value} {d : DataW H} {p : List MemPlace} {base : Nat}
    (hv : Value.okWide Try.prog W .any base 26 v) (h : DataW.Trod enc Try.prog W 0 (fun _ => true) true 26 v d p) :
    ∃ c : Cl, v = .agg #[.int .u64 c.k, .bool c.p.h, .int .u64 c.p.b, .bool c.c.h, .int .u64 c.c.b, .int .i64 c.n] ∧ c.ok ∧ -9223372036854775808 ≤ c.n ∧ c.n < 9223372036854775808 := by
  obtain ⟨cs, rfl, hsz⟩ := okWide_struct Try.underlying26 hv
  obtain ⟨fuel, hf⟩ := h
  obtain ⟨c, hr, hok⟩ := cells_of_cell (by simpa [Value.cells, cells_cell] using hsz) hf
  refine ⟨c, ?_, hok⟩
  have : cs = #[.int .u64 c.k, .bool c.p.h, .int .u64 c.p.b, .bool c.c.h, .int .u64 c.c.b, .int .i64 c.n] := by
    apply Array.toList_inj.1
    simpa [Value.cells] using hr
  rw [this]

/-- An act by value, opened. -/
theorem open_act {H : Type} {enc : TypeId × Value → H} {W : World} {v : Value} {d : DataW H} {p : List MemPlace} {base : Nat}
    (hv : Value.okWide Try.prog W .any base 30 v) (h : DataW.Trod enc Try.prog W 0 (fun _ => true) true 30 v d p) :
    ∃ a : At, v = .agg #[.int .i64 a.a, .int .i64 a.b, .bool a.v.h, .int .u64 a.v.b] ∧ a.ok := by
  obtain ⟨cs, rfl, hsz⟩ := okWide_struct Try.underlying30 hv
  obtain ⟨fuel, hf⟩ := h
  obtain ⟨a, hr, hok⟩ := cells_of_act (by simpa [Value.cells, cells_act] using hsz) hf
  refine ⟨a, ?_, hok⟩
  have : cs = #[.int .i64 a.a, .int .i64 a.b, .bool a.v.h, .int .u64 a.v.b] := by
    apply Array.toList_inj.1
    simpa [Value.cells, actF] using hr
  rw [this]

theorem trod_struct5 {H : Type} {enc : TypeId × Value → H} {P : Program} {w : World} {base : Nat} {spare : Nat → Bool} {held : Bool} {t : TypeId} {f0 f1 f2 f3 f4 : Field} {fuel : Nat} {cs : List Value} {x : DataW H × List MemPlace} (ht : P.underlying t = some (.struct #[f0, f1, f2, f3, f4])) (h : DataW.trod enc P w base spare held fuel t cs = some x) :
    ∃ y0 y1 y2 y3 y4 n, DataW.trod enc P w base spare held n f0.type ((cs.drop f0.offset).take (P.cellsOf f0.type)) = some y0 ∧
      DataW.trod enc P w base spare held n f1.type ((cs.drop f1.offset).take (P.cellsOf f1.type)) = some y1 ∧ DataW.trod enc P w base spare held n f2.type ((cs.drop f2.offset).take (P.cellsOf f2.type)) = some y2 ∧
      DataW.trod enc P w base spare held n f3.type ((cs.drop f3.offset).take (P.cellsOf f3.type)) = some y3 ∧ DataW.trod enc P w base spare held n f4.type ((cs.drop f4.offset).take (P.cellsOf f4.type)) = some y4 := by
  obtain ⟨xs, n, _, _, _, hlen, hf⟩ := DataW.trod_struct ht h
  match xs, hlen with
  | [y0, y1, y2, y3, y4], _ => exact ⟨y0, y1, y2, y3, y4, n, by simpa using hf 0 f0 rfl, by simpa using hf 1 f1 rfl, by simpa using hf 2 f2 rfl, by simpa using hf 3 f3 rfl, by simpa using hf 4 f4 rfl⟩

set_option maxRecDepth 20000 in
/-- Attempts by value, opened. -/
theorem open_att {H : Type} {enc : TypeId × Value → H} {W : World} {v : Value} {d : DataW H} {p : List MemPlace} {base : Nat}
    (hv : Value.okWide Try.prog W .any base 43 v) (h : DataW.Trod enc Try.prog W 0 (fun _ => true) true 43 v d p) :
    ∃ (k : Int) (c : Cl) (b : Int) (pv bv : Value) (ps : List Vl) (bs : List Bool), v = .agg #[.int .i64 k, .int .u64 c.k, .bool c.p.h, .int .u64 c.p.b, .bool c.c.h, .int .u64 c.c.b, .int .i64 c.n, .int .i64 b, pv, bv] ∧ c.ok ∧ (-9223372036854775808 ≤ b ∧ b < 9223372036854775808) ∧ Gv W pv 2 valF ps ∧ Gv W bv 1 flagF bs ∧ (∀ o ∈ ps, o.ok) := by
  obtain ⟨cs, rfl, hsz⟩ := okWide_struct Try.underlying43 hv
  obtain ⟨fuel, hf⟩ := h
  obtain ⟨y0, y1, y2, y3, y4, n, h0, h1, h2, h3, h4⟩ := trod_struct5 Try.underlying43 hf
  have hl10 : cs.toList.length = 10 := by simpa [Value.cells, cells_att] using hsz
  obtain ⟨l⟩ := cs
  match l, hl10 with
  | [c0, c1, c2, c3, c4, c5, c6, c7, c8, c9], _ =>
    simp only [Value.cells, cells_int, cells_cell, cells_sv, cells_sb, List.drop_zero, List.drop_succ_cons, List.take_succ_cons, List.take_zero] at h0 h1 h2 h3 h4
    obtain ⟨k, rfl, _⟩ := cell_i64 h0
    obtain ⟨c, hC, oC, _⟩ := cells_of_cell rfl h1
    obtain ⟨b, rfl, hb⟩ := cell_i64 h2
    obtain ⟨ps, hps, ops, _⟩ := open_gen noV Try.underlying40 cells_value (by omega) (fun _ => rfl) cells_of_value h3
    obtain ⟨bs, hbs, _, _⟩ := open_gen false Try.underlying41 cells_bool (by omega) (fun _ => rfl) cells_of_flag h4
    simp only [List.cons.injEq, and_true] at hC
    obtain ⟨rfl, rfl, rfl, rfl, rfl, rfl⟩ := hC
    exact ⟨k, c, b, c8, c9, ps, bs, rfl, oC, hb, hps, hbs, ops⟩
end Go.Proofs.Ytnppgeokbhecfaa
