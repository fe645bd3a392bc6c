/- From the walk to the row: slices of bytes, of ints and of slices among the arguments, opened; and that they read behind the call as before where nothing old has turned. -/
import Derived.Test.YtnnammlipfappaaRows

import Derived.Test.YtnnammlipfappaaWb

import Derived.WalkKit

import Derived.ProofKit

import Derived.OpenShut

import Derived.Carry

import Derived.Deep.Slices

namespace Go.Proofs.Ytnnammlipfappaa

open Go.ChangeShapes Go.WideShapes Go.ChangeAt Go.RowKit



theorem own_knob : ownKnob Try.prog.godebug = none := by kernel_rfl
theorem cells_u8 : Try.prog.cellsOf 5 = 1 := by kernel_rfl
theorem cells_int : Try.prog.cellsOf 3 = 1 := by kernel_rfl
theorem laid_out : laidOutB Try.prog = true := by kernel_rfl


/-- What the law's row asks, where nothing old has turned. -/
theorem post_of_below {H : Type} {enc : TypeId × Value → H} {P : Program} {f : Func} {s : ChangeSpec} {apart fresh handsOn : Bool} {W W' : World} {args : Array Value} {v : Value} {ds gs : List (DataW H)} {before pa pv : List MemPlace}
    (hW : DataW.Whole enc P f.params.toList s.vars apart W args.toList ds gs before)
    (hres : ∀ (b : Nat) (sp : Nat → Bool) (hd : Bool), DataW.TrodAll enc P W' b sp hd f.resultTypes.toList (v.resultList f.resultTypes.size) (s.fn H (ds ++ gs)).results [])
    (hargs : ∀ sp : Nat → Bool, (∀ p ∈ before, sp p.block = true) → DataW.TrodAll enc P W' 0 sp true f.params.toList args.toList (s.fn H (ds ++ gs)).args pa)
    (hvars : ∀ sp : Nat → Bool, (∀ p ∈ before, sp p.block = true) → DataW.TrodVars enc P W' sp s.vars (s.fn H (ds ++ gs)).vars pv)
    (hps : before = pa ++ pv) (hb : Below W.heap.size W W') :
    s.post enc P f apart fresh handsOn false W args v W' := by
  have hold : ∀ p ∈ before, (fun b => decide (b < W.heap.size)) p.block = true := fun p hp => by simpa using hW.lt p hp
  refine ⟨ds, gs, before, [], pa, pv, hW, hres _ _ _, hargs _ hold, hvars _ hold, World.keptBut_mono (fun p hp => ⟨hp, ?_⟩) (hb.frame (· ∈ before)), fun h => by cases h⟩
  rw [hps, List.mem_append] at hp
  exact Or.inr hp


/-- An argument reads behind the call as it read before. -/
theorem again {H : Type} {enc : TypeId × Value → H} {W W' : World} {t : TypeId} {v : Value} {d : DataW H} {p : List MemPlace} {sp : Nat → Bool} (hr : Try.prog.readableRec t = true) (hrow : t < Try.prog.types.size)
    (h : DataW.Trod enc Try.prog W 0 (fun _ => true) true t v d p) (hb : Below W.heap.size W W') (hlt : ∀ x ∈ p, x.block < W.heap.size) (hsp : ∀ x ∈ p, sp x.block = true) :
    DataW.Trod enc Try.prog W' 0 sp true t v d p :=
  WideElems.Trod_stays laid_out hr hrow h (fun x hx => hb.same (hlt x hx)) hsp


/-- A slice of numbers of kind k, opened: off its one cell. -/
theorem open_sv_raw {H : Type} {enc : TypeId × Value → H} {W : World} {v : Value} {d : DataW H} {p : List MemPlace} {t e : TypeId} {k : IntKind} {fuel : Nat} (ht : Try.prog.underlying t = some (.slice e)) (he : Try.prog.underlying e = some (.int k))
    (hc : Try.prog.cellsOf e = 1) (hf : DataW.trod enc Try.prog W 0 (fun _ => true) true fuel t [v] = some (d, p)) :
    ∃ l : List Int, Sv k W v l ∧ (∀ x ∈ l, (Lit.int k x).wf = true) ∧ ((d = .nil ∧ l = []) ∨ ∃ elems spare, d = .slice elems spare ∧ elems.length = l.length) := by
  rcases Go.Deep.open_slice1 ht hc hf with ⟨hcs, hx⟩ | ⟨a, len, cap, m, n, V, D, Pl, hcs, _, hl, hm, hmm, hx, hel⟩
  · simp only [List.cons.injEq, and_true] at hcs
    subst hcs
    simp only [Prod.mk.injEq] at hx
    exact ⟨[], Sv.nil k W, by simp, .inl ⟨hx.1, rfl⟩⟩
  · simp only [List.cons.injEq, and_true] at hcs
    subst hcs
    simp only [if_true] at hmm
    simp only [Prod.mk.injEq] at hx
    have each : ∀ i, ∃ x, i < len → W.cell? (a.add i) = some (.int k x) ∧ (Lit.int k x).wf = true := by
      intro i
      by_cases hi : i < len
      · obtain ⟨h1, h2⟩ := hel i (by omega)
        cases n with
        | zero => simp [DataW.trod] at h2
        | succ n =>
          rw [h1]
          simp only [DataW.trod, he] at h2
          generalize V i = v at *
          cases v <;> simp at h2
          rename_i k' x
          obtain ⟨⟨rfl, hw⟩, _⟩ := h2
          exact ⟨x, fun _ => ⟨rfl, hw⟩⟩
      · exact ⟨0, fun h => absurd h hi⟩
    obtain ⟨X, hX⟩ : ∃ X : Nat → Int, ∀ i, i < len → W.cell? (a.add i) = some (.int k (X i)) ∧ (Lit.int k (X i)).wf = true := ⟨fun i => (each i).choose, fun i => (each i).choose_spec⟩
    clear each hel
    refine ⟨(List.range len).map X, ⟨some a, cap, by simp, by simpa using hl, hm, by simp, ?_⟩, ?_, .inr ⟨_, _, hx.1, by simp⟩⟩
    · intro i hi
      simp at hi
      have h0 := (hX 0 (by omega)).1
      obtain ⟨h1, h2⟩ := hX i hi
      obtain ⟨b, off, spot⟩ := a
      have hs1 : spot = none := by simpa [Addr.add] using World.cell?_spot h0
      subst hs1
      refine ⟨b, off, rfl, ?_⟩
      rw [WideShapes.add_plain] at h1
      rw [h1]
      simp [List.getD, hi]
    · intro x hx
      simp only [List.mem_map, List.mem_range] at hx
      obtain ⟨i, hi, rfl⟩ := hx
      exact (hX i hi).2


set_option maxRecDepth 20000 in
/-- A slice of numbers of kind k among the arguments, opened. -/
theorem open_sv {H : Type} {enc : TypeId × Value → H} {W : World} {v : Value} {d : DataW H} {p : List MemPlace} {t e : TypeId} {k : IntKind} {base : Nat} (ht : Try.prog.underlying t = some (.slice e)) (he : Try.prog.underlying e = some (.int k))
    (hc : Try.prog.cellsOf e = 1) (hv : Value.okWide Try.prog W .any base t v) (h : DataW.Trod enc Try.prog W 0 (fun _ => true) true t v d p) :
    ∃ l : List Int, Sv k W v l ∧ (∀ x ∈ l, (Lit.int k x).wf = true) ∧ ((d = .nil ∧ l = []) ∨ ∃ elems spare, d = .slice elems spare ∧ elems.length = l.length) := by
  obtain ⟨ao, len, cap, rfl⟩ := okWide_slice ht hv
  obtain ⟨fuel, hf⟩ := h
  exact open_sv_raw ht he hc (fuel := fuel) hf


/-- Numbers of kind u8 are bytes. -/
theorem bytes_of {W : World} {v : Value} {l : List Int} (h : Sv .u8 W v l) (hw : ∀ x ∈ l, (Lit.int .u8 x).wf = true) : ∃ r : List Nat, Bv W v r ∧ r.length = l.length := by
  have h0 : ∀ x ∈ l, 0 ≤ x ∧ x ≤ 255 := fun x hx => by simpa [Lit.wf, IntKind.min, IntKind.max, IntKind.signed, IntKind.bits] using hw x hx
  have e : ib (l.map Int.toNat) = l := by
    unfold ib
    rw [List.map_map]
    conv => rhs; rw [← List.map_id l]
    refine List.map_congr_left fun x hx => ?_
    have := h0 x hx
    simp; omega
  refine ⟨l.map Int.toNat, ⟨by rw [e]; exact h, ?_⟩, by simp⟩
  intro c hc
  obtain ⟨x, hx, rfl⟩ := List.mem_map.1 hc
  have := h0 x hx
  omega


set_option maxRecDepth 20000 in
/-- A slice of bytes among the arguments, opened. -/
theorem open_bv {H : Type} {enc : TypeId × Value → H} {W : World} {v : Value} {d : DataW H} {p : List MemPlace} {base : Nat}
    (hv : Value.okWide Try.prog W .any base 57 v) (h : DataW.Trod enc Try.prog W 0 (fun _ => true) true 57 v d p) :
    ∃ l : List Nat, Bv W v l ∧ ((d = .nil ∧ l = []) ∨ ∃ elems spare, d = .slice elems spare ∧ elems.length = l.length) := by
  obtain ⟨l, h1, h2, h3⟩ := open_sv Try.underlying57 Try.underlying5 cells_u8 hv h
  obtain ⟨r, h4, h5⟩ := bytes_of h1 h2
  refine ⟨r, h4, ?_⟩
  rcases h3 with ⟨e1, rfl⟩ | ⟨el, sp, e1, e2⟩
  · exact .inl ⟨e1, List.eq_nil_of_length_eq_zero (by simpa using h5)⟩
  · exact .inr ⟨el, sp, e1, by rw [e2, h5]⟩


theorem u64_of_wf {x : Int} (h : (Lit.int .u64 x).wf = true) : ∃ n : Nat, x = n ∧ n < 18446744073709551616 := by
  have h0 : 0 ≤ x ∧ x ≤ 18446744073709551615 := by simpa [Lit.wf, IntKind.min, IntKind.max, IntKind.signed, IntKind.bits] using h
  exact ⟨x.toNat, by omega, by omega⟩


theorem i64_of_wf {x : Int} (h : (Lit.int .i64 x).wf = true) : -9223372036854775808 ≤ x ∧ x < 9223372036854775808 := by
  have h0 : -9223372036854775808 ≤ x ∧ x ≤ 9223372036854775807 := by simpa [Lit.wf, IntKind.min, IntKind.max, IntKind.signed, IntKind.bits] using h
  omega
end Go.Proofs.Ytnnammlipfappaa


