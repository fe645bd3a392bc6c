/- From the walk to the row: a script of calls among the arguments, opened; its size. -/
import Derived.Test.YtnnammlipfappaaJz

import Derived.Test.YtnnammlipfappaaRx

import Derived.Test.YtnnammlipfappaaRq

import Derived.SizedLaws

namespace Go.Proofs.Ytnnammlipfappaa

open Go.ChangeShapes Go.WideShapes Go.ChangeAt Go.RowKit



theorem cells_oj : Try.prog.cellsOf 43 = 6 := by kernel_rfl
theorem cells_note : Try.prog.cellsOf 41 = 4 := by kernel_rfl
theorem cells_triple : Try.prog.cellsOf 39 = 3 := by kernel_rfl
theorem trod_struct3 {H : Type} {enc : TypeId × Value → H} {P : Program} {w : World} {base : Nat} {spare : Nat → Bool} {held : Bool} {t : TypeId} {f0 f1 f2 : Field} {fuel : Nat} {cs : List Value} {x : DataW H × List MemPlace} (ht : P.underlying t = some (.struct #[f0, f1, f2])) (h : DataW.trod enc P w base spare held fuel t cs = some x) :
    ∃ y0 y1 y2 n, DataW.trod enc P w base spare held n f0.type ((cs.drop f0.offset).take (P.cellsOf f0.type)) = some y0 ∧
      DataW.trod enc P w base spare held n f1.type ((cs.drop f1.offset).take (P.cellsOf f1.type)) = some y1 ∧
      DataW.trod enc P w base spare held n f2.type ((cs.drop f2.offset).take (P.cellsOf f2.type)) = some y2 := by
  obtain ⟨xs, n, _, _, _, hlen, hf⟩ := DataW.trod_struct ht h
  match xs, hlen with
  | [y0, y1, y2], _ => exact ⟨y0, y1, y2, n, by simpa using hf 0 f0 rfl, by simpa using hf 1 f1 rfl, by simpa using hf 2 f2 rfl⟩
theorem trod_struct2 {H : Type} {enc : TypeId × Value → H} {P : Program} {w : World} {base : Nat} {spare : Nat → Bool} {held : Bool} {t : TypeId} {f0 f1 : Field} {fuel : Nat} {cs : List Value} {x : DataW H × List MemPlace} (ht : P.underlying t = some (.struct #[f0, f1])) (h : DataW.trod enc P w base spare held fuel t cs = some x) :
    ∃ y0 y1 n, DataW.trod enc P w base spare held n f0.type ((cs.drop f0.offset).take (P.cellsOf f0.type)) = some y0 ∧
      DataW.trod enc P w base spare held n f1.type ((cs.drop f1.offset).take (P.cellsOf f1.type)) = some y1 := by
  obtain ⟨xs, n, _, _, _, hlen, hf⟩ := DataW.trod_struct ht h
  match xs, hlen with
  | [y0, y1], _ => exact ⟨y0, y1, n, by simpa using hf 0 f0 rfl, by simpa using hf 1 f1 rfl⟩
set_option maxRecDepth 20000 in
/-- A call's cells, opened. -/
theorem cells_of_oj {H : Type} {enc : TypeId × Value → H} {W : World} {cs : List Value} {fuel : Nat} {y : DataW H × List MemPlace} (hl : cs.length = 6) (hf : DataW.trod enc Try.prog W 0 (fun _ => true) true fuel 43 cs = some y) :
    ∃ (pv cv : Value) (x : Oj), cs = [.int .i64 x.k, .int .i64 x.n, .int .i64 x.t.b, pv, cv, .int .i64 x.t.a] ∧ Nv W pv x.t.p ∧ Nv W cv x.t.c ∧ (-9223372036854775808 ≤ x.t.b ∧ x.t.b < 9223372036854775808) ∧ x.n < 9223372036854775808 := by
  obtain ⟨y0, y1, y2, m, h0, h1, h2⟩ := trod_struct3 Try.underlying43 hf
  match cs, hl with
  | [c0, c1, c2, c3, c4, c5], _ =>
    simp only [cells_int, cells_note, List.drop_zero, List.drop_succ_cons, List.take_succ_cons, List.take_zero] at h0 h1 h2
    obtain ⟨k, rfl, _⟩ := cell_i64 Try.underlying3 h0
    obtain ⟨n, rfl, hn⟩ := cell_i64 Try.underlying3 h1
    obtain ⟨z0, z1, m2, g0, g1⟩ := trod_struct2 Try.underlying41 h2
    simp only [cells_int, cells_triple, List.drop_zero, List.drop_succ_cons, List.take_succ_cons, List.take_zero] at g0 g1
    obtain ⟨a, rfl, _⟩ := cell_i64 Try.underlying3 g1
    obtain ⟨u0, u1, u2, m3, f0, f1, f2⟩ := trod_struct3 Try.underlying39 g0
    simp only [cells_int, cells_ints, List.drop_zero, List.drop_succ_cons, List.take_succ_cons, List.take_zero] at f0 f1 f2
    obtain ⟨b, rfl, hb⟩ := cell_i64 Try.underlying3 f0
    obtain ⟨pv, pl, e1, hp, _⟩ := core_nv f1
    obtain ⟨cv, cl, e2, hc, _⟩ := core_nv f2
    simp only [List.cons.injEq, and_true] at e1 e2
    subst e1 e2
    exact ⟨c3, c4, ⟨k, n, ⟨b, pl, cl, a⟩⟩, rfl, hp, hc, hb, hn.2⟩
set_option maxRecDepth 20000 in
/-- A slice of calls among the arguments, opened. -/
theorem open_script {H : Type} {enc : TypeId × Value → H} {W : World} {v : Value} {d : DataW H} {p : List MemPlace} {base : Nat}
    (hv : Value.okWide Try.prog W .any base 22 v) (h : DataW.Trod enc Try.prog W 0 (fun _ => true) true 22 v d p) :
    ∃ l : List Oj, Scr W v l ∧ Szd d l := by
  obtain ⟨ao, len0, cap0, rfl⟩ := okWide_slice Try.underlying22 hv
  obtain ⟨fuel, hf⟩ := h
  rcases Go.Deep.open_slice Try.underlying22 hf with ⟨hcs, hx⟩ | ⟨a, len, cap, m, n, D, Pl, hcs, _, hl, hm, hmm, hx, hel⟩
  · simp [Value.cells] at hcs
    obtain ⟨rfl, rfl, rfl⟩ := hcs
    exact ⟨[], ⟨none, 0, rfl, by simp, by simp [maxLen], fun i hi => by simp at hi⟩, .inl ⟨congrArg Prod.fst hx, rfl⟩⟩
  · simp [Value.cells] at hcs
    obtain ⟨rfl, rfl, rfl⟩ := hcs
    simp only [if_true] at hmm
    have each : ∀ i, ∃ o : (Value × Value) × Oj, i < len0 → W.cell? (a.add (i * 6)) = some (.int .i64 o.2.k) ∧ W.cell? (a.add (i * 6 + 1)) = some (.int .i64 o.2.n) ∧ W.cell? (a.add (i * 6 + 2)) = some (.int .i64 o.2.t.b) ∧ W.cell? (a.add (i * 6 + 3)) = some o.1.1 ∧ W.cell? (a.add (i * 6 + 4)) = some o.1.2 ∧ W.cell? (a.add (i * 6 + 5)) = some (.int .i64 o.2.t.a) ∧ Nv W o.1.1 o.2.t.p ∧ Nv W o.1.2 o.2.t.c ∧ (-9223372036854775808 ≤ o.2.t.b ∧ o.2.t.b < 9223372036854775808) ∧ o.2.n < 9223372036854775808 := by
      intro i
      by_cases hi : i < len0
      · obtain ⟨cs', h1, h2⟩ := hel i (by omega)
        rw [cells_oj] at h1
        obtain ⟨_, hlen, hcell⟩ := World.cells?_some h1
        obtain ⟨pv, cv, x, rfl, hp, hc, hb, hn⟩ := cells_of_oj hlen h2
        have e0 := hcell 0 (by omega)
        have e1 := hcell 1 (by omega)
        have e2 := hcell 2 (by omega)
        have e3 := hcell 3 (by omega)
        have e4 := hcell 4 (by omega)
        have e5 := hcell 5 (by omega)
        rw [Go.Deep.add_add] at e0 e1 e2 e3 e4 e5
        exact ⟨⟨⟨pv, cv⟩, x⟩, fun _ => ⟨by simpa using e0, by simpa using e1, by simpa using e2, by simpa using e3, by simpa using e4, by simpa using e5, hp, hc, hb, hn⟩⟩
      · exact ⟨⟨⟨undef, undef⟩, zeroOj⟩, fun h => absurd h hi⟩
    obtain ⟨X, hX⟩ : ∃ X : Nat → (Value × Value) × Oj, ∀ i, i < len0 → W.cell? (a.add (i * 6)) = some (.int .i64 (X i).2.k) ∧ W.cell? (a.add (i * 6 + 1)) = some (.int .i64 (X i).2.n) ∧ W.cell? (a.add (i * 6 + 2)) = some (.int .i64 (X i).2.t.b) ∧ W.cell? (a.add (i * 6 + 3)) = some (X i).1.1 ∧ W.cell? (a.add (i * 6 + 4)) = some (X i).1.2 ∧ W.cell? (a.add (i * 6 + 5)) = some (.int .i64 (X i).2.t.a) ∧ Nv W (X i).1.1 (X i).2.t.p ∧ Nv W (X i).1.2 (X i).2.t.c ∧ (-9223372036854775808 ≤ (X i).2.t.b ∧ (X i).2.t.b < 9223372036854775808) ∧ (X i).2.n < 9223372036854775808 := ⟨fun i => (each i).choose, fun i => (each i).choose_spec⟩
    clear each hel
    refine ⟨(List.range len0).map (fun i => (X i).2), ⟨some a, cap0, by simp, by simpa using hl, hm, ?_⟩, .inr ⟨_, _, congrArg Prod.fst hx, by simp⟩⟩
    intro i hi
    simp at hi
    obtain ⟨h0, _⟩ := hX 0 (by omega)
    obtain ⟨g0, g1, g2, g3, g4, g5, hp, hc, hb, hn⟩ := hX i hi
    obtain ⟨b, off, spot⟩ := a
    have hs1 : spot = none := by simpa [Addr.add] using World.cell?_spot h0
    subst hs1
    rw [WideShapes.add_plain] at g0 g1 g2 g3 g4 g5
    have ht : ojt ((List.range len0).map (fun i => (X i).2)) i = (X i).2 := by unfold ojt; rw [List.getD_eq_getElem?_getD]; simp [hi]
    rw [ht]
    exact ⟨b, off, (X i).1.1, (X i).1.2, rfl, g0, by simpa [Nat.add_assoc] using g1, by simpa [Nat.add_assoc] using g2, by simpa [Nat.add_assoc] using g3, by simpa [Nat.add_assoc] using g4, by simpa [Nat.add_assoc] using g5, hp, hc, hb, hn⟩
theorem bytes_oj : Try.prog.bytesOf 43 = 80 := by kernel_rfl
theorem size_script {H : Type} {ts : List TypeId} {ds : List (DataW H)} {d : DataW H} {l : List Oj} (h : (DataW.weightsEach Try.prog ts ds).all (· ≤ reachBytes) = true) {j : Nat} (ht : ts[j]? = some 22) (hd : ds[j]? = some d) (hz : Szd d l) : l.length ≤ 140737488355328 := by
  rcases hz with ⟨_, rfl⟩ | ⟨elems, spare, rfl, hl⟩
  · simp
  · have := sized_slice h ht hd Try.underlying22
    rw [bytes_oj] at this
    simp only [reachBytes] at this
    omega
end Go.Proofs.Ytnnammlipfappaa


/- JournalExact: over every script the program's journal answers as the reference's.
-/
namespace Go.Proofs.Ytnnammlipfappaa

open Go.ChangeShapes Go.WideShapes Go.ChangeAt Go.RowKit



set_option maxRecDepth 100000 in
theorem lifted_journalExact (os : Os) (started : os.Started) (H : Type) (enc : TypeId × Value → H) :
    ReturnsInHanded {} Try.checked os 3 .any (Rows.journalExactSpec.pre6 enc Try.prog Try.f3 Rows.journalExactRow.domain false) (Rows.journalExactSpec.post enc Try.prog Try.f3 false true false false) := by
  refine returnsInHanded_of_change_sized (C := Try.checked) own_knob started (by kernel_rfl) Try.func3
    (ChangeSpec.witness6 (enc := enc) (C := Try.checked) false ⟨#[], #[.int .i64 0, .int .i64 0, .slice none 0 0], []⟩ 8 (by kernel_rfl) (by kernel_rfl) (by kernel_rfl) (by kernel_rfl)) ?_
  intro W base args ds gs before hval0 hW hcnd hsz0 _
  have hval : ∀ (j : Nat) t v, Try.f3.params[j]? = some t → args[j]? = some v → Value.okWide Try.prog W .any base t v := hval0
  have hW' := hW
  obtain ⟨p, q, hA0, hV, rfl, hfz, hnd⟩ := hW
  have hA : DataW.TrodAll enc Try.prog W 0 (fun _ => true) true Try.f3.params.toList args.toList ds p := hA0
  have hsz : (DataW.weightsEach Try.prog (Try.f3.params.toList ++ Rows.journalExactSpec.plain.varTypes Try.prog) (ds ++ gs)).all (· ≤ reachBytes) = true := hsz0
  rw [Try.params3] at hA hval hsz
  obtain ⟨v0, vs0, d0, ds0, p0, q0, hargs, rfl, rfl, t0, r0⟩ := trodAll_cons hA
  obtain ⟨v1, vs1, d1, ds1, p1, q1, rfl, rfl, rfl, t1, r1⟩ := trodAll_cons r0
  obtain ⟨v2, vs2, d2, ds2, p2, q2, rfl, rfl, rfl, t2, r2⟩ := trodAll_cons r1
  obtain ⟨rfl, rfl, rfl⟩ := trodAll_nil r2
  obtain rfl : args = #[v0, v1, v2] := by cases args; simp_all
  obtain ⟨rfl, rfl⟩ := trodVars_none hV
  simp only [List.append_nil] at hW' hsz
  have o0 := open_int Try.underlying3 (hval 0 3 v0 rfl rfl) t0
  obtain ⟨a0, e0, _, _, wf0⟩ := o0
  have w0 := i64_of_wf wf0
  subst e0
  have o1 := open_int Try.underlying3 (hval 1 3 v1 rfl rfl) t1
  obtain ⟨a1, e1, _, _, wf1⟩ := o1
  have w1 := i64_of_wf wf1
  subst e1
  obtain ⟨l2, b2, z2⟩ := open_script (hval 2 22 v2 rfl rfl) t2
  have hlen := size_script (j := 2) hsz rfl rfl z2
  refine (journalexact_walk a0 a1 b2 hlen).mono fun e W' ⟨he, hB⟩ => ?_
  subst he
  exact ⟨_, rfl, post_of_below (pv := []) hW' (fun _ _ _ => (trodAll_cons_mk (shut_bool Try.underlying4 _) trodAll_mk0)) (fun sp hsp => (trodAll_cons_mk (again (by kernel_rfl) (of_decide_eq_true (by kernel_rfl)) t0 hB (fun x hx => by simpa using hW'.lt x (by simp [hx])) (fun x hx => hsp x (by simp [hx]))) (trodAll_cons_mk (again (by kernel_rfl) (of_decide_eq_true (by kernel_rfl)) t1 hB (fun x hx => by simpa using hW'.lt x (by simp [hx])) (fun x hx => hsp x (by simp [hx]))) (trodAll_cons_mk (again (by kernel_rfl) (of_decide_eq_true (by kernel_rfl)) t2 hB (fun x hx => by simpa using hW'.lt x (by simp [hx])) (fun x hx => hsp x (by simp [hx]))) trodAll_mk0)))) (fun _ _ => rfl) (by simp) hB⟩


theorem journalExact_holds : Rows.JournalExactSaid :=
  OpenClaim.holds_of_wide 3 Try.f3 rfl rfl rfl rfl rfl rfl rfl ⟨rfl, rfl, rfl, rfl, rfl⟩ rfl rfl rfl rfl rfl (by kernel_rfl) Try.func3 (by kernel_rfl)
    (of_decide_eq_true (by kernel_rfl)) (by unfold Func.isWrapper; first | (rw [if_pos (by decide +kernel)]; kernel_rfl) | (rw [if_neg (by decide +kernel)]; exact ⟨rfl, rfl⟩))
    (fun os started H enc _ => lifted_journalExact os started H enc)
#print axioms journalExact_holds
end Go.Proofs.Ytnnammlipfappaa


