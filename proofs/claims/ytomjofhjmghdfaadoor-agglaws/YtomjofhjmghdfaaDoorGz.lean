/- From the walk to the row: values, slices of values and of floats among the arguments, opened; what the row's list of tables gives; that what is handed in reads behind the call as before. -/
import Derived.Test.YtomjofhjmghdfaaDoorRows
import Derived.Test.YtomjofhjmghdfaaDoorGl
import Derived.WalkKit
import Derived.ProofKit
import Derived.OpenShut
import Derived.Carry
import Derived.Deep.Slices
import Derived.Lib.SmallJoins
import Derived.Lib.LaidTab
import Derived.Stop.LaidErr
import Derived.MakeChecks
import Derived.Lay
namespace Go.Proofs.YtomjofhjmghdfaaDoor
open Go.ChangeShapes Go.WideShapes Go.ChangeAt Go.RowKit

theorem own_knob : ownKnob Tryd.prog.godebug = none := by kernel_rfl
theorem laid_out : laidOutB Tryd.prog = true := by kernel_rfl
theorem cells_int : Tryd.prog.cellsOf 3 = 1 := by kernel_rfl
theorem cells_bool : Tryd.prog.cellsOf 4 = 1 := by kernel_rfl
theorem cells_u64 : Tryd.prog.cellsOf 25 = 1 := by kernel_rfl
theorem cells_f64 : Tryd.prog.cellsOf 29 = 1 := by kernel_rfl

/-- What the law's row asks, where nothing old has turned. -/
theorem post_of_below {H : Type} {enc : TypeId × Value → H} {P : Program} {f : Func} {s : ChangeSpec} {apart fresh handsOn : Bool} {W W' : World} {args : Array Value} {v : Value} {ds gs : List (DataW H)} {before pa pv : List MemPlace}
    (hW : DataW.Whole enc P f.params.toList s.vars apart W args.toList ds gs before)
    (hres : ∀ (b : Nat) (sp : Nat → Bool) (hd : Bool), DataW.TrodAll enc P W' b sp hd f.resultTypes.toList (v.resultList f.resultTypes.size) (s.fn H (ds ++ gs)).results [])
    (hargs : ∀ sp : Nat → Bool, (∀ p ∈ before, sp p.block = true) → DataW.TrodAll enc P W' 0 sp true f.params.toList args.toList (s.fn H (ds ++ gs)).args pa)
    (hvars : ∀ sp : Nat → Bool, (∀ p ∈ before, sp p.block = true) → DataW.TrodVars enc P W' sp s.vars (s.fn H (ds ++ gs)).vars pv)
    (hps : before = pa ++ pv) (hb : Below W.heap.size W W') :
    s.post enc P f apart fresh handsOn false W args v W' := by
  have hold : ∀ p ∈ before, (fun b => decide (b < W.heap.size)) p.block = true := fun p hp => by simpa using hW.lt p hp
  refine ⟨ds, gs, before, [], pa, pv, hW, hres _ _ _, hargs _ hold, hvars _ hold, World.keptBut_mono (fun p hp => ⟨hp, ?_⟩) (hb.frame (· ∈ before)), fun h => by cases h⟩
  rw [hps, List.mem_append] at hp
  exact Or.inr hp

/-- An argument reads behind the call as it read before. -/
theorem again {H : Type} {enc : TypeId × Value → H} {W W' : World} {t : TypeId} {v : Value} {d : DataW H} {p : List MemPlace} {sp : Nat → Bool} (hr : Tryd.prog.readableRec t = true) (hrow : t < Tryd.prog.types.size)
    (h : DataW.Trod enc Tryd.prog W 0 (fun _ => true) true t v d p) (hb : Below W.heap.size W W') (hlt : ∀ x ∈ p, x.block < W.heap.size) (hsp : ∀ x ∈ p, sp x.block = true) :
    DataW.Trod enc Tryd.prog W' 0 sp true t v d p :=
  WideElems.Trod_stays laid_out hr hrow h (fun x hx => hb.same (hlt x hx)) hsp

theorem u64_of_wf {x : Int} (h : (Lit.int .u64 x).wf = true) : ∃ n : Nat, x = n ∧ n < 18446744073709551616 := by
  have h0 : 0 ≤ x ∧ x ≤ 18446744073709551615 := by simpa [Lit.wf, IntKind.min, IntKind.max, IntKind.signed, IntKind.bits] using h
  exact ⟨x.toNat, by omega, by omega⟩

theorem i64_of_wf {x : Int} (h : (Lit.int .i64 x).wf = true) : -9223372036854775808 ≤ x ∧ x < 9223372036854775808 := by
  have h0 : -9223372036854775808 ≤ x ∧ x ≤ 9223372036854775807 := by simpa [Lit.wf, IntKind.min, IntKind.max, IntKind.signed, IntKind.bits] using h
  omega

theorem f64_of_wf {x : Nat} (h : (Lit.float .f64 x).wf = true) : x < 18446744073709551616 := by simpa [Lit.wf] using h

section
variable {H : Type} {enc : TypeId × Value → H} {W : World} {sp : Nat → Bool} {held : Bool} {base : Nat}

theorem cell_i64 {n : Nat} {v : Value} {x : DataW H × List MemPlace} (h : DataW.trod enc Tryd.prog W base sp held n 3 [v] = some x) : ∃ a : Int, v = .int .i64 a := by
  cases n with
  | zero => simp [DataW.trod] at h
  | succ n =>
    simp only [DataW.trod, Tryd.underlying3] at h
    cases v <;> simp at h
    rename_i k a
    obtain ⟨⟨rfl, hw⟩, _⟩ := h
    exact ⟨a, rfl⟩

theorem cell_bool {n : Nat} {v : Value} {x : DataW H × List MemPlace} (h : DataW.trod enc Tryd.prog W base sp held n 4 [v] = some x) : ∃ a : Bool, v = .bool a := by
  cases n with
  | zero => simp [DataW.trod] at h
  | succ n =>
    simp only [DataW.trod, Tryd.underlying4] at h
    cases v <;> simp at h
    exact ⟨_, rfl⟩

theorem cell_u64 {n : Nat} {v : Value} {x : DataW H × List MemPlace} (h : DataW.trod enc Tryd.prog W base sp held n 25 [v] = some x) : ∃ a : Nat, v = .int .u64 a ∧ a < 18446744073709551616 := by
  cases n with
  | zero => simp [DataW.trod] at h
  | succ n =>
    simp only [DataW.trod, Tryd.underlying25] at h
    cases v <;> simp at h
    rename_i k a
    obtain ⟨⟨rfl, hw⟩, _⟩ := h
    obtain ⟨n, rfl, hn⟩ := u64_of_wf hw
    exact ⟨n, rfl, hn⟩

theorem cell_f64 {n : Nat} {v : Value} {x : DataW H × List MemPlace} (h : DataW.trod enc Tryd.prog W base sp held n 29 [v] = some x) : ∃ a : Nat, v = .float .f64 a ∧ a < 18446744073709551616 := by
  cases n with
  | zero => simp [DataW.trod] at h
  | succ n =>
    simp only [DataW.trod, Tryd.underlying29] at h
    cases v <;> simp at h
    rename_i k a
    obtain ⟨⟨rfl, hw⟩, _⟩ := h
    exact ⟨a, rfl, f64_of_wf hw⟩

theorem cells_of_value {n : Nat} {cs : List Value} {x : DataW H × List MemPlace} (hl : cs.length = 2) (h : DataW.trod enc Tryd.prog W base sp held n 27 cs = some x) :
    ∃ v : Vl, cs = [.bool v.h, .int .u64 v.b] ∧ v.ok := by
  obtain ⟨y0, y1, m, _, _, h0, h1⟩ := trod_struct2 Tryd.underlying27 h
  match cs, hl with
  | [a, b], _ =>
    simp only [cells_bool, cells_u64, List.drop_zero, List.drop_succ_cons, List.take_succ_cons, List.take_zero] at h0 h1
    obtain ⟨k, rfl⟩ := cell_bool h0
    obtain ⟨x, rfl, hx⟩ := cell_u64 h1
    exact ⟨⟨k, x⟩, rfl, hx⟩
end

/-- A slice of values among the arguments, opened. -/
theorem open_vv {H : Type} {enc : TypeId × Value → H} {W : World} {v : Value} {d : DataW H} {p : List MemPlace} {base : Nat}
    (hv : Value.okWide Tryd.prog W .any base 31 v) (h : DataW.Trod enc Tryd.prog W 0 (fun _ => true) true 31 v d p) :
    ∃ l : List Vl, Vv W v l := by
  obtain ⟨ao, len0, cap0, rfl⟩ := okWide_slice Tryd.underlying31 hv
  obtain ⟨fuel, hf⟩ := h
  rcases Go.Deep.open_slice Tryd.underlying31 hf with ⟨hcs, hx⟩ | ⟨a, len, cap, m, n, D, Pl, hcs, _, hl, hm, hmm, hx, hel⟩
  · simp [Value.cells] at hcs
    obtain ⟨rfl, rfl, rfl⟩ := hcs
    exact ⟨[], ⟨⟨none, 0, rfl, by simp, by simp [maxLen], by simp, fun i hi => by simp at hi⟩, by simp⟩⟩
  · simp [Value.cells] at hcs
    obtain ⟨rfl, rfl, rfl⟩ := hcs
    simp only [if_true] at hmm
    have each : ∀ i, ∃ o : Vl, i < len0 → (W.cell? (a.add (i * 2)) = some (.bool o.h) ∧ W.cell? (a.add (i * 2 + 1)) = some (.int .u64 o.b)) ∧ o.ok := by
      intro i
      by_cases hi : i < len0
      · obtain ⟨cs', h1, h2⟩ := hel i (by omega)
        rw [cells_value] at h1
        obtain ⟨_, hlen, hcell⟩ := World.cells?_some h1
        obtain ⟨o, rfl, hok⟩ := cells_of_value hlen h2
        have e0 := hcell 0 (by omega)
        have e1 := hcell 1 (by omega)
        rw [Go.Deep.add_add] at e0 e1
        exact ⟨o, fun _ => ⟨⟨by simpa using e0, by simpa using e1⟩, hok⟩⟩
      · exact ⟨noV, fun h => absurd h hi⟩
    obtain ⟨X, hX⟩ : ∃ X : Nat → Vl, ∀ i, i < len0 → (W.cell? (a.add (i * 2)) = some (.bool (X i).h) ∧ W.cell? (a.add (i * 2 + 1)) = some (.int .u64 (X i).b)) ∧ (X i).ok := ⟨fun i => (each i).choose, fun i => (each i).choose_spec⟩
    clear each hel
    refine ⟨(List.range len0).map X, ⟨⟨some a, cap0, by simp, by simpa using hl, hm, by simp, ?_⟩, ?_⟩⟩
    · intro i hi
      simp at hi
      obtain ⟨⟨h0, _⟩, _⟩ := hX 0 (by omega)
      obtain ⟨⟨g0, g1⟩, _⟩ := hX i hi
      obtain ⟨b, off, spot⟩ := a
      have hs1 : spot = none := by simpa [Addr.add] using World.cell?_spot h0
      subst hs1
      rw [WideShapes.add_plain] at g0 g1
      exact ⟨b, off, rfl, by simpa using g0, by simpa [Nat.add_assoc] using g1⟩
    · intro o ho
      simp only [List.mem_map, List.mem_range] at ho
      obtain ⟨i, hi, rfl⟩ := ho
      exact (hX i hi).2

/-- A slice of floats among the arguments, opened. -/
theorem open_fv {H : Type} {enc : TypeId × Value → H} {W : World} {v : Value} {d : DataW H} {p : List MemPlace} {base : Nat}
    (hv : Value.okWide Tryd.prog W .any base 22 v) (h : DataW.Trod enc Tryd.prog W 0 (fun _ => true) true 22 v d p) :
    ∃ l : List Nat, Fv W v l := by
  obtain ⟨ao, len0, cap0, rfl⟩ := okWide_slice Tryd.underlying22 hv
  obtain ⟨fuel, hf⟩ := h
  rcases Go.Deep.open_slice Tryd.underlying22 hf with ⟨hcs, hx⟩ | ⟨a, len, cap, m, n, D, Pl, hcs, _, hl, hm, hmm, hx, hel⟩
  · simp [Value.cells] at hcs
    obtain ⟨rfl, rfl, rfl⟩ := hcs
    exact ⟨[], ⟨⟨none, 0, rfl, by simp, by simp [maxLen], by simp, fun i hi => by simp at hi⟩, by simp⟩⟩
  · simp [Value.cells] at hcs
    obtain ⟨rfl, rfl, rfl⟩ := hcs
    simp only [if_true] at hmm
    have each : ∀ i, ∃ o : Nat, i < len0 → W.cell? (a.add i) = some (.float .f64 o) ∧ o < 18446744073709551616 := by
      intro i
      by_cases hi : i < len0
      · obtain ⟨cs', h1, h2⟩ := hel i (by omega)
        rw [cells_f64] at h1
        obtain ⟨_, hlen, hcell⟩ := World.cells?_some h1
        match cs', hlen with
        | [c], _ =>
          obtain ⟨o, rfl, hok⟩ := cell_f64 h2
          have e0 := hcell 0 (by simp)
          rw [Go.Deep.add_add] at e0
          exact ⟨o, fun _ => ⟨by simpa using e0, hok⟩⟩
      · exact ⟨0, fun h => absurd h hi⟩
    obtain ⟨X, hX⟩ : ∃ X : Nat → Nat, ∀ i, i < len0 → W.cell? (a.add i) = some (.float .f64 (X i)) ∧ X i < 18446744073709551616 := ⟨fun i => (each i).choose, fun i => (each i).choose_spec⟩
    clear each hel
    refine ⟨(List.range len0).map X, ⟨⟨some a, cap0, by simp, by simpa using hl, hm, by simp, ?_⟩, ?_⟩⟩
    · intro i hi
      simp at hi
      obtain ⟨h0, _⟩ := hX 0 (by omega)
      obtain ⟨g0, _⟩ := hX i hi
      obtain ⟨b, off, spot⟩ := a
      have hs1 : spot = none := by simpa [Addr.add] using World.cell?_spot h0
      subst hs1
      rw [WideShapes.add_plain] at g0
      exact ⟨b, off, rfl, by simpa using g0⟩
    · intro o ho
      simp only [List.mem_map, List.mem_range] at ho
      obtain ⟨i, hi, rfl⟩ := ho
      exact (hX i hi).2

/-- The numbers of a table that a row lists. -/
def tabOf : DataW Unit → List Int
  | .agg l => l.map fun | .lit (.int _ z) => z | _ => 0
  | _ => []

theorem deb_tab : Lib.tabData .u8 (tabOf Rows.laid_math_bits_deBruijn64tab) = (Rows.laid_math_bits_deBruijn64tab : DataW Unit) := by rfl
theorem pow_tab : Lib.tabData .u64 Lib.pow10Tab = (Rows.laid_internal_strconv_uint64pow10 : DataW Unit) := by rfl
theorem g_deb : Tryd.prog.globalNamed "math/bits.deBruijn64tab" = some 4 := by kernel_rfl
theorem g_pow : Tryd.prog.globalNamed "internal/strconv.uint64pow10" = some 1 := by kernel_rfl

/-- What the row's list gives. -/
theorem tb_of_laid {W : World} (h : laidMetH Tryd.prog Rows.aggOfRow.laid W) : Tb W := by
  rw [MakeChecks.laidMetH_plain _ _ _ (by kernel_rfl)] at h
  have h2 := laidMet.tail h
  have h3 := laidMet.tail h2
  rw [← deb_tab] at h2
  rw [← pow_tab] at h3
  have t2 := Lib.tabIs_of_head g_deb (by kernel_rfl) Tryd.underlying96 Tryd.underlying5 (by kernel_rfl) (by kernel_rfl) h2
  have t3 := Lib.tabIs_of_head g_pow (by kernel_rfl) Tryd.underlying88 Tryd.underlying25 (by kernel_rfl) (by kernel_rfl) h3
  exact ⟨t3, t2.cell g_deb 15 (by decide)⟩
end Go.Proofs.YtomjofhjmghdfaaDoor
