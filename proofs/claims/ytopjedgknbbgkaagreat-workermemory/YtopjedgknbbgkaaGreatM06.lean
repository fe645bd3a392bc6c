/- Tables as lists of keys and values: looked up, put into, put together; what a batch makes of records. -/
import Derived.Test.YtopjedgknbbgkaaGreatXs
import Derived.Test.YtopjedgknbbgkaaGreatRows
import Derived.WalkKit
import Derived.ProofKit
import Derived.OpenShut
import Derived.Carry
import Derived.Deep.Slices
import Derived.Lib.SmallJoins
import Derived.Test.YtopjedgknbbgkaaGreatM01
import Derived.Test.YtopjedgknbbgkaaGreatM04
namespace Go.Proofs.YtopjedgknbbgkaaGreat

open Ieee Go.RowKit



theorem isB_kind {o : Stp} (h : isB o = true) : o.K = 1 ∨ o.K = 2 ∨ o.K = 3 ∨ o.K = 4 ∨ o.K = 5 ∨ o.K = 6 ∨ (o.K = 7 ∧ -2200 ≤ o.N ∧ o.N ≤ 2200) ∨ o.K = 8 ∨ o.K = 9 ∨ o.K = 10 ∨ (o.K = 11 ∧ 1 ≤ o.N) ∨ o.K = 12 := by
  unfold isB at h
  split at h
  · simp at h; omega
  split at h
  · simp at h; omega
  · simp at h; omega


theorem step_kept (o : Stp) (r : Rcd) (ho : o.ok) (hr : r.ok) (hb : isB o = true) (hf : fateI o r.x = 1) (w : World) :
    Calls Tryz.prog 78 #[.agg #[.int .i64 o.K, .int .i64 o.N, .float .f64 o.X], .agg #[.int .u64 r.k, .float .f64 r.x]] w fun e w' =>
      e = .returned (.tuple #[.agg #[.int .u64 (nextR o r).k, .float .f64 (nextR o r).x], .bool true]) ∧ Below w.heap.size w w' := by
  have hk := isB_kind hb
  obtain ⟨K, N, X⟩ := o
  obtain ⟨k, x⟩ := r
  obtain ⟨_, ⟨_, hN⟩, _⟩ := ho
  obtain ⟨_, hx⟩ := hr
  simp only at *
  rcases hk with rfl | rfl | rfl | rfl | rfl | rfl | ⟨rfl, _⟩ | rfl | rfl | rfl | ⟨rfl, h1⟩ | rfl
  · rw [show nextR ⟨1, N, X⟩ ⟨k, x⟩ = ⟨k, x⟩ by simp [nextR]]
    refine (step_1 N X k w).mono ?_
    rintro e w' ⟨rfl, hB⟩
    refine ⟨?_, hB⟩
    cases h : ltB x X
    · simp [fateI, h] at hf
    · rfl
  · rw [show nextR ⟨2, N, X⟩ ⟨k, x⟩ = ⟨k, x⟩ by simp [nextR]]
    refine (step_2 N X k w).mono ?_
    rintro e w' ⟨rfl, hB⟩
    refine ⟨?_, hB⟩
    cases h : gtB x X
    · simp [fateI, h] at hf
    · rfl
  · rw [show nextR ⟨3, N, X⟩ ⟨k, x⟩ = ⟨k, x⟩ by simp [nextR]]
    refine (step_3 N X k hx w).mono ?_
    rintro e w' ⟨rfl, hB⟩
    refine ⟨?_, hB⟩
    cases h : nanB x
    · rfl
    · simp [fateI, h] at hf
  · rw [show nextR ⟨4, N, X⟩ ⟨k, x⟩ = ⟨k, canonW (negW x)⟩ by simp [nextR, turnW]]
    exact step_4 N X k hx w
  · rw [show nextR ⟨5, N, X⟩ ⟨k, x⟩ = ⟨k, canonW (rung x)⟩ by simp [nextR, turnW]]
    exact step_5 N X k hx w
  · rw [show nextR ⟨6, N, X⟩ ⟨k, x⟩ = ⟨k, canonW (floorW x)⟩ by simp [nextR, turnW]]
    exact step_6 N X k hx w
  · rw [show nextR ⟨7, N, X⟩ ⟨k, x⟩ = ⟨k, canonW (scaleR x N)⟩ by simp [nextR, turnW]]
    exact step_7 N X k hx w
  · rw [show nextR ⟨8, N, X⟩ ⟨k, x⟩ = ⟨k, canonW (invW x)⟩ by simp [nextR, turnW]]
    exact step_8 N X k hx w
  · rw [show nextR ⟨9, N, X⟩ ⟨k, x⟩ = ⟨k, x⟩ by simp [nextR]]
    refine step_9 N X k hx ?_ w
    by_cases h : 9218868437227405312 ≤ rung x
    · simp [fateI, h] at hf
    · omega
  · rw [show nextR ⟨10, N, X⟩ ⟨k, x⟩ = ⟨k, canonW (ofW (perI N (wholeI x)))⟩ by simp [nextR, turnW]]
    refine step_10 N X k hx ?_ w
    intro h
    simp [fateI, h] at hf
  · rw [show nextR ⟨11, N, X⟩ ⟨k, x⟩ = ⟨k % N.toNat, x⟩ by simp [nextR]]
    exact step_11 N X k h1 hN w
  · rw [show nextR ⟨12, N, X⟩ ⟨k, x⟩ = ⟨k % 4611686018427387904 * 4 + sideN x, x⟩ by simp [nextR]]
    exact step_12 N X k hx w


theorem step_dropped (o : Stp) (r : Rcd) (hr : r.ok) (hb : isB o = true) (hf : fateI o r.x = 2) (w : World) :
    Calls Tryz.prog 78 #[.agg #[.int .i64 o.K, .int .i64 o.N, .float .f64 o.X], .agg #[.int .u64 r.k, .float .f64 r.x]] w fun e w' =>
      e = .returned (.tuple #[.agg #[.int .u64 r.k, .float .f64 r.x], .bool false]) ∧ Below w.heap.size w w' := by
  have hk := isB_kind hb
  obtain ⟨K, N, X⟩ := o
  obtain ⟨k, x⟩ := r
  obtain ⟨_, hx⟩ := hr
  simp only at *
  rcases hk with rfl | rfl | rfl | rfl | rfl | rfl | ⟨rfl, _⟩ | rfl | rfl | rfl | ⟨rfl, h1⟩ | rfl
  · refine (step_1 N X k w).mono ?_
    rintro e w' ⟨rfl, hB⟩
    refine ⟨?_, hB⟩
    cases h : ltB x X
    · rfl
    · simp [fateI, h] at hf
  · refine (step_2 N X k w).mono ?_
    rintro e w' ⟨rfl, hB⟩
    refine ⟨?_, hB⟩
    cases h : gtB x X
    · rfl
    · simp [fateI, h] at hf
  · refine (step_3 N X k hx w).mono ?_
    rintro e w' ⟨rfl, hB⟩
    refine ⟨?_, hB⟩
    cases h : nanB x
    · simp [fateI, h] at hf
    · rfl
  all_goals (exfalso; revert hf; simp [fateI])
  all_goals (split <;> simp)


theorem step_trapped (o : Stp) (r : Rcd) (hr : r.ok) (hb : isB o = true) (hf : fateI o r.x = 3) (w : World) :
    Calls Tryz.prog 78 #[.agg #[.int .i64 o.K, .int .i64 o.N, .float .f64 o.X], .agg #[.int .u64 r.k, .float .f64 r.x]] w fun e w' =>
      (∃ u pv, e = .panicked [{ v := .iface u pv, recovered := false }]) ∧ Below w.heap.size w w' := by
  have hk := isB_kind hb
  obtain ⟨K, N, X⟩ := o
  obtain ⟨k, x⟩ := r
  obtain ⟨_, hx⟩ := hr
  simp only at *
  rcases hk with rfl | rfl | rfl | rfl | rfl | rfl | ⟨rfl, _⟩ | rfl | rfl | rfl | ⟨rfl, h1⟩ | rfl
  rotate_left 8
  · refine step_9_trap N X k hx ?_ w
    by_cases h : 9218868437227405312 ≤ rung x
    · exact h
    · simp [fateI, h] at hf
  · refine step_10_trap N X k hx ?_ w
    by_cases h : wholeI x = 0
    · exact h
    · simp [fateI, h] at hf
  all_goals (exfalso; revert hf; simp [fateI])
  all_goals (split <;> simp)


theorem fate_cases (o : Stp) (x : Nat) : fateI o x = 1 ∨ fateI o x = 2 ∨ fateI o x = 3 := by
  unfold fateI
  repeat' split
  all_goals omega


/-- The cells behind ao hold the steps l. -/
def Ol (w : World) (ao : Option Addr) (l : List Stp) : Prop :=
  ∀ i, (h : i < l.length) → ∃ b off, ao = some ⟨b, off, none⟩ ∧ w.cell? ⟨b, off + i * 3, none⟩ = some (.int .i64 l[i].K) ∧ w.cell? ⟨b, off + i * 3 + 1, none⟩ = some (.int .i64 l[i].N) ∧ w.cell? ⟨b, off + i * 3 + 2, none⟩ = some (.float .f64 l[i].X)


/-- The value v is a slice that holds the steps l. -/
def Ov (w : World) (v : Value) (l : List Stp) : Prop :=
  (∃ ao cap, v = .slice ao l.length cap ∧ l.length ≤ cap ∧ cap ≤ maxLen ∧ (ao = none → cap = 0) ∧ Ol w ao l) ∧ ∀ o ∈ l, o.ok


theorem Ol.below {w w' : World} {ao : Option Addr} {l : List Stp} (h : Ol w ao l) (hb : Below w.heap.size w w') : Ol w' ao l := by
  intro i hi
  obtain ⟨b, off, e, h0, h1, h2⟩ := h i hi
  exact ⟨b, off, e, by rw [hb.cell (p := ⟨b, off + i * 3, none⟩) (cell_lt h0)]; exact h0, by rw [hb.cell (p := ⟨b, off + i * 3 + 1, none⟩) (cell_lt h1)]; exact h1, by rw [hb.cell (p := ⟨b, off + i * 3 + 2, none⟩) (cell_lt h2)]; exact h2⟩
theorem Ov.below {w w' : World} {v : Value} {l : List Stp} (h : Ov w v l) (hb : Below w.heap.size w w') : Ov w' v l := by
  obtain ⟨⟨ao, cap, e, h1, h2, h3, h4⟩, h5⟩ := h
  exact ⟨⟨ao, cap, e, h1, h2, h3, h4.below hb⟩, h5⟩
end Go.Proofs.YtopjedgknbbgkaaGreat

namespace Go.Proofs.YtopjedgknbbgkaaGreat

open Go.ChangeShapes Go.WideShapes Go.ChangeAt Go.RowKit



theorem own_knob : ownKnob Tryz.prog.godebug = none := by kernel_rfl
theorem laid_out : laidOutB Tryz.prog = true := by kernel_rfl
theorem cells_op : Tryz.prog.cellsOf 72 = 3 := by kernel_rfl
theorem cells_rec : Tryz.prog.cellsOf 53 = 2 := by kernel_rfl
theorem cells_int : Tryz.prog.cellsOf 3 = 1 := by kernel_rfl
theorem cells_i64 : Tryz.prog.cellsOf 2 = 1 := by kernel_rfl
theorem cells_u64 : Tryz.prog.cellsOf 50 = 1 := by kernel_rfl
theorem cells_f64 : Tryz.prog.cellsOf 51 = 1 := by kernel_rfl


/-- What the law's row asks, where nothing old has turned. -/
theorem post_of_below {H : Type} {enc : TypeId × Value → H} {P : Program} {f : Func} {s : ChangeSpec} {apart fresh handsOn : Bool} {W W' : World} {args : Array Value} {v : Value} {ds gs : List (DataW H)} {before pa pv : List MemPlace}
    (hW : DataW.Whole enc P f.params.toList s.vars apart W args.toList ds gs before)
    (hres : ∀ (b : Nat) (sp : Nat → Bool) (hd : Bool), DataW.TrodAll enc P W' b sp hd f.resultTypes.toList (v.resultList f.resultTypes.size) (s.fn H (ds ++ gs)).results [])
    (hargs : ∀ sp : Nat → Bool, (∀ p ∈ before, sp p.block = true) → DataW.TrodAll enc P W' 0 sp true f.params.toList args.toList (s.fn H (ds ++ gs)).args pa)
    (hvars : ∀ sp : Nat → Bool, (∀ p ∈ before, sp p.block = true) → DataW.TrodVars enc P W' sp s.vars (s.fn H (ds ++ gs)).vars pv)
    (hps : before = pa ++ pv) (hb : Below W.heap.size W W') :
    s.post enc P f apart fresh handsOn false W args v W' := by
  have hold : ∀ p ∈ before, (fun b => decide (b < W.heap.size)) p.block = true := fun p hp => by simpa using hW.lt p hp
  refine ⟨ds, gs, before, [], pa, pv, hW, hres _ _ _, hargs _ hold, hvars _ hold, World.keptBut_mono (fun p hp => ⟨hp, ?_⟩) (hb.frame (· ∈ before)), fun h => by cases h⟩
  rw [hps, List.mem_append] at hp
  exact Or.inr hp


/-- An argument reads behind the call as it read before. -/
theorem again {H : Type} {enc : TypeId × Value → H} {W W' : World} {t : TypeId} {v : Value} {d : DataW H} {p : List MemPlace} {sp : Nat → Bool} (hr : Tryz.prog.readableRec t = true) (hrow : t < Tryz.prog.types.size)
    (h : DataW.Trod enc Tryz.prog W 0 (fun _ => true) true t v d p) (hb : Below W.heap.size W W') (hlt : ∀ x ∈ p, x.block < W.heap.size) (hsp : ∀ x ∈ p, sp x.block = true) :
    DataW.Trod enc Tryz.prog W' 0 sp true t v d p :=
  WideElems.Trod_stays laid_out hr hrow h (fun x hx => hb.same (hlt x hx)) hsp


theorem u64_of_wf {x : Int} (h : (Lit.int .u64 x).wf = true) : ∃ n : Nat, x = n ∧ n < 18446744073709551616 := by
  have h0 : 0 ≤ x ∧ x ≤ 18446744073709551615 := by simpa [Lit.wf, IntKind.min, IntKind.max, IntKind.signed, IntKind.bits] using h
  exact ⟨x.toNat, by omega, by omega⟩


theorem i64_of_wf {x : Int} (h : (Lit.int .i64 x).wf = true) : -9223372036854775808 ≤ x ∧ x < 9223372036854775808 := by
  have h0 : -9223372036854775808 ≤ x ∧ x ≤ 9223372036854775807 := by simpa [Lit.wf, IntKind.min, IntKind.max, IntKind.signed, IntKind.bits] using h
  omega


theorem f64_of_wf {x : Nat} (h : (Lit.float .f64 x).wf = true) : x < 18446744073709551616 := by simpa [Lit.wf] using h


section

variable {H : Type} {enc : TypeId × Value → H} {W : World} {sp : Nat → Bool} {held : Bool} {base : Nat}

theorem cell_i64 {t : TypeId} (ht : Tryz.prog.underlying t = some (.int .i64)) {n : Nat} {v : Value} {x : DataW H × List MemPlace} (h : DataW.trod enc Tryz.prog W base sp held n t [v] = some x) : ∃ a : Int, v = .int .i64 a ∧ (-9223372036854775808 ≤ a ∧ a < 9223372036854775808) := by
  cases n with
  | zero => simp [DataW.trod] at h
  | succ n =>
    simp only [DataW.trod, ht] at h
    cases v <;> simp at h
    rename_i k a
    obtain ⟨⟨rfl, hw⟩, _⟩ := h
    exact ⟨a, rfl, i64_of_wf hw⟩
theorem cell_u64 {n : Nat} {v : Value} {x : DataW H × List MemPlace} (h : DataW.trod enc Tryz.prog W base sp held n 50 [v] = some x) : ∃ a : Nat, v = .int .u64 a ∧ a < 18446744073709551616 := by
  cases n with
  | zero => simp [DataW.trod] at h
  | succ n =>
    simp only [DataW.trod, Tryz.underlying50] at h
    cases v <;> simp at h
    rename_i k a
    obtain ⟨⟨rfl, hw⟩, _⟩ := h
    obtain ⟨n, rfl, hn⟩ := u64_of_wf hw
    exact ⟨n, rfl, hn⟩
theorem cell_f64 {n : Nat} {v : Value} {x : DataW H × List MemPlace} (h : DataW.trod enc Tryz.prog W base sp held n 51 [v] = some x) : ∃ a : Nat, v = .float .f64 a ∧ a < 18446744073709551616 := by
  cases n with
  | zero => simp [DataW.trod] at h
  | succ n =>
    simp only [DataW.trod, Tryz.underlying51] at h
    cases v <;> simp at h
    rename_i k a
    obtain ⟨⟨rfl, hw⟩, _⟩ := h
    exact ⟨a, rfl, f64_of_wf hw⟩


set_option maxRecDepth 20000 in
theorem cells_of_op {n : Nat} {cs : List Value} {x : DataW H × List MemPlace} (hl : cs.length = 3) (h : DataW.trod enc Tryz.prog W base sp held n 72 cs = some x) :
    ∃ o : Stp, cs = [.int .i64 o.K, .int .i64 o.N, .float .f64 o.X] ∧ o.ok := by
  obtain ⟨y0, y1, y2, m, _, _, h0, h1, h2⟩ := Go.Deep.trod_struct3 Tryz.underlying72 h
  match cs, hl with
  | [a, b, c], _ =>
    simp only [cells_int, cells_i64, cells_f64, List.drop_zero, List.drop_succ_cons, List.take_succ_cons, List.take_zero] at h0 h1 h2
    obtain ⟨K, rfl, hK⟩ := cell_i64 Tryz.underlying3 h0
    obtain ⟨N, rfl, hN⟩ := cell_i64 Tryz.underlying2 h1
    obtain ⟨X, rfl, hX⟩ := cell_f64 h2
    exact ⟨⟨K, N, X⟩, rfl, hK, hN, hX⟩
set_option maxRecDepth 20000 in
theorem cells_of_rec {n : Nat} {cs : List Value} {x : DataW H × List MemPlace} (hl : cs.length = 2) (h : DataW.trod enc Tryz.prog W base sp held n 53 cs = some x) :
    ∃ r : Rcd, cs = [.int .u64 r.k, .float .f64 r.x] ∧ r.ok := by
  obtain ⟨y0, y1, m, _, _, h0, h1⟩ := trod_struct2 Tryz.underlying53 h
  match cs, hl with
  | [a, b], _ =>
    simp only [cells_u64, cells_f64, List.drop_zero, List.drop_succ_cons, List.take_succ_cons, List.take_zero] at h0 h1
    obtain ⟨k, rfl, hk⟩ := cell_u64 h0
    obtain ⟨x, rfl, hx⟩ := cell_f64 h1
    exact ⟨⟨k, x⟩, rfl, hk, hx⟩
end



/-- The cells behind ao hold the records l. -/
def Rl (w : World) (ao : Option Addr) (l : List Rcd) : Prop :=
  ∀ i, (h : i < l.length) → ∃ b off, ao = some ⟨b, off, none⟩ ∧ w.cell? ⟨b, off + i * 2, none⟩ = some (.int .u64 l[i].k) ∧ w.cell? ⟨b, off + i * 2 + 1, none⟩ = some (.float .f64 l[i].x)
/-- The value v is a slice that holds the records l. -/
def Rv (w : World) (v : Value) (l : List Rcd) : Prop :=
  (∃ ao cap, v = .slice ao l.length cap ∧ l.length ≤ cap ∧ cap ≤ maxLen ∧ (ao = none → cap = 0) ∧ Rl w ao l) ∧ ∀ r ∈ l, r.ok
theorem Rl.below {w w' : World} {ao : Option Addr} {l : List Rcd} (h : Rl w ao l) (hb : Below w.heap.size w w') : Rl w' ao l := by
  intro i hi
  obtain ⟨b, off, e, h0, h1⟩ := h i hi
  exact ⟨b, off, e, by rw [hb.cell (p := ⟨b, off + i * 2, none⟩) (cell_lt h0)]; exact h0, by rw [hb.cell (p := ⟨b, off + i * 2 + 1, none⟩) (cell_lt h1)]; exact h1⟩


set_option maxRecDepth 20000 in
/-- A slice of steps among the arguments, opened. -/
theorem open_ov {H : Type} {enc : TypeId × Value → H} {W : World} {v : Value} {d : DataW H} {p : List MemPlace} {base : Nat}
    (hv : Value.okWide Tryz.prog W .any base 22 v) (h : DataW.Trod enc Tryz.prog W 0 (fun _ => true) true 22 v d p) :
    ∃ l : List Stp, Ov W v l ∧ ((d = .nil ∧ l = []) ∨ ∃ elems spare, d = .slice elems spare ∧ elems.length = l.length) := by
  obtain ⟨ao, len0, cap0, rfl⟩ := okWide_slice Tryz.underlying22 hv
  obtain ⟨fuel, hf⟩ := h
  rcases Go.Deep.open_slice Tryz.underlying22 hf with ⟨hcs, hx⟩ | ⟨a, len, cap, m, n, D, Pl, hcs, _, hl, hm, hmm, hx, hel⟩
  · simp [Value.cells] at hcs
    obtain ⟨rfl, rfl, rfl⟩ := hcs
    simp only [Prod.mk.injEq] at hx
    exact ⟨[], ⟨⟨none, 0, rfl, by simp, by simp [maxLen], by simp, fun i hi => by simp at hi⟩, by simp⟩, .inl ⟨hx.1, rfl⟩⟩
  · simp [Value.cells] at hcs
    obtain ⟨rfl, rfl, rfl⟩ := hcs
    simp only [if_true] at hmm
    simp only [Prod.mk.injEq] at hx
    have each : ∀ i, ∃ o : Stp, i < len0 → (W.cell? (a.add (i * 3)) = some (.int .i64 o.K) ∧ W.cell? (a.add (i * 3 + 1)) = some (.int .i64 o.N) ∧ W.cell? (a.add (i * 3 + 2)) = some (.float .f64 o.X)) ∧ o.ok := by
      intro i
      by_cases hi : i < len0
      · obtain ⟨cs', h1, h2⟩ := hel i (by omega)
        rw [cells_op] at h1
        obtain ⟨_, hlen, hcell⟩ := World.cells?_some h1
        obtain ⟨o, rfl, hok⟩ := cells_of_op hlen h2
        have e0 := hcell 0 (by omega)
        have e1 := hcell 1 (by omega)
        have e2 := hcell 2 (by omega)
        rw [Go.Deep.add_add] at e0 e1 e2
        exact ⟨o, fun _ => ⟨⟨by simpa using e0, by simpa using e1, by simpa using e2⟩, hok⟩⟩
      · exact ⟨⟨0, 0, 0⟩, fun h => absurd h hi⟩
    obtain ⟨X, hX⟩ : ∃ X : Nat → Stp, ∀ i, i < len0 → (W.cell? (a.add (i * 3)) = some (.int .i64 (X i).K) ∧ W.cell? (a.add (i * 3 + 1)) = some (.int .i64 (X i).N) ∧ W.cell? (a.add (i * 3 + 2)) = some (.float .f64 (X i).X)) ∧ (X i).ok := ⟨fun i => (each i).choose, fun i => (each i).choose_spec⟩
    clear each hel
    refine ⟨(List.range len0).map X, ⟨⟨some a, cap0, by simp, by simpa using hl, hm, by simp, ?_⟩, ?_⟩, .inr ⟨_, _, hx.1, by simp⟩⟩
    · intro i hi
      simp at hi
      obtain ⟨⟨h0, _, _⟩, _⟩ := hX 0 (by omega)
      obtain ⟨⟨g0, g1, g2⟩, _⟩ := hX i hi
      obtain ⟨b, off, spot⟩ := a
      have hs1 : spot = none := by simpa [Addr.add] using World.cell?_spot h0
      subst hs1
      rw [WideShapes.add_plain] at g0 g1 g2
      exact ⟨b, off, rfl, by simpa using g0, by simpa [Nat.add_assoc] using g1, by simpa [Nat.add_assoc] using g2⟩
    · intro o ho
      simp only [List.mem_map, List.mem_range] at ho
      obtain ⟨i, hi, rfl⟩ := ho
      exact (hX i hi).2


set_option maxRecDepth 20000 in
/-- A slice of records among the arguments, opened. -/
theorem open_rv {H : Type} {enc : TypeId × Value → H} {W : World} {v : Value} {d : DataW H} {p : List MemPlace} {base : Nat}
    (hv : Value.okWide Tryz.prog W .any base 25 v) (h : DataW.Trod enc Tryz.prog W 0 (fun _ => true) true 25 v d p) :
    ∃ l : List Rcd, Rv W v l := by
  obtain ⟨ao, len0, cap0, rfl⟩ := okWide_slice Tryz.underlying25 hv
  obtain ⟨fuel, hf⟩ := h
  rcases Go.Deep.open_slice Tryz.underlying25 hf with ⟨hcs, hx⟩ | ⟨a, len, cap, m, n, D, Pl, hcs, _, hl, hm, hmm, hx, hel⟩
  · simp [Value.cells] at hcs
    obtain ⟨rfl, rfl, rfl⟩ := hcs
    exact ⟨[], ⟨⟨none, 0, rfl, by simp, by simp [maxLen], by simp, fun i hi => by simp at hi⟩, by simp⟩⟩
  · simp [Value.cells] at hcs
    obtain ⟨rfl, rfl, rfl⟩ := hcs
    simp only [if_true] at hmm
    have each : ∀ i, ∃ o : Rcd, i < len0 → (W.cell? (a.add (i * 2)) = some (.int .u64 o.k) ∧ W.cell? (a.add (i * 2 + 1)) = some (.float .f64 o.x)) ∧ o.ok := by
      intro i
      by_cases hi : i < len0
      · obtain ⟨cs', h1, h2⟩ := hel i (by omega)
        rw [cells_rec] at h1
        obtain ⟨_, hlen, hcell⟩ := World.cells?_some h1
        obtain ⟨o, rfl, hok⟩ := cells_of_rec hlen h2
        have e0 := hcell 0 (by omega)
        have e1 := hcell 1 (by omega)
        rw [Go.Deep.add_add] at e0 e1
        exact ⟨o, fun _ => ⟨⟨by simpa using e0, by simpa using e1⟩, hok⟩⟩
      · exact ⟨⟨0, 0⟩, fun h => absurd h hi⟩
    obtain ⟨X, hX⟩ : ∃ X : Nat → Rcd, ∀ i, i < len0 → (W.cell? (a.add (i * 2)) = some (.int .u64 (X i).k) ∧ W.cell? (a.add (i * 2 + 1)) = some (.float .f64 (X i).x)) ∧ (X i).ok := ⟨fun i => (each i).choose, fun i => (each i).choose_spec⟩
    clear each hel
    refine ⟨(List.range len0).map X, ⟨⟨some a, cap0, by simp, by simpa using hl, hm, by simp, ?_⟩, ?_⟩⟩
    · intro i hi
      simp at hi
      obtain ⟨⟨h0, _⟩, _⟩ := hX 0 (by omega)
      obtain ⟨⟨g0, g1⟩, _⟩ := hX i hi
      obtain ⟨b, off, spot⟩ := a
      have hs1 : spot = none := by simpa [Addr.add] using World.cell?_spot h0
      subst hs1
      rw [WideShapes.add_plain] at g0 g1
      exact ⟨b, off, rfl, by simpa using g0, by simpa [Nat.add_assoc] using g1⟩
    · intro o ho
      simp only [List.mem_map, List.mem_range] at ho
      obtain ⟨i, hi, rfl⟩ := ho
      exact (hX i hi).2


set_option maxRecDepth 20000 in
/-- A record by value among the arguments, opened. -/
theorem open_rec {H : Type} {enc : TypeId × Value → H} {W : World} {v : Value} {d : DataW H} {p : List MemPlace} {base : Nat}
    (hv : Value.okWide Tryz.prog W .any base 53 v) (h : DataW.Trod enc Tryz.prog W 0 (fun _ => true) true 53 v d p) :
    ∃ r : Rcd, v = .agg #[.int .u64 r.k, .float .f64 r.x] ∧ r.ok := by
  obtain ⟨cs, rfl, hsz⟩ := okWide_struct Tryz.underlying53 hv
  obtain ⟨fuel, hf⟩ := h
  obtain ⟨r, hr, hok⟩ := cells_of_rec (by simpa [Value.cells, cells_rec] using hsz) hf
  refine ⟨r, ?_, hok⟩
  have : cs = #[.int .u64 r.k, .float .f64 r.x] := by
    apply Array.toList_inj.1
    simpa [Value.cells] using hr
  rw [this]


set_option maxRecDepth 20000 in
/-- A float among the arguments, opened. -/
theorem open_f64 {H : Type} {enc : TypeId × Value → H} {W : World} {v : Value} {d : DataW H} {p : List MemPlace} {base : Nat}
    (hv : Value.okWide Tryz.prog W .any base 51 v) (h : DataW.Trod enc Tryz.prog W 0 (fun _ => true) true 51 v d p) :
    ∃ x : Nat, v = .float .f64 x ∧ x < 18446744073709551616 := by
  obtain ⟨fuel, hf⟩ := h
  have h1 := hv
  simp only [Value.okWide, Tryz.underlying51, Cell.okWide] at h1
  cases v <;> simp [Cell.ok] at h1
  rename_i k x
  simp [Value.cells] at hf
  obtain ⟨y, hy, hl⟩ := cell_f64 hf
  exact ⟨y, hy, hl⟩
end Go.Proofs.YtopjedgknbbgkaaGreat

namespace Go.Proofs.YtopjedgknbbgkaaGreat

open Ieee Go.RowKit



theorem canon_told {x : Nat} : nanB (canonW x) = nanB x := by
  unfold canonW
  cases h : nanB x
  · rw [if_neg (by simp), h]
  · rw [if_pos rfl]; decide


theorem rank_canon (x : Nat) : rank (canonW x) = rank x := by
  cases hn : nanB x
  · have e : canonW x = x := by unfold canonW; rw [hn]; rfl
    rw [e]
  · have h := @canon_told x
    rw [hn] at h
    unfold rank; rw [h, hn]; rfl


theorem least_rank (a b : Nat) : rank (leastW a b) = min (rank a) (rank b) := by
  unfold leastW; split <;> rw [rank_canon] <;> omega


theorem most_rank (a b : Nat) : rank (mostW a b) = max (rank a) (rank b) := by
  unfold mostW; split <;> rw [rank_canon] <;> omega


/-- Words that are told and have one rank are one word. -/
theorem told_eq {x y : Nat} (hx : x < 18446744073709551616) (hy : y < 18446744073709551616) (cx : canonW x = x) (cy : canonW y = y) (h : rank x = rank y) : x = y := by
  have := canon_of_rank hx hy h
  rw [cx, cy] at this; exact this


theorem least_comm {a b : Nat} (ha : a < 18446744073709551616) (hb : b < 18446744073709551616) : leastW a b = leastW b a := told_eq (leastW_lt ha hb) (leastW_lt hb ha) (canonW_leastW _ _) (canonW_leastW _ _) (by rw [least_rank, least_rank]; omega)


theorem most_comm {a b : Nat} (ha : a < 18446744073709551616) (hb : b < 18446744073709551616) : mostW a b = mostW b a := told_eq (mostW_lt ha hb) (mostW_lt hb ha) (canonW_mostW _ _) (canonW_mostW _ _) (by rw [most_rank, most_rank]; omega)


theorem least_assoc {a b c : Nat} (ha : a < 18446744073709551616) (hb : b < 18446744073709551616) (hc : c < 18446744073709551616) : leastW (leastW a b) c = leastW a (leastW b c) := told_eq (leastW_lt (leastW_lt ha hb) hc) (leastW_lt ha (leastW_lt hb hc)) (canonW_leastW _ _) (canonW_leastW _ _) (by simp only [least_rank]; omega)


theorem most_assoc {a b c : Nat} (ha : a < 18446744073709551616) (hb : b < 18446744073709551616) (hc : c < 18446744073709551616) : mostW (mostW a b) c = mostW a (mostW b c) := told_eq (mostW_lt (mostW_lt ha hb) hc) (mostW_lt ha (mostW_lt hb hc)) (canonW_mostW _ _) (canonW_mostW _ _) (by simp only [most_rank]; omega)


theorem join_tt (k : Int) (x y : Nat) : joinV k ⟨true, x⟩ ⟨true, y⟩ = if k = 3 then ⟨true, leastW x y⟩ else if k = 4 then ⟨true, mostW x y⟩ else ⟨true, (x + y) % 18446744073709551616⟩ := by simp [joinV]


theorem fitV_no (k : Int) : fitV k noV = noV := by unfold fitV; rw [if_pos (show noV.h = false from rfl)]


theorem fitV_12 {k : Int} (h : k = 1 ∨ k = 2) (b : Nat) : fitV k ⟨true, b⟩ = ⟨true, b⟩ := by unfold fitV; rw [if_neg (by simp), if_pos h]


theorem fitV_34 {k : Int} (h : k = 3 ∨ k = 4) (b : Nat) : fitV k ⟨true, b⟩ = ⟨true, canonW b⟩ := by unfold fitV; rw [if_neg (by simp), if_neg (by omega), if_pos h]


theorem fitV_un {k : Int} (h : knownB k = false) (v : Vl) : fitV k v = noV := by
  have := unknown_kind h
  unfold fitV
  split
  · rfl
  rw [if_neg (by omega), if_neg (by omega)]


theorem fitV_f (k : Int) (b : Nat) : fitV k ⟨false, b⟩ = noV := by unfold fitV; rw [if_pos rfl]


/-- The ways in which a fit value looks. -/
theorem fit_ways (k : Int) (v : Vl) : (fitV k v = noV ∧ (v.h = false ∨ knownB k = false)) ∨ (v.h = true ∧ (k = 1 ∨ k = 2) ∧ fitV k v = ⟨true, v.b⟩) ∨ (v.h = true ∧ (k = 3 ∨ k = 4) ∧ fitV k v = ⟨true, canonW v.b⟩) := by
  obtain ⟨h, b⟩ := v
  cases h
  · exact .inl ⟨fitV_f k b, .inl rfl⟩
  cases hk : knownB k
  · exact .inl ⟨fitV_un hk _, .inr rfl⟩
  rcases known_kind.1 hk with h | h | h | h
  · exact .inr (.inl ⟨rfl, .inl h, fitV_12 (.inl h) b⟩)
  · exact .inr (.inl ⟨rfl, .inr h, fitV_12 (.inr h) b⟩)
  · exact .inr (.inr ⟨rfl, .inl h, fitV_34 (.inl h) b⟩)
  · exact .inr (.inr ⟨rfl, .inr h, fitV_34 (.inr h) b⟩)


theorem fitV_fitV (k : Int) (v : Vl) : fitV k (fitV k v) = fitV k v := by
  rcases fit_ways k v with ⟨e, _⟩ | ⟨_, h, e⟩ | ⟨_, h, e⟩
  · rw [e, fitV_no]
  · rw [e, fitV_12 h]
  · rw [e, fitV_34 h, canonW_canonW]


theorem fit_join (k : Int) {a b : Vl} (ha : fitV k a = a) (hb : fitV k b = b) : fitV k (joinV k a b) = joinV k a b := by
  unfold joinV
  split
  · exact hb
  split
  · exact ha
  split
  · rename_i h; subst h; rw [fitV_34 (.inl rfl), canonW_leastW]
  split
  · rename_i h; subst h; rw [fitV_34 (.inr rfl), canonW_mostW]
  · rename_i h1 h2 h3 h4
    have h12 : k = 1 ∨ k = 2 := by
      rcases fit_ways k a with ⟨e, _⟩ | ⟨_, h, e⟩ | ⟨_, h, e⟩
      · exact absurd (by rw [← ha, e]; rfl) h1
      · exact h
      · omega
    rw [fitV_12 h12]


theorem join_comm (k : Int) {a b : Vl} (ha : a.ok) (hb : b.ok) (fa : fitV k a = a) (fb : fitV k b = b) : joinV k a b = joinV k b a := by
  cases h1 : a.h <;> cases h2 : b.h
  · have e1 : a = noV := by
      rcases fit_ways k a with ⟨e, _⟩ | ⟨h, _⟩ | ⟨h, _⟩
      · rw [← fa, e]
      · rw [h1] at h; cases h
      · rw [h1] at h; cases h
    have e2 : b = noV := by
      rcases fit_ways k b with ⟨e, _⟩ | ⟨h, _⟩ | ⟨h, _⟩
      · rw [← fb, e]
      · rw [h2] at h; cases h
      · rw [h2] at h; cases h
    rw [e1, e2]
  · simp [joinV, h1, h2]
  · simp [joinV, h1, h2]
  · obtain ⟨p, x⟩ := a
    obtain ⟨q, y⟩ := b
    cases h1
    cases h2
    rw [join_tt, join_tt, least_comm ha hb, most_comm ha hb, Nat.add_comm]


theorem join_assoc (k : Int) {a b c : Vl} (ha : a.ok) (hb : b.ok) (hc : c.ok) : joinV k (joinV k a b) c = joinV k a (joinV k b c) := by
  obtain ⟨p, x⟩ := a
  obtain ⟨q, y⟩ := b
  obtain ⟨r, z⟩ := c
  cases p
  · simp [joinV]
  cases q
  · simp [joinV]
  cases r
  · by_cases h3 : k = 3
    · subst h3; simp [joinV]
    by_cases h4 : k = 4
    · subst h4; simp [joinV]
    · simp [joinV, h3, h4]
  by_cases h3 : k = 3
  · subst h3
    simp [joinV, least_assoc ha hb hc]
  by_cases h4 : k = 4
  · subst h4
    simp [joinV, most_assoc ha hb hc]
  · simp [joinV, h3, h4]
    omega


theorem merge_comm (k : Int) {a b : Vl} (ha : a.ok) (hb : b.ok) : mergeV k a b = mergeV k b a :=
  join_comm k (fitV_ok k ha) (fitV_ok k hb) (fitV_fitV k a) (fitV_fitV k b)


theorem fit_merge (k : Int) (a b : Vl) : fitV k (mergeV k a b) = mergeV k a b := fit_join k (fitV_fitV k a) (fitV_fitV k b)


theorem merge_assoc (k : Int) {a b c : Vl} (ha : a.ok) (hb : b.ok) (hc : c.ok) : mergeV k (mergeV k a b) c = mergeV k a (mergeV k b c) := by
  have e1 : mergeV k (mergeV k a b) c = joinV k (mergeV k a b) (fitV k c) := by rw [mergeV, fit_merge]
  have e2 : mergeV k a (mergeV k b c) = joinV k (fitV k a) (mergeV k b c) := by rw [mergeV, fit_merge]
  rw [e1, e2]
  exact join_assoc k (fitV_ok k ha) (fitV_ok k hb) (fitV_ok k hc)


theorem fit_none {k : Int} {v : Vl} (h : (fitV k v).h = false) : fitV k v = noV := by
  rcases fit_ways k v with ⟨e, _⟩ | ⟨_, _, e⟩ | ⟨_, _, e⟩
  · exact e
  · rw [e] at h; cases h
  · rw [e] at h; cases h


theorem merge_no (k : Int) (a : Vl) : mergeV k a noV = fitV k a := by
  unfold mergeV joinV
  rw [fitV_no]
  split
  · rename_i h; exact (fit_none h).symm
  · rw [if_pos (show noV.h = false from rfl)]


theorem no_merge (k : Int) (a : Vl) : mergeV k noV a = fitV k a := by
  unfold mergeV joinV
  rw [fitV_no, if_pos (show noV.h = false from rfl)]


theorem merge_un {k : Int} (h : knownB k = false) (a b : Vl) : mergeV k a b = noV := by
  unfold mergeV
  rw [fitV_un h, fitV_un h]
  rfl


theorem fit_has {k : Int} (h : knownB k = true) (a : Vl) : (fitV k a).h = a.h := by
  rcases fit_ways k a with ⟨e, h1 | h1⟩ | ⟨h1, _, e⟩ | ⟨h1, _, e⟩
  · rw [e, h1]; rfl
  · rw [h] at h1; cases h1
  · rw [e, h1]
  · rw [e, h1]


theorem merge_has {k : Int} (h : knownB k = true) (a b : Vl) : (mergeV k a b).h = (a.h || b.h) := by
  have e1 := fit_has h a
  have e2 := fit_has h b
  unfold mergeV joinV
  rw [← e1, ← e2]
  split
  · rename_i g; rw [g]; rfl
  split
  · rename_i g1 g2; rw [g2]; simp
  split
  · rename_i g1 g2 _; simp at g1; simp [g1]
  split
  · rename_i g1 g2 _ _; simp at g1; simp [g1]
  · rename_i g1 g2 _ _; simp at g1; simp [g1]


theorem merge_self {k : Int} (h : k = 3 ∨ k = 4) (a : Vl) : mergeV k a a = fitV k a := by
  unfold mergeV
  rcases fit_ways k a with ⟨e, _⟩ | ⟨_, h2, e⟩ | ⟨_, _, e⟩
  · rw [e]; rfl
  · omega
  rw [e, join_tt]
  have h1 : leastW (canonW a.b) (canonW a.b) = canonW a.b := by unfold leastW; rw [if_pos (Int.le_refl _), canonW_canonW]
  have h2 : mostW (canonW a.b) (canonW a.b) = canonW a.b := by unfold mostW; rw [if_pos (Int.le_refl _), canonW_canonW]
  rw [h1, h2]
  rcases h with rfl | rfl
  · rw [if_pos rfl]
  · rw [if_neg (by omega), if_pos rfl]


theorem fit_of (k : Int) (x : Nat) : fitV k (ofV k x) = ofV k x := by
  unfold ofV
  split
  · rename_i h; exact fitV_12 (.inl h) _
  split
  · rename_i h; exact fitV_12 (.inr h) _
  split
  · rename_i h; rw [fitV_34 h, canonW_canonW]
  · exact fitV_no k


/-- The values of floats, one behind the other. -/
def gathV (k : Int) (v : Vl) (l : List Nat) : Vl := l.foldl (fun v x => mergeV k v (ofV k x)) v


def allOk (l : List Nat) : Prop := ∀ x ∈ l, x < 18446744073709551616


theorem gath_ok (k : Int) {v : Vl} {l : List Nat} (hv : v.ok) (hl : allOk l) : (gathV k v l).ok := by
  induction l generalizing v with
  | nil => exact hv
  | cons x l ih => exact ih (mergeV_ok k hv (ofV_ok k (hl x (by simp)))) (fun y hy => hl y (by simp [hy]))


theorem gath_fit (k : Int) {v : Vl} (hv : fitV k v = v) (l : List Nat) : fitV k (gathV k v l) = gathV k v l := by
  induction l generalizing v with
  | nil => exact hv
  | cons x l ih => exact ih (fit_merge _ _ _)


theorem gath_start (k : Int) {v : Vl} {l : List Nat} (hv : v.ok) (fv : fitV k v = v) (hl : allOk l) : gathV k v l = mergeV k v (gathV k noV l) := by
  induction l generalizing v with
  | nil => show v = mergeV k v noV; rw [merge_no, fv]
  | cons x l ih =>
    have hx := ofV_ok k (hl x (by simp))
    have hl' : allOk l := fun y hy => hl y (by simp [hy])
    show gathV k (mergeV k v (ofV k x)) l = mergeV k v (gathV k (mergeV k noV (ofV k x)) l)
    rw [ih (mergeV_ok k hv hx) (fit_merge _ _ _) hl', ih (mergeV_ok k noV_ok hx) (fit_merge _ _ _) hl', merge_assoc k hv hx (gath_ok k noV_ok hl'), no_merge, fit_of]


theorem gath_cut (k : Int) {l r : List Nat} (hl : allOk l) (hr : allOk r) : gathV k noV (l ++ r) = mergeV k (gathV k noV l) (gathV k noV r) := by
  unfold gathV
  rw [List.foldl_append]
  exact gath_start k (gath_ok k noV_ok hl) (gath_fit k (fitV_no k) l) hr


theorem gath_turned (k : Int) {l : List Nat} (hl : allOk l) : gathV k noV l.reverse = gathV k noV l := by
  induction l with
  | nil => rfl
  | cons x l ih =>
    have hx : allOk [x] := fun y hy => hl y (by simp at hy; simp [hy])
    have hl' : allOk l := fun y hy => hl y (by simp [hy])
    rw [List.reverse_cons, gath_cut k (fun y hy => hl' y (by simpa using hy)) hx, ih hl', show x :: l = [x] ++ l from rfl, gath_cut k hx hl']
    exact merge_comm k (gath_ok k noV_ok hl') (gath_ok k noV_ok hx)


theorem gath_count (l : List Nat) (h : l ≠ []) : gathV 1 noV l = ⟨true, l.length % 18446744073709551616⟩ := by
  have step : ∀ (l : List Nat) (n : Nat), n < 18446744073709551616 → gathV 1 ⟨true, n⟩ l = ⟨true, (n + l.length) % 18446744073709551616⟩ := by
    intro l
    induction l with
    | nil => intro n hn; show (⟨true, n⟩ : Vl) = _; rw [List.length_nil, Nat.add_zero, Nat.mod_eq_of_lt hn]
    | cons x l ih =>
      intro n hn
      have e : mergeV 1 ⟨true, n⟩ (ofV 1 x) = ⟨true, (n + 1) % 18446744073709551616⟩ := by simp [mergeV, joinV, fitV, ofV]
      show gathV 1 (mergeV 1 ⟨true, n⟩ (ofV 1 x)) l = _
      rw [e, ih _ (Nat.mod_lt _ (by omega)), List.length_cons]
      congr 1
      omega
  cases l with
  | nil => exact absurd rfl h
  | cons x l =>
    have e : mergeV 1 noV (ofV 1 x) = ⟨true, 1⟩ := by rw [no_merge, fit_of, ofV, if_pos rfl]
    show gathV 1 (mergeV 1 noV (ofV 1 x)) l = _
    rw [e, step l 1 (by omega), List.length_cons]
    congr 1
    omega
end Go.Proofs.YtopjedgknbbgkaaGreat

namespace Go.Proofs.YtopjedgknbbgkaaGreat

open Ieee



/-- A pair: a key and its value. -/
structure Pr where
  k : Nat
  v : Vl


def Pr.ok (p : Pr) : Prop := p.k < 18446744073709551616 ∧ p.v.ok
def okT (t : List Pr) : Prop := ∀ p ∈ t, p.ok
def Rise (t : List Pr) : Prop := t.Pairwise (fun p q => p.k < q.k)
def hasT (t : List Pr) : Prop := ∀ p ∈ t, p.v.h = true


/-- The value of the first pair with that key. -/
def getT (k : Nat) : List Pr → Vl
  | [] => noV
  | p :: t => if p.k = k then p.v else getT k t


/-- A pair put into its place. -/
def putT (k : Nat) (v : Vl) : List Pr → List Pr
  | [] => [⟨k, v⟩]
  | p :: t => if k < p.k then ⟨k, v⟩ :: p :: t else if k = p.k then ⟨k, v⟩ :: t else p :: putT k v t


def withT (kind : Int) (k : Nat) (v : Vl) (t : List Pr) : List Pr := putT k (mergeV kind (getT k t) v) t


/-- Pairs put in one behind the other. -/
def addsT (kind : Int) (t : List Pr) (l : List Pr) : List Pr := l.foldl (fun t p => withT kind p.k p.v t) t
def addT (kind : Int) (a b : List Pr) : List Pr := addsT kind [] (a ++ b)


/-- The pairs that a pipeline makes of records. -/
def keptT (l : List Stp) (kind : Int) (recs : List Rcd) : List Pr := recs.filterMap (fun r => if (runS l r).1 = 1 then some ⟨(runS l r).2.k, ofV kind (runS l r).2.x⟩ else none)
def trapN (l : List Stp) (recs : List Rcd) : Nat := recs.countP (fun r => decide ((runS l r).1 = 3))
def batchT (l : List Stp) (kind : Int) (recs : List Rcd) : List Pr := addsT kind [] (keptT l kind recs)


/-- Is the list a table? -/
def soundB (t : List Pr) : Bool := (List.range t.length).all fun i => ((t[i]?.map (·.v.h)).getD false) && (i == 0 || decide (((t[i - 1]?.map (·.k)).getD 0) < ((t[i]?.map (·.k)).getD 0)))


theorem put_head (k : Nat) (v : Vl) (t : List Pr) : ∀ p ∈ putT k v t, p.k = k ∨ ∃ q ∈ t, q.k = p.k := by
  induction t with
  | nil => intro p hp; simp [putT] at hp; subst hp; exact Or.inl rfl
  | cons a t ih =>
    intro p hp
    unfold putT at hp
    split at hp
    · rcases List.mem_cons.1 hp with rfl | hp
      · exact Or.inl rfl
      · exact Or.inr ⟨p, hp, rfl⟩
    · split at hp
      · rcases List.mem_cons.1 hp with rfl | hp
        · exact Or.inl rfl
        · exact Or.inr ⟨p, List.mem_cons_of_mem _ hp, rfl⟩
      · rcases List.mem_cons.1 hp with rfl | hp
        · exact Or.inr ⟨p, by simp, rfl⟩
        · rcases ih p hp with h | ⟨q, hq, h⟩
          · exact Or.inl h
          · exact Or.inr ⟨q, List.mem_cons_of_mem _ hq, h⟩


theorem rise_put {t : List Pr} (h : Rise t) (k : Nat) (v : Vl) : Rise (putT k v t) := by
  induction t with
  | nil => simp [putT, Rise]
  | cons a t ih =>
    obtain ⟨h1, h2⟩ := List.pairwise_cons.1 h
    unfold putT
    split
    · rename_i hlt
      refine List.pairwise_cons.2 ⟨fun q hq => ?_, h⟩
      rcases List.mem_cons.1 hq with rfl | hq
      · exact hlt
      · exact Nat.lt_trans hlt (h1 q hq)
    · split
      · rename_i e
        exact List.pairwise_cons.2 ⟨fun q hq => by show k < q.k; rw [e]; exact h1 q hq, h2⟩
      · refine List.pairwise_cons.2 ⟨fun q hq => ?_, ih h2⟩
        rcases put_head k v t q hq with h | ⟨p, hp, h⟩
        · rw [h]; omega
        · rw [← h]; exact h1 p hp


theorem get_put_same (k : Nat) (v : Vl) (t : List Pr) : getT k (putT k v t) = v := by
  induction t with
  | nil => simp [putT, getT]
  | cons a t ih =>
    unfold putT
    split
    · simp [getT]
    · split
      · simp [getT]
      · unfold getT; rw [if_neg (by omega)]; exact ih


theorem get_put_other {k k' : Nat} (hk : k' ≠ k) (v : Vl) (t : List Pr) : getT k' (putT k v t) = getT k' t := by
  induction t with
  | nil => simp [putT, getT]; intro h; exact absurd h.symm hk
  | cons a t ih =>
    unfold putT
    split
    · show (if k = k' then v else getT k' (a :: t)) = _
      rw [if_neg (fun h => hk h.symm)]
    · split
      · rename_i e
        show (if k = k' then v else getT k' t) = (if a.k = k' then a.v else getT k' t)
        rw [if_neg (fun h => hk h.symm), if_neg (by rw [← e]; exact fun h => hk h.symm)]
      · show (if a.k = k' then a.v else getT k' (putT k v t)) = (if a.k = k' then a.v else getT k' t)
        rw [ih]


theorem put_mem {k : Nat} {v : Vl} {t : List Pr} {p : Pr} (h : p ∈ putT k v t) : p = ⟨k, v⟩ ∨ p ∈ t := by
  induction t with
  | nil => simpa [putT] using h
  | cons a t ih =>
    unfold putT at h
    split at h
    · rcases List.mem_cons.1 h with h | h
      · exact Or.inl h
      · exact Or.inr h
    · split at h
      · rcases List.mem_cons.1 h with h | h
        · exact Or.inl h
        · exact Or.inr (List.mem_cons_of_mem _ h)
      · rcases List.mem_cons.1 h with h | h
        · exact Or.inr (by rw [h]; simp)
        · rcases ih h with h | h
          · exact Or.inl h
          · exact Or.inr (List.mem_cons_of_mem _ h)


theorem has_put {k : Nat} {v : Vl} {t : List Pr} (ht : hasT t) (hv : v.h = true) : hasT (putT k v t) := fun p hp => by
  rcases put_mem hp with rfl | h
  · exact hv
  · exact ht p h
theorem ok_put {k : Nat} {v : Vl} {t : List Pr} (ht : okT t) (hk : k < 18446744073709551616) (hv : v.ok) : okT (putT k v t) := fun p hp => by
  rcases put_mem hp with rfl | h
  · exact ⟨hk, hv⟩
  · exact ht p h
theorem put_len (k : Nat) (v : Vl) (t : List Pr) : (putT k v t).length ≤ t.length + 1 := by
  induction t with
  | nil => simp [putT]
  | cons a t ih =>
    unfold putT
    split
    · simp
    · split
      · simp
      · simp; exact ih


theorem get_ok {t : List Pr} (h : okT t) (k : Nat) : (getT k t).ok := by
  induction t with
  | nil => exact noV_ok
  | cons a t ih =>
    unfold getT
    split
    · exact (h a (by simp)).2
    · exact ih (fun p hp => h p (List.mem_cons_of_mem _ hp))


theorem get_none {t : List Pr} {k : Nat} (h : ∀ p ∈ t, p.k ≠ k) : getT k t = noV := by
  induction t with
  | nil => rfl
  | cons a t ih =>
    unfold getT
    rw [if_neg (h a (by simp))]
    exact ih (fun p hp => h p (List.mem_cons_of_mem _ hp))


theorem get_some {t : List Pr} (ht : hasT t) {k : Nat} (h : ∃ p ∈ t, p.k = k) : (getT k t).h = true := by
  induction t with
  | nil => obtain ⟨p, hp, _⟩ := h; simp at hp
  | cons a t ih =>
    unfold getT
    split
    · exact ht a (by simp)
    · rename_i hne
      refine ih (fun p hp => ht p (List.mem_cons_of_mem _ hp)) ?_
      obtain ⟨p, hp, e⟩ := h
      rcases List.mem_cons.1 hp with rfl | hp
      · exact absurd e hne
      · exact ⟨p, hp, e⟩


theorem get_above {t : List Pr} {a : Pr} (h : Rise (a :: t)) {k : Nat} (hk : k ≤ a.k) : getT k t = noV := by
  obtain ⟨h1, _⟩ := List.pairwise_cons.1 h
  exact get_none fun p hp => by have := h1 p hp; omega


/-- Tables with the same value at each key are one. -/
theorem ext_T : ∀ {t u : List Pr}, Rise t → Rise u → hasT t → hasT u → (∀ k, getT k t = getT k u) → t = u
  | [], [], _, _, _, _, _ => rfl
  | [], q :: u, _, _, _, hu, h => by
    have h1 := h q.k
    have h2 : (getT q.k (q :: u)).h = true := get_some hu ⟨q, by simp, rfl⟩
    rw [← h1] at h2; cases h2
  | p :: t, [], _, _, ht, _, h => by
    have h1 := h p.k
    have h2 : (getT p.k (p :: t)).h = true := get_some ht ⟨p, by simp, rfl⟩
    rw [h1] at h2; cases h2
  | p :: t, q :: u, rt, ru, ht, hu, h => by
    have hp : getT p.k (p :: t) = p.v := if_pos rfl
    have hq : getT q.k (q :: u) = q.v := if_pos rfl
    have e : p.k = q.k := by
      rcases Nat.lt_trichotomy p.k q.k with hl | e | hl
      · have h1 := h p.k
        have h2 : getT p.k (q :: u) = noV := by
          show (if q.k = p.k then q.v else getT p.k u) = noV
          rw [if_neg (by omega)]; exact get_above ru (by omega)
        rw [h2, hp] at h1
        have := ht p (by simp); rw [h1] at this; cases this
      · exact e
      · have h1 := h q.k
        have h2 : getT q.k (p :: t) = noV := by
          show (if p.k = q.k then p.v else getT q.k t) = noV
          rw [if_neg (by omega)]; exact get_above rt (by omega)
        rw [h2, hq] at h1
        have := hu q (by simp); rw [← h1] at this; cases this
    have ev : p.v = q.v := by rw [← hp, ← hq, h p.k, e]
    have et : t = u := by
      refine ext_T (List.pairwise_cons.1 rt).2 (List.pairwise_cons.1 ru).2 (fun x hx => ht x (List.mem_cons_of_mem _ hx)) (fun x hx => hu x (List.mem_cons_of_mem _ hx)) fun k => ?_
      have h1 := h k
      by_cases hk : p.k = k
      · rw [get_above rt (by omega), get_above ru (by omega)]
      · have e1 : getT k (p :: t) = getT k t := if_neg hk
        have e2 : getT k (q :: u) = getT k u := if_neg (by rw [← e]; exact hk)
        rw [e1, e2] at h1; exact h1
    rw [et]
    obtain ⟨pk, pv⟩ := p
    obtain ⟨qk, qv⟩ := q
    simp only at e ev
    rw [e, ev]

/-! ### pairs put in one behind the other -/
theorem adds_nil (kind : Int) (t : List Pr) : addsT kind t [] = t := rfl
theorem adds_cons (kind : Int) (t : List Pr) (p : Pr) (l : List Pr) : addsT kind t (p :: l) = addsT kind (withT kind p.k p.v t) l := rfl
theorem adds_append (kind : Int) (t l m : List Pr) : addsT kind t (l ++ m) = addsT kind (addsT kind t l) m := by unfold addsT; rw [List.foldl_append]
theorem adds_snoc (kind : Int) (t l : List Pr) (p : Pr) : addsT kind t (l ++ [p]) = withT kind p.k p.v (addsT kind t l) := by rw [adds_append]; rfl


theorem rise_with {kind : Int} {t : List Pr} (h : Rise t) (k : Nat) (v : Vl) : Rise (withT kind k v t) := rise_put h k _
theorem rise_adds {kind : Int} {t : List Pr} (h : Rise t) (l : List Pr) : Rise (addsT kind t l) := by
  induction l generalizing t with
  | nil => exact h
  | cons p l ih => exact ih (rise_with h p.k p.v)
theorem ok_with {kind : Int} {t : List Pr} (h : okT t) {k : Nat} {v : Vl} (hk : k < 18446744073709551616) (hv : v.ok) : okT (withT kind k v t) := ok_put h hk (mergeV_ok kind (get_ok h k) hv)
theorem ok_adds {kind : Int} {t : List Pr} (h : okT t) {l : List Pr} (hl : okT l) : okT (addsT kind t l) := by
  induction l generalizing t with
  | nil => exact h
  | cons p l ih => exact ih (ok_with h (hl p (by simp)).1 (hl p (by simp)).2) (fun q hq => hl q (List.mem_cons_of_mem _ hq))
theorem has_with {kind : Int} (hk : knownB kind = true) {t : List Pr} (h : hasT t) {k : Nat} {v : Vl} (hv : v.h = true) : hasT (withT kind k v t) := has_put h (by rw [merge_has hk, hv, Bool.or_true])
theorem has_adds {kind : Int} (hk : knownB kind = true) {t : List Pr} (h : hasT t) {l : List Pr} (hl : hasT l) : hasT (addsT kind t l) := by
  induction l generalizing t with
  | nil => exact h
  | cons p l ih => exact ih (has_with hk h (hl p (by simp))) (fun q hq => hl q (List.mem_cons_of_mem _ hq))
theorem adds_len (kind : Int) (t l : List Pr) : (addsT kind t l).length ≤ t.length + l.length := by
  induction l generalizing t with
  | nil => simp [addsT]
  | cons p l ih =>
    have h1 := ih (withT kind p.k p.v t)
    have h2 : (withT kind p.k p.v t).length ≤ t.length + 1 := put_len _ _ _
    rw [adds_cons]; simp only [List.length_cons]; omega


/-- The values of a key, one behind the other. -/
def atT (k : Nat) (l : List Pr) : List Vl := (l.filter (fun p => p.k == k)).map (·.v)
def foldV (kind : Int) (v : Vl) (l : List Vl) : Vl := l.foldl (fun v x => mergeV kind v x) v


theorem get_with (kind : Int) (k k' : Nat) (v : Vl) (t : List Pr) : getT k (withT kind k' v t) = if k' = k then mergeV kind (getT k t) v else getT k t := by
  split
  · rename_i e; subst e; exact get_put_same _ _ _
  · rename_i e; exact get_put_other (fun h => e h.symm) _ _


theorem get_adds (kind : Int) (k : Nat) (l : List Pr) : ∀ t : List Pr, getT k (addsT kind t l) = foldV kind (getT k t) (atT k l) := by
  induction l with
  | nil => intro t; rfl
  | cons p l ih =>
    intro t
    rw [adds_cons, ih, get_with]
    unfold atT
    by_cases h : p.k = k
    · rw [if_pos h, List.filter_cons_of_pos (by simpa using h)]; rfl
    · rw [if_neg h, List.filter_cons_of_neg (by simpa using h)]


def okL (l : List Vl) : Prop := ∀ v ∈ l, v.ok
theorem foldV_ok (kind : Int) {v : Vl} (hv : v.ok) {l : List Vl} (hl : okL l) : (foldV kind v l).ok := by
  induction l generalizing v with
  | nil => exact hv
  | cons x l ih => exact ih (mergeV_ok kind hv (hl x (by simp))) (fun y hy => hl y (List.mem_cons_of_mem _ hy))
theorem foldV_fit (kind : Int) {v : Vl} (hv : fitV kind v = v) (l : List Vl) : fitV kind (foldV kind v l) = foldV kind v l := by
  induction l generalizing v with
  | nil => exact hv
  | cons x l ih => exact ih (fit_merge kind v x)
theorem foldV_start (kind : Int) {v : Vl} {l : List Vl} (hv : v.ok) (fv : fitV kind v = v) (hl : okL l) : foldV kind v l = mergeV kind v (foldV kind noV l) := by
  induction l generalizing v with
  | nil => show v = mergeV kind v noV; rw [merge_no, fv]
  | cons x l ih =>
    have hx : x.ok := hl x (by simp)
    have hl' : okL l := fun y hy => hl y (List.mem_cons_of_mem _ hy)
    show foldV kind (mergeV kind v x) l = mergeV kind v (foldV kind (mergeV kind noV x) l)
    rw [ih (mergeV_ok kind hv hx) (fit_merge kind v x) hl', ih (mergeV_ok kind noV_ok hx) (fit_merge kind noV x) hl']
    rw [merge_assoc kind hv hx (foldV_ok kind noV_ok hl'), merge_assoc kind noV_ok hx (foldV_ok kind noV_ok hl'), no_merge, fit_merge]
theorem foldV_append (kind : Int) {l m : List Vl} (hl : okL l) (hm : okL m) : foldV kind noV (l ++ m) = mergeV kind (foldV kind noV l) (foldV kind noV m) := by
  unfold foldV
  rw [List.foldl_append]
  exact foldV_start kind (foldV_ok kind noV_ok hl) (foldV_fit kind (fitV_no kind) l) hm
theorem foldV_perm (kind : Int) {l m : List Vl} (h : l.Perm m) (hl : okL l) : foldV kind noV l = foldV kind noV m := by
  induction h with
  | nil => rfl
  | cons x h ih =>
    rename_i l1 l2
    have hx : x.ok := hl x (by simp)
    have h1 : okL l1 := fun y hy => hl y (List.mem_cons_of_mem _ hy)
    have h2 : okL l2 := fun y hy => h1 y (h.mem_iff.2 hy)
    show foldV kind (mergeV kind noV x) l1 = foldV kind (mergeV kind noV x) l2
    rw [foldV_start kind (mergeV_ok kind noV_ok hx) (fit_merge kind noV x) h1, foldV_start kind (mergeV_ok kind noV_ok hx) (fit_merge kind noV x) h2, ih h1]
  | swap x y l =>
    have hx : x.ok := hl x (by simp)
    have hy : y.ok := hl y (by simp)
    show foldV kind (mergeV kind (mergeV kind noV y) x) l = foldV kind (mergeV kind (mergeV kind noV x) y) l
    rw [merge_assoc kind noV_ok hy hx, merge_assoc kind noV_ok hx hy, merge_comm kind hx hy]
  | trans h1 h2 ih1 ih2 =>
    rw [ih1 hl, ih2 (fun y hy => hl y (h1.mem_iff.2 hy))]


theorem at_ok {l : List Pr} (h : okT l) (k : Nat) : okL (atT k l) := by
  intro v hv
  unfold atT at hv
  obtain ⟨p, hp, rfl⟩ := List.mem_map.1 hv
  exact (h p (List.mem_filter.1 hp).1).2
theorem at_append (k : Nat) (l m : List Pr) : atT k (l ++ m) = atT k l ++ atT k m := by unfold atT; rw [List.filter_append, List.map_append]


/-- In a table each key stands once. -/
theorem at_rise {t : List Pr} (h : Rise t) (kind : Int) (k : Nat) : foldV kind noV (atT k t) = fitV kind (getT k t) := by
  induction t with
  | nil => show noV = fitV kind noV; rw [fitV_no]
  | cons a t ih =>
    obtain ⟨h1, h2⟩ := List.pairwise_cons.1 h
    by_cases e : a.k = k
    · have e1 : atT k (a :: t) = [a.v] := by
        unfold atT
        rw [List.filter_cons_of_pos (by simpa using e)]
        have : t.filter (fun p => p.k == k) = [] := List.filter_eq_nil_iff.2 fun p hp => by have := h1 p hp; simp; omega
        rw [this]; rfl
      have e2 : getT k (a :: t) = a.v := if_pos e
      rw [e1, e2]
      show mergeV kind noV a.v = _
      rw [no_merge]
    · have e1 : atT k (a :: t) = atT k t := by unfold atT; rw [List.filter_cons_of_neg (by simpa using e)]
      have e2 : getT k (a :: t) = getT k t := if_neg e
      rw [e1, e2, ih h2]


theorem merge_fit_l (kind : Int) (a b : Vl) : mergeV kind (fitV kind a) b = mergeV kind a b := by unfold mergeV; rw [fitV_fitV]
theorem merge_fit_r (kind : Int) (a b : Vl) : mergeV kind a (fitV kind b) = mergeV kind a b := by unfold mergeV; rw [fitV_fitV]


/-- What two tables together have at a key. -/
theorem get_add {a b : List Pr} (ra : Rise a) (rb : Rise b) (oa : okT a) (ob : okT b) (kind : Int) (k : Nat) : getT k (addT kind a b) = mergeV kind (getT k a) (getT k b) := by
  unfold addT
  rw [get_adds, at_append]
  show foldV kind noV _ = _
  rw [foldV_append kind (at_ok oa k) (at_ok ob k), at_rise ra, at_rise rb, merge_fit_l, merge_fit_r]


theorem rise_nil : Rise [] := List.Pairwise.nil
theorem has_nil : hasT [] := fun p hp => by simp at hp
theorem ok_nil : okT [] := fun p hp => by simp at hp


theorem kept_append (l : List Stp) (kind : Int) (a b : List Rcd) : keptT l kind (a ++ b) = keptT l kind a ++ keptT l kind b := by unfold keptT; rw [List.filterMap_append]
theorem kept_has {l : List Stp} {kind : Int} (hk : knownB kind = true) (recs : List Rcd) : hasT (keptT l kind recs) := by
  intro p hp
  obtain ⟨r, _, h⟩ := List.mem_filterMap.1 hp
  split at h
  · cases h
    show (ofV kind _).h = true
    rcases known_kind.1 hk with rfl | rfl | rfl | rfl <;> rfl
  · cases h
theorem rise_batch (l : List Stp) (kind : Int) (recs : List Rcd) : Rise (batchT l kind recs) := rise_adds rise_nil _
theorem has_batch {l : List Stp} {kind : Int} (hk : knownB kind = true) (recs : List Rcd) : hasT (batchT l kind recs) := has_adds hk has_nil (kept_has hk recs)


/-- Records in another order make the same table. -/
theorem batch_perm {l : List Stp} {kind : Int} (hk : knownB kind = true) {a b : List Rcd} (h : a.Perm b) (ho : okT (keptT l kind a)) : batchT l kind a = batchT l kind b := by
  refine ext_T (rise_batch _ _ _) (rise_batch _ _ _) (has_batch hk _) (has_batch hk _) fun k => ?_
  unfold batchT
  rw [get_adds, get_adds]
  exact foldV_perm kind (((h.filterMap _).filter _).map _) (at_ok ho k)


theorem get_batch_append {l : List Stp} {kind : Int} {a b : List Rcd} (oa : okT (keptT l kind a)) (ob : okT (keptT l kind b)) (k : Nat) : getT k (batchT l kind (a ++ b)) = mergeV kind (getT k (batchT l kind a)) (getT k (batchT l kind b)) := by
  unfold batchT
  rw [get_adds, get_adds, get_adds, kept_append, at_append]
  exact foldV_append kind (at_ok oa k) (at_ok ob k)


/-- Two parts together. -/
theorem batch_cut {l : List Stp} {kind : Int} (hk : knownB kind = true) {a b : List Rcd} (oa : okT (keptT l kind a)) (ob : okT (keptT l kind b)) : addT kind (batchT l kind a) (batchT l kind b) = batchT l kind (a ++ b) := by
  refine ext_T (rise_adds rise_nil _) (rise_batch _ _ _) (has_adds hk has_nil ?_) (has_batch hk _) fun k => ?_
  · intro p hp
    rcases List.mem_append.1 hp with h | h
    · exact has_batch hk a p h
    · exact has_batch hk b p h
  · rw [get_batch_append oa ob, get_add (rise_batch _ _ _) (rise_batch _ _ _) (ok_adds ok_nil oa) (ok_adds ok_nil ob)]


theorem add_comm {kind : Int} (hk : knownB kind = true) {a b : List Pr} (ra : Rise a) (rb : Rise b) (oa : okT a) (ob : okT b) (ha : hasT a) (hb : hasT b) : addT kind a b = addT kind b a := by
  have hh : ∀ {x y : List Pr}, hasT x → hasT y → hasT (x ++ y) := fun hx hy p hp => by
    rcases List.mem_append.1 hp with h | h
    · exact hx p h
    · exact hy p h
  refine ext_T (rise_adds rise_nil _) (rise_adds rise_nil _) (has_adds hk has_nil (hh ha hb)) (has_adds hk has_nil (hh hb ha)) fun k => ?_
  rw [get_add ra rb oa ob, get_add rb ra ob oa, merge_comm kind (get_ok oa k) (get_ok ob k)]
end Go.Proofs.YtopjedgknbbgkaaGreat
