/- Tables as lists of keys and values: looked up, put into, put together; what a batch makes of records. -/
import Derived.Test.YtofkhgokfdpdiaaGreatB05
import Derived.Test.YtofkhgokfdpdiaaGreatRows
import Derived.WalkKit
import Derived.ProofKit
import Derived.OpenShut
import Derived.Carry
import Derived.Deep.Slices
import Derived.Lib.SmallJoins
import Derived.Test.YtofkhgokfdpdiaaGreatB03
import Derived.Test.YtofkhgokfdpdiaaGreatB04
set_option maxRecDepth 100000
set_option maxHeartbeats 16000000
namespace Go.Proofs.YtofkhgokfdpdiaaGreat
section
open Ieee Go.RowKit

theorem isB_kind {o : Stp} (h : isB o = true) : o.K = 1 ∨ o.K = 2 ∨ o.K = 3 ∨ o.K = 4 ∨ o.K = 5 ∨ o.K = 6 ∨ (o.K = 7 ∧ -2200 ≤ o.N ∧ o.N ≤ 2200) ∨ o.K = 8 ∨ o.K = 9 ∨ o.K = 10 ∨ (o.K = 11 ∧ 1 ≤ o.N) ∨ o.K = 12 := by
 unfold isB at h
 split at h
 ·simp at h; omega
 split at h
 ·simp at h; omega
 ·simp at h; omega
theorem step_kept (o : Stp) (r : Rcd) (ho : o.ok) (hr : r.ok) (hb : isB o = true) (hf : fateI o r.x = 1) (w : World) :
  Calls Tryz.prog 218 #[.agg #[.int .i64 o.K, .int .i64 o.N, .float .f64 o.X], .agg #[.int .u64 r.k, .float .f64 r.x]] w fun e w' =>
   e = .returned (.tuple #[.agg #[.int .u64 (nextR o r).k, .float .f64 (nextR o r).x], .bool true]) ∧ Below w.heap.size w w' := by
 have hk := isB_kind hb
 obtain ⟨K, N, X⟩ := o
 obtain ⟨k, x⟩ := r
 obtain ⟨_, ⟨_, hN⟩, _⟩ := ho
 obtain ⟨_, hx⟩ := hr
 simp only at *
 rcases hk with rfl | rfl | rfl | rfl | rfl | rfl | ⟨rfl, _⟩ | rfl | rfl | rfl | ⟨rfl, h1⟩ | rfl
 ·rw [show nextR ⟨1, N, X⟩ ⟨k, x⟩ = ⟨k, x⟩ by simp [nextR]]
  refine (step_1 N X k w).mono ?_
  rintro e w' ⟨rfl, hB⟩
  refine ⟨?_, hB⟩
  cases h : ltB x X
  ·simp [fateI, h] at hf
  ·rfl
 ·rw [show nextR ⟨2, N, X⟩ ⟨k, x⟩ = ⟨k, x⟩ by simp [nextR]]
  refine (step_2 N X k w).mono ?_
  rintro e w' ⟨rfl, hB⟩
  refine ⟨?_, hB⟩
  cases h : gtB x X
  ·simp [fateI, h] at hf
  ·rfl
 ·rw [show nextR ⟨3, N, X⟩ ⟨k, x⟩ = ⟨k, x⟩ by simp [nextR]]
  refine (step_3 N X k hx w).mono ?_
  rintro e w' ⟨rfl, hB⟩
  refine ⟨?_, hB⟩
  cases h : nanB x
  ·rfl
  ·simp [fateI, h] at hf
 ·rw [show nextR ⟨4, N, X⟩ ⟨k, x⟩ = ⟨k, canonW (negW x)⟩ by simp [nextR, turnW]]
  exact step_4 N X k hx w
 ·rw [show nextR ⟨5, N, X⟩ ⟨k, x⟩ = ⟨k, canonW (rung x)⟩ by simp [nextR, turnW]]
  exact step_5 N X k hx w
 ·rw [show nextR ⟨6, N, X⟩ ⟨k, x⟩ = ⟨k, canonW (floorW x)⟩ by simp [nextR, turnW]]
  exact step_6 N X k hx w
 ·rw [show nextR ⟨7, N, X⟩ ⟨k, x⟩ = ⟨k, canonW (scaleR x N)⟩ by simp [nextR, turnW]]
  exact step_7 N X k hx w
 ·rw [show nextR ⟨8, N, X⟩ ⟨k, x⟩ = ⟨k, canonW (invW x)⟩ by simp [nextR, turnW]]
  exact step_8 N X k hx w
 ·rw [show nextR ⟨9, N, X⟩ ⟨k, x⟩ = ⟨k, x⟩ by simp [nextR]]
  refine step_9 N X k hx ?_ w
  by_cases h : 9218868437227405312 ≤ rung x
  ·simp [fateI, h] at hf
  ·omega
 ·rw [show nextR ⟨10, N, X⟩ ⟨k, x⟩ = ⟨k, canonW (ofW (perI N (wholeI x)))⟩ by simp [nextR, turnW]]
  refine step_10 N X k hx ?_ w
  intro h
  simp [fateI, h] at hf
 ·rw [show nextR ⟨11, N, X⟩ ⟨k, x⟩ = ⟨k % N.toNat, x⟩ by simp [nextR]]
  exact step_11 N X k h1 hN w
 ·rw [show nextR ⟨12, N, X⟩ ⟨k, x⟩ = ⟨k % 4611686018427387904 * 4 + sideN x, x⟩ by simp [nextR]]
  exact step_12 N X k hx w
theorem step_dropped (o : Stp) (r : Rcd) (hr : r.ok) (hb : isB o = true) (hf : fateI o r.x = 2) (w : World) :
  Calls Tryz.prog 218 #[.agg #[.int .i64 o.K, .int .i64 o.N, .float .f64 o.X], .agg #[.int .u64 r.k, .float .f64 r.x]] w fun e w' =>
   e = .returned (.tuple #[.agg #[.int .u64 r.k, .float .f64 r.x], .bool false]) ∧ Below w.heap.size w w' := by
 have hk := isB_kind hb
 obtain ⟨K, N, X⟩ := o
 obtain ⟨k, x⟩ := r
 obtain ⟨_, hx⟩ := hr
 simp only at *
 rcases hk with rfl | rfl | rfl | rfl | rfl | rfl | ⟨rfl, _⟩ | rfl | rfl | rfl | ⟨rfl, h1⟩ | rfl
 ·refine (step_1 N X k w).mono ?_
  rintro e w' ⟨rfl, hB⟩
  refine ⟨?_, hB⟩
  cases h : ltB x X
  ·rfl
  ·simp [fateI, h] at hf
 ·refine (step_2 N X k w).mono ?_
  rintro e w' ⟨rfl, hB⟩
  refine ⟨?_, hB⟩
  cases h : gtB x X
  ·rfl
  ·simp [fateI, h] at hf
 ·refine (step_3 N X k hx w).mono ?_
  rintro e w' ⟨rfl, hB⟩
  refine ⟨?_, hB⟩
  cases h : nanB x
  ·simp [fateI, h] at hf
  ·rfl
 all_goals (exfalso; revert hf; simp [fateI])
 all_goals (split <;> simp)
theorem step_trapped (o : Stp) (r : Rcd) (hr : r.ok) (hb : isB o = true) (hf : fateI o r.x = 3) (w : World) :
  Calls Tryz.prog 218 #[.agg #[.int .i64 o.K, .int .i64 o.N, .float .f64 o.X], .agg #[.int .u64 r.k, .float .f64 r.x]] w fun e w' =>
   (∃ u pv, e = .panicked [{ v := .iface u pv, recovered := false }]) ∧ Below w.heap.size w w' := by
 have hk := isB_kind hb
 obtain ⟨K, N, X⟩ := o
 obtain ⟨k, x⟩ := r
 obtain ⟨_, hx⟩ := hr
 simp only at *
 rcases hk with rfl | rfl | rfl | rfl | rfl | rfl | ⟨rfl, _⟩ | rfl | rfl | rfl | ⟨rfl, h1⟩ | rfl
 rotate_left 8
 ·refine step_9_trap N X k hx ?_ w
  by_cases h : 9218868437227405312 ≤ rung x
  ·exact h
  ·simp [fateI, h] at hf
 ·refine step_10_trap N X k hx ?_ w
  by_cases h : wholeI x = 0
  ·exact h
  ·simp [fateI, h] at hf
 all_goals (exfalso; revert hf; simp [fateI])
 all_goals (split <;> simp)
theorem fate_cases (o : Stp) (x : Nat) : fateI o x = 1 ∨ fateI o x = 2 ∨ fateI o x = 3 := by
 unfold fateI
 repeat' split
 all_goals omega
def Ol (w : World) (ao : Option Addr) (l : List Stp) : Prop :=
 ∀ i, (h : i < l.length) → ∃ b off, ao = some ⟨b, off, none⟩ ∧ w.cell? ⟨b, off + i * 3, none⟩ = some (.int .i64 l[i].K) ∧ w.cell? ⟨b, off + i * 3 + 1, none⟩ = some (.int .i64 l[i].N) ∧ w.cell? ⟨b, off + i * 3 + 2, none⟩ = some (.float .f64 l[i].X)
def Ov (w : World) (v : Value) (l : List Stp) : Prop :=
 (∃ ao cap, v = .slice ao l.length cap ∧ l.length ≤ cap ∧ cap ≤ maxLen ∧ (ao = none → cap = 0) ∧ Ol w ao l) ∧ ∀ o ∈ l, o.ok
theorem Ol.below {w w' : World} {ao : Option Addr} {l : List Stp} (h : Ol w ao l) (hb : Below w.heap.size w w') : Ol w' ao l := by
 intro i hi
 obtain ⟨b, off, e, h0, h1, h2⟩ := h i hi
 exact ⟨b, off, e, by rw [hb.cell (p := ⟨b, off + i * 3, none⟩) (cell_lt h0)]; exact h0, by rw [hb.cell (p := ⟨b, off + i * 3 + 1, none⟩) (cell_lt h1)]; exact h1, by rw [hb.cell (p := ⟨b, off + i * 3 + 2, none⟩) (cell_lt h2)]; exact h2⟩
theorem Ov.below {w w' : World} {v : Value} {l : List Stp} (h : Ov w v l) (hb : Below w.heap.size w w') : Ov w' v l := by
 obtain ⟨⟨ao, cap, e, h1, h2, h3, h4⟩, h5⟩ := h
 exact ⟨⟨ao, cap, e, h1, h2, h3, h4.below hb⟩, h5⟩
end
section
open Go.ChangeShapes Go.WideShapes Go.ChangeAt Go.RowKit

theorem own_knob : ownKnob Tryz.prog.godebug = none := by kernel_rfl
theorem laid_out : laidOutB Tryz.prog = true := by kernel_rfl
theorem cells_rec : Tryz.prog.cellsOf 81 = 2 := by kernel_rfl
theorem cells_u64 : Tryz.prog.cellsOf 37 = 1 := by kernel_rfl
theorem cells_f64 : Tryz.prog.cellsOf 79 = 1 := by kernel_rfl
theorem post_of_below {H : Type} {enc : TypeId × Value → H} {P : Program} {f : Func} {s : ChangeSpec} {apart fresh handsOn : Bool} {W W' : World} {args : Array Value} {v : Value} {ds gs : List (DataW H)} {before pa pv : List MemPlace}
  (hW : DataW.Whole enc P f.params.toList s.vars apart W args.toList ds gs before)
  (hres : ∀ (b : Nat) (sp : Nat → Bool) (hd : Bool), DataW.TrodAll enc P W' b sp hd f.resultTypes.toList (v.resultList f.resultTypes.size) (s.fn H (ds ++ gs)).results [])
  (hargs : ∀ sp : Nat → Bool, (∀ p ∈ before, sp p.block = true) → DataW.TrodAll enc P W' 0 sp true f.params.toList args.toList (s.fn H (ds ++ gs)).args pa)
  (hvars : ∀ sp : Nat → Bool, (∀ p ∈ before, sp p.block = true) → DataW.TrodVars enc P W' sp s.vars (s.fn H (ds ++ gs)).vars pv)
  (hps : before = pa ++ pv) (hb : Below W.heap.size W W') :
  s.post enc P f apart fresh handsOn false W args v W' := by
 have hold : ∀ p ∈ before, (fun b => decide (b < W.heap.size)) p.block = true := fun p hp => by simpa using hW.lt p hp
 refine ⟨ds, gs, before, [], pa, pv, hW, hres _ _ _, hargs _ hold, hvars _ hold, World.keptBut_mono (fun p hp => ⟨hp, ?_⟩) (hb.frame (· ∈ before)), fun h => by cases h⟩
 rw [hps, List.mem_append] at hp
 exact Or.inr hp
theorem again {H : Type} {enc : TypeId × Value → H} {W W' : World} {t : TypeId} {v : Value} {d : DataW H} {p : List MemPlace} {sp : Nat → Bool} (hr : Tryz.prog.readableRec t = true) (hrow : t < Tryz.prog.types.size)
  (h : DataW.Trod enc Tryz.prog W 0 (fun _ => true) true t v d p) (hb : Below W.heap.size W W') (hlt : ∀ x ∈ p, x.block < W.heap.size) (hsp : ∀ x ∈ p, sp x.block = true) :
  DataW.Trod enc Tryz.prog W' 0 sp true t v d p :=
 WideElems.Trod_stays laid_out hr hrow h (fun x hx => hb.same (hlt x hx)) hsp
theorem u64_of_wf {x : Int} (h : (Lit.int .u64 x).wf = true) : ∃ n : Nat, x = n ∧ n < 18446744073709551616 := by
 have h0 : 0 ≤ x ∧ x ≤ 18446744073709551615 := by simpa [Lit.wf, IntKind.min, IntKind.max, IntKind.signed, IntKind.bits] using h
 exact ⟨x.toNat, by omega, by omega⟩
theorem i64_of_wf {x : Int} (h : (Lit.int .i64 x).wf = true) : -9223372036854775808 ≤ x ∧ x < 9223372036854775808 := by
 have h0 : -9223372036854775808 ≤ x ∧ x ≤ 9223372036854775807 := by simpa [Lit.wf, IntKind.min, IntKind.max, IntKind.signed, IntKind.bits] using h
 omega
theorem f64_of_wf {x : Nat} (h : (Lit.float .f64 x).wf = true) : x < 18446744073709551616 := by simpa [Lit.wf] using h
section

variable {H : Type} {enc : TypeId × Value → H} {W : World} {sp : Nat → Bool} {held : Bool} {base : Nat}

theorem cell_i64 {t : TypeId} (ht : Tryz.prog.underlying t = some (.int .i64)) {n : Nat} {v : Value} {x : DataW H × List MemPlace} (h : DataW.trod enc Tryz.prog W base sp held n t [v] = some x) : ∃ a : Int, v = .int .i64 a ∧ (-9223372036854775808 ≤ a ∧ a < 9223372036854775808) := by
 cases n with
 | zero => simp [DataW.trod] at h
 | succ n =>
  simp only [DataW.trod, ht] at h
  cases v <;> simp at h
  rename_i k a
  obtain ⟨⟨rfl, hw⟩, _⟩ := h
  exact ⟨a, rfl, i64_of_wf hw⟩
theorem cell_u64 {n : Nat} {v : Value} {x : DataW H × List MemPlace} (h : DataW.trod enc Tryz.prog W base sp held n 37 [v] = some x) : ∃ a : Nat, v = .int .u64 a ∧ a < 18446744073709551616 := by
 cases n with
 | zero => simp [DataW.trod] at h
 | succ n =>
  simp only [DataW.trod, Tryz.underlying37] at h
  cases v <;> simp at h
  rename_i k a
  obtain ⟨⟨rfl, hw⟩, _⟩ := h
  obtain ⟨n, rfl, hn⟩ := u64_of_wf hw
  exact ⟨n, rfl, hn⟩
theorem cell_f64 {n : Nat} {v : Value} {x : DataW H × List MemPlace} (h : DataW.trod enc Tryz.prog W base sp held n 79 [v] = some x) : ∃ a : Nat, v = .float .f64 a ∧ a < 18446744073709551616 := by
 cases n with
 | zero => simp [DataW.trod] at h
 | succ n =>
  simp only [DataW.trod, Tryz.underlying79] at h
  cases v <;> simp at h
  rename_i k a
  obtain ⟨⟨rfl, hw⟩, _⟩ := h
  exact ⟨a, rfl, f64_of_wf hw⟩
theorem cells_of_rec {n : Nat} {cs : List Value} {x : DataW H × List MemPlace} (hl : cs.length = 2) (h : DataW.trod enc Tryz.prog W base sp held n 81 cs = some x) :
  ∃ r : Rcd, cs = [.int .u64 r.k, .float .f64 r.x] ∧ r.ok := by
 obtain ⟨y0, y1, m, _, _, h0, h1⟩ := trod_struct2 Tryz.underlying81 h
 match cs, hl with
 | [a, b], _ =>
  simp only [cells_u64, cells_f64, List.drop_zero, List.drop_succ_cons, List.take_succ_cons, List.take_zero] at h0 h1
  obtain ⟨k, rfl, hk⟩ := cell_u64 h0
  obtain ⟨x, rfl, hx⟩ := cell_f64 h1
  exact ⟨⟨k, x⟩, rfl, hk, hx⟩
end

def Rl (w : World) (ao : Option Addr) (l : List Rcd) : Prop :=
 ∀ i, (h : i < l.length) → ∃ b off, ao = some ⟨b, off, none⟩ ∧ w.cell? ⟨b, off + i * 2, none⟩ = some (.int .u64 l[i].k) ∧ w.cell? ⟨b, off + i * 2 + 1, none⟩ = some (.float .f64 l[i].x)
def Rv (w : World) (v : Value) (l : List Rcd) : Prop :=
 (∃ ao cap, v = .slice ao l.length cap ∧ l.length ≤ cap ∧ cap ≤ maxLen ∧ (ao = none → cap = 0) ∧ Rl w ao l) ∧ ∀ r ∈ l, r.ok
theorem Rl.below {w w' : World} {ao : Option Addr} {l : List Rcd} (h : Rl w ao l) (hb : Below w.heap.size w w') : Rl w' ao l := by
 intro i hi
 obtain ⟨b, off, e, h0, h1⟩ := h i hi
 exact ⟨b, off, e, by rw [hb.cell (p := ⟨b, off + i * 2, none⟩) (cell_lt h0)]; exact h0, by rw [hb.cell (p := ⟨b, off + i * 2 + 1, none⟩) (cell_lt h1)]; exact h1⟩
end
section
open Ieee Go.RowKit

theorem canon_told {x : Nat} : nanB (canonW x) = nanB x := by
 unfold canonW
 cases h : nanB x
 ·rw [if_neg (by simp), h]
 ·rw [if_pos rfl]; decide
theorem rank_canon (x : Nat) : rank (canonW x) = rank x := by
 cases hn : nanB x
 ·have e : canonW x = x := by unfold canonW; rw [hn]; rfl
  rw [e]
 ·have h := @canon_told x
  rw [hn] at h
  unfold rank; rw [h, hn]; rfl
theorem least_rank (a b : Nat) : rank (leastW a b) = min (rank a) (rank b) := by
 unfold leastW; split <;> rw [rank_canon] <;> omega
theorem most_rank (a b : Nat) : rank (mostW a b) = max (rank a) (rank b) := by
 unfold mostW; split <;> rw [rank_canon] <;> omega
theorem told_eq {x y : Nat} (hx : x < 18446744073709551616) (hy : y < 18446744073709551616) (cx : canonW x = x) (cy : canonW y = y) (h : rank x = rank y) : x = y := by
 have := canon_of_rank hx hy h
 rw [cx, cy] at this; exact this
theorem least_assoc {a b c : Nat} (ha : a < 18446744073709551616) (hb : b < 18446744073709551616) (hc : c < 18446744073709551616) : leastW (leastW a b) c = leastW a (leastW b c) := told_eq (leastW_lt (leastW_lt ha hb) hc) (leastW_lt ha (leastW_lt hb hc)) (canonW_leastW _ _) (canonW_leastW _ _) (by simp only [least_rank]; omega)
theorem most_assoc {a b c : Nat} (ha : a < 18446744073709551616) (hb : b < 18446744073709551616) (hc : c < 18446744073709551616) : mostW (mostW a b) c = mostW a (mostW b c) := told_eq (mostW_lt (mostW_lt ha hb) hc) (mostW_lt ha (mostW_lt hb hc)) (canonW_mostW _ _) (canonW_mostW _ _) (by simp only [most_rank]; omega)
theorem fitV_no (k : Int) : fitV k noV = noV := by unfold fitV; rw [if_pos (show noV.h = false from rfl)]
theorem fitV_12 {k : Int} (h : k = 1 ∨ k = 2) (b : Nat) : fitV k ⟨true, b⟩ = ⟨true, b⟩ := by unfold fitV; rw [if_neg (by simp), if_pos h]
theorem fitV_34 {k : Int} (h : k = 3 ∨ k = 4) (b : Nat) : fitV k ⟨true, b⟩ = ⟨true, canonW b⟩ := by unfold fitV; rw [if_neg (by simp), if_neg (by omega), if_pos h]
theorem fitV_un {k : Int} (h : knownB k = false) (v : Vl) : fitV k v = noV := by
 have := unknown_kind h
 unfold fitV
 split
 ·rfl
 rw [if_neg (by omega), if_neg (by omega)]
theorem fitV_f (k : Int) (b : Nat) : fitV k ⟨false, b⟩ = noV := by unfold fitV; rw [if_pos rfl]
theorem fit_ways (k : Int) (v : Vl) : (fitV k v = noV ∧ (v.h = false ∨ knownB k = false)) ∨ (v.h = true ∧ (k = 1 ∨ k = 2) ∧ fitV k v = ⟨true, v.b⟩) ∨ (v.h = true ∧ (k = 3 ∨ k = 4) ∧ fitV k v = ⟨true, canonW v.b⟩) := by
 obtain ⟨h, b⟩ := v
 cases h
 ·exact .inl ⟨fitV_f k b, .inl rfl⟩
 cases hk : knownB k
 ·exact .inl ⟨fitV_un hk _, .inr rfl⟩
 rcases known_kind.1 hk with h | h | h | h
 ·exact .inr (.inl ⟨rfl, .inl h, fitV_12 (.inl h) b⟩)
 ·exact .inr (.inl ⟨rfl, .inr h, fitV_12 (.inr h) b⟩)
 ·exact .inr (.inr ⟨rfl, .inl h, fitV_34 (.inl h) b⟩)
 ·exact .inr (.inr ⟨rfl, .inr h, fitV_34 (.inr h) b⟩)
theorem fitV_fitV (k : Int) (v : Vl) : fitV k (fitV k v) = fitV k v := by
 rcases fit_ways k v with ⟨e, _⟩ | ⟨_, h, e⟩ | ⟨_, h, e⟩
 ·rw [e, fitV_no]
 ·rw [e, fitV_12 h]
 ·rw [e, fitV_34 h, canonW_canonW]
theorem fit_join (k : Int) {a b : Vl} (ha : fitV k a = a) (hb : fitV k b = b) : fitV k (joinV k a b) = joinV k a b := by
 unfold joinV
 split
 ·exact hb
 split
 ·exact ha
 split
 ·rename_i h; subst h; rw [fitV_34 (.inl rfl), canonW_leastW]
 split
 ·rename_i h; subst h; rw [fitV_34 (.inr rfl), canonW_mostW]
 ·rename_i h1 h2 h3 h4
  have h12 : k = 1 ∨ k = 2 := by
   rcases fit_ways k a with ⟨e, _⟩ | ⟨_, h, e⟩ | ⟨_, h, e⟩
   ·exact absurd (by rw [← ha, e]; rfl) h1
   ·exact h
   ·omega
  rw [fitV_12 h12]
theorem join_assoc (k : Int) {a b c : Vl} (ha : a.ok) (hb : b.ok) (hc : c.ok) : joinV k (joinV k a b) c = joinV k a (joinV k b c) := by
 obtain ⟨p, x⟩ := a
 obtain ⟨q, y⟩ := b
 obtain ⟨r, z⟩ := c
 cases p
 ·simp [joinV]
 cases q
 ·simp [joinV]
 cases r
 ·by_cases h3 : k = 3
  ·subst h3; simp [joinV]
  by_cases h4 : k = 4
  ·subst h4; simp [joinV]
  ·simp [joinV, h3, h4]
 by_cases h3 : k = 3
 ·subst h3
  simp [joinV, least_assoc ha hb hc]
 by_cases h4 : k = 4
 ·subst h4
  simp [joinV, most_assoc ha hb hc]
 ·simp [joinV, h3, h4]
  omega
theorem fit_merge (k : Int) (a b : Vl) : fitV k (mergeV k a b) = mergeV k a b := fit_join k (fitV_fitV k a) (fitV_fitV k b)
theorem merge_assoc (k : Int) {a b c : Vl} (ha : a.ok) (hb : b.ok) (hc : c.ok) : mergeV k (mergeV k a b) c = mergeV k a (mergeV k b c) := by
 have e1 : mergeV k (mergeV k a b) c = joinV k (mergeV k a b) (fitV k c) := by rw [mergeV, fit_merge]
 have e2 : mergeV k a (mergeV k b c) = joinV k (fitV k a) (mergeV k b c) := by rw [mergeV, fit_merge]
 rw [e1, e2]
 exact join_assoc k (fitV_ok k ha) (fitV_ok k hb) (fitV_ok k hc)
theorem fit_none {k : Int} {v : Vl} (h : (fitV k v).h = false) : fitV k v = noV := by
 rcases fit_ways k v with ⟨e, _⟩ | ⟨_, _, e⟩ | ⟨_, _, e⟩
 ·exact e
 ·rw [e] at h; cases h
 ·rw [e] at h; cases h
theorem merge_no (k : Int) (a : Vl) : mergeV k a noV = fitV k a := by
 unfold mergeV joinV
 rw [fitV_no]
 split
 ·rename_i h; exact (fit_none h).symm
 ·rw [if_pos (show noV.h = false from rfl)]
theorem no_merge (k : Int) (a : Vl) : mergeV k noV a = fitV k a := by
 unfold mergeV joinV
 rw [fitV_no, if_pos (show noV.h = false from rfl)]
theorem fit_has {k : Int} (h : knownB k = true) (a : Vl) : (fitV k a).h = a.h := by
 rcases fit_ways k a with ⟨e, h1 | h1⟩ | ⟨h1, _, e⟩ | ⟨h1, _, e⟩
 ·rw [e, h1]; rfl
 ·rw [h] at h1; cases h1
 ·rw [e, h1]
 ·rw [e, h1]
theorem merge_has {k : Int} (h : knownB k = true) (a b : Vl) : (mergeV k a b).h = (a.h || b.h) := by
 have e1 := fit_has h a
 have e2 := fit_has h b
 unfold mergeV joinV
 rw [← e1, ← e2]
 split
 ·rename_i g; rw [g]; rfl
 split
 ·rename_i g1 g2; rw [g2]; simp
 split
 ·rename_i g1 g2 _; simp at g1; simp [g1]
 split
 ·rename_i g1 g2 _ _; simp at g1; simp [g1]
 ·rename_i g1 g2 _ _; simp at g1; simp [g1]
end
section
open Ieee

structure Pr where
 k : Nat
 v : Vl
def Pr.ok (p : Pr) : Prop := p.k < 18446744073709551616 ∧ p.v.ok
def okT (t : List Pr) : Prop := ∀ p ∈ t, p.ok
def Rise (t : List Pr) : Prop := t.Pairwise (fun p q => p.k < q.k)
def hasT (t : List Pr) : Prop := ∀ p ∈ t, p.v.h = true
def getT (k : Nat) : List Pr → Vl
 | [] => noV
 | p :: t => if p.k = k then p.v else getT k t
def putT (k : Nat) (v : Vl) : List Pr → List Pr
 | [] => [⟨k, v⟩]
 | p :: t => if k < p.k then ⟨k, v⟩ :: p :: t else if k = p.k then ⟨k, v⟩ :: t else p :: putT k v t
def withT (kind : Int) (k : Nat) (v : Vl) (t : List Pr) : List Pr := putT k (mergeV kind (getT k t) v) t
def addsT (kind : Int) (t : List Pr) (l : List Pr) : List Pr := l.foldl (fun t p => withT kind p.k p.v t) t
def addT (kind : Int) (a b : List Pr) : List Pr := addsT kind [] (a ++ b)
def keptT (l : List Stp) (kind : Int) (recs : List Rcd) : List Pr := recs.filterMap (fun r => if (runS l r).1 = 1 then some ⟨(runS l r).2.k, ofV kind (runS l r).2.x⟩ else none)
def trapN (l : List Stp) (recs : List Rcd) : Nat := recs.countP (fun r => decide ((runS l r).1 = 3))
def batchT (l : List Stp) (kind : Int) (recs : List Rcd) : List Pr := addsT kind [] (keptT l kind recs)
theorem put_head (k : Nat) (v : Vl) (t : List Pr) : ∀ p ∈ putT k v t, p.k = k ∨ ∃ q ∈ t, q.k = p.k := by
 induction t with
 | nil => intro p hp; simp [putT] at hp; subst hp; exact Or.inl rfl
 | cons a t ih =>
  intro p hp
  unfold putT at hp
  split at hp
  ·rcases List.mem_cons.1 hp with rfl | hp
   ·exact Or.inl rfl
   ·exact Or.inr ⟨p, hp, rfl⟩
  ·split at hp
   ·rcases List.mem_cons.1 hp with rfl | hp
    ·exact Or.inl rfl
    ·exact Or.inr ⟨p, List.mem_cons_of_mem _ hp, rfl⟩
   ·rcases List.mem_cons.1 hp with rfl | hp
    ·exact Or.inr ⟨p, by simp, rfl⟩
    ·rcases ih p hp with h | ⟨q, hq, h⟩
     ·exact Or.inl h
     ·exact Or.inr ⟨q, List.mem_cons_of_mem _ hq, h⟩
theorem rise_put {t : List Pr} (h : Rise t) (k : Nat) (v : Vl) : Rise (putT k v t) := by
 induction t with
 | nil => simp [putT, Rise]
 | cons a t ih =>
  obtain ⟨h1, h2⟩ := List.pairwise_cons.1 h
  unfold putT
  split
  ·rename_i hlt
   refine List.pairwise_cons.2 ⟨fun q hq => ?_, h⟩
   rcases List.mem_cons.1 hq with rfl | hq
   ·exact hlt
   ·exact Nat.lt_trans hlt (h1 q hq)
  ·split
   ·rename_i e
    exact List.pairwise_cons.2 ⟨fun q hq => by show k < q.k; rw [e]; exact h1 q hq, h2⟩
   ·refine List.pairwise_cons.2 ⟨fun q hq => ?_, ih h2⟩
    rcases put_head k v t q hq with h | ⟨p, hp, h⟩
    ·rw [h]; omega
    ·rw [← h]; exact h1 p hp
theorem get_put_same (k : Nat) (v : Vl) (t : List Pr) : getT k (putT k v t) = v := by
 induction t with
 | nil => simp [putT, getT]
 | cons a t ih =>
  unfold putT
  split
  ·simp [getT]
  ·split
   ·simp [getT]
   ·unfold getT; rw [if_neg (by omega)]; exact ih
theorem get_put_other {k k' : Nat} (hk : k' ≠ k) (v : Vl) (t : List Pr) : getT k' (putT k v t) = getT k' t := by
 induction t with
 | nil => simp [putT, getT]; intro h; exact absurd h.symm hk
 | cons a t ih =>
  unfold putT
  split
  ·show (if k = k' then v else getT k' (a :: t)) = _
   rw [if_neg (fun h => hk h.symm)]
  ·split
   ·rename_i e
    show (if k = k' then v else getT k' t) = (if a.k = k' then a.v else getT k' t)
    rw [if_neg (fun h => hk h.symm), if_neg (by rw [← e]; exact fun h => hk h.symm)]
   ·show (if a.k = k' then a.v else getT k' (putT k v t)) = (if a.k = k' then a.v else getT k' t)
    rw [ih]
theorem put_mem {k : Nat} {v : Vl} {t : List Pr} {p : Pr} (h : p ∈ putT k v t) : p = ⟨k, v⟩ ∨ p ∈ t := by
 induction t with
 | nil => simpa [putT] using h
 | cons a t ih =>
  unfold putT at h
  split at h
  ·rcases List.mem_cons.1 h with h | h
   ·exact Or.inl h
   ·exact Or.inr h
  ·split at h
   ·rcases List.mem_cons.1 h with h | h
    ·exact Or.inl h
    ·exact Or.inr (List.mem_cons_of_mem _ h)
   ·rcases List.mem_cons.1 h with h | h
    ·exact Or.inr (by rw [h]; simp)
    ·rcases ih h with h | h
     ·exact Or.inl h
     ·exact Or.inr (List.mem_cons_of_mem _ h)
theorem has_put {k : Nat} {v : Vl} {t : List Pr} (ht : hasT t) (hv : v.h = true) : hasT (putT k v t) := fun p hp => by
 rcases put_mem hp with rfl | h
 ·exact hv
 ·exact ht p h
theorem ok_put {k : Nat} {v : Vl} {t : List Pr} (ht : okT t) (hk : k < 18446744073709551616) (hv : v.ok) : okT (putT k v t) := fun p hp => by
 rcases put_mem hp with rfl | h
 ·exact ⟨hk, hv⟩
 ·exact ht p h
theorem put_len (k : Nat) (v : Vl) (t : List Pr) : (putT k v t).length ≤ t.length + 1 := by
 induction t with
 | nil => simp [putT]
 | cons a t ih =>
  unfold putT
  split
  ·simp
  ·split
   ·simp
   ·simp; exact ih
theorem get_ok {t : List Pr} (h : okT t) (k : Nat) : (getT k t).ok := by
 induction t with
 | nil => exact noV_ok
 | cons a t ih =>
  unfold getT
  split
  ·exact (h a (by simp)).2
  ·exact ih (fun p hp => h p (List.mem_cons_of_mem _ hp))
theorem get_none {t : List Pr} {k : Nat} (h : ∀ p ∈ t, p.k ≠ k) : getT k t = noV := by
 induction t with
 | nil => rfl
 | cons a t ih =>
  unfold getT
  rw [if_neg (h a (by simp))]
  exact ih (fun p hp => h p (List.mem_cons_of_mem _ hp))
theorem adds_cons (kind : Int) (t : List Pr) (p : Pr) (l : List Pr) : addsT kind t (p :: l) = addsT kind (withT kind p.k p.v t) l := rfl
theorem adds_append (kind : Int) (t l m : List Pr) : addsT kind t (l ++ m) = addsT kind (addsT kind t l) m := by unfold addsT; rw [List.foldl_append]
theorem adds_snoc (kind : Int) (t l : List Pr) (p : Pr) : addsT kind t (l ++ [p]) = withT kind p.k p.v (addsT kind t l) := by rw [adds_append]; rfl
theorem rise_with {kind : Int} {t : List Pr} (h : Rise t) (k : Nat) (v : Vl) : Rise (withT kind k v t) := rise_put h k _
theorem rise_adds {kind : Int} {t : List Pr} (h : Rise t) (l : List Pr) : Rise (addsT kind t l) := by
 induction l generalizing t with
 | nil => exact h
 | cons p l ih => exact ih (rise_with h p.k p.v)
theorem ok_with {kind : Int} {t : List Pr} (h : okT t) {k : Nat} {v : Vl} (hk : k < 18446744073709551616) (hv : v.ok) : okT (withT kind k v t) := ok_put h hk (mergeV_ok kind (get_ok h k) hv)
theorem ok_adds {kind : Int} {t : List Pr} (h : okT t) {l : List Pr} (hl : okT l) : okT (addsT kind t l) := by
 induction l generalizing t with
 | nil => exact h
 | cons p l ih => exact ih (ok_with h (hl p (by simp)).1 (hl p (by simp)).2) (fun q hq => hl q (List.mem_cons_of_mem _ hq))
theorem has_with {kind : Int} (hk : knownB kind = true) {t : List Pr} (h : hasT t) {k : Nat} {v : Vl} (hv : v.h = true) : hasT (withT kind k v t) := has_put h (by rw [merge_has hk, hv, Bool.or_true])
theorem has_adds {kind : Int} (hk : knownB kind = true) {t : List Pr} (h : hasT t) {l : List Pr} (hl : hasT l) : hasT (addsT kind t l) := by
 induction l generalizing t with
 | nil => exact h
 | cons p l ih => exact ih (has_with hk h (hl p (by simp))) (fun q hq => hl q (List.mem_cons_of_mem _ hq))
theorem adds_len (kind : Int) (t l : List Pr) : (addsT kind t l).length ≤ t.length + l.length := by
 induction l generalizing t with
 | nil => simp [addsT]
 | cons p l ih =>
  have h1 := ih (withT kind p.k p.v t)
  have h2 : (withT kind p.k p.v t).length ≤ t.length + 1 := put_len _ _ _
  rw [adds_cons]; simp only [List.length_cons]; omega
def atT (k : Nat) (l : List Pr) : List Vl := (l.filter (fun p => p.k == k)).map (·.v)
def foldV (kind : Int) (v : Vl) (l : List Vl) : Vl := l.foldl (fun v x => mergeV kind v x) v
theorem get_with (kind : Int) (k k' : Nat) (v : Vl) (t : List Pr) : getT k (withT kind k' v t) = if k' = k then mergeV kind (getT k t) v else getT k t := by
 split
 ·rename_i e; subst e; exact get_put_same _ _ _
 ·rename_i e; exact get_put_other (fun h => e h.symm) _ _
theorem get_adds (kind : Int) (k : Nat) (l : List Pr) : ∀ t : List Pr, getT k (addsT kind t l) = foldV kind (getT k t) (atT k l) := by
 induction l with
 | nil => intro t; rfl
 | cons p l ih =>
  intro t
  rw [adds_cons, ih, get_with]
  unfold atT
  by_cases h : p.k = k
  ·rw [if_pos h, List.filter_cons_of_pos (by simpa using h)]; rfl
  ·rw [if_neg h, List.filter_cons_of_neg (by simpa using h)]
def okL (l : List Vl) : Prop := ∀ v ∈ l, v.ok
theorem foldV_ok (kind : Int) {v : Vl} (hv : v.ok) {l : List Vl} (hl : okL l) : (foldV kind v l).ok := by
 induction l generalizing v with
 | nil => exact hv
 | cons x l ih => exact ih (mergeV_ok kind hv (hl x (by simp))) (fun y hy => hl y (List.mem_cons_of_mem _ hy))
theorem foldV_fit (kind : Int) {v : Vl} (hv : fitV kind v = v) (l : List Vl) : fitV kind (foldV kind v l) = foldV kind v l := by
 induction l generalizing v with
 | nil => exact hv
 | cons x l ih => exact ih (fit_merge kind v x)
theorem foldV_start (kind : Int) {v : Vl} {l : List Vl} (hv : v.ok) (fv : fitV kind v = v) (hl : okL l) : foldV kind v l = mergeV kind v (foldV kind noV l) := by
 induction l generalizing v with
 | nil => show v = mergeV kind v noV; rw [merge_no, fv]
 | cons x l ih =>
  have hx : x.ok := hl x (by simp)
  have hl' : okL l := fun y hy => hl y (List.mem_cons_of_mem _ hy)
  show foldV kind (mergeV kind v x) l = mergeV kind v (foldV kind (mergeV kind noV x) l)
  rw [ih (mergeV_ok kind hv hx) (fit_merge kind v x) hl', ih (mergeV_ok kind noV_ok hx) (fit_merge kind noV x) hl']
  rw [merge_assoc kind hv hx (foldV_ok kind noV_ok hl'), merge_assoc kind noV_ok hx (foldV_ok kind noV_ok hl'), no_merge, fit_merge]
theorem foldV_append (kind : Int) {l m : List Vl} (hl : okL l) (hm : okL m) : foldV kind noV (l ++ m) = mergeV kind (foldV kind noV l) (foldV kind noV m) := by
 unfold foldV
 rw [List.foldl_append]
 exact foldV_start kind (foldV_ok kind noV_ok hl) (foldV_fit kind (fitV_no kind) l) hm
theorem at_ok {l : List Pr} (h : okT l) (k : Nat) : okL (atT k l) := by
 intro v hv
 unfold atT at hv
 obtain ⟨p, hp, rfl⟩ := List.mem_map.1 hv
 exact (h p (List.mem_filter.1 hp).1).2
theorem at_append (k : Nat) (l m : List Pr) : atT k (l ++ m) = atT k l ++ atT k m := by unfold atT; rw [List.filter_append, List.map_append]
theorem at_rise {t : List Pr} (h : Rise t) (kind : Int) (k : Nat) : foldV kind noV (atT k t) = fitV kind (getT k t) := by
 induction t with
 | nil => show noV = fitV kind noV; rw [fitV_no]
 | cons a t ih =>
  obtain ⟨h1, h2⟩ := List.pairwise_cons.1 h
  by_cases e : a.k = k
  ·have e1 : atT k (a :: t) = [a.v] := by
    unfold atT
    rw [List.filter_cons_of_pos (by simpa using e)]
    have : t.filter (fun p => p.k == k) = [] := List.filter_eq_nil_iff.2 fun p hp => by have := h1 p hp; simp; omega
    rw [this]; rfl
   have e2 : getT k (a :: t) = a.v := if_pos e
   rw [e1, e2]
   show mergeV kind noV a.v = _
   rw [no_merge]
  ·have e1 : atT k (a :: t) = atT k t := by unfold atT; rw [List.filter_cons_of_neg (by simpa using e)]
   have e2 : getT k (a :: t) = getT k t := if_neg e
   rw [e1, e2, ih h2]
theorem merge_fit_l (kind : Int) (a b : Vl) : mergeV kind (fitV kind a) b = mergeV kind a b := by unfold mergeV; rw [fitV_fitV]
theorem merge_fit_r (kind : Int) (a b : Vl) : mergeV kind a (fitV kind b) = mergeV kind a b := by unfold mergeV; rw [fitV_fitV]
theorem get_add {a b : List Pr} (ra : Rise a) (rb : Rise b) (oa : okT a) (ob : okT b) (kind : Int) (k : Nat) : getT k (addT kind a b) = mergeV kind (getT k a) (getT k b) := by
 unfold addT
 rw [get_adds, at_append]
 show foldV kind noV _ = _
 rw [foldV_append kind (at_ok oa k) (at_ok ob k), at_rise ra, at_rise rb, merge_fit_l, merge_fit_r]
theorem rise_nil : Rise [] := List.Pairwise.nil
theorem has_nil : hasT [] := fun p hp => by simp at hp
theorem ok_nil : okT [] := fun p hp => by simp at hp
theorem kept_append (l : List Stp) (kind : Int) (a b : List Rcd) : keptT l kind (a ++ b) = keptT l kind a ++ keptT l kind b := by unfold keptT; rw [List.filterMap_append]
theorem kept_has {l : List Stp} {kind : Int} (hk : knownB kind = true) (recs : List Rcd) : hasT (keptT l kind recs) := by
 intro p hp
 obtain ⟨r, _, h⟩ := List.mem_filterMap.1 hp
 split at h
 ·cases h
  show (ofV kind _).h = true
  rcases known_kind.1 hk with rfl | rfl | rfl | rfl <;> rfl
 ·cases h
theorem rise_batch (l : List Stp) (kind : Int) (recs : List Rcd) : Rise (batchT l kind recs) := rise_adds rise_nil _
theorem has_batch {l : List Stp} {kind : Int} (hk : knownB kind = true) (recs : List Rcd) : hasT (batchT l kind recs) := has_adds hk has_nil (kept_has hk recs)
end
end Go.Proofs.YtofkhgokfdpdiaaGreat
