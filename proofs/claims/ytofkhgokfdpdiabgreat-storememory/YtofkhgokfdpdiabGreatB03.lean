/- From the walk to the row: slices of steps and of records, records by value, floats among the arguments, opened; and that they read behind the call as before where nothing old has turned. -/
import Derived.Test.YtofkhgokfdpdiabGreatB02
import Derived.Test.YtofkhgokfdpdiabGreatB01
import Derived.Deep.Draws
import Derived.WalkLawsBesides
import Derived.WalkKit
import Derived.ProofKit
import Derived.BigQuiet
import Derived.Deep.QuietTactic
import Derived.Deep.RegionWith
import Derived.Test.YtofkhgokfdpdiabGreatRows
import Derived.OpenShut
import Derived.Carry
import Derived.Deep.Slices
import Derived.Lib.SmallJoins
set_option maxRecDepth 100000
set_option maxHeartbeats 16000000
namespace Go.Proofs.YtofkhgokfdpdiabGreat
section
open Ieee Go.RowKit

attribute [local go_sem] run_bits run_frombits
theorem below_same (w : World) : Below w.heap.size w w := Below.refl _ _
structure VB (w : World) (b : Nat) (v : Vl) : Prop where
 c0 : w.cell? ⟨b, 0, none⟩ = some (.bool v.h)
 c1 : w.cell? ⟨b, 1, none⟩ = some (.int .u64 v.b)
 z0 : w.frozen? ⟨b, 0, none⟩ = false
 z1 : w.frozen? ⟨b, 1, none⟩ = false
theorem VB.below {w w' : World} {b B : Nat} {v : Vl} (h : VB w b v) (hb : Below B w w') (hl : b < B) : VB w' b v :=
 ⟨by rw [hb.cell (p := ⟨b, 0, none⟩) hl]; exact h.c0, by rw [hb.cell (p := ⟨b, 1, none⟩) hl]; exact h.c1, by rw [hb.frozen (p := ⟨b, 0, none⟩) hl]; exact h.z0, by rw [hb.frozen (p := ⟨b, 1, none⟩) hl]; exact h.z1⟩
theorem known_walk (k : Int) (w : World) :
  Calls Tryz.prog 6 #[.int .i64 k] w fun e w' => e = .returned (.bool (knownB k)) ∧ w' = w := by
 go_in
 go_wp2
 all_goals (go_ret; exact ⟨ret_bool (by unfold knownB; simp <;> omega), rfl⟩)
theorem ofFloat_walk (x : Nat) (w : World) :
  Calls Tryz.prog 101 #[.float .f64 x] w fun e w' => e = .returned (.agg #[.bool true, .int .u64 x]) ∧ Below w.heap.size w w' := by
 go_in
 go_wp2
 refine bodyPost_ret (v := .agg #[.bool true, .int .u64 x]) (by simp [results, Tryz.results101, go_sem]) rfl ⟨rfl, ?_⟩
 exact below_alloc _ _
theorem floatOf_walk (v : Vl) (w : World) :
  Calls Tryz.prog 123 #[.agg #[.bool v.h, .int .u64 v.b]] w fun e w' => e = .returned (.float .f64 v.b) ∧ Below w.heap.size w w' := by
 go_in
 go_wp2
 go_ret
 exact ⟨rfl, below_alloc _ _⟩
theorem vb_new (w : World) (h : Bool) (b : Nat) : VB (w.alloc (Obj.cells #[Value.bool h, Value.int IntKind.u64 (b : Int)] 58)) w.heap.size ⟨h, b⟩ := by
 constructor <;> simp [go_sem]
theorem vb_zero (w : World) : VB (w.alloc (Obj.cells #[Value.bool false, Value.int IntKind.u64 0] 58)) w.heap.size noV := by
 constructor <;> simp [go_sem, noV]
theorem VB.set {w : World} {b : Nat} {v : Vl} (h : VB w b v) (c : Bool) (x : Nat) : VB ((w.setCell ⟨b, 0, none⟩ (.bool c)).setCell ⟨b, 1, none⟩ (.int .u64 x)) b ⟨c, x⟩ := by
 obtain ⟨c0, c1, z0, z1⟩ := h
 constructor <;> simp [go_sem, c0, c1, z0, z1]
theorem VB.other {w : World} {b : Nat} {v : Vl} (h : VB w b v) {p : Addr} (hne : b ≠ p.block) (u : Value) : VB (w.setCell p u) b v := by
 have e := Below.heap_setCell w p u b hne
 obtain ⟨c0, c1, z0, z1⟩ := h
 refine ⟨?_, ?_, ?_, ?_⟩
 ·rw [World.cell?_setCell_other _ _ _ _ (by rintro ⟨⟩; exact hne rfl)]; exact c0
 ·rw [World.cell?_setCell_other _ _ _ _ (by rintro ⟨⟩; exact hne rfl)]; exact c1
 ·simpa [go_sem] using z0
 ·simpa [go_sem] using z1
theorem keep_store {w w1 : World} (h : Below w.heap.size w w1) (b : Nat) (hb : w.heap.size ≤ b) (u v : Value) : Below w.heap.size w ((w1.setCell ⟨b, 0, none⟩ u).setCell ⟨b, 1, none⟩ v) := (h.setCell hb u).setCell hb v
theorem neq_b {k c : Int} (h : k ≠ c) : (k == c) = false := by simpa using h
theorem aof_walk (k : Int) {x : Nat} (hx : x < 18446744073709551616) (w : World) :
  Calls Tryz.prog 55 #[.int .i64 k, .float .f64 x] w fun e w' => e = .returned (.agg #[.bool (ofV k x).h, .int .u64 (ofV k x).b]) ∧ Below w.heap.size w w' := by
 by_cases h1 : k = 1
 ·subst h1
  go_in
  go_wp2_with fail
  refine bodyPost_ret (v := .agg #[.bool true, .int .u64 1]) (by simp [results, Tryz.results55, go_sem]) rfl ⟨rfl, ?_⟩
  exact below_alloc _ _
 by_cases h2 : k = 2
 ·subst h2
  have e : IntKind.u64.wrap (wholeI x) = (wholeU x : Int) := (wholeU_eq x).symm
  go_in
  go_wp2_with (go_at_call 100; refine (whole_walk hx _).mono ?_; rintro e w' ⟨rfl, rfl⟩)
  refine bodyPost_ret (v := .agg #[.bool true, .int .u64 (wholeU x)]) (by simp [results, Tryz.results55, go_sem]) rfl ⟨rfl, ?_⟩
  exact below_alloc _ _
 by_cases h34 : k = 3 ∨ k = 4
 ·have e : ofV k x = ⟨true, canonW x⟩ := by unfold ofV; rw [if_neg h1, if_neg h2, if_pos h34]
  rw [e]
  rcases h34 with rfl | rfl
  all_goals
   go_in
   go_wp2_with (go_at_call 97; refine (canon_walk hx _).mono ?_; rintro e w' ⟨rfl, rfl⟩)
   refine (ofFloat_walk _ _).mono ?_
   rintro e w1 ⟨rfl, hB⟩
   obtain ⟨c0, c1, z0, z1⟩ := (vb_zero w).below hB (by simp [go_sem])
   have HB : Hid (Below w.heap.size w w1) := below_trans (below_alloc _ _) hB
   clear hB
   go_wp2_with fail
   refine bodyPost_ret (v := .agg #[.bool true, .int .u64 (canonW x)]) (by simp [results, Tryz.results55, go_sem, c0, c1]) rfl ⟨rfl, ?_⟩
   exact keep_store HB.out _ (Nat.le_refl _) _ _
 ·have e : ofV k x = noV := by unfold ofV; rw [if_neg h1, if_neg h2, if_neg h34]
  rw [e]
  have b1 := neq_b h1
  have b2 := neq_b h2
  have b3 : (k == 3) = false := neq_b (fun h => h34 (.inl h))
  have b4 : (k == 4) = false := neq_b (fun h => h34 (.inr h))
  go_in
  go_wp2_with fail
  refine bodyPost_ret (v := .agg #[.bool false, .int .u64 0]) (by simp [results, Tryz.results55, go_sem]) rfl ⟨rfl, ?_⟩
  exact below_alloc _ _
theorem size_alloc (w : World) (o : Obj) : (w.alloc o).heap.size = w.heap.size + 1 := by simp [go_sem]
theorem below_two (w : World) (o p : Obj) : Below w.heap.size w ((w.alloc o).alloc p) := (below_alloc w o).alloc (by simp [go_sem]) p
theorem fit_walk (k : Int) {v : Vl} (hv : v.ok) (w : World) :
  Calls Tryz.prog 78 #[.int .i64 k, .agg #[.bool v.h, .int .u64 v.b]] w fun e w' => e = .returned (.agg #[.bool (fitV k v).h, .int .u64 (fitV k v).b]) ∧ Below w.heap.size w w' := by
 obtain ⟨h, b⟩ := v
 cases h
 ·have e : fitV k ⟨false, b⟩ = noV := by unfold fitV; rw [if_pos rfl]
  rw [e]
  go_in
  go_wp2_with fail
  refine bodyPost_ret (v := .agg #[.bool false, .int .u64 0]) (by simp [results, Tryz.results78, go_sem]) rfl ⟨rfl, ?_⟩
  exact below_two _ _ _
 by_cases h12 : k = 1 ∨ k = 2
 ·have e : fitV k ⟨true, b⟩ = ⟨true, b⟩ := by unfold fitV; rw [if_neg (by simp), if_pos h12]
  rw [e]
  rcases h12 with rfl | rfl
  all_goals
   go_in
   go_wp2_with fail
   refine bodyPost_ret (v := .agg #[.bool true, .int .u64 b]) (by simp [results, Tryz.results78, go_sem]) rfl ⟨rfl, ?_⟩
   exact below_two _ _ _
 have b1 : (k == 1) = false := neq_b (fun h => h12 (.inl h))
 have b2 : (k == 2) = false := neq_b (fun h => h12 (.inr h))
 by_cases h34 : k = 3 ∨ k = 4
 ·have e : fitV k ⟨true, b⟩ = ⟨true, canonW b⟩ := by unfold fitV; rw [if_neg (by simp), if_neg h12, if_pos h34]
  rw [e]
  clear b1 b2
  rcases h34 with rfl | rfl
  all_goals
   go_in
   go_wp2_with fail
   refine (floatOf_walk ⟨true, b⟩ _).mono ?_
   rintro e w1 ⟨rfl, hB⟩
   have vb := (vb_zero (w.alloc (Obj.cells #[Value.bool true, Value.int IntKind.u64 (b : Int)] 58))).below hB (by simp [go_sem])
   have HB : Hid (Below w.heap.size w w1) := below_trans (below_two _ _ _) hB
   clear hB
   go_wp2_with (go_at_call 97; refine (canon_walk hv _).mono ?_; rintro e w' ⟨rfl, rfl⟩)
   refine (ofFloat_walk _ _).mono ?_
   rintro e w2 ⟨rfl, hB⟩
   obtain ⟨c0, c1, z0, z1⟩ := vb.below hB (cell_lt vb.c0)
   have HB2 := hidH (below_trans HB.out hB)
   clear hB vb HB
   rw [size_alloc] at c0 c1 z0 z1
   go_wp2_with fail
   refine bodyPost_ret (v := .agg #[.bool true, .int .u64 (canonW b)]) (by simp [results, Tryz.results78, go_sem, c0, c1]) rfl ⟨rfl, ?_⟩
   exact keep_store HB2.out _ (Nat.le_succ _) _ _
 ·have e : fitV k ⟨true, b⟩ = noV := by unfold fitV; rw [if_neg (by simp), if_neg h12, if_neg h34]
  rw [e]
  have b3 : (k == 3) = false := neq_b (fun h => h34 (.inl h))
  have b4 : (k == 4) = false := neq_b (fun h => h34 (.inr h))
  go_in
  go_wp2_with fail
  refine bodyPost_ret (v := .agg #[.bool false, .int .u64 0]) (by simp [results, Tryz.results78, go_sem]) rfl ⟨rfl, ?_⟩
  exact below_two _ _ _
end
section
open Ieee Go.RowKit

attribute [local go_sem] run_bits run_frombits
def ldW (x : Nat) (n : Int) : Nat := if nanB x = true ∨ rung x = 9218868437227405312 ∨ rung x = 0 then x else scaleW (negB x) (nM (rung x)) (nE (rung x) + n)
theorem scaleW_props (s : Bool) {M : Nat} (h2 : M < 9007199254740992) (e : Int) : ∃ r, r ≤ 9218868437227405312 ∧ scaleW s M e = Ieee.double.word s r := by
 unfold scaleW
 split
 ·exact ⟨_, by omega, rfl⟩
 ·split
  ·exact ⟨_, by omega, rfl⟩
  ·have := rhe_le M (1 - e).toNat
   have := Nat.div_le_self M (2 ^ (1 - e).toNat)
   exact ⟨_, by omega, rfl⟩
theorem ldW_lt {x : Nat} {n : Int} (hx : x < 18446744073709551616) : ldW x n < 18446744073709551616 := by
 unfold ldW; split
 ·exact hx
 ·rename_i h
  obtain ⟨r, hr, e⟩ := scaleW_props (negB x) (nM_lt (r := rung x) (fun k => h (.inr (.inr k)))) (nE (rung x) + n)
  rw [e]; exact word_lt64 _ (by omega)
theorem ldW_canon {x : Nat} {n : Int} : canonW (ldW x n) = scaleR x n := by
 unfold ldW scaleR canonW
 cases nn : nanB x
 ·simp only [Bool.false_eq_true, false_or, if_false]
  by_cases h : rung x = 9218868437227405312 ∨ rung x = 0
  ·rw [if_pos h, nn]; simp
  ·rw [if_neg h]
   obtain ⟨r, hr, e⟩ := scaleW_props (negB x) (nM_lt (r := rung x) (fun k => h (.inr k))) (nE (rung x) + n)
   rw [e]
   have : nanB (Ieee.double.word (negB x) r) = false := by unfold nanB; rw [rung_word _ (by omega)]; simp; omega
   rw [this]; rfl
 ·simp [nn]
end
section
open Ieee

structure Stp where
 K : Int
 N : Int
 X : Nat
structure Rcd where
 k : Nat
 x : Nat
def Stp.ok (o : Stp) : Prop := (-9223372036854775808 ≤ o.K ∧ o.K < 9223372036854775808) ∧ (-9223372036854775808 ≤ o.N ∧ o.N < 9223372036854775808) ∧ o.X < 18446744073709551616
def Rcd.ok (r : Rcd) : Prop := r.k < 18446744073709551616 ∧ r.x < 18446744073709551616
def isB (o : Stp) : Bool := if o.K = 7 then decide (-2200 ≤ o.N ∧ o.N ≤ 2200) else if o.K = 11 then decide (1 ≤ o.N) else decide (1 ≤ o.K ∧ o.K ≤ 12)
def checkB (l : List Stp) : Bool := decide (l.length ≤ 8) && l.all isB
def negW (x : Nat) : Nat := Op.negFloat .f64 x
theorem unary_negW (x : Nat) : Op.unary .neg (.float .f64 x) = pure (.float .f64 (negW x)) := rfl
def invW (x : Nat) : Nat := (Ieee.double.div 4607182418800017408 x).getD 9221120237041090561
def sideN (x : Nat) : Nat := if nanB x then 3 else if key x < 0 then 0 else if key x = 0 then 1 else 2
def perI (n w : Int) : Int := RowKit.wrap64 (n.tdiv w)
def turnW (o : Stp) (x : Nat) : Nat :=
 if o.K = 4 then negW x else if o.K = 5 then rung x else if o.K = 6 then floorW x else if o.K = 7 then scaleR x o.N else if o.K = 8 then invW x else if o.K = 10 then ofW (perI o.N (wholeI x)) else x
def ltB (x y : Nat) : Bool := FloatKind.f64.format.order x y == some .lt
def gtB (x y : Nat) : Bool := FloatKind.f64.format.order x y == some .gt
def fateI (o : Stp) (x : Nat) : Int :=
 if o.K = 1 then (if ltB x o.X then 1 else 2) else if o.K = 2 then (if gtB x o.X then 1 else 2) else if o.K = 3 then (if nanB x then 2 else 1)
 else if o.K = 9 then (if 9218868437227405312 ≤ rung x then 3 else 1) else if o.K = 10 then (if wholeI x = 0 then 3 else 1) else 1
def nextR (o : Stp) (r : Rcd) : Rcd :=
 if o.K = 11 then ⟨r.k % o.N.toNat, r.x⟩ else if o.K = 12 then ⟨r.k % 4611686018427387904 * 4 + sideN r.x, r.x⟩
 else if o.K = 1 ∨ o.K = 2 ∨ o.K = 3 ∨ o.K = 9 then r else ⟨r.k, canonW (turnW o r.x)⟩
def zeroR : Rcd := ⟨0, 0⟩
def canR (r : Rcd) : Rcd := ⟨r.k, canonW r.x⟩
def goS : List Stp → Rcd → Int × Rcd
 | [], r => (1, r)
 | o :: l, r => if fateI o r.x = 1 then goS l (nextR o r) else (fateI o r.x, zeroR)
theorem goS_keep {o : Stp} {l : List Stp} {r : Rcd} (h : fateI o r.x = 1) : goS (o :: l) r = goS l (nextR o r) := if_pos h
def runS (l : List Stp) (r : Rcd) : Int × Rcd := if checkB l then goS l (canR r) else (0, zeroR)
theorem negW_eq (x : Nat) : negW x = x ^^^ 9223372036854775808 := rfl
theorem xor63_lo {y : Nat} (hy : y < 2 ^ 63) : y ^^^ 2 ^ 63 = 2 ^ 63 + y := by
 have e : 2 ^ 63 + y = 2 ^ 63 ||| y := by
  have := Nat.two_pow_add_eq_or_of_lt hy 1
  rwa [Nat.mul_one] at this
 rw [e]
 apply Nat.eq_of_testBit_eq
 intro i
 rw [Nat.testBit_xor, Nat.testBit_or, Nat.testBit_two_pow]
 by_cases hi : 63 = i
 ·subst hi
  rw [Nat.testBit_lt_two_pow hy]; rfl
 ·rw [decide_eq_false hi]; simp
theorem negW_cases {x : Nat} (hx : x < 18446744073709551616) : negW x = if negB x then x - 9223372036854775808 else x + 9223372036854775808 := by
 rw [negW_eq, show (9223372036854775808 : Nat) = 2 ^ 63 from rfl]
 cases h : negB x
 ·have h' := neg_f h
  rw [xor63_lo h']
  simp; omega
 ·have h' := neg_t h
  obtain ⟨y, hyx⟩ : ∃ y, x = 2 ^ 63 + y := ⟨x - 9223372036854775808, by omega⟩
  have hy' : y < 2 ^ 63 := by omega
  subst hyx
  rw [← xor63_lo hy', Nat.xor_assoc, Nat.xor_self, Nat.xor_zero, xor63_lo hy']
  simp
theorem negW_lt {x : Nat} (hx : x < 18446744073709551616) : negW x < 18446744073709551616 := by
 rw [negW_cases hx]; cases h : negB x
 ·have := neg_f h; simp; omega
 ·simp; omega
theorem scaleR_lt {x : Nat} (n : Int) (hx : x < 18446744073709551616) : scaleR x n < 18446744073709551616 := by
 rw [← ldW_canon]; exact canon_lt (ldW_lt hx)
theorem read_one : Ieee.double.read 4607182418800017408 = .number false 4503599627370496 (-52) := by decide
theorem inv_nan {x : Nat} (hx : x < 18446744073709551616) (h : nanB x = true) : Ieee.double.div 4607182418800017408 x = none := by
 unfold Format.div
 rw [read_one, read_nan hx (nan_t h)]; rfl
theorem inv_inf {x : Nat} (hx : x < 18446744073709551616) (h : rung x = 9218868437227405312) : Ieee.double.div 4607182418800017408 x = some (Ieee.double.word (negB x) 0) := by
 unfold Format.div
 rw [read_one, read_inf hx h]
 show some (Ieee.double.nearest (false ^^ negB x) 0 0) = _
 rw [nearest_zero, Bool.false_xor]
theorem inv_zero {x : Nat} (hx : x < 18446744073709551616) (h : rung x = 0) : Ieee.double.div 4607182418800017408 x = some (Ieee.double.word (negB x) 9218868437227405312) := by
 unfold Format.div
 rw [read_one, read_num hx (by omega), h, show mag 0 = 0 from rfl]
 unfold Datum.quotient
 simp only [if_pos, Bool.false_xor]
 rw [if_neg (by omega)]
 simp only [Option.map_some]
 show some (Ieee.double.word (negB x) Ieee.double.infRung) = _
 rw [ir]
theorem inv_some {x : Nat} (hx : x < 18446744073709551616) (h : nanB x = false) :
  ∃ r, Ieee.double.div 4607182418800017408 x = some r ∧ nanB r = false ∧ r < 18446744073709551616 ∧ negB r = negB x := by
 have hr := nan_f h
 by_cases h1 : rung x = 9218868437227405312
 ·refine ⟨_, inv_inf hx h1, ?_, word_lt64 _ (by omega), neg_word _ (by omega)⟩
  unfold nanB; rw [rung_word _ (by omega)]; rfl
 by_cases h0 : rung x = 0
 ·refine ⟨_, inv_zero hx h0, ?_, word_lt64 _ (by omega), neg_word _ (by omega)⟩
  unfold nanB; rw [rung_word _ (by omega)]; rfl
 ·have hm := mag_ne h0
  unfold Format.div
  rw [read_one, read_num hx (by omega)]
  unfold Datum.quotient
  simp only
  rw [if_neg hm, Bool.false_xor]
  exact ⟨_, rfl, nearest_nan _ _ _, nearest_lt64 _ _ _, nearest_neg _ _ _⟩
theorem invW_num {x r : Nat} (h : Ieee.double.div 4607182418800017408 x = some r) : invW x = r := by unfold invW; rw [h]; rfl
theorem invW_nan {x : Nat} (h : Ieee.double.div 4607182418800017408 x = none) : invW x = 9221120237041090561 := by unfold invW; rw [h]; rfl
theorem side_lt (x : Nat) : sideN x < 4 := by unfold sideN; split <;> (try split) <;> (try split) <;> omega
theorem turnW_lt (o : Stp) {x : Nat} (hx : x < 18446744073709551616) : canonW (turnW o x) < 18446744073709551616 := by
 apply canon_lt
 unfold turnW
 split
 ·exact negW_lt hx
 split
 ·have := rung_lt x; omega
 split
 ·cases h : nanB x
  ·exact (floorW_nan hx h).2
  ·unfold floorW; rw [h]; simp
 split
 ·exact scaleR_lt _ hx
 split
 ·cases h : nanB x
  ·obtain ⟨r, e1, _, e3, _⟩ := inv_some hx h
   rw [invW_num e1]; exact e3
  ·rw [invW_nan (inv_nan hx h)]; omega
 split
 ·exact of_lt _
 ·exact hx
theorem nextR_ok {o : Stp} {r : Rcd} (hr : r.ok) : (nextR o r).ok := by
 obtain ⟨h1, h2⟩ := hr
 unfold nextR
 split
 ·exact ⟨Nat.lt_of_le_of_lt (Nat.mod_le _ _) h1, h2⟩
 split
 ·refine ⟨?_, h2⟩
  have := side_lt r.x
  have := Nat.mod_lt r.k (show 4611686018427387904 > 0 by omega)
  simp only; omega
 split
 ·exact ⟨h1, h2⟩
 ·exact ⟨h1, turnW_lt o h2⟩
theorem canR_ok {r : Rcd} (hr : r.ok) : (canR r).ok := ⟨hr.1, canon_lt hr.2⟩
theorem zeroR_ok : zeroR.ok := ⟨by decide, by decide⟩
theorem goS_ok (l : List Stp) : ∀ {r : Rcd}, r.ok → (goS l r).2.ok := by
 induction l with
 | nil => intro r h; exact h
 | cons o l ih =>
  intro r h
  simp only [goS]
  split
  ·exact ih (nextR_ok h)
  ·exact zeroR_ok
theorem runS_ok (l : List Stp) {r : Rcd} (h : r.ok) : (runS l r).2.ok := by
 unfold runS; split
 ·exact goS_ok l (canR_ok h)
 ·exact zeroR_ok
end
section
open Ieee Go.RowKit

attribute [local go_sem] run_bits run_frombits unary_negW
theorem run_store_float {P : Program} {w : World} {a : Addr} {m : Mode} (k : FloatKind) (x : Nat) : (store a (.float k x) m).run P w = stored P w a (.float k x) m := run_store P w a _ m rfl
attribute [local go_sem] run_store_float
theorem isStep_walk (o : Stp) (w : World) :
  Calls Tryz.prog 95 #[.agg #[.int .i64 o.K, .int .i64 o.N, .float .f64 o.X]] w fun e w' => e = .returned (.bool (isB o)) ∧ Below w.heap.size w w' := by
 obtain ⟨K, N, X⟩ := o
 by_cases h7 : K = 7
 ·subst h7
  go_in
  go_wp2
  all_goals (go_ret; exact ⟨ret_bool (by rw [Bool.eq_iff_iff]; unfold isB; simp <;> omega), below_alloc _ _⟩)
 ·by_cases h11 : K = 11
  ·subst h11
   go_in
   go_wp2
   all_goals (go_ret; exact ⟨ret_bool (by rw [Bool.eq_iff_iff]; unfold isB; simp <;> omega), below_alloc _ _⟩)
  ·have b7 : (K == 7) = false := by simpa using h7
   have b11 : (K == 11) = false := by simpa using h11
   go_in
   go_wp2
   all_goals (go_ret; exact ⟨ret_bool (by rw [Bool.eq_iff_iff]; unfold isB; simp [h7, h11] <;> omega), below_alloc _ _⟩)
end
section
open Ieee Go.RowKit
end
section
open Ieee Go.RowKit

attribute [local go_sem] run_store_float
structure RB (w : World) (b : Nat) (k : Nat) (x : Nat) : Prop where
 c0 : w.cell? ⟨b, 0, none⟩ = some (.int .u64 k)
 c1 : w.cell? ⟨b, 1, none⟩ = some (.float .f64 x)
 z0 : w.frozen? ⟨b, 0, none⟩ = false
 z1 : w.frozen? ⟨b, 1, none⟩ = false
theorem RB.below {w w' : World} {b k x B : Nat} (h : RB w b k x) (hb : Below B w w') (hl : b < B) : RB w' b k x :=
 ⟨by rw [hb.cell (p := ⟨b, 0, none⟩) hl]; exact h.c0, by rw [hb.cell (p := ⟨b, 1, none⟩) hl]; exact h.c1, by rw [hb.frozen (p := ⟨b, 0, none⟩) hl]; exact h.z0, by rw [hb.frozen (p := ⟨b, 1, none⟩) hl]; exact h.z1⟩
set_option linter.unusedSimpArgs false in
theorem step_11 (N : Int) (X : Nat) (k : Nat) {x : Nat} (n1 : 1 ≤ N) (n2 : N < 9223372036854775808) (w : World) :
  Calls Tryz.prog 98 #[.agg #[.int .i64 11, .int .i64 N, .float .f64 X], .agg #[.int .u64 k, .float .f64 x]] w fun e w' => e = .returned (.tuple #[.agg #[.int .u64 ((k % N.toNat : Nat) : Int), .float .f64 x], .bool true]) ∧ Below w.heap.size w w' := by
 have HE : Hid (((k % N.toNat : Nat) : Int) = (k : Int) % N) := by
  show _ = _
  rw [Int.natCast_emod, Int.toNat_of_nonneg (by omega)]
 have e1 : IntKind.u64.wrap N = N := by simp [IntKind.wrap_u64]; omega
 have e2 : ¬ N = 0 := by omega
 go_in
 go_wp2_with fail
 refine bodyPost_ret (v := .tuple #[.agg #[.int .u64 ((k : Int) % N), .float .f64 x], .bool true]) (by simp [results, Tryz.results98, go_sem]) rfl ⟨by rw [HE.out], ?_⟩
 exact ((below_alloc _ _).alloc (by simp [go_sem]) _).alloc (by simp [go_sem]; omega) _
end
section
open Ieee Go.RowKit

theorem isB_kind {o : Stp} (h : isB o = true) : o.K = 1 ∨ o.K = 2 ∨ o.K = 3 ∨ o.K = 4 ∨ o.K = 5 ∨ o.K = 6 ∨ (o.K = 7 ∧ -2200 ≤ o.N ∧ o.N ≤ 2200) ∨ o.K = 8 ∨ o.K = 9 ∨ o.K = 10 ∨ (o.K = 11 ∧ 1 ≤ o.N) ∨ o.K = 12 := by
 unfold isB at h
 split at h
 ·simp at h; omega
 split at h
 ·simp at h; omega
 ·simp at h; omega
theorem step_kept (o : Stp) (r : Rcd) (ho : o.ok) (hb : isB o = true) (h11 : o.K = 11) (w : World) :
  Calls Tryz.prog 98 #[.agg #[.int .i64 o.K, .int .i64 o.N, .float .f64 o.X], .agg #[.int .u64 r.k, .float .f64 r.x]] w fun e w' =>
   e = .returned (.tuple #[.agg #[.int .u64 (nextR o r).k, .float .f64 (nextR o r).x], .bool true]) ∧ Below w.heap.size w w' := by
 have hk := isB_kind hb
 have h1 : 1 ≤ o.N := by omega
 clear hk hb
 obtain ⟨K, N, X⟩ := o
 obtain ⟨k, x⟩ := r
 obtain ⟨_, ⟨_, hN⟩, _⟩ := ho
 simp only at *
 subst h11
 rw [show nextR ⟨11, N, X⟩ ⟨k, x⟩ = ⟨k % N.toNat, x⟩ by simp [nextR]]
 exact step_11 N X k h1 hN w
theorem fate_11 (o : Stp) (x : Nat) (h : o.K = 11) : fateI o x = 1 := by unfold fateI; simp [h]
def Ol (w : World) (ao : Option Addr) (l : List Stp) : Prop :=
 ∀ i, (h : i < l.length) → ∃ b off, ao = some ⟨b, off, none⟩ ∧ w.cell? ⟨b, off + i * 3, none⟩ = some (.int .i64 l[i].K) ∧ w.cell? ⟨b, off + i * 3 + 1, none⟩ = some (.int .i64 l[i].N) ∧ w.cell? ⟨b, off + i * 3 + 2, none⟩ = some (.float .f64 l[i].X)
def Ov (w : World) (v : Value) (l : List Stp) : Prop :=
 (∃ ao cap, v = .slice ao l.length cap ∧ l.length ≤ cap ∧ cap ≤ maxLen ∧ (ao = none → cap = 0) ∧ Ol w ao l) ∧ ∀ o ∈ l, o.ok
theorem Ol.below {w w' : World} {ao : Option Addr} {l : List Stp} (h : Ol w ao l) (hb : Below w.heap.size w w') : Ol w' ao l := by
 intro i hi
 obtain ⟨b, off, e, h0, h1, h2⟩ := h i hi
 exact ⟨b, off, e, by rw [hb.cell (p := ⟨b, off + i * 3, none⟩) (cell_lt h0)]; exact h0, by rw [hb.cell (p := ⟨b, off + i * 3 + 1, none⟩) (cell_lt h1)]; exact h1, by rw [hb.cell (p := ⟨b, off + i * 3 + 2, none⟩) (cell_lt h2)]; exact h2⟩
theorem Ov.below {w w' : World} {v : Value} {l : List Stp} (h : Ov w v l) (hb : Below w.heap.size w w') : Ov w' v l := by
 obtain ⟨⟨ao, cap, e, h1, h2, h3, h4⟩, h5⟩ := h
 exact ⟨⟨ao, cap, e, h1, h2, h3, h4.below hb⟩, h5⟩
end
section
open Go.ChangeShapes Go.WideShapes Go.ChangeAt Go.RowKit

theorem own_knob : ownKnob Tryz.prog.godebug = none := by kernel_rfl
theorem laid_out : laidOutB Tryz.prog = true := by kernel_rfl
theorem cells_rec : Tryz.prog.cellsOf 36 = 2 := by kernel_rfl
theorem cells_u64 : Tryz.prog.cellsOf 33 = 1 := by kernel_rfl
theorem cells_f64 : Tryz.prog.cellsOf 34 = 1 := by kernel_rfl
theorem post_of_below {H : Type} {enc : TypeId × Value → H} {P : Program} {f : Func} {s : ChangeSpec} {apart fresh handsOn : Bool} {W W' : World} {args : Array Value} {v : Value} {ds gs : List (DataW H)} {before pa pv : List MemPlace}
  (hW : DataW.Whole enc P f.params.toList s.vars apart W args.toList ds gs before)
  (hres : ∀ (b : Nat) (sp : Nat → Bool) (hd : Bool), DataW.TrodAll enc P W' b sp hd f.resultTypes.toList (v.resultList f.resultTypes.size) (s.fn H (ds ++ gs)).results [])
  (hargs : ∀ sp : Nat → Bool, (∀ p ∈ before, sp p.block = true) → DataW.TrodAll enc P W' 0 sp true f.params.toList args.toList (s.fn H (ds ++ gs)).args pa)
  (hvars : ∀ sp : Nat → Bool, (∀ p ∈ before, sp p.block = true) → DataW.TrodVars enc P W' sp s.vars (s.fn H (ds ++ gs)).vars pv)
  (hps : before = pa ++ pv) (hb : Below W.heap.size W W') :
  s.post enc P f apart fresh handsOn false W args v W' := by
 have hold : ∀ p ∈ before, (fun b => decide (b < W.heap.size)) p.block = true := fun p hp => by simpa using hW.lt p hp
 refine ⟨ds, gs, before, [], pa, pv, hW, hres _ _ _, hargs _ hold, hvars _ hold, World.keptBut_mono (fun p hp => ⟨hp, ?_⟩) (hb.frame (· ∈ before)), fun h => by cases h⟩
 rw [hps, List.mem_append] at hp
 exact Or.inr hp
theorem again {H : Type} {enc : TypeId × Value → H} {W W' : World} {t : TypeId} {v : Value} {d : DataW H} {p : List MemPlace} {sp : Nat → Bool} (hr : Tryz.prog.readableRec t = true) (hrow : t < Tryz.prog.types.size)
  (h : DataW.Trod enc Tryz.prog W 0 (fun _ => true) true t v d p) (hb : Below W.heap.size W W') (hlt : ∀ x ∈ p, x.block < W.heap.size) (hsp : ∀ x ∈ p, sp x.block = true) :
  DataW.Trod enc Tryz.prog W' 0 sp true t v d p :=
 WideElems.Trod_stays laid_out hr hrow h (fun x hx => hb.same (hlt x hx)) hsp
theorem u64_of_wf {x : Int} (h : (Lit.int .u64 x).wf = true) : ∃ n : Nat, x = n ∧ n < 18446744073709551616 := by
 have h0 : 0 ≤ x ∧ x ≤ 18446744073709551615 := by simpa [Lit.wf, IntKind.min, IntKind.max, IntKind.signed, IntKind.bits] using h
 exact ⟨x.toNat, by omega, by omega⟩
theorem i64_of_wf {x : Int} (h : (Lit.int .i64 x).wf = true) : -9223372036854775808 ≤ x ∧ x < 9223372036854775808 := by
 have h0 : -9223372036854775808 ≤ x ∧ x ≤ 9223372036854775807 := by simpa [Lit.wf, IntKind.min, IntKind.max, IntKind.signed, IntKind.bits] using h
 omega
theorem f64_of_wf {x : Nat} (h : (Lit.float .f64 x).wf = true) : x < 18446744073709551616 := by simpa [Lit.wf] using h
section

variable {H : Type} {enc : TypeId × Value → H} {W : World} {sp : Nat → Bool} {held : Bool} {base : Nat}

theorem cell_u64 {n : Nat} {v : Value} {x : DataW H × List MemPlace} (h : DataW.trod enc Tryz.prog W base sp held n 33 [v] = some x) : ∃ a : Nat, v = .int .u64 a ∧ a < 18446744073709551616 := by
 cases n with
 | zero => simp [DataW.trod] at h
 | succ n =>
  simp only [DataW.trod, Tryz.underlying33] at h
  cases v <;> simp at h
  rename_i k a
  obtain ⟨⟨rfl, hw⟩, _⟩ := h
  obtain ⟨n, rfl, hn⟩ := u64_of_wf hw
  exact ⟨n, rfl, hn⟩
theorem cell_f64 {n : Nat} {v : Value} {x : DataW H × List MemPlace} (h : DataW.trod enc Tryz.prog W base sp held n 34 [v] = some x) : ∃ a : Nat, v = .float .f64 a ∧ a < 18446744073709551616 := by
 cases n with
 | zero => simp [DataW.trod] at h
 | succ n =>
  simp only [DataW.trod, Tryz.underlying34] at h
  cases v <;> simp at h
  rename_i k a
  obtain ⟨⟨rfl, hw⟩, _⟩ := h
  exact ⟨a, rfl, f64_of_wf hw⟩
theorem cells_of_rec {n : Nat} {cs : List Value} {x : DataW H × List MemPlace} (hl : cs.length = 2) (h : DataW.trod enc Tryz.prog W base sp held n 36 cs = some x) :
  ∃ r : Rcd, cs = [.int .u64 r.k, .float .f64 r.x] ∧ r.ok := by
 obtain ⟨y0, y1, m, _, _, h0, h1⟩ := trod_struct2 Tryz.underlying36 h
 match cs, hl with
 | [a, b], _ =>
  simp only [cells_u64, cells_f64, List.drop_zero, List.drop_succ_cons, List.take_succ_cons, List.take_zero] at h0 h1
  obtain ⟨k, rfl, hk⟩ := cell_u64 h0
  obtain ⟨x, rfl, hx⟩ := cell_f64 h1
  exact ⟨⟨k, x⟩, rfl, hk, hx⟩
end

def Rl (w : World) (ao : Option Addr) (l : List Rcd) : Prop :=
 ∀ i, (h : i < l.length) → ∃ b off, ao = some ⟨b, off, none⟩ ∧ w.cell? ⟨b, off + i * 2, none⟩ = some (.int .u64 l[i].k) ∧ w.cell? ⟨b, off + i * 2 + 1, none⟩ = some (.float .f64 l[i].x)
def Rv (w : World) (v : Value) (l : List Rcd) : Prop :=
 (∃ ao cap, v = .slice ao l.length cap ∧ l.length ≤ cap ∧ cap ≤ maxLen ∧ (ao = none → cap = 0) ∧ Rl w ao l) ∧ ∀ r ∈ l, r.ok
theorem Rl.below {w w' : World} {ao : Option Addr} {l : List Rcd} (h : Rl w ao l) (hb : Below w.heap.size w w') : Rl w' ao l := by
 intro i hi
 obtain ⟨b, off, e, h0, h1⟩ := h i hi
 exact ⟨b, off, e, by rw [hb.cell (p := ⟨b, off + i * 2, none⟩) (cell_lt h0)]; exact h0, by rw [hb.cell (p := ⟨b, off + i * 2 + 1, none⟩) (cell_lt h1)]; exact h1⟩
end
end Go.Proofs.YtofkhgokfdpdiabGreat
