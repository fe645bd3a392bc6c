/- Contracts of agg's Known, Of, Fit and of what they are made of; of the reference's. -/
import Derived.Test.YtofkhgokfdpdiaaGreatB02
import Derived.WalkKit
import Derived.ProofKit
import Derived.Deep.Draws
import Derived.Test.YtofkhgokfdpdiaaGreatB01
import Derived.WalkLawsBesides
set_option maxRecDepth 100000
set_option maxHeartbeats 16000000
namespace Go.Proofs.YtofkhgokfdpdiaaGreat
section
open Ieee Go.RowKit

structure Vl where
 h : Bool
 b : Nat
def Vl.ok (v : Vl) : Prop := v.b < 18446744073709551616
def noV : Vl := ⟨false, 0⟩
def knownB (k : Int) : Bool := decide (1 ≤ k) && decide (k ≤ 4)
def wholeU (x : Nat) : Nat := (IntKind.u64.wrap (wholeI x)).toNat
def ofV (k : Int) (x : Nat) : Vl := if k = 1 then ⟨true, 1⟩ else if k = 2 then ⟨true, wholeU x⟩ else if k = 3 ∨ k = 4 then ⟨true, canonW x⟩ else noV
def fitV (k : Int) (v : Vl) : Vl := if v.h = false then noV else if k = 1 ∨ k = 2 then v else if k = 3 ∨ k = 4 then ⟨true, canonW v.b⟩ else noV
def joinV (k : Int) (a b : Vl) : Vl :=
 if a.h = false then b else if b.h = false then a else if k = 3 then ⟨true, leastW a.b b.b⟩ else if k = 4 then ⟨true, mostW a.b b.b⟩ else ⟨true, (a.b + b.b) % 18446744073709551616⟩
def mergeV (k : Int) (a b : Vl) : Vl := joinV k (fitV k a) (fitV k b)
theorem wholeU_lt (x : Nat) : wholeU x < 18446744073709551616 := by
 unfold wholeU
 rw [IntKind.wrap_u64]
 omega
theorem wholeU_eq (x : Nat) : ((wholeU x : Nat) : Int) = IntKind.u64.wrap (wholeI x) := by
 unfold wholeU
 rw [IntKind.wrap_u64]
 omega
theorem noV_ok : noV.ok := by show 0 < 18446744073709551616; omega
theorem ofV_ok (k : Int) {x : Nat} (hx : x < 18446744073709551616) : (ofV k x).ok := by
 unfold ofV
 split
 ·show 1 < 18446744073709551616; omega
 split
 ·exact wholeU_lt x
 split
 ·exact canon_lt hx
 ·exact noV_ok
theorem fitV_ok (k : Int) {v : Vl} (hv : v.ok) : (fitV k v).ok := by
 unfold fitV
 split
 ·exact noV_ok
 split
 ·exact hv
 split
 ·exact canon_lt hv
 ·exact noV_ok
theorem leastW_lt {a b : Nat} (ha : a < 18446744073709551616) (hb : b < 18446744073709551616) : leastW a b < 18446744073709551616 := by
 unfold leastW
 split
 ·exact canon_lt ha
 ·exact canon_lt hb
theorem mostW_lt {a b : Nat} (ha : a < 18446744073709551616) (hb : b < 18446744073709551616) : mostW a b < 18446744073709551616 := by
 unfold mostW
 split
 ·exact canon_lt ha
 ·exact canon_lt hb
theorem joinV_ok (k : Int) {a b : Vl} (ha : a.ok) (hb : b.ok) : (joinV k a b).ok := by
 unfold joinV
 split
 ·exact hb
 split
 ·exact ha
 split
 ·exact leastW_lt ha hb
 split
 ·exact mostW_lt ha hb
 ·exact Nat.mod_lt _ (by omega)
theorem mergeV_ok (k : Int) {a b : Vl} (ha : a.ok) (hb : b.ok) : (mergeV k a b).ok := joinV_ok k (fitV_ok k ha) (fitV_ok k hb)
theorem canonW_canonW (x : Nat) : canonW (canonW x) = canonW x := by
 unfold canonW
 cases h : nanB x
 ·simp [h]
 ·rw [if_pos rfl, if_pos (by decide)]
theorem canonW_leastW (a b : Nat) : canonW (leastW a b) = leastW a b := by
 unfold leastW
 split <;> exact canonW_canonW _
theorem canonW_mostW (a b : Nat) : canonW (mostW a b) = mostW a b := by
 unfold mostW
 split <;> exact canonW_canonW _
theorem known_kind {k : Int} : knownB k = true ↔ k = 1 ∨ k = 2 ∨ k = 3 ∨ k = 4 := by
 unfold knownB
 simp
 omega
theorem unknown_kind {k : Int} (h : knownB k = false) : k ≠ 1 ∧ k ≠ 2 ∧ k ≠ 3 ∧ k ≠ 4 := by
 unfold knownB at h
 simp at h
 omega
end
section
open Ieee Go.RowKit

attribute [local go_sem] run_bits run_frombits
def eB (x : Nat) : Nat := rung x / 4503599627370496
end
section
open Ieee

def nM (r : Nat) : Nat := if r < 4503599627370496 then r * 2 ^ (52 - r.log2) else mag r
def nE (r : Nat) : Int := if r < 4503599627370496 then (r.log2 : Int) - 51 else ((r / 4503599627370496 : Nat) : Int)
def scaleW (s : Bool) (M : Nat) (e : Int) : Nat :=
 if 2047 ≤ e then Ieee.double.word s 9218868437227405312 else if 1 ≤ e then Ieee.double.word s ((e - 1).toNat * 4503599627370496 + M) else Ieee.double.word s (rhe M (1 - e).toNat)
def scaleR (x : Nat) (n : Int) : Nat :=
 if nanB x then 9221120237041090561 else if rung x = 9218868437227405312 ∨ rung x = 0 then x else scaleW (negB x) (nM (rung x)) (nE (rung x) + n)
theorem log2_sub {r : Nat} (h0 : r ≠ 0) (h : r < 4503599627370496) : r.log2 < 52 := by rw [Nat.log2_lt h0]; exact h
theorem nM_ge {r : Nat} (h0 : r ≠ 0) : 4503599627370496 ≤ nM r := by
 unfold nM; split
 ·rename_i h
  have h1 := Nat.log2_self_le h0
  have h2 := log2_sub h0 h
  have h3 : 2 ^ r.log2 * 2 ^ (52 - r.log2) ≤ r * 2 ^ (52 - r.log2) := Nat.mul_le_mul_right _ h1
  rw [← Nat.pow_add, show r.log2 + (52 - r.log2) = 52 by omega] at h3
  exact h3
 ·unfold mag; split <;> omega
theorem nM_lt {r : Nat} (h0 : r ≠ 0) : nM r < 9007199254740992 := by
 unfold nM; split
 ·rename_i h
  have h1 := @Nat.lt_log2_self r
  have h2 := log2_sub h0 h
  have h3 : r * 2 ^ (52 - r.log2) < 2 ^ (r.log2 + 1) * 2 ^ (52 - r.log2) := Nat.mul_lt_mul_of_pos_right h1 (Nat.two_pow_pos _)
  rw [← Nat.pow_add, show r.log2 + 1 + (52 - r.log2) = 53 by omega] at h3
  exact h3
 ·exact mag_lt r
theorem nE_range {r : Nat} (h0 : r ≠ 0) (h : r < 9218868437227405312) : -51 ≤ nE r ∧ nE r ≤ 2046 := by
 unfold nE; split
 ·rename_i h
  have h2 := log2_sub h0 h; omega
 ·omega
theorem log2_norm {M : Nat} (h1 : 4503599627370496 ≤ M) (h2 : M < 9007199254740992) : M.log2 = 52 := by
 have hne : M ≠ 0 := by omega
 apply Nat.le_antisymm
 ·have : M.log2 < 53 := by rw [Nat.log2_lt hne]; exact h2
  omega
 ·rw [Nat.le_log2 hne]; exact h1
theorem rhe_le (M d : Nat) : rhe M d ≤ M / 2 ^ d + 1 := by unfold rhe; split <;> omega
theorem rhe_small {M d : Nat} (h : 2 * M < 2 ^ d) : rhe M d = 0 := by
 unfold rhe
 rw [Nat.div_eq_of_lt (by omega), Nat.mod_eq_of_lt (by omega), if_neg (by omega)]
theorem mag_of {M E : Nat} (h1 : 4503599627370496 ≤ M) (h2 : M < 9007199254740992) (hE : 1 ≤ E) : mag (E * 4503599627370496 + (M - 4503599627370496)) = M ∧ sh (E * 4503599627370496 + (M - 4503599627370496)) = E - 1 := by
 unfold mag sh
 constructor
 ·rw [if_neg (by omega)]; omega
 ·omega
theorem nearest_norm (s : Bool) {M E : Nat} (h1 : 4503599627370496 ≤ M) (h2 : M < 9007199254740992) (hE : 1 ≤ E) (hE2 : E ≤ 2046) :
  Ieee.double.nearest s M ((E : Int) - 1075) = Ieee.double.word s (E * 4503599627370496 + (M - 4503599627370496)) := by
 have h := nearest_rung s (r := E * 4503599627370496 + (M - 4503599627370496)) (by omega)
 obtain ⟨e1, e2⟩ := mag_of h1 h2 hE
 rw [e1, e2] at h
 rw [← h, show (E : Int) - 1075 = -1074 + ((E - 1 : Nat) : Int) by omega]
theorem nearest_sub (s : Bool) {M : Nat} {e : Int} (h1 : 4503599627370496 ≤ M) (h2 : M < 9007199254740992) (he : e ≤ 0) :
  Ieee.double.nearest s M (e - 1075) = Ieee.double.word s (rhe M (1 - e).toNat) := by
 rw [nearest_eq s (by omega)]
 have e4 : lastP M (e - 1075) = -1074 := by unfold lastP; rw [log2_norm h1 h2]; omega
 rw [e4, show ((-1074 : Int) + 1074).toNat = 0 from rfl, show (e - 1075 - -1074).toNat = 0 by omega, show (-1074 - (e - 1075)).toNat = (1 - e).toNat by omega, Nat.pow_zero, Nat.mul_one, Nat.zero_mul, Nat.zero_add]
 have := rhe_le M (1 - e).toNat
 have := Nat.div_le_self M (2 ^ (1 - e).toNat)
 rw [Nat.min_eq_left (by omega)]
theorem word_add (s : Bool) (r : Nat) : Ieee.double.word s r = (if s then 9223372036854775808 else 0) + r := by
 unfold Format.word; rw [sw]; cases s <;> simp
theorem read_word (s : Bool) {r : Nat} (h : r < 9218868437227405312) : Ieee.double.read (Ieee.double.word s r) = .number s (mag r) (-1074 + (sh r : Nat)) := by
 have h1 := rung_word s (r := r) (by omega)
 rw [read_num (word_lt64 s (by omega)) (by omega), h1, neg_word s (by omega)]
theorem mul_word (s : Bool) {r m : Nat} {p : Int} (hr : r < 9218868437227405312) (hm : Ieee.double.read m = .number false 4503599627370496 p) :
  Ieee.double.mul m (Ieee.double.word s r) = some (Ieee.double.nearest s (mag r) (-1074 + (sh r : Nat) + p + 52)) := by
 unfold Format.mul
 rw [read_word s hr, hm]
 simp only [Datum.product, Option.map_some, Format.write, Bool.false_bne]
 congr 1
 have := nearest_scale s (mag r) (-1074 + (sh r : Nat) + p + 52) 52
 rw [← this, Nat.mul_comm, show (2 ^ 52 : Nat) = 4503599627370496 from rfl]
 congr 1
 omega
theorem mul_word' (s : Bool) {r m : Nat} {p : Int} (hr : r < 9218868437227405312) (hm : Ieee.double.read m = .number false 4503599627370496 p) :
  Ieee.double.mul (Ieee.double.word s r) m = some (Ieee.double.nearest s (mag r) (-1074 + (sh r : Nat) + p + 52)) := by
 rw [← mul_word s hr hm]
 unfold Format.mul
 rw [read_word s hr, hm]
 simp only [Datum.product]
 rw [Nat.mul_comm, Int.add_comm, Bool.xor_comm]
def nR (r : Nat) : Nat := if r < 4503599627370496 then (r.log2 + 1) * 4503599627370496 + (nM r - 4503599627370496) else r
theorem nR_mag {r : Nat} (h0 : r ≠ 0) : mag (nR r) = nM r := by
 unfold nR; split
 ·exact (mag_of (nM_ge h0) (nM_lt h0) (by omega)).1
 ·unfold nM; rw [if_neg (by assumption)]
def nD (r : Nat) : Int := if r < 4503599627370496 then -52 else 0
theorem nR_exp {r : Nat} (h0 : r ≠ 0) : ((nR r / 4503599627370496 : Nat) : Int) + nD r = nE r := by
 have h1 := nM_ge h0; have h2 := nM_lt h0
 unfold nR nE nD; split
 ·have : ((r.log2 + 1) * 4503599627370496 + (nM r - 4503599627370496)) / 4503599627370496 = r.log2 + 1 := by omega
  rw [this]; omega
 ·omega
theorem nR_range {r : Nat} (h0 : r ≠ 0) (h : r < 9218868437227405312) : 4503599627370496 ≤ nR r ∧ nR r < 9218868437227405312 := by
 have h1 := nM_ge h0; have h2 := nM_lt h0
 unfold nR; split
 ·rename_i h; have := log2_sub h0 h; omega
 ·omega
theorem read52 : Ieee.double.read 4841369599423283200 = .number false 4503599627370496 0 := by decide
theorem read1 : Ieee.double.read 4607182418800017408 = .number false 4503599627370496 (-52) := by decide
theorem readm53 : Ieee.double.read 4368491638549381120 = .number false 4503599627370496 (-105) := by decide
theorem mul_sub (s : Bool) {r : Nat} (h0 : r ≠ 0) (h : r < 4503599627370496) :
  Ieee.double.mul (Ieee.double.word s r) 4841369599423283200 = some (Ieee.double.word s (nR r)) := by
 rw [mul_word' s (by omega) read52]
 have e1 : mag r = r := by unfold mag; rw [if_pos h]
 have e2 : sh r = 0 := by unfold sh; omega
 have hl := log2_sub h0 h
 have h1 := nM_ge h0; have h2 := nM_lt h0
 rw [e1, e2]
 congr 1
 have e3 : nR r = (r.log2 + 1) * 4503599627370496 + (nM r - 4503599627370496) := by unfold nR; rw [if_pos h]
 rw [e3, ← nearest_norm s h1 h2 (by omega) (by omega)]
 have e4 : nM r = r * 2 ^ (52 - r.log2) := by unfold nM; rw [if_pos h]
 rw [e4, ← nearest_scale s r (-1074 + ((0 : Nat) : Int) + 0 + 52) (52 - r.log2)]
 congr 1
 omega
end
section
open Ieee Go.RowKit

def floorW (x : Nat) : Nat := if nanB x then 9221120237041090561 else Ieee.double.write ((Ieee.double.read x).integral .down)
theorem toIntegral_eq (name : String) (way : Toward) (x : Nat) : Extern.MathFloor.toIntegral name way #[.float .f64 x] =
  (match Ieee.double.read x with
  | .nan s t =>
   if Ieee.double.quiet t = t then pure (.float .f64 x) else do
   let kept ← choose (.extern "math.Floor,Ceil,Trunc,RoundToEven.signallingNaN kept" 2)
   pure (.float .f64 (if kept == 1 then x else Ieee.double.write (.nan s (Ieee.double.quiet t))))
  | d => pure (.float .f64 (Ieee.double.write (d.integral way)))) := rfl
theorem archFloor_num {x : Nat} (hx : x < 18446744073709551616) (hn : nanB x = false) (w : World) :
  (callFunc 311 #[.float .f64 x]).run Tryz.prog w = .ok (.value (.float .f64 (floorW x))) w := by
 rw [run_callFunc_extern (e := Extern.MathFloor.toIntegral "math.archFloor" .down) Tryz.func311 (by kernel_rfl) (by kernel_rfl) (by kernel_rfl) (by kernel_rfl)]
 have hr := nan_f hn
 rw [toIntegral_eq]
 unfold floorW
 rw [hn]
 simp only [Bool.false_eq_true, if_false]
 by_cases h : rung x = 9218868437227405312
 ·rw [read_inf hx h]; rfl
 ·rw [read_num hx (by omega)]; rfl
theorem quiet_ne (t : Nat) : Ieee.double.quiet t % 4503599627370496 ≠ 0 := by
 intro h
 have h2 : (Ieee.double.quiet t % 2 ^ 52).testBit 51 = true := by
  rw [Nat.testBit_mod_two_pow]
  unfold Format.quiet
  rw [Nat.testBit_or, show Ieee.double.fractionBits - 1 = 51 from rfl, Nat.testBit_two_pow_self]
  simp
 rw [show (2 ^ 52 : Nat) = 4503599627370496 from rfl, h] at h2
 simp at h2
theorem archFloor_nan {x : Nat} (hx : x < 18446744073709551616) (hn : nanB x = true) (w : World) :
  ∃ y n, y < 18446744073709551616 ∧ nanB y = true ∧ (callFunc 311 #[.float .f64 x]).run Tryz.prog w = .ok (.value (.float .f64 y)) (w.drewN n) := by
 rw [run_callFunc_extern (e := Extern.MathFloor.toIntegral "math.archFloor" .down) Tryz.func311 (by kernel_rfl) (by kernel_rfl) (by kernel_rfl) (by kernel_rfl)]
 have hr := nan_t hn
 rw [toIntegral_eq, read_nan hx hr]
 generalize rung x - 9218868437227405312 = t
 simp only
 by_cases hq : Ieee.double.quiet t = t
 ·rw [if_pos hq]
  exact ⟨x, 0, hx, hn, rfl⟩
 ·rw [if_neg hq]
  have hb := quiet_ne t
  have hl : Ieee.double.quiet t % 4503599627370496 < 4503599627370496 := Nat.mod_lt _ (by omega)
  have hy : nanB (Ieee.double.write (.nan (negB x) (Ieee.double.quiet t))) = true ∧ Ieee.double.write (.nan (negB x) (Ieee.double.quiet t)) < 18446744073709551616 := by
   unfold Format.write
   simp only [ir, bn]
   refine ⟨?_, word_lt64 _ (by omega)⟩
   unfold nanB
   rw [rung_word _ (by omega)]
   simp; omega
  generalize Ieee.double.write (.nan (negB x) (Ieee.double.quiet t)) = y at hy
  simp only [Sem.run_bind, run_choose_drew]
  split
  ·simp only [Result.andThen, Sem.run_pure]
   split
   ·exact ⟨x, 0, hx, hn, rfl⟩
   ·exact ⟨y, 0, hy.2, hy.1, rfl⟩
  ·simp only [Result.andThen, Sem.run_pure]
   split
   ·exact ⟨x, 1, hx, hn, rfl⟩
   ·exact ⟨y, 1, hy.2, hy.1, rfl⟩
theorem floorW_nan {x : Nat} (hx : x < 18446744073709551616) (hn : nanB x = false) : nanB (floorW x) = false ∧ floorW x < 18446744073709551616 := by
 have hr := nan_f hn
 unfold floorW
 rw [hn]
 simp only [Bool.false_eq_true, if_false]
 by_cases h : rung x = 9218868437227405312
 ·rw [read_inf hx h]
  simp only [Datum.integral, Format.write, ir]
  exact ⟨by unfold nanB; rw [rung_word _ (by omega)]; rfl, word_lt64 _ (by omega)⟩
 ·rw [read_num hx (by omega)]
  simp only [Datum.integral, Format.write]
  exact ⟨nearest_nan _ _ _, nearest_lt64 _ _ _⟩
theorem mfloor_num {x : Nat} (hx : x < 18446744073709551616) (hn : nanB x = false) (w : World) :
  Calls Tryz.prog 307 #[.float .f64 x] w fun e w' => e = .returned (.float .f64 (floorW x)) ∧ w' = w := by
 have h := archFloor_num hx hn
 go_in
 go_wp2_with fail
 go_ret
 exact ⟨rfl, rfl⟩
theorem mfloor_nan {x : Nat} (hx : x < 18446744073709551616) (hn : nanB x = true) (w : World) :
  Calls Tryz.prog 307 #[.float .f64 x] w fun e w' => ∃ y n, e = .returned (.float .f64 y) ∧ y < 18446744073709551616 ∧ nanB y = true ∧ w' = w.drewN n := by
 obtain ⟨y, n, hy, hny, h⟩ := archFloor_nan hx hn w
 go_in
 go_wp2_with fail
 go_ret
 exact ⟨y, n, rfl, hy, hny, rfl⟩
theorem floor_walk {x : Nat} (hx : x < 18446744073709551616) (w : World) :
  Calls Tryz.prog 293 #[.float .f64 x] w fun e w' => e = .returned (.float .f64 (floorW x)) ∧ ∃ n, w' = w.drewN n := by
 cases hn : nanB x
 ·have hf := floorW_nan hx hn
  go_in
  go_wp2_with fail
  refine (mfloor_num hx hn _).mono ?_
  rintro e w' ⟨rfl, rfl⟩
  go_wp2_with fail
  refine (canon_walk hf.2 _).mono ?_
  rintro e w' ⟨rfl, rfl⟩
  go_wp2_with fail
  go_ret
  exact ⟨ret_float (by unfold canonW; rw [hf.1]; rfl), 0, rfl⟩
 ·go_in
  go_wp2_with fail
  refine (mfloor_nan hx hn _).mono ?_
  rintro e w' ⟨y, n, rfl, hy, hny, rfl⟩
  go_wp2_with fail
  refine (canon_walk hy _).mono ?_
  rintro e w' ⟨rfl, rfl⟩
  go_wp2_with fail
  go_ret
  exact ⟨ret_float (by unfold canonW floorW; rw [hny, hn]; rfl), n, rfl⟩
end
section
open Ieee

def ofW (n : Int) : Nat := Ieee.double.nearest (decide (n < 0)) n.natAbs 0
def pw (n : Nat) : Nat := 2 ^ n
def UU : Nat := pw 1074
def fk (s : Bool) (r : Nat) : Nat := wn r + (if s = true ∧ V r % UU ≠ 0 then 1 else 0)
def rI (M : Nat) : Nat := rung (Ieee.double.nearest false M 0)
theorem of_lt (n : Int) : ofW n < 18446744073709551616 := nearest_lt64 _ _ _
end
section
open Ieee Go.RowKit
end
section
open Ieee Go.RowKit

attribute [local go_sem] run_bits run_frombits
theorem below_same (w : World) : Below w.heap.size w w := Below.refl _ _
structure VB (w : World) (b : Nat) (v : Vl) : Prop where
 c0 : w.cell? ⟨b, 0, none⟩ = some (.bool v.h)
 c1 : w.cell? ⟨b, 1, none⟩ = some (.int .u64 v.b)
 z0 : w.frozen? ⟨b, 0, none⟩ = false
 z1 : w.frozen? ⟨b, 1, none⟩ = false
theorem VB.below {w w' : World} {b B : Nat} {v : Vl} (h : VB w b v) (hb : Below B w w') (hl : b < B) : VB w' b v :=
 ⟨by rw [hb.cell (p := ⟨b, 0, none⟩) hl]; exact h.c0, by rw [hb.cell (p := ⟨b, 1, none⟩) hl]; exact h.c1, by rw [hb.frozen (p := ⟨b, 0, none⟩) hl]; exact h.z0, by rw [hb.frozen (p := ⟨b, 1, none⟩) hl]; exact h.z1⟩
theorem known_walk (k : Int) (w : World) :
  Calls Tryz.prog 33 #[.int .i64 k] w fun e w' => e = .returned (.bool (knownB k)) ∧ w' = w := by
 go_in
 go_wp2
 all_goals (go_ret; exact ⟨ret_bool (by unfold knownB; simp <;> omega), rfl⟩)
theorem ofFloat_walk (x : Nat) (w : World) :
  Calls Tryz.prog 105 #[.float .f64 x] w fun e w' => e = .returned (.agg #[.bool true, .int .u64 x]) ∧ Below w.heap.size w w' := by
 go_in
 go_wp2
 refine bodyPost_ret (v := .agg #[.bool true, .int .u64 x]) (by simp [results, Tryz.results105, go_sem]) rfl ⟨rfl, ?_⟩
 exact below_alloc _ _
theorem floatOf_walk (v : Vl) (w : World) :
  Calls Tryz.prog 221 #[.agg #[.bool v.h, .int .u64 v.b]] w fun e w' => e = .returned (.float .f64 v.b) ∧ Below w.heap.size w w' := by
 go_in
 go_wp2
 go_ret
 exact ⟨rfl, below_alloc _ _⟩
theorem vb_zero (w : World) : VB (w.alloc (Obj.cells #[Value.bool false, Value.int IntKind.u64 0] 53)) w.heap.size noV := by
 constructor <;> simp [go_sem, noV]
theorem VB.set {w : World} {b : Nat} {v : Vl} (h : VB w b v) (c : Bool) (x : Nat) : VB ((w.setCell ⟨b, 0, none⟩ (.bool c)).setCell ⟨b, 1, none⟩ (.int .u64 x)) b ⟨c, x⟩ := by
 obtain ⟨c0, c1, z0, z1⟩ := h
 constructor <;> simp [go_sem, c0, c1, z0, z1]
theorem VB.other {w : World} {b : Nat} {v : Vl} (h : VB w b v) {p : Addr} (hne : b ≠ p.block) (u : Value) : VB (w.setCell p u) b v := by
 have e := Below.heap_setCell w p u b hne
 obtain ⟨c0, c1, z0, z1⟩ := h
 refine ⟨?_, ?_, ?_, ?_⟩
 ·rw [World.cell?_setCell_other _ _ _ _ (by rintro ⟨⟩; exact hne rfl)]; exact c0
 ·rw [World.cell?_setCell_other _ _ _ _ (by rintro ⟨⟩; exact hne rfl)]; exact c1
 ·simpa [go_sem] using z0
 ·simpa [go_sem] using z1
theorem keep_store {w w1 : World} (h : Below w.heap.size w w1) (b : Nat) (hb : w.heap.size ≤ b) (u v : Value) : Below w.heap.size w ((w1.setCell ⟨b, 0, none⟩ u).setCell ⟨b, 1, none⟩ v) := (h.setCell hb u).setCell hb v
theorem neq_b {k c : Int} (h : k ≠ c) : (k == c) = false := by simpa using h
theorem aof_walk (k : Int) {x : Nat} (hx : x < 18446744073709551616) (w : World) :
  Calls Tryz.prog 46 #[.int .i64 k, .float .f64 x] w fun e w' => e = .returned (.agg #[.bool (ofV k x).h, .int .u64 (ofV k x).b]) ∧ Below w.heap.size w w' := by
 by_cases h1 : k = 1
 ·subst h1
  go_in
  go_wp2_with fail
  refine bodyPost_ret (v := .agg #[.bool true, .int .u64 1]) (by simp [results, Tryz.results46, go_sem]) rfl ⟨rfl, ?_⟩
  exact below_alloc _ _
 by_cases h2 : k = 2
 ·subst h2
  have e : IntKind.u64.wrap (wholeI x) = (wholeU x : Int) := (wholeU_eq x).symm
  go_in
  go_wp2_with (go_at_call 104; refine (whole_walk hx _).mono ?_; rintro e w' ⟨rfl, rfl⟩)
  refine bodyPost_ret (v := .agg #[.bool true, .int .u64 (wholeU x)]) (by simp [results, Tryz.results46, go_sem]) rfl ⟨rfl, ?_⟩
  exact below_alloc _ _
 by_cases h34 : k = 3 ∨ k = 4
 ·have e : ofV k x = ⟨true, canonW x⟩ := by unfold ofV; rw [if_neg h1, if_neg h2, if_pos h34]
  rw [e]
  rcases h34 with rfl | rfl
  all_goals
   go_in
   go_wp2_with (go_at_call 106; refine (canon_walk hx _).mono ?_; rintro e w' ⟨rfl, rfl⟩)
   refine (ofFloat_walk _ _).mono ?_
   rintro e w1 ⟨rfl, hB⟩
   obtain ⟨c0, c1, z0, z1⟩ := (vb_zero w).below hB (by simp [go_sem])
   have HB : Hid (Below w.heap.size w w1) := below_trans (below_alloc _ _) hB
   clear hB
   go_wp2_with fail
   refine bodyPost_ret (v := .agg #[.bool true, .int .u64 (canonW x)]) (by simp [results, Tryz.results46, go_sem, c0, c1]) rfl ⟨rfl, ?_⟩
   exact keep_store HB.out _ (Nat.le_refl _) _ _
 ·have e : ofV k x = noV := by unfold ofV; rw [if_neg h1, if_neg h2, if_neg h34]
  rw [e]
  have b1 := neq_b h1
  have b2 := neq_b h2
  have b3 : (k == 3) = false := neq_b (fun h => h34 (.inl h))
  have b4 : (k == 4) = false := neq_b (fun h => h34 (.inr h))
  go_in
  go_wp2_with fail
  refine bodyPost_ret (v := .agg #[.bool false, .int .u64 0]) (by simp [results, Tryz.results46, go_sem]) rfl ⟨rfl, ?_⟩
  exact below_alloc _ _
theorem size_alloc (w : World) (o : Obj) : (w.alloc o).heap.size = w.heap.size + 1 := by simp [go_sem]
theorem below_two (w : World) (o p : Obj) : Below w.heap.size w ((w.alloc o).alloc p) := (below_alloc w o).alloc (by simp [go_sem]) p
theorem fit_walk (k : Int) {v : Vl} (hv : v.ok) (w : World) :
  Calls Tryz.prog 168 #[.int .i64 k, .agg #[.bool v.h, .int .u64 v.b]] w fun e w' => e = .returned (.agg #[.bool (fitV k v).h, .int .u64 (fitV k v).b]) ∧ Below w.heap.size w w' := by
 obtain ⟨h, b⟩ := v
 cases h
 ·have e : fitV k ⟨false, b⟩ = noV := by unfold fitV; rw [if_pos rfl]
  rw [e]
  go_in
  go_wp2_with fail
  refine bodyPost_ret (v := .agg #[.bool false, .int .u64 0]) (by simp [results, Tryz.results168, go_sem]) rfl ⟨rfl, ?_⟩
  exact below_two _ _ _
 by_cases h12 : k = 1 ∨ k = 2
 ·have e : fitV k ⟨true, b⟩ = ⟨true, b⟩ := by unfold fitV; rw [if_neg (by simp), if_pos h12]
  rw [e]
  rcases h12 with rfl | rfl
  all_goals
   go_in
   go_wp2_with fail
   refine bodyPost_ret (v := .agg #[.bool true, .int .u64 b]) (by simp [results, Tryz.results168, go_sem]) rfl ⟨rfl, ?_⟩
   exact below_two _ _ _
 have b1 : (k == 1) = false := neq_b (fun h => h12 (.inl h))
 have b2 : (k == 2) = false := neq_b (fun h => h12 (.inr h))
 by_cases h34 : k = 3 ∨ k = 4
 ·have e : fitV k ⟨true, b⟩ = ⟨true, canonW b⟩ := by unfold fitV; rw [if_neg (by simp), if_neg h12, if_pos h34]
  rw [e]
  clear b1 b2
  rcases h34 with rfl | rfl
  all_goals
   go_in
   go_wp2_with fail
   refine (floatOf_walk ⟨true, b⟩ _).mono ?_
   rintro e w1 ⟨rfl, hB⟩
   have vb := (vb_zero (w.alloc (Obj.cells #[Value.bool true, Value.int IntKind.u64 (b : Int)] 53))).below hB (by simp [go_sem])
   have HB : Hid (Below w.heap.size w w1) := below_trans (below_two _ _ _) hB
   clear hB
   go_wp2_with (go_at_call 106; refine (canon_walk hv _).mono ?_; rintro e w' ⟨rfl, rfl⟩)
   refine (ofFloat_walk _ _).mono ?_
   rintro e w2 ⟨rfl, hB⟩
   obtain ⟨c0, c1, z0, z1⟩ := vb.below hB (cell_lt vb.c0)
   have HB2 : Hid (Below w.heap.size w w2) := below_trans HB.out hB
   clear hB vb HB
   rw [size_alloc] at c0 c1 z0 z1
   go_wp2_with fail
   refine bodyPost_ret (v := .agg #[.bool true, .int .u64 (canonW b)]) (by simp [results, Tryz.results168, go_sem, c0, c1]) rfl ⟨rfl, ?_⟩
   exact keep_store HB2.out _ (Nat.le_succ _) _ _
 ·have e : fitV k ⟨true, b⟩ = noV := by unfold fitV; rw [if_neg (by simp), if_neg h12, if_neg h34]
  rw [e]
  have b3 : (k == 3) = false := neq_b (fun h => h34 (.inl h))
  have b4 : (k == 4) = false := neq_b (fun h => h34 (.inr h))
  go_in
  go_wp2_with fail
  refine bodyPost_ret (v := .agg #[.bool false, .int .u64 0]) (by simp [results, Tryz.results168, go_sem]) rfl ⟨rfl, ?_⟩
  exact below_two _ _ _
end
end Go.Proofs.YtofkhgokfdpdiaaGreat
