/- One step over one float, as numbers: what the statements without a reference ask. -/
import Derived.Test.YtjkhegekojflhabXo
namespace Go.Proofs.Ytjkhegekojflhab
open Ieee Go.RowKit

theorem ord_lt' {x y : Nat} (hx : x < 18446744073709551616) (hy : y < 18446744073709551616) (nx : nanB x = false) (ny : nanB y = false) (h : key x < key y) : FloatKind.f64.format.order x y = some .lt := by
  rcases order_cases hx hy nx ny rfl with ⟨o, k⟩ | ⟨o, k⟩ | ⟨o, k⟩
  · exact o
  · omega
  · omega
theorem ord_gt' {x y : Nat} (hx : x < 18446744073709551616) (hy : y < 18446744073709551616) (nx : nanB x = false) (ny : nanB y = false) (h : key y < key x) : FloatKind.f64.format.order x y = some .gt := by
  rcases order_cases hx hy nx ny rfl with ⟨o, k⟩ | ⟨o, k⟩ | ⟨o, k⟩
  · omega
  · omega
  · exact o
theorem ord_eq' {x y : Nat} (hx : x < 18446744073709551616) (hy : y < 18446744073709551616) (nx : nanB x = false) (ny : nanB y = false) (h : key x = key y) : FloatKind.f64.format.order x y = some .eq := by
  rcases order_cases hx hy nx ny rfl with ⟨o, k⟩ | ⟨o, k⟩ | ⟨o, k⟩
  · omega
  · exact o
  · omega
theorem sub_self {x : Nat} (hx : x < 18446744073709551616) (h : rung x < 9218868437227405312) : FloatKind.f64.format.sub x x = some 0 := by
  show Ieee.double.sub x x = some 0
  unfold Format.sub
  rw [read_num hx h]
  generalize negB x = s
  generalize mag (rung x) = m
  generalize (-1074 + (sh (rung x) : Int)) = p
  simp only [Datum.opposite, Datum.sum, Option.map_some, Format.write]
  have e : signed s m (p - min p p).toNat + signed (!s) m (p - min p p).toNat = 0 := by
    unfold signed; cases s <;> simp <;> omega
  rw [e, if_pos rfl, Int.natAbs_zero]
  cases s
  · exact congrArg some (nearest_zero false _)
  · exact congrArg some (nearest_zero false _)
theorem sub_inf {x : Nat} (hx : x < 18446744073709551616) (h : rung x = 9218868437227405312) : FloatKind.f64.format.sub x x = none := by
  show Ieee.double.sub x x = none
  unfold Format.sub
  rw [read_inf hx h]
  cases negB x <;> rfl

theorem sub_nan {x : Nat} (hx : x < 18446744073709551616) (h : nanB x = true) : FloatKind.f64.format.sub x x = none := by
  show Ieee.double.sub x x = none
  unfold Format.sub
  rw [read_nan hx (nan_t h)]
  rfl
theorem run_sub_nan (P : Program) {a x : Nat} (t : TypeId) (h : FloatKind.f64.format.sub a x = none) (w : World) :
    (binOp .sub t (.float .f64 a) (.float .f64 x)).run P w = .ok (.float .f64 (nanQ a x w)) (w.drewN 1) := by
  simp [binOp, Op.floatArith, h, Question.forced]
  exact ⟨rfl, rfl⟩
theorem run_sub_num (P : Program) {a x r : Nat} (t : TypeId) (h : FloatKind.f64.format.sub a x = some r) (w : World) :
    (binOp .sub t (.float .f64 a) (.float .f64 x)).run P w = .ok (.float .f64 r) w := run_float_arith _ _ _ _ _ _ _ h
theorem run_leq (P : Program) {a x : Nat} (t : TypeId) {b : Bool} (h : (FloatKind.f64.format.order a x == some .lt || FloatKind.f64.format.order a x == some .eq) = b) (w : World) :
    (binOp .leq t (.float .f64 a) (.float .f64 x)).run P w = .ok (.bool b) w := by
  subst h; rfl
theorem run_geq (P : Program) {a x : Nat} (t : TypeId) {b : Bool} (h : (FloatKind.f64.format.order a x == some .gt || FloatKind.f64.format.order a x == some .eq) = b) (w : World) :
    (binOp .geq t (.float .f64 a) (.float .f64 x)).run P w = .ok (.bool b) w := by
  subst h; rfl
theorem zz0 : FloatKind.f64.format.order 0 0 = some .eq := by decide
theorem nanQ_order (a b : Nat) (w : World) (y : Nat) : FloatKind.f64.format.order (nanQ a b w) y = none := order_nan_left (nanQ_nan a b w).2 (nanQ_nan a b w).1

theorem hop {w0 w1 w2 : World} (h : Below w0.heap.size w0 w1) (n : Nat) (k : Below (w1.drewN n).heap.size (w1.drewN n) w2) : Below w0.heap.size w0 w2 :=
  below_trans (below_trans h (below_drewN _ n)) k

theorem rung_canon {x : Nat} (h : nanB x = true) : rung (canonW x) = 9221120237041090561 := by rw [canon_nan h]; rfl
theorem whole_canon (x : Nat) : wholeI (canonW x) = wholeI x := by
  cases h : nanB x
  · rw [canon_num h]
  · rw [canon_nan h]; unfold wholeI; rw [h]; rfl

theorem one_keep {o : Stp} {r : Rcd} (hb : isB o = true) (hf : fateI o (canonW r.x) = 1) : oneS o r = (1, nextR o (canR r)) := by
  unfold oneS runS
  rw [if_pos (by simp [checkB, hb]), goS_keep (r := canR r) hf]; rfl
theorem one_stop {o : Stp} {r : Rcd} (hb : isB o = true) (hf : ¬ fateI o (canonW r.x) = 1) : oneS o r = (fateI o (canonW r.x), ⟨0, 0⟩) := by
  unfold oneS runS
  rw [if_pos (by simp [checkB, hb]), goS_stop (r := canR r) hf]; rfl

theorem need_fin {k x : Nat} {N : Int} {X : Nat} (h : rung x < 9218868437227405312) : oneS ⟨9, N, X⟩ ⟨k, x⟩ = (1, ⟨k, x⟩) := by
  have hn : nanB x = false := by unfold nanB; rw [decide_eq_false (by omega)]
  rw [one_keep (o := ⟨9, N, X⟩) (r := ⟨k, x⟩) (by simp [isB]) (by simp only; rw [canon_num hn]; simp [fateI, h])]
  simp [nextR, canR, canon_num hn]
theorem need_not {k x : Nat} {N : Int} {X : Nat} (h : 9218868437227405312 ≤ rung x) : oneS ⟨9, N, X⟩ ⟨k, x⟩ = (3, ⟨0, 0⟩) := by
  have hr : 9218868437227405312 ≤ rung (canonW x) := by
    cases hn : nanB x
    · rw [canon_num hn]; exact h
    · rw [rung_canon hn]; omega
  have hf : fateI ⟨9, N, X⟩ (canonW x) = 3 := by simp [fateI, hr]
  rw [one_stop (o := ⟨9, N, X⟩) (r := ⟨k, x⟩) (by simp [isB]) (by simp only; rw [hf]; decide)]
  simp only [hf]
theorem per_zero {k x : Nat} {N : Int} {X : Nat} (h : wholeI x = 0) : oneS ⟨10, N, X⟩ ⟨k, x⟩ = (3, ⟨0, 0⟩) := by
  have hf : fateI ⟨10, N, X⟩ (canonW x) = 3 := by simp [fateI, whole_canon, h]
  rw [one_stop (o := ⟨10, N, X⟩) (r := ⟨k, x⟩) (by simp [isB]) (by simp only; rw [hf]; decide)]
  simp only [hf]
theorem per_some {k x : Nat} {N : Int} {X : Nat} (h : ¬ wholeI x = 0) : oneS ⟨10, N, X⟩ ⟨k, x⟩ = (1, ⟨k, ofW (perI N (wholeI x))⟩) := by
  have hf : fateI ⟨10, N, X⟩ (canonW x) = 1 := by simp [fateI, whole_canon, h]
  rw [one_keep (o := ⟨10, N, X⟩) (r := ⟨k, x⟩) (by simp [isB]) hf]
  simp [nextR, canR, turnW, whole_canon, canon_num (of_nan _)]

theorem whole_range (x : Nat) : -9223372036854775808 ≤ wholeI x ∧ wholeI x < 9223372036854775808 := by
  unfold wholeI
  split
  · omega
  split
  · split <;> omega
  · have := wn_lt (r := rung x) (by omega)
    split <;> omega

/-- N by w is no greater in size than N, in 64 bits. -/
theorem per_le (n w : Int) :
    (-9223372036854775808 ≤ perI n w ∧ perI n w < 9223372036854775808) ∧ (perI n w).natAbs ≤ n.natAbs := by
  have hd : (n.tdiv w).natAbs ≤ n.natAbs := by
    rw [Int.natAbs_tdiv]; exact Nat.div_le_self _ _
  unfold perI wrap64
  omega

theorem rI_top : rI 9223372036854775808 = 4890909195324358656 := by decide
theorem rI_53 : rI 9007199254740992 = 4845873199050653696 := by decide
theorem of_floor {q : Int} (h1 : -9223372036854775808 ≤ q) (h2 : q < 9223372036854775808) : floorW (ofW q) = ofW q := by
  by_cases h : q.natAbs ≤ 9007199254740992
  · exact (of_exact h).2
  · have a := rI_mono (a := 9007199254740992) (b := q.natAbs) (by omega) (by omega)
    have b := rI_mono (a := q.natAbs) (b := 9223372036854775808) (by omega) (by omega)
    rw [rI_53] at a
    rw [rI_top] at b
    exact floor_big (of_lt _) (by rw [of_rung]; omega) (by rw [of_rung]; omega)

theorem key_negW {x : Nat} (hx : x < 18446744073709551616) : key (negW x) = -key x := by
  unfold key
  rw [neg_negW hx, rung_negW hx]
  cases negB x <;> simp

/-- The size of N as a float. -/
def sizeW (n : Int) : Nat := if n < 0 then negW (ofW n) else ofW n
theorem size_lt (n : Int) : sizeW n < 18446744073709551616 := by unfold sizeW; split; exact negW_lt (of_lt _); exact of_lt _
theorem size_nan (n : Int) : nanB (sizeW n) = false := by unfold sizeW; split; rw [nan_negW (of_lt _)]; exact of_nan _; exact of_nan _
theorem size_key (n : Int) : key (sizeW n) = rI n.natAbs := by
  unfold sizeW
  split
  · rename_i h; rw [key_negW (of_lt _), of_key, if_pos h]; omega
  · rename_i h; rw [of_key, if_neg h]
theorem of_le_size {q n : Int} (h : q.natAbs ≤ n.natAbs) (h1 : -9223372036854775808 ≤ n) (h2 : n < 9223372036854775808) :
    (FloatKind.f64.format.order (ofW q) (sizeW n) == some .lt || FloatKind.f64.format.order (ofW q) (sizeW n) == some .eq) = true ∧
    (FloatKind.f64.format.order (ofW q) (negW (sizeW n)) == some .gt || FloatKind.f64.format.order (ofW q) (negW (sizeW n)) == some .eq) = true := by
  have hm := rI_mono h (by omega)
  have hk := of_key q
  have hs := size_key n
  constructor
  · rcases order_cases (of_lt q) (size_lt n) (of_nan q) (size_nan n) hs with ⟨o, k⟩ | ⟨o, k⟩ | ⟨o, k⟩
    · rw [o]; rfl
    · rw [o]; rfl
    · exfalso; rw [hk] at k; split at k <;> omega
  · have hs' : key (negW (sizeW n)) = -(rI n.natAbs : Int) := by rw [key_negW (size_lt n), hs]
    rcases order_cases (of_lt q) (negW_lt (size_lt n)) (of_nan q) (by rw [nan_negW (size_lt n)]; exact size_nan n) hs' with ⟨o, k⟩ | ⟨o, k⟩ | ⟨o, k⟩
    · exfalso; rw [hk] at k; split at k <;> omega
    · rw [o]; rfl
    · rw [o]; rfl
theorem of_lss0 {n : Int} (h1 : -9223372036854775808 ≤ n) (h2 : n < 9223372036854775808) : (FloatKind.f64.format.order (ofW n) 0 == some .lt) = decide (n < 0) := by
  have hk := (of_key_pos (n := n) (by omega) (by omega)).2
  rcases order_cases (c := 0) (of_lt n) (show 0 < 18446744073709551616 by omega) (of_nan n) (by decide) (by decide) with ⟨o, k⟩ | ⟨o, k⟩ | ⟨o, k⟩
  · rw [o, decide_eq_true (hk.1 k)]; rfl
  · rw [o, decide_eq_false (by omega)]; rfl
  · rw [o, decide_eq_false (by omega)]; rfl
end Go.Proofs.Ytjkhegekojflhab
