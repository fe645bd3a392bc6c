/- TakeWord and its reference: they read and answer, and turn nothing. -/
import Derived.Test.YtonnlhehbhiiiaaWw

namespace Go.Proofs.Ytonnlhehbhiiiaa

open Go.RowKit



theorem unw_append (l r : List Nat) : Wm.unw (l ++ r) = Wm.unw l + 256 ^ l.length * Wm.unw r := by
  induction l with
  | nil => simp [Wm.unw]
  | cons c l ih =>
    simp only [List.cons_append, Wm.unw, ih, List.length_cons, Nat.pow_succ]
    rw [Nat.mul_add, Nat.mul_comm (256 ^ l.length) 256, Nat.mul_assoc]
    omega


theorem unw_take_succ {l : List Nat} {k c : Nat} (hk : k < l.length) (hc : l.getD k 0 = c) : Wm.unw (l.take (k + 1)) = Wm.unw (l.take k) + c * 256 ^ k := by
  have e : l.getD k 0 = l[k] := by simp [List.getD, List.getElem?_eq_getElem hk]
  rw [List.take_succ_eq_append_getElem hk, unw_append, List.length_take, Nat.min_eq_left (by omega), ← e, hc]
  simp [Wm.unw, Nat.mul_comm]


theorem wacc_or {x c k : Nat} (hx : x < 256 ^ k) (hk : k < 8) (hc : c < 256) :
    bits .or .u64 (x : Int) (IntKind.u64.wrap ((c : Int) * 2 ^ (8 * k))) = ((x + c * 256 ^ k : Nat) : Int) := by
  have hp : (256 : Nat) ^ k ≤ 256 ^ 7 := Nat.pow_le_pow_right (by omega) (by omega)
  have h1 : c * 256 ^ k ≤ 255 * 256 ^ 7 := Nat.mul_le_mul (by omega) hp
  have h2 : c * 256 ^ k < 18446744073709551616 := Nat.lt_of_le_of_lt h1 (by decide)
  have h3 : x < 18446744073709551616 := Nat.lt_of_lt_of_le (Nat.lt_of_lt_of_le hx hp) (by decide)
  have e : (c : Int) * 2 ^ (8 * k) = ((c * 256 ^ k : Nat) : Int) := by
    rw [← pow256, Int.natCast_mul, Int.natCast_pow]; rfl
  rw [e, wrap_u64_id (by omega) (by generalize c * 256 ^ k = z at h2 ⊢; omega), bits_or_u64_nat x _ h3 h2]
  congr 1
  rw [← pow256] at hx ⊢
  rw [Nat.or_comm, Nat.mul_comm, ← Nat.two_pow_add_eq_or_of_lt hx]
  omega


/-- TakeWord's answers. -/
def t2 (r : Nat × Nat) : Value := .tuple #[.int .u64 (r.1 : Nat), .int .i64 (r.2 : Nat)]


theorem t2_short {l : List Nat} (h : l.length < 8) : Ending.returned (.tuple #[.int .u64 0, .int .i64 3]) = .returned (t2 (Wm.takeW l)) := by
  unfold Wm.takeW; rw [if_pos h]; rfl
theorem t2_long {l : List Nat} {a : Int} (h : 8 ≤ l.length) (ha : a = (Wm.unw (l.take 8) : Nat)) : Ending.returned (.tuple #[.int .u64 a, .int .i64 0]) = .returned (t2 (Wm.takeW l)) := by
  unfold Wm.takeW; rw [if_neg (by omega), ha]; rfl










theorem drop_take8 {l : List Nat} {j c : Nat} (h8 : 8 ≤ l.length) (hj : j < 8) (hc : l.getD j 0 = c) : (l.take 8).drop j = c :: (l.take 8).drop (j + 1) := by
  refine drop_cons (by rw [List.length_take]; omega) ?_
  rw [← hc]; simp [List.getD, hj]


theorem rw_acc {x c : Nat} (hx : x * 256 + c < 18446744073709551616) : IntKind.u64.wrap (IntKind.u64.wrap ((x : Int) * 256) + (c : Int)) = ((x * 256 + c : Nat) : Int) := by
  rw [wrap_u64_id (z := (x : Int) * 256) (by omega) (by omega), wrap_u64_id (by omega) (by omega)]
  omega




end Go.Proofs.Ytonnlhehbhiiiaa


