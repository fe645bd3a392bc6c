/- What the words of binary64 stand for, as whole numbers: the order of two words is the order of their keys. Plain mathematics over the model's floats; no program. -/
import Derived.Laws.FloatArith
namespace Go.Proofs.Ytnppgeokbhecfaa
open Ieee

def rung (x : Nat) : Nat := x % 9223372036854775808
def negB (x : Nat) : Bool := decide (9223372036854775808 ≤ x)
def nanB (x : Nat) : Bool := decide (9218868437227405312 < rung x)
def infB (x : Nat) : Bool := decide (rung x = 9218868437227405312)
def mag (r : Nat) : Nat := if r < 4503599627370496 then r else 4503599627370496 + r % 4503599627370496
def sh (r : Nat) : Nat := r / 4503599627370496 - 1
def V (r : Nat) : Nat := mag r * 2 ^ sh r
def key (x : Nat) : Int := if negB x then -(rung x : Int) else rung x

theorem sw : Ieee.double.signWeight = 9223372036854775808 := by decide
theorem bn : Ieee.double.binade = 4503599627370496 := by decide
theorem ir : Ieee.double.infRung = 9218868437227405312 := by decide
theorem lp : Ieee.double.leastPlace = -1074 := by decide

theorem read_num {x : Nat} (hx : x < 18446744073709551616) (h : rung x < 9218868437227405312) :
    Ieee.double.read x = .number (negB x) (mag (rung x)) (-1074 + (sh (rung x) : Nat)) := by
  unfold Format.read
  simp only [sw, bn, ir, lp]
  have hn : (x / 9223372036854775808 % 2 == 1) = negB x := by
    unfold negB; rw [Bool.eq_iff_iff]; simp; omega
  rw [hn]
  change (if rung x < _ then _ else if rung x < _ then _ else _) = _
  by_cases h2 : rung x < 4503599627370496
  · rw [if_pos h2]
    unfold mag sh
    rw [if_pos h2, Nat.div_eq_of_lt h2]; rfl
  · rw [if_neg h2, if_pos h]
    unfold mag sh
    rw [if_neg h2]
    rfl

theorem read_inf {x : Nat} (hx : x < 18446744073709551616) (h : rung x = 9218868437227405312) :
    Ieee.double.read x = .infinity (negB x) := by
  unfold Format.read
  simp only [sw, bn, ir, lp]
  have hn : (x / 9223372036854775808 % 2 == 1) = negB x := by
    unfold negB; rw [Bool.eq_iff_iff]; simp; omega
  rw [hn]
  change (if rung x < _ then _ else if rung x < _ then _ else if rung x = _ then _ else _) = _
  rw [if_neg (by omega), if_neg (by omega), if_pos h]

theorem read_nan {x : Nat} (hx : x < 18446744073709551616) (h : 9218868437227405312 < rung x) :
    Ieee.double.read x = .nan (negB x) (rung x - 9218868437227405312) := by
  unfold Format.read
  simp only [sw, bn, ir, lp]
  have hn : (x / 9223372036854775808 % 2 == 1) = negB x := by
    unfold negB; rw [Bool.eq_iff_iff]; simp; omega
  rw [hn]
  change (if rung x < _ then _ else if rung x < _ then _ else if rung x = _ then _ else _) = _
  rw [if_neg (by omega), if_neg (by omega), if_neg (by omega)]
  rfl

theorem mag_lt (r : Nat) : mag r < 9007199254740992 := by unfold mag; split <;> omega
theorem V_small {r : Nat} (h : r < 9007199254740992) : V r = r := by
  unfold V mag sh
  by_cases h2 : r < 4503599627370496
  · rw [if_pos h2, Nat.div_eq_of_lt h2]; simp
  · rw [if_neg h2, show r / 4503599627370496 = 1 by omega]; simp; omega

theorem V_lt {r s : Nat} (h : r < s) : V r < V s := by
  by_cases hs : s < 9007199254740992
  · rw [V_small hs, V_small (Nat.lt_trans h hs)]; exact h
  have ms : 4503599627370496 ≤ mag s := by unfold mag; split <;> omega
  by_cases hq : r / 4503599627370496 = s / 4503599627370496
  · unfold V
    have : sh r = sh s := by unfold sh; rw [hq]
    rw [this]
    refine Nat.mul_lt_mul_of_pos_right ?_ (Nat.two_pow_pos _)
    unfold mag
    rw [if_neg (by omega), if_neg (by omega)]
    omega
  · have h1 : sh r + 1 ≤ sh s := by unfold sh; omega
    have h2 : 2 ^ (sh r + 1) ≤ 2 ^ sh s := Nat.pow_le_pow_right (by omega) h1
    have h3 := mag_lt r
    have h4 : mag r * 2 ^ sh r < 9007199254740992 * 2 ^ sh r := Nat.mul_lt_mul_of_pos_right h3 (Nat.two_pow_pos _)
    have h5 : 4503599627370496 * 2 ^ sh s ≤ mag s * 2 ^ sh s := Nat.mul_le_mul_right _ ms
    unfold V
    rw [Nat.pow_succ] at h2
    omega

theorem V_lt_iff {r s : Nat} : V r < V s ↔ r < s := by
  constructor
  · intro h
    rcases Nat.lt_trichotomy r s with h1 | h1 | h1
    · exact h1
    · subst h1; omega
    · have := V_lt h1; omega
  · exact V_lt
theorem V_inj {r s : Nat} (h : V r = V s) : r = s := by
  rcases Nat.lt_trichotomy r s with h1 | h1 | h1
  · have := V_lt h1; omega
  · exact h1
  · have := V_lt h1; omega

def cmpI (a b : Int) : Ordering := if a < b then .lt else if a = b then .eq else .gt
theorem compare_int (a b : Int) : compare a b = cmpI a b := rfl
theorem cmpI_mul (a b : Int) (c : Int) (hc : 0 < c) : cmpI (a * c) (b * c) = cmpI a b := by
  unfold cmpI
  have h1 : a * c < b * c ↔ a < b := ⟨fun h => Int.lt_of_mul_lt_mul_right h (Int.le_of_lt hc), fun h => Int.mul_lt_mul_of_pos_right h hc⟩
  have h2 : a * c = b * c ↔ a = b := ⟨fun h => Int.eq_of_mul_eq_mul_right (by omega) h, fun h => by rw [h]⟩
  simp only [h1, h2]

theorem signed_mul (s : Bool) (m a c : Nat) (h : c ≤ a) : signed s m (a - c) * (2 ^ c : Nat) = if s then -((m * 2 ^ a : Nat) : Int) else ((m * 2 ^ a : Nat) : Int) := by
  unfold signed
  have : m <<< (a - c) * 2 ^ c = m * 2 ^ a := by
    rw [Nat.shiftLeft_eq, Nat.mul_assoc, ← Nat.pow_add]; congr 2; omega
  cases s
  · simp only [Bool.false_eq_true, if_false]; rw [← Int.natCast_mul, this]
  · simp only [if_true]; rw [Int.neg_mul, ← Int.natCast_mul, this]

theorem order_numbers (s t : Bool) (m n a b : Nat) :
    (Datum.number s m (-1074 + (a : Nat))).order (.number t n (-1074 + (b : Nat))) = some (cmpI (if s then -((m * 2 ^ a : Nat) : Int) else ((m * 2 ^ a : Nat) : Int)) (if t then -((n * 2 ^ b : Nat) : Int) else ((n * 2 ^ b : Nat) : Int))) := by
  have e1 : ((-1074 + (a : Int)) - min (-1074 + (a : Int)) (-1074 + (b : Int))).toNat = a - min a b := by omega
  have e2 : ((-1074 + (b : Int)) - min (-1074 + (a : Int)) (-1074 + (b : Int))).toNat = b - min a b := by omega
  simp only [Datum.order, e1, e2, compare_int]
  congr 1
  rw [← signed_mul s m a (min a b) (by omega), ← signed_mul t n b (min a b) (by omega)]
  exact (cmpI_mul _ _ _ (by have := Nat.two_pow_pos (min a b); omega)).symm

theorem cmpI_keys (s t : Bool) (r q : Nat) :
    cmpI (if s then -((V r : Nat) : Int) else ((V r : Nat) : Int)) (if t then -((V q : Nat) : Int) else ((V q : Nat) : Int)) = cmpI (if s then -(r : Int) else r) (if t then -(q : Int) else q) := by
  have v0 : V 0 = 0 := by decide
  have h1 := @V_lt_iff r q
  have h2 := @V_lt_iff q r
  have h3 := @V_lt_iff 0 r
  have h4 := @V_lt_iff 0 q
  rw [v0] at h3 h4
  unfold cmpI
  cases s <;> cases t <;> simp only [Bool.false_eq_true, if_false, if_true] <;> (repeat' split) <;> first | rfl | (exfalso; omega)

theorem order_key {x y : Nat} (hx : x < 18446744073709551616) (hy : y < 18446744073709551616) (nx : nanB x = false) (ny : nanB y = false) :
    Ieee.double.order x y = some (cmpI (key x) (key y)) := by
  have nx' : ¬ 9218868437227405312 < rung x := by simpa [nanB] using nx
  have ny' : ¬ 9218868437227405312 < rung y := by simpa [nanB] using ny
  unfold Format.order
  by_cases ix : rung x = 9218868437227405312 <;> by_cases iy : rung y = 9218868437227405312
  · rw [read_inf hx ix, read_inf hy iy]
    unfold key
    rw [ix, iy]
    cases negB x <;> cases negB y <;> rfl
  · rw [read_inf hx ix, read_num hy (by omega)]
    have : rung y < 9218868437227405312 := by omega
    unfold key cmpI
    rw [ix]
    cases negB x <;> cases negB y <;> simp only [Datum.order, Bool.false_eq_true, if_false, if_true] <;> refine congrArg some ?_ <;> (repeat' split) <;> first | rfl | (exfalso; omega)
  · rw [read_inf hy iy, read_num hx (by omega)]
    have : rung x < 9218868437227405312 := by omega
    unfold key cmpI
    rw [iy]
    cases negB x <;> cases negB y <;> simp only [Datum.order, Bool.false_eq_true, if_false, if_true] <;> refine congrArg some ?_ <;> (repeat' split) <;> first | rfl | (exfalso; omega)
  · rw [read_num hx (by omega), read_num hy (by omega), order_numbers]
    congr 1
    exact cmpI_keys _ _ _ _

theorem order_nan_left {x y : Nat} (hx : x < 18446744073709551616) (nx : nanB x = true) : Ieee.double.order x y = none := by
  have nx' : 9218868437227405312 < rung x := by simpa [nanB] using nx
  unfold Format.order
  rw [read_nan hx nx']; rfl
theorem order_nan_right {x y : Nat} (hy : y < 18446744073709551616) (ny : nanB y = true) : Ieee.double.order x y = none := by
  have ny' : 9218868437227405312 < rung y := by simpa [nanB] using ny
  unfold Format.order
  rw [read_nan hy ny']
  generalize Ieee.double.read x = d
  generalize rung y - 9218868437227405312 = f
  cases d <;> rfl

theorem order_self {x : Nat} (hx : x < 18446744073709551616) : (Ieee.double.order x x != some .eq) = nanB x := by
  cases h : nanB x
  · rw [order_key hx hx h h]; simp [cmpI]
  · rw [order_nan_left hx h]; rfl

/-- The place of a word in the row of all floats. -/
def rank (x : Nat) : Int := if nanB x then 9223372036854775807 else if negB x then -1 - ((x : Int) - 9223372036854775808) else x
def ordI (a b : Nat) : Int := if rank a < rank b then -1 else if rank b < rank a then 1 else 0
def canonW (x : Nat) : Nat := if nanB x then 9221120237041090561 else x
def leastW (a b : Nat) : Nat := if rank a ≤ rank b then canonW a else canonW b
def mostW (a b : Nat) : Nat := if rank b ≤ rank a then canonW a else canonW b

theorem neg_t {x : Nat} (h : negB x = true) : 9223372036854775808 ≤ x := by simpa [negB] using h
theorem neg_f {x : Nat} (h : negB x = false) : x < 9223372036854775808 := by simpa [negB] using h
theorem nan_t {x : Nat} (h : nanB x = true) : 9218868437227405312 < rung x := by simpa [nanB] using h
theorem nan_f {x : Nat} (h : nanB x = false) : rung x ≤ 9218868437227405312 := by simpa [nanB] using h
theorem rung_lt (x : Nat) : rung x < 9223372036854775808 := Nat.mod_lt _ (by omega)
theorem rung_of {x : Nat} (hx : x < 18446744073709551616) : rung x = if negB x then x - 9223372036854775808 else x := by
  unfold rung negB; simp only [decide_eq_true_eq]; split <;> omega

/-- What the code's Order makes of the comparisons is the order of the ranks. -/
theorem ord_lt {a b : Nat} (ha : a < 18446744073709551616) (hb : b < 18446744073709551616) (h : Ieee.double.order a b = some .lt) : ordI a b = -1 := by
  cases na : nanB a
  · cases nb : nanB b
    · rw [order_key ha hb na nb] at h
      have hk : key a < key b := by
        unfold cmpI at h; split at h
        · assumption
        · split at h <;> cases h
      have ra := rung_of ha; have rb := rung_of hb
      unfold ordI rank; rw [na, nb]
      unfold key at hk
      cases sa : negB a <;> cases sb : negB b <;> (have ga := sa; have gb := sb; simp only [sa, sb, Bool.false_eq_true, if_false, if_true] at hk ra rb ⊢) <;> (first | replace ga := neg_t ga | replace ga := neg_f ga) <;> (first | replace gb := neg_t gb | replace gb := neg_f gb) <;> (rw [if_pos (by omega)])
    · rw [order_nan_right hb nb] at h; cases h
  · rw [order_nan_left ha na] at h; cases h
theorem ord_gt {a b : Nat} (ha : a < 18446744073709551616) (hb : b < 18446744073709551616) (h : Ieee.double.order a b = some .gt) : ordI a b = 1 := by
  cases na : nanB a
  · cases nb : nanB b
    · rw [order_key ha hb na nb] at h
      have hk : key b < key a := by
        unfold cmpI at h; split at h
        · cases h
        · split at h
          · cases h
          · omega
      have ra := rung_of ha; have rb := rung_of hb
      unfold ordI rank; rw [na, nb]
      unfold key at hk
      cases sa : negB a <;> cases sb : negB b <;> (have ga := sa; have gb := sb; simp only [sa, sb, Bool.false_eq_true, if_false, if_true] at hk ra rb ⊢) <;> (first | replace ga := neg_t ga | replace ga := neg_f ga) <;> (first | replace gb := neg_t gb | replace gb := neg_f gb) <;> (rw [if_neg (by omega), if_pos (by omega)])
    · rw [order_nan_right hb nb] at h; cases h
  · rw [order_nan_left ha na] at h; cases h
theorem ord_eq {a b : Nat} (ha : a < 18446744073709551616) (hb : b < 18446744073709551616) (h : Ieee.double.order a b = some .eq) :
    ordI a b = if negB a = negB b then 0 else if negB a then -1 else 1 := by
  cases na : nanB a
  · cases nb : nanB b
    · rw [order_key ha hb na nb] at h
      have hk : key a = key b := by
        unfold cmpI at h; split at h
        · cases h
        · split at h
          · assumption
          · cases h
      have ra := rung_of ha; have rb := rung_of hb
      unfold ordI rank; rw [na, nb]
      unfold key at hk
      cases sa : negB a <;> cases sb : negB b <;> (have ga := sa; have gb := sb; simp only [sa, sb, Bool.false_eq_true, if_false, if_true] at hk ra rb ⊢) <;> (first | replace ga := neg_t ga | replace ga := neg_f ga) <;> (first | replace gb := neg_t gb | replace gb := neg_f gb) <;> (try simp only [reduceCtorEq, if_false]) <;> (repeat' split) <;> omega
    · rw [order_nan_right hb nb] at h; cases h
  · rw [order_nan_left ha na] at h; cases h
theorem ord_none {a b : Nat} (ha : a < 18446744073709551616) (hb : b < 18446744073709551616) (h : Ieee.double.order a b = none) :
    ordI a b = if nanB a = nanB b then 0 else if nanB b then -1 else 1 := by
  have ra := rung_of ha; have rb := rung_of hb
  have la := rung_lt a; have lb := rung_lt b
  cases na : nanB a <;> cases nb : nanB b
  · rw [order_key ha hb na nb] at h; cases h
  · unfold ordI rank; rw [na, nb]
    unfold nanB at na nb; simp only [decide_eq_true_eq, decide_eq_false_iff_not] at na nb
    cases sa : negB a <;> (have ga := sa; simp only [sa, Bool.false_eq_true, if_false, if_true] at ra ⊢) <;> (first | replace ga := neg_t ga | replace ga := neg_f ga) <;> (simp; omega)
  · unfold ordI rank; rw [na, nb]
    unfold nanB at na nb; simp only [decide_eq_true_eq, decide_eq_false_iff_not] at na nb
    cases sb : negB b <;> (have gb := sb; simp only [sb, Bool.false_eq_true, if_false, if_true] at rb ⊢) <;> (first | replace gb := neg_t gb | replace gb := neg_f gb) <;> (simp; omega)
  · unfold ordI rank; rw [na, nb]; simp

end Go.Proofs.Ytnppgeokbhecfaa
