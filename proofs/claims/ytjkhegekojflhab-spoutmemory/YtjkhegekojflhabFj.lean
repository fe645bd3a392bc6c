/- Floors and whole parts as whole numbers, and a float of a whole number with 1 added or taken off. Plain mathematics over the model's floats; no program. -/
import Derived.Test.YtjkhegekojflhabFi
namespace Go.Proofs.Ytjkhegekojflhab
open Ieee

theorem V_rI {M : Nat} (h : M ≤ 9007199254740992) : V (rI M) = M * UU := by
  by_cases h0 : M = 0
  · subst h0; rw [rI_zero, Nat.zero_mul]; decide
  · obtain ⟨r, e, r1, r2, hv⟩ := int_word false h0 h
    have : rI M = r := by unfold rI; rw [e]; exact rung_word _ (by omega)
    rw [this, hv]

theorem read_of {a : Int} (h : a.natAbs ≤ 9007199254740992) :
    ∃ m k : Nat, Ieee.double.read (ofW a) = .number (decide (a < 0)) m (-1074 + (k : Int)) ∧ m * 2 ^ k = a.natAbs * UU := by
  have hr := of_rung a
  have hb : rI a.natAbs < 9218868437227405312 := by
    by_cases h0 : a.natAbs = 0
    · rw [h0, rI_zero]; omega
    · obtain ⟨r, e, r1, r2, hv⟩ := int_word false h0 h
      have : rI a.natAbs = r := by unfold rI; rw [e]; exact rung_word _ (by omega)
      omega
  refine ⟨mag (rI a.natAbs), sh (rI a.natAbs), ?_, ?_⟩
  · rw [read_num (of_lt a) (by omega), of_neg, hr]
  · exact V_rI h

theorem signed_of (s : Bool) (m j : Nat) : signed s m j = if s then -((m * 2 ^ j : Nat) : Int) else ((m * 2 ^ j : Nat) : Int) := by
  unfold signed; rw [Nat.shiftLeft_eq]

theorem add_one {a : Int} (h : a.natAbs ≤ 9007199254740992) (t : Bool) :
    ((Ieee.double.read (ofW a)).sum (.number t 4503599627370496 (-52))).map Ieee.double.write = some (ofW (a + if t then -1 else 1)) := by
  obtain ⟨m, k, e, hv⟩ := read_of h
  rw [e]
  simp only [Datum.sum, Option.map_some, Format.write]
  congr 1
  obtain ⟨c, hc⟩ : ∃ c : Nat, min (-1074 + (k : Int)) (-52) = -(c : Int) := ⟨(-(min (-1074 + (k : Int)) (-52))).toNat, by omega⟩
  rw [hc]
  have c1 : 52 ≤ c := by omega
  have c2 : 1074 ≤ k + c := by omega
  have e1 : m * 2 ^ (-1074 + (k : Int) - -(c : Int)).toNat = a.natAbs * 2 ^ c := by
    have hj : (-1074 + (k : Int) - -(c : Int)).toNat = k + c - 1074 := by omega
    rw [hj]
    have h1 : m * 2 ^ (k + c - 1074) * UU = a.natAbs * 2 ^ c * UU := by
      rw [Nat.mul_assoc, ← UU_high c2, Nat.pow_add, ← Nat.mul_assoc, hv, Nat.mul_assoc, Nat.mul_comm UU, ← Nat.mul_assoc]
    exact Nat.eq_of_mul_eq_mul_right UU_pos h1
  have e2 : 4503599627370496 * 2 ^ (-52 - -(c : Int)).toNat = 2 ^ c := by
    rw [show (-52 - -(c : Int)).toNat = c - 52 by omega, show (4503599627370496 : Nat) = 2 ^ 52 from rfl, ← Nat.pow_add, show 52 + (c - 52) = c by omega]
  rw [signed_of, signed_of, e1, e2]
  have hp := Nat.two_pow_pos c
  have e3 : (if decide (a < 0) = true then -((a.natAbs * 2 ^ c : Nat) : Int) else ((a.natAbs * 2 ^ c : Nat) : Int)) = a * (2 ^ c : Nat) := by
    simp only [decide_eq_true_eq]
    split
    · rw [Int.natCast_mul, ← Int.neg_mul]; congr 1; omega
    · rw [Int.natCast_mul]; congr 1; omega
  have e4 : (if t = true then -((2 ^ c : Nat) : Int) else ((2 ^ c : Nat) : Int)) = (if t then -1 else 1) * (2 ^ c : Nat) := by
    cases t <;> simp
  rw [e3, e4, ← Int.add_mul]
  generalize hu : (if t = true then (-1 : Int) else 1) = u
  have hu1 : u = -1 ∨ u = 1 := by cases t <;> simp at hu <;> omega
  generalize hq : (2 ^ c : Nat) = q at *
  have hs : (if (a + u) * (q : Int) = 0 then decide (a < 0) && t else decide ((a + u) * (q : Int) < 0)) = decide (a + u < 0) := by
    by_cases z : a + u = 0
    · rw [z, Int.zero_mul, if_pos rfl]
      cases t <;> simp at hu ⊢
      omega
    · rw [if_neg (Int.mul_ne_zero z (by omega))]
      rw [Bool.eq_iff_iff, decide_eq_true_eq, decide_eq_true_eq]
      constructor
      · intro k
        by_cases z2 : a + u < 0
        · exact z2
        · have := Int.mul_nonneg (show 0 ≤ a + u by omega) (show (0 : Int) ≤ q by omega); omega
      · intro k
        exact Int.mul_neg_of_neg_of_pos k (by omega)
  rw [hs, Int.natAbs_mul, Int.natAbs_natCast, ← hq]
  have := nearest_scale (decide (a + u < 0)) (a + u).natAbs 0 c
  rw [show (0 : Int) - (c : Int) = -(c : Int) by omega] at this
  exact this

theorem sub_one {a : Int} (h : a.natAbs ≤ 9007199254740992) : Ieee.double.sub (ofW a) 4607182418800017408 = some (ofW (a - 1)) := by
  unfold Format.sub
  rw [read1]
  have := add_one h true
  rw [show (Datum.number false 4503599627370496 (-52)).opposite = .number true 4503599627370496 (-52) from rfl, this]
  rfl
theorem plus_one {a : Int} (h : a.natAbs ≤ 9007199254740992) : Ieee.double.add (ofW a) 4607182418800017408 = some (ofW (a + 1)) := by
  unfold Format.add
  rw [read1]
  exact add_one h false

/-- The floor of a float below 2^52 in size that is no nought, as a whole number. -/
def floorI (x : Nat) : Int := if negB x then -(fk true (rung x) : Int) else wn (rung x)
theorem floor_int {x : Nat} (hx : x < 18446744073709551616) (h : rung x < 4841369599423283200) (h0 : rung x ≠ 0) :
    floorW x = ofW (floorI x) ∧ (floorI x).natAbs ≤ 4503599627370496 := by
  rw [floor_fk hx (by omega)]
  have hk := fun s => fk_small s h
  have hw := wn_small h
  have hv0 : V (rung x) ≠ 0 := by
    intro k
    have v0 : V 0 = 0 := by decide
    exact h0 (V_inj (k.trans v0.symm))
  unfold floorI ofW
  cases sg : negB x
  · have hf : fk false (rung x) = wn (rung x) := by unfold fk; simp
    simp only [Bool.false_eq_true, if_false]
    rw [hf]
    refine ⟨?_, by omega⟩
    rw [decide_eq_false (by omega), Int.natAbs_natCast]
  · have := hk true
    simp only [if_true]
    have hpos : 0 < fk true (rung x) := by
      unfold fk
      by_cases c : V (rung x) % UU = 0
      · rw [wn_V]
        have := Nat.div_add_mod (V (rung x)) UU
        rw [c] at this
        by_cases z : V (rung x) / UU = 0
        · rw [z] at this; omega
        · exact Nat.lt_of_lt_of_le (Nat.pos_of_ne_zero z) (Nat.le_add_right _ _)
      · rw [if_pos ⟨rfl, c⟩]; omega
    refine ⟨?_, by omega⟩
    rw [decide_eq_true (by omega), Int.natAbs_neg, Int.natAbs_natCast]

/-- The whole part of a float below 2^52 in size. -/
theorem whole_int {x : Nat} (hn : nanB x = false) (h : rung x < 4841369599423283200) : wholeI x = (if negB x then -(wn (rung x) : Int) else wn (rung x)) ∧ (wholeI x).natAbs < 4503599627370496 := by
  have hw := wn_small h
  have e : wholeI x = (if negB x then -(wn (rung x) : Int) else wn (rung x)) := by
    unfold wholeI; rw [hn, if_neg (by simp), if_neg (by omega)]
  refine ⟨e, ?_⟩
  rw [e]; split <;> omega

theorem key_cmp {M r : Nat} (h : M ≤ 9007199254740992) : (rI M < r ↔ M * UU < V r) ∧ (r < rI M ↔ V r < M * UU) := by
  rw [← V_rI h]; exact ⟨V_lt_iff.symm, V_lt_iff.symm⟩

/-- Where the float of the whole part lies, seen from the float: above it just where the float is negative and not whole. -/
theorem whole_above {x : Nat} (hn : nanB x = false) (h : rung x < 4841369599423283200) :
    (key x < key (ofW (wholeI x)) ↔ negB x = true ∧ V (rung x) % UU ≠ 0) ∧ (negB x = false → key (ofW (wholeI x)) ≤ key x) ∧ (negB x = true → key x ≤ key (ofW (wholeI x))) := by
  obtain ⟨e, hl⟩ := whole_int hn h
  have hw := wn_small h
  have hv := Nat.div_add_mod (V (rung x)) UU
  have hm : V (rung x) % UU < UU := Nat.mod_lt _ UU_pos
  rw [← wn_V, Nat.mul_comm] at hv
  obtain ⟨k1, k2⟩ := key_cmp (M := wn (rung x)) (r := rung x) (by omega)
  rw [of_key, e]
  unfold key
  cases sg : negB x
  · simp only [Bool.false_eq_true, if_false, false_and, iff_false]
    rw [if_neg (by omega), Int.natAbs_natCast]
    refine ⟨by omega, fun _ => by omega, (fun h => by cases h)⟩
  · simp only [if_true]
    rw [Int.natAbs_neg, Int.natAbs_natCast]
    by_cases z : wn (rung x) = 0
    · rw [z, Nat.zero_mul] at k1 k2 hv
      rw [rI_zero] at k1 k2
      rw [z, rI_zero, if_neg (by omega)]
      refine ⟨⟨fun k => ⟨trivial, by omega⟩, fun k => by have := k.2; omega⟩, (fun h => by cases h), fun _ => by omega⟩
    · rw [if_pos (by omega)]
      refine ⟨⟨fun k => ⟨trivial, by omega⟩, fun k => by have := k.2; omega⟩, (fun h => by cases h), fun _ => by omega⟩

end Go.Proofs.Ytjkhegekojflhab
