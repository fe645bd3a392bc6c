/- The reader's cell against the mathematics: its fault is the first, and without one its answer is the cell. -/
import Derived.Test.YtjcmmhonidamoaaBi
namespace Go.Proofs.Ytjcmmhonidamoaa
open Go.RowKit

theorem numF_old {l : List Nat} {f : Nat} (h : f ≠ 0) : numF l f = f := refu_old h
theorem hasF_old {l : List Nat} {f : Nat} (h : f ≠ 0) : hasF l f = f := by
  cases l
  · exact refu_old h
  · exact refu_old h
theorem valF_old {t : Bool} {l : List Nat} {f : Nat} (h : f ≠ 0) : valF t l f = f := by
  unfold valF; split
  · exact refu_old h
  · rfl
theorem refu_true {e : Nat} {g : Bool} (h : g = true) : refu g e 0 = e := by rw [h]; exact refu_yes e
theorem refu_false {e f : Nat} {g : Bool} (h : g = false) : refu g e f = f := by rw [h]; exact refu_no e f

theorem late {e : Nat} (h : e ≠ 0) (g t u : Bool) (a b c : List Nat) : refu g 4 (numF c (valF u b (valF t a e))) = e := by
  rw [valF_old h, valF_old h, numF_old h, refu_old h]
theorem val_one (t : Bool) (l : List Nat) : valF t l 0 = (oneV t l).1 ∧ ((oneV t l).1 = 0 → valX t l = (oneV t l).2.1 ∧ valL t l = (oneV t l).2.2) := by
  unfold valF valX valL oneV
  cases t
  · simp
  · by_cases h : l.length < 8
    · simp [h, refu_yes]
    · have : 8 ≤ l.length := by omega
      simp [h, this]
theorem oneW_eq (k h : Nat) (r : List Nat) (h3 : h ≤ 3) :
    refu (decide (1099511627776 < (Wm.take (valL (decide (h / 2 % 2 = 1)) (valL (decide (h % 2 = 1)) r))).1)) 4 (numF (valL (decide (h / 2 % 2 = 1)) (valL (decide (h % 2 = 1)) r)) (valF (decide (h / 2 % 2 = 1)) (valL (decide (h % 2 = 1)) r) (valF (decide (h % 2 = 1)) r 0))) = (oneW k h r).1 ∧
    ((oneW k h r).1 = 0 → (⟨k, valX (decide (h % 2 = 1)) r, valX (decide (h / 2 % 2 = 1)) (valL (decide (h % 2 = 1)) r), IntKind.i64.wrap ((Wm.take (valL (decide (h / 2 % 2 = 1)) (valL (decide (h % 2 = 1)) r))).1 : Nat)⟩ : Cl) = (oneW k h r).2.1 ∧ numL (valL (decide (h / 2 % 2 = 1)) (valL (decide (h % 2 = 1)) r)) = (oneW k h r).2.2) := by
  have e2 : decide (h / 2 % 2 = 1) = decide (2 ≤ h) := by congr 1; simp only [eq_iff_iff]; omega
  rw [e2]
  unfold oneW
  obtain ⟨p1, p2⟩ := val_one (decide (h % 2 = 1)) r
  by_cases q1 : (oneV (decide (h % 2 = 1)) r).1 = 0
  · rw [if_neg (by omega)]
    obtain ⟨p3, p4⟩ := p2 q1
    rw [p1, q1, p3, p4]
    obtain ⟨r1, r2⟩ := val_one (decide (2 ≤ h)) (oneV (decide (h % 2 = 1)) r).2.2
    by_cases q2 : (oneV (decide (2 ≤ h)) (oneV (decide (h % 2 = 1)) r).2.2).1 = 0
    · rw [if_neg (by omega)]
      obtain ⟨r3, r4⟩ := r2 q2
      rw [r1, q2, r3, r4]
      obtain ⟨l4, hl4⟩ : ∃ l4, l4 = (oneV (decide (2 ≤ h)) (oneV (decide (h % 2 = 1)) r).2.2).2.2 := ⟨_, rfl⟩
      rw [← hl4]
      unfold oneN
      by_cases q3 : (Wm.take l4).2.2 = 0
      · rw [if_neg (by omega)]
        have e3 : numF l4 0 = 0 := refu_false (by simp [q3])
        rw [e3]
        by_cases q4 : 1099511627776 < (Wm.take l4).1
        · rw [if_pos q4]
          exact ⟨refu_true (by simp [q4]), fun h => by simp at h⟩
        · rw [if_neg q4]
          refine ⟨refu_false (by simp [q4]), fun _ => ⟨?_, rfl⟩⟩
          have : IntKind.i64.wrap ((Wm.take l4).1 : Nat) = ((Wm.take l4).1 : Int) := by rw [IntKind.wrap_i64]; omega
          rw [this]
      · rw [if_pos q3]
        have e3 : numF l4 0 = (Wm.take l4).2.2 := refu_true (by simp [q3])
        rw [e3]
        exact ⟨refu_old q3, fun h => absurd h q3⟩
    · rw [if_pos q2, r1]
      refine ⟨?_, fun h => absurd h q2⟩
      rw [numF_old q2, refu_old q2]
  · rw [if_pos q1, p1]
    refine ⟨?_, fun h => absurd h q1⟩
    rw [valF_old q1, numF_old q1, refu_old q1]

theorem cel_one (o : Option Nat) (l : List Nat) : celF o l 0 = (oneC o l).1 ∧ ((oneC o l).1 = 0 → celX l = (oneC o l).2.1 ∧ numL (celL3 l) = (oneC o l).2.2) := by
  unfold oneC
  by_cases q1 : (Wm.take l).2.2 = 0
  · rw [if_neg (by omega)]
    have e1 : numF l 0 = 0 := refu_false (by simp [q1])
    by_cases q2 : folB o (Wm.take l).1 = false
    · rw [if_pos q2]
      refine ⟨?_, fun h => by simp at h⟩
      have e2 : refu (!folB o (Wm.take l).1) 7 (numF l 0) = 7 := by rw [e1, q2]; rfl
      unfold celF
      rw [e2, hasF_old (f := 7) (by omega)]
      exact late (by omega) _ _ _ _ _ _
    · have q2' : folB o (Wm.take l).1 = true := by simpa using q2
      rw [if_neg q2]
      have e2 : refu (!folB o (Wm.take l).1) 7 (numF l 0) = 0 := by rw [e1, q2']; rfl
      unfold celF celX celL3 celL2 celQ celP celL1
      rw [e2]
      have hL : l.drop (Wm.take l).2.1 = numL l := rfl
      rw [hL]
      cases hd : numL l with
      | nil =>
        refine ⟨?_, fun h => by simp [oneH] at h⟩
        have : hasF [] 0 = 3 := rfl
        rw [this]
        exact late (e := 3) (by omega) _ _ _ _ _ _
      | cons h r =>
        have hx : hasX (h :: r) = h := rfl
        have hl : hasL (h :: r) = r := rfl
        rw [hx, hl]
        simp only [oneH]
        by_cases q3 : 3 < h
        · rw [if_pos q3]
          refine ⟨?_, fun h => by simp at h⟩
          have : hasF (h :: r) 0 = 4 := refu_true (by simp [q3])
          rw [this]
          exact late (e := 4) (by omega) _ _ _ _ _ _
        · rw [if_neg q3]
          have : hasF (h :: r) 0 = 0 := refu_false (by simp [q3])
          rw [this]
          exact oneW_eq _ h r (by omega)
  · rw [if_pos q1]
    refine ⟨?_, fun h => absurd h q1⟩
    have e1 : numF l 0 = (Wm.take l).2.2 := refu_true (by simp [q1])
    unfold celF
    rw [e1, refu_old q1, hasF_old q1, valF_old q1, valF_old q1, numF_old q1, refu_old q1]
end Go.Proofs.Ytjcmmhonidamoaa
