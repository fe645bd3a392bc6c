/- The reference's Rising, Find, Put, Drop over cells: the mathematics. -/
import Derived.Test.YtjcmmhonidamoaaBp
namespace Go.Proofs.Ytjcmmhonidamoaa
open Go.RowKit

theorem ord_above {l : List Cl} {j : Nat} (h : ordE (some j) l = true) : ∀ c ∈ l, j < c.k := by
  induction l generalizing j with
  | nil => simp
  | cons c r ih =>
    simp only [ordE, folB, Bool.and_eq_true, decide_eq_true_eq] at h
    intro d hd
    rcases List.mem_cons.1 hd with rfl | hd
    · exact h.1
    · exact Nat.lt_trans h.1 (ih h.2 d hd)
def neK (k : Nat) (c : Cl) : Bool := decide (c.k ≠ k)
theorem filter_all {l : List Cl} {k : Nat} (h : ∀ c ∈ l, k < c.k) : l.filter (neK k) = l := by
  rw [List.filter_eq_self]
  intro c hc
  have := h c hc
  simp [neK]; omega
theorem drop_filter {l : List Cl} {k : Nat} {o : Option Nat} (h : ordE o l = true) : l.filter (neK k) = if isK l (fndF l k) k = true then l.take (fndF l k) ++ l.drop (fndF l k + 1) else l := by
  induction l generalizing o with
  | nil => simp [fndF, isK]
  | cons c r ih =>
    simp only [ordE, Bool.and_eq_true] at h
    by_cases hc : c.k < k
    · have e1 : fndF (c :: r) k = fndF r k + 1 := if_pos hc
      have e2 : isK (c :: r) (fndF r k + 1) k = isK r (fndF r k) k := by simp [isK]
      have e3 : (c :: r).filter (neK k) = c :: r.filter (neK k) := by rw [List.filter_cons_of_pos]; simp [neK]; omega
      rw [e1, e2, e3, ih h.2]
      split <;> simp
    · have e1 : fndF (c :: r) k = 0 := if_neg hc
      rw [e1]
      have ha := ord_above h.2
      by_cases he : c.k = k
      · have e2 : isK (c :: r) 0 k = true := by simp [isK, he]
        have e3 : (c :: r).filter (neK k) = r.filter (neK k) := by rw [List.filter_cons_of_neg]; simp [neK, he]
        rw [e2, e3, filter_all (by rw [← he]; exact ha)]
        simp
      · have e2 : isK (c :: r) 0 k = false := by simp [isK, he]
        rw [e2, filter_all]
        · simp
        · intro d hd
          rcases List.mem_cons.1 hd with rfl | hd
          · omega
          · have := ha d hd; omega
theorem dropR_filter {l : List Cl} {k : Nat} (h : ordB l = true) : dropR l k = (l.filter (neK k), 0) := by
  unfold dropR
  rw [drop_filter h, if_neg (by simp [h])]
  split <;> rfl
theorem filt_succ {l : List Cl} {i k : Nat} (hi : i < l.length) (h : l[i].k ≠ k) : (l.take (i + 1)).filter (neK k) = (l.take i).filter (neK k) ++ [l[i]] := by
  rw [List.take_succ_eq_append_getElem hi, List.filter_append]
  congr 1
  rw [List.filter_cons_of_pos]
  · rfl
  · simp [neK, h]
theorem filt_skip {l : List Cl} {i k : Nat} (hi : i < l.length) (h : l[i].k = k) : (l.take (i + 1)).filter (neK k) = (l.take i).filter (neK k) := by
  rw [List.take_succ_eq_append_getElem hi, List.filter_append]
  have : [l[i]].filter (neK k) = [] := by
    rw [List.filter_cons_of_neg (by simp [neK, h])]
    rfl
  rw [this, List.append_nil]
theorem filt_len (l : List Cl) (i k : Nat) : ((l.take i).filter (neK k)).length ≤ l.length := by
  refine Nat.le_trans (List.length_filter_le _ _) ?_
  simp; omega
/-- The start of Rising's loop. -/
theorem ord_start {l : List Cl} (hp : 0 < l.length) : ordE (lastK (l.take 1)) (l.drop 1) = ordB l := by
  cases l with
  | nil => simp at hp
  | cons c r => simp [ordB, ordE, folB, lastK]
end Go.Proofs.Ytjcmmhonidamoaa
