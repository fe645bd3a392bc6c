/- The law's bare: a text without its skipped lines. -/
import Derived.Test.YtkiplcmndpdifaaGreatDoorTe

namespace Go.Proofs.YtkiplcmndpdifaaGreatDoor

open Go.RowKit



theorem split_none {b : UInt8} : ∀ {a : Bs}, b ∉ a → splitB b a = [a] := by
  intro a
  induction a with
  | nil => intro _; rfl
  | cons c a ih =>
    intro h
    have hc : c ≠ b := fun e => h (by simp [e])
    simp [splitB, hc, ih (fun e => h (by simp [e]))]


theorem split_at {b : UInt8} : ∀ {a : Bs} {r : Bs}, b ∉ a → splitB b (a ++ b :: r) = a :: splitB b r := by
  intro a
  induction a with
  | nil => intro r _; simp [splitB]
  | cons c a ih =>
    intro r h
    have hc : c ≠ b := fun e => h (by simp [e])
    simp [splitB, hc, ih (fun e => h (by simp [e]))]


/-- The rounds' bond: where the line began, how far it is read, what is out. -/
structure Ba (T : Bs) (i a : Nat) (out : Bs) : Prop where
  le : a ≤ i
  top : i ≤ T.length + 1
  no : (10 : UInt8) ∉ (T.drop a).take (i - a)
  eq : out ++ bareL (splitB 10 (T.drop a)) = bareL (splitB 10 T)
  fin : i = T.length + 1 → a = T.length + 1
  len : out.length ≤ a


theorem Ba.start (T : Bs) : Ba T 0 0 [] := ⟨Nat.le_refl _, by omega, by simp, by simp, by omega, by simp⟩


theorem drop_cut {T : Bs} {a i : Nat} {c : UInt8} (hle : a ≤ i) (hc : T[i]? = some c) : T.drop a = (T.drop a).take (i - a) ++ c :: T.drop (i + 1) := by
  obtain ⟨hi, hc⟩ := List.getElem?_eq_some_iff.1 hc
  have e1 : T.drop i = c :: T.drop (i + 1) := by rw [← hc, ← List.drop_eq_getElem_cons]
  have e2 : (T.drop a).drop (i - a) = T.drop i := by rw [List.drop_drop]; congr 1; omega
  rw [← e1, ← e2, List.take_append_drop]


theorem Ba.go {T : Bs} {i a : Nat} {out : Bs} {c : UInt8} (h : Ba T i a out) (hc : T[i]? = some c) (hn : c ≠ 10) : Ba T (i + 1) a out := by
  obtain ⟨hi, hc'⟩ := List.getElem?_eq_some_iff.1 hc
  refine ⟨by have := h.le; omega, by omega, ?_, h.eq, by omega, h.len⟩
  have e : i + 1 - a = (i - a) + 1 := by have := h.le; omega
  rw [e, List.take_add_one, List.mem_append]
  rintro (h1 | h1)
  · exact h.no h1
  · rw [List.getElem?_drop, show a + (i - a) = i by have := h.le; omega, hc] at h1
    simp at h1
    exact hn h1.symm


/-- The line that ends at i. -/
theorem Ba.line {T : Bs} {i a : Nat} {out : Bs} (h : Ba T i a out) (hi : i ≤ T.length) (hc : T[i]? = some 10 ∨ i = T.length) :
    Ba T (i + 1) (i + 1) (out ++ (if skipB ((T.drop a).take (i - a)) then [] else (T.drop a).take (i - a) ++ [10])) := by
  have hle := h.le
  refine ⟨Nat.le_refl _, by omega, by simp, ?_, by omega, ?_⟩
  · rw [← h.eq]
    rcases hc with hc | hc
    · rw [drop_cut (T := T) hle hc, split_at h.no, bareL, List.append_assoc]
      have e : (T.drop a).take (i - a) ++ 10 :: T.drop (i + 1) = T.drop a := (drop_cut hle hc).symm
      rw [e]
    · have e1 : T.drop (i + 1) = [] := List.drop_eq_nil_of_le (by omega)
      have e2 : (T.drop a).take (i - a) = T.drop a := List.take_of_length_le (by simp; omega)
      have hno := h.no
      rw [e2] at hno ⊢
      rw [e1, split_none hno]
      simp [bareL, splitB, skipB]
  · have h1 := h.len
    split
    · simp; omega
    · simp; omega
end Go.Proofs.YtkiplcmndpdifaaGreatDoor


