/- The way back: what is printed is read again. -/
import Derived.Test.YtkiplcmndpdifaaGreatDoorTe

import Derived.Test.YtkiplcmndpdifaaGreatDoorTf

namespace Go.Proofs.YtkiplcmndpdifaaGreatDoor

open Go.RowKit



theorem mem_dec : ∀ (n : Nat) (c : UInt8), c ∈ Lib.decDigits n → 48 ≤ c.toNat ∧ c.toNat ≤ 57 := by
  intro n
  induction n using Nat.strongRecOn with
  | _ n ih =>
    intro c hc
    by_cases h : n < 10
    · rw [dec_one h] at hc
      rw [List.mem_singleton.1 hc, byte_nat h]
      omega
    · have e : n = n / 10 * 10 + n % 10 := by omega
      rw [e, dec_big (by omega) (by omega)] at hc
      rcases List.mem_append.1 hc with hc | hc
      · exact ih (n / 10) (by omega) c hc
      · rw [List.mem_singleton.1 hc, byte_nat (by omega)]
        omega


/-- No blank, no line's end. -/
def Wd (w : Bs) : Prop := (32 : UInt8) ∉ w ∧ (10 : UInt8) ∉ w


theorem wd_dec (n : Nat) : Wd (Lib.decDigits n) := by
  constructor
  · intro h; have := mem_dec n _ h; simp at this
  · intro h; have := mem_dec n _ h; simp at this


theorem wd_itoa (x : Int) : Wd (Lib.itoa x) := by
  unfold Lib.itoa
  split
  · have h := wd_dec x.natAbs
    refine ⟨?_, ?_⟩
    · intro hm; rcases List.mem_cons.1 hm with hm | hm
      · simp at hm
      · exact h.1 hm
    · intro hm; rcases List.mem_cons.1 hm with hm | hm
      · simp at hm
      · exact h.2 hm
  · exact wd_dec _


theorem wd_hexd : ∀ d, d < 16 → hexd d ≠ 32 ∧ hexd d ≠ 10 := by decide +kernel


theorem wd_hex (u m : Nat) : Wd (hexRow u m) := by
  have key : ∀ c ∈ hexRow u m, c ≠ 32 ∧ c ≠ 10 := by
    intro c hc
    obtain ⟨j, hj, rfl⟩ := List.getElem_of_mem hc
    rw [hexRow_get]
    exact wd_hexd _ (Nat.mod_lt _ (by omega))
  exact ⟨fun h => (key _ h).1 rfl, fun h => (key _ h).2 rfl⟩


theorem wd_form : ∀ f ∈ formL, ((32 : UInt8) ∉ f.w ∧ (10 : UInt8) ∉ f.w) ∧ f.w ≠ opW ∧ formW f.w = some f ∧ skipB f.w = false := by decide +kernel


/-- A line without its end. -/
def ln (w : Bs) (args : List Bs) : Bs := w ++ joinB 32 args


theorem ln_split {w : Bs} {args : List Bs} (hw : Wd w) (ha : ∀ x ∈ args, Wd x) : splitB 32 (ln w args) = w :: args :=
  split_join 32 w args fun x hx => by
    rcases List.mem_cons.1 hx with rfl | hx
    · exact hw.1
    · exact (ha x hx).1


theorem join_no : ∀ {args : List Bs}, (∀ x ∈ args, Wd x) → (10 : UInt8) ∉ joinB 32 args := by
  intro args
  induction args with
  | nil => intro _ h; simp [joinB] at h
  | cons a l ih =>
    intro ha h
    simp only [joinB, List.mem_cons, List.mem_append] at h
    rcases h with h | h | h
    · simp at h
    · exact (ha a (by simp)).2 h
    · exact ih (fun x hx => ha x (by simp [hx])) h


theorem ln_no {w : Bs} {args : List Bs} (hw : Wd w) (ha : ∀ x ∈ args, Wd x) : (10 : UInt8) ∉ ln w args := by
  unfold ln
  intro h
  rcases List.mem_append.1 h with h | h
  · exact hw.2 h
  · exact join_no ha h


theorem skip_ln {w : Bs} {args : List Bs} (h : skipB w = false) : skipB (ln w args) = false := by
  cases w with
  | nil => simp [skipB] at h
  | cons c l => simpa [ln, skipB] using h


theorem opA_mk {o : Og} (h : o.ok) : opA [Lib.itoa o.K, Lib.itoa o.N, hexRow o.X 16] = some (o, []) := by
  unfold opA
  rw [nm_iff.2 ⟨h.1, rfl⟩]
  dsimp only
  rw [nm_iff.2 ⟨h.2.1, rfl⟩]
  dsimp only
  rw [fl_iff.2 ⟨h.2.2, rfl⟩]


theorem stA_mk {f : Fm} {s : Sp} (h : s.ok) (hK : s.K = f.K) (hb : bareB f.g s = true) : stA f (stArgs f.g s) = some (s, []) := by
  simp only [bareB, Bool.and_eq_true] at hb
  unfold stA
  rw [onlyI_iff.2 ⟨h.2.1, hb.1.1.1, by unfold stArgs; simp only [List.append_assoc]; rfl⟩]
  dsimp only
  rw [onlyI_iff.2 ⟨h.2.2.1, hb.1.1.2, rfl⟩]
  dsimp only
  rw [onlyK_iff.2 ⟨h.2.2.2.1, hb.1.2, rfl⟩]
  dsimp only
  rw [onlyF_iff.2 ⟨h.2.2.2.2, hb.2, (List.append_nil _).symm⟩]
  rw [← hK]


theorem form_of {s : Sp} (h : stE s = 0) : ∃ f, f ∈ formL ∧ formK s.K = some f ∧ f.K = s.K ∧ bareB f.g s = true := by
  unfold stE at h
  cases hf : formK s.K with
  | none => rw [hf] at h; simp at h
  | some f =>
    rw [hf] at h
    refine ⟨f, List.mem_of_find?_eq_some hf, rfl, by simpa using List.find?_some hf, ?_⟩
    cases hb : bareB f.g s with
    | true => rfl
    | false => simp [hb] at h
end Go.Proofs.YtkiplcmndpdifaaGreatDoor


