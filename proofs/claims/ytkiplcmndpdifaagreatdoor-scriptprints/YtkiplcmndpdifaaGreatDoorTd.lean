/- One form: what is read is printed again, but for skipped lines. -/
import Derived.Test.YtkiplcmndpdifaaGreatDoorTc

namespace Go.Proofs.YtkiplcmndpdifaaGreatDoor

open Go.RowKit



theorem nm_iff {ws r : List Bs} {x : Int} : nm ws = some (x, r) ↔ In64 x ∧ ws = Lib.itoa x :: r := by
  cases ws with
  | nil => simp [nm]
  | cons w ws =>
    have h := numP_iff w x
    simp only [nm]
    cases hn : numP w with
    | none =>
      rw [hn] at h
      simp at h ⊢
      intro h1 h2
      exact absurd h2 (h h1.1 h1.2)
    | some y =>
      rw [hn] at h
      simp at h ⊢
      constructor
      · rintro ⟨rfl, rfl⟩
        have := h.1 rfl
        exact ⟨this.1, this.2, rfl⟩
      · rintro ⟨h1, h2, rfl⟩
        exact ⟨h.2 ⟨h1, h2⟩, rfl⟩


theorem ky_iff {ws r : List Bs} {x : Nat} : ky ws = some (x, r) ↔ x < 18446744073709551616 ∧ ws = Lib.decDigits x :: r := by
  cases ws with
  | nil => simp [ky]
  | cons w ws =>
    have h := keyP_iff w x
    simp only [ky]
    cases hn : keyP w with
    | none =>
      rw [hn] at h
      simp at h ⊢
      intro h1 h2
      exact absurd h2 (h h1)
    | some y =>
      rw [hn] at h
      simp at h ⊢
      constructor
      · rintro ⟨rfl, rfl⟩
        have := h.1 rfl
        exact ⟨this.1, this.2, rfl⟩
      · rintro ⟨h1, h2, rfl⟩
        exact ⟨h.2 ⟨h1, h2⟩, rfl⟩


theorem fl_iff {ws r : List Bs} {x : Nat} : fl ws = some (x, r) ↔ x < 18446744073709551616 ∧ ws = hexRow x 16 :: r := by
  cases ws with
  | nil => simp [fl]
  | cons w ws =>
    have h := fltP_iff w x
    simp only [fl]
    cases hn : fltP w with
    | none =>
      rw [hn] at h
      simp at h ⊢
      intro h1 h2
      exact absurd h2 (h h1)
    | some y =>
      rw [hn] at h
      simp at h ⊢
      constructor
      · rintro ⟨rfl, rfl⟩
        have := h.1 rfl
        exact ⟨this.1, this.2, rfl⟩
      · rintro ⟨h1, h2, rfl⟩
        exact ⟨h.2 ⟨h1, h2⟩, rfl⟩


theorem onlyI_iff {b : Bool} {ws r : List Bs} {x : Int} : onlyI b ws = some (x, r) ↔ In64 x ∧ (b || x == 0) = true ∧ ws = onlyL b (Lib.itoa x) ++ r := by
  cases b with
  | true => simp [onlyI, onlyL, nm_iff]
  | false =>
    simp [onlyI, onlyL]
    constructor
    · rintro ⟨rfl, rfl⟩; exact ⟨by simp [In64], rfl, rfl⟩
    · rintro ⟨_, rfl, rfl⟩; exact ⟨rfl, rfl⟩


theorem onlyK_iff {b : Bool} {ws r : List Bs} {x : Nat} : onlyK b ws = some (x, r) ↔ x < 18446744073709551616 ∧ (b || x == 0) = true ∧ ws = onlyL b (Lib.decDigits x) ++ r := by
  cases b with
  | true => simp [onlyK, onlyL, ky_iff]
  | false =>
    simp [onlyK, onlyL]
    constructor
    · rintro ⟨rfl, rfl⟩; exact ⟨by omega, rfl, rfl⟩
    · rintro ⟨_, rfl, rfl⟩; exact ⟨rfl, rfl⟩


theorem onlyF_iff {b : Bool} {ws r : List Bs} {x : Nat} : onlyF b ws = some (x, r) ↔ x < 18446744073709551616 ∧ (b || x == 0) = true ∧ ws = onlyL b (hexRow x 16) ++ r := by
  cases b with
  | true => simp [onlyF, onlyL, fl_iff]
  | false =>
    simp [onlyF, onlyL]
    constructor
    · rintro ⟨rfl, rfl⟩; exact ⟨by omega, rfl, rfl⟩
    · rintro ⟨_, rfl, rfl⟩; exact ⟨rfl, rfl⟩


theorem nms_iff : ∀ (n : Nat) {ws r : List Bs} {l : List Int}, nms n ws = some (l, r) ↔ l.length = n ∧ (∀ x ∈ l, In64 x) ∧ ws = l.map Lib.itoa ++ r := by
  intro n
  induction n with
  | zero =>
    intro ws r l
    simp only [nms, Option.some.injEq, Prod.mk.injEq]
    constructor
    · rintro ⟨rfl, rfl⟩; simp
    · rintro ⟨h1, _, h3⟩
      have : l = [] := List.eq_nil_of_length_eq_zero h1
      subst this
      simp at h3
      exact ⟨rfl, h3⟩
  | succ n ih =>
    intro ws r l
    simp only [nms]
    cases hn : nm ws with
    | none =>
      simp
      intro h1 h2 h3
      cases l with
      | nil => simp at h1
      | cons x l =>
        have : nm ws = some (x, l.map Lib.itoa ++ r) := nm_iff.2 ⟨h2 x (by simp), by simpa using h3⟩
        rw [hn] at this
        simp at this
    | some y =>
      obtain ⟨y, r1⟩ := y
      have hy := nm_iff.1 hn
      dsimp only
      cases hs : nms n r1 with
      | none =>
        simp
        intro h1 h2 h3
        cases l with
        | nil => simp at h1
        | cons x l =>
          have e : r1 = l.map Lib.itoa ++ r := by
            rw [hy.2] at h3
            simp at h3
            exact h3.2
          have : nms n r1 = some (l, r) := ih.2 ⟨by simpa using h1, fun z hz => h2 z (by simp [hz]), e⟩
          rw [hs] at this
          simp at this
      | some z =>
        obtain ⟨z, r2⟩ := z
        have hz := ih.1 hs
        simp only [Option.some.injEq, Prod.mk.injEq]
        constructor
        · rintro ⟨rfl, rfl⟩
          refine ⟨by simp [hz.1], ?_, ?_⟩
          · intro q hq
            rcases List.mem_cons.1 hq with rfl | hq
            · exact hy.1
            · exact hz.2.1 q hq
          · rw [hy.2, hz.2.2]; simp
        · rintro ⟨h1, h2, h3⟩
          cases l with
          | nil => simp at h1
          | cons x l =>
            have h4 : nm ws = some (x, l.map Lib.itoa ++ r) := nm_iff.2 ⟨h2 x (by simp), by simpa using h3⟩
            rw [hn] at h4
            simp at h4
            have h5 : nms n r1 = some (l, r) := ih.2 ⟨by simpa using h1, fun q hq => h2 q (by simp [hq]), h4.2⟩
            rw [hs] at h5
            simp at h5
            exact ⟨by rw [h4.1, h5.1], h5.2⟩


theorem pl_iff {ws r : List Bs} {l : List Int} (h : nms 7 ws = some (l, r)) : (plOf l).ok ∧ ws = planA (plOf l) ++ r := by
  obtain ⟨h1, h2, h3⟩ := (nms_iff 7).1 h
  match l, h1 with
  | [a, b, c, d, e, f, g], _ =>
    simp at h2
    refine ⟨⟨h2.1, h2.2.1, h2.2.2.1, h2.2.2.2.1, h2.2.2.2.2.1, h2.2.2.2.2.2.1, h2.2.2.2.2.2.2⟩, ?_⟩
    rw [h3]; rfl


theorem opA_of {ws r : List Bs} {o : Og} (h : opA ws = some (o, r)) : o.ok ∧ ws = [Lib.itoa o.K, Lib.itoa o.N, hexRow o.X 16] ++ r := by
  unfold opA at h
  split at h
  · simp at h
  · rename_i k r1 e1
    split at h
    · simp at h
    · rename_i n r2 e2
      split at h
      · simp at h
      · rename_i x r3 e3
        simp at h
        obtain ⟨rfl, rfl⟩ := h
        have h1 := nm_iff.1 e1; have h2 := nm_iff.1 e2; have h3 := fl_iff.1 e3
        exact ⟨⟨h1.1, h2.1, h3.1⟩, by rw [h1.2, h2.2, h3.2]; rfl⟩


theorem stA_of {f : Fm} {ws r : List Bs} {s : Sp} (hf : In64 f.K) (h : stA f ws = some (s, r)) : s.ok ∧ s.K = f.K ∧ bareB f.g s = true ∧ ws = stArgs f.g s ++ r := by
  unfold stA at h
  split at h
  · simp at h
  · rename_i k r1 e1
    split at h
    · simp at h
    · rename_i n r2 e2
      split at h
      · simp at h
      · rename_i x r3 e3
        split at h
        · simp at h
        · rename_i y r4 e4
          simp at h
          obtain ⟨rfl, rfl⟩ := h
          have h1 := onlyI_iff.1 e1; have h2 := onlyI_iff.1 e2; have h3 := onlyK_iff.1 e3; have h4 := onlyF_iff.1 e4
          refine ⟨⟨hf, h1.1, h2.1, h3.1, h4.1⟩, rfl, ?_, ?_⟩
          · simp only [bareB, h1.2.1, h2.2.1, h3.2.1, h4.2.1, Bool.and_self]
          · rw [h1.2.2, h2.2.2, h3.2.2, h4.2.2]
            simp [stArgs]
end Go.Proofs.YtkiplcmndpdifaaGreatDoor


