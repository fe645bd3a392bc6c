/- One form: a text that is read, whole. -/
import Derived.Test.YtkiplcmndpdifaaGreatDoorTd

namespace Go.Proofs.YtkiplcmndpdifaaGreatDoor

open Go.RowKit



theorem formW_of {w : Bs} {f : Fm} (h : formW w = some f) : f.w = w ∧ formK f.K = some f ∧ In64 f.K := by
  have h1 := List.find?_some h
  have h2 : f ∈ formL := List.mem_of_find?_eq_some h
  have key : ∀ f ∈ formL, formK f.K = some f ∧ (0 ≤ f.K ∧ f.K ≤ 11) := by decide +kernel
  have h3 := key f h2
  refine ⟨by simpa using h1, h3.1, ?_⟩
  unfold In64
  omega


theorem formW_K {w : Bs} {f : Fm} (h : formW w = some f) : formD f.K = f := by
  unfold formD
  rw [(formW_of h).2.1]
  rfl


/-- What has been read, as a text. -/
def bodyS (s : Rs) : Bs := if s.pd then bodyT s.p s.ops s.sts else []


/-- What holds of all that has been read. -/
structure RsOk (s : Rs) : Prop where
  none : s.pd = false → s.ops = [] ∧ s.sts = []
  p : s.p.ok
  ops : ∀ x ∈ s.ops, x.ok
  sts : ∀ x ∈ s.sts, x.ok
  es : stEs s.sts = 0
  len : s.sts.length ≤ 4096


theorem lineR_form {s s' : Rs} {w : Bs} {ws : List Bs} (hs : RsOk s) (h : lineR s w ws = .ok s') : RsOk s' ∧ s'.pd = true ∧ bodyS s' = bodyS s ++ lineT w ws := by
  unfold lineR at h
  by_cases hp : s.pd = false
  · rw [if_pos hp] at h
    by_cases hw : w = planW
    · rw [if_neg (by simp [hw])] at h
      cases hn : nms 7 ws with
      | none => rw [hn] at h; simp at h
      | some z =>
        obtain ⟨l, r⟩ := z
        rw [hn] at h
        have hz := pl_iff hn
        by_cases hr : r = []
        · simp [hr] at h
          subst h
          obtain ⟨h1, h2⟩ := hs.none hp
          refine ⟨⟨fun h => by simp at h, hz.1, hs.ops, hs.sts, hs.es, hs.len⟩, rfl, ?_⟩
          rw [hr, List.append_nil] at hz
          simp [bodyS, hp, bodyT, h1, h2, planT, hw, hz.2]
        · simp [hr] at h
    · rw [if_pos hw] at h; simp at h
  · rw [if_neg hp] at h
    have hpt : s.pd = true := by simpa using hp
    by_cases hw : w = opW ∧ s.sts = []
    · rw [if_pos hw] at h
      cases hn : opA ws with
      | none => rw [hn] at h; simp at h
      | some z =>
        obtain ⟨o, r⟩ := z
        rw [hn] at h
        have hz := opA_of hn
        by_cases hr : r = []
        · simp [hr] at h
          subst h
          refine ⟨⟨fun h => absurd h (by simp [hpt]), hs.p, ?_, hs.sts, hs.es, hs.len⟩, hpt, ?_⟩
          · intro x hx
            rcases List.mem_append.1 hx with hx | hx
            · exact hs.ops x hx
            · simp at hx; subst hx; exact hz.1
          · rw [hr, List.append_nil] at hz
            simp [bodyS, hpt, bodyT, hw.1, hw.2, opT, hz.2]
        · simp [hr] at h
    · rw [if_neg hw] at h
      by_cases hl : s.sts.length = 4096
      · rw [if_pos hl] at h; simp at h
      · rw [if_neg hl] at h
        cases hf : formW w with
        | none => rw [hf] at h; simp at h
        | some f =>
          rw [hf] at h
          dsimp only at h
          have hF := formW_of hf
          cases hn : stA f ws with
          | none => rw [hn] at h; simp at h
          | some z =>
            obtain ⟨t, r⟩ := z
            rw [hn] at h
            have hz := stA_of hF.2.2 hn
            by_cases hr : r = []
            · simp [hr] at h
              subst h
              have hE : stE t = 0 := by
                unfold stE
                rw [hz.2.1, hF.2.1]
                simp [hz.2.2.1]
              refine ⟨⟨fun h => absurd h (by simp [hpt]), hs.p, hs.ops, ?_, ?_, ?_⟩, hpt, ?_⟩
              · intro x hx
                rcases List.mem_append.1 hx with hx | hx
                · exact hs.sts x hx
                · simp at hx; subst hx; exact hz.1
              · show stEs (s.sts ++ [t]) = 0
                rw [stEs_snoc _ _ hs.es, hE]
              · have := hs.len
                simp; omega
              · rw [hr, List.append_nil] at hz
                have e : stT t = lineT w ws := by
                  unfold stT
                  rw [hz.2.1, formW_K hf, hF.1, ← hz.2.2.2]
                simp [bodyS, hpt, bodyT, e]
            · simp [hr] at h


/-- A text's lines without the skipped ones, each line ended. -/
def bareL : List Bs → Bs
  | [] => []
  | l :: r => (if skipB l then [] else l ++ [10]) ++ bareL r


theorem line_text {l w : Bs} {ws : List Bs} (h : splitB 32 l = w :: ws) : lineT w ws = l ++ [10] := by
  obtain ⟨w', ws', h1, h2, _⟩ := split_cons 32 l
  rw [h] at h1
  simp at h1
  rw [h2, h1.1, h1.2]
  rfl


theorem readL_form : ∀ (ls : List Bs) (n : Nat) (s s' : Rs), RsOk s → readL n ls s = .ok s' → RsOk s' ∧ bodyS s' = bodyS s ++ bareL ls := by
  intro ls
  induction ls with
  | nil =>
    intro n s s' hs h
    simp [readL] at h
    subst h
    exact ⟨hs, by simp [bareL]⟩
  | cons l r ih =>
    intro n s s' hs h
    simp only [readL] at h
    cases hr : readLine s l with
    | error e => rw [hr] at h; simp at h
    | ok s1 =>
      rw [hr] at h
      dsimp only at h
      unfold readLine at hr
      by_cases hk : skipB l = true
      · rw [if_pos hk] at hr
        simp at hr
        subst hr
        have := ih _ _ _ hs h
        exact ⟨this.1, by rw [this.2]; simp [bareL, hk]⟩
      · rw [if_neg hk] at hr
        cases hsp : splitB 32 l with
        | nil =>
          obtain ⟨w', ws', h1, _⟩ := split_cons 32 l
          rw [hsp] at h1
          simp at h1
        | cons w ws =>
          rw [hsp] at hr
          dsimp only at hr
          have h1 := lineR_form hs hr
          have h2 := ih _ _ _ h1.1 h
          refine ⟨h2.1, ?_⟩
          rw [h2.2, h1.2.2, line_text hsp]
          simp [bareL, hk]


theorem zero_ok : RsOk Rs.zero := ⟨fun _ => ⟨rfl, rfl⟩, by simp [Rs.zero, Pl.zero, Pl.ok, In64], by simp [Rs.zero], by simp [Rs.zero], rfl, by simp [Rs.zero]⟩


/-- What is read is printed again, but for skipped lines. -/
theorem parse_form {t : Bs} {s : Rs} (h : parseT t = .ok s) : RsOk s ∧ bodyT s.p s.ops s.sts = bareL (splitB 10 t) ∧ t.length ≤ 262144 := by
  unfold parseT at h
  by_cases hl : 262144 < t.length
  · rw [if_pos hl] at h; simp at h
  · rw [if_neg hl] at h
    cases hr : readL 1 (splitB 10 t) Rs.zero with
    | error e => rw [hr] at h; simp at h
    | ok s1 =>
      rw [hr] at h
      dsimp only at h
      by_cases hp : s1.pd = false
      · rw [if_pos hp] at h; simp at h
      · rw [if_neg hp] at h
        simp at h
        subst h
        have h1 := readL_form _ _ _ _ zero_ok hr
        refine ⟨h1.1, ?_, by omega⟩
        have h2 := h1.2
        simpa [bodyS, hp, Rs.zero] using h2


/-- What is refused. -/
theorem parse_bad {t : Bs} {n : Nat} {e : Int} (h : parseT t = .error (n, e)) : e ≠ 0 ∧ (n = 0 ↔ e = 6) ∧ (e = 6 ↔ 262144 < t.length) := by
  have key : ∀ (ls : List Bs) (m : Nat) (s : Rs) (n : Nat) (e : Int), readL m ls s = .error (n, e) → m ≤ n ∧ (e = 210 ∨ e = 211 ∨ e = 212) := by
    intro ls
    induction ls with
    | nil => intro m s n e h; simp [readL] at h
    | cons l r ih =>
      intro m s n e h
      simp only [readL] at h
      cases hr : readLine s l with
      | ok s1 =>
        rw [hr] at h
        have := ih _ _ _ _ h
        exact ⟨by omega, this.2⟩
      | error f =>
        rw [hr] at h
        simp at h
        obtain ⟨rfl, rfl⟩ := h
        refine ⟨Nat.le_refl _, ?_⟩
        unfold readLine at hr
        split at hr
        · simp at hr
        · split at hr
          · simp at hr
          · unfold lineR at hr
            repeat' split at hr
            all_goals first
              | (simp at hr; done)
              | (simp at hr; omega)
  unfold parseT at h
  by_cases hl : 262144 < t.length
  · rw [if_pos hl] at h
    simp at h
    obtain ⟨rfl, rfl⟩ := h
    simp [hl]
  · rw [if_neg hl] at h
    cases hr : readL 1 (splitB 10 t) Rs.zero with
    | error x =>
      rw [hr] at h
      simp at h
      subst h
      have := key _ _ _ _ _ hr
      refine ⟨by omega, ?_, ?_⟩ <;> constructor <;> intro <;> omega
    | ok s1 =>
      rw [hr] at h
      dsimp only at h
      split at h
      · simp at h
        obtain ⟨rfl, rfl⟩ := h
        obtain ⟨w, ws, h1, _⟩ := split_cons 10 t
        rw [h1]
        simp [hl]
      · simp at h
end Go.Proofs.YtkiplcmndpdifaaGreatDoor


