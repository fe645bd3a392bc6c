/- The mathematics of BucketForm: decode of encode, encode of decode, cuts, a byte behind. -/
import Derived.Test.YtjcmmhonidamoaaBk
namespace Go.Proofs.Ytjcmmhonidamoaa

theorem enc_cons {o : Option Nat} {c : Cl} {r : List Cl} (h : encE o (c :: r) = 0) : folB o c.k = true ∧ writB c = true ∧ encE (some c.k) r = 0 := by
  simp only [encE] at h
  split at h
  · omega
  · rename_i h1
    split at h
    · omega
    · rename_i h2
      exact ⟨by simpa using h1, by simpa using h2, h⟩
theorem dec_of {cs : List Cl} : ∀ {o : Option Nat} {r : List Nat}, encE o cs = 0 → (∀ c ∈ cs, c.ok) → decS cs.length o (allB cs ++ r) = (0, cs, r) := by
  induction cs with
  | nil => intro o r _ _; rfl
  | cons c t ih =>
    intro o r h hok
    obtain ⟨h1, h2, h3⟩ := enc_cons h
    have e : allB (c :: t) ++ r = cellB c ++ (allB t ++ r) := by simp [allB]
    rw [e]
    simp only [List.length_cons, decS, oneC_of (hok c (by simp)) h2 h1, ih h3 (fun d hd => hok d (by simp [hd]))]
    simp
theorem dec_short {cs : List Cl} : ∀ {o : Option Nat} {k : Nat}, encE o cs = 0 → (∀ c ∈ cs, c.ok) → k < (allB cs).length → (decS cs.length o ((allB cs).take k)).1 = 3 := by
  induction cs with
  | nil => intro o k _ _ hk; simp [allB] at hk
  | cons c t ih =>
    intro o k h hok hk
    obtain ⟨h1, h2, h3⟩ := enc_cons h
    simp only [allB] at hk ⊢
    rw [take_app]
    split
    · rename_i q
      have e := oneC_short (o := o) (hok c (by simp)) h2 h1 q
      simp only [List.length_cons, decS]
      rw [if_pos (by rw [e]; omega)]
      exact e
    · rename_i q
      simp only [List.length_cons, decS, oneC_of (hok c (by simp)) h2 h1]
      have e := ih h3 (fun d hd => hok d (by simp [hd])) (k := k - (cellB c).length) (by simp only [List.length_append] at hk; omega)
      rw [if_neg (by simp), if_pos (by rw [e]; omega)]
      exact e
theorem dec_back {n : Nat} : ∀ {o : Option Nat} {l r : List Nat} {cs : List Cl}, (∀ c ∈ l, c < 256) → decS n o l = (0, cs, r) → l = allB cs ++ r ∧ encE o cs = 0 ∧ cs.length = n ∧ ∀ c ∈ cs, c.ok := by
  induction n with
  | zero =>
    intro o l r cs _ h
    simp only [decS, Prod.mk.injEq, true_and] at h
    obtain ⟨rfl, rfl⟩ := h
    exact ⟨rfl, rfl, rfl, by simp⟩
  | succ n ih =>
    intro o l r cs hl h
    obtain ⟨e, c, m, ho⟩ : ∃ a b c, oneC o l = (a, b, c) := ⟨_, _, _, rfl⟩
    simp only [decS, ho] at h
    split at h
    · simp at h; omega
    · rename_i q
      have q : e = 0 := by omega
      subst q
      obtain ⟨h1, h2, h3, h4⟩ := oneC_back hl ho
      have hm : ∀ x ∈ m, x < 256 := fun x hx => hl x (by rw [h1]; simp [hx])
      obtain ⟨e2, c2, m2, hd⟩ : ∃ a1 a2 a3, decS n (some c.k) m = (a1, a2, a3) := ⟨_, _, _, rfl⟩
      rw [hd] at h
      split at h
      · simp at h; omega
      · rename_i q2
        have q2 : e2 = 0 := by simp only at q2; omega
        subst q2
        simp only [Prod.mk.injEq, true_and] at h
        obtain ⟨rfl, rfl⟩ := h
        obtain ⟨i1, i2, i3, i4⟩ := ih hm hd
        refine ⟨by rw [h1, i1]; simp [allB], ?_, by simp [i3], fun d hd => ?_⟩
        · simp [encE, h2, h3, i2]
        · simp at hd
          rcases hd with rfl | hd
          · exact h4
          · exact i4 d hd

theorem encode_zero {l : List Cl} (h : (encode l).2 = 0) : (l = [] ∧ encode l = ([], 0)) ∨ (0 < l.length ∧ l.length ≤ 16 ∧ encE none l = 0 ∧ encode l = (Wm.enc l.length ++ allB l, 0)) := by
  unfold encode at h ⊢
  split at h
  · simp at h
  · rename_i h1
    split at h
    · rename_i h2
      have : l = [] := List.eq_nil_of_length_eq_zero h2
      subst this
      exact .inl ⟨rfl, rfl⟩
    · rename_i h2
      split at h
      · rename_i h3
        rw [if_neg h1, if_neg h2, if_pos h3]
        exact .inr ⟨by omega, by omega, h3, rfl⟩
      · rename_i h3; exact absurd h h3
theorem encode_nil {l : List Cl} (h : (encode l).2 ≠ 0) : (encode l).1 = [] := by
  unfold encode at h ⊢
  split
  · rfl
  · split
    · rfl
    · split
      · rename_i h1 h2 h3; rw [if_neg h1, if_neg h2, if_pos h3] at h; exact absurd rfl h
      · rfl
theorem form_len {l : List Cl} (h : (encode l).2 = 0) : (encode l).1.length ≤ 1024 ∧ ((encode l).1.length = 0 ↔ l.length = 0) := by
  rcases encode_zero h with ⟨rfl, e⟩ | ⟨h1, h2, _, e⟩
  · rw [e]; simp
  · rw [e]
    have a := Wm.enc_len l.length
    have b := allB_len l
    simp only [List.length_append]
    omega
theorem form_bytes {l : List Cl} (h : (encode l).2 = 0) (hok : ∀ c ∈ l, c.ok) : ∀ x ∈ (encode l).1, x < 256 := by
  rcases encode_zero h with ⟨rfl, e⟩ | ⟨h1, h2, h3, e⟩
  · rw [e]; simp
  · rw [e]
    intro x hx
    simp only [List.mem_append] at hx
    rcases hx with hx | hx
    · exact Wm.enc_lt _ (by omega) x hx
    · have : ∀ (cs : List Cl) (o : Option Nat), encE o cs = 0 → (∀ c ∈ cs, c.ok) → ∀ x ∈ allB cs, x < 256 := by
        intro cs
        induction cs with
        | nil => intro o _ _ x hx; simp [allB] at hx
        | cons c t ih =>
          intro o he hk x hx
          obtain ⟨_, q2, q3⟩ := enc_cons he
          simp only [allB, List.mem_append] at hx
          rcases hx with hx | hx
          · exact cellB_lt (hk c (by simp)) q2 x hx
          · exact ih _ q3 (fun d hd => hk d (by simp [hd])) x hx
      exact this l none h3 hok x hx
theorem form_there {l : List Cl} (h : (encode l).2 = 0) (hok : ∀ c ∈ l, c.ok) : decode (encode l).1 = (l, 0) := by
  rcases encode_zero h with ⟨rfl, e⟩ | ⟨h1, h2, h3, e⟩
  · rw [e]; rfl
  · rw [e]
    have ht := Wm.take_enc l.length (allB l) (by omega)
    rw [decode_go ht (by have := Wm.enc_len l.length; simp only [List.length_append]; omega) (by omega) h2]
    rw [List.drop_append_of_le_length (Nat.le_refl _), List.drop_length, List.nil_append]
    have hd := dec_of (r := []) h3 hok
    rw [List.append_nil] at hd
    simp [decT, hd]
theorem form_tail {l : List Cl} (h : (encode l).2 = 0) (hp : (encode l).1.length ≠ 0) (hok : ∀ c ∈ l, c.ok) : decode ((encode l).1 ++ [0]) = ([], 5) := by
  rcases encode_zero h with ⟨rfl, e⟩ | ⟨h1, h2, h3, e⟩
  · rw [e] at hp; simp at hp
  · rw [e, List.append_assoc]
    have ht := Wm.take_enc l.length (allB l ++ [0]) (by omega)
    rw [decode_go ht (by simp only [List.length_append, List.length_singleton]; omega) (by omega) h2]
    rw [List.drop_append_of_le_length (Nat.le_refl _), List.drop_length, List.nil_append]
    simp [decT, dec_of (r := [0]) h3 hok]
theorem form_cut {l : List Cl} {k : Nat} (h : (encode l).2 = 0) (h1k : 1 ≤ k) (hk : k < (encode l).1.length) (hok : ∀ c ∈ l, c.ok) : decode ((encode l).1.take k) = ([], 3) := by
  rcases encode_zero h with ⟨rfl, e⟩ | ⟨h1, h2, h3, e⟩
  · rw [e] at hk; simp at hk
  · rw [e] at hk ⊢
    rw [take_app]
    split
    · rename_i q
      exact decode_err (Wm.take_enc_short _ _ (by omega) q) (by rw [List.length_take]; omega) (by omega)
    · rename_i q
      have ht := Wm.take_enc l.length ((allB l).take (k - (Wm.enc l.length).length)) (by omega)
      rw [decode_go ht (by have := Wm.enc_len l.length; simp only [List.length_append]; omega) (by omega) h2]
      rw [List.drop_append_of_le_length (Nat.le_refl _), List.drop_length, List.nil_append]
      exact decT_fault (dec_short h3 hok (by simp only [List.length_append] at hk; omega)) (by omega)
theorem form_back {b : List Nat} (hb : ∀ c ∈ b, c < 256) (h : (decode b).2 = 0) : encode (decode b).1 = (b, 0) ∧ ∀ c ∈ (decode b).1, c.ok := by
  by_cases h0 : b.length = 0
  · have : b = [] := List.eq_nil_of_length_eq_zero h0
    subst this
    exact ⟨rfl, by simp [decode]⟩
  · rcases Wm.take_form b hb with ⟨e, ht, h34⟩ | ⟨x, n, ht, hx, hn1, hn2, hn3⟩
    · rw [decode_err ht h0 (by omega)] at h; simp at h; omega
    · by_cases hx0 : x = 0
      · subst hx0; rw [decode_none ht h0] at h; simp at h
      · by_cases h16 : 16 < x
        · rw [decode_far ht h0 h16] at h; simp at h
        · have hg := decode_go ht h0 hx0 (by omega)
          rw [hg] at h ⊢
          by_cases q1 : (decS x none (b.drop n)).1 = 0
          · by_cases q2 : (decS x none (b.drop n)).2.2.length = 0
            · rw [decT_ok q1 q2]
              obtain ⟨e, cs, r, hd⟩ : ∃ a b' c, decS x none (b.drop n) = (a, b', c) := ⟨_, _, _, rfl⟩
              rw [hd] at q1 q2 ⊢
              simp only at q1 q2 ⊢
              subst q1
              have hr : r = [] := List.eq_nil_of_length_eq_zero q2
              subst hr
              obtain ⟨i1, i2, i3, i4⟩ := dec_back (fun c hc => hb c (List.mem_of_mem_drop hc)) hd
              refine ⟨?_, i4⟩
              rw [encode_ok (by omega) (by omega) i2, pre_all, i3]
              rw [List.append_nil] at i1
              rw [← i1, hn3, List.take_append_drop]
            · rw [decT_tail q1 q2] at h; simp at h
          · rw [decT_fault rfl q1] at h; exact absurd h q1
end Go.Proofs.Ytjcmmhonidamoaa
