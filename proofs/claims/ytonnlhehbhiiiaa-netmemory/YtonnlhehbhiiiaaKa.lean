/- The plain mathematics of mark: marks as bytes and back. Nothing of the program is said here. -/
import Derived.Test.YtonnlhehbhiiiaaWm

namespace Go.Proofs.Ytonnlhehbhiiiaa



/-- A mark: its batch, its attempt, its keys. -/
structure Mk where
  b : Int
  a : Int
  k : List Nat


def zeroM : Mk := ⟨0, 0, []⟩
def keysOk (l : List Nat) : Prop := ∀ x ∈ l, x < 18446744073709551616
def folN (o : Option Nat) (k : Nat) : Bool := match o with
  | none => true
  | some j => decide (j < k)
def risE : Option Nat → List Nat → Bool
  | _, [] => true
  | o, c :: r => folN o c && risE (some c) r
def risB (l : List Nat) : Bool := risE none l
def cntB (x : Int) : Bool := decide (0 ≤ x) && decide (x ≤ 1099511627776)
def soundB (m : Mk) : Bool := cntB m.b && (cntB m.a && (if m.b = 0 ∨ m.a = 0 then decide (m.b = m.a) && decide (m.k.length = 0) else decide (m.k.length ≤ 64) && risB m.k))


def bytesM (m : Mk) : List Nat := Wm.enc m.b.toNat ++ (Wm.enc m.a.toNat ++ (Wm.enc m.k.length ++ Wm.encAll m.k))
def encM (m : Mk) : List Nat × Nat := if soundB m = true then (bytesM m, 0) else ([], 1)


/-- A batch or an attempt: the error, the number, the bytes behind. -/
def cntL (l : List Nat) : Nat × Nat × List Nat :=
  if (Wm.take l).2.2 ≠ 0 then ((Wm.take l).2.2, 0, []) else if 1099511627776 < (Wm.take l).1 then (4, 0, []) else (0, (Wm.take l).1, l.drop (Wm.take l).2.1)
/-- n keys: the error, the keys, the bytes behind. -/
def keyS : Nat → List Nat → Nat × List Nat × List Nat
  | 0, l => (0, [], l)
  | n + 1, l => if (Wm.take l).2.2 ≠ 0 then ((Wm.take l).2.2, [], []) else
      if (keyS n (l.drop (Wm.take l).2.1)).1 ≠ 0 then ((keyS n (l.drop (Wm.take l).2.1)).1, [], []) else
      (0, (Wm.take l).1 :: (keyS n (l.drop (Wm.take l).2.1)).2.1, (keyS n (l.drop (Wm.take l).2.1)).2.2)
def decE (b a : Nat) (r : Nat × List Nat × List Nat) : Mk × Nat :=
  if r.1 ≠ 0 then (zeroM, r.1) else if r.2.2.length ≠ 0 then (zeroM, 5) else if soundB ⟨b, a, r.2.1⟩ = false then (zeroM, 1) else (⟨b, a, r.2.1⟩, 0)
def decK (b a : Nat) (l : List Nat) : Mk × Nat :=
  if (Wm.take l).2.2 ≠ 0 then (zeroM, (Wm.take l).2.2) else if 64 < (Wm.take l).1 then (zeroM, 6) else decE b a (keyS (Wm.take l).1 (l.drop (Wm.take l).2.1))
def decA (b : Nat) (l : List Nat) : Mk × Nat := if (cntL l).1 ≠ 0 then (zeroM, (cntL l).1) else decK b (cntL l).2.1 (cntL l).2.2
def decM (l : List Nat) : Mk × Nat := if (cntL l).1 ≠ 0 then (zeroM, (cntL l).1) else decA (cntL l).2.1 (cntL l).2.2


theorem take_cut {l : List Nat} {x n : Nat} (hl : ∀ c ∈ l, c < 256) (h : Wm.take l = (x, n, 0)) : l = Wm.enc x ++ l.drop n ∧ x < 18446744073709551616 ∧ n = (Wm.enc x).length := by
  rcases Wm.take_form l hl with ⟨e, h1, h2⟩ | ⟨y, m, h1, h2, h3, h4, h5⟩
  · rw [h] at h1; simp at h1; omega
  · rw [h] at h1
    simp at h1
    obtain ⟨rfl, rfl⟩ := h1
    refine ⟨by rw [h5, List.take_append_drop], h2, by rw [h5]; simp; omega⟩
theorem take_app {α : Type} (a b : List α) (n : Nat) : (a ++ b).take n = if n < a.length then a.take n else a ++ b.take (n - a.length) := by
  split
  · rename_i h; rw [List.take_append_of_le_length (by omega)]
  · rename_i h
    have : n = a.length + (n - a.length) := by omega
    rw [this, List.take_length_add_append]
    simp
theorem drop_enc (x : Nat) (r : List Nat) : (Wm.enc x ++ r).drop (Wm.enc x).length = r := by simp


theorem cnt_parts {x : Int} (h : cntB x = true) : 0 ≤ x ∧ x ≤ 1099511627776 := by
  simpa [cntB] using h
theorem sound_parts {m : Mk} (h : soundB m = true) : 0 ≤ m.b ∧ m.b ≤ 1099511627776 ∧ 0 ≤ m.a ∧ m.a ≤ 1099511627776 ∧ m.k.length ≤ 64 := by
  simp only [soundB, Bool.and_eq_true] at h
  obtain ⟨h1, h2, h3⟩ := h
  have c1 := cnt_parts h1
  have c2 := cnt_parts h2
  refine ⟨c1.1, c1.2, c2.1, c2.2, ?_⟩
  split at h3
  · simp at h3; rw [h3.2]; simp
  · simp at h3; exact h3.1
theorem encAll_len (l : List Nat) : (Wm.encAll l).length ≤ 10 * l.length := by
  induction l with
  | nil => simp [Wm.encAll]
  | cons x l ih => have := Wm.enc_len x; simp only [Wm.encAll, List.length_append, List.length_cons]; omega
theorem encAll_lt (l : List Nat) (h : keysOk l) : ∀ c ∈ Wm.encAll l, c < 256 := by
  induction l with
  | nil => simp [Wm.encAll]
  | cons x l ih =>
    intro c hc
    simp only [Wm.encAll, List.mem_append] at hc
    rcases hc with hc | hc
    · exact Wm.enc_lt x (h x (by simp)) c hc
    · exact ih (fun y hy => h y (by simp [hy])) c hc
theorem encAll_append (l r : List Nat) : Wm.encAll (l ++ r) = Wm.encAll l ++ Wm.encAll r := by
  induction l with
  | nil => rfl
  | cons x l ih => simp [Wm.encAll, ih]
theorem bytesM_len {m : Mk} (h : soundB m = true) : (bytesM m).length ≤ 670 := by
  have := (sound_parts h).2.2.2.2
  have h1 := Wm.enc_len m.b.toNat
  have h2 := Wm.enc_len m.a.toNat
  have h3 := Wm.enc_len m.k.length
  have h4 := encAll_len m.k
  simp only [bytesM, List.length_append]; omega
theorem bytesM_lt {m : Mk} (h : soundB m = true) (hk : keysOk m.k) : ∀ c ∈ bytesM m, c < 256 := by
  have hp := sound_parts h
  intro c hc
  simp only [bytesM, List.mem_append] at hc
  rcases hc with hc | hc | hc | hc
  · exact Wm.enc_lt _ (by omega) c hc
  · exact Wm.enc_lt _ (by omega) c hc
  · exact Wm.enc_lt _ (by omega) c hc
  · exact encAll_lt _ hk c hc


theorem cnt_of {x : Nat} (h : x ≤ 1099511627776) (r : List Nat) : cntL (Wm.enc x ++ r) = (0, x, r) := by
  simp only [cntL, Wm.take_enc x r (by omega)]
  rw [if_neg (by simp), if_neg (by omega), drop_enc]
theorem cnt_short {x n : Nat} (h : x ≤ 1099511627776) (hn : n < (Wm.enc x).length) : (cntL ((Wm.enc x).take n)).1 = 3 := by
  simp [cntL, Wm.take_enc_short x n (by omega) hn]
theorem key_of {ks : List Nat} : ∀ {r : List Nat}, keysOk ks → keyS ks.length (Wm.encAll ks ++ r) = (0, ks, r) := by
  induction ks with
  | nil => intro r _; rfl
  | cons x ks ih =>
    intro r hk
    have hx := hk x (by simp)
    have e : Wm.encAll (x :: ks) ++ r = Wm.enc x ++ (Wm.encAll ks ++ r) := by simp [Wm.encAll]
    have i1 := ih (r := r) (fun y hy => hk y (by simp [hy]))
    rw [e]
    simp only [List.length_cons, keyS, Wm.take_enc x _ hx, drop_enc, i1]
    simp
theorem key_short {ks : List Nat} : ∀ {n : Nat}, keysOk ks → n < (Wm.encAll ks).length → (keyS ks.length ((Wm.encAll ks).take n)).1 = 3 := by
  induction ks with
  | nil => intro n _ hn; simp [Wm.encAll] at hn
  | cons x ks ih =>
    intro n hk hn
    have hx := hk x (by simp)
    simp only [Wm.encAll, List.length_append] at hn
    simp only [Wm.encAll, List.length_cons]
    rw [take_app]
    split
    · rename_i h
      simp [keyS, Wm.take_enc_short x n hx h]
    · rename_i h
      have i1 := ih (n := n - (Wm.enc x).length) (fun y hy => hk y (by simp [hy])) (by omega)
      simp only [keyS, Wm.take_enc x _ hx, drop_enc, i1]
      simp
theorem cntL_err {l : List Nat} (h : (cntL l).1 = 3) : decM l = (zeroM, 3) := by simp [decM, h]


theorem formM_there {m : Mk} (h : soundB m = true) (hk : keysOk m.k) (r : List Nat) : decM (bytesM m ++ r) = if r.length ≠ 0 then (zeroM, 5) else (m, 0) := by
  have hp := sound_parts h
  have e : bytesM m ++ r = Wm.enc m.b.toNat ++ (Wm.enc m.a.toNat ++ (Wm.enc m.k.length ++ (Wm.encAll m.k ++ r))) := by simp [bytesM]
  rw [e]
  simp only [decM, cnt_of (show m.b.toNat ≤ 1099511627776 by omega), decA, cnt_of (show m.a.toNat ≤ 1099511627776 by omega), decK, Wm.take_enc m.k.length _ (show m.k.length < 18446744073709551616 by omega), drop_enc, key_of hk, decE]
  have e1 : ((m.b.toNat : Nat) : Int) = m.b := by omega
  have e2 : ((m.a.toNat : Nat) : Int) = m.a := by omega
  rw [e1, e2, if_neg (by simp), if_neg (by simp), if_neg (by simp), if_neg (by omega), if_neg (by simp)]
  split
  · rfl
  · rw [if_neg (by have : soundB ⟨m.b, m.a, m.k⟩ = true := h; simp [this])]
theorem formM_cut {m : Mk} {n : Nat} (h : soundB m = true) (hk : keysOk m.k) (hn : n < (bytesM m).length) : decM ((bytesM m).take n) = (zeroM, 3) := by
  have hp := sound_parts h
  have b1 : m.b.toNat ≤ 1099511627776 := by omega
  have b2 : m.a.toNat ≤ 1099511627776 := by omega
  have b3 : m.k.length < 18446744073709551616 := by omega
  unfold bytesM at hn ⊢
  rw [take_app]
  split
  · rename_i q; exact cntL_err (cnt_short b1 q)
  · rename_i q1
    simp only [decM, cnt_of b1]
    rw [if_neg (by simp), take_app]
    split
    · rename_i q; simp [decA, cnt_short b2 q]
    · rename_i q2
      simp only [decA, cnt_of b2]
      rw [if_neg (by simp), take_app]
      split
      · rename_i q; simp [decK, Wm.take_enc_short _ _ b3 q]
      · rename_i q3
        simp only [decK, Wm.take_enc _ _ b3, drop_enc]
        rw [if_neg (by simp), if_neg (by omega)]
        simp only [decE, key_short hk (show n - (Wm.enc m.b.toNat).length - (Wm.enc m.a.toNat).length - (Wm.enc m.k.length).length < (Wm.encAll m.k).length by simp only [List.length_append] at hn; omega)]
        simp


theorem cnt_back {l : List Nat} (hl : ∀ c ∈ l, c < 256) (h : (cntL l).1 = 0) : l = Wm.enc (cntL l).2.1 ++ (cntL l).2.2 ∧ (cntL l).2.1 ≤ 1099511627776 := by
  obtain ⟨x, n, e, ht⟩ : ∃ x n e, Wm.take l = (x, n, e) := ⟨_, _, _, rfl⟩
  simp only [cntL, ht] at h ⊢
  by_cases h0 : e = 0
  · subst h0
    rw [if_neg (by simp)] at h ⊢
    by_cases h1 : 1099511627776 < x
    · rw [if_pos h1] at h; simp at h
    · rw [if_neg h1] at h ⊢
      exact ⟨(take_cut hl ht).1, by show x ≤ _; omega⟩
  · rw [if_pos h0] at h; simp at h; omega
theorem key_back {n : Nat} : ∀ {l : List Nat}, (∀ c ∈ l, c < 256) → (keyS n l).1 = 0 → l = Wm.encAll (keyS n l).2.1 ++ (keyS n l).2.2 ∧ (keyS n l).2.1.length = n ∧ keysOk (keyS n l).2.1 := by
  induction n with
  | zero => intro l hl _; simp [keyS, Wm.encAll, keysOk]
  | succ n ih =>
    intro l hl h
    obtain ⟨x, q, e, ht⟩ : ∃ x n e, Wm.take l = (x, n, e) := ⟨_, _, _, rfl⟩
    simp only [keyS, ht] at h ⊢
    by_cases h0 : e = 0
    · subst h0
      rw [if_neg (by simp)] at h ⊢
      by_cases h1 : (keyS n (l.drop q)).1 = 0
      · rw [if_neg (by simpa using h1)] at h ⊢
        obtain ⟨i1, i2, i3⟩ := ih (l := l.drop q) (fun c hc => hl c (List.mem_of_mem_drop hc)) h1
        obtain ⟨t1, t2, _⟩ := take_cut hl ht
        refine ⟨?_, by simp [i2], ?_⟩
        · show l = Wm.enc x ++ Wm.encAll (keyS n (l.drop q)).2.1 ++ (keyS n (l.drop q)).2.2
          rw [List.append_assoc, ← i1]; exact t1
        · intro y hy
          rcases List.mem_cons.1 hy with rfl | hy
          · exact t2
          · exact i3 y hy
      · rw [if_pos h1] at h; exact absurd h h1
    · rw [if_pos h0] at h; exact absurd h h0
theorem formM_back {l : List Nat} (hl : ∀ c ∈ l, c < 256) (h : (decM l).2 = 0) : soundB (decM l).1 = true ∧ encM (decM l).1 = (l, 0) ∧ keysOk (decM l).1.k := by
  unfold decM at h ⊢
  by_cases h1 : (cntL l).1 = 0
  · rw [if_neg (by simpa using h1)] at h ⊢
    obtain ⟨c1, c2⟩ := cnt_back hl h1
    generalize (cntL l).2.1 = B at h c1 c2 ⊢
    generalize (cntL l).2.2 = l1 at h c1 ⊢
    have hl1 : ∀ c ∈ l1, c < 256 := fun c hc => hl c (by rw [c1]; simp [hc])
    unfold decA at h ⊢
    by_cases h2 : (cntL l1).1 = 0
    · rw [if_neg (by simpa using h2)] at h ⊢
      obtain ⟨d1, d2⟩ := cnt_back hl1 h2
      generalize (cntL l1).2.1 = A at h d1 d2 ⊢
      generalize (cntL l1).2.2 = l2 at h d1 ⊢
      have hl2 : ∀ c ∈ l2, c < 256 := fun c hc => hl1 c (by rw [d1]; simp [hc])
      obtain ⟨x, q, e, ht⟩ : ∃ x n e, Wm.take l2 = (x, n, e) := ⟨_, _, _, rfl⟩
      simp only [decK, ht] at h ⊢
      by_cases h3 : e = 0
      · subst h3
        rw [if_neg (by simp)] at h ⊢
        obtain ⟨t1, t2, _⟩ := take_cut hl2 ht
        by_cases h4 : 64 < x
        · rw [if_pos h4] at h; simp at h
        · rw [if_neg h4] at h ⊢
          unfold decE at h ⊢
          by_cases h5 : (keyS x (l2.drop q)).1 = 0
          · rw [if_neg (by simpa using h5)] at h ⊢
            obtain ⟨k1, k2, k3⟩ := key_back (l := l2.drop q) (fun c hc => hl2 c (List.mem_of_mem_drop hc)) h5
            generalize (keyS x (l2.drop q)).2.1 = ks at h k1 k2 k3 ⊢
            generalize (keyS x (l2.drop q)).2.2 = rest at h k1 ⊢
            by_cases h6 : rest.length = 0
            · rw [if_neg (by simpa using h6)] at h ⊢
              have hr : rest = [] := List.eq_nil_of_length_eq_zero h6
              cases h7 : soundB ⟨B, A, ks⟩
              · rw [if_pos h7] at h; simp at h
              · rw [if_neg (by simp)]
                refine ⟨h7, ?_, k3⟩
                unfold encM
                rw [if_pos h7]
                have e1 : bytesM ⟨B, A, ks⟩ = Wm.enc B ++ (Wm.enc A ++ (Wm.enc ks.length ++ Wm.encAll ks)) := by simp [bytesM]
                rw [e1, k2]
                have e2 : l2.drop q = Wm.encAll ks := by rw [k1, hr]; simp
                rw [← e2, ← t1, ← d1, ← c1]
            · rw [if_pos h6] at h; simp at h
          · rw [if_pos h5] at h; exact absurd h h5
      · rw [if_pos h3] at h; exact absurd h h3
    · rw [if_pos h2] at h; exact absurd h h2
  · rw [if_pos h1] at h; exact absurd h h1
theorem decM_bad {l : List Nat} (h : (decM l).2 ≠ 0) : (decM l).1 = zeroM := by
  unfold decM decA decK decE at *
  repeat' split
  all_goals first | rfl | skip
  all_goals simp_all
end Go.Proofs.Ytonnlhehbhiiiaa


