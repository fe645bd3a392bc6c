/- The mathematics of BucketBook: cells in order beside the same cells in another order. -/
import Derived.Test.YtjcmmhonidamoaaCa
namespace Go.Proofs.Ytjcmmhonidamoaa
open Go.RowKit

theorem fnd_mem {cs : List Cl} {c : Cl} {o : Option Nat} (h : ordE o cs = true) (hc : c ∈ cs) : cs[fndF cs c.k]? = some c := by
  induction cs generalizing o with
  | nil => simp at hc
  | cons d r ih =>
    simp only [ordE, Bool.and_eq_true] at h
    rcases List.mem_cons.1 hc with rfl | hc
    · have e : fndF (c :: r) c.k = 0 := if_neg (by omega)
      rw [e]; rfl
    · have e : fndF (d :: r) c.k = fndF r c.k + 1 := if_pos (ord_above h.2 c hc)
      rw [e, List.getElem?_cons_succ]
      exact ih h.2 hc
theorem mem_isK {cs : List Cl} {c : Cl} (h : ordB cs = true) (hc : c ∈ cs) : isK cs (fndF cs c.k) c.k = true := by
  simp [isK, fnd_mem h hc]
theorem isK_mem {cs : List Cl} {i k : Nat} (h : isK cs i k = true) : ∃ c ∈ cs, c.k = k := by
  unfold isK at h
  split at h
  · simp at h
  · rename_i c hc
    exact ⟨c, List.mem_of_getElem? hc, by simpa using h⟩
theorem ord_mono {r : List Cl} {j : Nat} {o : Option Nat} (h : ordE (some j) r = true) (hm : ∀ x, j < x → folB o x = true) : ordE o r = true := by
  cases r with
  | nil => rfl
  | cons e s =>
    simp only [ordE, folB, Bool.and_eq_true, decide_eq_true_eq] at h ⊢
    exact ⟨hm _ h.1, h.2⟩
theorem fol_lt {o : Option Nat} {a b : Nat} (h : folB o a = true) (hab : a < b) : folB o b = true := by
  cases o with
  | none => rfl
  | some j => simp [folB] at h ⊢; omega
theorem ord_filter {cs : List Cl} {p : Cl → Bool} {o : Option Nat} (h : ordE o cs = true) : ordE o (cs.filter p) = true := by
  induction cs generalizing o with
  | nil => rfl
  | cons c r ih =>
    simp only [ordE, Bool.and_eq_true] at h
    rw [List.filter_cons]
    split
    · simp only [ordE, Bool.and_eq_true]; exact ⟨h.1, ih h.2⟩
    · exact ord_mono (ih h.2) (fun x hx => fol_lt h.1 hx)
theorem ord_new {cs : List Cl} {c : Cl} {o : Option Nat} (h : ordE o cs = true) (hf : folB o c.k = true) (hn : isK cs (fndF cs c.k) c.k = false) : ordE o (cs.take (fndF cs c.k) ++ ([c] ++ cs.drop (fndF cs c.k))) = true := by
  induction cs generalizing o with
  | nil => simp [fndF, ordE, hf]
  | cons d r ih =>
    simp only [ordE, Bool.and_eq_true] at h
    by_cases hd : d.k < c.k
    · have e : fndF (d :: r) c.k = fndF r c.k + 1 := if_pos hd
      rw [e] at hn ⊢
      have hn' : isK r (fndF r c.k) c.k = false := by simpa [isK] using hn
      have := ih (o := some d.k) h.2 (by simp [folB, hd]) hn'
      simp only [List.take_succ_cons, List.drop_succ_cons, List.cons_append, ordE, Bool.and_eq_true]
      exact ⟨h.1, this⟩
    · have e : fndF (d :: r) c.k = 0 := if_neg hd
      rw [e] at hn ⊢
      have : d.k ≠ c.k := by simpa [isK] using hn
      have h1 : folB (some c.k) d.k = true := by simp [folB]; omega
      simp only [List.take_zero, List.nil_append, List.drop_zero, List.singleton_append, ordE, Bool.and_eq_true]
      exact ⟨hf, h1, h.2⟩
theorem ord_there {cs : List Cl} {c : Cl} {o : Option Nat} (h : ordE o cs = true) (hn : isK cs (fndF cs c.k) c.k = true) : ordE o (cs.take (fndF cs c.k) ++ ([c] ++ cs.drop (fndF cs c.k + 1))) = true := by
  induction cs generalizing o with
  | nil => simp [fndF, isK] at hn
  | cons d r ih =>
    simp only [ordE, Bool.and_eq_true] at h
    by_cases hd : d.k < c.k
    · have e : fndF (d :: r) c.k = fndF r c.k + 1 := if_pos hd
      rw [e] at hn ⊢
      have hn' : isK r (fndF r c.k) c.k = true := by simpa [isK] using hn
      have := ih (o := some d.k) h.2 hn'
      simp only [List.take_succ_cons, List.drop_succ_cons, List.cons_append, ordE, Bool.and_eq_true]
      exact ⟨h.1, this⟩
    · have e : fndF (d :: r) c.k = 0 := if_neg hd
      rw [e] at hn ⊢
      have : d.k = c.k := by simpa [isK] using hn
      simp only [List.take_zero, List.nil_append, List.drop_succ_cons, List.drop_zero, List.singleton_append, ordE, Bool.and_eq_true, ← this]
      exact h
theorem ord_adj {cs : List Cl} {o : Option Nat} (h : ordE o cs = true) (i : Nat) (hi : i + 1 < cs.length) : cs[i].k < cs[i + 1].k := by
  induction cs generalizing o i with
  | nil => simp at hi
  | cons c r ih =>
    simp only [ordE, Bool.and_eq_true] at h
    cases i with
    | zero =>
      have hr : 0 < r.length := by simpa using hi
      have := ord_above h.2 r[0] (List.getElem_mem _)
      simpa using this
    | succ i => exact ih h.2 i (by simpa using hi)

/-- The cells cs in order, the same in another order ls. -/
structure Bok (cs ls : List Cl) : Prop where
  ord : ordB cs = true
  len : cs.length ≤ 16
  perm : ls.Perm cs

theorem Bok.nil : Bok [] [] := ⟨rfl, by simp, List.Perm.refl _⟩
theorem Bok.size {cs ls : List Cl} (h : Bok cs ls) : ls.length = cs.length := h.perm.length_eq
theorem perm_at {l : List Cl} {k : Nat} (hk : k < l.length) : l.Perm (l[k] :: l.eraseIdx k) := by
  have e : l = l.take k ++ l[k] :: l.drop (k + 1) := by
    rw [← List.drop_eq_getElem_cons hk, List.take_append_drop]
  have e2 : l.eraseIdx k = l.take k ++ l.drop (k + 1) := List.eraseIdx_eq_take_drop_succ l k
  rw [e2]
  have := List.perm_middle (a := l[k]) (l₁ := l.take k) (l₂ := l.drop (k + 1))
  rw [← e] at this
  exact this
theorem perm_set {l : List Cl} {k : Nat} (hk : k < l.length) (c : Cl) : (l.set k c).Perm (c :: l.eraseIdx k) := by
  have := perm_at (l := l.set k c) (k := k) (by simpa using hk)
  rw [List.getElem_set_self, List.eraseIdx_set_eq] at this
  exact this
theorem perm_gap {l : List Cl} {k : Nat} (hk : k < l.length) : l.Perm (l[k] :: (l.take k ++ l.drop (k + 1))) := by
  have := perm_at hk
  rwa [List.eraseIdx_eq_take_drop_succ] at this
/-- A place filled with the last one, and the last one cut off. -/
theorem perm_swap {l : List Cl} {k : Nat} (hk : k < l.length) : ((l.set k (l[l.length - 1]'(by omega))).take (l.length - 1)).Perm (l.eraseIdx k) := by
  obtain ⟨a, z, rfl⟩ : ∃ a z, l = a ++ [z] := ⟨l.dropLast, l.getLast (by intro h; rw [h] at hk; simp at hk), (List.dropLast_concat_getLast _).symm⟩
  have hl : (a ++ [z]).length - 1 = a.length := by simp
  have hz : ((a ++ [z])[(a ++ [z]).length - 1]'(by simp)) = z := by simp
  rw [hz, hl]
  by_cases h : k < a.length
  · rw [List.set_append_left _ _ h, List.take_append_of_le_length (by simp), List.take_of_length_le (by simp), List.eraseIdx_append_of_lt_length h]
    exact (perm_set h z).trans (List.perm_append_comm (l₁ := [z]) (l₂ := a.eraseIdx k))
  · have : k = a.length := by simp at hk; omega
    subst this
    rw [List.set_append_right _ _ (Nat.le_refl _), List.eraseIdx_append_of_length_le (Nat.le_refl _)]
    simp

theorem Bok.keyAt {cs ls : List Cl} (h : Bok cs ls) {k : Nat} (hk : k < ls.length) : isK cs (fndF cs ls[k].k) ls[k].k = true ∧ cs[fndF cs ls[k].k]? = some ls[k] := by
  have hm : ls[k] ∈ cs := h.perm.mem_iff.1 (List.getElem_mem _)
  exact ⟨mem_isK h.ord hm, fnd_mem h.ord hm⟩
theorem Bok.keyNo {cs ls : List Cl} (h : Bok cs ls) {x : Nat} (hx : ∀ c ∈ ls, c.k ≠ x) : isK cs (fndF cs x) x = false := by
  cases hi : isK cs (fndF cs x) x
  · rfl
  · obtain ⟨c, hc, he⟩ := isK_mem hi
    exact absurd he (hx c (h.perm.mem_iff.2 hc))
/-- Drop of a key that is there. -/
theorem Bok.drop {cs ls : List Cl} (h : Bok cs ls) {k : Nat} (hk : k < ls.length) :
    dropR cs ls[k].k = ((dropR cs ls[k].k).1, 0) ∧ Bok (dropR cs ls[k].k).1 ((ls.set k (ls[ls.length - 1]'(by omega))).take (ls.length - 1)) := by
  obtain ⟨h1, h2⟩ := h.keyAt hk
  have hf := isK_lt h1
  have hcs : cs[fndF cs ls[k].k] = ls[k] := by rw [List.getElem?_eq_getElem hf] at h2; exact Option.some.inj h2
  have e : dropR cs ls[k].k = (cs.take (fndF cs ls[k].k) ++ cs.drop (fndF cs ls[k].k + 1), 0) := by unfold dropR; rw [if_neg (by simp [h.ord]), if_pos h1]
  have eo : ordB (dropR cs ls[k].k).1 = true := by rw [dropR_filter h.ord]; exact ord_filter h.ord
  refine ⟨by rw [e], eo, ?_, ?_⟩
  · rw [e]; simp; have := h.len; omega
  · rw [e]
    refine (perm_swap hk).trans ?_
    have p1 := perm_at hk
    have p2 := perm_gap hf
    rw [hcs] at p2
    exact List.Perm.cons_inv (p1.symm.trans (h.perm.trans p2))
theorem Bok.dropNo {cs ls : List Cl} (h : Bok cs ls) {x : Nat} (hx : ∀ c ∈ ls, c.k ≠ x) : dropR cs x = (cs, 0) := by
  unfold dropR; rw [if_neg (by simp [h.ord]), if_neg (by simp [h.keyNo hx])]
/-- Put of a key that is there. -/
theorem Bok.put {cs ls : List Cl} (h : Bok cs ls) {k : Nat} (hk : k < ls.length) {c : Cl} (hc : ls[k].k = c.k) :
    putR cs c = ((putR cs c).1, 0) ∧ Bok (putR cs c).1 (ls.set k c) := by
  obtain ⟨h1, h2⟩ := h.keyAt hk
  rw [hc] at h1 h2
  have hf := isK_lt h1
  have hcs : cs[fndF cs c.k] = ls[k] := by rw [List.getElem?_eq_getElem hf] at h2; exact Option.some.inj h2
  have e : putR cs c = (cs.take (fndF cs c.k) ++ ([c] ++ cs.drop (fndF cs c.k + 1)), 0) := by unfold putR; rw [if_neg (by simp [h.ord]), if_pos h1]
  refine ⟨by rw [e], by rw [e]; exact ord_there h.ord h1, ?_, ?_⟩
  · rw [e]; simp; have := h.len; omega
  · rw [e]
    refine (perm_set hk c).trans ?_
    have p1 := perm_at hk
    have p2 := perm_gap hf
    rw [hcs] at p2
    exact ((List.Perm.cons_inv (p1.symm.trans (h.perm.trans p2))).cons c).trans (List.perm_middle (a := c)).symm
theorem Bok.putNew {cs ls : List Cl} (h : Bok cs ls) {c : Cl} (hx : ∀ d ∈ ls, d.k ≠ c.k) (hl : ls.length < 16) :
    putR cs c = ((putR cs c).1, 0) ∧ Bok (putR cs c).1 (ls ++ [c]) := by
  have h1 := h.keyNo hx
  have hs := h.size
  have e : putR cs c = (cs.take (fndF cs c.k) ++ ([c] ++ cs.drop (fndF cs c.k)), 0) := by unfold putR; rw [if_neg (by simp [h.ord]), if_neg (by simp [h1]), if_neg (by omega)]
  refine ⟨by rw [e], by rw [e]; exact ord_new h.ord rfl h1, ?_, ?_⟩
  · rw [e]; simp; have := h.len; omega
  · rw [e]
    have p1 : (ls ++ [c]).Perm (c :: cs) := (List.perm_append_comm (l₁ := ls) (l₂ := [c])).trans (h.perm.cons c)
    have p2 := List.perm_middle (a := c) (l₁ := cs.take (fndF cs c.k)) (l₂ := cs.drop (fndF cs c.k))
    rw [List.take_append_drop] at p2
    exact p1.trans p2.symm
theorem Bok.putFull {cs ls : List Cl} (h : Bok cs ls) {c : Cl} (hx : ∀ d ∈ ls, d.k ≠ c.k) (hl : ls.length = 16) : putR cs c = ([], 92) := by
  have h1 := h.keyNo hx
  have hs := h.size
  unfold putR; rw [if_neg (by simp [h.ord]), if_neg (by simp [h1]), if_pos (by omega)]
theorem Bok.le {cs ls : List Cl} (h : Bok cs ls) : ls.length ≤ 16 := by have := h.size; have := h.len; omega
/-- What Find says of each. -/
theorem Bok.find {cs ls : List Cl} (h : Bok cs ls) {j : Nat} (hj : j < ls.length) :
    ∃ F, ∃ hF : F < cs.length, findI cs ls[j].k = F ∧ findB cs ls[j].k = true ∧ cs[F] = ls[j] ∧ ∀ i, (hi : F = i + 1) → (cs[i]'(by omega)).k < ls[j].k := by
  obtain ⟨h1, h2⟩ := h.keyAt hj
  have hf := isK_lt h1
  have hcs : cs[fndF cs ls[j].k] = ls[j] := by rw [List.getElem?_eq_getElem hf] at h2; exact Option.some.inj h2
  refine ⟨fndF cs ls[j].k, hf, findI_ord h.ord, by rw [findB_ord h.ord]; exact h1, hcs, fun i hi => ?_⟩
  have := ord_adj h.ord i (by omega)
  have e : cs[i + 1]'(by omega) = ls[j] := by rw [← hcs]; congr 1; omega
  rw [e] at this
  exact this
end Go.Proofs.Ytjcmmhonidamoaa
