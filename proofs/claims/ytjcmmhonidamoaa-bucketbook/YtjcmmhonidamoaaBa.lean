/- The plain mathematics of bucket: cells as bytes and back. Nothing of the program is said here. -/
import Derived.Test.YtjcmmhonidamoaaWm
namespace Go.Proofs.Ytjcmmhonidamoaa

/-- A value: whether it is there, its bits. -/
structure Vl where
  h : Bool
  b : Nat

/-- A cell: its key, its value ahead of a batch, its value behind it, the batch's number. -/
structure Cl where
  k : Nat
  p : Vl
  c : Vl
  n : Int

def noV : Vl := ⟨false, 0⟩
def zeroC : Cl := ⟨0, noV, noV, 0⟩
def Vl.ok (v : Vl) : Prop := v.b < 18446744073709551616
def Cl.ok (c : Cl) : Prop := c.k < 18446744073709551616 ∧ c.p.ok ∧ c.c.ok ∧ -9223372036854775808 ≤ c.n ∧ c.n < 9223372036854775808

def plainB (v : Vl) : Bool := v.h || decide (v.b = 0)
def writB (c : Cl) : Bool := decide (0 ≤ c.n) && decide (c.n ≤ 1099511627776) && plainB c.p && plainB c.c
def folB (o : Option Nat) (k : Nat) : Bool := match o with
  | none => true
  | some j => decide (j < k)

def encE : Option Nat → List Cl → Nat
  | _, [] => 0
  | o, c :: r => if folB o c.k = false then 7 else if writB c = false then 1 else encE (some c.k) r
def valB (v : Vl) : List Nat := if v.h = true then Wm.wd v.b else []
def flagN (c : Cl) : Nat := (if c.p.h = true then 1 else 0) + (if c.c.h = true then 2 else 0)
def cellB (c : Cl) : List Nat := Wm.enc c.k ++ ([flagN c] ++ (valB c.p ++ (valB c.c ++ Wm.enc c.n.toNat)))
def allB : List Cl → List Nat
  | [] => []
  | c :: r => cellB c ++ allB r
def encode (l : List Cl) : List Nat × Nat :=
  if 16 < l.length then ([], 6) else if l.length = 0 then ([], 0) else
  if encE none l = 0 then (Wm.enc l.length ++ allB l, 0) else ([], encE none l)

/-- A value's word: the error, the value, the bytes behind. -/
def oneV (t : Bool) (l : List Nat) : Nat × Vl × List Nat :=
  if t = false then (0, noV, l) else if l.length < 8 then (3, noV, []) else (0, ⟨true, Wm.unw (l.take 8)⟩, l.drop 8)
/-- What stands behind a cell's words. -/
def oneN (k : Nat) (p c : Vl) (l : List Nat) : Nat × Cl × List Nat :=
  if (Wm.take l).2.2 ≠ 0 then ((Wm.take l).2.2, zeroC, []) else if 1099511627776 < (Wm.take l).1 then (4, zeroC, []) else (0, ⟨k, p, c, (Wm.take l).1⟩, l.drop (Wm.take l).2.1)
def oneW (k h : Nat) (l : List Nat) : Nat × Cl × List Nat :=
  if (oneV (decide (h % 2 = 1)) l).1 ≠ 0 then ((oneV (decide (h % 2 = 1)) l).1, zeroC, []) else
  if (oneV (decide (2 ≤ h)) (oneV (decide (h % 2 = 1)) l).2.2).1 ≠ 0 then ((oneV (decide (2 ≤ h)) (oneV (decide (h % 2 = 1)) l).2.2).1, zeroC, []) else
  oneN k (oneV (decide (h % 2 = 1)) l).2.1 (oneV (decide (2 ≤ h)) (oneV (decide (h % 2 = 1)) l).2.2).2.1 (oneV (decide (2 ≤ h)) (oneV (decide (h % 2 = 1)) l).2.2).2.2
def oneH (k : Nat) : List Nat → Nat × Cl × List Nat
  | [] => (3, zeroC, [])
  | h :: r => if 3 < h then (4, zeroC, []) else oneW k h r
/-- A cell: the error, the cell, the bytes behind it. -/
def oneC (o : Option Nat) (l : List Nat) : Nat × Cl × List Nat :=
  if (Wm.take l).2.2 ≠ 0 then ((Wm.take l).2.2, zeroC, []) else if folB o (Wm.take l).1 = false then (7, zeroC, []) else oneH (Wm.take l).1 (l.drop (Wm.take l).2.1)
def decS : Nat → Option Nat → List Nat → Nat × List Cl × List Nat
  | 0, _, l => (0, [], l)
  | n + 1, o, l => if (oneC o l).1 ≠ 0 then ((oneC o l).1, [], []) else
      if (decS n (some (oneC o l).2.1.k) (oneC o l).2.2).1 ≠ 0 then ((decS n (some (oneC o l).2.1.k) (oneC o l).2.2).1, [], []) else
      (0, (oneC o l).2.1 :: (decS n (some (oneC o l).2.1.k) (oneC o l).2.2).2.1, (decS n (some (oneC o l).2.1.k) (oneC o l).2.2).2.2)
def decT (n : Nat) (l : List Nat) : List Cl × Nat :=
  if (decS n none l).1 ≠ 0 then ([], (decS n none l).1) else if (decS n none l).2.2.length ≠ 0 then ([], 5) else ((decS n none l).2.1, 0)
def decode (l : List Nat) : List Cl × Nat :=
  if l.length = 0 then ([], 0) else if (Wm.take l).2.2 ≠ 0 then ([], (Wm.take l).2.2) else if (Wm.take l).1 = 0 then ([], 4) else if 16 < (Wm.take l).1 then ([], 6) else
  decT (Wm.take l).1 (l.drop (Wm.take l).2.1)

theorem flag_le (c : Cl) : flagN c ≤ 3 := by unfold flagN; split <;> split <;> omega
theorem flag_odd (c : Cl) : decide (flagN c % 2 = 1) = c.p.h := by
  unfold flagN; cases c.p.h <;> cases c.c.h <;> simp
theorem flag_two (c : Cl) : decide (2 ≤ flagN c) = c.c.h := by
  unfold flagN; cases c.p.h <;> cases c.c.h <;> simp
theorem wd_lt (x : Nat) : ∀ c ∈ Wm.wd x, c < 256 := Wm.wdF_lt 8 x
theorem valB_lt (v : Vl) : ∀ c ∈ valB v, c < 256 := by
  unfold valB; split
  · exact wd_lt _
  · simp
theorem valB_len (v : Vl) : (valB v).length ≤ 8 := by
  unfold valB; split
  · rw [Wm.wd_len]; omega
  · simp
theorem writ_parts {c : Cl} (h : writB c = true) : 0 ≤ c.n ∧ c.n ≤ 1099511627776 ∧ plainB c.p = true ∧ plainB c.c = true := by
  simp only [writB, Bool.and_eq_true, decide_eq_true_eq] at h
  exact ⟨h.1.1.1, h.1.1.2, h.1.2, h.2⟩
theorem num_lt {c : Cl} (h : writB c = true) : c.n.toNat < 18446744073709551616 := by
  have := writ_parts h; omega
theorem cellB_lt {c : Cl} (hc : c.ok) (hw : writB c = true) : ∀ x ∈ cellB c, x < 256 := by
  intro x hx
  simp only [cellB, List.mem_append, List.mem_singleton] at hx
  rcases hx with h | rfl | h | h | h
  · exact Wm.enc_lt _ hc.1 x h
  · have := flag_le c; omega
  · exact valB_lt _ x h
  · exact valB_lt _ x h
  · exact Wm.enc_lt _ (num_lt hw) x h
theorem cellB_len (c : Cl) : 1 ≤ (cellB c).length ∧ (cellB c).length ≤ 37 := by
  simp only [cellB, List.length_append, List.length_singleton]
  have h1 := Wm.enc_len c.k
  have h2 := Wm.enc_len c.n.toNat
  have h3 := valB_len c.p
  have h4 := valB_len c.c
  omega
theorem allB_len (l : List Cl) : l.length ≤ (allB l).length ∧ (allB l).length ≤ 37 * l.length := by
  induction l with
  | nil => simp [allB]
  | cons c r ih => have := cellB_len c; simp only [allB, List.length_append, List.length_cons]; omega
theorem allB_append (l r : List Cl) : allB (l ++ r) = allB l ++ allB r := by
  induction l with
  | nil => rfl
  | cons c t ih => simp [allB, ih]

theorem oneV_of {v : Vl} (hv : v.ok) (hp : plainB v = true) (r : List Nat) : oneV v.h (valB v ++ r) = (0, v, r) := by
  obtain ⟨h, b⟩ := v
  cases h
  · simp [plainB] at hp; subst hp; simp [oneV, valB, noV]
  · have hl := Wm.wd_len b
    have : ¬ (valB ⟨true, b⟩ ++ r).length < 8 := by simp only [valB, if_true, List.length_append]; omega
    simp only [oneV, if_neg this]
    simp [valB, List.take_append_of_le_length (Nat.le_of_eq hl.symm), List.drop_append_of_le_length (Nat.le_of_eq hl.symm), List.take_of_length_le (Nat.le_of_eq hl), List.drop_of_length_le (Nat.le_of_eq hl), Wm.unw_wd b hv]
theorem oneV_short {v : Vl} {n : Nat} (hn : n < (valB v).length) : (oneV v.h ((valB v).take n)).1 = 3 := by
  obtain ⟨h, b⟩ := v
  cases h
  · simp [valB] at hn
  · simp only [valB, if_true] at hn ⊢
    have hl := Wm.wd_len b
    simp only [oneV]
    rw [if_neg (by simp), if_pos (by simp only [List.length_take]; omega)]

theorem wdF_unw (l : List Nat) (h : ∀ c ∈ l, c < 256) : Wm.wdF l.length (Wm.unw l) = l := by
  induction l with
  | nil => rfl
  | cons c r ih =>
    have h0 := h c (by simp)
    have e1 : (c + 256 * Wm.unw r) % 256 = c := by omega
    have e2 : (c + 256 * Wm.unw r) / 256 = Wm.unw r := by omega
    simp only [Wm.unw, List.length_cons, Wm.wdF, e1, e2, ih (fun d hd => h d (by simp [hd]))]

theorem oneV_back {t : Bool} {l r : List Nat} {v : Vl} (hl : ∀ c ∈ l, c < 256) (h : oneV t l = (0, v, r)) : l = valB v ++ r ∧ v.h = t ∧ plainB v = true ∧ v.ok := by
  cases t
  · simp [oneV] at h
    obtain ⟨rfl, rfl⟩ := h
    simp [valB, noV, plainB, Vl.ok]
  · by_cases h8 : l.length < 8
    · simp [oneV, h8] at h
    · simp [oneV, h8] at h
      obtain ⟨rfl, rfl⟩ := h
      have e : (l.take 8).length = 8 := by simp; omega
      have hlt : ∀ c ∈ l.take 8, c < 256 := fun c hc => hl c (List.mem_of_mem_take hc)
      refine ⟨?_, rfl, rfl, ?_⟩
      · have := wdF_unw (l.take 8) hlt
        rw [e] at this
        simp only [valB, if_true, Wm.wd, this, List.take_append_drop]
      · have := Wm.unw_lt (l.take 8) hlt
        rw [e] at this
        simpa [Vl.ok] using this
theorem oneV_err {t : Bool} {l : List Nat} (h : (oneV t l).1 ≠ 0) : (oneV t l).1 = 3 := by
  unfold oneV at h ⊢
  split at h
  · simp at h
  · rename_i h0
    split at h
    · rename_i h1; rw [if_neg h0, if_pos h1]
    · simp at h

theorem oneN_of {c : Cl} (hw : writB c = true) (r : List Nat) : oneN c.k c.p c.c (Wm.enc c.n.toNat ++ r) = (0, c, r) := by
  have hp := writ_parts hw
  simp only [oneN, Wm.take_enc _ _ (num_lt hw)]
  rw [if_neg (by simp), if_neg (by omega)]
  have : ((c.n.toNat : Nat) : Int) = c.n := by omega
  simp [this]
theorem oneN_short {c : Cl} {n : Nat} (hw : writB c = true) (hn : n < (Wm.enc c.n.toNat).length) : (oneN c.k c.p c.c ((Wm.enc c.n.toNat).take n)).1 = 3 := by
  simp [oneN, Wm.take_enc_short _ _ (num_lt hw) hn]

theorem take_app {α : Type} (a b : List α) (n : Nat) : (a ++ b).take n = if n < a.length then a.take n else a ++ b.take (n - a.length) := by
  split
  · rename_i h; rw [List.take_append_of_le_length (by omega)]
  · rename_i h
    have : n = a.length + (n - a.length) := by omega
    rw [this, List.take_length_add_append]
    simp

theorem oneW_of {c : Cl} (hc : c.ok) (hw : writB c = true) (r : List Nat) : oneW c.k (flagN c) (valB c.p ++ (valB c.c ++ (Wm.enc c.n.toNat ++ r))) = (0, c, r) := by
  have hp := writ_parts hw
  simp only [oneW, flag_odd, flag_two, oneV_of hc.2.1 hp.2.2.1, oneV_of hc.2.2.1 hp.2.2.2]
  simp [oneN_of hw]
theorem oneW_short {c : Cl} {n : Nat} (hc : c.ok) (hw : writB c = true) (hn : n < (valB c.p ++ (valB c.c ++ Wm.enc c.n.toNat)).length) : (oneW c.k (flagN c) ((valB c.p ++ (valB c.c ++ Wm.enc c.n.toNat)).take n)).1 = 3 := by
  have hp := writ_parts hw
  simp only [oneW, flag_odd, flag_two]
  rw [take_app]
  split
  · rename_i h
    have e := oneV_short h
    rw [if_pos (by rw [e]; omega)]
    exact e
  · rename_i h
    simp only [oneV_of hc.2.1 hp.2.2.1]
    rw [if_neg (by simp), take_app]
    split
    · rename_i h2
      have e := oneV_short h2
      rw [if_pos (by rw [e]; omega)]
      exact e
    · rename_i h2
      simp only [oneV_of hc.2.2.1 hp.2.2.2]
      rw [if_neg (by simp)]
      exact oneN_short hw (by simp only [List.length_append] at hn; omega)

theorem oneC_of {o : Option Nat} {c : Cl} (hc : c.ok) (hw : writB c = true) (hf : folB o c.k = true) (r : List Nat) : oneC o (cellB c ++ r) = (0, c, r) := by
  have e : cellB c ++ r = Wm.enc c.k ++ (flagN c :: (valB c.p ++ (valB c.c ++ (Wm.enc c.n.toNat ++ r)))) := by simp [cellB]
  rw [e]
  simp only [oneC, Wm.take_enc _ _ hc.1]
  rw [if_neg (by simp), if_neg (by simp [hf])]
  have : ¬ 3 < flagN c := by have := flag_le c; omega
  simp only [List.drop_append_of_le_length (Nat.le_refl _), List.drop_length, List.nil_append, oneH, if_neg this, oneW_of hc hw]
theorem oneC_short {o : Option Nat} {c : Cl} {n : Nat} (hc : c.ok) (hw : writB c = true) (hf : folB o c.k = true) (hn : n < (cellB c).length) : (oneC o ((cellB c).take n)).1 = 3 := by
  unfold cellB at hn ⊢
  rw [take_app]
  split
  · rename_i h
    simp [oneC, Wm.take_enc_short _ _ hc.1 h]
  · rename_i h
    simp only [oneC, Wm.take_enc _ _ hc.1]
    rw [if_neg (by simp), if_neg (by simp [hf])]
    simp only [List.drop_append_of_le_length (Nat.le_refl _), List.drop_length, List.nil_append]
    obtain ⟨m, hm⟩ : ∃ m, n - (Wm.enc c.k).length = m := ⟨_, rfl⟩
    rw [hm]
    cases m with
    | zero => simp [oneH]
    | succ m =>
      have : ¬ 3 < flagN c := by have := flag_le c; omega
      simp only [List.singleton_append, List.take_succ_cons, oneH, if_neg this]
      exact oneW_short hc hw (by simp only [List.length_append, List.length_singleton] at hn ⊢; omega)

theorem take_cut {l : List Nat} {x n : Nat} (hl : ∀ c ∈ l, c < 256) (h : Wm.take l = (x, n, 0)) : l = Wm.enc x ++ l.drop n ∧ x < 18446744073709551616 ∧ n = (Wm.enc x).length := by
  rcases Wm.take_form l hl with ⟨e, h1, h2⟩ | ⟨y, m, h1, h2, h3, h4, h5⟩
  · rw [h] at h1; simp at h1; omega
  · rw [h] at h1
    simp at h1
    obtain ⟨rfl, rfl⟩ := h1
    refine ⟨by rw [h5, List.take_append_drop], h2, by rw [h5]; simp; omega⟩

theorem oneN_back {k : Nat} {p c : Vl} {d : Cl} {l r : List Nat} (hl : ∀ c ∈ l, c < 256) (h : oneN k p c l = (0, d, r)) : ∃ n : Nat, d = ⟨k, p, c, n⟩ ∧ n ≤ 1099511627776 ∧ l = Wm.enc n ++ r := by
  obtain ⟨x, n, e, ht⟩ : ∃ x n e, Wm.take l = (x, n, e) := ⟨_, _, _, rfl⟩
  simp only [oneN, ht] at h
  split at h
  · rename_i h0; simp at h; omega
  · rename_i h0
    have h0 : e = 0 := by omega
    subst h0
    split at h
    · simp at h
    · rename_i h1
      simp at h
      obtain ⟨rfl, rfl⟩ := h
      exact ⟨x, rfl, by omega, (take_cut hl ht).1⟩

theorem flag_of {h : Nat} {k : Nat} {p c : Vl} {n : Int} (h3 : h ≤ 3) (hp : p.h = decide (h % 2 = 1)) (hc : c.h = decide (2 ≤ h)) : flagN ⟨k, p, c, n⟩ = h := by
  simp only [flagN, hp, hc, decide_eq_true_eq]
  split <;> split <;> omega

theorem oneW_back {k h : Nat} {d : Cl} {l r : List Nat} (hl : ∀ c ∈ l, c < 256) (h3 : h ≤ 3) (hk : oneW k h l = (0, d, r)) :
    d.k = k ∧ flagN d = h ∧ d.p.ok ∧ d.c.ok ∧ writB d = true ∧ d.n < 9223372036854775808 ∧ l = valB d.p ++ (valB d.c ++ (Wm.enc d.n.toNat ++ r)) := by
  obtain ⟨e1, p, l1, E1⟩ : ∃ a b c, oneV (decide (h % 2 = 1)) l = (a, b, c) := ⟨_, _, _, rfl⟩
  simp only [oneW, E1] at hk
  obtain ⟨e2, c, l2, E2⟩ : ∃ a b c, oneV (decide (2 ≤ h)) l1 = (a, b, c) := ⟨_, _, _, rfl⟩
  simp only [E2] at hk
  split at hk
  · simp at hk; omega
  · rename_i q1
    split at hk
    · simp at hk; omega
    · rename_i q2
      have q1 : e1 = 0 := by omega
      have q2 : e2 = 0 := by omega
      subst q1 q2
      obtain ⟨a1, a2, a3, a4⟩ := oneV_back hl E1
      have hl1 : ∀ c ∈ l1, c < 256 := fun c hc => hl c (by rw [a1]; simp [hc])
      obtain ⟨b1, b2, b3, b4⟩ := oneV_back hl1 E2
      have hl2 : ∀ c ∈ l2, c < 256 := fun c hc => hl1 c (by rw [b1]; simp [hc])
      obtain ⟨n, rfl, hn, c1⟩ := oneN_back hl2 hk
      refine ⟨rfl, flag_of h3 a2 b2, a4, b4, ?_, by show (n : Int) < _; omega, ?_⟩
      · simp only [writB, a3, b3, Bool.and_true, Bool.and_eq_true, decide_eq_true_eq]; omega
      · show l = valB p ++ (valB c ++ (Wm.enc (n : Int).toNat ++ r))
        rw [Int.toNat_natCast, ← c1, ← b1, ← a1]

theorem oneC_back {o : Option Nat} {c : Cl} {l r : List Nat} (hl : ∀ c ∈ l, c < 256) (h : oneC o l = (0, c, r)) : l = cellB c ++ r ∧ folB o c.k = true ∧ writB c = true ∧ c.ok := by
  obtain ⟨x, n, e, ht⟩ : ∃ x n e, Wm.take l = (x, n, e) := ⟨_, _, _, rfl⟩
  simp only [oneC, ht] at h
  split at h
  · simp at h; omega
  · rename_i h0
    have h0 : e = 0 := by omega
    subst h0
    obtain ⟨t1, t2, _⟩ := take_cut hl ht
    have hl1 : ∀ c ∈ l.drop n, c < 256 := fun c hc => hl c (List.mem_of_mem_drop hc)
    split at h
    · simp at h
    · rename_i h1
      cases hd : l.drop n with
      | nil => rw [hd] at h; simp [oneH] at h
      | cons f q =>
        rw [hd] at h t1 hl1
        simp only [oneH] at h
        split at h
        · simp at h
        · rename_i h2
          obtain ⟨a1, a2, a3, a4, a5, a6, a7⟩ := oneW_back (fun c hc => hl1 c (by simp [hc])) (by omega) h
          have hw := writ_parts a5
          refine ⟨?_, by rw [a1]; simpa using h1, a5, by rw [a1]; exact t2, a3, a4, by omega, a6⟩
          rw [t1, a7, cellB, a1, a2]
          simp
end Go.Proofs.Ytjcmmhonidamoaa
