/- WorkerTables: the parts that are dealt go together to the table. -/
import Derived.Test.YtopjedgknbbgkaaGreatBa
import Derived.Test.YtopjedgknbbgkaaGreatM23
namespace Go.Proofs.YtopjedgknbbgkaaGreat

open Go.RowKit



/-- What goes to the first k stores. -/
def lowT (p : Pn) (t : List Pr) (k : Nat) : List Pr := t.filter fun q => decide (p.place q.k < k)
theorem low_zero (p : Pn) (t : List Pr) : lowT p t 0 = [] := by
  unfold lowT
  rw [List.filter_eq_nil_iff]
  intro q _
  simp
theorem low_all {p : Pn} (hp : p.is = true) (t : List Pr) : lowT p t p.n = t := by
  unfold lowT
  rw [List.filter_eq_self]
  intro q _
  have h := (place_lt q.k hp).2
  have hn : p.n = p.S.toNat := by have h1 := Pn.n_is hp; omega
  rw [hn]
  exact decide_eq_true h
theorem get_filter (f : Nat → Bool) (x : Nat) : ∀ t : List Pr, getT x (t.filter fun q => f q.k) = if f x = true then getT x t else noV
  | [] => by simp [getT]
  | q :: t => by
    have ih := get_filter f x t
    by_cases hq : f q.k = true
    · rw [List.filter_cons_of_pos (by exact hq)]
      simp only [getT]
      rw [ih]
      by_cases e : q.k = x
      · subst e; simp [hq]
      · simp [e]
    · rw [List.filter_cons_of_neg (by simpa using hq), ih]
      by_cases e : q.k = x
      · subst e; simp [hq]
      · simp [getT, e]
theorem get_low (p : Pn) (t : List Pr) (k x : Nat) : getT x (lowT p t k) = if p.place x < k then getT x t else noV := by
  unfold lowT
  rw [get_filter (fun y => decide (p.place y < k)) x t]
  simp
theorem get_deal (p : Pn) (t : List Pr) (k x : Nat) : getT x (dealF p t k) = if p.place x = k then getT x t else noV := by
  unfold dealF
  rw [get_filter (fun y => p.place y == k) x t]
  simp
theorem rise_low {p : Pn} {t : List Pr} (h : Rise t) (k : Nat) : Rise (lowT p t k) := List.Pairwise.filter _ h
theorem rise_deal {p : Pn} {t : List Pr} (h : Rise t) (k : Nat) : Rise (dealF p t k) := List.Pairwise.filter _ h
theorem ok_low {p : Pn} {t : List Pr} (h : okT t) (k : Nat) : okT (lowT p t k) := fun q hq => h q (List.mem_filter.1 hq).1
theorem has_low {p : Pn} {t : List Pr} (h : hasT t) (k : Nat) : hasT (lowT p t k) := fun q hq => h q (List.mem_filter.1 hq).1
theorem has_deal {p : Pn} {t : List Pr} (h : hasT t) (k : Nat) : hasT (dealF p t k) := fun q hq => h q (List.mem_filter.1 hq).1
theorem low_len (p : Pn) (t : List Pr) (k : Nat) : (lowT p t k).length ≤ t.length := List.length_filter_le _ _
/-- The k-th store's part added to those ahead of it. -/
theorem low_step {p : Pn} {kind : Int} {t : List Pr} (hk : knownB kind = true) (hr : Rise t) (hh : hasT t) (ho : okT t) (hf : ∀ x, fitV kind (getT x t) = getT x t) (k : Nat) : addT kind (lowT p t k) (dealF p t k) = lowT p t (k + 1) := by
  have hl : hasT (lowT p t k ++ dealF p t k) := fun q hq => by
    rcases List.mem_append.1 hq with h | h
    · exact has_low hh k q h
    · exact has_deal hh k q h
  refine ext_T (rise_adds rise_nil _) (rise_low hr _) (has_adds hk has_nil hl) (has_low hh _) (fun x => ?_)
  rw [get_add (rise_low hr k) (rise_deal hr k) (ok_low ho k) (deal_ok ho k), get_low, get_deal, get_low]
  by_cases h1 : p.place x < k
  · rw [if_pos h1, if_neg (by omega), if_pos (by omega), merge_no, hf]
  · by_cases h2 : p.place x = k
    · rw [if_neg h1, if_pos h2, if_pos (by omega), no_merge, hf]
    · rw [if_neg h1, if_neg h2, if_neg (by omega), merge_no, fitV_no]
theorem fit_batch (l : List Stp) (kind : Int) (recs : List Rcd) (x : Nat) : fitV kind (getT x (batchT l kind recs)) = getT x (batchT l kind recs) := by
  unfold batchT
  rw [get_adds]
  exact foldV_fit kind (by simp only [getT]; exact fitV_no kind) _
/-- Each pair of a store's part is in its place, its value as the kind fits it. -/
theorem deal_mem {p : Pn} {kind : Int} {t : List Pr} (hp : p.is = true) (hr : Rise t) (hf : ∀ x, fitV kind (getT x t) = getT x t) {k : Nat} {q : Pr} (hq : q ∈ dealF p t k) : p.store q.k = 1 + p.W + (k : Int) ∧ fitV kind q.v = q.v := by
  obtain ⟨h1, h2⟩ := List.mem_filter.1 hq
  have e : p.place q.k = k := by simpa using h2
  refine ⟨by unfold Pn.store; rw [if_pos hp, e], ?_⟩
  rw [← get_mem hr h1]
  exact hf _
end Go.Proofs.YtopjedgknbbgkaaGreat
