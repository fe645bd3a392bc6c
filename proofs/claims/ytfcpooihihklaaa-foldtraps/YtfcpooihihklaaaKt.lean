/- Counts: what a table of counts sums up to, and that keys do not hang on the kind. -/
import Derived.Test.YtfcpooihihklaaaKr
namespace Go.Proofs.Ytfcpooihihklaaa
open Ieee Go.RowKit

/-- The records that a pipeline keeps. -/
def keptR (l : List Stp) (recs : List Rcd) : List Rcd := recs.filter fun r => decide ((runS l r).1 = 1)

theorem keptT_keptR (l : List Stp) (kind : Int) (recs : List Rcd) : keptT l kind (keptR l recs) = keptT l kind recs := by
  unfold keptT keptR
  rw [List.filterMap_filter]
  congr 1
  funext r
  by_cases h : (runS l r).1 = 1 <;> simp [h]
theorem batch_kept (l : List Stp) (kind : Int) (recs : List Rcd) : batchT l kind (keptR l recs) = batchT l kind recs := by unfold batchT; rw [keptT_keptR]
theorem trap_kept (l : List Stp) (recs : List Rcd) : trapN l (keptR l recs) = 0 := by
  unfold trapN keptR
  rw [List.countP_eq_zero]
  intro r hr
  have := (List.mem_filter.1 hr).2
  simp at this
  simp [this]
theorem keptR_len (l : List Stp) (kind : Int) (recs : List Rcd) : (keptT l kind recs).length = (keptR l recs).length := by
  rw [← keptT_keptR]
  unfold keptT keptR
  induction recs with
  | nil => rfl
  | cons r recs ih =>
    by_cases h : (runS l r).1 = 1
    · rw [List.filter_cons_of_pos (by simpa using h), List.filterMap_cons_some (b := ⟨(runS l r).2.k, ofV kind (runS l r).2.x⟩) (by simp [h])]
      simp [ih]
    · rw [List.filter_cons_of_neg (by simpa using h)]; exact ih
theorem keptR_snoc (l : List Stp) (recs : List Rcd) {i : Nat} (hi : i < recs.length) : keptR l (recs.take (i + 1)) = keptR l (recs.take i) ++ (if (runS l recs[i]).1 = 1 then [recs[i]] else []) := by
  unfold keptR
  rw [List.take_succ_eq_append_getElem hi, List.filter_append]
  by_cases h : (runS l recs[i]).1 = 1
  · rw [if_pos h, List.filter_cons_of_pos (by simpa using h)]; rfl
  · rw [if_neg h, List.filter_cons_of_neg (by simpa using h)]; rfl

/-! ### keys do not hang on the kind -/
def insK (k : Nat) : List Nat → List Nat
  | [] => [k]
  | a :: t => if k < a then k :: a :: t else if k = a then k :: t else a :: insK k t
theorem put_keys (k : Nat) (v : Vl) (t : List Pr) : (putT k v t).map (·.k) = insK k (t.map (·.k)) := by
  induction t with
  | nil => rfl
  | cons a t ih =>
    unfold putT
    show _ = insK k (a.k :: t.map (·.k))
    unfold insK
    split
    · rfl
    · split
      · rfl
      · rw [List.map_cons, ih]
theorem adds_keys (kind : Int) (l : List Pr) : ∀ t : List Pr, (addsT kind t l).map (·.k) = (l.map (·.k)).foldl (fun ks k => insK k ks) (t.map (·.k)) := by
  induction l with
  | nil => intro t; rfl
  | cons p l ih =>
    intro t
    rw [adds_cons, ih, List.map_cons, List.foldl_cons]
    congr 1
    exact put_keys _ _ _
theorem kept_keys (l : List Stp) (kind kind' : Int) (recs : List Rcd) : (keptT l kind recs).map (·.k) = (keptT l kind' recs).map (·.k) := by
  unfold keptT
  rw [List.map_filterMap, List.map_filterMap]
  congr 1
  funext r
  by_cases h : (runS l r).1 = 1 <;> simp [h]
theorem batch_keys (l : List Stp) (kind kind' : Int) (recs : List Rcd) : (batchT l kind recs).length = (batchT l kind' recs).length := by
  have : (batchT l kind recs).map (·.k) = (batchT l kind' recs).map (·.k) := by
    unfold batchT
    rw [adds_keys, adds_keys, kept_keys l kind kind']
  have h2 := congrArg List.length this
  simpa using h2

/-! ### sums of counts -/
def sumT (t : List Pr) : Nat := (t.map (·.v.b)).sum
theorem sum_put {t : List Pr} (h : Rise t) (k : Nat) (v : Vl) : sumT (putT k v t) + (getT k t).b = sumT t + v.b := by
  induction t with
  | nil => simp [sumT, putT, getT, noV]
  | cons a t ih =>
    obtain ⟨h1, h2⟩ := List.pairwise_cons.1 h
    unfold putT
    split
    · rename_i hlt
      have e : getT k (a :: t) = noV := get_none fun p hp => by
        rcases List.mem_cons.1 hp with rfl | hp
        · omega
        · have := h1 p hp; omega
      rw [e]
      simp [sumT, noV]; omega
    · split
      · rename_i hlt he
        have e : getT k (a :: t) = a.v := if_pos he.symm
        rw [e]
        simp [sumT]; omega
      · rename_i hlt he
        have e : getT k (a :: t) = getT k t := if_neg (fun h => he h.symm)
        rw [e]
        have := ih h2
        simp [sumT] at this ⊢
        omega

theorem merge_one {v : Vl} (hv : v.h = true ∨ v = noV) (ho : v.ok) : (mergeV 1 v ⟨true, 1⟩).b = (v.b + 1) % 18446744073709551616 := by
  rcases hv with hv | rfl
  · obtain ⟨h, b⟩ := v
    simp only at hv
    subst hv
    simp [mergeV, fitV, joinV]
  · simp [mergeV, fitV, joinV, noV]

theorem get_either {t : List Pr} (h : hasT t) (k : Nat) : (getT k t).h = true ∨ getT k t = noV := by
  induction t with
  | nil => exact Or.inr rfl
  | cons a t ih =>
    unfold getT
    split
    · exact Or.inl (h a (by simp))
    · exact ih (fun p hp => h p (List.mem_cons_of_mem _ hp))

theorem sum_adds {l : List Pr} (hl : ∀ p ∈ l, p.v = ⟨true, 1⟩) (hk : okT l) : ∀ {t : List Pr}, Rise t → hasT t → okT t → sumT (addsT 1 t l) % 18446744073709551616 = (sumT t + l.length) % 18446744073709551616 := by
  induction l with
  | nil => intro t _ _ _; rfl
  | cons p l ih =>
    intro t hr hh ho
    have hp := hl p (by simp)
    have hpo := hk p (by simp)
    rw [adds_cons]
    have hh' : hasT (withT 1 p.k p.v t) := has_with (by decide) hh (by rw [hp])
    rw [ih (fun q hq => hl q (List.mem_cons_of_mem _ hq)) (fun q hq => hk q (List.mem_cons_of_mem _ hq)) (rise_with hr _ _) hh' (ok_with ho hpo.1 hpo.2)]
    have h1 := sum_put hr p.k (mergeV 1 (getT p.k t) p.v)
    have h2 : (mergeV 1 (getT p.k t) p.v).b = ((getT p.k t).b + 1) % 18446744073709551616 := by rw [hp]; exact merge_one (get_either hh p.k) (get_ok ho p.k)
    rw [h2] at h1
    unfold withT
    simp only [List.length_cons]
    omega

theorem kept_count {l : List Stp} {recs : List Rcd} : ∀ p ∈ keptT l 1 recs, p.v = ⟨true, 1⟩ := by
  intro p hp
  obtain ⟨r, _, h⟩ := List.mem_filterMap.1 hp
  split at h
  · cases h
    show ofV 1 (runS l r).2.x = _
    unfold ofV; rw [if_pos rfl]
  · cases h

theorem sum_batch {l : List Stp} {recs : List Rcd} (hr : ∀ r ∈ recs, r.ok) : sumT (batchT l 1 recs) % 18446744073709551616 = (keptR l recs).length % 18446744073709551616 := by
  unfold batchT
  rw [sum_adds kept_count (kept_ok hr) rise_nil has_nil ok_nil, keptR_len]
  simp [sumT]

theorem sum_snoc (t : List Pr) {i : Nat} (hi : i < t.length) : sumT (t.take (i + 1)) = sumT (t.take i) + t[i].v.b := by
  unfold sumT
  rw [List.take_succ_eq_append_getElem hi, List.map_append, List.sum_append]
  simp
end Go.Proofs.Ytfcpooihihklaaa
