/- Tables as lists of keys and values: looked up, put into, put together; what a batch makes of records. -/
import Derived.Test.YtfcpooihihklaabGm
import Derived.Test.YtfcpooihihklaabXa
namespace Go.Proofs.Ytfcpooihihklaab
open Ieee

/-- A pair: a key and its value. -/
structure Pr where
  k : Nat
  v : Vl

def Pr.ok (p : Pr) : Prop := p.k < 18446744073709551616 ∧ p.v.ok
def okT (t : List Pr) : Prop := ∀ p ∈ t, p.ok
def Rise (t : List Pr) : Prop := t.Pairwise (fun p q => p.k < q.k)
def hasT (t : List Pr) : Prop := ∀ p ∈ t, p.v.h = true

/-- The value of the first pair with that key. -/
def getT (k : Nat) : List Pr → Vl
  | [] => noV
  | p :: t => if p.k = k then p.v else getT k t

/-- A pair put into its place. -/
def putT (k : Nat) (v : Vl) : List Pr → List Pr
  | [] => [⟨k, v⟩]
  | p :: t => if k < p.k then ⟨k, v⟩ :: p :: t else if k = p.k then ⟨k, v⟩ :: t else p :: putT k v t

def withT (kind : Int) (k : Nat) (v : Vl) (t : List Pr) : List Pr := putT k (mergeV kind (getT k t) v) t

/-- Pairs put in one behind the other. -/
def addsT (kind : Int) (t : List Pr) (l : List Pr) : List Pr := l.foldl (fun t p => withT kind p.k p.v t) t
def addT (kind : Int) (a b : List Pr) : List Pr := addsT kind [] (a ++ b)

/-- The pairs that a pipeline makes of records. -/
def keptT (l : List Stp) (kind : Int) (recs : List Rcd) : List Pr := recs.filterMap (fun r => if (runS l r).1 = 1 then some ⟨(runS l r).2.k, ofV kind (runS l r).2.x⟩ else none)
def trapN (l : List Stp) (recs : List Rcd) : Nat := recs.countP (fun r => decide ((runS l r).1 = 3))
def batchT (l : List Stp) (kind : Int) (recs : List Rcd) : List Pr := addsT kind [] (keptT l kind recs)

/-- Is the list a table? -/
def soundB (t : List Pr) : Bool := (List.range t.length).all fun i => ((t[i]?.map (·.v.h)).getD false) && (i == 0 || decide (((t[i - 1]?.map (·.k)).getD 0) < ((t[i]?.map (·.k)).getD 0)))

theorem put_head (k : Nat) (v : Vl) (t : List Pr) : ∀ p ∈ putT k v t, p.k = k ∨ ∃ q ∈ t, q.k = p.k := by
  induction t with
  | nil => intro p hp; simp [putT] at hp; subst hp; exact Or.inl rfl
  | cons a t ih =>
    intro p hp
    unfold putT at hp
    split at hp
    · rcases List.mem_cons.1 hp with rfl | hp
      · exact Or.inl rfl
      · exact Or.inr ⟨p, hp, rfl⟩
    · split at hp
      · rcases List.mem_cons.1 hp with rfl | hp
        · exact Or.inl rfl
        · exact Or.inr ⟨p, List.mem_cons_of_mem _ hp, rfl⟩
      · rcases List.mem_cons.1 hp with rfl | hp
        · exact Or.inr ⟨p, by simp, rfl⟩
        · rcases ih p hp with h | ⟨q, hq, h⟩
          · exact Or.inl h
          · exact Or.inr ⟨q, List.mem_cons_of_mem _ hq, h⟩

theorem rise_put {t : List Pr} (h : Rise t) (k : Nat) (v : Vl) : Rise (putT k v t) := by
  induction t with
  | nil => simp [putT, Rise]
  | cons a t ih =>
    obtain ⟨h1, h2⟩ := List.pairwise_cons.1 h
    unfold putT
    split
    · rename_i hlt
      refine List.pairwise_cons.2 ⟨fun q hq => ?_, h⟩
      rcases List.mem_cons.1 hq with rfl | hq
      · exact hlt
      · exact Nat.lt_trans hlt (h1 q hq)
    · split
      · rename_i e
        exact List.pairwise_cons.2 ⟨fun q hq => by show k < q.k; rw [e]; exact h1 q hq, h2⟩
      · refine List.pairwise_cons.2 ⟨fun q hq => ?_, ih h2⟩
        rcases put_head k v t q hq with h | ⟨p, hp, h⟩
        · rw [h]; omega
        · rw [← h]; exact h1 p hp

theorem get_put_same (k : Nat) (v : Vl) (t : List Pr) : getT k (putT k v t) = v := by
  induction t with
  | nil => simp [putT, getT]
  | cons a t ih =>
    unfold putT
    split
    · simp [getT]
    · split
      · simp [getT]
      · unfold getT; rw [if_neg (by omega)]; exact ih

theorem get_put_other {k k' : Nat} (hk : k' ≠ k) (v : Vl) (t : List Pr) : getT k' (putT k v t) = getT k' t := by
  induction t with
  | nil => simp [putT, getT]; intro h; exact absurd h.symm hk
  | cons a t ih =>
    unfold putT
    split
    · show (if k = k' then v else getT k' (a :: t)) = _
      rw [if_neg (fun h => hk h.symm)]
    · split
      · rename_i e
        show (if k = k' then v else getT k' t) = (if a.k = k' then a.v else getT k' t)
        rw [if_neg (fun h => hk h.symm), if_neg (by rw [← e]; exact fun h => hk h.symm)]
      · show (if a.k = k' then a.v else getT k' (putT k v t)) = (if a.k = k' then a.v else getT k' t)
        rw [ih]

theorem put_mem {k : Nat} {v : Vl} {t : List Pr} {p : Pr} (h : p ∈ putT k v t) : p = ⟨k, v⟩ ∨ p ∈ t := by
  induction t with
  | nil => simpa [putT] using h
  | cons a t ih =>
    unfold putT at h
    split at h
    · rcases List.mem_cons.1 h with h | h
      · exact Or.inl h
      · exact Or.inr h
    · split at h
      · rcases List.mem_cons.1 h with h | h
        · exact Or.inl h
        · exact Or.inr (List.mem_cons_of_mem _ h)
      · rcases List.mem_cons.1 h with h | h
        · exact Or.inr (by rw [h]; simp)
        · rcases ih h with h | h
          · exact Or.inl h
          · exact Or.inr (List.mem_cons_of_mem _ h)

theorem has_put {k : Nat} {v : Vl} {t : List Pr} (ht : hasT t) (hv : v.h = true) : hasT (putT k v t) := fun p hp => by
  rcases put_mem hp with rfl | h
  · exact hv
  · exact ht p h
theorem ok_put {k : Nat} {v : Vl} {t : List Pr} (ht : okT t) (hk : k < 18446744073709551616) (hv : v.ok) : okT (putT k v t) := fun p hp => by
  rcases put_mem hp with rfl | h
  · exact ⟨hk, hv⟩
  · exact ht p h
theorem put_len (k : Nat) (v : Vl) (t : List Pr) : (putT k v t).length ≤ t.length + 1 := by
  induction t with
  | nil => simp [putT]
  | cons a t ih =>
    unfold putT
    split
    · simp
    · split
      · simp
      · simp; exact ih

theorem get_ok {t : List Pr} (h : okT t) (k : Nat) : (getT k t).ok := by
  induction t with
  | nil => exact noV_ok
  | cons a t ih =>
    unfold getT
    split
    · exact (h a (by simp)).2
    · exact ih (fun p hp => h p (List.mem_cons_of_mem _ hp))

theorem get_none {t : List Pr} {k : Nat} (h : ∀ p ∈ t, p.k ≠ k) : getT k t = noV := by
  induction t with
  | nil => rfl
  | cons a t ih =>
    unfold getT
    rw [if_neg (h a (by simp))]
    exact ih (fun p hp => h p (List.mem_cons_of_mem _ hp))

theorem get_some {t : List Pr} (ht : hasT t) {k : Nat} (h : ∃ p ∈ t, p.k = k) : (getT k t).h = true := by
  induction t with
  | nil => obtain ⟨p, hp, _⟩ := h; simp at hp
  | cons a t ih =>
    unfold getT
    split
    · exact ht a (by simp)
    · rename_i hne
      refine ih (fun p hp => ht p (List.mem_cons_of_mem _ hp)) ?_
      obtain ⟨p, hp, e⟩ := h
      rcases List.mem_cons.1 hp with rfl | hp
      · exact absurd e hne
      · exact ⟨p, hp, e⟩

theorem get_above {t : List Pr} {a : Pr} (h : Rise (a :: t)) {k : Nat} (hk : k ≤ a.k) : getT k t = noV := by
  obtain ⟨h1, _⟩ := List.pairwise_cons.1 h
  exact get_none fun p hp => by have := h1 p hp; omega

/-- Tables with the same value at each key are one. -/
theorem ext_T : ∀ {t u : List Pr}, Rise t → Rise u → hasT t → hasT u → (∀ k, getT k t = getT k u) → t = u
  | [], [], _, _, _, _, _ => rfl
  | [], q :: u, _, _, _, hu, h => by
    have h1 := h q.k
    have h2 : (getT q.k (q :: u)).h = true := get_some hu ⟨q, by simp, rfl⟩
    rw [← h1] at h2; cases h2
  | p :: t, [], _, _, ht, _, h => by
    have h1 := h p.k
    have h2 : (getT p.k (p :: t)).h = true := get_some ht ⟨p, by simp, rfl⟩
    rw [h1] at h2; cases h2
  | p :: t, q :: u, rt, ru, ht, hu, h => by
    have hp : getT p.k (p :: t) = p.v := if_pos rfl
    have hq : getT q.k (q :: u) = q.v := if_pos rfl
    have e : p.k = q.k := by
      rcases Nat.lt_trichotomy p.k q.k with hl | e | hl
      · have h1 := h p.k
        have h2 : getT p.k (q :: u) = noV := by
          show (if q.k = p.k then q.v else getT p.k u) = noV
          rw [if_neg (by omega)]; exact get_above ru (by omega)
        rw [h2, hp] at h1
        have := ht p (by simp); rw [h1] at this; cases this
      · exact e
      · have h1 := h q.k
        have h2 : getT q.k (p :: t) = noV := by
          show (if p.k = q.k then p.v else getT q.k t) = noV
          rw [if_neg (by omega)]; exact get_above rt (by omega)
        rw [h2, hq] at h1
        have := hu q (by simp); rw [← h1] at this; cases this
    have ev : p.v = q.v := by rw [← hp, ← hq, h p.k, e]
    have et : t = u := by
      refine ext_T (List.pairwise_cons.1 rt).2 (List.pairwise_cons.1 ru).2 (fun x hx => ht x (List.mem_cons_of_mem _ hx)) (fun x hx => hu x (List.mem_cons_of_mem _ hx)) fun k => ?_
      have h1 := h k
      by_cases hk : p.k = k
      · rw [get_above rt (by omega), get_above ru (by omega)]
      · have e1 : getT k (p :: t) = getT k t := if_neg hk
        have e2 : getT k (q :: u) = getT k u := if_neg (by rw [← e]; exact hk)
        rw [e1, e2] at h1; exact h1
    rw [et]
    obtain ⟨pk, pv⟩ := p
    obtain ⟨qk, qv⟩ := q
    simp only at e ev
    rw [e, ev]

/-! ### pairs put in one behind the other -/
theorem adds_nil (kind : Int) (t : List Pr) : addsT kind t [] = t := rfl
theorem adds_cons (kind : Int) (t : List Pr) (p : Pr) (l : List Pr) : addsT kind t (p :: l) = addsT kind (withT kind p.k p.v t) l := rfl
theorem adds_append (kind : Int) (t l m : List Pr) : addsT kind t (l ++ m) = addsT kind (addsT kind t l) m := by unfold addsT; rw [List.foldl_append]
theorem adds_snoc (kind : Int) (t l : List Pr) (p : Pr) : addsT kind t (l ++ [p]) = withT kind p.k p.v (addsT kind t l) := by rw [adds_append]; rfl

theorem rise_with {kind : Int} {t : List Pr} (h : Rise t) (k : Nat) (v : Vl) : Rise (withT kind k v t) := rise_put h k _
theorem rise_adds {kind : Int} {t : List Pr} (h : Rise t) (l : List Pr) : Rise (addsT kind t l) := by
  induction l generalizing t with
  | nil => exact h
  | cons p l ih => exact ih (rise_with h p.k p.v)
theorem ok_with {kind : Int} {t : List Pr} (h : okT t) {k : Nat} {v : Vl} (hk : k < 18446744073709551616) (hv : v.ok) : okT (withT kind k v t) := ok_put h hk (mergeV_ok kind (get_ok h k) hv)
theorem ok_adds {kind : Int} {t : List Pr} (h : okT t) {l : List Pr} (hl : okT l) : okT (addsT kind t l) := by
  induction l generalizing t with
  | nil => exact h
  | cons p l ih => exact ih (ok_with h (hl p (by simp)).1 (hl p (by simp)).2) (fun q hq => hl q (List.mem_cons_of_mem _ hq))
theorem has_with {kind : Int} (hk : knownB kind = true) {t : List Pr} (h : hasT t) {k : Nat} {v : Vl} (hv : v.h = true) : hasT (withT kind k v t) := has_put h (by rw [merge_has hk, hv, Bool.or_true])
theorem has_adds {kind : Int} (hk : knownB kind = true) {t : List Pr} (h : hasT t) {l : List Pr} (hl : hasT l) : hasT (addsT kind t l) := by
  induction l generalizing t with
  | nil => exact h
  | cons p l ih => exact ih (has_with hk h (hl p (by simp))) (fun q hq => hl q (List.mem_cons_of_mem _ hq))
theorem adds_len (kind : Int) (t l : List Pr) : (addsT kind t l).length ≤ t.length + l.length := by
  induction l generalizing t with
  | nil => simp [addsT]
  | cons p l ih =>
    have h1 := ih (withT kind p.k p.v t)
    have h2 : (withT kind p.k p.v t).length ≤ t.length + 1 := put_len _ _ _
    rw [adds_cons]; simp only [List.length_cons]; omega

/-- The values of a key, one behind the other. -/
def atT (k : Nat) (l : List Pr) : List Vl := (l.filter (fun p => p.k == k)).map (·.v)
def foldV (kind : Int) (v : Vl) (l : List Vl) : Vl := l.foldl (fun v x => mergeV kind v x) v

theorem get_with (kind : Int) (k k' : Nat) (v : Vl) (t : List Pr) : getT k (withT kind k' v t) = if k' = k then mergeV kind (getT k t) v else getT k t := by
  split
  · rename_i e; subst e; exact get_put_same _ _ _
  · rename_i e; exact get_put_other (fun h => e h.symm) _ _

theorem get_adds (kind : Int) (k : Nat) (l : List Pr) : ∀ t : List Pr, getT k (addsT kind t l) = foldV kind (getT k t) (atT k l) := by
  induction l with
  | nil => intro t; rfl
  | cons p l ih =>
    intro t
    rw [adds_cons, ih, get_with]
    unfold atT
    by_cases h : p.k = k
    · rw [if_pos h, List.filter_cons_of_pos (by simpa using h)]; rfl
    · rw [if_neg h, List.filter_cons_of_neg (by simpa using h)]

def okL (l : List Vl) : Prop := ∀ v ∈ l, v.ok
theorem foldV_ok (kind : Int) {v : Vl} (hv : v.ok) {l : List Vl} (hl : okL l) : (foldV kind v l).ok := by
  induction l generalizing v with
  | nil => exact hv
  | cons x l ih => exact ih (mergeV_ok kind hv (hl x (by simp))) (fun y hy => hl y (List.mem_cons_of_mem _ hy))
theorem foldV_fit (kind : Int) {v : Vl} (hv : fitV kind v = v) (l : List Vl) : fitV kind (foldV kind v l) = foldV kind v l := by
  induction l generalizing v with
  | nil => exact hv
  | cons x l ih => exact ih (fit_merge kind v x)
theorem foldV_start (kind : Int) {v : Vl} {l : List Vl} (hv : v.ok) (fv : fitV kind v = v) (hl : okL l) : foldV kind v l = mergeV kind v (foldV kind noV l) := by
  induction l generalizing v with
  | nil => show v = mergeV kind v noV; rw [merge_no, fv]
  | cons x l ih =>
    have hx : x.ok := hl x (by simp)
    have hl' : okL l := fun y hy => hl y (List.mem_cons_of_mem _ hy)
    show foldV kind (mergeV kind v x) l = mergeV kind v (foldV kind (mergeV kind noV x) l)
    rw [ih (mergeV_ok kind hv hx) (fit_merge kind v x) hl', ih (mergeV_ok kind noV_ok hx) (fit_merge kind noV x) hl']
    rw [merge_assoc kind hv hx (foldV_ok kind noV_ok hl'), merge_assoc kind noV_ok hx (foldV_ok kind noV_ok hl'), no_merge, fit_merge]
theorem foldV_append (kind : Int) {l m : List Vl} (hl : okL l) (hm : okL m) : foldV kind noV (l ++ m) = mergeV kind (foldV kind noV l) (foldV kind noV m) := by
  unfold foldV
  rw [List.foldl_append]
  exact foldV_start kind (foldV_ok kind noV_ok hl) (foldV_fit kind (fitV_no kind) l) hm
theorem foldV_perm (kind : Int) {l m : List Vl} (h : l.Perm m) (hl : okL l) : foldV kind noV l = foldV kind noV m := by
  induction h with
  | nil => rfl
  | cons x h ih =>
    rename_i l1 l2
    have hx : x.ok := hl x (by simp)
    have h1 : okL l1 := fun y hy => hl y (List.mem_cons_of_mem _ hy)
    have h2 : okL l2 := fun y hy => h1 y (h.mem_iff.2 hy)
    show foldV kind (mergeV kind noV x) l1 = foldV kind (mergeV kind noV x) l2
    rw [foldV_start kind (mergeV_ok kind noV_ok hx) (fit_merge kind noV x) h1, foldV_start kind (mergeV_ok kind noV_ok hx) (fit_merge kind noV x) h2, ih h1]
  | swap x y l =>
    have hx : x.ok := hl x (by simp)
    have hy : y.ok := hl y (by simp)
    show foldV kind (mergeV kind (mergeV kind noV y) x) l = foldV kind (mergeV kind (mergeV kind noV x) y) l
    rw [merge_assoc kind noV_ok hy hx, merge_assoc kind noV_ok hx hy, merge_comm kind hx hy]
  | trans h1 h2 ih1 ih2 =>
    rw [ih1 hl, ih2 (fun y hy => hl y (h1.mem_iff.2 hy))]

theorem at_ok {l : List Pr} (h : okT l) (k : Nat) : okL (atT k l) := by
  intro v hv
  unfold atT at hv
  obtain ⟨p, hp, rfl⟩ := List.mem_map.1 hv
  exact (h p (List.mem_filter.1 hp).1).2
theorem at_append (k : Nat) (l m : List Pr) : atT k (l ++ m) = atT k l ++ atT k m := by unfold atT; rw [List.filter_append, List.map_append]

/-- In a table each key stands once. -/
theorem at_rise {t : List Pr} (h : Rise t) (kind : Int) (k : Nat) : foldV kind noV (atT k t) = fitV kind (getT k t) := by
  induction t with
  | nil => show noV = fitV kind noV; rw [fitV_no]
  | cons a t ih =>
    obtain ⟨h1, h2⟩ := List.pairwise_cons.1 h
    by_cases e : a.k = k
    · have e1 : atT k (a :: t) = [a.v] := by
        unfold atT
        rw [List.filter_cons_of_pos (by simpa using e)]
        have : t.filter (fun p => p.k == k) = [] := List.filter_eq_nil_iff.2 fun p hp => by have := h1 p hp; simp; omega
        rw [this]; rfl
      have e2 : getT k (a :: t) = a.v := if_pos e
      rw [e1, e2]
      show mergeV kind noV a.v = _
      rw [no_merge]
    · have e1 : atT k (a :: t) = atT k t := by unfold atT; rw [List.filter_cons_of_neg (by simpa using e)]
      have e2 : getT k (a :: t) = getT k t := if_neg e
      rw [e1, e2, ih h2]

theorem merge_fit_l (kind : Int) (a b : Vl) : mergeV kind (fitV kind a) b = mergeV kind a b := by unfold mergeV; rw [fitV_fitV]
theorem merge_fit_r (kind : Int) (a b : Vl) : mergeV kind a (fitV kind b) = mergeV kind a b := by unfold mergeV; rw [fitV_fitV]

/-- What two tables together have at a key. -/
theorem get_add {a b : List Pr} (ra : Rise a) (rb : Rise b) (oa : okT a) (ob : okT b) (kind : Int) (k : Nat) : getT k (addT kind a b) = mergeV kind (getT k a) (getT k b) := by
  unfold addT
  rw [get_adds, at_append]
  show foldV kind noV _ = _
  rw [foldV_append kind (at_ok oa k) (at_ok ob k), at_rise ra, at_rise rb, merge_fit_l, merge_fit_r]

theorem rise_nil : Rise [] := List.Pairwise.nil
theorem has_nil : hasT [] := fun p hp => by simp at hp
theorem ok_nil : okT [] := fun p hp => by simp at hp

theorem kept_append (l : List Stp) (kind : Int) (a b : List Rcd) : keptT l kind (a ++ b) = keptT l kind a ++ keptT l kind b := by unfold keptT; rw [List.filterMap_append]
theorem kept_has {l : List Stp} {kind : Int} (hk : knownB kind = true) (recs : List Rcd) : hasT (keptT l kind recs) := by
  intro p hp
  obtain ⟨r, _, h⟩ := List.mem_filterMap.1 hp
  split at h
  · cases h
    show (ofV kind _).h = true
    rcases known_kind.1 hk with rfl | rfl | rfl | rfl <;> rfl
  · cases h
theorem rise_batch (l : List Stp) (kind : Int) (recs : List Rcd) : Rise (batchT l kind recs) := rise_adds rise_nil _
theorem has_batch {l : List Stp} {kind : Int} (hk : knownB kind = true) (recs : List Rcd) : hasT (batchT l kind recs) := has_adds hk has_nil (kept_has hk recs)

/-- Records in another order make the same table. -/
theorem batch_perm {l : List Stp} {kind : Int} (hk : knownB kind = true) {a b : List Rcd} (h : a.Perm b) (ho : okT (keptT l kind a)) : batchT l kind a = batchT l kind b := by
  refine ext_T (rise_batch _ _ _) (rise_batch _ _ _) (has_batch hk _) (has_batch hk _) fun k => ?_
  unfold batchT
  rw [get_adds, get_adds]
  exact foldV_perm kind (((h.filterMap _).filter _).map _) (at_ok ho k)

theorem get_batch_append {l : List Stp} {kind : Int} {a b : List Rcd} (oa : okT (keptT l kind a)) (ob : okT (keptT l kind b)) (k : Nat) : getT k (batchT l kind (a ++ b)) = mergeV kind (getT k (batchT l kind a)) (getT k (batchT l kind b)) := by
  unfold batchT
  rw [get_adds, get_adds, get_adds, kept_append, at_append]
  exact foldV_append kind (at_ok oa k) (at_ok ob k)

/-- Two parts together. -/
theorem batch_cut {l : List Stp} {kind : Int} (hk : knownB kind = true) {a b : List Rcd} (oa : okT (keptT l kind a)) (ob : okT (keptT l kind b)) : addT kind (batchT l kind a) (batchT l kind b) = batchT l kind (a ++ b) := by
  refine ext_T (rise_adds rise_nil _) (rise_batch _ _ _) (has_adds hk has_nil ?_) (has_batch hk _) fun k => ?_
  · intro p hp
    rcases List.mem_append.1 hp with h | h
    · exact has_batch hk a p h
    · exact has_batch hk b p h
  · rw [get_batch_append oa ob, get_add (rise_batch _ _ _) (rise_batch _ _ _) (ok_adds ok_nil oa) (ok_adds ok_nil ob)]

theorem add_comm {kind : Int} (hk : knownB kind = true) {a b : List Pr} (ra : Rise a) (rb : Rise b) (oa : okT a) (ob : okT b) (ha : hasT a) (hb : hasT b) : addT kind a b = addT kind b a := by
  have hh : ∀ {x y : List Pr}, hasT x → hasT y → hasT (x ++ y) := fun hx hy p hp => by
    rcases List.mem_append.1 hp with h | h
    · exact hx p h
    · exact hy p h
  refine ext_T (rise_adds rise_nil _) (rise_adds rise_nil _) (has_adds hk has_nil (hh ha hb)) (has_adds hk has_nil (hh hb ha)) fun k => ?_
  rw [get_add ra rb oa ob, get_add rb ra ob oa, merge_comm kind (get_ok oa k) (get_ok ob k)]
end Go.Proofs.Ytfcpooihihklaab
