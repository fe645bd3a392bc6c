/- A map from keys to values that a call itself makes: a table; gone through in any order it is the table's pairs, sorted it is the table. -/
import Derived.Test.YtofkhgokfdpdiabGreatB02
import Derived.Test.YtofkhgokfdpdiabGreatB03
import Derived.BigQuiet
import Derived.Deep.QuietTactic
import Derived.Laws.AppendOwnNone
import Derived.OwnWalk
import Derived.Maps.RangeWalk
set_option maxRecDepth 100000
set_option maxHeartbeats 16000000
namespace Go.Proofs.YtofkhgokfdpdiabGreat
section
open Ieee Go.RowKit

theorem fitV_no (k : Int) : fitV k noV = noV := by unfold fitV; rw [if_pos (show noV.h = false from rfl)]
theorem fitV_12 {k : Int} (h : k = 1 ∨ k = 2) (b : Nat) : fitV k ⟨true, b⟩ = ⟨true, b⟩ := by unfold fitV; rw [if_neg (by simp), if_pos h]
theorem fitV_34 {k : Int} (h : k = 3 ∨ k = 4) (b : Nat) : fitV k ⟨true, b⟩ = ⟨true, canonW b⟩ := by unfold fitV; rw [if_neg (by simp), if_neg (by omega), if_pos h]
theorem fitV_un {k : Int} (h : knownB k = false) (v : Vl) : fitV k v = noV := by
 have := unknown_kind h
 unfold fitV
 split
 ·rfl
 rw [if_neg (by omega), if_neg (by omega)]
theorem fitV_f (k : Int) (b : Nat) : fitV k ⟨false, b⟩ = noV := by unfold fitV; rw [if_pos rfl]
theorem fit_ways (k : Int) (v : Vl) : (fitV k v = noV ∧ (v.h = false ∨ knownB k = false)) ∨ (v.h = true ∧ (k = 1 ∨ k = 2) ∧ fitV k v = ⟨true, v.b⟩) ∨ (v.h = true ∧ (k = 3 ∨ k = 4) ∧ fitV k v = ⟨true, canonW v.b⟩) := by
 obtain ⟨h, b⟩ := v
 cases h
 ·exact .inl ⟨fitV_f k b, .inl rfl⟩
 cases hk : knownB k
 ·exact .inl ⟨fitV_un hk _, .inr rfl⟩
 rcases known_kind.1 hk with h | h | h | h
 ·exact .inr (.inl ⟨rfl, .inl h, fitV_12 (.inl h) b⟩)
 ·exact .inr (.inl ⟨rfl, .inr h, fitV_12 (.inr h) b⟩)
 ·exact .inr (.inr ⟨rfl, .inl h, fitV_34 (.inl h) b⟩)
 ·exact .inr (.inr ⟨rfl, .inr h, fitV_34 (.inr h) b⟩)
theorem fitV_fitV (k : Int) (v : Vl) : fitV k (fitV k v) = fitV k v := by
 rcases fit_ways k v with ⟨e, _⟩ | ⟨_, h, e⟩ | ⟨_, h, e⟩
 ·rw [e, fitV_no]
 ·rw [e, fitV_12 h]
 ·rw [e, fitV_34 h, canonW_canonW]
theorem fit_join (k : Int) {a b : Vl} (ha : fitV k a = a) (hb : fitV k b = b) : fitV k (joinV k a b) = joinV k a b := by
 unfold joinV
 split
 ·exact hb
 split
 ·exact ha
 split
 ·rename_i h; subst h; rw [fitV_34 (.inl rfl), canonW_leastW]
 split
 ·rename_i h; subst h; rw [fitV_34 (.inr rfl), canonW_mostW]
 ·rename_i h1 h2 h3 h4
  have h12 : k = 1 ∨ k = 2 := by
   rcases fit_ways k a with ⟨e, _⟩ | ⟨_, h, e⟩ | ⟨_, h, e⟩
   ·exact absurd (by rw [← ha, e]; rfl) h1
   ·exact h
   ·omega
  rw [fitV_12 h12]
theorem fit_merge (k : Int) (a b : Vl) : fitV k (mergeV k a b) = mergeV k a b := fit_join k (fitV_fitV k a) (fitV_fitV k b)
theorem fit_has {k : Int} (h : knownB k = true) (a : Vl) : (fitV k a).h = a.h := by
 rcases fit_ways k a with ⟨e, h1 | h1⟩ | ⟨h1, _, e⟩ | ⟨h1, _, e⟩
 ·rw [e, h1]; rfl
 ·rw [h] at h1; cases h1
 ·rw [e, h1]
 ·rw [e, h1]
theorem merge_has {k : Int} (h : knownB k = true) (a b : Vl) : (mergeV k a b).h = (a.h || b.h) := by
 have e1 := fit_has h a
 have e2 := fit_has h b
 unfold mergeV joinV
 rw [← e1, ← e2]
 split
 ·rename_i g; rw [g]; rfl
 split
 ·rename_i g1 g2; rw [g2]; simp
 split
 ·rename_i g1 g2 _; simp at g1; simp [g1]
 split
 ·rename_i g1 g2 _ _; simp at g1; simp [g1]
 ·rename_i g1 g2 _ _; simp at g1; simp [g1]
end
section
open Ieee

structure Pr where
 k : Nat
 v : Vl
def Pr.ok (p : Pr) : Prop := p.k < 18446744073709551616 ∧ p.v.ok
def okT (t : List Pr) : Prop := ∀ p ∈ t, p.ok
def Rise (t : List Pr) : Prop := t.Pairwise (fun p q => p.k < q.k)
def hasT (t : List Pr) : Prop := ∀ p ∈ t, p.v.h = true
def getT (k : Nat) : List Pr → Vl
 | [] => noV
 | p :: t => if p.k = k then p.v else getT k t
def putT (k : Nat) (v : Vl) : List Pr → List Pr
 | [] => [⟨k, v⟩]
 | p :: t => if k < p.k then ⟨k, v⟩ :: p :: t else if k = p.k then ⟨k, v⟩ :: t else p :: putT k v t
def withT (kind : Int) (k : Nat) (v : Vl) (t : List Pr) : List Pr := putT k (mergeV kind (getT k t) v) t
def addsT (kind : Int) (t : List Pr) (l : List Pr) : List Pr := l.foldl (fun t p => withT kind p.k p.v t) t
def keptT (l : List Stp) (kind : Int) (recs : List Rcd) : List Pr := recs.filterMap (fun r => if (runS l r).1 = 1 then some ⟨(runS l r).2.k, ofV kind (runS l r).2.x⟩ else none)
def trapN (l : List Stp) (recs : List Rcd) : Nat := recs.countP (fun r => decide ((runS l r).1 = 3))
def batchT (l : List Stp) (kind : Int) (recs : List Rcd) : List Pr := addsT kind [] (keptT l kind recs)
theorem put_head (k : Nat) (v : Vl) (t : List Pr) : ∀ p ∈ putT k v t, p.k = k ∨ ∃ q ∈ t, q.k = p.k := by
 induction t with
 | nil => intro p hp; simp [putT] at hp; subst hp; exact Or.inl rfl
 | cons a t ih =>
  intro p hp
  unfold putT at hp
  split at hp
  ·rcases List.mem_cons.1 hp with rfl | hp
   ·exact Or.inl rfl
   ·exact Or.inr ⟨p, hp, rfl⟩
  ·split at hp
   ·rcases List.mem_cons.1 hp with rfl | hp
    ·exact Or.inl rfl
    ·exact Or.inr ⟨p, List.mem_cons_of_mem _ hp, rfl⟩
   ·rcases List.mem_cons.1 hp with rfl | hp
    ·exact Or.inr ⟨p, by simp, rfl⟩
    ·rcases ih p hp with h | ⟨q, hq, h⟩
     ·exact Or.inl h
     ·exact Or.inr ⟨q, List.mem_cons_of_mem _ hq, h⟩
theorem rise_put {t : List Pr} (h : Rise t) (k : Nat) (v : Vl) : Rise (putT k v t) := by
 induction t with
 | nil => simp [putT, Rise]
 | cons a t ih =>
  obtain ⟨h1, h2⟩ := List.pairwise_cons.1 h
  unfold putT
  split
  ·rename_i hlt
   refine List.pairwise_cons.2 ⟨fun q hq => ?_, h⟩
   rcases List.mem_cons.1 hq with rfl | hq
   ·exact hlt
   ·exact Nat.lt_trans hlt (h1 q hq)
  ·split
   ·rename_i e
    exact List.pairwise_cons.2 ⟨fun q hq => by show k < q.k; rw [e]; exact h1 q hq, h2⟩
   ·refine List.pairwise_cons.2 ⟨fun q hq => ?_, ih h2⟩
    rcases put_head k v t q hq with h | ⟨p, hp, h⟩
    ·rw [h]; omega
    ·rw [← h]; exact h1 p hp
theorem put_mem {k : Nat} {v : Vl} {t : List Pr} {p : Pr} (h : p ∈ putT k v t) : p = ⟨k, v⟩ ∨ p ∈ t := by
 induction t with
 | nil => simpa [putT] using h
 | cons a t ih =>
  unfold putT at h
  split at h
  ·rcases List.mem_cons.1 h with h | h
   ·exact Or.inl h
   ·exact Or.inr h
  ·split at h
   ·rcases List.mem_cons.1 h with h | h
    ·exact Or.inl h
    ·exact Or.inr (List.mem_cons_of_mem _ h)
   ·rcases List.mem_cons.1 h with h | h
    ·exact Or.inr (by rw [h]; simp)
    ·rcases ih h with h | h
     ·exact Or.inl h
     ·exact Or.inr (List.mem_cons_of_mem _ h)
theorem has_put {k : Nat} {v : Vl} {t : List Pr} (ht : hasT t) (hv : v.h = true) : hasT (putT k v t) := fun p hp => by
 rcases put_mem hp with rfl | h
 ·exact hv
 ·exact ht p h
theorem ok_put {k : Nat} {v : Vl} {t : List Pr} (ht : okT t) (hk : k < 18446744073709551616) (hv : v.ok) : okT (putT k v t) := fun p hp => by
 rcases put_mem hp with rfl | h
 ·exact ⟨hk, hv⟩
 ·exact ht p h
theorem put_len (k : Nat) (v : Vl) (t : List Pr) : (putT k v t).length ≤ t.length + 1 := by
 induction t with
 | nil => simp [putT]
 | cons a t ih =>
  unfold putT
  split
  ·simp
  ·split
   ·simp
   ·simp; exact ih
theorem get_ok {t : List Pr} (h : okT t) (k : Nat) : (getT k t).ok := by
 induction t with
 | nil => exact noV_ok
 | cons a t ih =>
  unfold getT
  split
  ·exact (h a (by simp)).2
  ·exact ih (fun p hp => h p (List.mem_cons_of_mem _ hp))
theorem adds_cons (kind : Int) (t : List Pr) (p : Pr) (l : List Pr) : addsT kind t (p :: l) = addsT kind (withT kind p.k p.v t) l := rfl
theorem adds_append (kind : Int) (t l m : List Pr) : addsT kind t (l ++ m) = addsT kind (addsT kind t l) m := by unfold addsT; rw [List.foldl_append]
theorem adds_snoc (kind : Int) (t l : List Pr) (p : Pr) : addsT kind t (l ++ [p]) = withT kind p.k p.v (addsT kind t l) := by rw [adds_append]; rfl
theorem rise_with {kind : Int} {t : List Pr} (h : Rise t) (k : Nat) (v : Vl) : Rise (withT kind k v t) := rise_put h k _
theorem rise_adds {kind : Int} {t : List Pr} (h : Rise t) (l : List Pr) : Rise (addsT kind t l) := by
 induction l generalizing t with
 | nil => exact h
 | cons p l ih => exact ih (rise_with h p.k p.v)
theorem ok_with {kind : Int} {t : List Pr} (h : okT t) {k : Nat} {v : Vl} (hk : k < 18446744073709551616) (hv : v.ok) : okT (withT kind k v t) := ok_put h hk (mergeV_ok kind (get_ok h k) hv)
theorem ok_adds {kind : Int} {t : List Pr} (h : okT t) {l : List Pr} (hl : okT l) : okT (addsT kind t l) := by
 induction l generalizing t with
 | nil => exact h
 | cons p l ih => exact ih (ok_with h (hl p (by simp)).1 (hl p (by simp)).2) (fun q hq => hl q (List.mem_cons_of_mem _ hq))
theorem has_with {kind : Int} (hk : knownB kind = true) {t : List Pr} (h : hasT t) {k : Nat} {v : Vl} (hv : v.h = true) : hasT (withT kind k v t) := has_put h (by rw [merge_has hk, hv, Bool.or_true])
theorem has_adds {kind : Int} (hk : knownB kind = true) {t : List Pr} (h : hasT t) {l : List Pr} (hl : hasT l) : hasT (addsT kind t l) := by
 induction l generalizing t with
 | nil => exact h
 | cons p l ih => exact ih (has_with hk h (hl p (by simp))) (fun q hq => hl q (List.mem_cons_of_mem _ hq))
theorem adds_len (kind : Int) (t l : List Pr) : (addsT kind t l).length ≤ t.length + l.length := by
 induction l generalizing t with
 | nil => simp [addsT]
 | cons p l ih =>
  have h1 := ih (withT kind p.k p.v t)
  have h2 : (withT kind p.k p.v t).length ≤ t.length + 1 := put_len _ _ _
  rw [adds_cons]; simp only [List.length_cons]; omega
theorem rise_nil : Rise [] := List.Pairwise.nil
theorem has_nil : hasT [] := fun p hp => by simp at hp
theorem ok_nil : okT [] := fun p hp => by simp at hp
theorem kept_append (l : List Stp) (kind : Int) (a b : List Rcd) : keptT l kind (a ++ b) = keptT l kind a ++ keptT l kind b := by unfold keptT; rw [List.filterMap_append]
theorem kept_has {l : List Stp} {kind : Int} (hk : knownB kind = true) (recs : List Rcd) : hasT (keptT l kind recs) := by
 intro p hp
 obtain ⟨r, _, h⟩ := List.mem_filterMap.1 hp
 split at h
 ·cases h
  show (ofV kind _).h = true
  rcases known_kind.1 hk with rfl | rfl | rfl | rfl <;> rfl
 ·cases h
theorem rise_batch (l : List Stp) (kind : Int) (recs : List Rcd) : Rise (batchT l kind recs) := rise_adds rise_nil _
theorem has_batch {l : List Stp} {kind : Int} (hk : knownB kind = true) (recs : List Rcd) : hasT (batchT l kind recs) := has_adds hk has_nil (kept_has hk recs)
end
section
open Ieee Go.RowKit

def Ql (w : World) (ao : Option Addr) (l : List Pr) : Prop :=
 ∀ i, (h : i < l.length) → ∃ b off, ao = some ⟨b, off, none⟩ ∧ w.cell? ⟨b, off + i * 3, none⟩ = some (.int .u64 l[i].k) ∧ w.cell? ⟨b, off + i * 3 + 1, none⟩ = some (.bool l[i].v.h) ∧ w.cell? ⟨b, off + i * 3 + 2, none⟩ = some (.int .u64 l[i].v.b)
def Qv (w : World) (v : Value) (l : List Pr) : Prop :=
 (∃ ao cap, v = .slice ao l.length cap ∧ l.length ≤ cap ∧ cap ≤ maxLen ∧ (ao = none → cap = 0) ∧ Ql w ao l) ∧ ∀ o ∈ l, o.ok
theorem Ql.below {w w' : World} {ao : Option Addr} {l : List Pr} (h : Ql w ao l) (hb : Below w.heap.size w w') : Ql w' ao l := by
 intro i hi
 obtain ⟨b, off, e, h0, h1, h2⟩ := h i hi
 exact ⟨b, off, e, by rw [hb.cell (p := ⟨b, off + i * 3, none⟩) (cell_lt h0)]; exact h0, by rw [hb.cell (p := ⟨b, off + i * 3 + 1, none⟩) (cell_lt h1)]; exact h1, by rw [hb.cell (p := ⟨b, off + i * 3 + 2, none⟩) (cell_lt h2)]; exact h2⟩
theorem Qv.below {w w' : World} {v : Value} {l : List Pr} (h : Qv w v l) (hb : Below w.heap.size w w') : Qv w' v l := by
 obtain ⟨⟨ao, cap, e, h1, h2, h3, h4⟩, h5⟩ := h
 exact ⟨⟨ao, cap, e, h1, h2, h3, h4.below hb⟩, h5⟩
def flatQ (l : List Pr) : List Value := l.flatMap fun o => [.int .u64 o.k, .bool o.v.h, .int .u64 o.v.b]
theorem flatQ_len (l : List Pr) : (flatQ l).length = l.length * 3 := by
 unfold flatQ
 induction l with
 | nil => rfl
 | cons o l ih => rw [List.flatMap_cons, List.length_append, ih]; simp; omega
theorem flatQ_append (l m : List Pr) : flatQ (l ++ m) = flatQ l ++ flatQ m := by unfold flatQ; exact List.flatMap_append
theorem flatQ_get (l : List Pr) : ∀ (i : Nat) (h : i < l.length), (flatQ l)[i * 3]? = some (.int .u64 l[i].k) ∧ (flatQ l)[i * 3 + 1]? = some (.bool l[i].v.h) ∧ (flatQ l)[i * 3 + 2]? = some (.int .u64 l[i].v.b) := by
 induction l with
 | nil => intro i h; simp at h
 | cons o l ih =>
  intro i h
  have e : flatQ (o :: l) = .int .u64 o.k :: .bool o.v.h :: .int .u64 o.v.b :: flatQ l := rfl
  rw [e]
  cases i with
  | zero => simp
  | succ i =>
   have := ih i (by simpa using h)
   rw [show (i + 1) * 3 = i * 3 + 1 + 1 + 1 by omega]
   simpa using this
theorem flatQ_mem {l : List Pr} {u : Value} (h : u ∈ flatQ l) : u.oneCell' = true := by
 unfold flatQ at h
 obtain ⟨o, _, ho⟩ := List.mem_flatMap.1 h
 simp at ho
 rcases ho with rfl | rfl | rfl <;> rfl
def Mq (w : World) (g : Nat) (m : List Pr) : Prop :=
 ∀ i, (h : i < m.length) → (w.cell? ⟨g, i * 3, none⟩ = some (.int .u64 m[i].k) ∧ w.cell? ⟨g, i * 3 + 1, none⟩ = some (.bool m[i].v.h) ∧ w.cell? ⟨g, i * 3 + 2, none⟩ = some (.int .u64 m[i].v.b)) ∧
  (w.frozen? ⟨g, i * 3, none⟩ = false ∧ w.frozen? ⟨g, i * 3 + 1, none⟩ = false ∧ w.frozen? ⟨g, i * 3 + 2, none⟩ = false)
theorem Mq.below {w w' : World} {g B : Nat} {m : List Pr} (h : Mq w g m) (hb : Below B w w') (hl : g < B) : Mq w' g m := by
 intro i hi
 obtain ⟨⟨a, b, c⟩, d, e, f⟩ := h i hi
 exact ⟨⟨by rw [hb.cell (p := ⟨g, i * 3, none⟩) hl]; exact a, by rw [hb.cell (p := ⟨g, i * 3 + 1, none⟩) hl]; exact b, by rw [hb.cell (p := ⟨g, i * 3 + 2, none⟩) hl]; exact c⟩,
  by rw [hb.frozen (p := ⟨g, i * 3, none⟩) hl]; exact d, by rw [hb.frozen (p := ⟨g, i * 3 + 1, none⟩) hl]; exact e, by rw [hb.frozen (p := ⟨g, i * 3 + 2, none⟩) hl]; exact f⟩
theorem own_mq {w : World} {base e n cap g : Nat} {m : List Pr} (h : w.ownsRow base e 3 (.slice (some ⟨g, 0, none⟩) n cap) n (flatQ m)) : Mq w g m := by
 obtain ⟨h1, h2⟩ := h
 rw [flatQ_len] at h1
 have hn : n = m.length := by omega
 subst hn
 rcases h2 with ⟨h, _⟩ | ⟨g', cap', cur, e1, hb, hg, hnc, hcm, hcs, htake⟩
 ·cases h
 ·simp only [Value.slice.injEq, Option.some.injEq, Addr.mk.injEq] at e1
  obtain ⟨⟨rfl, _⟩, _, rfl⟩ := e1
  have key : ∀ j u, j < m.length * 3 → (flatQ m)[j]? = some u → w.cell? ⟨g, j, none⟩ = some u := by
   intro j u hj hu
   rw [cell_of_row w g j cur e (0, 0) hg, ← Array.getElem?_toList]
   rw [← htake, List.getElem?_take, if_pos hj] at hu
   exact hu
  intro i hi
  obtain ⟨a, b, c⟩ := flatQ_get m i hi
  refine ⟨⟨key _ _ (by omega) a, key _ _ (by omega) b, key _ _ (by omega) c⟩, ?_, ?_, ?_⟩
  all_goals simp [World.frozen?, hg]
theorem mq_qv {w : World} {g cap n : Nat} {m : List Pr} (h : Mq w g m) (hn : n ≤ m.length) (hc : m.length ≤ cap) (hm : cap ≤ maxLen) (hok : ∀ o ∈ m, o.ok) : Qv w (.slice (some ⟨g, 0, none⟩) n cap) (m.take n) := by
 have hl : (m.take n).length = n := by simp; omega
 refine ⟨⟨_, cap, by rw [hl], by omega, hm, by simp, fun i hi => ?_⟩, fun o ho => hok o (List.mem_of_mem_take ho)⟩
 rw [hl] at hi
 obtain ⟨⟨a, b, c⟩, _⟩ := h i (by omega)
 refine ⟨g, 0, rfl, ?_, ?_, ?_⟩
 ·simpa using a
 ·simpa using b
 ·simpa using c
theorem info_partsQ {P : Program} {e : TypeId} {z : Value} {s b : Nat} (h : (P.info? e).map (fun i => (i.zero, i.size, i.bytes)) = some (some z, s, b)) : ∃ i, P.info? e = some i ∧ i.zero = some z ∧ i.size = s ∧ i.bytes = b := by
 cases hi : P.info? e with
 | none => rw [hi] at h; cases h
 | some i =>
  rw [hi] at h
  simp at h
  exact ⟨i, rfl, h.1, h.2.1, h.2.2⟩
theorem wpList_append_qv {P : Program} {w : World} {ops : Array Oper} {rest : List Oper} {o : Oper} {a : Act} {Q : Exit → Act → World → Prop} (hgd : o.guard = none) (s x : Operand) (t : TypeId)
  (ho : o.op = .call { callee := .builtin .append, args := #[s, x], argTypes := #[t, t] })
  (base : Nat) (e : TypeId) (i0 : TypeInfo) (ht : P.underlying t = some (.slice e)) (hi : P.info? e = some i0) (hz1 : i0.size = 3)
  (g n cap : Nat) (m : List Pr) (hs : a.eval s = .slice (some ⟨g, 0, none⟩) n cap) (hown : w.ownsRow base e 3 (.slice (some ⟨g, 0, none⟩) n cap) n (flatQ m))
  (y : Value) (l : List Pr) (hx : a.eval x = y) (hy : Qv w y l) (hfit : n + l.length ≤ cap)
  (h : ∀ w', w'.ownsRow base e 3 (.slice (some ⟨g, 0, none⟩) (n + l.length) cap) (n + l.length) (flatQ (m ++ l)) → w.grownBy w' (some g) → wpList P ops Q rest (a.put o.dst (.slice (some ⟨g, 0, none⟩) (n + l.length) cap)) w') : wpList P ops Q (o :: rest) a w := by
 obtain ⟨⟨ao, c, rfl, hc1, hc2, hnone, hcells⟩, _⟩ := hy
 cases ao with
 | none =>
  obtain rfl := hnone rfl
  have hl0 : l.length = 0 := by omega
  have hl : l = [] := List.eq_nil_of_length_eq_zero hl0
  subst hl
  refine wpList_append_own_none hgd s x t ho base e i0 3 ht hi _ n (flatQ m) hs hown hx ?_
  have := h w (by simpa using hown) ⟨rfl, rfl, rfl, Nat.le_refl _, fun _ _ _ => rfl⟩
  simpa using this
 | some p =>
  refine wpList_append_fits w hgd s x t ho base e i0 3 ht hi hz1 g n cap (flatQ m) hs hown p l.length c (flatQ l) hx (flatQ_len l) ?_ (fun u hu => flatQ_mem hu) hfit (by rw [← flatQ_append]; exact h)
  intro j u hj
  have hjl : j < l.length * 3 := by
   rcases Nat.lt_or_ge j (l.length * 3) with h | h
   ·exact h
   ·rw [List.getElem?_eq_none (by rw [flatQ_len]; exact h)] at hj; cases hj
  obtain ⟨b, off, e1, g0, g1, g2⟩ := hcells (j / 3) (by omega)
  cases e1
  obtain ⟨f0, f1, f2⟩ := flatQ_get l (j / 3) (by omega)
  rw [WideShapes.add_plain]
  have hmod : j % 3 = 0 ∨ j % 3 = 1 ∨ j % 3 = 2 := by omega
  rcases hmod with hm | hm | hm
  ·have e2 : j / 3 * 3 = j := by omega
   rw [e2] at f0 g0
   rw [f0] at hj; rw [g0, hj]
  ·have e2 : j / 3 * 3 + 1 = j := by omega
   rw [Nat.add_assoc, e2] at g1
   rw [e2] at f1
   rw [f1] at hj; rw [g1, hj]
  ·have e2 : j / 3 * 3 + 2 = j := by omega
   rw [Nat.add_assoc, e2] at g2
   rw [e2] at f2
   rw [f2] at hj; rw [g2, hj]
theorem Qv.ql {w : World} {ao : Option Addr} {n cap : Nat} {l : List Pr} (h : Qv w (.slice ao n cap) l) : Ql w ao l := by
 obtain ⟨⟨ao', cap', e, _, _, _, h4⟩, _⟩ := h
 simp only [Value.slice.injEq] at e
 rw [e.1]; exact h4
theorem Mq.set {w : World} {g : Nat} {m : List Pr} (h : Mq w g m) {j : Nat} (hj : j < m.length) (o : Pr) :
  Mq (((w.setCell ⟨g, j * 3, none⟩ (.int .u64 o.k)).setCell ⟨g, j * 3 + 1, none⟩ (.bool o.v.h)).setCell ⟨g, j * 3 + 2, none⟩ (.int .u64 o.v.b)) g (m.set j o) := by
 obtain ⟨⟨a, b, c⟩, d, e, f⟩ := h j hj
 intro i hi
 rw [List.length_set] at hi
 obtain ⟨⟨a', b', c'⟩, d', e', f'⟩ := h i hi
 by_cases hij : j = i
 ·subst hij
  rw [List.getElem_set_self]
  refine ⟨⟨?_, ?_, ?_⟩, ?_, ?_, ?_⟩ <;> simp [go_sem, a, b, c, d, e, f]
 ·rw [List.getElem_set_ne hij]
  have n0 : ¬ j * 3 = i * 3 := by omega
  have n1 : ¬ j * 3 = i * 3 + 1 := by omega
  have n2 : ¬ j * 3 = i * 3 + 2 := by omega
  have n3 : ¬ j * 3 + 1 = i * 3 := by omega
  have n4 : ¬ j * 3 + 1 = i * 3 + 1 := by omega
  have n5 : ¬ j * 3 + 1 = i * 3 + 2 := by omega
  have n6 : ¬ j * 3 + 2 = i * 3 := by omega
  have n7 : ¬ j * 3 + 2 = i * 3 + 1 := by omega
  have n8 : ¬ j * 3 + 2 = i * 3 + 2 := by omega
  have k0 : ∀ (p q : Nat) (v : Value) (w : World), ¬ p = q → (w.setCell ⟨g, p, none⟩ v).cell? ⟨g, q, none⟩ = w.cell? ⟨g, q, none⟩ := fun p q v w hne => World.cell?_setCell_other w _ _ v (by rintro ⟨⟩; exact hne rfl)
  refine ⟨⟨?_, ?_, ?_⟩, ?_, ?_, ?_⟩
  ·rw [k0 _ _ _ _ n6, k0 _ _ _ _ n3, k0 _ _ _ _ n0]; exact a'
  ·rw [k0 _ _ _ _ n7, k0 _ _ _ _ n4, k0 _ _ _ _ n1]; exact b'
  ·rw [k0 _ _ _ _ n8, k0 _ _ _ _ n5, k0 _ _ _ _ n2]; exact c'
  all_goals simp [go_sem, d', e', f']
end
section
open Ieee Go.RowKit

open Go.ChangeMaps (putKey notKey)

def dV (v : Vl) : DataW Unit := .agg [.lit (.bool v.h), .lit (.int .u64 v.b)]
def kL (k : Nat) : Lit := .int .u64 k
def dT (t : List Pr) : DataW Unit := .map (t.map fun p => (kL p.k, dV p.v))
def valElem (v : Value) : Option (DataW Unit × List MemPlace) :=
 match v with
 | .agg cs => match cs.toList with
  | [.bool h, .int .u64 b] => if 0 ≤ b ∧ b < 18446744073709551616 then some (.agg [.lit (.bool h), .lit (.int .u64 b)], []) else none
  | _ => none
 | _ => none
def valV (v : Vl) : Value := .agg #[.bool v.h, .int .u64 v.b]
theorem valElem_mk {v : Vl} (h : v.ok) : valElem (valV v) = some (dV v, []) := by
 have : (0 : Int) ≤ v.b ∧ (v.b : Int) < 18446744073709551616 := by unfold Vl.ok at h; omega
 simp only [valElem, valV]
 rw [if_pos this]; rfl
theorem valElem_inv {v : Value} {z : DataW Unit × List MemPlace} (h : valElem v = some z) : ∃ u : Vl, v = valV u ∧ u.ok ∧ z = (dV u, []) := by
 unfold valElem at h
 split at h
 ·rename_i cs
  split at h
  ·rename_i hh b he
   split at h
   ·rename_i hb
    cases h
    refine ⟨⟨hh, b.toNat⟩, ?_, ?_, ?_⟩
    ·have e : ((b.toNat : Nat) : Int) = b := by omega
     show Value.agg cs = .agg #[.bool hh, .int .u64 (b.toNat : Nat)]
     rw [e]
     congr 1
     apply Array.toList_inj.1
     rw [he]
    ·show b.toNat < 18446744073709551616; omega
    ·have e : ((b.toNat : Nat) : Int) = b := by omega
     show _ = (DataW.agg [.lit (.bool hh), .lit (.int .u64 (b.toNat : Nat))], [])
     rw [e]
   ·cases h
  ·cases h
 ·cases h
theorem dV_inj {a b : Vl} (h : dV a = dV b) : a = b := by
 unfold dV at h
 simp at h
 obtain ⟨h1, h2⟩ := h
 obtain ⟨ah, ab⟩ := a
 obtain ⟨bh, bb⟩ := b
 simp only at h1 h2
 rw [h1, show ab = bb by omega]
theorem kL_same (a b : Nat) : (kL a).sameKey (kL b) = decide (a = b) := by
 unfold kL Lit.sameKey
 by_cases h : a = b
 ·subst h; simp
 ·have : ¬ ((a : Int) = b) := by omega
  simp [h, this]
theorem kL_before (a b : Nat) : (kL a).before (kL b) = decide (a < b) := by
 unfold kL Lit.before
 by_cases h : a < b
 ·have : (a : Int) < b := by omega
  simp [h, this]
 ·have : ¬ ((a : Int) < b) := by omega
  simp [h, this]
theorem atKey_T (t : List Pr) (k : Nat) : (dT t).atKey (kL k) (dV noV) = dV (getT k t) := by
 induction t with
 | nil => rfl
 | cons p t ih =>
  unfold dT DataW.atKey at ih ⊢
  simp only [List.map_cons, List.find?_cons, kL_same]
  by_cases h : p.k = k
  ·simp only [h, decide_true]; rw [show getT k (p :: t) = p.v from if_pos h]
  ·simp only [h, decide_false]; rw [show getT k (p :: t) = getT k t from if_neg h]; exact ih
theorem filter_above {t : List Pr} {k : Nat} (h : ∀ p ∈ t, k < p.k) : (t.map fun p => (kL p.k, dV p.v)).filter (notKey (kL k)) = t.map fun p => (kL p.k, dV p.v) := by
 refine List.filter_eq_self.2 fun x hx => ?_
 obtain ⟨p, hp, rfl⟩ := List.mem_map.1 hx
 unfold notKey
 rw [kL_same]
 have := h p hp
 simp; omega
theorem insert_above {t : List Pr} {k : Nat} (v : Vl) (h : ∀ p ∈ t, k < p.k) : DataW.insert (kL k, dV v) (t.map fun p => (kL p.k, dV p.v)) = (kL k, dV v) :: t.map fun p => (kL p.k, dV p.v) := by
 cases t with
 | nil => rfl
 | cons a t =>
  have := h a (by simp)
  simp only [List.map_cons, DataW.insert, kL_before]
  rw [if_pos (by simpa using this)]
theorem put_T {t : List Pr} (h : Rise t) (k : Nat) (v : Vl) : (dT t).put (kL k) (dV v) = dT (putT k v t) := by
 unfold dT
 rw [DataW.put_eq]
 congr 1
 unfold putKey
 induction t with
 | nil => rfl
 | cons a t ih =>
  obtain ⟨h1, h2⟩ := List.pairwise_cons.1 h
  unfold putT
  split
  ·rename_i hlt
   have hall : ∀ p ∈ a :: t, k < p.k := fun p hp => by
    rcases List.mem_cons.1 hp with rfl | hp
    ·exact hlt
    ·exact Nat.lt_trans hlt (h1 p hp)
   rw [filter_above hall, insert_above v hall]; rfl
  ·split
   ·rename_i hlt he
    have hall : ∀ p ∈ t, k < p.k := fun p hp => by rw [he]; exact h1 p hp
    rw [List.map_cons, List.filter_cons_of_neg (by unfold notKey; rw [kL_same]; simp [he]), filter_above hall, insert_above v hall]; rfl
   ·rename_i hlt he
    rw [List.map_cons, List.filter_cons_of_pos (by unfold notKey; rw [kL_same]; simp; omega), DataW.insert, if_neg (by rw [kL_before]; simp; omega), ih h2]; rfl
theorem size_T (t : List Pr) : Maps.size (dT t) = t.length := by simp [Maps.size, dT]
theorem has_T (t : List Pr) (k : Nat) : Maps.has (dT t) (kL k) = true ↔ ∃ p ∈ t, p.k = k := by
 unfold dT
 rw [Maps.has_eq, List.any_eq_true]
 constructor
 ·rintro ⟨x, hx, hk⟩
  obtain ⟨p, hp, rfl⟩ := List.mem_map.1 hx
  rw [kL_same] at hk
  exact ⟨p, hp, by simpa using hk⟩
 ·rintro ⟨p, hp, hk⟩
  exact ⟨_, List.mem_map.2 ⟨p, hp, rfl⟩, by rw [kL_same]; simpa using hk⟩
theorem get_mem {t : List Pr} (h : Rise t) {p : Pr} (hp : p ∈ t) : getT p.k t = p.v := by
 induction t with
 | nil => simp at hp
 | cons a t ih =>
  obtain ⟨h1, h2⟩ := List.pairwise_cons.1 h
  unfold getT
  rcases List.mem_cons.1 hp with rfl | hp
  ·rw [if_pos rfl]
  ·rw [if_neg (by have := h1 p hp; omega)]; exact ih h2 hp
theorem left_step {t : List Pr} (h : Rise t) {p : Pr} (hp : p ∈ t) (left : Lit → Bool) (hl : left (kL p.k) = true) {m : List Pr} (hm : m.Perm (t.filter fun q => !left (kL q.k))) :
  (m ++ [p]).Perm (t.filter fun q => !(left (kL q.k) && !(kL q.k).sameKey (kL p.k))) := by
 refine (List.perm_append_comm.trans ((hm.cons p))).trans ?_
 clear hm
 induction t with
 | nil => simp at hp
 | cons a t ih =>
  obtain ⟨h1, h2⟩ := List.pairwise_cons.1 h
  rcases List.mem_cons.1 hp with rfl | hp
  ·have e1 : t.filter (fun q => !(left (kL q.k) && !(kL q.k).sameKey (kL p.k))) = t.filter (fun q => !left (kL q.k)) := by
    refine List.filter_congr fun q hq => ?_
    have := h1 q hq
    rw [kL_same, decide_eq_false (by omega)]; simp
   rw [List.filter_cons_of_neg (by simp [hl]), List.filter_cons_of_pos (by rw [kL_same]; simp), e1]
  ·have hne : (kL a.k).sameKey (kL p.k) = false := by have := h1 p hp; rw [kL_same, decide_eq_false (by omega)]
   cases hla : left (kL a.k)
   ·rw [List.filter_cons_of_pos (by simp [hla]), List.filter_cons_of_pos (by simp [hla])]
    exact (List.Perm.swap _ _ _).trans ((ih h2 hp).cons a)
   ·rw [List.filter_cons_of_neg (by simp [hla]), List.filter_cons_of_neg (by simp [hla, hne])]
    exact ih h2 hp
theorem sorted_is {t m : List Pr} (h : Rise t) (hp : m.Perm t) (hs : m.Pairwise (fun p q => ¬ q.k < p.k)) : m = t := by
 induction m generalizing t with
 | nil => rw [List.nil_perm.1 hp]
 | cons a m ih =>
  obtain ⟨s1, s2⟩ := List.pairwise_cons.1 hs
  cases t with
  | nil => exact absurd hp.length_eq (by simp)
  | cons b t =>
   obtain ⟨h1, h2⟩ := List.pairwise_cons.1 h
   have hab : a = b := by
    have ha : a ∈ b :: t := hp.mem_iff.1 (by simp)
    have hb : b ∈ a :: m := hp.mem_iff.2 (by simp)
    rcases List.mem_cons.1 ha with e | ha
    ·exact e
    ·rcases List.mem_cons.1 hb with e | hb
     ·exact e.symm
     ·have k1 := h1 a ha
      have k2 := s1 b hb
      omega
   subst hab
   rw [ih h2 ((List.perm_cons a).1 hp) s2]
end
end Go.Proofs.YtofkhgokfdpdiabGreat
