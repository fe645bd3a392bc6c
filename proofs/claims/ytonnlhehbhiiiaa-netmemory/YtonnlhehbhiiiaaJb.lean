/- Slices of pairs as lists; tables: contracts of fold.Sound and of the reference's. -/
import Derived.Test.YtonnlhehbhiiiaaJa

import Derived.Test.YtonnlhehbhiiiaaKb

import Derived.Laws.AppendOwnNone

import Derived.Laws.StructEq

import Derived.OwnWalk

namespace Go.Proofs.Ytonnlhehbhiiiaa

open Go.RowKit



theorem below_same (w : World) : Below w.heap.size w w := Below.refl _ _
theorem ret_int {k : IntKind} {a b : Int} (h : a = b) : Ending.returned (.int k a) = .returned (.int k b) := by rw [h]
theorem ret_bool {a b : Bool} (h : a = b) : Ending.returned (.bool a) = .returned (.bool b) := by rw [h]


/-- The cells behind ao hold the pairs l. -/
def Ql (w : World) (ao : Option Addr) (l : List Pr) : Prop :=
  ∀ i, (h : i < l.length) → ∃ b off, ao = some ⟨b, off, none⟩ ∧ w.cell? ⟨b, off + i * 3, none⟩ = some (.int .u64 l[i].k) ∧ w.cell? ⟨b, off + i * 3 + 1, none⟩ = some (.bool l[i].v.h) ∧ w.cell? ⟨b, off + i * 3 + 2, none⟩ = some (.int .u64 l[i].v.b)


/-- The value v is a slice that holds the pairs l. -/
def Qv (w : World) (v : Value) (l : List Pr) : Prop :=
  (∃ ao cap, v = .slice ao l.length cap ∧ l.length ≤ cap ∧ cap ≤ maxLen ∧ (ao = none → cap = 0) ∧ Ql w ao l) ∧ ∀ o ∈ l, o.ok


theorem Ql.below {w w' : World} {ao : Option Addr} {l : List Pr} (h : Ql w ao l) (hb : Below w.heap.size w w') : Ql w' ao l := by
  intro i hi
  obtain ⟨b, off, e, h0, h1, h2⟩ := h i hi
  exact ⟨b, off, e, by rw [hb.cell (p := ⟨b, off + i * 3, none⟩) (cell_lt h0)]; exact h0, by rw [hb.cell (p := ⟨b, off + i * 3 + 1, none⟩) (cell_lt h1)]; exact h1, by rw [hb.cell (p := ⟨b, off + i * 3 + 2, none⟩) (cell_lt h2)]; exact h2⟩
theorem Qv.below {w w' : World} {v : Value} {l : List Pr} (h : Qv w v l) (hb : Below w.heap.size w w') : Qv w' v l := by
  obtain ⟨⟨ao, cap, e, h1, h2, h3, h4⟩, h5⟩ := h
  exact ⟨⟨ao, cap, e, h1, h2, h3, h4.below hb⟩, h5⟩


/-- The cells of pairs in a row. -/
def flatQ (l : List Pr) : List Value := l.flatMap fun o => [.int .u64 o.k, .bool o.v.h, .int .u64 o.v.b]
theorem flatQ_len (l : List Pr) : (flatQ l).length = l.length * 3 := by
  unfold flatQ
  induction l with
  | nil => rfl
  | cons o l ih => rw [List.flatMap_cons, List.length_append, ih]; simp; omega
theorem flatQ_append (l m : List Pr) : flatQ (l ++ m) = flatQ l ++ flatQ m := by unfold flatQ; exact List.flatMap_append
theorem flatQ_get (l : List Pr) : ∀ (i : Nat) (h : i < l.length), (flatQ l)[i * 3]? = some (.int .u64 l[i].k) ∧ (flatQ l)[i * 3 + 1]? = some (.bool l[i].v.h) ∧ (flatQ l)[i * 3 + 2]? = some (.int .u64 l[i].v.b) := by
  induction l with
  | nil => intro i h; simp at h
  | cons o l ih =>
    intro i h
    have e : flatQ (o :: l) = .int .u64 o.k :: .bool o.v.h :: .int .u64 o.v.b :: flatQ l := rfl
    rw [e]
    cases i with
    | zero => simp
    | succ i =>
      have := ih i (by simpa using h)
      rw [show (i + 1) * 3 = i * 3 + 1 + 1 + 1 by omega]
      simpa using this
theorem flatQ_mem {l : List Pr} {u : Value} (h : u ∈ flatQ l) : u.oneCell' = true := by
  unfold flatQ at h
  obtain ⟨o, _, ho⟩ := List.mem_flatMap.1 h
  simp at ho
  rcases ho with rfl | rfl | rfl <;> rfl


/-- Block g holds the pairs m, and nothing of it is frozen. -/
def Mq (w : World) (g : Nat) (m : List Pr) : Prop :=
  ∀ i, (h : i < m.length) → (w.cell? ⟨g, i * 3, none⟩ = some (.int .u64 m[i].k) ∧ w.cell? ⟨g, i * 3 + 1, none⟩ = some (.bool m[i].v.h) ∧ w.cell? ⟨g, i * 3 + 2, none⟩ = some (.int .u64 m[i].v.b)) ∧
    (w.frozen? ⟨g, i * 3, none⟩ = false ∧ w.frozen? ⟨g, i * 3 + 1, none⟩ = false ∧ w.frozen? ⟨g, i * 3 + 2, none⟩ = false)
theorem Mq.below {w w' : World} {g B : Nat} {m : List Pr} (h : Mq w g m) (hb : Below B w w') (hl : g < B) : Mq w' g m := by
  intro i hi
  obtain ⟨⟨a, b, c⟩, d, e, f⟩ := h i hi
  exact ⟨⟨by rw [hb.cell (p := ⟨g, i * 3, none⟩) hl]; exact a, by rw [hb.cell (p := ⟨g, i * 3 + 1, none⟩) hl]; exact b, by rw [hb.cell (p := ⟨g, i * 3 + 2, none⟩) hl]; exact c⟩,
    by rw [hb.frozen (p := ⟨g, i * 3, none⟩) hl]; exact d, by rw [hb.frozen (p := ⟨g, i * 3 + 1, none⟩) hl]; exact e, by rw [hb.frozen (p := ⟨g, i * 3 + 2, none⟩) hl]; exact f⟩


theorem own_mq {w : World} {base e n cap g : Nat} {m : List Pr} (h : w.ownsRow base e 3 (.slice (some ⟨g, 0, none⟩) n cap) n (flatQ m)) : Mq w g m := by
  obtain ⟨h1, h2⟩ := h
  rw [flatQ_len] at h1
  have hn : n = m.length := by omega
  subst hn
  rcases h2 with ⟨h, _⟩ | ⟨g', cap', cur, e1, hb, hg, hnc, hcm, hcs, htake⟩
  · cases h
  · simp only [Value.slice.injEq, Option.some.injEq, Addr.mk.injEq] at e1
    obtain ⟨⟨rfl, _⟩, _, rfl⟩ := e1
    have key : ∀ j u, j < m.length * 3 → (flatQ m)[j]? = some u → w.cell? ⟨g, j, none⟩ = some u := by
      intro j u hj hu
      rw [cell_of_row w g j cur e (0, 0) hg, ← Array.getElem?_toList]
      rw [← htake, List.getElem?_take, if_pos hj] at hu
      exact hu
    intro i hi
    obtain ⟨a, b, c⟩ := flatQ_get m i hi
    refine ⟨⟨key _ _ (by omega) a, key _ _ (by omega) b, key _ _ (by omega) c⟩, ?_, ?_, ?_⟩
    all_goals simp [World.frozen?, hg]


theorem mq_qv {w : World} {g cap n : Nat} {m : List Pr} (h : Mq w g m) (hn : n ≤ m.length) (hc : m.length ≤ cap) (hm : cap ≤ maxLen) (hok : ∀ o ∈ m, o.ok) : Qv w (.slice (some ⟨g, 0, none⟩) n cap) (m.take n) := by
  have hl : (m.take n).length = n := by simp; omega
  refine ⟨⟨_, cap, by rw [hl], by omega, hm, by simp, fun i hi => ?_⟩, fun o ho => hok o (List.mem_of_mem_take ho)⟩
  rw [hl] at hi
  obtain ⟨⟨a, b, c⟩, _⟩ := h i (by omega)
  refine ⟨g, 0, rfl, ?_, ?_, ?_⟩
  · simpa using a
  · simpa using b
  · simpa using c




theorem info_partsQ {P : Program} {e : TypeId} {z : Value} {s b : Nat} (h : (P.info? e).map (fun i => (i.zero, i.size, i.bytes)) = some (some z, s, b)) : ∃ i, P.info? e = some i ∧ i.zero = some z ∧ i.size = s ∧ i.bytes = b := by
  cases hi : P.info? e with
  | none => rw [hi] at h; cases h
  | some i =>
    rw [hi] at h
    simp at h
    exact ⟨i, rfl, h.1, h.2.1, h.2.2⟩




theorem wpList_append_qv {P : Program} {w : World} {ops : Array Oper} {rest : List Oper} {o : Oper} {a : Act} {Q : Exit → Act → World → Prop} (hgd : o.guard = none) (s x : Operand) (t : TypeId)
    (ho : o.op = .call { callee := .builtin .append, args := #[s, x], argTypes := #[t, t] })
    (base : Nat) (e : TypeId) (i0 : TypeInfo) (ht : P.underlying t = some (.slice e)) (hi : P.info? e = some i0) (hz1 : i0.size = 3)
    (g n cap : Nat) (m : List Pr) (hs : a.eval s = .slice (some ⟨g, 0, none⟩) n cap) (hown : w.ownsRow base e 3 (.slice (some ⟨g, 0, none⟩) n cap) n (flatQ m))
    (y : Value) (l : List Pr) (hx : a.eval x = y) (hy : Qv w y l) (hfit : n + l.length ≤ cap)
    (h : ∀ w', w'.ownsRow base e 3 (.slice (some ⟨g, 0, none⟩) (n + l.length) cap) (n + l.length) (flatQ (m ++ l)) → w.grownBy w' (some g) → wpList P ops Q rest (a.put o.dst (.slice (some ⟨g, 0, none⟩) (n + l.length) cap)) w') : wpList P ops Q (o :: rest) a w := by
  obtain ⟨⟨ao, c, rfl, hc1, hc2, hnone, hcells⟩, _⟩ := hy
  cases ao with
  | none =>
    obtain rfl := hnone rfl
    have hl0 : l.length = 0 := by omega
    have hl : l = [] := List.eq_nil_of_length_eq_zero hl0
    subst hl
    refine wpList_append_own_none hgd s x t ho base e i0 3 ht hi _ n (flatQ m) hs hown hx ?_
    have := h w (by simpa using hown) ⟨rfl, rfl, rfl, Nat.le_refl _, fun _ _ _ => rfl⟩
    simpa using this
  | some p =>
    refine wpList_append_fits w hgd s x t ho base e i0 3 ht hi hz1 g n cap (flatQ m) hs hown p l.length c (flatQ l) hx (flatQ_len l) ?_ (fun u hu => flatQ_mem hu) hfit (by rw [← flatQ_append]; exact h)
    intro j u hj
    have hjl : j < l.length * 3 := by
      rcases Nat.lt_or_ge j (l.length * 3) with h | h
      · exact h
      · rw [List.getElem?_eq_none (by rw [flatQ_len]; exact h)] at hj; cases hj
    obtain ⟨b, off, e1, g0, g1, g2⟩ := hcells (j / 3) (by omega)
    cases e1
    obtain ⟨f0, f1, f2⟩ := flatQ_get l (j / 3) (by omega)
    rw [WideShapes.add_plain]
    have hmod : j % 3 = 0 ∨ j % 3 = 1 ∨ j % 3 = 2 := by omega
    rcases hmod with hm | hm | hm
    · have e2 : j / 3 * 3 = j := by omega
      rw [e2] at f0 g0
      rw [f0] at hj; rw [g0, hj]
    · have e2 : j / 3 * 3 + 1 = j := by omega
      rw [Nat.add_assoc, e2] at g1
      rw [e2] at f1
      rw [f1] at hj; rw [g1, hj]
    · have e2 : j / 3 * 3 + 2 = j := by omega
      rw [Nat.add_assoc, e2] at g2
      rw [e2] at f2
      rw [f2] at hj; rw [g2, hj]


theorem Qv.ql {w : World} {ao : Option Addr} {n cap : Nat} {l : List Pr} (h : Qv w (.slice ao n cap) l) : Ql w ao l := by
  obtain ⟨⟨ao', cap', e, _, _, _, h4⟩, _⟩ := h
  simp only [Value.slice.injEq] at e
  rw [e.1]; exact h4




theorem Mq.other {w : World} {g : Nat} {m : List Pr} (h : Mq w g m) {p : Addr} (hne : g ≠ p.block) (v : Value) : Mq (w.setCell p v) g m := by
  have e := Below.heap_setCell w p v g hne
  intro i hi
  obtain ⟨⟨a, b, c⟩, d, f, k⟩ := h i hi
  exact ⟨⟨by rw [World.cell?_of_block (w := w) e]; exact a, by rw [World.cell?_of_block (w := w) e]; exact b, by rw [World.cell?_of_block (w := w) e]; exact c⟩,
    by rw [World.frozen?_of_block (w := w) e]; exact d, by rw [World.frozen?_of_block (w := w) e]; exact f, by rw [World.frozen?_of_block (w := w) e]; exact k⟩


/-- A pair laid into the row. -/
theorem Mq.set {w : World} {g : Nat} {m : List Pr} (h : Mq w g m) {j : Nat} (hj : j < m.length) (o : Pr) :
    Mq (((w.setCell ⟨g, j * 3, none⟩ (.int .u64 o.k)).setCell ⟨g, j * 3 + 1, none⟩ (.bool o.v.h)).setCell ⟨g, j * 3 + 2, none⟩ (.int .u64 o.v.b)) g (m.set j o) := by
  obtain ⟨⟨a, b, c⟩, d, e, f⟩ := h j hj
  intro i hi
  rw [List.length_set] at hi
  obtain ⟨⟨a', b', c'⟩, d', e', f'⟩ := h i hi
  by_cases hij : j = i
  · subst hij
    rw [List.getElem_set_self]
    refine ⟨⟨?_, ?_, ?_⟩, ?_, ?_, ?_⟩ <;> simp [go_sem, a, b, c, d, e, f]
  · rw [List.getElem_set_ne hij]
    have n0 : ¬ j * 3 = i * 3 := by omega
    have n1 : ¬ j * 3 = i * 3 + 1 := by omega
    have n2 : ¬ j * 3 = i * 3 + 2 := by omega
    have n3 : ¬ j * 3 + 1 = i * 3 := by omega
    have n4 : ¬ j * 3 + 1 = i * 3 + 1 := by omega
    have n5 : ¬ j * 3 + 1 = i * 3 + 2 := by omega
    have n6 : ¬ j * 3 + 2 = i * 3 := by omega
    have n7 : ¬ j * 3 + 2 = i * 3 + 1 := by omega
    have n8 : ¬ j * 3 + 2 = i * 3 + 2 := by omega
    have k0 : ∀ (p q : Nat) (v : Value) (w : World), ¬ p = q → (w.setCell ⟨g, p, none⟩ v).cell? ⟨g, q, none⟩ = w.cell? ⟨g, q, none⟩ := fun p q v w hne => World.cell?_setCell_other w _ _ v (by rintro ⟨⟩; exact hne rfl)
    refine ⟨⟨?_, ?_, ?_⟩, ?_, ?_, ?_⟩
    · rw [k0 _ _ _ _ n6, k0 _ _ _ _ n3, k0 _ _ _ _ n0]; exact a'
    · rw [k0 _ _ _ _ n7, k0 _ _ _ _ n4, k0 _ _ _ _ n1]; exact b'
    · rw [k0 _ _ _ _ n8, k0 _ _ _ _ n5, k0 _ _ _ _ n2]; exact c'
    all_goals simp [go_sem, d', e', f']


theorem grown_of_below {w w' : World} (h : Below w.heap.size w w') : w.grownBy w' none := ⟨h.os, h.tape, h.output, h.size, fun i hi _ => h.block i hi⟩
theorem own3_below {w w' : World} {B e n : Nat} {v : Value} {xs : List Value} (h : w.ownsRow B e 3 v n xs) (hb : Below w.heap.size w w') : w'.ownsRow B e 3 v n xs := by
  refine h.kept (grown_of_below hb) ?_
  cases hv : v.ownBlock
  · exact Or.inl rfl
  · exact Or.inr (by simp)
theorem cell_own {w w' : World} {row : Option Nat} {p : Addr} {u : Value} (h : w.cell? p = some u) (hg : w.grownBy w' row) (hne : ∀ m, row = some m → p.block ≠ m) : w'.cell? p = some u := by
  rw [World.cell?_of_block (w := w) (hg.block p.block (cell_lt h) (fun e => hne _ e.symm rfl))]; exact h
theorem pair_cells {w : World} {g k b : Nat} {c : Bool} (h0 : w.cell? ⟨g, 0, none⟩ = some (.int .u64 k)) (h1 : w.cell? ⟨g, 1, none⟩ = some (.bool c)) (h2 : w.cell? ⟨g, 2, none⟩ = some (.int .u64 b)) :
    ∀ (j : Nat) (u : Value), ([.int .u64 k, .bool c, .int .u64 b] : List Value)[j]? = some u → w.cell? ((⟨g, 0, none⟩ : Addr).add j) = some u := by
  intro j u hj
  have : j = 0 ∨ j = 1 ∨ j = 2 ∨ 3 ≤ j := by omega
  rcases this with rfl | rfl | rfl | h
  · simp at hj; subst hj; simpa [WideShapes.add_plain] using h0
  · simp at hj; subst hj; simpa [WideShapes.add_plain] using h1
  · simp at hj; subst hj; simpa [WideShapes.add_plain] using h2
  · rw [List.getElem?_eq_none (by simpa using h)] at hj; cases hj


def Rise (t : List Pr) : Prop := t.Pairwise (fun p q => p.k < q.k)
def hasT (t : List Pr) : Prop := ∀ p ∈ t, p.v.h = true
def goodAt (t : List Pr) (i : Nat) : Prop := (∀ h : i < t.length, t[i].v.h = true) ∧ (∀ (h : i < t.length) (_ : 0 < i), t[i - 1].k < t[i].k)


theorem rise_of_good {t : List Pr} (h : ∀ i, i < t.length → goodAt t i) : Rise t := by
  unfold Rise
  rw [List.pairwise_iff_getElem]
  intro i j hi hj hij
  induction j with
  | zero => omega
  | succ j ih =>
    have h1 := (h (j + 1) hj).2 hj (by omega)
    simp only [Nat.add_sub_cancel] at h1
    rcases Nat.lt_or_ge i j with h2 | h2
    · exact Nat.lt_trans (ih (by omega) h2) h1
    · obtain rfl : i = j := by omega
      exact h1


theorem tab_iff {t : List Pr} : tabB t = true ↔ Rise t ∧ hasT t := by
  induction t with
  | nil => exact ⟨fun _ => ⟨List.Pairwise.nil, fun p hp => by simp at hp⟩, fun _ => rfl⟩
  | cons p t ih =>
    have e : tabB (p :: t) = (p.v.h && (t.all fun q => decide (p.k < q.k)) && tabB t) := rfl
    rw [e, Bool.and_eq_true, Bool.and_eq_true, ih, List.all_eq_true]
    unfold Rise hasT
    rw [List.pairwise_cons]
    constructor
    · rintro ⟨⟨h1, h2⟩, h3, h4⟩
      exact ⟨⟨fun q hq => by simpa using h2 q hq, h3⟩, fun q hq => by
        rcases List.mem_cons.1 hq with h | h
        · rw [h]; exact h1
        · exact h4 q h⟩
    · rintro ⟨⟨h2, h3⟩, h4⟩
      exact ⟨⟨h4 p (List.mem_cons_self), fun q hq => by simpa using h2 q hq⟩, h3, fun q hq => h4 q (List.mem_cons_of_mem _ hq)⟩


theorem tab_good {t : List Pr} (h : ∀ i, i < t.length → goodAt t i) : tabB t = true := by
  rw [tab_iff]
  refine ⟨rise_of_good h, fun p hp => ?_⟩
  obtain ⟨i, hi, rfl⟩ := List.getElem_of_mem hp
  exact (h i hi).1 hi


theorem tab_none {t : List Pr} {i : Nat} (hi : i < t.length) (h : t[i].v.h = false) : tabB t = false := by
  cases hb : tabB t
  · rfl
  · have := (tab_iff.1 hb).2 t[i] (List.getElem_mem hi); rw [h] at this; cases this


theorem tab_falls {t : List Pr} {i : Nat} (hi : i < t.length) (h0 : 0 < i) (h : ¬ t[i - 1].k < t[i].k) : tabB t = false := by
  cases hb : tabB t
  · rfl
  · exact absurd ((List.pairwise_iff_getElem.1 (tab_iff.1 hb).1) (i - 1) i (by omega) hi (by omega)) h


/-- Where Sound stands. -/
def Sd (w : World) (t : List Pr) (iv : Value) (wr : World) : Prop := ∃ i : Nat, i ≤ t.length ∧ iv = .int .i64 i ∧ (∀ j, j < i → goodAt t j) ∧ Below w.heap.size w wr


theorem sd_step {w wr w1 : World} {t : List Pr} {i : Nat} (hi : i < t.length) (h : ∀ j, j < i → goodAt t j) (hg : goodAt t i) (hB : Below w.heap.size w wr) (h1 : Below wr.heap.size wr w1) : Sd w t (.int .i64 ((i : Int) + 1)) w1 :=
  ⟨i + 1, hi, by simp, fun j hj => by
    rcases Nat.lt_or_ge j i with h2 | h2
    · exact h j h2
    · obtain rfl : j = i := by omega
      exact hg, below_trans hB h1⟩


theorem good_zero {t : List Pr} (hi : 0 < t.length) {o : Pr} (ho : o = t[0]) (h : o.v.h = true) : goodAt t 0 := ⟨fun _ => by rw [← ho]; exact h, fun _ h0 => by omega⟩
theorem good_more {t : List Pr} {i : Nat} (hi : i < t.length) {o q : Pr} (ho : o = t[i]) (hq : q = t[i - 1]) (h : o.v.h = true) (hk : q.k < o.k) : goodAt t i := ⟨fun _ => by rw [← ho]; exact h, fun _ _ => by rw [← ho, ← hq]; exact hk⟩


theorem wrap_small {x : Int} (h0 : 0 ≤ x) (h1 : x < 9223372036854775808) : IntKind.i64.wrap x = x := by
  rw [IntKind.wrap_i64]; omega


theorem below_alloc_drew (w : World) (o : Obj) (n : Nat) : Below w.heap.size w ((w.alloc o).drewN n) := below_trans (below_alloc _ _) (below_drewN _ _)


set_option maxRecDepth 100000 in
set_option maxHeartbeats 2000000 in
theorem fsound_walk {ao : Option Addr} {ca : Nat} {l : List Pr} {w : World} (hl : l.length ≤ maxLen) (ha : Ql w ao l) :
    Calls Try.prog 39 #[.slice ao l.length ca] w fun e w' => e = .returned (.bool (tabB l)) ∧ Below w.heap.size w w' := by
  have hli : (l.length : Int) ≤ 9223372036854775807 := by simp only [maxLen] at hl; omega
  have HA : Hid (Ql w ao l) := ha
  clear ha hl
  go_enter Try.func39, Try.ntmps39
  go_wp2_with fail
  go_loopw [7] (fun iv wr => Sd w l iv wr) (fun iv _ => l.length - (intOf iv).toNat)
  case atStart => exact ⟨0, Nat.zero_le _, rfl, fun j hj => by omega, below_same _⟩
  case round =>
    obtain ⟨i, hi, rfl, hgood, hB⟩ := hrel
    have HG : Hid (∀ j, j < i → goodAt l j) := hgood
    have HB : Hid (Below w.heap.size w wr) := hB
    clear hgood hB
    by_cases hlt : i < l.length
    · obtain ⟨b, off, rfl, c0, c1, c2⟩ := HA.out.below HB.out i hlt
      obtain ⟨o, hoe⟩ : ∃ o, o = l[i] := ⟨_, rfl⟩
      rw [← hoe] at c0 c1 c2
      have HE : Hid (o = l[i]) := hoe
      clear hoe
      cases hh : o.v.h
      · have HT : Hid (tabB l = false) := tab_none hlt (by rw [← HE.out]; exact hh)
        go_wp2_with fail
        go_ret
        exact ⟨ret_bool HT.out.symm, below_trans HB.out (below_alloc _ _)⟩
      · have HH : Hid (o.v.h = true) := hh
        rw [hh] at c1
        clear hh
        by_cases h0 : i = 0
        · subst h0
          simp only [Nat.zero_mul, Nat.add_zero] at c0 c1 c2
          have R' : ∀ n, Sd w l (.int .i64 (((0 : Nat) : Int) + 1)) ((wr.alloc (Obj.cells #[.int .u64 o.k, .bool true, .int .u64 o.v.b] 60)).drewN n) := fun n => sd_step hlt HG.out (good_zero hlt HE.out HH.out) HB.out (below_alloc_drew _ _ _)
          go_wp2_with fail
          go_quiet (fail)
          go_wp2_with fail
          go_roundw
          case rel => exact R' _
          case measure => simp [intOf]; omega
        · obtain ⟨b2, off2, e2, g0, g1, g2⟩ := HA.out.below HB.out (i - 1) (by omega)
          cases e2
          obtain ⟨q, hqe⟩ : ∃ q, q = l[i - 1] := ⟨_, rfl⟩
          rw [← hqe] at g0 g1 g2
          have HQ : Hid (q = l[i - 1]) := hqe
          clear hqe g1 g2
          have hi0 : (0 : Int) < (i : Int) := by omega
          obtain ⟨j, hj⟩ : ∃ j, i = j + 1 := ⟨i - 1, by omega⟩
          subst hj
          simp only [Nat.add_sub_cancel] at g0
          have hwj : IntKind.i64.wrap (j : Int) = j := wrap_small (by omega) (by omega)
          have hjl : j < l.length := by omega
          have g0' : ∀ x : Obj, (wr.alloc x).cell? ⟨b, off + j * 3, none⟩ = some (.int .u64 q.k) := fun x => by rw [(below_alloc wr x).cell (p := ⟨b, off + j * 3, none⟩) (cell_lt g0)]; exact g0
          by_cases hk : q.k < o.k
          · have R' : ∀ n, Sd w l (.int .i64 (((j + 1 : Nat) : Int) + 1)) ((wr.alloc (Obj.cells #[.int .u64 o.k, .bool true, .int .u64 o.v.b] 60)).drewN n) := fun n => sd_step hlt HG.out (good_more hlt HE.out HQ.out HH.out hk) HB.out (below_alloc_drew _ _ _)
            have hkb : ¬ ((o.k : Int) ≤ (q.k : Int)) := by omega
            clear hk
            go_wp2_with fail
            go_quiet (fail)
            go_wp2_with fail
            go_roundw
            case rel => exact R' _
            case measure => simp [intOf]; omega
          · have HT : Hid (tabB l = false) := tab_falls hlt (by omega) (by rw [← HE.out, ← HQ.out]; exact hk)
            have hkb : (o.k : Int) ≤ (q.k : Int) := by omega
            clear hk
            go_wp2_with fail
            go_quiet (fail)
            go_wp2_with fail
            go_ret
            exact ⟨ret_bool HT.out.symm, below_trans HB.out (below_alloc_drew _ _ _)⟩
    · have HT : Hid (tabB l = true) := tab_good fun j hj => HG.out j (by omega)
      go_wp2_with fail
      go_ret
      exact ⟨ret_bool HT.out.symm, HB.out⟩
set_option maxRecDepth 100000 in
set_option maxHeartbeats 2000000 in
theorem rfsound_walk {ao : Option Addr} {ca : Nat} {l : List Pr} {w : World} (hl : l.length ≤ maxLen) (ha : Ql w ao l) :
    Calls Try.prog 52 #[.slice ao l.length ca] w fun e w' => e = .returned (.bool (tabB l)) ∧ Below w.heap.size w w' := by
  have hli : (l.length : Int) ≤ 9223372036854775807 := by simp only [maxLen] at hl; omega
  have HA : Hid (Ql w ao l) := ha
  clear ha hl
  go_enter Try.func52, Try.ntmps52
  go_wp2_with fail
  go_loopw [3] (fun iv wr => Sd w l iv wr) (fun iv _ => l.length - (intOf iv).toNat)
  case atStart => exact ⟨0, Nat.zero_le _, rfl, fun j hj => by omega, below_same _⟩
  case round =>
    obtain ⟨i, hi, rfl, hgood, hB⟩ := hrel
    have HG : Hid (∀ j, j < i → goodAt l j) := hgood
    have HB : Hid (Below w.heap.size w wr) := hB
    clear hgood hB
    by_cases hlt : i < l.length
    · obtain ⟨b, off, rfl, c0, c1, c2⟩ := HA.out.below HB.out i hlt
      obtain ⟨o, hoe⟩ : ∃ o, o = l[i] := ⟨_, rfl⟩
      rw [← hoe] at c0 c1 c2
      have HE : Hid (o = l[i]) := hoe
      clear hoe
      have hil : (i : Int) < (l.length : Int) := by omega
      cases hh : o.v.h
      · have HT : Hid (tabB l = false) := tab_none hlt (by rw [← HE.out]; exact hh)
        rw [hh] at c1
        clear hh
        go_wp2_with fail
        go_quiet (fail)
        go_wp2_with fail
        go_ret
        exact ⟨ret_bool HT.out.symm, below_trans HB.out (below_drewN _ _)⟩
      · have HH : Hid (o.v.h = true) := hh
        rw [hh] at c1
        clear hh
        by_cases h0 : i = 0
        · subst h0
          simp only [Nat.zero_mul, Nat.add_zero] at c0 c1 c2
          have R' : ∀ n, Sd w l (.int .i64 (((0 : Nat) : Int) + 1)) (wr.drewN n) := fun n => sd_step hlt HG.out (good_zero hlt HE.out HH.out) HB.out (below_drewN _ _)
          go_wp2_with fail
          go_quiet (fail)
          go_wp2_with fail
          go_roundw
          case rel => exact R' _
          case measure => simp [intOf]; omega
        · obtain ⟨b2, off2, e2, g0, g1, g2⟩ := HA.out.below HB.out (i - 1) (by omega)
          cases e2
          obtain ⟨q, hqe⟩ : ∃ q, q = l[i - 1] := ⟨_, rfl⟩
          rw [← hqe] at g0 g1 g2
          have HQ : Hid (q = l[i - 1]) := hqe
          clear hqe g1 g2
          have hi0 : (0 : Int) < (i : Int) := by omega
          obtain ⟨j, hj⟩ : ∃ j, i = j + 1 := ⟨i - 1, by omega⟩
          subst hj
          simp only [Nat.add_sub_cancel] at g0
          have hwj : IntKind.i64.wrap (j : Int) = j := wrap_small (by omega) (by omega)
          have hjl : j < l.length := by omega
          by_cases hk : q.k < o.k
          · have R' : ∀ n, Sd w l (.int .i64 (((j + 1 : Nat) : Int) + 1)) (wr.drewN n) := fun n => sd_step hlt HG.out (good_more hlt HE.out HQ.out HH.out hk) HB.out (below_drewN _ _)
            have hkb : ¬ ((o.k : Int) ≤ (q.k : Int)) := by omega
            clear hk
            go_wp2_with fail
            go_quiet (fail)
            go_wp2_with fail
            go_roundw
            case rel => exact R' _
            case measure => simp [intOf]; omega
          · have HT : Hid (tabB l = false) := tab_falls hlt (by omega) (by rw [← HE.out, ← HQ.out]; exact hk)
            have hkb : (o.k : Int) ≤ (q.k : Int) := by omega
            clear hk
            go_wp2_with fail
            go_quiet (fail)
            go_wp2_with fail
            go_ret
            exact ⟨ret_bool HT.out.symm, below_trans HB.out (below_drewN _ _)⟩
    · have HT : Hid (tabB l = true) := tab_good fun j hj => HG.out j (by omega)
      have hil : ¬ ((i : Int) < (l.length : Int)) := by omega
      go_wp2_with fail
      go_ret
      exact ⟨ret_bool HT.out.symm, HB.out⟩


end Go.Proofs.Ytonnlhehbhiiiaa


