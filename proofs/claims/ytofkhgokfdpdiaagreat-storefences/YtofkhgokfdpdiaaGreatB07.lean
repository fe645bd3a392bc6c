/- Cells as numbers; contracts of cell's Revert, Resolve, Empty; of the reference's. -/
import Derived.Test.YtofkhgokfdpdiaaGreatB06
import Derived.BigQuiet
import Derived.Deep.QuietTactic
import Derived.Laws.AppendOwnNone
import Derived.OwnWalk
import Derived.Maps.RangeWalk
import Derived.Test.YtofkhgokfdpdiaaGreatB03
import Derived.Laws.StructEq
import Derived.Deep.RegionHeld3
import Derived.Deep.DeepCutAuto
import Derived.Lib.Hide
set_option maxRecDepth 100000
set_option maxHeartbeats 16000000
namespace Go.Proofs.YtofkhgokfdpdiaaGreat
section
open Ieee Go.RowKit

def Ql (w : World) (ao : Option Addr) (l : List Pr) : Prop :=
 ∀ i, (h : i < l.length) → ∃ b off, ao = some ⟨b, off, none⟩ ∧ w.cell? ⟨b, off + i * 3, none⟩ = some (.int .u64 l[i].k) ∧ w.cell? ⟨b, off + i * 3 + 1, none⟩ = some (.bool l[i].v.h) ∧ w.cell? ⟨b, off + i * 3 + 2, none⟩ = some (.int .u64 l[i].v.b)
def Qv (w : World) (v : Value) (l : List Pr) : Prop :=
 (∃ ao cap, v = .slice ao l.length cap ∧ l.length ≤ cap ∧ cap ≤ maxLen ∧ (ao = none → cap = 0) ∧ Ql w ao l) ∧ ∀ o ∈ l, o.ok
theorem Ql.below {w w' : World} {ao : Option Addr} {l : List Pr} (h : Ql w ao l) (hb : Below w.heap.size w w') : Ql w' ao l := by
 intro i hi
 obtain ⟨b, off, e, h0, h1, h2⟩ := h i hi
 exact ⟨b, off, e, by rw [hb.cell (p := ⟨b, off + i * 3, none⟩) (cell_lt h0)]; exact h0, by rw [hb.cell (p := ⟨b, off + i * 3 + 1, none⟩) (cell_lt h1)]; exact h1, by rw [hb.cell (p := ⟨b, off + i * 3 + 2, none⟩) (cell_lt h2)]; exact h2⟩
theorem Qv.below {w w' : World} {v : Value} {l : List Pr} (h : Qv w v l) (hb : Below w.heap.size w w') : Qv w' v l := by
 obtain ⟨⟨ao, cap, e, h1, h2, h3, h4⟩, h5⟩ := h
 exact ⟨⟨ao, cap, e, h1, h2, h3, h4.below hb⟩, h5⟩
def flatQ (l : List Pr) : List Value := l.flatMap fun o => [.int .u64 o.k, .bool o.v.h, .int .u64 o.v.b]
theorem flatQ_len (l : List Pr) : (flatQ l).length = l.length * 3 := by
 unfold flatQ
 induction l with
 | nil => rfl
 | cons o l ih => rw [List.flatMap_cons, List.length_append, ih]; simp; omega
theorem flatQ_append (l m : List Pr) : flatQ (l ++ m) = flatQ l ++ flatQ m := by unfold flatQ; exact List.flatMap_append
theorem flatQ_get (l : List Pr) : ∀ (i : Nat) (h : i < l.length), (flatQ l)[i * 3]? = some (.int .u64 l[i].k) ∧ (flatQ l)[i * 3 + 1]? = some (.bool l[i].v.h) ∧ (flatQ l)[i * 3 + 2]? = some (.int .u64 l[i].v.b) := by
 induction l with
 | nil => intro i h; simp at h
 | cons o l ih =>
  intro i h
  have e : flatQ (o :: l) = .int .u64 o.k :: .bool o.v.h :: .int .u64 o.v.b :: flatQ l := rfl
  rw [e]
  cases i with
  | zero => simp
  | succ i =>
   have := ih i (by simpa using h)
   rw [show (i + 1) * 3 = i * 3 + 1 + 1 + 1 by omega]
   simpa using this
theorem flatQ_mem {l : List Pr} {u : Value} (h : u ∈ flatQ l) : u.oneCell' = true := by
 unfold flatQ at h
 obtain ⟨o, _, ho⟩ := List.mem_flatMap.1 h
 simp at ho
 rcases ho with rfl | rfl | rfl <;> rfl
def Mq (w : World) (g : Nat) (m : List Pr) : Prop :=
 ∀ i, (h : i < m.length) → (w.cell? ⟨g, i * 3, none⟩ = some (.int .u64 m[i].k) ∧ w.cell? ⟨g, i * 3 + 1, none⟩ = some (.bool m[i].v.h) ∧ w.cell? ⟨g, i * 3 + 2, none⟩ = some (.int .u64 m[i].v.b)) ∧
  (w.frozen? ⟨g, i * 3, none⟩ = false ∧ w.frozen? ⟨g, i * 3 + 1, none⟩ = false ∧ w.frozen? ⟨g, i * 3 + 2, none⟩ = false)
theorem Mq.below {w w' : World} {g B : Nat} {m : List Pr} (h : Mq w g m) (hb : Below B w w') (hl : g < B) : Mq w' g m := by
 intro i hi
 obtain ⟨⟨a, b, c⟩, d, e, f⟩ := h i hi
 exact ⟨⟨by rw [hb.cell (p := ⟨g, i * 3, none⟩) hl]; exact a, by rw [hb.cell (p := ⟨g, i * 3 + 1, none⟩) hl]; exact b, by rw [hb.cell (p := ⟨g, i * 3 + 2, none⟩) hl]; exact c⟩,
  by rw [hb.frozen (p := ⟨g, i * 3, none⟩) hl]; exact d, by rw [hb.frozen (p := ⟨g, i * 3 + 1, none⟩) hl]; exact e, by rw [hb.frozen (p := ⟨g, i * 3 + 2, none⟩) hl]; exact f⟩
theorem own_mq {w : World} {base e n cap g : Nat} {m : List Pr} (h : w.ownsRow base e 3 (.slice (some ⟨g, 0, none⟩) n cap) n (flatQ m)) : Mq w g m := by
 obtain ⟨h1, h2⟩ := h
 rw [flatQ_len] at h1
 have hn : n = m.length := by omega
 subst hn
 rcases h2 with ⟨h, _⟩ | ⟨g', cap', cur, e1, hb, hg, hnc, hcm, hcs, htake⟩
 ·cases h
 ·simp only [Value.slice.injEq, Option.some.injEq, Addr.mk.injEq] at e1
  obtain ⟨⟨rfl, _⟩, _, rfl⟩ := e1
  have key : ∀ j u, j < m.length * 3 → (flatQ m)[j]? = some u → w.cell? ⟨g, j, none⟩ = some u := by
   intro j u hj hu
   rw [cell_of_row w g j cur e (0, 0) hg, ← Array.getElem?_toList]
   rw [← htake, List.getElem?_take, if_pos hj] at hu
   exact hu
  intro i hi
  obtain ⟨a, b, c⟩ := flatQ_get m i hi
  refine ⟨⟨key _ _ (by omega) a, key _ _ (by omega) b, key _ _ (by omega) c⟩, ?_, ?_, ?_⟩
  all_goals simp [World.frozen?, hg]
theorem mq_qv {w : World} {g cap n : Nat} {m : List Pr} (h : Mq w g m) (hn : n ≤ m.length) (hc : m.length ≤ cap) (hm : cap ≤ maxLen) (hok : ∀ o ∈ m, o.ok) : Qv w (.slice (some ⟨g, 0, none⟩) n cap) (m.take n) := by
 have hl : (m.take n).length = n := by simp; omega
 refine ⟨⟨_, cap, by rw [hl], by omega, hm, by simp, fun i hi => ?_⟩, fun o ho => hok o (List.mem_of_mem_take ho)⟩
 rw [hl] at hi
 obtain ⟨⟨a, b, c⟩, _⟩ := h i (by omega)
 refine ⟨g, 0, rfl, ?_, ?_, ?_⟩
 ·simpa using a
 ·simpa using b
 ·simpa using c
theorem info_partsQ {P : Program} {e : TypeId} {z : Value} {s b : Nat} (h : (P.info? e).map (fun i => (i.zero, i.size, i.bytes)) = some (some z, s, b)) : ∃ i, P.info? e = some i ∧ i.zero = some z ∧ i.size = s ∧ i.bytes = b := by
 cases hi : P.info? e with
 | none => rw [hi] at h; cases h
 | some i =>
  rw [hi] at h
  simp at h
  exact ⟨i, rfl, h.1, h.2.1, h.2.2⟩
theorem wpList_append_qv {P : Program} {w : World} {ops : Array Oper} {rest : List Oper} {o : Oper} {a : Act} {Q : Exit → Act → World → Prop} (hgd : o.guard = none) (s x : Operand) (t : TypeId)
  (ho : o.op = .call { callee := .builtin .append, args := #[s, x], argTypes := #[t, t] })
  (base : Nat) (e : TypeId) (i0 : TypeInfo) (ht : P.underlying t = some (.slice e)) (hi : P.info? e = some i0) (hz1 : i0.size = 3)
  (g n cap : Nat) (m : List Pr) (hs : a.eval s = .slice (some ⟨g, 0, none⟩) n cap) (hown : w.ownsRow base e 3 (.slice (some ⟨g, 0, none⟩) n cap) n (flatQ m))
  (y : Value) (l : List Pr) (hx : a.eval x = y) (hy : Qv w y l) (hfit : n + l.length ≤ cap)
  (h : ∀ w', w'.ownsRow base e 3 (.slice (some ⟨g, 0, none⟩) (n + l.length) cap) (n + l.length) (flatQ (m ++ l)) → w.grownBy w' (some g) → wpList P ops Q rest (a.put o.dst (.slice (some ⟨g, 0, none⟩) (n + l.length) cap)) w') : wpList P ops Q (o :: rest) a w := by
 obtain ⟨⟨ao, c, rfl, hc1, hc2, hnone, hcells⟩, _⟩ := hy
 cases ao with
 | none =>
  obtain rfl := hnone rfl
  have hl0 : l.length = 0 := by omega
  have hl : l = [] := List.eq_nil_of_length_eq_zero hl0
  subst hl
  refine wpList_append_own_none hgd s x t ho base e i0 3 ht hi _ n (flatQ m) hs hown hx ?_
  have := h w (by simpa using hown) ⟨rfl, rfl, rfl, Nat.le_refl _, fun _ _ _ => rfl⟩
  simpa using this
 | some p =>
  refine wpList_append_fits w hgd s x t ho base e i0 3 ht hi hz1 g n cap (flatQ m) hs hown p l.length c (flatQ l) hx (flatQ_len l) ?_ (fun u hu => flatQ_mem hu) hfit (by rw [← flatQ_append]; exact h)
  intro j u hj
  have hjl : j < l.length * 3 := by
   rcases Nat.lt_or_ge j (l.length * 3) with h | h
   ·exact h
   ·rw [List.getElem?_eq_none (by rw [flatQ_len]; exact h)] at hj; cases hj
  obtain ⟨b, off, e1, g0, g1, g2⟩ := hcells (j / 3) (by omega)
  cases e1
  obtain ⟨f0, f1, f2⟩ := flatQ_get l (j / 3) (by omega)
  rw [WideShapes.add_plain]
  have hmod : j % 3 = 0 ∨ j % 3 = 1 ∨ j % 3 = 2 := by omega
  rcases hmod with hm | hm | hm
  ·have e2 : j / 3 * 3 = j := by omega
   rw [e2] at f0 g0
   rw [f0] at hj; rw [g0, hj]
  ·have e2 : j / 3 * 3 + 1 = j := by omega
   rw [Nat.add_assoc, e2] at g1
   rw [e2] at f1
   rw [f1] at hj; rw [g1, hj]
  ·have e2 : j / 3 * 3 + 2 = j := by omega
   rw [Nat.add_assoc, e2] at g2
   rw [e2] at f2
   rw [f2] at hj; rw [g2, hj]
theorem Qv.ql {w : World} {ao : Option Addr} {n cap : Nat} {l : List Pr} (h : Qv w (.slice ao n cap) l) : Ql w ao l := by
 obtain ⟨⟨ao', cap', e, _, _, _, h4⟩, _⟩ := h
 simp only [Value.slice.injEq] at e
 rw [e.1]; exact h4
end
section
open Ieee Go.RowKit

open Go.ChangeMaps (putKey notKey)

def dV (v : Vl) : DataW Unit := .agg [.lit (.bool v.h), .lit (.int .u64 v.b)]
def kL (k : Nat) : Lit := .int .u64 k
def dT (t : List Pr) : DataW Unit := .map (t.map fun p => (kL p.k, dV p.v))
def valElem (v : Value) : Option (DataW Unit × List MemPlace) :=
 match v with
 | .agg cs => match cs.toList with
  | [.bool h, .int .u64 b] => if 0 ≤ b ∧ b < 18446744073709551616 then some (.agg [.lit (.bool h), .lit (.int .u64 b)], []) else none
  | _ => none
 | _ => none
def valV (v : Vl) : Value := .agg #[.bool v.h, .int .u64 v.b]
theorem valElem_mk {v : Vl} (h : v.ok) : valElem (valV v) = some (dV v, []) := by
 have : (0 : Int) ≤ v.b ∧ (v.b : Int) < 18446744073709551616 := by unfold Vl.ok at h; omega
 simp only [valElem, valV]
 rw [if_pos this]; rfl
theorem valElem_inv {v : Value} {z : DataW Unit × List MemPlace} (h : valElem v = some z) : ∃ u : Vl, v = valV u ∧ u.ok ∧ z = (dV u, []) := by
 unfold valElem at h
 split at h
 ·rename_i cs
  split at h
  ·rename_i hh b he
   split at h
   ·rename_i hb
    cases h
    refine ⟨⟨hh, b.toNat⟩, ?_, ?_, ?_⟩
    ·have e : ((b.toNat : Nat) : Int) = b := by omega
     show Value.agg cs = .agg #[.bool hh, .int .u64 (b.toNat : Nat)]
     rw [e]
     congr 1
     apply Array.toList_inj.1
     rw [he]
    ·show b.toNat < 18446744073709551616; omega
    ·have e : ((b.toNat : Nat) : Int) = b := by omega
     show _ = (DataW.agg [.lit (.bool hh), .lit (.int .u64 (b.toNat : Nat))], [])
     rw [e]
   ·cases h
  ·cases h
 ·cases h
theorem dV_inj {a b : Vl} (h : dV a = dV b) : a = b := by
 unfold dV at h
 simp at h
 obtain ⟨h1, h2⟩ := h
 obtain ⟨ah, ab⟩ := a
 obtain ⟨bh, bb⟩ := b
 simp only at h1 h2
 rw [h1, show ab = bb by omega]
theorem kL_same (a b : Nat) : (kL a).sameKey (kL b) = decide (a = b) := by
 unfold kL Lit.sameKey
 by_cases h : a = b
 ·subst h; simp
 ·have : ¬ ((a : Int) = b) := by omega
  simp [h, this]
theorem kL_before (a b : Nat) : (kL a).before (kL b) = decide (a < b) := by
 unfold kL Lit.before
 by_cases h : a < b
 ·have : (a : Int) < b := by omega
  simp [h, this]
 ·have : ¬ ((a : Int) < b) := by omega
  simp [h, this]
theorem atKey_T (t : List Pr) (k : Nat) : (dT t).atKey (kL k) (dV noV) = dV (getT k t) := by
 induction t with
 | nil => rfl
 | cons p t ih =>
  unfold dT DataW.atKey at ih ⊢
  simp only [List.map_cons, List.find?_cons, kL_same]
  by_cases h : p.k = k
  ·simp only [h, decide_true]; rw [show getT k (p :: t) = p.v from if_pos h]
  ·simp only [h, decide_false]; rw [show getT k (p :: t) = getT k t from if_neg h]; exact ih
theorem filter_above {t : List Pr} {k : Nat} (h : ∀ p ∈ t, k < p.k) : (t.map fun p => (kL p.k, dV p.v)).filter (notKey (kL k)) = t.map fun p => (kL p.k, dV p.v) := by
 refine List.filter_eq_self.2 fun x hx => ?_
 obtain ⟨p, hp, rfl⟩ := List.mem_map.1 hx
 unfold notKey
 rw [kL_same]
 have := h p hp
 simp; omega
theorem insert_above {t : List Pr} {k : Nat} (v : Vl) (h : ∀ p ∈ t, k < p.k) : DataW.insert (kL k, dV v) (t.map fun p => (kL p.k, dV p.v)) = (kL k, dV v) :: t.map fun p => (kL p.k, dV p.v) := by
 cases t with
 | nil => rfl
 | cons a t =>
  have := h a (by simp)
  simp only [List.map_cons, DataW.insert, kL_before]
  rw [if_pos (by simpa using this)]
theorem put_T {t : List Pr} (h : Rise t) (k : Nat) (v : Vl) : (dT t).put (kL k) (dV v) = dT (putT k v t) := by
 unfold dT
 rw [DataW.put_eq]
 congr 1
 unfold putKey
 induction t with
 | nil => rfl
 | cons a t ih =>
  obtain ⟨h1, h2⟩ := List.pairwise_cons.1 h
  unfold putT
  split
  ·rename_i hlt
   have hall : ∀ p ∈ a :: t, k < p.k := fun p hp => by
    rcases List.mem_cons.1 hp with rfl | hp
    ·exact hlt
    ·exact Nat.lt_trans hlt (h1 p hp)
   rw [filter_above hall, insert_above v hall]; rfl
  ·split
   ·rename_i hlt he
    have hall : ∀ p ∈ t, k < p.k := fun p hp => by rw [he]; exact h1 p hp
    rw [List.map_cons, List.filter_cons_of_neg (by unfold notKey; rw [kL_same]; simp [he]), filter_above hall, insert_above v hall]; rfl
   ·rename_i hlt he
    rw [List.map_cons, List.filter_cons_of_pos (by unfold notKey; rw [kL_same]; simp; omega), DataW.insert, if_neg (by rw [kL_before]; simp; omega), ih h2]; rfl
theorem size_T (t : List Pr) : Maps.size (dT t) = t.length := by simp [Maps.size, dT]
theorem has_T (t : List Pr) (k : Nat) : Maps.has (dT t) (kL k) = true ↔ ∃ p ∈ t, p.k = k := by
 unfold dT
 rw [Maps.has_eq, List.any_eq_true]
 constructor
 ·rintro ⟨x, hx, hk⟩
  obtain ⟨p, hp, rfl⟩ := List.mem_map.1 hx
  rw [kL_same] at hk
  exact ⟨p, hp, by simpa using hk⟩
 ·rintro ⟨p, hp, hk⟩
  exact ⟨_, List.mem_map.2 ⟨p, hp, rfl⟩, by rw [kL_same]; simpa using hk⟩
theorem get_mem {t : List Pr} (h : Rise t) {p : Pr} (hp : p ∈ t) : getT p.k t = p.v := by
 induction t with
 | nil => simp at hp
 | cons a t ih =>
  obtain ⟨h1, h2⟩ := List.pairwise_cons.1 h
  unfold getT
  rcases List.mem_cons.1 hp with rfl | hp
  ·rw [if_pos rfl]
  ·rw [if_neg (by have := h1 p hp; omega)]; exact ih h2 hp
theorem left_step {t : List Pr} (h : Rise t) {p : Pr} (hp : p ∈ t) (left : Lit → Bool) (hl : left (kL p.k) = true) {m : List Pr} (hm : m.Perm (t.filter fun q => !left (kL q.k))) :
  (m ++ [p]).Perm (t.filter fun q => !(left (kL q.k) && !(kL q.k).sameKey (kL p.k))) := by
 refine (List.perm_append_comm.trans ((hm.cons p))).trans ?_
 clear hm
 induction t with
 | nil => simp at hp
 | cons a t ih =>
  obtain ⟨h1, h2⟩ := List.pairwise_cons.1 h
  rcases List.mem_cons.1 hp with rfl | hp
  ·have e1 : t.filter (fun q => !(left (kL q.k) && !(kL q.k).sameKey (kL p.k))) = t.filter (fun q => !left (kL q.k)) := by
    refine List.filter_congr fun q hq => ?_
    have := h1 q hq
    rw [kL_same, decide_eq_false (by omega)]; simp
   rw [List.filter_cons_of_neg (by simp [hl]), List.filter_cons_of_pos (by rw [kL_same]; simp), e1]
  ·have hne : (kL a.k).sameKey (kL p.k) = false := by have := h1 p hp; rw [kL_same, decide_eq_false (by omega)]
   cases hla : left (kL a.k)
   ·rw [List.filter_cons_of_pos (by simp [hla]), List.filter_cons_of_pos (by simp [hla])]
    exact (List.Perm.swap _ _ _).trans ((ih h2 hp).cons a)
   ·rw [List.filter_cons_of_neg (by simp [hla]), List.filter_cons_of_neg (by simp [hla, hne])]
    exact ih h2 hp
theorem sorted_is {t m : List Pr} (h : Rise t) (hp : m.Perm t) (hs : m.Pairwise (fun p q => ¬ q.k < p.k)) : m = t := by
 induction m generalizing t with
 | nil => rw [List.nil_perm.1 hp]
 | cons a m ih =>
  obtain ⟨s1, s2⟩ := List.pairwise_cons.1 hs
  cases t with
  | nil => exact absurd hp.length_eq (by simp)
  | cons b t =>
   obtain ⟨h1, h2⟩ := List.pairwise_cons.1 h
   have hab : a = b := by
    have ha : a ∈ b :: t := hp.mem_iff.1 (by simp)
    have hb : b ∈ a :: m := hp.mem_iff.2 (by simp)
    rcases List.mem_cons.1 ha with e | ha
    ·exact e
    ·rcases List.mem_cons.1 hb with e | hb
     ·exact e.symm
     ·have k1 := h1 a ha
      have k2 := s1 b hb
      omega
   subst hab
   rw [ih h2 ((List.perm_cons a).1 hp) s2]
end
section
open Ieee Go.RowKit

theorem eq_val' (v : Vl) (w : World) : (Op.equalIn 10000 53 (.agg #[.bool v.h, .int .u64 v.b]) (.agg #[.bool v.h, .int .u64 v.b])).run Tryz.prog w = .ok true w := by
 have u0 := Tryz.underlying4
 have u1 := Tryz.underlying37
 have a0 := Tryz.isAgg4
 have a1 := Tryz.isAgg37
 have z0 := Tryz.sizeOf4
 have z1 := Tryz.sizeOf37
 have hS : Tryz.prog.underlying 53 = some (.struct (Tryz.prog.fieldsOf 53)) := by kernel_rfl
 have hp : Tryz.prog.stoodInHeld 53 = false := by kernel_rfl
 rw [show (10000 : Nat) = 9999 + 1 from rfl, run_equalIn_agg w 9999 53 _ _ hS hp]
 simp only [Program.fieldsOf, Tryz.underlying53]
 go_simp
theorem eql_val (v : Vl) (w : World) : (binOp .eql 53 (.agg #[.bool v.h, .int .u64 v.b]) (.agg #[.bool v.h, .int .u64 v.b])).run Tryz.prog w = .ok (.bool true) w := by
 rw [run_eql_struct, eq_val']; rfl
theorem neq_val (v : Vl) (w : World) : (binOp .neq 53 (.agg #[.bool v.h, .int .u64 v.b]) (.agg #[.bool v.h, .int .u64 v.b])).run Tryz.prog w = .ok (.bool false) w := by
 rw [run_neq_struct, eq_val']; rfl
theorem guard_val : Tryz.prog.eqGuardType Tryz.prog.depth 53 = false := by kernel_rfl
/-! ### Find -/
theorem get_at {l : List Pr} {k i : Nat} (hi : i < l.length) (h : ∀ j, (hj : j < l.length) → j < i → l[j].k ≠ k) (hk : l[i].k = k) : getT k l = l[i].v := by
 induction l generalizing i with
 | nil => simp at hi
 | cons a l ih =>
  cases i with
  | zero => exact if_pos hk
  | succ i =>
   have h0 : a.k ≠ k := h 0 (by simp) (by omega)
   show (if a.k = k then a.v else getT k l) = _
   rw [if_neg h0]
   exact ih (by simpa using hi) (fun j hj hji => h (j + 1) (by simpa using hj) (by omega)) hk
def Fr (w : World) (l : List Pr) (k : Nat) (iv : Value) (wr : World) : Prop :=
 ∃ i : Nat, i ≤ l.length ∧ iv = .int .i64 i ∧ (∀ j, (hj : j < l.length) → j < i → l[j].k ≠ k) ∧ VB wr w.heap.size noV ∧ Below w.heap.size w wr
theorem fr_step {w wr w1 : World} {l : List Pr} {k i : Nat} (hi : i < l.length) (h : ∀ j, (hj : j < l.length) → j < i → l[j].k ≠ k) (hk : l[i].k ≠ k) (hv : VB wr w.heap.size noV) (hB : Below w.heap.size w wr) (h1 : Below wr.heap.size wr w1) :
  Fr w l k (.int .i64 ((i : Int) + 1)) w1 :=
 ⟨i + 1, hi, by simp, fun j hj hji => by
  rcases Nat.lt_or_ge j i with h2 | h2
  ·exact h j hj h2
  ·obtain rfl : j = i := by omega
   exact hk, hv.below h1 (cell_lt hv.c0), below_trans hB h1⟩
theorem find_walk {ao : Option Addr} {ca : Nat} {l : List Pr} {w : World} (hl : l.length ≤ maxLen) (ha : Ql w ao l) (k : Nat) :
  Calls Tryz.prog 89 #[.slice ao l.length ca, .int .u64 k] w fun e w' => e = .returned (.agg #[.bool (getT k l).h, .int .u64 (getT k l).b]) ∧ Below w.heap.size w w' := by
 have hli : (l.length : Int) ≤ 9223372036854775807 := by simp only [maxLen] at hl; omega
 have HA : Hid (Ql w ao l) := ha
 clear ha hl
 go_in
 go_wp2_with fail
 generalize hg : w.alloc (Obj.cells #[Value.bool false, Value.int IntKind.u64 0] 53) = w0
 have hV0 : VB w0 w.heap.size noV := by rw [← hg]; constructor <;> simp [go_sem, noV]
 have hB0 : Below w.heap.size w w0 := by rw [← hg]; exact below_alloc _ _
 have R0 : Fr w l k (.int .i64 0) w0 := ⟨0, Nat.zero_le _, rfl, fun j hj h => by omega, hV0, hB0⟩
 clear hg hV0 hB0
 go_loopw [9] (fun iv wr => Fr w l k iv wr) (fun iv _ => l.length - (intOf iv).toNat)
 case atStart => exact R0
 case round =>
  clear R0
  obtain ⟨i, hi, rfl, hno, hV, hB⟩ := hrel
  have HN : Hid (∀ j, (hj : j < l.length) → j < i → l[j].k ≠ k) := hno
  have HV : Hid (VB wr w.heap.size noV) := hV
  have HW : Hid (Below w.heap.size w wr) := hB
  clear hB hV hno
  by_cases hlt : i < l.length
  ·obtain ⟨b, off, rfl, c0, c1, c2⟩ := HA.out.below HW.out i hlt
   obtain ⟨o, hoe⟩ : ∃ o, o = l[i] := ⟨_, rfl⟩
   rw [← hoe] at c0 c1 c2
   have HE : Hid (o = l[i]) := hoe
   clear hoe
   by_cases hk : o.k = k
   ·have hkb : ((o.k : Int) == (k : Int)) = true := by simp; omega
    have HK : Hid (o.k = k) := hk
    clear hk
    obtain ⟨v0, v1, _, _⟩ := HV.out.below (below_alloc wr (Obj.cells #[.int .u64 o.k, .bool o.v.h, .int .u64 o.v.b] 87)) (cell_lt HV.out.c0)
    go_wp2_with fail
    have e : getT k l = o.v := by rw [get_at hlt HN.out (by rw [← HE.out]; exact HK.out), HE.out]
    rw [e]
    refine bodyPost_ret (v := .agg #[.bool o.v.h, .int .u64 o.v.b]) (by simp [results, Tryz.results89, go_sem, v0, v1]) rfl ⟨rfl, ?_⟩
    exact ((below_trans HW.out (below_alloc _ _)).setCell (p := ⟨w.heap.size, 0, none⟩) (by simp) _).setCell (p := ⟨w.heap.size, 1, none⟩) (by simp) _
   ·have hkb : ((o.k : Int) == (k : Int)) = false := by simp; omega
    have R' := fr_step hlt HN.out (by rw [← HE.out]; exact hk) HV.out HW.out (below_alloc wr (Obj.cells #[.int .u64 o.k, .bool o.v.h, .int .u64 o.v.b] 87))
    clear hk
    go_wp2_with fail
    go_roundw
    case rel => exact R'
    case measure => simp [intOf]; omega
  ·obtain ⟨v0, v1, _, _⟩ := HV.out
   have e : getT k l = noV := get_none fun p hp => by
    obtain ⟨j, hj, rfl⟩ := List.getElem_of_mem hp
    exact HN.out j hj (by omega)
   go_wp2_with fail
   rw [e]
   refine bodyPost_ret (v := .agg #[.bool false, .int .u64 0]) (by simp [results, Tryz.results89, go_sem, v0, v1]) rfl ⟨rfl, ?_⟩
   exact (HW.out.setCell (p := ⟨w.heap.size, 0, none⟩) (by simp) _).setCell (p := ⟨w.heap.size, 1, none⟩) (by simp) _
end
section
open Ieee Go.RowKit

attribute [local go_sem] run_bits run_frombits
end
section
open Ieee Go.RowKit

structure Cl where
 k : Nat
 p : Vl
 c : Vl
 n : Int
def Cl.ok (c : Cl) : Prop := c.p.ok ∧ c.c.ok
def revC (c : Cl) (b : Int) : Cl := if b < 1 ∨ b ≠ c.n then c else ⟨c.k, c.p, c.p, c.n - 1⟩
def resC (c : Cl) (m : Int) : Vl := if c.n ≤ m then c.c else c.p
def empC (c : Cl) : Bool := !c.p.h && !c.c.h
def eqV (a b : Vl) : Bool := (a.h == b.h) && (a.b == b.b)
def fitC (k : Int) (c : Cl) : Bool := knownB k && eqV (fitV k c.p) c.p && eqV (fitV k c.c) c.c && decide (0 ≤ c.n) && decide (c.n ≤ 1099511627776)
def zeroC : Cl := ⟨0, noV, noV, 0⟩
def appI (k : Int) (c : Cl) (b : Int) : Int := if knownB k = false ∨ b < 1 then 1 else if b < c.n then 100 else 0
def aheadC (c : Cl) (b : Int) : Vl := if c.n < b then c.c else c.p
def appC (k : Int) (c : Cl) (b : Int) (v : Vl) : Cl := if appI k c b = 0 then ⟨c.k, aheadC c b, mergeV k (aheadC c b) v, b⟩ else zeroC
theorem sub_one {b : Int} (h : 1 ≤ b) (hb : b ≤ 9223372036854775807) : IntKind.i64.wrap (b - 1) = b - 1 := by
 rw [IntKind.wrap_i64]
 omega
theorem revert_walk (c : Cl) {b : Int} (hb : b ≤ 9223372036854775807) (w : World) :
  Calls Tryz.prog 219 #[.agg #[.int .u64 c.k, .bool c.p.h, .int .u64 c.p.b, .bool c.c.h, .int .u64 c.c.b, .int .i64 c.n], .int .i64 b] w fun e w' => e = .returned (.agg #[.int .u64 (revC c b).k, .bool (revC c b).p.h, .int .u64 (revC c b).p.b, .bool (revC c b).c.h, .int .u64 (revC c b).c.b, .int .i64 (revC c b).n]) ∧ Below w.heap.size w w' := by
 by_cases h : b < 1 ∨ b ≠ c.n
 ·have e : revC c b = c := if_pos h
  rw [e]
  clear e
  go_in
  go_wp2_with fail
  all_goals first
   | (exfalso; simp_all; done)
   | (exfalso; simp_all; omega)
   | (refine bodyPost_ret (by simp [results, Tryz.results219, go_sem]) rfl ⟨rfl, ?_⟩; exact below_two _ _ _)
 ·have e : revC c b = ⟨c.k, c.p, c.p, c.n - 1⟩ := if_neg h
  rw [e]
  clear e
  have h1 : 1 ≤ b := by omega
  have h2 : b = c.n := by omega
  subst h2
  have hs := sub_one h1 hb
  clear h
  go_in
  go_wp2_with fail
  all_goals first
   | (exfalso; simp_all; done)
   | (exfalso; simp_all; omega)
   | (refine bodyPost_ret (by simp [results, Tryz.results219, go_sem]) rfl ⟨rfl, ?_⟩; exact below_two _ _ _)
theorem resolve_walk (c : Cl) (m : Int) (w : World) :
  Calls Tryz.prog 159 #[.agg #[.int .u64 c.k, .bool c.p.h, .int .u64 c.p.b, .bool c.c.h, .int .u64 c.c.b, .int .i64 c.n], .int .i64 m] w fun e w' => e = .returned (.agg #[.bool (resC c m).h, .int .u64 (resC c m).b]) ∧ Below w.heap.size w w' := by
 go_in
 go_wp2_with fail
 ·rw [show resC c m = c.c from if_pos (by assumption)]
  exact bodyPost_ret (by simp [results, Tryz.results159, go_sem]) rfl ⟨rfl, below_two _ _ _⟩
 ·rw [show resC c m = c.p from if_neg (by omega)]
  exact bodyPost_ret (by simp [results, Tryz.results159, go_sem]) rfl ⟨rfl, below_two _ _ _⟩
theorem empty_walk (c : Cl) (w : World) :
  Calls Tryz.prog 123 #[.agg #[.int .u64 c.k, .bool c.p.h, .int .u64 c.p.b, .bool c.c.h, .int .u64 c.c.b, .int .i64 c.n]] w fun e w' => e = .returned (.bool (empC c)) ∧ Below w.heap.size w w' := by
 unfold empC
 cases c.p.h <;> cases c.c.h
 all_goals
  go_in
  go_wp2_with fail
  go_ret
  exact ⟨rfl, below_alloc _ _⟩
end
end Go.Proofs.YtofkhgokfdpdiaaGreat
