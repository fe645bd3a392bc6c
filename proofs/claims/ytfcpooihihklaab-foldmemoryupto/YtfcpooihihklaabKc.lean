/- A map from keys to values that a call itself makes: a table; gone through in any order it is the table's pairs, sorted it is the table. -/
import Derived.Test.YtfcpooihihklaabKb
import Derived.Maps.RangeWalk
namespace Go.Proofs.Ytfcpooihihklaab
open Ieee Go.RowKit
open Go.ChangeMaps (putKey notKey)

def dV (v : Vl) : DataW Unit := .agg [.lit (.bool v.h), .lit (.int .u64 v.b)]
def kL (k : Nat) : Lit := .int .u64 k
def dT (t : List Pr) : DataW Unit := .map (t.map fun p => (kL p.k, dV p.v))

/-- How a value reads as a map's element. -/
def valElem (v : Value) : Option (DataW Unit × List MemPlace) :=
  match v with
  | .agg cs => match cs.toList with
    | [.bool h, .int .u64 b] => if 0 ≤ b ∧ b < 18446744073709551616 then some (.agg [.lit (.bool h), .lit (.int .u64 b)], []) else none
    | _ => none
  | _ => none

def valV (v : Vl) : Value := .agg #[.bool v.h, .int .u64 v.b]

theorem valElem_mk {v : Vl} (h : v.ok) : valElem (valV v) = some (dV v, []) := by
  have : (0 : Int) ≤ v.b ∧ (v.b : Int) < 18446744073709551616 := by unfold Vl.ok at h; omega
  simp only [valElem, valV]
  rw [if_pos this]; rfl

theorem valElem_inv {v : Value} {z : DataW Unit × List MemPlace} (h : valElem v = some z) : ∃ u : Vl, v = valV u ∧ u.ok ∧ z = (dV u, []) := by
  unfold valElem at h
  split at h
  · rename_i cs
    split at h
    · rename_i hh b he
      split at h
      · rename_i hb
        cases h
        refine ⟨⟨hh, b.toNat⟩, ?_, ?_, ?_⟩
        · have e : ((b.toNat : Nat) : Int) = b := by omega
          show Value.agg cs = .agg #[.bool hh, .int .u64 (b.toNat : Nat)]
          rw [e]
          congr 1
          apply Array.toList_inj.1
          rw [he]
        · show b.toNat < 18446744073709551616; omega
        · have e : ((b.toNat : Nat) : Int) = b := by omega
          show _ = (DataW.agg [.lit (.bool hh), .lit (.int .u64 (b.toNat : Nat))], [])
          rw [e]
      · cases h
    · cases h
  · cases h

theorem dV_inj {a b : Vl} (h : dV a = dV b) : a = b := by
  unfold dV at h
  simp at h
  obtain ⟨h1, h2⟩ := h
  obtain ⟨ah, ab⟩ := a
  obtain ⟨bh, bb⟩ := b
  simp only at h1 h2
  rw [h1, show ab = bb by omega]

theorem kL_same (a b : Nat) : (kL a).sameKey (kL b) = decide (a = b) := by
  unfold kL Lit.sameKey
  by_cases h : a = b
  · subst h; simp
  · have : ¬ ((a : Int) = b) := by omega
    simp [h, this]
theorem kL_before (a b : Nat) : (kL a).before (kL b) = decide (a < b) := by
  unfold kL Lit.before
  by_cases h : a < b
  · have : (a : Int) < b := by omega
    simp [h, this]
  · have : ¬ ((a : Int) < b) := by omega
    simp [h, this]

theorem atKey_T (t : List Pr) (k : Nat) : (dT t).atKey (kL k) (dV noV) = dV (getT k t) := by
  induction t with
  | nil => rfl
  | cons p t ih =>
    unfold dT DataW.atKey at ih ⊢
    simp only [List.map_cons, List.find?_cons, kL_same]
    by_cases h : p.k = k
    · simp only [h, decide_true]; rw [show getT k (p :: t) = p.v from if_pos h]
    · simp only [h, decide_false]; rw [show getT k (p :: t) = getT k t from if_neg h]; exact ih

theorem filter_above {t : List Pr} {k : Nat} (h : ∀ p ∈ t, k < p.k) : (t.map fun p => (kL p.k, dV p.v)).filter (notKey (kL k)) = t.map fun p => (kL p.k, dV p.v) := by
  refine List.filter_eq_self.2 fun x hx => ?_
  obtain ⟨p, hp, rfl⟩ := List.mem_map.1 hx
  unfold notKey
  rw [kL_same]
  have := h p hp
  simp; omega

theorem insert_above {t : List Pr} {k : Nat} (v : Vl) (h : ∀ p ∈ t, k < p.k) : DataW.insert (kL k, dV v) (t.map fun p => (kL p.k, dV p.v)) = (kL k, dV v) :: t.map fun p => (kL p.k, dV p.v) := by
  cases t with
  | nil => rfl
  | cons a t =>
    have := h a (by simp)
    simp only [List.map_cons, DataW.insert, kL_before]
    rw [if_pos (by simpa using this)]

theorem put_T {t : List Pr} (h : Rise t) (k : Nat) (v : Vl) : (dT t).put (kL k) (dV v) = dT (putT k v t) := by
  unfold dT
  rw [DataW.put_eq]
  congr 1
  unfold putKey
  induction t with
  | nil => rfl
  | cons a t ih =>
    obtain ⟨h1, h2⟩ := List.pairwise_cons.1 h
    unfold putT
    split
    · rename_i hlt
      have hall : ∀ p ∈ a :: t, k < p.k := fun p hp => by
        rcases List.mem_cons.1 hp with rfl | hp
        · exact hlt
        · exact Nat.lt_trans hlt (h1 p hp)
      rw [filter_above hall, insert_above v hall]; rfl
    · split
      · rename_i hlt he
        have hall : ∀ p ∈ t, k < p.k := fun p hp => by rw [he]; exact h1 p hp
        rw [List.map_cons, List.filter_cons_of_neg (by unfold notKey; rw [kL_same]; simp [he]), filter_above hall, insert_above v hall]; rfl
      · rename_i hlt he
        rw [List.map_cons, List.filter_cons_of_pos (by unfold notKey; rw [kL_same]; simp; omega), DataW.insert, if_neg (by rw [kL_before]; simp; omega), ih h2]; rfl

theorem size_T (t : List Pr) : Maps.size (dT t) = t.length := by simp [Maps.size, dT]

theorem has_T (t : List Pr) (k : Nat) : Maps.has (dT t) (kL k) = true ↔ ∃ p ∈ t, p.k = k := by
  unfold dT
  rw [Maps.has_eq, List.any_eq_true]
  constructor
  · rintro ⟨x, hx, hk⟩
    obtain ⟨p, hp, rfl⟩ := List.mem_map.1 hx
    rw [kL_same] at hk
    exact ⟨p, hp, by simpa using hk⟩
  · rintro ⟨p, hp, hk⟩
    exact ⟨_, List.mem_map.2 ⟨p, hp, rfl⟩, by rw [kL_same]; simpa using hk⟩

theorem rise_one {t : List Pr} (h : Rise t) {p q : Pr} (hp : p ∈ t) (hq : q ∈ t) (e : p.k = q.k) : p = q := by
  induction t with
  | nil => simp at hp
  | cons a t ih =>
    obtain ⟨h1, h2⟩ := List.pairwise_cons.1 h
    rcases List.mem_cons.1 hp with ea | hp'
    · rcases List.mem_cons.1 hq with eb | hq'
      · rw [ea, eb]
      · have := h1 q hq'; rw [ea] at e; omega
    · rcases List.mem_cons.1 hq with eb | hq'
      · have := h1 p hp'; rw [eb] at e; omega
      · exact ih h2 hp' hq'

theorem get_mem {t : List Pr} (h : Rise t) {p : Pr} (hp : p ∈ t) : getT p.k t = p.v := by
  induction t with
  | nil => simp at hp
  | cons a t ih =>
    obtain ⟨h1, h2⟩ := List.pairwise_cons.1 h
    unfold getT
    rcases List.mem_cons.1 hp with rfl | hp
    · rw [if_pos rfl]
    · rw [if_neg (by have := h1 p hp; omega)]; exact ih h2 hp

/-- One more pair has come. -/
theorem left_step {t : List Pr} (h : Rise t) {p : Pr} (hp : p ∈ t) (left : Lit → Bool) (hl : left (kL p.k) = true) {m : List Pr} (hm : m.Perm (t.filter fun q => !left (kL q.k))) :
    (m ++ [p]).Perm (t.filter fun q => !(left (kL q.k) && !(kL q.k).sameKey (kL p.k))) := by
  refine (List.perm_append_comm.trans ((hm.cons p))).trans ?_
  clear hm
  induction t with
  | nil => simp at hp
  | cons a t ih =>
    obtain ⟨h1, h2⟩ := List.pairwise_cons.1 h
    rcases List.mem_cons.1 hp with rfl | hp
    · have e1 : t.filter (fun q => !(left (kL q.k) && !(kL q.k).sameKey (kL p.k))) = t.filter (fun q => !left (kL q.k)) := by
        refine List.filter_congr fun q hq => ?_
        have := h1 q hq
        rw [kL_same, decide_eq_false (by omega)]; simp
      rw [List.filter_cons_of_neg (by simp [hl]), List.filter_cons_of_pos (by rw [kL_same]; simp), e1]
    · have hne : (kL a.k).sameKey (kL p.k) = false := by have := h1 p hp; rw [kL_same, decide_eq_false (by omega)]
      cases hla : left (kL a.k)
      · rw [List.filter_cons_of_pos (by simp [hla]), List.filter_cons_of_pos (by simp [hla])]
        exact (List.Perm.swap _ _ _).trans ((ih h2 hp).cons a)
      · rw [List.filter_cons_of_neg (by simp [hla]), List.filter_cons_of_neg (by simp [hla, hne])]
        exact ih h2 hp

/-- What is a table's pairs in some order, and sorted, is the table. -/
theorem sorted_is {t m : List Pr} (h : Rise t) (hp : m.Perm t) (hs : m.Pairwise (fun p q => ¬ q.k < p.k)) : m = t := by
  induction m generalizing t with
  | nil => rw [List.nil_perm.1 hp]
  | cons a m ih =>
    obtain ⟨s1, s2⟩ := List.pairwise_cons.1 hs
    cases t with
    | nil => exact absurd hp.length_eq (by simp)
    | cons b t =>
      obtain ⟨h1, h2⟩ := List.pairwise_cons.1 h
      have hab : a = b := by
        have ha : a ∈ b :: t := hp.mem_iff.1 (by simp)
        have hb : b ∈ a :: m := hp.mem_iff.2 (by simp)
        rcases List.mem_cons.1 ha with e | ha
        · exact e
        · rcases List.mem_cons.1 hb with e | hb
          · exact e.symm
          · have k1 := h1 a ha
            have k2 := s1 b hb
            omega
      subst hab
      rw [ih h2 ((List.perm_cons a).1 hp) s2]
end Go.Proofs.Ytfcpooihihklaab
