/- Keys put together: a rising list of both; contract of mark's Union. -/
import Derived.Test.YtkicnoohfilgjaaKf

import Derived.Test.YtkicnoohfilgjaaKg

import Derived.Test.YtkicnoohfilgjaaUi

namespace Go.Proofs.Ytkicnoohfilgjaa

open Go.RowKit



def RiseK (l : List Nat) : Prop := l.Pairwise (· < ·)
/-- A rising list with one more. -/
def insK (k : Nat) : List Nat → List Nat
  | [] => [k]
  | a :: l => if k < a then k :: a :: l else if k = a then a :: l else a :: insK k l


theorem mem_insK {k x : Nat} {l : List Nat} : x ∈ insK k l ↔ x = k ∨ x ∈ l := by
  induction l with
  | nil => simp [insK]
  | cons a l ih =>
    unfold insK
    split
    · simp
    · split
      · rename_i h; subst h; simp
      · simp only [List.mem_cons, ih]
        constructor
        · rintro (h | h | h)
          · exact .inr (.inl h)
          · exact .inl h
          · exact .inr (.inr h)
        · rintro (h | h | h)
          · exact .inr (.inl h)
          · exact .inl h
          · exact .inr (.inr h)
theorem rise_insK {k : Nat} {l : List Nat} (h : RiseK l) : RiseK (insK k l) := by
  induction l with
  | nil => simp [insK, RiseK]
  | cons a l ih =>
    obtain ⟨h1, h2⟩ := List.pairwise_cons.1 h
    unfold insK
    split
    · rename_i hk
      exact List.pairwise_cons.2 ⟨fun x hx => by rcases List.mem_cons.1 hx with rfl | hx; exact hk; exact Nat.lt_trans hk (h1 x hx), h⟩
    · split
      · exact h
      · refine List.pairwise_cons.2 ⟨fun x hx => ?_, ih h2⟩
        rcases mem_insK.1 hx with rfl | hx
        · omega
        · exact h1 x hx
theorem insK_old {k : Nat} {l : List Nat} (h : RiseK l) (hk : k ∈ l) : insK k l = l := by
  induction l with
  | nil => simp at hk
  | cons a l ih =>
    obtain ⟨h1, h2⟩ := List.pairwise_cons.1 h
    unfold insK
    rcases List.mem_cons.1 hk with rfl | hk
    · rw [if_neg (by omega), if_pos rfl]
    · have := h1 k hk
      rw [if_neg (by omega), if_neg (by omega), ih h2 hk]
theorem insK_len {k : Nat} {l : List Nat} (hk : k ∉ l) : (insK k l).length = l.length + 1 := by
  induction l with
  | nil => rfl
  | cons a l ih =>
    unfold insK
    split
    · simp
    · split
      · rename_i h; subst h; simp at hk
      · simp [ih (fun h => hk (List.mem_cons_of_mem _ h))]
/-- Rising lists with the same members are one. -/
theorem rise_ext {l m : List Nat} (hl : RiseK l) (hm : RiseK m) (h : ∀ x, x ∈ l ↔ x ∈ m) : l = m := by
  induction l generalizing m with
  | nil => cases m with
    | nil => rfl
    | cons b m => have := (h b).2 (by simp); simp at this
  | cons a l ih =>
    obtain ⟨a1, a2⟩ := List.pairwise_cons.1 hl
    cases m with
    | nil => have := (h a).1 (by simp); simp at this
    | cons b m =>
      obtain ⟨b1, b2⟩ := List.pairwise_cons.1 hm
      have hab : a = b := by
        have ha := (h a).1 (by simp)
        have hb := (h b).2 (by simp)
        rcases List.mem_cons.1 ha with e | ha
        · exact e
        · rcases List.mem_cons.1 hb with e | hb
          · exact e.symm
          · have := b1 a ha; have := a1 b hb; omega
      subst hab
      congr 1
      refine ih a2 b2 fun x => ?_
      constructor
      · intro hx
        rcases List.mem_cons.1 ((h x).1 (List.mem_cons_of_mem _ hx)) with e | hx'
        · have := a1 x hx; omega
        · exact hx'
      · intro hx
        rcases List.mem_cons.1 ((h x).2 (List.mem_cons_of_mem _ hx)) with e | hx'
        · have := b1 x hx; omega
        · exact hx'


theorem own_un {w : World} {base g n cap : Nat} {m : List Nat} (h : w.ownsRow base 32 1 (.slice (some ⟨g, 0, none⟩) n cap) n (m.map fun k => .int .u64 (k : Nat))) : Un w g 0 cap m.toArray := by
  obtain ⟨h1, h2⟩ := h
  have hn : n = m.length := by simp at h1; omega
  subst hn
  rcases h2 with ⟨h, _⟩ | ⟨g', cap', cur, e1, hb, hg, hnc, hcm, hcs, htake⟩
  · cases h
  · simp only [Value.slice.injEq, Option.some.injEq, Addr.mk.injEq] at e1
    obtain ⟨⟨rfl, _⟩, _, rfl⟩ := e1
    refine ⟨cur, hg, by simpa using hcs, by simpa using hnc, fun j hj => ?_⟩
    have hj' : j < m.length := by simpa using hj
    have e := congrArg (fun l => l[j]?) htake
    simp only [List.getElem?_take, Nat.mul_one, if_pos hj', List.getElem?_map, List.getElem?_eq_getElem hj'] at e
    rw [Nat.zero_add, ← Array.getElem?_toList, e]
    simp [hj']
theorem un_own {w : World} {base g cap : Nat} {d : Array Nat} {l : List Nat} (h : Un w g 0 cap d) (hd : d.toList = l) (hb : base ≤ g) (hc : cap ≤ maxLen) : w.ownsRow base 32 1 (.slice (some ⟨g, 0, none⟩) l.length cap) l.length (l.map fun k => .int .u64 (k : Nat)) := by
  obtain ⟨cur, h1, h2, h3, h4⟩ := h
  have hl : l.length = d.size := by rw [← hd]; simp
  refine ⟨by simp, .inr ⟨g, cap, cur, rfl, hb, h1, by omega, hc, by omega, ?_⟩⟩
  apply List.ext_getElem?
  intro j
  by_cases hj : j < l.length
  · rw [List.getElem?_take, if_pos (by omega), Array.getElem?_toList]
    have := h4 j (by omega)
    rw [Nat.zero_add] at this
    rw [this]
    have hj2 : j < d.size := by omega
    have e : d[j]! = l[j] := by rw [getElem!_pos d j hj2]; simp [← hd]
    rw [e, List.getElem?_map, List.getElem?_eq_getElem hj]; rfl
  · rw [List.getElem?_take, if_neg (by omega), List.getElem?_eq_none (by simp; omega)]


/-- All keys of a list, rising, each once. -/
def uniU (l : List Nat) : List Nat := l.foldl (fun t k => insK k t) []
theorem fold_ins (l t : List Nat) (h : RiseK t) : RiseK (l.foldl (fun t k => insK k t) t) ∧ ∀ x, x ∈ l.foldl (fun t k => insK k t) t ↔ x ∈ t ∨ x ∈ l := by
  induction l generalizing t with
  | nil => exact ⟨h, by simp⟩
  | cons k r ih =>
    obtain ⟨h1, h2⟩ := ih (insK k t) (rise_insK h)
    refine ⟨h1, fun x => ?_⟩
    rw [List.foldl_cons, h2, mem_insK, List.mem_cons]
    constructor
    · rintro ((h | h) | h)
      · exact .inr (.inl h)
      · exact .inl h
      · exact .inr (.inr h)
    · rintro (h | h | h)
      · exact .inl (.inr h)
      · exact .inl (.inl h)
      · exact .inr h
theorem rise_uni (l : List Nat) : RiseK (uniU l) := (fold_ins l [] List.Pairwise.nil).1
theorem mem_uni {l : List Nat} {x : Nat} : x ∈ uniU l ↔ x ∈ l := by rw [uniU, (fold_ins l [] List.Pairwise.nil).2]; simp
theorem comp_inv (d : Array Nat) (hs : Sort.SortedIn ltN 0 d.size d) (m : Nat) (hm : m ≤ d.size) : RiseK (Lib.compactUpTo d m) ∧ (∀ x ∈ Lib.compactUpTo d m, ∀ j, m ≤ j + 1 → j < d.size → x ≤ d[j]!) ∧ ∀ x, x ∈ Lib.compactUpTo d m ↔ ∃ j, j < m ∧ d[j]! = x := by
  have le : ∀ i j, i ≤ j → j < d.size → d[i]! ≤ d[j]! := fun i j hij hj => by
    rcases Nat.eq_or_lt_of_le hij with e | e
    · rw [e]; exact Nat.le_refl _
    · have := hs i j (Nat.zero_le _) e hj
      simp [ltN] at this; exact this
  induction m with
  | zero => simp [Lib.compactUpTo, RiseK]
  | succ m ih =>
    obtain ⟨h1, h2, h3⟩ := ih (by omega)
    rw [Lib.compactUpTo_succ]
    cases hk : Lib.keeps d m
    · simp only [Bool.false_eq_true, if_false, List.append_nil]
      have hq : m ≠ 0 ∧ d[m]! = d[m - 1]! := by
        simp only [Lib.keeps, decide_eq_false_iff_not, not_or, Decidable.not_not] at hk
        exact hk
      refine ⟨h1, fun x hx j hj hjd => h2 x hx j (by omega) hjd, fun x => ?_⟩
      rw [h3]
      constructor
      · rintro ⟨j, hj, e⟩; exact ⟨j, by omega, e⟩
      · rintro ⟨j, hj, e⟩
        rcases Nat.lt_or_ge j m with q | q
        · exact ⟨j, q, e⟩
        · obtain rfl : j = m := by omega
          exact ⟨j - 1, by omega, by rw [← hq.2]; exact e⟩
    · simp only [if_true]
      refine ⟨?_, ?_, ?_⟩
      · unfold RiseK at h1 ⊢
        rw [List.pairwise_append]
        refine ⟨h1, List.pairwise_singleton _ _, fun x hx y hy => ?_⟩
        rw [List.mem_singleton] at hy
        subst hy
        have hm0 : m ≠ 0 := by rintro rfl; simp [Lib.compactUpTo] at hx
        have a := h2 x hx (m - 1) (by omega) (by omega)
        have b := le (m - 1) m (by omega) (by omega)
        have c : d[m]! ≠ d[m - 1]! := by
          simp only [Lib.keeps, decide_eq_true_eq] at hk
          rcases hk with h | h
          · exact absurd h hm0
          · exact h
        omega
      · intro x hx j hj hjd
        rw [List.mem_append, List.mem_singleton] at hx
        rcases hx with hx | rfl
        · exact h2 x hx j (by omega) hjd
        · exact le m j (by omega) hjd
      · intro x
        rw [List.mem_append, List.mem_singleton, h3]
        constructor
        · rintro (⟨j, hj, e⟩ | rfl)
          · exact ⟨j, by omega, e⟩
          · exact ⟨m, by omega, rfl⟩
        · rintro ⟨j, hj, e⟩
          rcases Nat.lt_or_ge j m with q | q
          · exact .inl ⟨j, q, e⟩
          · obtain rfl : j = m := by omega
            exact .inr e.symm
theorem comp_uni {d d' : Array Nat} {l : List Nat} (hd : d.toList = l) (hn : d'.size = d.size) (hp : Sort.PermIn 0 d.size d d') (hs : Sort.SortedIn ltN 0 d.size d') : Lib.compactUpTo d' d'.size = uniU l := by
  have hs' : Sort.SortedIn ltN 0 d'.size d' := by rw [hn]; exact hs
  obtain ⟨h1, _, h3⟩ := comp_inv d' hs' d'.size (Nat.le_refl _)
  refine rise_ext h1 (rise_uni l) (fun x => ?_)
  have hperm : d'.toList.Perm d.toList := by
    have := hp.2.2
    have e1 : (d'.extract 0 d.size) = d' := by rw [← hn]; simp
    have e2 : (d.extract 0 d.size) = d := by simp
    rw [e1, e2] at this; exact this
  rw [h3, mem_uni, ← hd, ← hperm.mem_iff]
  constructor
  · rintro ⟨j, hj, rfl⟩
    rw [getElem!_pos d' j hj]
    exact Array.getElem_mem_toList hj
  · intro hx
    obtain ⟨j, hj, e⟩ := List.mem_iff_getElem.1 hx
    have hj' : j < d'.size := by simpa using hj
    exact ⟨j, hj', by rw [getElem!_pos d' j hj', ← e]; simp⟩


theorem un_holds {w : World} {g cap : Nat} {d : Array Nat} (h : Un w g 0 cap d) : Sort.Holds encN w g 0 d := fun j hj => ⟨h.cell hj, h.soft j⟩
/-- What Compact leaves is a row of the call's own. -/
theorem row_own {w : World} {g cap q k base : Nat} {d arr : Array Nat} (h : Un w g 0 cap d) (ha : arr.size = d.size) (hk : k ≤ d.size) (hb : base ≤ g) (hc : cap ≤ maxLen) :
    (Sort.putRow encN (Sort.ahead w q) g 0 arr).ownsRow base 32 1 (.slice (some ⟨g, 0, none⟩) k cap) k ((ib (arr.toList.take k)).map (Value.int .u64)) := by
  obtain ⟨cur, h1, h2, h3, h4⟩ := h
  refine ⟨by simp [ib]; omega, .inr ⟨g, cap, Sort.putCells encN 0 arr cur, rfl, hb, ?_, by omega, hc, by simp [Sort.putCells]; omega, ?_⟩⟩
  · simp [Sort.putRow, Sort.mapBlock, Sort.ahead, Array.getElem?_modify, h1, Sort.onCells]
  · apply List.ext_getElem?
    intro j
    by_cases hj : j < k
    · have hjd : j < d.size := by omega
      have hc0 := h4 j hjd
      rw [Nat.zero_add] at hc0
      have hja : j < arr.size := by omega
      rw [List.getElem?_take, if_pos (by omega), Array.getElem?_toList, Sort.putCells, Array.getElem?_mapIdx, hc0]
      simp only [Option.map_some, Nat.zero_le, Nat.zero_add, true_and, hja, if_true, Nat.sub_zero]
      simp [ib, encN, hj, hja]
    · rw [List.getElem?_take, if_neg (by omega), List.getElem?_eq_none (by simp [ib]; omega)]
theorem below_putRow {B : Nat} {w w1 : World} {g q : Nat} {arr : Array Nat} (h : Below B w w1) (hg : B ≤ g) : Below B w (Sort.putRow encN (Sort.ahead w1 q) g 0 arr) :=
  ⟨h.os, h.tape, h.output, by rw [Sort.size_putRow]; exact h.size, fun k hk => by
    rw [← h.block k hk]
    simp [Sort.putRow, Sort.mapBlock, Sort.ahead, Array.getElem?_modify, show g ≠ k by omega]⟩
end Go.Proofs.Ytkicnoohfilgjaa


