/- Rows of pairs that are written into; where a key stands or would stand; the reference's place. -/
import Derived.Test.YtfcpooihihklaabKm
namespace Go.Proofs.Ytfcpooihihklaab
open Ieee Go.RowKit

/-- Block g is a row of cap pairs, whole and not frozen, and holds the pairs t at its head. -/
def Ow (w : World) (g cap : Nat) (t : List Pr) : Prop := (∃ cur, w.heap[g]? = some (.cells cur 40 (0, 0)) ∧ cur.size = cap * 3) ∧ t.length ≤ cap ∧ cap ≤ maxLen ∧ Mq w g t

theorem ow_of_own {w : World} {base g n cap : Nat} {t : List Pr} (h : w.ownsRow base 40 3 (.slice (some ⟨g, 0, none⟩) n cap) n (flatQ t)) : Ow w g cap t ∧ base ≤ g ∧ n = t.length := by
  have hm := own_mq h
  obtain ⟨h1, h2⟩ := h
  rw [flatQ_len] at h1
  rcases h2 with ⟨h, _⟩ | ⟨g', cap', cur, e1, hb, hg, hnc, hcm, hcs, _⟩
  · cases h
  · simp only [Value.slice.injEq, Option.some.injEq, Addr.mk.injEq] at e1
    obtain ⟨⟨rfl, _⟩, _, rfl⟩ := e1
    exact ⟨⟨⟨cur, hg, hcs⟩, by omega, hcm, hm⟩, hb, by omega⟩

theorem own_of_ow {w : World} {base g cap : Nat} {t : List Pr} (h : Ow w g cap t) (hb : base ≤ g) : w.ownsRow base 40 3 (.slice (some ⟨g, 0, none⟩) t.length cap) t.length (flatQ t) := by
  obtain ⟨⟨cur, hg, hcs⟩, hl, hm, hM⟩ := h
  refine ⟨flatQ_len t, .inr ⟨g, cap, cur, rfl, hb, hg, hl, hm, hcs, ?_⟩⟩
  apply List.ext_getElem?
  intro j
  by_cases hj : j < t.length * 3
  · rw [List.getElem?_take, if_pos hj, Array.getElem?_toList]
    obtain ⟨f0, f1, f2⟩ := flatQ_get t (j / 3) (by omega)
    obtain ⟨⟨a, b, c⟩, _⟩ := hM (j / 3) (by omega)
    have key : ∀ o, w.cell? ⟨g, o, none⟩ = cur[o]? := fun o => cell_of_row w g o cur 40 (0, 0) hg
    rw [key] at a b c
    have hmod : j % 3 = 0 ∨ j % 3 = 1 ∨ j % 3 = 2 := by omega
    rcases hmod with h | h | h
    · have e : j / 3 * 3 = j := by omega
      rw [e] at a f0; rw [a, f0]
    · have e : j / 3 * 3 + 1 = j := by omega
      rw [e] at b f1; rw [b, f1]
    · have e : j / 3 * 3 + 2 = j := by omega
      rw [e] at c f2; rw [c, f2]
  · rw [List.getElem?_take, if_neg hj, List.getElem?_eq_none (by rw [flatQ_len]; omega)]

theorem row_set {w : World} {g n o : Nat} (u : Value) (h : ∃ cur, w.heap[g]? = some (.cells cur 40 (0, 0)) ∧ cur.size = n) : ∃ cur, (w.setCell ⟨g, o, none⟩ u).heap[g]? = some (.cells cur 40 (0, 0)) ∧ cur.size = n := by
  obtain ⟨cur, hg, hs⟩ := h
  rw [Sort.setCell_eq]
  refine ⟨cur.setIfInBounds o u, ?_, by simpa using hs⟩
  simp [Sort.mapBlock, Array.getElem?_modify, hg, Sort.onCells]

/-- A pair laid into the row. -/
theorem Ow.set {w : World} {g cap : Nat} {t : List Pr} (h : Ow w g cap t) {j : Nat} (hj : j < t.length) (o : Pr) :
    Ow (((w.setCell ⟨g, j * 3, none⟩ (.int .u64 o.k)).setCell ⟨g, j * 3 + 1, none⟩ (.bool o.v.h)).setCell ⟨g, j * 3 + 2, none⟩ (.int .u64 o.v.b)) g cap (t.set j o) := by
  obtain ⟨h1, h2, h3, h4⟩ := h
  exact ⟨row_set _ (row_set _ (row_set _ h1)), by simpa using h2, h3, h4.set hj o⟩
theorem Ow.below {w w' : World} {g cap : Nat} {t : List Pr} (h : Ow w g cap t) (hb : Below w.heap.size w w') : Ow w' g cap t := by
  obtain ⟨⟨cur, hg, hs⟩, h2, h3, h4⟩ := h
  have hl : g < w.heap.size := (Array.getElem?_eq_some_iff.1 hg).1
  exact ⟨⟨cur, by rw [hb.block g hl]; exact hg, hs⟩, h2, h3, h4.below hb hl⟩
theorem Ow.lt {w : World} {g cap : Nat} {t : List Pr} (h : Ow w g cap t) : g < w.heap.size := by
  obtain ⟨⟨cur, hg, _⟩, _⟩ := h
  exact (Array.getElem?_eq_some_iff.1 hg).1
/-- A value alone laid into a pair of the row. -/
theorem Ow.setv {w : World} {g cap : Nat} {t : List Pr} (h : Ow w g cap t) {j : Nat} (hj : j < t.length) (v : Vl) :
    Ow ((w.setCell ⟨g, j * 3 + 1, none⟩ (.bool v.h)).setCell ⟨g, j * 3 + 2, none⟩ (.int .u64 v.b)) g cap (t.set j ⟨t[j].k, v⟩) := by
  obtain ⟨h1, h2, h3, h4⟩ := h
  refine ⟨row_set _ (row_set _ h1), by simpa using h2, h3, ?_⟩
  obtain ⟨⟨a, b, c⟩, d, e, f⟩ := h4 j hj
  intro i hi
  rw [List.length_set] at hi
  obtain ⟨⟨a', b', c'⟩, d', e', f'⟩ := h4 i hi
  by_cases hij : j = i
  · subst hij
    rw [List.getElem_set_self]
    refine ⟨⟨?_, ?_, ?_⟩, ?_, ?_, ?_⟩ <;> simp [go_sem, a, b, c, d, e, f]
  · rw [List.getElem_set_ne hij]
    have k0 : ∀ (p q : Nat) (v : Value) (w : World), ¬ p = q → (w.setCell ⟨g, p, none⟩ v).cell? ⟨g, q, none⟩ = w.cell? ⟨g, q, none⟩ := fun p q v w hne => World.cell?_setCell_other w _ _ v (by rintro ⟨⟩; exact hne rfl)
    refine ⟨⟨?_, ?_, ?_⟩, ?_, ?_, ?_⟩
    · rw [k0 _ _ _ _ (by omega), k0 _ _ _ _ (by omega)]; exact a'
    · rw [k0 _ _ _ _ (by omega), k0 _ _ _ _ (by omega)]; exact b'
    · rw [k0 _ _ _ _ (by omega), k0 _ _ _ _ (by omega)]; exact c'
    all_goals simp [go_sem, d', e', f']

/-- Where a key stands, or would stand. -/
def posT (k : Nat) : List Pr → Nat
  | [] => 0
  | p :: t => if p.k < k then posT k t + 1 else 0
theorem pos_le (k : Nat) (t : List Pr) : posT k t ≤ t.length := by
  induction t with
  | nil => exact Nat.le_refl _
  | cons p t ih => unfold posT; split <;> simp; exact ih
theorem pos_at {k : Nat} {t : List Pr} {i : Nat} (h : ∀ j, (hj : j < t.length) → j < i → t[j].k < k) (hi : i ≤ t.length) (hn : ∀ hl : i < t.length, ¬ t[i].k < k) : posT k t = i := by
  induction t generalizing i with
  | nil => simp at hi; subst hi; rfl
  | cons p t ih =>
    cases i with
    | zero => exact if_neg (hn (by simp))
    | succ i =>
      have e : posT k (p :: t) = posT k t + 1 := if_pos (h 0 (by simp) (by omega))
      rw [e]
      congr 1
      exact ih (fun j hj hji => h (j + 1) (by simpa using hj) (by omega)) (by simpa using hi) (fun hl => hn (by simpa using hl))

theorem put_found {k : Nat} {t : List Pr} (v : Vl) (h : posT k t < t.length) (he : t[posT k t].k = k) : putT k v t = t.set (posT k t) ⟨k, v⟩ ∧ getT k t = t[posT k t].v := by
  induction t with
  | nil => simp at h
  | cons p t ih =>
    by_cases hp : p.k < k
    · have e : posT k (p :: t) = posT k t + 1 := if_pos hp
      have hl : posT k t < t.length := by rw [e] at h; simpa using h
      have he' : t[posT k t].k = k := by simpa [e] using he
      obtain ⟨i1, i2⟩ := ih hl he'
      constructor
      · unfold putT
        rw [if_neg (by omega), if_neg (by omega), i1]
        simp [e]
      · show (if p.k = k then p.v else getT k t) = _
        rw [if_neg (by omega), i2]
        simp [e]
    · have e : posT k (p :: t) = 0 := if_neg hp
      have he' : p.k = k := by simpa [e] using he
      constructor
      · unfold putT
        rw [if_neg (by omega), if_pos he'.symm]
        simp [e]
      · show (if p.k = k then p.v else getT k t) = _
        rw [if_pos he']
        simp [e]

theorem put_new {k : Nat} {t : List Pr} (ht : Rise t) (v : Vl) (h : ∀ hl : posT k t < t.length, t[posT k t].k ≠ k) : putT k v t = t.take (posT k t) ++ ⟨k, v⟩ :: t.drop (posT k t) ∧ getT k t = noV := by
  induction t with
  | nil => exact ⟨rfl, rfl⟩
  | cons p t ih =>
    obtain ⟨h1, h2⟩ := List.pairwise_cons.1 ht
    by_cases hp : p.k < k
    · have e : posT k (p :: t) = posT k t + 1 := if_pos hp
      obtain ⟨i1, i2⟩ := ih h2 (fun hl => by have := h (by rw [e]; simpa using hl); simpa [e] using this)
      constructor
      · unfold putT
        rw [if_neg (by omega), if_neg (by omega), i1, e]
        simp
      · show (if p.k = k then p.v else getT k t) = _
        rw [if_neg (by omega), i2]
    · have e : posT k (p :: t) = 0 := if_neg hp
      have hne : p.k ≠ k := by have := h (by rw [e]; simp); simpa [e] using this
      constructor
      · unfold putT
        rw [if_pos (by omega), e]
        simp
      · refine get_none fun q hq => ?_
        rcases List.mem_cons.1 hq with rfl | hq
        · exact hne
        · have := h1 q hq; omega

/-- Where a search for a key's place stands. -/
def Pl (w : World) (t : List Pr) (k : Nat) (iv : Value) (wr : World) : Prop := ∃ i : Nat, i ≤ t.length ∧ iv = .int .i64 i ∧ (∀ j, (hj : j < t.length) → j < i → t[j].k < k) ∧ Below w.heap.size w wr
end Go.Proofs.Ytfcpooihihklaab
