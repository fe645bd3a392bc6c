/- The reference's journal: read. -/
import Derived.Test.YtnnammlipfappaaRb

namespace Go.Proofs.Ytnnammlipfappaa

open Ieee Go.RowKit



theorem tnums_len (k : Nat) : ∀ (l : List Nat) (p : Nat) (acc xs : List Nat) (z : Nat), (∀ c ∈ l, c < 256) → Wm.tnums k l p acc = (xs, z, 0) → xs.length = acc.length + k := by
  induction k with
  | zero => intro l p acc xs z _ h; rw [Wm.tnums] at h; cases h; rfl
  | succ k ih =>
    intro l p acc xs z hl h
    rcases Wm.take_form (l.drop p) (fun c hc => hl c (List.mem_of_mem_drop hc)) with ⟨e, he, h34⟩ | ⟨x, n, hx, _, _, _, _⟩
    · rw [Wm.tnums, he] at h
      rcases h34 with rfl | rfl <;> (simp only at h; cases h)
    · rw [tn_go k acc hx] at h
      split at h
      · cases h
      · rw [ih l (p + n) (acc ++ [x]) xs z hl h, List.length_append, List.length_singleton]; omega
/-- A list read with most 4 and with most q. -/
theorem tl1_most {q : Int} {l : List Nat} (hq : q ≤ 4) (hl : ∀ c ∈ l, c < 256) : (tl1 4 l = none → tl1 q l = none) ∧ ∀ xs s, tl1 4 l = some (xs, s) → ((xs.length : Int) ≤ q ∧ tl1 q l = some (xs, s)) ∨ (q < (xs.length : Int) ∧ tl1 q l = none) := by
  rcases Wm.take_form l hl with ⟨e, he, h34⟩ | ⟨c, n, hx, _, _, _, _⟩
  · have h4 := takeNums_err 4 he h34
    have hqe := takeNums_err q he h34
    have e0 : e ≠ 0 := by omega
    refine ⟨fun _ => ?_, fun xs s h => ?_⟩
    · unfold tl1; rw [hqe, if_neg e0]
    · unfold tl1 at h; rw [h4, if_neg e0] at h; cases h
  · by_cases h4 : (4 : Int) < (c : Int)
    · have e4 := takeNums_long hx h4
      have eq := takeNums_long (most := q) hx (by omega)
      refine ⟨fun _ => ?_, fun xs s h => ?_⟩
      · unfold tl1; rw [eq, if_neg (by decide)]
      · unfold tl1 at h; rw [e4, if_neg (by decide)] at h; cases h
    · have e4 := takeNums_go hx h4
      obtain ⟨ys, m, er, ht⟩ : ∃ ys m er, Wm.tnums c l n [] = (ys, m, er) := ⟨_, _, _, rfl⟩
      rw [ht] at e4
      by_cases hcq : q < (c : Int)
      · have eq := takeNums_long (most := q) hx hcq
        have hn : tl1 q l = none := by unfold tl1; rw [eq, if_neg (by decide)]
        refine ⟨fun _ => hn, fun xs s h => .inr ⟨?_, hn⟩⟩
        unfold tl1 at h
        rw [e4] at h
        by_cases h0 : er = 0
        · subst h0
          rw [if_pos rfl] at h
          have hy : ys = xs := (Prod.mk.inj (Option.some.inj h)).1
          have hlen := tnums_len c l n [] ys m hl ht
          rw [hy, List.length_nil, Nat.zero_add] at hlen
          rw [hlen]
          omega
        · rw [if_neg h0] at h; cases h
      · have eq := takeNums_go hx hcq
        rw [ht] at eq
        have hs : tl1 q l = tl1 4 l := by unfold tl1; rw [eq, e4]
        refine ⟨fun h => hs.trans h, fun xs s h => .inl ⟨?_, hs.trans h⟩⟩
        unfold tl1 at h
        rw [e4] at h
        by_cases h0 : er = 0
        · subst h0
          rw [if_pos rfl] at h
          have hy : ys = xs := (Prod.mk.inj (Option.some.inj h)).1
          have hlen := tnums_len c l n [] ys m hl ht
          rw [hy, List.length_nil, Nat.zero_add] at hlen
          rw [hlen]
          omega
        · rw [if_neg h0] at h; cases h
theorem tl1_mem {q : Int} {l xs s : List Nat} (h : tl1 q l = some (xs, s)) : ∀ c ∈ s, c ∈ l := by
  unfold tl1 at h
  split at h
  · cases h; exact fun c hc => List.mem_of_mem_drop hc
  · cases h
/-- What read makes of bytes is what takE makes of them. -/
theorem takE_read {q : Int} {l F r s s' x0 x1 : List Nat} (hq : q ≤ 4) (hl : ∀ c ∈ l, c < 256) (h3 : tkN 3 l = some (F, r)) (h0 : tl1 4 r = some (x0, s)) (h1 : tl1 4 s = some (x1, s')) :
    takE q l = if s' = [] ∧ 1 ≤ F.getD 0 0 ∧ rgtB (mkN F [x0, x1]) q = true then some (F.getD 0 0, mkN F [x0, x1]) else none := by
  have hr : ∀ c ∈ r, c < 256 := fun c hc => hl c ((tkN_len 3 h3).2.2 c hc)
  have hs : ∀ c ∈ s, c < 256 := fun c hc => hr c (tl1_mem h0 c hc)
  have t0 : tlN q 0 r = some ([], r) := rfl
  rcases (tl1_most hq hr).2 x0 s h0 with ⟨g0, e0⟩ | ⟨g0, e0⟩
  · have t1 := tlN_succ t0 e0
    rcases (tl1_most hq hs).2 x1 s' h1 with ⟨g1, e1⟩ | ⟨g1, e1⟩
    · have t2 := tlN_succ t1 e1
      split
      · rename_i hc; exact takE_y h3 t2 hc
      · rename_i hc; exact takE_n3 h3 t2 hc
    · rw [if_neg (fun hc => by
        have := (Rgt.of hc.2.2).lc
        simp only [mkN, List.getD_cons_succ, List.getD_cons_zero, ib_len] at this
        omega)]
      exact takE_n2 (k := 2) h3 (by omega) (tlN_stop t1 e1)
  · rw [if_neg (fun hc => by
      have := (Rgt.of hc.2.2).lp
      simp only [mkN, List.getD_cons_zero, ib_len] at this
      omega)]
    exact takE_n2 (k := 1) h3 (by omega) (tlN_stop t0 e0)
theorem takE_rn0 {q : Int} {l F r : List Nat} (hq : q ≤ 4) (hl : ∀ c ∈ l, c < 256) (h3 : tkN 3 l = some (F, r)) (h0 : tl1 4 r = none) : takE q l = none := by
  have hr : ∀ c ∈ r, c < 256 := fun c hc => hl c ((tkN_len 3 h3).2.2 c hc)
  exact takE_n2 (k := 1) h3 (by omega) (tlN_stop (G := []) rfl ((tl1_most hq hr).1 h0))
theorem takE_rn1 {q : Int} {l F r s x0 : List Nat} (hq : q ≤ 4) (hl : ∀ c ∈ l, c < 256) (h3 : tkN 3 l = some (F, r)) (h0 : tl1 4 r = some (x0, s)) (h1 : tl1 4 s = none) : takE q l = none := by
  have hr : ∀ c ∈ r, c < 256 := fun c hc => hl c ((tkN_len 3 h3).2.2 c hc)
  have hs : ∀ c ∈ s, c < 256 := fun c hc => hr c (tl1_mem h0 c hc)
  have t0 : tlN q 0 r = some ([], r) := rfl
  rcases (tl1_most hq hr).2 x0 s h0 with ⟨g0, e0⟩ | ⟨g0, e0⟩
  · exact takE_n2 (k := 2) h3 (by omega) (tlN_stop (tlN_succ t0 e0) ((tl1_most hq hs).1 h1))
  · exact takE_n2 (k := 1) h3 (by omega) (tlN_stop t0 e0)
end Go.Proofs.Ytnnammlipfappaa


