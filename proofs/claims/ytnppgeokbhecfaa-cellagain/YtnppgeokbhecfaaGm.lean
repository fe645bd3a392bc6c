/- Merge's laws: parts change about and go together in any order; nothing adds nothing. -/
import Derived.Test.YtnppgeokbhecfaaGa
namespace Go.Proofs.Ytnppgeokbhecfaa
open Ieee Go.RowKit

theorem canon_told {x : Nat} : nanB (canonW x) = nanB x := by
  unfold canonW
  cases h : nanB x
  · rw [if_neg (by simp), h]
  · rw [if_pos rfl]; decide

theorem rank_canon (x : Nat) : rank (canonW x) = rank x := by
  cases hn : nanB x
  · have e : canonW x = x := by unfold canonW; rw [hn]; rfl
    rw [e]
  · have h := @canon_told x
    rw [hn] at h
    unfold rank; rw [h, hn]; rfl

theorem least_rank (a b : Nat) : rank (leastW a b) = min (rank a) (rank b) := by
  unfold leastW; split <;> rw [rank_canon] <;> omega

theorem most_rank (a b : Nat) : rank (mostW a b) = max (rank a) (rank b) := by
  unfold mostW; split <;> rw [rank_canon] <;> omega

/-- Words that are told and have one rank are one word. -/
theorem told_eq {x y : Nat} (hx : x < 18446744073709551616) (hy : y < 18446744073709551616) (cx : canonW x = x) (cy : canonW y = y) (h : rank x = rank y) : x = y := by
  have := canon_of_rank hx hy h
  rw [cx, cy] at this; exact this

theorem least_comm {a b : Nat} (ha : a < 18446744073709551616) (hb : b < 18446744073709551616) : leastW a b = leastW b a := told_eq (leastW_lt ha hb) (leastW_lt hb ha) (canonW_leastW _ _) (canonW_leastW _ _) (by rw [least_rank, least_rank]; omega)

theorem most_comm {a b : Nat} (ha : a < 18446744073709551616) (hb : b < 18446744073709551616) : mostW a b = mostW b a := told_eq (mostW_lt ha hb) (mostW_lt hb ha) (canonW_mostW _ _) (canonW_mostW _ _) (by rw [most_rank, most_rank]; omega)

theorem least_assoc {a b c : Nat} (ha : a < 18446744073709551616) (hb : b < 18446744073709551616) (hc : c < 18446744073709551616) : leastW (leastW a b) c = leastW a (leastW b c) := told_eq (leastW_lt (leastW_lt ha hb) hc) (leastW_lt ha (leastW_lt hb hc)) (canonW_leastW _ _) (canonW_leastW _ _) (by simp only [least_rank]; omega)

theorem most_assoc {a b c : Nat} (ha : a < 18446744073709551616) (hb : b < 18446744073709551616) (hc : c < 18446744073709551616) : mostW (mostW a b) c = mostW a (mostW b c) := told_eq (mostW_lt (mostW_lt ha hb) hc) (mostW_lt ha (mostW_lt hb hc)) (canonW_mostW _ _) (canonW_mostW _ _) (by simp only [most_rank]; omega)

theorem join_tt (k : Int) (x y : Nat) : joinV k ⟨true, x⟩ ⟨true, y⟩ = if k = 3 then ⟨true, leastW x y⟩ else if k = 4 then ⟨true, mostW x y⟩ else ⟨true, (x + y) % 18446744073709551616⟩ := by simp [joinV]

theorem fitV_no (k : Int) : fitV k noV = noV := by unfold fitV; rw [if_pos (show noV.h = false from rfl)]

theorem fitV_12 {k : Int} (h : k = 1 ∨ k = 2) (b : Nat) : fitV k ⟨true, b⟩ = ⟨true, b⟩ := by unfold fitV; rw [if_neg (by simp), if_pos h]

theorem fitV_34 {k : Int} (h : k = 3 ∨ k = 4) (b : Nat) : fitV k ⟨true, b⟩ = ⟨true, canonW b⟩ := by unfold fitV; rw [if_neg (by simp), if_neg (by omega), if_pos h]

theorem fitV_un {k : Int} (h : knownB k = false) (v : Vl) : fitV k v = noV := by
  have := unknown_kind h
  unfold fitV
  split
  · rfl
  rw [if_neg (by omega), if_neg (by omega)]

theorem fitV_f (k : Int) (b : Nat) : fitV k ⟨false, b⟩ = noV := by unfold fitV; rw [if_pos rfl]

/-- The ways in which a fit value looks. -/
theorem fit_ways (k : Int) (v : Vl) : (fitV k v = noV ∧ (v.h = false ∨ knownB k = false)) ∨ (v.h = true ∧ (k = 1 ∨ k = 2) ∧ fitV k v = ⟨true, v.b⟩) ∨ (v.h = true ∧ (k = 3 ∨ k = 4) ∧ fitV k v = ⟨true, canonW v.b⟩) := by
  obtain ⟨h, b⟩ := v
  cases h
  · exact .inl ⟨fitV_f k b, .inl rfl⟩
  cases hk : knownB k
  · exact .inl ⟨fitV_un hk _, .inr rfl⟩
  rcases known_kind.1 hk with h | h | h | h
  · exact .inr (.inl ⟨rfl, .inl h, fitV_12 (.inl h) b⟩)
  · exact .inr (.inl ⟨rfl, .inr h, fitV_12 (.inr h) b⟩)
  · exact .inr (.inr ⟨rfl, .inl h, fitV_34 (.inl h) b⟩)
  · exact .inr (.inr ⟨rfl, .inr h, fitV_34 (.inr h) b⟩)

theorem fitV_fitV (k : Int) (v : Vl) : fitV k (fitV k v) = fitV k v := by
  rcases fit_ways k v with ⟨e, _⟩ | ⟨_, h, e⟩ | ⟨_, h, e⟩
  · rw [e, fitV_no]
  · rw [e, fitV_12 h]
  · rw [e, fitV_34 h, canonW_canonW]

theorem fit_join (k : Int) {a b : Vl} (ha : fitV k a = a) (hb : fitV k b = b) : fitV k (joinV k a b) = joinV k a b := by
  unfold joinV
  split
  · exact hb
  split
  · exact ha
  split
  · rename_i h; subst h; rw [fitV_34 (.inl rfl), canonW_leastW]
  split
  · rename_i h; subst h; rw [fitV_34 (.inr rfl), canonW_mostW]
  · rename_i h1 h2 h3 h4
    have h12 : k = 1 ∨ k = 2 := by
      rcases fit_ways k a with ⟨e, _⟩ | ⟨_, h, e⟩ | ⟨_, h, e⟩
      · exact absurd (by rw [← ha, e]; rfl) h1
      · exact h
      · omega
    rw [fitV_12 h12]

theorem join_comm (k : Int) {a b : Vl} (ha : a.ok) (hb : b.ok) (fa : fitV k a = a) (fb : fitV k b = b) : joinV k a b = joinV k b a := by
  cases h1 : a.h <;> cases h2 : b.h
  · have e1 : a = noV := by
      rcases fit_ways k a with ⟨e, _⟩ | ⟨h, _⟩ | ⟨h, _⟩
      · rw [← fa, e]
      · rw [h1] at h; cases h
      · rw [h1] at h; cases h
    have e2 : b = noV := by
      rcases fit_ways k b with ⟨e, _⟩ | ⟨h, _⟩ | ⟨h, _⟩
      · rw [← fb, e]
      · rw [h2] at h; cases h
      · rw [h2] at h; cases h
    rw [e1, e2]
  · simp [joinV, h1, h2]
  · simp [joinV, h1, h2]
  · obtain ⟨p, x⟩ := a
    obtain ⟨q, y⟩ := b
    cases h1
    cases h2
    rw [join_tt, join_tt, least_comm ha hb, most_comm ha hb, Nat.add_comm]

theorem join_assoc (k : Int) {a b c : Vl} (ha : a.ok) (hb : b.ok) (hc : c.ok) : joinV k (joinV k a b) c = joinV k a (joinV k b c) := by
  obtain ⟨p, x⟩ := a
  obtain ⟨q, y⟩ := b
  obtain ⟨r, z⟩ := c
  cases p
  · simp [joinV]
  cases q
  · simp [joinV]
  cases r
  · by_cases h3 : k = 3
    · subst h3; simp [joinV]
    by_cases h4 : k = 4
    · subst h4; simp [joinV]
    · simp [joinV, h3, h4]
  by_cases h3 : k = 3
  · subst h3
    simp [joinV, least_assoc ha hb hc]
  by_cases h4 : k = 4
  · subst h4
    simp [joinV, most_assoc ha hb hc]
  · simp [joinV, h3, h4]
    omega

theorem merge_comm (k : Int) {a b : Vl} (ha : a.ok) (hb : b.ok) : mergeV k a b = mergeV k b a :=
  join_comm k (fitV_ok k ha) (fitV_ok k hb) (fitV_fitV k a) (fitV_fitV k b)

theorem fit_merge (k : Int) (a b : Vl) : fitV k (mergeV k a b) = mergeV k a b := fit_join k (fitV_fitV k a) (fitV_fitV k b)

theorem merge_assoc (k : Int) {a b c : Vl} (ha : a.ok) (hb : b.ok) (hc : c.ok) : mergeV k (mergeV k a b) c = mergeV k a (mergeV k b c) := by
  have e1 : mergeV k (mergeV k a b) c = joinV k (mergeV k a b) (fitV k c) := by rw [mergeV, fit_merge]
  have e2 : mergeV k a (mergeV k b c) = joinV k (fitV k a) (mergeV k b c) := by rw [mergeV, fit_merge]
  rw [e1, e2]
  exact join_assoc k (fitV_ok k ha) (fitV_ok k hb) (fitV_ok k hc)

theorem fit_none {k : Int} {v : Vl} (h : (fitV k v).h = false) : fitV k v = noV := by
  rcases fit_ways k v with ⟨e, _⟩ | ⟨_, _, e⟩ | ⟨_, _, e⟩
  · exact e
  · rw [e] at h; cases h
  · rw [e] at h; cases h

theorem merge_no (k : Int) (a : Vl) : mergeV k a noV = fitV k a := by
  unfold mergeV joinV
  rw [fitV_no]
  split
  · rename_i h; exact (fit_none h).symm
  · rw [if_pos (show noV.h = false from rfl)]

theorem no_merge (k : Int) (a : Vl) : mergeV k noV a = fitV k a := by
  unfold mergeV joinV
  rw [fitV_no, if_pos (show noV.h = false from rfl)]

theorem merge_un {k : Int} (h : knownB k = false) (a b : Vl) : mergeV k a b = noV := by
  unfold mergeV
  rw [fitV_un h, fitV_un h]
  rfl

theorem fit_has {k : Int} (h : knownB k = true) (a : Vl) : (fitV k a).h = a.h := by
  rcases fit_ways k a with ⟨e, h1 | h1⟩ | ⟨h1, _, e⟩ | ⟨h1, _, e⟩
  · rw [e, h1]; rfl
  · rw [h] at h1; cases h1
  · rw [e, h1]
  · rw [e, h1]

theorem merge_has {k : Int} (h : knownB k = true) (a b : Vl) : (mergeV k a b).h = (a.h || b.h) := by
  have e1 := fit_has h a
  have e2 := fit_has h b
  unfold mergeV joinV
  rw [← e1, ← e2]
  split
  · rename_i g; rw [g]; rfl
  split
  · rename_i g1 g2; rw [g2]; simp
  split
  · rename_i g1 g2 _; simp at g1; simp [g1]
  split
  · rename_i g1 g2 _ _; simp at g1; simp [g1]
  · rename_i g1 g2 _ _; simp at g1; simp [g1]

theorem merge_self {k : Int} (h : k = 3 ∨ k = 4) (a : Vl) : mergeV k a a = fitV k a := by
  unfold mergeV
  rcases fit_ways k a with ⟨e, _⟩ | ⟨_, h2, e⟩ | ⟨_, _, e⟩
  · rw [e]; rfl
  · omega
  rw [e, join_tt]
  have h1 : leastW (canonW a.b) (canonW a.b) = canonW a.b := by unfold leastW; rw [if_pos (Int.le_refl _), canonW_canonW]
  have h2 : mostW (canonW a.b) (canonW a.b) = canonW a.b := by unfold mostW; rw [if_pos (Int.le_refl _), canonW_canonW]
  rw [h1, h2]
  rcases h with rfl | rfl
  · rw [if_pos rfl]
  · rw [if_neg (by omega), if_pos rfl]

theorem fit_of (k : Int) (x : Nat) : fitV k (ofV k x) = ofV k x := by
  unfold ofV
  split
  · rename_i h; exact fitV_12 (.inl h) _
  split
  · rename_i h; exact fitV_12 (.inr h) _
  split
  · rename_i h; rw [fitV_34 h, canonW_canonW]
  · exact fitV_no k

/-- The values of floats, one behind the other. -/
def gathV (k : Int) (v : Vl) (l : List Nat) : Vl := l.foldl (fun v x => mergeV k v (ofV k x)) v

def allOk (l : List Nat) : Prop := ∀ x ∈ l, x < 18446744073709551616

theorem gath_ok (k : Int) {v : Vl} {l : List Nat} (hv : v.ok) (hl : allOk l) : (gathV k v l).ok := by
  induction l generalizing v with
  | nil => exact hv
  | cons x l ih => exact ih (mergeV_ok k hv (ofV_ok k (hl x (by simp)))) (fun y hy => hl y (by simp [hy]))

theorem gath_fit (k : Int) {v : Vl} (hv : fitV k v = v) (l : List Nat) : fitV k (gathV k v l) = gathV k v l := by
  induction l generalizing v with
  | nil => exact hv
  | cons x l ih => exact ih (fit_merge _ _ _)

theorem gath_start (k : Int) {v : Vl} {l : List Nat} (hv : v.ok) (fv : fitV k v = v) (hl : allOk l) : gathV k v l = mergeV k v (gathV k noV l) := by
  induction l generalizing v with
  | nil => show v = mergeV k v noV; rw [merge_no, fv]
  | cons x l ih =>
    have hx := ofV_ok k (hl x (by simp))
    have hl' : allOk l := fun y hy => hl y (by simp [hy])
    show gathV k (mergeV k v (ofV k x)) l = mergeV k v (gathV k (mergeV k noV (ofV k x)) l)
    rw [ih (mergeV_ok k hv hx) (fit_merge _ _ _) hl', ih (mergeV_ok k noV_ok hx) (fit_merge _ _ _) hl', merge_assoc k hv hx (gath_ok k noV_ok hl'), no_merge, fit_of]

theorem gath_cut (k : Int) {l r : List Nat} (hl : allOk l) (hr : allOk r) : gathV k noV (l ++ r) = mergeV k (gathV k noV l) (gathV k noV r) := by
  unfold gathV
  rw [List.foldl_append]
  exact gath_start k (gath_ok k noV_ok hl) (gath_fit k (fitV_no k) l) hr

theorem gath_turned (k : Int) {l : List Nat} (hl : allOk l) : gathV k noV l.reverse = gathV k noV l := by
  induction l with
  | nil => rfl
  | cons x l ih =>
    have hx : allOk [x] := fun y hy => hl y (by simp at hy; simp [hy])
    have hl' : allOk l := fun y hy => hl y (by simp [hy])
    rw [List.reverse_cons, gath_cut k (fun y hy => hl' y (by simpa using hy)) hx, ih hl', show x :: l = [x] ++ l from rfl, gath_cut k hx hl']
    exact merge_comm k (gath_ok k noV_ok hl') (gath_ok k noV_ok hx)

theorem gath_count (l : List Nat) (h : l ≠ []) : gathV 1 noV l = ⟨true, l.length % 18446744073709551616⟩ := by
  have step : ∀ (l : List Nat) (n : Nat), n < 18446744073709551616 → gathV 1 ⟨true, n⟩ l = ⟨true, (n + l.length) % 18446744073709551616⟩ := by
    intro l
    induction l with
    | nil => intro n hn; show (⟨true, n⟩ : Vl) = _; rw [List.length_nil, Nat.add_zero, Nat.mod_eq_of_lt hn]
    | cons x l ih =>
      intro n hn
      have e : mergeV 1 ⟨true, n⟩ (ofV 1 x) = ⟨true, (n + 1) % 18446744073709551616⟩ := by simp [mergeV, joinV, fitV, ofV]
      show gathV 1 (mergeV 1 ⟨true, n⟩ (ofV 1 x)) l = _
      rw [e, ih _ (Nat.mod_lt _ (by omega)), List.length_cons]
      congr 1
      omega
  cases l with
  | nil => exact absurd rfl h
  | cons x l =>
    have e : mergeV 1 noV (ofV 1 x) = ⟨true, 1⟩ := by rw [no_merge, fit_of, ofV, if_pos rfl]
    show gathV 1 (mergeV 1 noV (ofV 1 x)) l = _
    rw [e, step l 1 (by omega), List.length_cons]
    congr 1
    omega
end Go.Proofs.Ytnppgeokbhecfaa
