/- What Put does, as a function; the new table is right. -/
import Derived.Test.YtakijnclllmkfabPh

namespace Go.Proofs.Ytakijnclllmkfab

open Go.RowKit



theorem tok_iff {t : List Nat} {B : Nat} : Tok t B ↔ 1 ≤ t.length ∧ 2 + 2 * t.length ≤ B ∧ (∀ i, i < t.length → tn t i = 0 ∨ (2 ≤ tn t i ∧ tn t i < B)) ∧ ∀ i j, i < j → j < t.length → tn t j ≠ 0 → tn t i ≠ tn t j := by
  constructor
  · rintro ⟨h1, h2, h3⟩
    refine ⟨h1, h2, fun i hi => ?_, fun i j hij hj h0 e => ?_⟩
    · rcases h3 i hi with h | ⟨a, b, _⟩
      · exact .inl h
      · exact .inr ⟨a, b⟩
    · rcases h3 j hj with h | ⟨_, _, c⟩
      · exact h0 h
      · refine c ?_
        rw [← e, tn_at (by omega)]
        exact List.mem_take_iff_getElem.2 ⟨i, by omega, rfl⟩
  · rintro ⟨h1, h2, h3, h4⟩
    refine ⟨h1, h2, fun i hi => ?_⟩
    rcases h3 i hi with h | ⟨a, b⟩
    · exact .inl h
    · refine .inr ⟨a, b, fun hm => ?_⟩
      obtain ⟨j, hj, e⟩ := List.mem_take_iff_getElem.1 hm
      exact h4 j i (by omega) hi (by omega) (by rw [tn_at (by omega)]; exact e)


/-- Where the laying stands: the new table t, the blocks tk that were written, the last of them b. -/
structure LI (tab t tk : List Nat) (b B : Nat) : Prop where
  len : t.length = tab.length
  src : ∀ i, i < tab.length → tn t i = 0 ∨ tn t i = tn tab i ∨ tn t i ∈ tk
  tk2 : ∀ x ∈ tk, 2 ≤ x ∧ x ≤ b ∧ x < B ∧ x ∉ tab
  dist : ∀ i j, i < j → j < tab.length → tn t j ≠ 0 → tn t i ≠ tn t j
  fr : Fr tab tk b
  b1 : 1 ≤ b
theorem LI.start {tab : List Nat} {B : Nat} (h : Tok tab B) : LI tab tab [] 1 B :=
  ⟨rfl, fun _ _ => .inr (.inl rfl), fun x hx => by simp at hx, (tok_iff.1 h).2.2.2, fun y h1 h2 => by omega, Nat.le_refl _⟩
theorem LI.zero {tab t tk : List Nat} {b B : Nat} (h : LI tab t tk b B) (q : Nat) : LI tab (t.set q 0) tk b B := by
  have hl := h.len
  refine ⟨by rw [List.length_set]; exact hl, fun i hi => ?_, h.tk2, fun i j hij hj => ?_, h.fr, h.b1⟩
  · rw [tn_set (by omega)]
    split
    · exact .inl rfl
    · exact h.src i hi
  · rw [tn_set (by omega), tn_set (by omega)]
    split
    · intro h0; exact absurd rfl h0
    · split
      · intro h0 e; exact h0 e.symm
      · exact h.dist i j hij hj
theorem LI.next {tab t tk : List Nat} {b B : Nat} (h : LI tab t tk b B) (h64 : ∀ x ∈ tab, x < 64) (hx : nextF tab b < B) (q : Nat) : LI tab (t.set q (nextF tab b)) (nextF tab b :: tk) (nextF tab b) B := by
  have hl := h.len
  have hgt := next_gt (t := tab) (b := b)
  have hout := next_out (b := b) h64
  have h1 := h.b1
  have old : ∀ i, i < tab.length → tn t i ≠ nextF tab b := by
    intro i hi e
    rcases h.src i hi with q | q | q
    · omega
    · rw [e] at q; exact hout (by rw [q]; exact tn_mem hi)
    · have := (h.tk2 _ q).2.1; omega
  refine ⟨by rw [List.length_set]; exact hl, fun i hi => ?_, fun x hx' => ?_, fun i j hij hj => ?_, fr_next h.fr, by omega⟩
  · rw [tn_set (by omega)]
    split
    · exact .inr (.inr (by simp))
    · rcases h.src i hi with q | q | q
      · exact .inl q
      · exact .inr (.inl q)
      · exact .inr (.inr (by simp [q]))
  · rcases List.mem_cons.1 hx' with rfl | q
    · exact ⟨by omega, Nat.le_refl _, hx, hout⟩
    · obtain ⟨a, c, d, e⟩ := h.tk2 x q
      exact ⟨a, by omega, d, e⟩
  · rw [tn_set (by omega), tn_set (by omega)]
    split
    · split
      · omega
      · intro _; exact old i (by omega)
    · split
      · intro _ e; exact old j hj e.symm
      · exact h.dist i j hij hj
theorem LI.tok {tab t tk : List Nat} {b B : Nat} (h : LI tab t tk b B) (hT : Tok tab B) : Tok t B := by
  have hl := h.len
  obtain ⟨h1, h2, h3, h4⟩ := tok_iff.1 hT
  refine tok_iff.2 ⟨by omega, by omega, fun i hi => ?_, fun i j hij hj h0 => h.dist i j hij (by omega) h0⟩
  rcases h.src i (by omega) with q | q | q
  · exact .inl q
  · rw [q]; exact h3 i (by omega)
  · obtain ⟨a, _, c, _⟩ := h.tk2 _ q
    exact .inr ⟨a, c⟩
theorem free_in {tab t tk : List Nat} {b B : Nat} (h : LI tab t tk b B) (hT : Tok tab B) (hk : tk.length < tab.length) : nextF tab b < B := by
  have := free_bound h.fr
  have := hT.2.1
  omega


theorem lay_li {tab : List Nat} {B : Nat} (hT : Tok tab B) (h64 : ∀ x ∈ tab, x < 64) : ∀ (ps : List (Int × List Nat)) (b : Nat) (t tk : List Nat) (S : Dk) (t' : List Nat), LI tab t tk b B → tk.length + ps.length ≤ tab.length → (layS tab ps b t S).1 = some t' → ∃ tk' b', LI tab t' tk' b' B := by
  intro ps
  induction ps with
  | nil => intro b t tk S t' h _ e; unfold layS at e; cases e; exact ⟨tk, b, h⟩
  | cons a l ih =>
    obtain ⟨p, d⟩ := a
    intro b t tk S t' h hk e
    rw [List.length_cons] at hk
    unfold layS at e
    split at e
    · exact ih b _ tk S t' (h.zero _) (by omega) e
    · split at e
      · exact ih _ _ _ _ t' (h.next h64 (free_in h hT (by omega)) _) (by simp; omega) e
      · cases e


/-- What Put answers, and what the book and its disk are then. -/
def putO (P : Bo) (S : Dk) (ps : List (Int × List Nat)) : Int × Bo × Dk :=
  if shutB P S = true then (80, endB P, S)
  else if faultI P.tab.length ps ≠ 0 then (faultI P.tab.length ps, P, S)
  else if ps = [] then (0, P, S)
  else if P.gen = 1099511627776 then (92, P, S)
  else match layS P.tab ps 1 P.tab S with
    | (none, S') => (80, endB P, S')
    | (some t, S') => if writeI S' ((1 - P.home : Nat) : Int) (rootB (P.gen + 1) t) = 0 then (0, ⟨P.gen + 1, t, 1 - P.home, P.over⟩, writeS S' ((1 - P.home : Nat) : Int) (rootB (P.gen + 1) t)) else (80, endB P, writeS S' ((1 - P.home : Nat) : Int) (rootB (P.gen + 1) t))
section

variable {P : Bo} {S S' : Dk} {ps : List (Int × List Nat)} {t : List Nat}

theorem put_shut (h : shutB P S = true) : putO P S ps = (80, endB P, S) := by unfold putO; rw [if_pos h]
theorem put_fault (h : shutB P S = false) (hf : faultI P.tab.length ps ≠ 0) : putO P S ps = (faultI P.tab.length ps, P, S) := by unfold putO; rw [if_neg (by rw [h]; simp), if_pos hf]
theorem put_empty (h : shutB P S = false) (hp : ps = []) : putO P S ps = (0, P, S) := by unfold putO; rw [if_neg (by rw [h]; simp), hp, if_neg (fun e => e rfl), if_pos rfl]
theorem put_room (h : shutB P S = false) (hf : faultI P.tab.length ps = 0) (hp : ps ≠ []) (hg : P.gen = 1099511627776) : putO P S ps = (92, P, S) := by unfold putO; rw [if_neg (by rw [h]; simp), if_neg (fun e => e hf), if_neg hp, if_pos hg]
theorem put_lay (h : shutB P S = false) (hf : faultI P.tab.length ps = 0) (hp : ps ≠ []) (hg : P.gen ≠ 1099511627776) (hl : layS P.tab ps 1 P.tab S = (none, S')) : putO P S ps = (80, endB P, S') := by
  unfold putO; rw [if_neg (by rw [h]; simp), if_neg (fun e => e hf), if_neg hp, if_neg hg, hl]
theorem put_ok (h : shutB P S = false) (hf : faultI P.tab.length ps = 0) (hp : ps ≠ []) (hg : P.gen ≠ 1099511627776) (hl : layS P.tab ps 1 P.tab S = (some t, S')) (hw : writeI S' ((1 - P.home : Nat) : Int) (rootB (P.gen + 1) t) = 0) :
    putO P S ps = (0, ⟨P.gen + 1, t, 1 - P.home, P.over⟩, writeS S' ((1 - P.home : Nat) : Int) (rootB (P.gen + 1) t)) := by
  unfold putO; rw [if_neg (by rw [h]; simp), if_neg (fun e => e hf), if_neg hp, if_neg hg, hl]; simp only; rw [if_pos hw]
theorem put_cut (h : shutB P S = false) (hf : faultI P.tab.length ps = 0) (hp : ps ≠ []) (hg : P.gen ≠ 1099511627776) (hl : layS P.tab ps 1 P.tab S = (some t, S')) (hw : writeI S' ((1 - P.home : Nat) : Int) (rootB (P.gen + 1) t) ≠ 0) :
    putO P S ps = (80, endB P, writeS S' ((1 - P.home : Nat) : Int) (rootB (P.gen + 1) t)) := by
  unfold putO; rw [if_neg (by rw [h]; simp), if_neg (fun e => e hf), if_neg hp, if_neg hg, hl]; simp only; rw [if_neg hw]
theorem lay_ok {B : Nat} (hk : P.ok B) (hB : B ≤ 64) (hf : Lok P.tab.length ps) (hl : layS P.tab ps 1 P.tab S = (some t, S')) : Tok t B ∧ t.length = P.tab.length := by
  obtain ⟨tk, b, h⟩ := lay_li hk.tok (fun x hx => by have := tok_lt hk.tok x hx; omega) ps 1 P.tab [] S t (LI.start hk.tok) (by simp; exact lok_len hf) (by rw [hl])
  exact ⟨h.tok hk.tok, h.len⟩
end

end Go.Proofs.Ytakijnclllmkfab


