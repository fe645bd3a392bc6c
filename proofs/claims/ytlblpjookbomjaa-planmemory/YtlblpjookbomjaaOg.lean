/- Deal: the lists by their stores; rows that grow one pair at a time. -/
import Derived.Test.YtlblpjookbomjaaOf

import Derived.Sort.Row

namespace Go.Proofs.Ytlblpjookbomjaa

open Go.RowKit



/-- The pairs of one store. -/
def dealF (p : Pn) (t : List Pr) (i : Nat) : List Pr := t.filter fun q => p.place q.k == i
def Pn.n (p : Pn) : Nat := if p.is then p.S.toNat else 0
def setF {α : Type} (f : Nat → α) (i : Nat) (x : α) : Nat → α := fun j => if j = i then x else f j
theorem setF_at {α : Type} (f : Nat → α) (i : Nat) (x : α) : setF f i x i = x := if_pos rfl
theorem setF_ne {α : Type} (f : Nat → α) {i j : Nat} (x : α) (h : j ≠ i) : setF f i x j = f j := if_neg h
theorem deal_ok {p : Pn} {t : List Pr} (h : okT t) (i : Nat) : okT (dealF p t i) := fun q hq => h q (List.mem_filter.1 hq).1
theorem deal_len (p : Pn) (t : List Pr) (i : Nat) : (dealF p t i).length ≤ t.length := List.length_filter_le _ _
theorem deal_step (p : Pn) (t : List Pr) {k : Nat} (hk : k < t.length) : dealF p (t.take (k + 1)) = setF (dealF p (t.take k)) (p.place t[k].k) (dealF p (t.take k) (p.place t[k].k) ++ [t[k]]) := by
  funext i
  unfold dealF
  rw [List.take_succ_eq_append_getElem hk, List.filter_append]
  by_cases h : i = p.place t[k].k
  · subst h
    rw [setF_at]
    simp
  · rw [setF_ne _ _ h]
    have : (p.place t[k].k == i) = false := by simpa using fun e => h e.symm
    simp [this]
theorem range_set {vs : Nat → Value} {n i : Nat} {x : Value} : (List.range n).map (setF vs i x) = ((List.range n).map vs).set i x := by
  apply List.ext_getElem?
  intro j
  rw [List.getElem?_set]
  by_cases hj : j < n
  · by_cases h : i = j
    · subst h
      simp [hj, setF_at]
    · rw [if_neg h]
      simp [hj, setF_ne vs x (fun e => h e.symm)]
  · by_cases h : i = j
    · subst h
      simp [hj]
    · simp [hj, h]


theorem row_form {w : World} {base e s n : Nat} {v : Value} {xs : List Value} (h : w.ownsRow base e s v n xs) : ∃ ao cap, v = .slice ao n cap ∧ n ≤ cap ∧ cap ≤ maxLen := by
  rcases h.2 with ⟨rfl, rfl⟩ | ⟨g, cap, cur, rfl, hb, hg, h1, h2, _⟩
  · exact ⟨none, 0, rfl, Nat.le_refl _, by simp [maxLen]⟩
  · exact ⟨_, cap, rfl, h1, h2⟩
theorem own_base {w : World} {base base' e size n : Nat} {v : Value} {xs : List Value} (h : w.ownsRow base e size v n xs) (hb : base' ≤ base) : w.ownsRow base' e size v n xs := by
  obtain ⟨h1, h2⟩ := h
  rcases h2 with ⟨rfl, h0⟩ | ⟨g', cap, cur, rfl, hg, k⟩
  · exact ⟨h1, .inl ⟨rfl, h0⟩⟩
  · exact ⟨h1, .inr ⟨g', cap, cur, rfl, Nat.le_trans hb hg, k⟩⟩
theorem own_set1 {w : World} {B e g n cap i : Nat} {xs : List Value} (u : Value) (h : w.ownsRow B e 1 (.slice (some ⟨g, 0, none⟩) n cap) n xs) : (w.setCell ⟨g, i, none⟩ u).ownsRow B e 1 (.slice (some ⟨g, 0, none⟩) n cap) n (xs.set i u) := by
  obtain ⟨h1, h2⟩ := h
  rcases h2 with ⟨h, _⟩ | ⟨g', cap', cur, e1, hb, hg, hnc, hcm, hcs, ht⟩
  · cases h
  · cases e1
    refine ⟨by simpa using h1, .inr ⟨g, cap, cur.setIfInBounds i u, rfl, hb, ?_, hnc, hcm, by simpa using hcs, ?_⟩⟩
    · rw [Sort.setCell_eq]
      simp [Sort.mapBlock, Array.getElem?_modify, hg, Sort.onCells]
    · rw [← ht, Array.toList_setIfInBounds, List.take_set]
theorem row1_cell {w : World} {B e g n cap i : Nat} {vs : Nat → Value} (h : w.ownsRow B e 1 (.slice (some ⟨g, 0, none⟩) n cap) n ((List.range n).map vs)) (hi : i < n) : w.cell? ⟨g, i, none⟩ = some (vs i) ∧ w.frozen? ⟨g, i, none⟩ = false := by
  rcases h.2 with ⟨h, _⟩ | ⟨g', cap', cur, e1, hb, hg, hnc, hcm, hcs, ht⟩
  · cases h
  · cases e1
    refine ⟨?_, by simp [World.frozen?, hg]⟩
    rw [cell_of_row w g i cur _ (0, 0) hg]
    have e := congrArg (fun x => x[i]?) ht
    simp only [List.getElem?_take, Nat.mul_one, hi, if_true, Array.getElem?_toList] at e
    rw [e]
    simp [hi]


/-- No two rows in one block. -/
def Ne (n : Nat) (vs : Nat → Value) : Prop := ∀ i j, i < n → j < n → i ≠ j → (vs i).ownBlock = none ∨ (vs i).ownBlock ≠ (vs j).ownBlock
theorem own_lt_ne {w : World} {B e s n k : Nat} {v : Value} {xs : List Value} (h : w.ownsRow B e s v n xs) (hk : w.heap.size ≤ k) : v.ownBlock ≠ some k := fun he => by
  have := (h.lt k he).2
  omega
theorem sp_ne : (43 : Nat) ≠ 34 := by decide
section

variable {B g n : Nat} {w5 w8 w9 : World} {vs : Nat → Value} {ls : Nat → List Pr} {at_ : Nat} {q : Pr} {v9 : Value}

theorem Dl.step (h : Dl B w5 (.slice (some ⟨g, 0, none⟩) n n) n vs ls) (hne : Ne n vs) (ha : at_ < n) (hb : Below w5.heap.size w5 w8)
    (hown9 : w9.ownsRow B 43 3 v9 ((ls at_).length + 1) (flatQ (ls at_ ++ [q]))) (hg9 : w8.grownBy w9 (vs at_).ownBlock) (hat9 : v9.ownBlock = (vs at_).ownBlock ∨ v9.ownBlock = some w8.heap.size) :
    Dl B (w9.setCell ⟨g, at_, none⟩ v9) (.slice (some ⟨g, 0, none⟩) n n) n (setF vs at_ v9) (setF ls at_ (ls at_ ++ [q])) ∧ Ne n (setF vs at_ v9) := by
  have h8 := h.below hb
  have hr9 : w9.ownsRow B 34 1 (.slice (some ⟨g, 0, none⟩) n n) n ((List.range n).map vs) := h8.row.kept hg9 (own_ne h8.row (h8.own at_ ha) sp_ne.symm)
  have nb : ∀ {v : Value} {m : Nat} {xs : List Value}, w9.ownsRow B 43 3 v m xs → v.ownBlock ≠ some g := by
    intro v m xs hv he
    rcases own_ne hv hr9 sp_ne with k | k
    · rw [k] at he; cases he
    · exact k he
  have h9 : ∀ i, i < n → i ≠ at_ → w9.ownsRow B 43 3 (vs i) (ls i).length (flatQ (ls i)) := fun i hi hia => (h8.own i hi).kept hg9 (hne i at_ hi ha hia)
  refine ⟨⟨?_, fun i hi => ?_⟩, fun i j hi hj hij => ?_⟩
  · rw [range_set]
    exact own_set1 v9 hr9
  · by_cases hia : i = at_
    · subst hia
      rw [setF_at, setF_at, List.length_append]
      exact ownsRow_setCell_other hown9 (nb hown9) v9
    · rw [setF_ne _ _ hia, setF_ne _ _ hia]
      exact ownsRow_setCell_other (h9 i hi hia) (nb (h9 i hi hia)) v9
  · have old : ∀ k, k < n → (vs k).ownBlock ≠ some w8.heap.size := fun k hk => own_lt_ne (h8.own k hk) (Nat.le_refl _)
    by_cases hia : i = at_
    · subst hia
      rw [setF_at, setF_ne _ _ (fun e => hij e.symm)]
      rcases hat9 with k | k
      · rw [k]; exact hne i j hi hj hij
      · rw [k]; exact .inr (fun e => old j hj e.symm)
    · rw [setF_ne _ _ hia]
      by_cases hja : j = at_
      · subst hja
        rw [setF_at]
        rcases hat9 with k | k
        · rw [k]; exact hne i j hi hj hij
        · rw [k]; exact .inr (old i hi)
      · rw [setF_ne _ _ hja]; exact hne i j hi hj hij
end



/-- Append of one pair onto a row of one's own, as one step of a region that draws. -/
theorem step_app_pr {ops : Array Oper} {o : Oper} {a : Act} {w : World} {K : Act → World → Prop} {Q : Exit → Act → World → Prop} {E : Prop}
    (hg : o.guard = none) (s x : Operand) (hop : o.op = Op.call { callee := Callee.builtin Builtin.append, args := #[s, x], argTypes := #[34, 34] })
    {base : Nat} (v : Value) (l : List Pr) (hs : a.eval s = v) (hown : w.ownsRow base 43 3 v l.length (flatQ l))
    (X : Nat) (q : Pr) (hx : a.eval x = .slice (some ⟨X, 0, none⟩) 1 1) (h0 : w.cell? ⟨X, 0, none⟩ = some (.int .u64 q.k)) (h1 : w.cell? ⟨X, 1, none⟩ = some (.bool q.v.h)) (h2 : w.cell? ⟨X, 2, none⟩ = some (.int .u64 q.v.b)) (hn : (l.length + 1) * 24 ≤ 140737488355328) (hb : base ≤ w.heap.size)
    (hK : ∀ v' w', w'.ownsRow base 43 3 v' (l.length + 1) (flatQ (l ++ [q])) → w.grownBy w' v.ownBlock → (v'.ownBlock = v.ownBlock ∨ v'.ownBlock = some w.heap.size) → K (a.put o.dst v') w') :
    if Region.wanted o (yielded ops a.tmps) = true then Oper.wp Try.prog o a w K Q else E := by
  have hw : Region.wanted o (yielded ops a.tmps) = true := by simp [Region.wanted, hg]
  rw [if_pos hw]
  obtain ⟨i0, hi, hz0, hz1, hz2⟩ := info_partsQ info_pair
  obtain ⟨v', w', hrun, r1, r2, _, r3⟩ := run_append_own_at (P := Try.prog) w base 34 o.type 43 i0 (.agg #[.int .u64 0, .bool false, .int .u64 0]) 3 24 Try.underlying34 hi hz0 hz1 hz2 rfl (by decide) v l.length (flatQ l) hown ⟨X, 0, none⟩ 1 1 [.int .u64 q.k, .bool q.v.h, .int .u64 q.v.b] rfl (pair_cells h0 h1 h2) (by intro u hu; simp at hu; rcases hu with rfl | rfl | rfl <;> rfl) (by simp only [maxLen]; omega) hn hb
  unfold Oper.wp
  simp [execOp, hop, resolve, invoke, builtin, hs, hx, hrun, Result.andThen]
  exact hK v' w' (by rw [flatQ_append]; exact r1) r2 r3
theorem make_sp {p : Pn} (hp : p.is = true) : ∀ wx : World, (Instr.makeSlice 36 (.int .i64 p.S) (.int .i64 p.S)).run Try.prog wx = .ok (.slice (some ⟨wx.heap.size, 0, none⟩) p.S.toNat p.S.toNat) (wx.alloc (.cells (madeCells #[.slice none 0 0] (p.S.toNat * 1)) 34)) := fun wx => by
  obtain ⟨_, ⟨s1, s2⟩, _⟩ := Pn.is_num hp
  obtain ⟨i0, hi0, hz0, hz1, hz2⟩ := info_partsQ info_sp
  have := run_make (P := Try.prog) wx 36 34 i0 (.slice none 0 0) Try.underlying36 hi0 hz0 .i64 .i64 p.S p.S (by omega) (Int.le_refl _) (by rw [hz2]; omega) (by omega)
  rw [hz1] at this
  exact this
theorem made_sp (w : World) {q : Nat} (hq : q ≤ 4) (p : Pn) : Dl w.heap.size (w.alloc (.cells (madeCells #[.slice none 0 0] (q * 1)) 34)) (.slice (some ⟨w.heap.size, 0, none⟩) q q) q (fun _ => .slice none 0 0) (dealF p ([] : List Pr)) := by
  have e : (madeCells #[(Value.slice none 0 0)] (q * 1)) = ((List.range q).map (fun _ => (Value.slice none 0 0))).toArray := by
    apply Array.ext_getElem?
    intro i
    by_cases hi : i < q
    · simp [madeCells, hi, Nat.mod_one]
    · rw [Array.getElem?_eq_none (by rw [size_madeCells]; omega), Array.getElem?_eq_none (by simp; omega)]
  refine ⟨?_, fun i hi => ?_⟩
  · rw [e]
    have := World.ownsRow_lit (base := w.heap.size) (e := 34) (size := 1) w ((List.range q).map (fun _ => (Value.slice none 0 0))).toArray q (Nat.le_refl _) (by simp [maxLen]; omega) (by simp)
    simpa using this
  · exact World.ownsRow_nil _ _ _ _
end Go.Proofs.Ytlblpjookbomjaa


