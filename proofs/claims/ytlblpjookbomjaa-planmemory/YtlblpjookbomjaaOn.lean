/- PlanMemory: rows that are written over and grow; what stays. -/
import Derived.Test.YtlblpjookbomjaaOj

namespace Go.Proofs.Ytlblpjookbomjaa

open Go.RowKit



theorem own_setS {w : World} {B e s g n cap o : Nat} {xs : List Value} (u : Value) (h : w.ownsRow B e s (.slice (some ⟨g, 0, none⟩) n cap) n xs) : (w.setCell ⟨g, o, none⟩ u).ownsRow B e s (.slice (some ⟨g, 0, none⟩) n cap) n (xs.set o u) := by
  obtain ⟨h1, h2⟩ := h
  rcases h2 with ⟨h, _⟩ | ⟨g', cap', cur, e1, hb, hg, hnc, hcm, hcs, ht⟩
  · cases h
  · cases e1
    refine ⟨by simpa using h1, .inr ⟨g, cap, cur.setIfInBounds o u, rfl, hb, ?_, hnc, hcm, by simpa using hcs, ?_⟩⟩
    · rw [Sort.setCell_eq]
      simp [Sort.mapBlock, Array.getElem?_modify, hg, Sort.onCells]
    · rw [← ht, Array.toList_setIfInBounds, List.take_set]
theorem flatQ_set (q : Pr) : ∀ (m : List Pr) (k : Nat), flatQ (m.set k q) = (((flatQ m).set (k * 3) (.int .u64 q.k)).set (k * 3 + 1) (.bool q.v.h)).set (k * 3 + 2) (.int .u64 q.v.b)
  | [], k => by simp [flatQ]
  | a :: m, 0 => by simp [flatQ]
  | a :: m, k + 1 => by
    have ih := flatQ_set q m k
    have e : ∀ (o : Pr) (l : List Pr), flatQ (o :: l) = .int .u64 o.k :: .bool o.v.h :: .int .u64 o.v.b :: flatQ l := fun _ _ => rfl
    rw [List.set_cons_succ, e, ih, e, show (k + 1) * 3 = k * 3 + 1 + 1 + 1 by omega]
    simp
/-- A pair laid into a row of one's own. -/
theorem own_put {w : World} {B g n cap k : Nat} {m : List Pr} (q : Pr) (h : w.ownsRow B 43 3 (.slice (some ⟨g, 0, none⟩) n cap) n (flatQ m)) :
    (((w.setCell ⟨g, k * 3, none⟩ (.int .u64 q.k)).setCell ⟨g, k * 3 + 1, none⟩ (.bool q.v.h)).setCell ⟨g, k * 3 + 2, none⟩ (.int .u64 q.v.b)).ownsRow B 43 3 (.slice (some ⟨g, 0, none⟩) n cap) n (flatQ (m.set k q)) := by
  rw [flatQ_set]
  exact own_setS _ (own_setS _ (own_setS _ h))
theorem own_keep {w w' : World} {B e s n : Nat} {v : Value} {xs : List Value} (h : w.ownsRow B e s v n xs) (hk : ∀ x, v.ownBlock = some x → w'.heap[x]? = w.heap[x]?) : w'.ownsRow B e s v n xs := by
  obtain ⟨h1, h2⟩ := h
  rcases h2 with ⟨rfl, h0⟩ | ⟨g, cap, cur, rfl, hb, hg, k⟩
  · exact ⟨h1, .inl ⟨rfl, h0⟩⟩
  · exact ⟨h1, .inr ⟨g, cap, cur, rfl, hb, by rw [hk g rfl]; exact hg, k⟩⟩
theorem Dl.keep {B : Nat} {w w' : World} {v : Value} {n : Nat} {vs : Nat → Value} {ls : Nat → List Pr} (h : Dl B w v n vs ls) (hk : ∀ x, B ≤ x → x < w.heap.size → w'.heap[x]? = w.heap[x]?) : Dl B w' v n vs ls :=
  ⟨own_keep h.row (fun x hx => hk x (h.row.lt x hx).1 (h.row.lt x hx).2), fun i hi => own_keep (h.own i hi) (fun x hx => hk x ((h.own i hi).lt x hx).1 ((h.own i hi).lt x hx).2)⟩
/-- A pair laid into one of the lists. -/
theorem Dl.put {B g n h cap N i k : Nat} {w : World} {vs : Nat → Value} {ls : Nat → List Pr} (q : Pr) (hd : Dl B w (.slice (some ⟨g, 0, none⟩) n N) n vs ls) (hne : Ne n vs) (hi : i < n) (hv : vs i = .slice (some ⟨h, 0, none⟩) (ls i).length cap) :
    Dl B (((w.setCell ⟨h, k * 3, none⟩ (.int .u64 q.k)).setCell ⟨h, k * 3 + 1, none⟩ (.bool q.v.h)).setCell ⟨h, k * 3 + 2, none⟩ (.int .u64 q.v.b)) (.slice (some ⟨g, 0, none⟩) n N) n vs (setF ls i ((ls i).set k q)) := by
  have ho := hd.own i hi
  have hob : (vs i).ownBlock = some h := by rw [hv]; rfl
  have oth : ∀ {e s m : Nat} {v : Value} {xs : List Value}, w.ownsRow B e s v m xs → v.ownBlock ≠ some h → (((w.setCell ⟨h, k * 3, none⟩ (.int .u64 q.k)).setCell ⟨h, k * 3 + 1, none⟩ (.bool q.v.h)).setCell ⟨h, k * 3 + 2, none⟩ (.int .u64 q.v.b)).ownsRow B e s v m xs :=
    fun hw hb => ownsRow_setCell_other (ownsRow_setCell_other (ownsRow_setCell_other hw hb _) hb _) hb _
  have hrb : (Value.slice (some ⟨g, 0, none⟩) n N).ownBlock ≠ some h := by
    rcases own_ne hd.row ho sp_ne.symm with e | e
    · cases e
    · rw [hob] at e; exact e
  refine ⟨oth hd.row hrb, fun j hj => ?_⟩
  by_cases e : j = i
  · subst e
    rw [setF_at, List.length_set]
    rw [hv] at ho ⊢
    exact own_put q ho
  · rw [setF_ne _ _ e]
    refine oth (hd.own j hj) ?_
    rcases hne j i hj hi e with h1 | h1
    · rw [h1]; intro h2; cases h2
    · rw [hob] at h1; exact h1


section

variable {B g n N : Nat} {w5 w8 w9 : World} {vs : Nat → Value} {ls : Nat → List Pr} {at_ : Nat} {q : Pr} {v9 : Value}

theorem Dl.stepN (h : Dl B w5 (.slice (some ⟨g, 0, none⟩) n N) n vs ls) (hne : Ne n vs) (ha : at_ < n) (hb : Below w5.heap.size w5 w8)
    (hown9 : w9.ownsRow B 43 3 v9 ((ls at_).length + 1) (flatQ (ls at_ ++ [q]))) (hg9 : w8.grownBy w9 (vs at_).ownBlock) (hat9 : v9.ownBlock = (vs at_).ownBlock ∨ v9.ownBlock = some w8.heap.size) :
    Dl B (w9.setCell ⟨g, at_, none⟩ v9) (.slice (some ⟨g, 0, none⟩) n N) n (setF vs at_ v9) (setF ls at_ (ls at_ ++ [q])) ∧ Ne n (setF vs at_ v9) := by
  have h8 := h.below hb
  have hr9 : w9.ownsRow B 34 1 (.slice (some ⟨g, 0, none⟩) n N) n ((List.range n).map vs) := h8.row.kept hg9 (own_ne h8.row (h8.own at_ ha) sp_ne.symm)
  have nb : ∀ {v : Value} {m : Nat} {xs : List Value}, w9.ownsRow B 43 3 v m xs → v.ownBlock ≠ some g := by
    intro v m xs hv he
    rcases own_ne hv hr9 sp_ne with k | k
    · rw [k] at he; cases he
    · exact k he
  have h9 : ∀ i, i < n → i ≠ at_ → w9.ownsRow B 43 3 (vs i) (ls i).length (flatQ (ls i)) := fun i hi hia => (h8.own i hi).kept hg9 (hne i at_ hi ha hia)
  refine ⟨⟨?_, fun i hi => ?_⟩, fun i j hi hj hij => ?_⟩
  · rw [range_set]
    exact own_set1 v9 hr9
  · by_cases hia : i = at_
    · subst hia
      rw [setF_at, setF_at, List.length_append]
      exact ownsRow_setCell_other hown9 (nb hown9) v9
    · rw [setF_ne _ _ hia, setF_ne _ _ hia]
      exact ownsRow_setCell_other (h9 i hi hia) (nb (h9 i hi hia)) v9
  · have old : ∀ k, k < n → (vs k).ownBlock ≠ some w8.heap.size := fun k hk => own_lt_ne (h8.own k hk) (Nat.le_refl _)
    by_cases hia : i = at_
    · subst hia
      rw [setF_at, setF_ne _ _ (fun e => hij e.symm)]
      rcases hat9 with k | k
      · rw [k]; exact hne i j hi hj hij
      · rw [k]; exact .inr (fun e => old j hj e.symm)
    · rw [setF_ne _ _ hia]
      by_cases hja : j = at_
      · subst hja
        rw [setF_at]
        rcases hat9 with k | k
        · rw [k]; exact hne i j hi hj hij
        · rw [k]; exact .inr (old i hi)
      · rw [setF_ne _ _ hja]; exact hne i j hi hj hij
end



/-- All that is older than w5 and not between lo and hi is as it was. -/
structure Kq (lo hi : Nat) (w5 wr : World) : Prop where
  os : wr.os = w5.os
  tape : wr.tape = w5.tape
  output : wr.output = w5.output
  size : w5.heap.size ≤ wr.heap.size
  block : ∀ x, x < w5.heap.size → (x < lo ∨ hi ≤ x) → wr.heap[x]? = w5.heap[x]?
section

variable {lo hi : Nat} {w5 wr wx : World}

theorem Kq.refl : Kq lo hi w5 w5 := ⟨rfl, rfl, rfl, Nat.le_refl _, fun _ _ _ => rfl⟩
theorem Kq.grown {row : Option Nat} (h : Kq lo hi w5 wr) (hg : wr.grownBy wx row) (hr : ∀ x, row = some x → (lo ≤ x ∧ x < hi) ∨ w5.heap.size ≤ x) : Kq lo hi w5 wx :=
  ⟨hg.os.trans h.os, hg.tape.trans h.tape, hg.output.trans h.output, Nat.le_trans h.size hg.size, fun x hx hd => by
    rw [hg.block x (Nat.lt_of_lt_of_le hx h.size) (fun e => by rcases hr x e.symm with h1 | h1 <;> omega)]
    exact h.block x hx hd⟩
theorem Kq.below (h : Kq lo hi w5 wr) (hb : Below wr.heap.size wr wx) : Kq lo hi w5 wx := h.grown (grown_of_below hb) (fun _ e => by cases e)
theorem Kq.set (h : Kq lo hi w5 wr) {g o : Nat} (u : Value) (hd : (lo ≤ g ∧ g < hi) ∨ w5.heap.size ≤ g) : Kq lo hi w5 (wr.setCell ⟨g, o, none⟩ u) :=
  have h0 := (Below.refl 0 wr).setCell (p := ⟨g, o, none⟩) (Nat.zero_le _) u
  ⟨h0.os.trans h.os, h0.tape.trans h.tape, h0.output.trans h.output, Nat.le_trans h.size h0.size, fun x hx hx2 => by
    rw [Below.heap_setCell wr ⟨g, o, none⟩ u x (by intro e; simp at e; rcases hd with h1 | h1 <;> omega)]
    exact h.block x hx hx2⟩
theorem Kq.old (h : Kq lo hi w5 wr) {B : Nat} {w : World} (hw : Below B w w5) (hB : B ≤ lo) (hs : B ≤ w.heap.size) : Below B w wr :=
  ⟨h.os.trans hw.os, h.tape.trans hw.tape, h.output.trans hw.output, Nat.le_trans hw.size h.size, fun x hx => by
    rw [h.block x (Nat.lt_of_lt_of_le hx (Nat.le_trans hs hw.size)) (.inl (Nat.lt_of_lt_of_le hx hB))]
    exact hw.block x hx⟩
end



/-- Where PlanMemory stands: the lists a that it writes over. -/
structure Sm (lo hi : Nat) (w5 : World) (g n N : Nat) (vs : Nat → Value) (ls : Nat → List Pr) (wr : World) : Prop where
  dl : Dl lo wr (.slice (some ⟨g, 0, none⟩) n N) n vs ls
  ne : Ne n vs
  d1 : ∀ i, i < n → ∀ x, (vs i).ownBlock = some x → x < hi ∨ w5.heap.size ≤ x
  d2 : g < hi
  kq : Kq lo hi w5 wr
section

variable {lo hi g n N : Nat} {w5 wr wx : World} {vs : Nat → Value} {ls : Nat → List Pr}

theorem Sm.below (h : Sm lo hi w5 g n N vs ls wr) (hb : Below wr.heap.size wr wx) : Sm lo hi w5 g n N vs ls wx := ⟨h.dl.below hb, h.ne, h.d1, h.d2, h.kq.below hb⟩
theorem Sm.dom (h : Sm lo hi w5 g n N vs ls wr) {i x : Nat} (hi' : i < n) (hx : (vs i).ownBlock = some x) : (lo ≤ x ∧ x < hi) ∨ w5.heap.size ≤ x := by
  have h1 := ((h.dl.own i hi').lt x hx).1
  rcases h.d1 i hi' x hx with h2 | h2
  · exact .inl ⟨h1, h2⟩
  · exact .inr h2
theorem Sm.put {h0 cap i k : Nat} (q : Pr) (h : Sm lo hi w5 g n N vs ls wr) (hi' : i < n) (hv : vs i = .slice (some ⟨h0, 0, none⟩) (ls i).length cap) :
    Sm lo hi w5 g n N vs (setF ls i ((ls i).set k q)) (((wr.setCell ⟨h0, k * 3, none⟩ (.int .u64 q.k)).setCell ⟨h0, k * 3 + 1, none⟩ (.bool q.v.h)).setCell ⟨h0, k * 3 + 2, none⟩ (.int .u64 q.v.b)) := by
  have hd := h.dom hi' (x := h0) (by rw [hv]; rfl)
  exact ⟨h.dl.put q h.ne hi' hv, h.ne, h.d1, h.d2, ((h.kq.set _ hd).set _ hd).set _ hd⟩
theorem Sm.grow {w8 w9 : World} {i : Nat} {q : Pr} {v9 : Value} (h : Sm lo hi w5 g n N vs ls wr) (hi' : i < n) (hb : Below wr.heap.size wr w8)
    (hown9 : w9.ownsRow lo 43 3 v9 ((ls i).length + 1) (flatQ (ls i ++ [q]))) (hg9 : w8.grownBy w9 (vs i).ownBlock) (hat9 : v9.ownBlock = (vs i).ownBlock ∨ v9.ownBlock = some w8.heap.size) :
    Sm lo hi w5 g n N (setF vs i v9) (setF ls i (ls i ++ [q])) (w9.setCell ⟨g, i, none⟩ v9) := by
  have hst := h.dl.stepN h.ne hi' hb hown9 hg9 hat9
  have h8 := h.kq.below hb
  refine ⟨hst.1, hst.2, fun j hj x hx => ?_, h.d2, (h8.grown hg9 (fun x hx => h.dom hi' hx)).set _ (.inl ⟨(h.dl.row.lt g rfl).1, h.d2⟩)⟩
  by_cases e : j = i
  · subst e
    rw [setF_at] at hx
    rcases hat9 with h1 | h1
    · rw [h1] at hx; exact h.d1 j hj x hx
    · rw [h1] at hx
      cases hx
      exact .inr (Nat.le_trans h.kq.size hb.size)
  · rw [setF_ne _ _ e] at hx
    exact h.d1 j hj x hx
end



def rep (k m : Nat) : List Pr := List.replicate m (kv k)
/-- The lists while they are written over. -/
def lsW (p : Pn) (t : List Pr) (i k : Nat) : Nat → List Pr := fun j => if j < i then rep 99 (dealF p t j).length else if j = i then rep 99 k ++ (dealF p t j).drop k else dealF p t j
/-- The lists while they grow. -/
def lsA (p : Pn) (t : List Pr) (i k : Nat) : Nat → List Pr := fun j => rep 99 (dealF p t j).length ++ (if j < i then rep 98 9 else if j = i then rep 98 k else [])
theorem lsW_start (p : Pn) (t : List Pr) : lsW p t 0 0 = dealF p t := by
  funext j
  unfold lsW
  by_cases h : j = 0
  · subst h; simp [rep]
  · simp [h]
theorem lsW_at (p : Pn) (t : List Pr) (i k : Nat) : lsW p t i k i = rep 99 k ++ (dealF p t i).drop k := by unfold lsW; simp
theorem lsW_len (p : Pn) (t : List Pr) {i k : Nat} (hk : k ≤ (dealF p t i).length) : (lsW p t i k i).length = (dealF p t i).length := by
  rw [lsW_at]
  simp [rep]
  omega
theorem lsW_step (p : Pn) (t : List Pr) {i k : Nat} (hk : k < (dealF p t i).length) : setF (lsW p t i k) i ((lsW p t i k i).set k (kv 99)) = lsW p t i (k + 1) := by
  funext j
  by_cases h : j = i
  · subst h
    rw [setF_at, lsW_at, lsW_at, List.set_append, if_neg (by simp [rep]), List.drop_eq_getElem_cons hk, show k - (rep 99 k).length = 0 by simp [rep], List.set_cons_zero]
    unfold rep
    rw [List.replicate_succ', List.append_assoc]
    rfl
  · rw [setF_ne _ _ h]
    unfold lsW
    simp [h]
theorem lsW_next (p : Pn) (t : List Pr) (i : Nat) : lsW p t i (dealF p t i).length = lsW p t (i + 1) 0 := by
  funext j
  unfold lsW
  by_cases h : j < i
  · rw [if_pos h, if_pos (by omega)]
  · rw [if_neg h]
    by_cases e : j = i
    · subst e
      rw [if_pos rfl, if_pos (by omega)]
      simp
    · rw [if_neg e, if_neg (by omega)]
      by_cases e2 : j = i + 1
      · subst e2; simp [rep]
      · rw [if_neg e2]
theorem lsA_start (p : Pn) (t : List Pr) {n : Nat} : ∀ j, j < n → lsW p t n 0 j = lsA p t 0 0 j := by
  intro j hj
  unfold lsW lsA
  rw [if_pos hj]
  by_cases e : j = 0
  · subst e; simp [rep]
  · simp [e]
theorem lsA_at (p : Pn) (t : List Pr) (i k : Nat) : lsA p t i k i = rep 99 (dealF p t i).length ++ rep 98 k := by unfold lsA; simp
theorem lsA_len (p : Pn) (t : List Pr) (i k : Nat) : (lsA p t i k i).length = (dealF p t i).length + k := by rw [lsA_at]; simp [rep]
theorem lsA_step (p : Pn) (t : List Pr) (i k : Nat) : setF (lsA p t i k) i (lsA p t i k i ++ [kv 98]) = lsA p t i (k + 1) := by
  funext j
  by_cases h : j = i
  · subst h
    rw [setF_at, lsA_at, lsA_at]
    simp [rep, List.replicate_succ', List.append_assoc]
  · rw [setF_ne _ _ h]
    unfold lsA
    simp [h]
theorem lsA_next (p : Pn) (t : List Pr) (i : Nat) : lsA p t i 9 = lsA p t (i + 1) 0 := by
  funext j
  unfold lsA
  by_cases h : j < i
  · rw [if_pos h, if_pos (by omega)]
  · rw [if_neg h]
    by_cases e : j = i
    · subst e
      rw [if_pos rfl, if_pos (by omega)]
    · rw [if_neg e, if_neg (by omega)]
      by_cases e2 : j = i + 1
      · subst e2; simp [rep]
      · rw [if_neg e2]
theorem lsA_end (p : Pn) (t : List Pr) {n j : Nat} (hj : j < n) : lsA p t n 0 j = rep 99 (dealF p t j).length ++ rep 98 9 := by unfold lsA; rw [if_pos hj]
theorem Dl.same {B : Nat} {w : World} {v : Value} {n : Nat} {vs : Nat → Value} {ls ls' : Nat → List Pr} (h : Dl B w v n vs ls) (e : ∀ j, j < n → ls j = ls' j) : Dl B w v n vs ls' := ⟨h.row, fun i hi => by rw [← e i hi]; exact h.own i hi⟩
theorem Sm.same {lo hi g n N : Nat} {w5 wr : World} {vs : Nat → Value} {ls ls' : Nat → List Pr} (h : Sm lo hi w5 g n N vs ls wr) (e : ∀ j, j < n → ls j = ls' j) : Sm lo hi w5 g n N vs ls' wr := ⟨h.dl.same e, h.ne, h.d1, h.d2, h.kq⟩
/-- One more pair behind a list: what the step leaves. -/
theorem Sm.more {lo hi g n N i k : Nat} {w5 wr w9 : World} {vs : Nat → Value} {p : Pn} {t : List Pr} {v v9 : Value} {o : Obj} (h : Sm lo hi w5 g n N vs (lsA p t i k) wr) (hi' : i < n) (hv : vs i = v)
    (hown9 : w9.ownsRow lo 43 3 v9 ((lsA p t i k i).length + 1) (flatQ (lsA p t i k i ++ [kv 98]))) (hg9 : (wr.alloc o).grownBy w9 v.ownBlock) (hat9 : v9.ownBlock = v.ownBlock ∨ v9.ownBlock = some (wr.alloc o).heap.size) :
    ∃ ao c, v9 = .slice ao ((lsA p t i k i).length + 1) c ∧ Sm lo hi w5 g n N (setF vs i v9) (lsA p t i (k + 1)) (w9.setCell ⟨g, i, none⟩ v9) ∧ w9.cell? ⟨g, i, none⟩ = some v ∧ w9.frozen? ⟨g, i, none⟩ = false := by
  subst hv
  obtain ⟨ao, c, e, _, _⟩ := row_form hown9
  have hs := h.grow hi' (below_alloc wr o) hown9 hg9 hat9
  rw [lsA_step] at hs
  have h8 := h.dl.below (below_alloc wr o)
  have hr := h8.row.kept hg9 (own_ne h8.row (h8.own i hi') sp_ne.symm)
  exact ⟨ao, c, e, hs, (row1_cell hr hi').1, (row1_cell hr hi').2⟩
end Go.Proofs.Ytlblpjookbomjaa


