/- Open. -/
import Derived.Test.YtakijnclllmkfabPl

namespace Go.Proofs.Ytakijnclllmkfab

open Go.RowKit



/-- The disk behind k reads of the roots' blocks; the book that they hold. -/
def rdS (S : Dk) : Nat → Dk
  | 0 => S
  | k + 1 => readS (rdS S k) k
def pickB (h : Option Bo) (r : Option (Nat × List Nat)) (k : Nat) : Option Bo :=
  match r with
  | none => h
  | some (g, t) => match h with
    | none => some ⟨g, t, k, false⟩
    | some P => if P.gen < g then some ⟨g, t, k, false⟩ else some P
def heldK (S : Dk) : Nat → Option Bo
  | 0 => none
  | k + 1 => pickB (heldK S k) (rootOf (readL (rdS S k) k) S.bl.length) k
theorem rd_len (S : Dk) (k : Nat) : (rdS S k).bl.length = S.bl.length := by
  induction k with
  | zero => rfl
  | succ k ih => unfold rdS; rw [read_len, ih]
theorem rd_rd (S : Dk) (k : Nat) : (rdS S k).rd ≤ S.rd + k := by
  induction k with
  | zero => exact Nat.le_refl _
  | succ k ih =>
    unfold rdS readS
    split
    · show (rdS S k).rd + 1 ≤ _; omega
    · omega
theorem read_fit {S : Dk} (h : S.ok) (i : Int) : (readL S i).length ≤ 1024 ∧ ∀ c ∈ readL S i, c < 256 := by
  unfold readL
  split
  · rename_i hr
    obtain ⟨_, k, rfl, hk⟩ := ref_ok hr
    rw [Int.toNat_natCast]
    exact ⟨h.len _ (bk_mem hk), h.byt _ (bk_mem hk)⟩
  · exact ⟨by simp, fun c hc => by simp at hc⟩
theorem pick_ok {h : Option Bo} {b : List Nat} {k B : Nat} (hk : k ≤ 1) (hb : ∀ c ∈ b, c < 256) (hh : ∀ P, h = some P → P.ok B) : ∀ P, pickB h (rootOf b B) k = some P → P.ok B := by
  intro P hP
  cases hr : rootOf b B with
  | none => rw [hr] at hP; exact hh P hP
  | some q =>
    obtain ⟨g, t⟩ := q
    obtain ⟨h1, h2, h3, h4⟩ := root_fit hb hr
    have hn : (Bo.mk g t k false).ok B := ⟨h1, h2, h3, h4, hk⟩
    rw [hr] at hP
    unfold pickB at hP
    simp only at hP
    split at hP
    · cases hP; exact hn
    · split at hP
      · cases hP; exact hn
      · cases hP; exact hh _ rfl


/-- What Open and Format answer. -/
def Ob (F : Value → Value → Bo → Array Value) (TB TD : TypeId) (D : Nat → Prop) (w : World) (dv : Value) (c : Int) (o : Option Bo) (S' : Dk) (e : Ending) (w' : World) : Prop :=
  ∃ v, e = .returned (.tuple #[v, .int .i64 c]) ∧ (o = none → v = .pointer none ∧ ∃ D', Dsk TD D' w' dv S' ∧ ∀ x, D' x → D x ∨ w.heap.size ≤ x) ∧
    (∀ P, o = some P → ∃ A', Bk F TB TD A' w' v dv P S' ∧ ∀ x, A' x → D x ∨ w.heap.size ≤ x) ∧ Ch D w w'
def opI (S : Dk) : Int := if S.down = true then 80 else if heldK S 2 = none then 90 else 0
def opB (S : Dk) : Option Bo := if S.down = true then none else heldK S 2
def opS (S : Dk) : Dk := if S.down = true then S else rdS S 2


/-- The value v is a book's pointer, the book P lies there beside the disk dv; or there is none. -/
def Hb (F : Value → Value → Bo → Array Value) (TB : TypeId) (w : World) (dv v : Value) (o : Option Bo) (wr : World) : Prop :=
  (o = none ∧ v = .pointer none) ∨ ∃ P pb tv, o = some P ∧ v = .pointer (some ⟨pb, 0, none⟩) ∧ wr.heap[pb]? = some (.cells (F tv dv P) TB (0, 0)) ∧ Tw wr tv P.tab ∧ w.heap.size ≤ pb ∧ ∀ x, tv.ownBlock = some x → w.heap.size ≤ x ∧ x ≠ pb
theorem Hb.ch {F : Value → Value → Bo → Array Value} {TB : TypeId} {D : Nat → Prop} {w wr wy : World} {dv v : Value} {o : Option Bo} (h : Hb F TB w dv v o wr) (hc : Ch D wr wy) (hD : ∀ x, D x → x < w.heap.size) : Hb F TB w dv v o wy := by
  rcases h with h | ⟨P, pb, tv, h1, h2, h3, h4, h5, h6⟩
  · exact .inl h
  · have hl := (Array.getElem?_eq_some_iff.1 h3).1
    obtain ⟨ao, cap, rfl, _, _⟩ := h4.form
    refine .inr ⟨P, pb, _, h1, h2, by rw [hc.block pb hl (fun e => by have := hD _ e; omega)]; exact h3, ?_, h5, h6⟩
    by_cases ht : P.tab = []
    · rw [ht] at h4 ⊢
      obtain ⟨ao', cap', e, q1, q2, q3, q4⟩ := h4
      exact ⟨ao', cap', e, q1, q2, q3, fun i hi => by simp [ib] at hi⟩
    · obtain ⟨b, off, rfl, hcell⟩ := h4.at (i := 0) (List.length_pos_iff.2 ht)
      refine h4.ch (fun x hx => ?_)
      simp [Value.ownBlock] at hx
      subst hx
      exact hc.block _ (cell_lt hcell) (fun e => by have := hD _ e; have := (h6 b (by simp [Value.ownBlock])).1; omega)
theorem Hb.bk {F : Value → Value → Bo → Array Value} {TB TD : TypeId} {D : Nat → Prop} {w wr : World} {dv v : Value} {P : Bo} {S : Dk} (h : Hb F TB w dv v (some P) wr) (hd : Dsk TD D wr dv S) (hD : ∀ x, D x → x < w.heap.size) (hok : P.ok S.bl.length) : ∃ A', Bk F TB TD A' wr v dv P S ∧ ∀ x, A' x → D x ∨ w.heap.size ≤ x := by
  rcases h with ⟨h, _⟩ | ⟨P', pb, tv, h1, h2, h3, h4, h5, h6⟩
  · cases h
  · cases h1
    have hl := (Array.getElem?_eq_some_iff.1 h3).1
    refine ⟨fun x => D x ∨ ((x = pb ∨ tv.ownBlock = some x) ∧ x < wr.heap.size), ⟨D, pb, tv, h2, h3, h4, hd, fun x hx => .inl hx, .inr ⟨.inl rfl, hl⟩, fun e => by have := hD _ e; omega, fun x hx => ⟨?_, fun e => ?_, (h6 x hx).2⟩, fun x hx => ?_, hok⟩, fun x hx => ?_⟩
    · obtain ⟨ao, cap, rfl, _, _⟩ := h4.form
      obtain ⟨b, off, rfl, hcell⟩ := h4.at (i := 0) hok.tok.1
      simp [Value.ownBlock] at hx
      subst hx
      exact .inr ⟨.inr rfl, cell_lt hcell⟩
    · have h7 := hD _ e; have h8 := (h6 x hx).1; omega
    · rcases hx with e | e
      · exact hd.lt e
      · exact e.2
    · rcases hx with e | ⟨e | e, _⟩
      · exact .inl e
      · subst e; exact .inr h5
      · exact .inr (h6 x e).1


section

variable {D : Nat → Prop} {w : World} {dv : Value} {S : Dk}



/-- Where Open's loop stands. -/
def OpRel (D : Nat → Prop) (w : World) (dv : Value) (S : Dk) (hv iv : Value) (wr : World) : Prop :=
  ∃ k : Nat, k ≤ 2 ∧ iv = .int .i64 k ∧ Dsk 62 D wr dv (rdS S k) ∧ Ch D w wr ∧ Hb hdP 56 w dv hv (heldK S k) wr ∧ ∀ P, heldK S k = some P → P.ok S.bl.length


theorem op_new {w3 wq : World} {k g : Nat} {t : List Nat} {sb tc : Nat} {to' : Option Addr} (hlt : k < 2) (hN : heldK S (k + 1) = some ⟨g, t, k, false⟩) (h3 : Dsk 62 D w3 (.pointer (some ⟨sb, 0, none⟩)) (rdS S (k + 1))) (hC : Ch D w w3) (hB : Below w3.heap.size w3 wq)
    (hT : Tw w3 (.slice to' t.length tc) t) (hn : ∀ x, (Value.slice to' t.length tc).ownBlock = some x → w.heap.size ≤ x ∧ x < w3.heap.size) (hok : ∀ P, heldK S (k + 1) = some P → P.ok S.bl.length) :
    OpRel D w (.pointer (some ⟨sb, 0, none⟩)) S (.pointer (some ⟨wq.heap.size, 0, none⟩)) (.int .i64 ((k : Int) + 1)) (wq.alloc (Obj.cells #[.int .u64 g, .slice to' t.length tc, .pointer (some ⟨sb, 0, none⟩), .int .i64 k, .bool false] 56)) := by
  have hb2 := below_trans hB (below_alloc wq (Obj.cells #[.int .u64 g, .slice to' t.length tc, .pointer (some ⟨sb, 0, none⟩), .int .i64 k, .bool false] 56))
  refine ⟨k + 1, hlt, by simp, h3.below hb2, hC.self (Ch.of_below hb2), .inr ⟨_, wq.heap.size, _, hN, rfl, heap_alloc_new wq _, hT.below hb2, Nat.le_trans hC.size hB.size, fun x hx => ⟨(hn x hx).1, fun e => ?_⟩⟩, hok⟩
  have h1 := (hn x hx).2
  have h2 := hB.size
  omega


end

end Go.Proofs.Ytakijnclllmkfab


