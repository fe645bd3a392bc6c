/- What WireMemory's walk leans on: rows of the call's own beside one another, and what stays. -/
import Derived.Test.YtiglkmdeokmnhabWq
import Derived.Test.YtiglkmdeokmnhabWi
import Derived.Maps.AppendAt
namespace Go.Proofs.Ytiglkmdeokmnhab
open Go.RowKit

theorem info_bytes : (Try.prog.info? 25).map (fun i => (i.zero, i.size, i.bytes)) = some (some (.slice none 0 0), 1, 24) := by kernel_rfl

/-- APPEND within the capacity, of a slice that holds l: the value is known. -/
theorem wpList_append_fits_sv {P : Program} {w : World} {ops : Array Oper} {rest : List Oper} {o : Oper} {a : Act} {Q : Exit → Act → World → Prop} (hgd : o.guard = none) (s x : Operand) (t : TypeId)
    (ho : o.op = .call { callee := .builtin .append, args := #[s, x], argTypes := #[t, t] })
    (base : Nat) (e : TypeId) (k : IntKind) (bytes : Nat) (ht : P.underlying t = some (.slice e)) (hinf : (P.info? e).map (fun i => (i.zero, i.size, i.bytes)) = some (some (.int k 0), 1, bytes))
    (g n cap : Nat) (xs : List Value) (hs : a.eval s = .slice (some ⟨g, 0, none⟩) n cap) (hown : w.ownsRow base e 1 (.slice (some ⟨g, 0, none⟩) n cap) n xs)
    (y : Value) (l : List Int) (hx : a.eval x = y) (hy : Sv k w y l) (hfit : n + l.length ≤ cap)
    (h : ∀ w', w'.ownsRow base e 1 (.slice (some ⟨g, 0, none⟩) (n + l.length) cap) (n + l.length) (xs ++ l.map (Value.int k)) → w.grownBy w' (some g) → wpList P ops Q rest (a.put o.dst (.slice (some ⟨g, 0, none⟩) (n + l.length) cap)) w') : wpList P ops Q (o :: rest) a w := by
  obtain ⟨i0, hi, hz0, hz1, hz2⟩ := info_parts hinf
  obtain ⟨ao, c, rfl, hc1, hc2, hnone, hcells⟩ := hy
  cases ao with
  | none =>
    obtain rfl := hnone rfl
    have hl0 : l.length = 0 := by omega
    have hl : l = [] := List.eq_nil_of_length_eq_zero hl0
    subst hl
    refine wpList_append_own_none hgd s x t ho base e i0 1 ht hi _ n xs hs hown hx ?_
    have := h w (by simpa using hown) ⟨rfl, rfl, rfl, Nat.le_refl _, fun _ _ _ => rfl⟩
    simpa using this
  | some p =>
    refine wpList_append_fits w hgd s x t ho base e i0 1 ht hi hz1 g n cap xs hs hown p l.length c (l.map (Value.int k)) hx (by simp) ?_ ?_ hfit h
    · intro j u hj
      have hjl : j < l.length := by
        rcases Nat.lt_or_ge j l.length with h | h
        · exact h
        · simp [List.getElem?_eq_none (show (l.map (Value.int k)).length ≤ j by simpa using h)] at hj
      obtain ⟨b, off, e1, e2⟩ := hcells j hjl
      cases e1
      rw [WideShapes.add_plain, e2]
      simp [List.getElem?_eq_getElem hjl] at hj
      simp [List.getD, List.getElem?_eq_getElem hjl, hj]
    · intro u hu
      obtain ⟨z, _, rfl⟩ := List.mem_map.1 hu
      rfl

/-- APPEND of one number onto a row of the call's own: where the new slice lies. -/
theorem wpList_append_at_one {P : Program} {w : World} {ops : Array Oper} {rest : List Oper} {o : Oper} {a : Act} {Q : Exit → Act → World → Prop} (hgd : o.guard = none) (s x : Operand) (t : TypeId)
    (ho : o.op = .call { callee := .builtin .append, args := #[s, x], argTypes := #[t, t] })
    (base : Nat) (e : TypeId) (k : IntKind) (bytes : Nat) (ht : P.underlying t = some (.slice e)) (hinf : (P.info? e).map (fun i => (i.zero, i.size, i.bytes)) = some (some (.int k 0), 1, bytes))
    (v : Value) (n : Nat) (xs : List Value) (hs : a.eval s = v) (hown : w.ownsRow base e 1 v n xs)
    (g : Nat) (c : Int) (hx : a.eval x = .slice (some ⟨g, 0, none⟩) 1 1) (hc : w.cell? ⟨g, 0, none⟩ = some (.int k c))
    (h63 : n + 1 ≤ maxLen) (hbytes : (n + 1) * bytes ≤ 140737488355328) (hbase : base ≤ w.heap.size)
    (h : ∀ v' w', w'.ownsRow base e 1 v' (n + 1) (xs ++ [.int k c]) → w.grownBy w' v.ownBlock → (v'.ownBlock = v.ownBlock ∨ v'.ownBlock = some w.heap.size) → wpList P ops Q rest (a.put o.dst v') w') : wpList P ops Q (o :: rest) a w := by
  obtain ⟨i0, hi, hz0, hz1, hz2⟩ := info_parts hinf
  refine wpList_append_own_at w hgd s x t ho base e i0 (.int k 0) 1 bytes ht hi hz0 hz1 hz2 rfl (by decide) v n xs hs hown ⟨g, 0, none⟩ 1 1 [.int k c] hx (by simp) ?_ (by simp [Value.oneCell']) h63 hbytes hbase
    (fun v' w' h1 h2 _ h4 => h v' w' h1 h2 h4)
  intro j u hj
  have : j = 0 := by
    rcases Nat.eq_zero_or_pos j with h | h
    · exact h
    · rw [List.getElem?_eq_none (by simp; omega)] at hj; cases hj
  subst this
  simp at hj
  rw [← hj, WideShapes.add_plain]
  exact hc

/-- The tail that stands in the spare room. -/
def tail8 : List Nat := [91, 92, 93, 94, 95, 96, 97, 98]

/-- The copies that have been made: number i lies in a block of its own between M and B, with its tail. -/
def Each (w : World) (ls : List (List Nat)) (k : Nat) (xs : List Value) (M B : Nat) : Prop :=
  ∀ i, i < k → ∃ P, xs[i]? = some (.slice (some ⟨P, 0, none⟩) (ls.getD i []).length ((ls.getD i []).length + 8)) ∧ M < P ∧ P < B ∧
    w.ownsRow M 5 1 (.slice (some ⟨P, 0, none⟩) ((ls.getD i []).length + 8) ((ls.getD i []).length + 8)) ((ls.getD i []).length + 8) ((ib (ls.getD i [] ++ tail8)).map (Value.int .u8))

theorem Each.keep {w w' : World} {ls : List (List Nat)} {k M B : Nat} {xs : List Value} {row : Option Nat} (h : Each w ls k xs M B) (hg : w.grownBy w' row) (hr : ∀ r, row = some r → r ≤ M ∨ B ≤ r) : Each w' ls k xs M B := by
  intro i hi
  obtain ⟨P, h1, h2, h3, h4⟩ := h i hi
  refine ⟨P, h1, h2, h3, h4.kept hg (.inr ?_)⟩
  intro e
  have := hr P e.symm
  omega

/-- The first loop: k copies stand in mine. -/
def Mine1 (ls : List (List Nat)) (n4 M : Nat) (w : World) (mv iv : Value) (wr : World) : Prop :=
  ∃ (k : Nat) (xs : List Value), k ≤ ls.length ∧ iv = .int .i64 k ∧ mv = .slice (some ⟨M, 0, none⟩) k n4 ∧ wr.ownsRow M 25 1 mv k xs ∧ Each wr ls k xs M wr.heap.size ∧ M < wr.heap.size ∧ Below M w wr

theorem ownblk (g n cap : Nat) : (Value.slice (some ⟨g, 0, none⟩) n cap).ownBlock = some g := rfl

/-- One round. -/
theorem mine_step {ls : List (List Nat)} {n4 M k : Nat} {w wr w1 w2 w3 w4 : World} {xs : List Value} {s : List Nat} {o1 o2 : Obj} (hk : k < ls.length) (hs : ls.getD k [] = s) (hM : M < wr.heap.size) (hbel : Below M w wr)
    (heach : Each wr ls k xs M wr.heap.size) (hlen : xs.length = k)
    (g1 : wr.grownBy w1 none) (g2 : w1.grownBy w2 (some wr.heap.size)) (hlt : wr.heap.size < w2.heap.size) (g3 : (w2.alloc o1).grownBy w3 (some wr.heap.size)) (hp : w3.ownsRow wr.heap.size 5 1 (.slice (some ⟨wr.heap.size, 0, none⟩) (s.length + 8) (s.length + 8)) (s.length + 8) ((ib (s ++ tail8)).map (Value.int .u8)))
    (g4 : (w3.alloc o2).grownBy w4 (some M)) (hm : w4.ownsRow M 25 1 (.slice (some ⟨M, 0, none⟩) (k + 1) n4) (k + 1) (xs ++ [.slice (some ⟨wr.heap.size, 0, none⟩) s.length (s.length + 8)])) :
    Mine1 ls n4 M w (.slice (some ⟨M, 0, none⟩) (k + 1) n4) (.int .i64 ((k : Int) + 1)) w4 := by
  have hb0 : ∀ r, (some wr.heap.size : Option Nat) = some r → r ≤ M ∨ wr.heap.size ≤ r := fun r hr => by cases hr; omega
  have e1 := ((heach.keep g1 (by simp)).keep g2 hb0).keep (World.grownBy_alloc w2 o1 none) (by simp)
  have e2 := (e1.keep g3 hb0).keep (World.grownBy_alloc w3 o2 none) (by simp)
  have e3 := e2.keep g4 (fun r hr => by cases hr; exact .inl (Nat.le_refl _))
  have s4 : w3.heap.size < w4.heap.size := by have := g4.size; simp at this; omega
  have s3 : w2.heap.size < w3.heap.size := by have := g3.size; simp at this; omega
  have hp4 : w4.ownsRow wr.heap.size 5 1 (.slice (some ⟨wr.heap.size, 0, none⟩) (s.length + 8) (s.length + 8)) (s.length + 8) ((ib (s ++ tail8)).map (Value.int .u8)) :=
    (hp.alloc o2).kept g4 (.inr (by rw [ownblk]; simp; omega))
  refine ⟨k + 1, _, hk, rfl, rfl, hm, ?_, by omega, ?_⟩
  · intro i hi
    by_cases h : i < k
    · obtain ⟨P, h1, h2, h3, h4⟩ := e3 i h
      exact ⟨P, by rw [List.getElem?_append_left (by omega)]; exact h1, h2, by omega, h4⟩
    · obtain rfl : i = k := by omega
      refine ⟨wr.heap.size, ?_, hM, by omega, ?_⟩
      · rw [List.getElem?_append_right (by omega), hs, hlen]; simp
      · rw [hs]; exact own_base hp4 (by omega)
  · have b1 : Below M wr w1 := (Below.refl M wr).grown g1 (by omega) (by simp)
    have b2 : Below M w1 w2 := (Below.refl M w1).grown g2 (by have := g1.size; omega) (fun r hr => by cases hr; omega)
    have b3 : Below M w2 w3 := ((below_alloc w2 o1).mono (by omega)).trans ((Below.refl M _).grown g3 (by simp; omega) (fun r hr => by cases hr; omega))
    have b4 : Below M w3 w4 := ((below_alloc w3 o2).mono (by omega)).trans ((Below.refl M _).grown g4 (by simp; omega) (fun r hr => by cases hr; exact Nat.le_refl _))
    exact hbel.trans (b1.trans (b2.trans (b3.trans b4)))

/-- The copies, as they are read from now on. -/
def PvX (w : World) (v : Value) (ls : List (List Nat)) : Prop :=
  ∃ M cap, v = .slice (some ⟨M, 0, none⟩) ls.length cap ∧ ls.length ≤ cap ∧ cap ≤ maxLen ∧
    ∀ i, i < ls.length → ∃ P, w.cell? ⟨M, 0 + i, none⟩ = some (.slice (some ⟨P, 0, none⟩) (ls.getD i []).length ((ls.getD i []).length + 8)) ∧
      Bv w (.slice (some ⟨P, 0, none⟩) (ls.getD i [] ++ tail8).length ((ls.getD i []).length + 8)) (ls.getD i [] ++ tail8)

theorem PvX.below {w w' : World} {v : Value} {ls : List (List Nat)} (h : PvX w v ls) (hb : Below w.heap.size w w') : PvX w' v ls := by
  obtain ⟨M, cap, e, h1, h2, h3⟩ := h
  refine ⟨M, cap, e, h1, h2, fun i hi => ?_⟩
  obtain ⟨P, e1, e2⟩ := h3 i hi
  exact ⟨P, by rw [hb.cell (p := ⟨M, 0 + i, none⟩) (cell_lt e1)]; exact e1, e2.below hb⟩

theorem PvX.pv {w : World} {v : Value} {ls : List (List Nat)} (h : PvX w v ls) : Pv w v ls := by
  obtain ⟨M, cap, e, h1, h2, h3⟩ := h
  refine ⟨_, cap, e, h1, h2, by simp, fun i hi => ?_⟩
  obtain ⟨P, e1, e2⟩ := h3 i hi
  refine ⟨M, 0, _, rfl, e1, ?_⟩
  have := e2.cutTo (k := (ls.getD i []).length) (by simp)
  rw [List.take_left] at this
  exact this

theorem mine_done {ls : List (List Nat)} {n4 M : Nat} {wr : World} {mv : Value} {xs : List Value} (h2 : mv = .slice (some ⟨M, 0, none⟩) ls.length n4) (hn : ls.length ≤ n4) (hn4 : n4 ≤ maxLen)
    (hm : wr.ownsRow M 25 1 mv ls.length xs) (heach : Each wr ls ls.length xs M wr.heap.size) (hl : ∀ l ∈ ls, ∀ c ∈ l, c < 256) : PvX wr mv ls := by
  subst h2
  refine ⟨M, n4, rfl, hn, hn4, fun i hi => ?_⟩
  obtain ⟨P, h1, _, _, h4⟩ := heach i hi
  refine ⟨P, ?_, ?_⟩
  · rw [Nat.zero_add, hm.cellAt i (by omega)]; exact h1
  · have h5 : (ls.getD i [] ++ tail8).length = (ls.getD i []).length + 8 := by simp [tail8]
    rw [h5]
    refine own_bv h4 ?_
    intro c hc
    rcases List.mem_append.1 hc with h | h
    · refine hl (ls.getD i []) ?_ c h
      simp [List.getD, List.getElem?_eq_getElem hi]
    · simp [tail8] at h; omega

theorem grown_trans {w w1 w2 : World} {row : Option Nat} (h : w.grownBy w1 row) (k : w1.grownBy w2 row) : w.grownBy w2 row :=
  ⟨k.os.trans h.os, k.tape.trans h.tape, k.output.trans h.output, Nat.le_trans h.size k.size, fun i hi hne => (k.block i (Nat.lt_of_lt_of_le hi h.size) hne).trans (h.block i hi hne)⟩
end Go.Proofs.Ytiglkmdeokmnhab
