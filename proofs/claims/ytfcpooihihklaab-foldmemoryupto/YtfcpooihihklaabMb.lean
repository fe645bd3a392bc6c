/- What stays while two rows of the call's own are written over and grow. -/
import Derived.Test.YtfcpooihihklaabMa
import Derived.Maps.AppendAt
namespace Go.Proofs.Ytfcpooihihklaab
open Ieee Go.RowKit

/-- All blocks of w9 but those of D are in wx as they were. -/
structure Kp (D : Nat → Prop) (w9 wx : World) : Prop where
  size : w9.heap.size ≤ wx.heap.size
  block : ∀ b, b < w9.heap.size → ¬ D b → wx.heap[b]? = w9.heap[b]?

theorem Kp.refl (D : Nat → Prop) (w : World) : Kp D w w := ⟨Nat.le_refl _, fun _ _ _ => rfl⟩
theorem Kp.below {D : Nat → Prop} {w9 wx wy : World} (h : Kp D w9 wx) (hb : Below wx.heap.size wx wy) : Kp D w9 wy :=
  ⟨Nat.le_trans h.size hb.size, fun b h1 h2 => by rw [hb.block b (Nat.lt_of_lt_of_le h1 h.size), h.block b h1 h2]⟩
theorem Kp.set {D : Nat → Prop} {w9 wx : World} (h : Kp D w9 wx) {p : Addr} (hp : D p.block ∨ w9.heap.size ≤ p.block) (u : Value) : Kp D w9 (wx.setCell p u) := by
  refine ⟨by simpa [go_sem] using h.size, fun b h1 h2 => ?_⟩
  rw [Below.heap_setCell wx p u b (by rintro rfl; rcases hp with hp | hp; exact h2 hp; omega), h.block b h1 h2]
theorem Kp.grown {D : Nat → Prop} {w9 wx wy : World} (h : Kp D w9 wx) {row : Option Nat} (hg : wx.grownBy wy row) (hr : ∀ k, row = some k → D k ∨ w9.heap.size ≤ k) : Kp D w9 wy := by
  refine ⟨Nat.le_trans h.size hg.size, fun b h1 h2 => ?_⟩
  rw [hg.block b (Nat.lt_of_lt_of_le h1 h.size) (fun e => by rcases hr b e.symm with k | k; exact h2 k; omega), h.block b h1 h2]

theorem Ql.kept {D : Nat → Prop} {w wx : World} {ao : Option Addr} {l : List Pr} (h : Ql w ao l) (hk : Kp D w wx) (hd : ∀ p, ao = some p → ¬ D p.block) : Ql wx ao l := by
  intro i hi
  obtain ⟨b, off, e, h0, h1, h2⟩ := h i hi
  have hb := hk.block b (cell_lt h0) (hd _ e)
  exact ⟨b, off, e, by rw [World.cell?_of_block (w := w) hb]; exact h0, by rw [World.cell?_of_block (w := w) hb]; exact h1, by rw [World.cell?_of_block (w := w) hb]; exact h2⟩
theorem Sl.kept {D : Nat → Prop} {w wx : World} {ao : Option Addr} {l : List Int} (h : Sl .u64 w ao l) (hk : Kp D w wx) (hd : ∀ p, ao = some p → ¬ D p.block) : Sl .u64 wx ao l := by
  intro i hi
  obtain ⟨b, off, e, h0⟩ := h i hi
  have hb := hk.block b (cell_lt h0) (hd _ e)
  exact ⟨b, off, e, by rw [World.cell?_of_block (w := w) hb]; exact h0⟩

theorem row_setE {w : World} {g n o e : Nat} (u : Value) {cur : Array Value} (h : w.heap[g]? = some (.cells cur e (0, 0))) (hs : cur.size = n) : ∃ cur, (w.setCell ⟨g, o, none⟩ u).heap[g]? = some (.cells cur e (0, 0)) ∧ cur.size = n := by
  rw [Sort.setCell_eq]
  refine ⟨cur.setIfInBounds o u, ?_, by simpa using hs⟩
  simp [Sort.mapBlock, Array.getElem?_modify, h, Sort.onCells]

/-- A row of the call's own, whatever it holds. -/
def Rw (B e s : Nat) (v : Value) (n : Nat) (w : World) : Prop := ∃ xs, w.ownsRow B e s v n xs

theorem Rw.set {B e s n o g : Nat} {v : Value} {w : World} (h : Rw B e s v n w) (hv : v.ownBlock = some g) (u : Value) : Rw B e s v n (w.setCell ⟨g, o, none⟩ u) := by
  obtain ⟨xs, h1, h2⟩ := h
  rcases h2 with ⟨rfl, _⟩ | ⟨g', cap, cur, rfl, hb, hg, hnc, hcm, hcs, _⟩
  · cases hv
  · simp [Value.ownBlock] at hv
    subst hv
    obtain ⟨cur', k1, k2⟩ := row_setE (o := o) u hg hcs
    exact ⟨cur'.toList.take (n * s), by simp [k2, Nat.min_eq_left hnc], .inr ⟨g', cap, cur', rfl, hb, k1, hnc, hcm, k2, rfl⟩⟩
theorem Rw.other {B e s n : Nat} {v : Value} {w : World} {p : Addr} (h : Rw B e s v n w) (hv : v.ownBlock ≠ some p.block) (u : Value) : Rw B e s v n (w.setCell p u) := by
  obtain ⟨xs, h1, h2⟩ := h
  rcases h2 with ⟨rfl, h0⟩ | ⟨g', cap, cur, rfl, hb, hg, hnc, hcm, hcs, ht⟩
  · exact ⟨xs, h1, .inl ⟨rfl, h0⟩⟩
  · exact ⟨xs, h1, .inr ⟨g', cap, cur, rfl, hb, by rw [Below.heap_setCell w p u g' (by rintro rfl; exact hv rfl)]; exact hg, hnc, hcm, hcs, ht⟩⟩
theorem Rw.mono {B B' e s n : Nat} {v : Value} {w : World} (h : Rw B e s v n w) (hB : B' ≤ B) : Rw B' e s v n w := by
  obtain ⟨xs, h1, h2⟩ := h
  rcases h2 with ⟨rfl, h0⟩ | ⟨g', cap, cur, rfl, hb, hg, hnc, hcm, hcs, ht⟩
  · exact ⟨xs, h1, .inl ⟨rfl, h0⟩⟩
  · exact ⟨xs, h1, .inr ⟨g', cap, cur, rfl, Nat.le_trans hB hb, hg, hnc, hcm, hcs, ht⟩⟩
theorem Rw.kept {B e s n : Nat} {v : Value} {w w' : World} {row : Option Nat} (h : Rw B e s v n w) (hg : w.grownBy w' row) (hn : v.ownBlock = none ∨ v.ownBlock ≠ row) : Rw B e s v n w' := by
  obtain ⟨xs, h⟩ := h; exact ⟨xs, h.kept hg hn⟩
theorem Rw.lt {B e s n g : Nat} {v : Value} {w : World} (h : Rw B e s v n w) (hv : v.ownBlock = some g) : B ≤ g ∧ g < w.heap.size := by
  obtain ⟨xs, h⟩ := h; exact h.lt g hv
/-- The row's form, where it holds something. -/
theorem Rw.form {B e s n : Nat} {v : Value} {w : World} (h : Rw B e s v n w) : (v = .slice none 0 0 ∧ n = 0) ∨ ∃ g cap cur, v = .slice (some ⟨g, 0, none⟩) n cap ∧ v.ownBlock = some g ∧ n ≤ cap ∧ w.heap[g]? = some (.cells cur e (0, 0)) ∧ cur.size = cap * s := by
  obtain ⟨xs, h1, h2⟩ := h
  rcases h2 with h | ⟨g', cap, cur, rfl, hb, hg, hnc, hcm, hcs, ht⟩
  · exact .inl h
  · exact .inr ⟨g', cap, cur, rfl, rfl, hnc, hg, hcs⟩
theorem row_cell {w : World} {g e o : Nat} {cur : Array Value} (hg : w.heap[g]? = some (.cells cur e (0, 0))) (ho : o < cur.size) : (∃ x, w.cell? ⟨g, o, none⟩ = some x) ∧ w.frozen? ⟨g, o, none⟩ = false :=
  ⟨⟨cur[o], by rw [cell_of_row w g o cur e (0, 0) hg]; exact Array.getElem?_eq_getElem ho⟩, by simp [World.frozen?, hg]⟩

/-- Where FoldMemory stands behind its answers: t a row of n pairs, k one of m numbers. -/
structure Sa (w w9 : World) (D : Nat → Prop) (tv kv : Value) (n m : Nat) (wr : World) : Prop where
  kp : Kp D w9 wr
  t : Rw w.heap.size 40 3 tv n wr
  k : Rw w.heap.size 31 1 kv m wr
  B : Below w.heap.size w wr
  ap : ∀ x, tv.ownBlock = some x → kv.ownBlock ≠ some x
  dt : ∀ x, tv.ownBlock = some x → D x ∨ w9.heap.size ≤ x
  dk : ∀ x, kv.ownBlock = some x → D x ∨ w9.heap.size ≤ x

theorem Sa.below {w w9 wr wx : World} {D : Nat → Prop} {tv kv : Value} {n m : Nat} (h : Sa w w9 D tv kv n m wr) (hb : Below wr.heap.size wr wx) : Sa w w9 D tv kv n m wx := by
  have hg := grown_of_below hb
  refine ⟨h.kp.below hb, h.t.kept hg ?_, h.k.kept hg ?_, below_trans h.B hb, h.ap, h.dt, h.dk⟩
  · cases e : tv.ownBlock <;> simp
  · cases e : kv.ownBlock <;> simp
theorem Sa.setT {w w9 wr : World} {D : Nat → Prop} {tv kv : Value} {n m g : Nat} (h : Sa w w9 D tv kv n m wr) (hv : tv.ownBlock = some g) (o : Nat) (u : Value) : Sa w w9 D tv kv n m (wr.setCell ⟨g, o, none⟩ u) :=
  ⟨h.kp.set (h.dt g hv) u, h.t.set hv u, h.k.other (h.ap g hv) u, h.B.setCell (h.t.lt hv).1 u, h.ap, h.dt, h.dk⟩
theorem Sa.setK {w w9 wr : World} {D : Nat → Prop} {tv kv : Value} {n m g : Nat} (h : Sa w w9 D tv kv n m wr) (hv : kv.ownBlock = some g) (o : Nat) (u : Value) : Sa w w9 D tv kv n m (wr.setCell ⟨g, o, none⟩ u) :=
  ⟨h.kp.set (h.dk g hv) u, h.t.other (fun e => h.ap g e hv) u, h.k.set hv u, h.B.setCell (h.k.lt hv).1 u, h.ap, h.dt, h.dk⟩
theorem Sa.appT {w w9 wr wx : World} {D : Nat → Prop} {tv kv tv' : Value} {n m n' : Nat} {xs : List Value} (h : Sa w w9 D tv kv n m wr) (hg : wr.grownBy wx tv.ownBlock) (ho : wx.ownsRow w.heap.size 40 3 tv' n' xs) (hat : tv'.ownBlock = tv.ownBlock ∨ tv'.ownBlock = some wr.heap.size) : Sa w w9 D tv' kv n' m wx := by
  refine ⟨h.kp.grown hg h.dt, ⟨xs, ho⟩, h.k.kept hg ?_, h.B.grown hg h.B.size (fun k hk => (h.t.lt hk).1), fun x hx hk => ?_, fun x hx => ?_, h.dk⟩
  · cases e : kv.ownBlock with
    | none => exact .inl rfl
    | some y => exact .inr fun e' => h.ap y e'.symm e
  · rcases hat with e | e
    · exact h.ap x (e ▸ hx) hk
    · rw [e] at hx; cases hx; exact Nat.lt_irrefl _ (h.k.lt hk).2
  · rcases hat with e | e
    · exact h.dt x (e ▸ hx)
    · rw [e] at hx; cases hx; exact .inr h.kp.size
theorem Sa.appK {w w9 wr wx : World} {D : Nat → Prop} {tv kv kv' : Value} {n m m' : Nat} {xs : List Value} (h : Sa w w9 D tv kv n m wr) (hg : wr.grownBy wx kv.ownBlock) (ho : wx.ownsRow w.heap.size 31 1 kv' m' xs) (hat : kv'.ownBlock = kv.ownBlock ∨ kv'.ownBlock = some wr.heap.size) : Sa w w9 D tv kv' n m' wx := by
  refine ⟨h.kp.grown hg h.dk, h.t.kept hg ?_, ⟨xs, ho⟩, h.B.grown hg h.B.size (fun k hk => (h.k.lt hk).1), fun x hx hk => ?_, h.dt, fun x hx => ?_⟩
  · cases e : tv.ownBlock with
    | none => exact .inl rfl
    | some y => exact .inr fun e' => h.ap y e e'.symm
  · rcases hat with e | e
    · exact h.ap x hx (e ▸ hk)
    · rw [e] at hk; cases hk; exact Nat.lt_irrefl _ (h.t.lt hx).2
  · rcases hat with e | e
    · exact h.dk x (e ▸ hx)
    · rw [e] at hx; cases hx; exact .inr h.kp.size

theorem ql_four (w : World) (g : Nat) (hg : g = w.heap.size) (p q r s : Pr) (t : TypeId) : Ql (w.alloc (Obj.cells #[.int .u64 p.k, .bool p.v.h, .int .u64 p.v.b, .int .u64 q.k, .bool q.v.h, .int .u64 q.v.b, .int .u64 r.k, .bool r.v.h, .int .u64 r.v.b, .int .u64 s.k, .bool s.v.h, .int .u64 s.v.b] t)) (some ⟨g, 0, none⟩) [p, q, r, s] := by
  subst hg
  intro i hi
  have : i = 0 ∨ i = 1 ∨ i = 2 ∨ i = 3 := by have : i < 4 := hi; omega
  rcases this with rfl | rfl | rfl | rfl <;> (refine ⟨_, _, rfl, ?_, ?_, ?_⟩ <;> simp [go_sem])

def t4 : List Pr := [⟨71, ⟨true, 1⟩⟩, ⟨72, ⟨true, 2⟩⟩, ⟨73, ⟨true, 3⟩⟩, ⟨74, ⟨true, 4⟩⟩]
theorem ok_t4 : okT t4 := by
  intro p hp
  simp [t4] at hp
  rcases hp with rfl | rfl | rfl | rfl <;> simp [Pr.ok, Vl.ok]
theorem qv_t4 (w : World) (g : Nat) (hg : g = w.heap.size) (t : TypeId) : Qv (w.alloc (Obj.cells #[.int .u64 71, .bool true, .int .u64 1, .int .u64 72, .bool true, .int .u64 2, .int .u64 73, .bool true, .int .u64 3, .int .u64 74, .bool true, .int .u64 4] t)) (.slice (some ⟨g, 0, none⟩) 4 4) t4 :=
  ⟨⟨_, 4, rfl, by simp [t4], by simp [maxLen], by simp, ql_four w g hg ⟨71, ⟨true, 1⟩⟩ ⟨72, ⟨true, 2⟩⟩ ⟨73, ⟨true, 3⟩⟩ ⟨74, ⟨true, 4⟩⟩ t⟩, ok_t4⟩
/-- The cut behind the first pairs. -/
theorem mq_tail {w : World} {g : Nat} {l m : List Pr} (h : Mq w g (l ++ m)) : Ql w (some ⟨g, l.length * 3, none⟩) m := by
  intro i hi
  obtain ⟨⟨a, b, c⟩, _⟩ := h (l.length + i) (by simp; omega)
  rw [List.getElem_append_right (by omega)] at a b c
  simp only [Nat.add_sub_cancel_left] at a b c
  refine ⟨g, l.length * 3, rfl, ?_, ?_, ?_⟩
  · rw [← Nat.add_mul]; exact a
  · rw [← Nat.add_mul]; exact b
  · rw [← Nat.add_mul]; exact c
end Go.Proofs.Ytfcpooihihklaab
