/- Two rows of records of the call's own, written over and grown, beside what stays. -/
import Derived.Test.YtfgeabcdcepfdaaVk
namespace Go.Proofs.Ytfgeabcdcepfdaa
open Ieee Go.RowKit
attribute [local go_sem] run_store_float

theorem row_setE {w : World} {g n o e : Nat} (u : Value) {cur : Array Value} (h : w.heap[g]? = some (.cells cur e (0, 0))) (hs : cur.size = n) : ∃ cur, (w.setCell ⟨g, o, none⟩ u).heap[g]? = some (.cells cur e (0, 0)) ∧ cur.size = n := by
  rw [Sort.setCell_eq]
  refine ⟨cur.setIfInBounds o u, ?_, by simpa using hs⟩
  simp [Sort.mapBlock, Array.getElem?_modify, h, Sort.onCells]

/-- A row of the call's own, whatever it holds. -/
def Rw (B e s : Nat) (v : Value) (n : Nat) (w : World) : Prop := ∃ xs, w.ownsRow B e s v n xs

theorem Rw.set {B e s n o g : Nat} {v : Value} {w : World} (h : Rw B e s v n w) (hv : v.ownBlock = some g) (u : Value) : Rw B e s v n (w.setCell ⟨g, o, none⟩ u) := by
  obtain ⟨xs, h1, h2⟩ := h
  rcases h2 with ⟨rfl, _⟩ | ⟨g', cap, cur, rfl, hb, hg, hnc, hcm, hcs, _⟩
  · cases hv
  · simp [Value.ownBlock] at hv
    subst hv
    obtain ⟨cur', k1, k2⟩ := row_setE (o := o) u hg hcs
    exact ⟨cur'.toList.take (n * s), by simp [k2, Nat.min_eq_left hnc], .inr ⟨g', cap, cur', rfl, hb, k1, hnc, hcm, k2, rfl⟩⟩
theorem Rw.other {B e s n : Nat} {v : Value} {w : World} {p : Addr} (h : Rw B e s v n w) (hv : v.ownBlock ≠ some p.block) (u : Value) : Rw B e s v n (w.setCell p u) := by
  obtain ⟨xs, h1, h2⟩ := h
  rcases h2 with ⟨rfl, h0⟩ | ⟨g', cap, cur, rfl, hb, hg, hnc, hcm, hcs, ht⟩
  · exact ⟨xs, h1, .inl ⟨rfl, h0⟩⟩
  · exact ⟨xs, h1, .inr ⟨g', cap, cur, rfl, hb, by rw [Below.heap_setCell w p u g' (by rintro rfl; exact hv rfl)]; exact hg, hnc, hcm, hcs, ht⟩⟩
theorem Rw.mono {B B' e s n : Nat} {v : Value} {w : World} (h : Rw B e s v n w) (hB : B' ≤ B) : Rw B' e s v n w := by
  obtain ⟨xs, h1, h2⟩ := h
  rcases h2 with ⟨rfl, h0⟩ | ⟨g', cap, cur, rfl, hb, hg, hnc, hcm, hcs, ht⟩
  · exact ⟨xs, h1, .inl ⟨rfl, h0⟩⟩
  · exact ⟨xs, h1, .inr ⟨g', cap, cur, rfl, Nat.le_trans hB hb, hg, hnc, hcm, hcs, ht⟩⟩
theorem Rw.kept {B e s n : Nat} {v : Value} {w w' : World} {row : Option Nat} (h : Rw B e s v n w) (hg : w.grownBy w' row) (hn : v.ownBlock = none ∨ v.ownBlock ≠ row) : Rw B e s v n w' := by
  obtain ⟨xs, h⟩ := h; exact ⟨xs, h.kept hg hn⟩
theorem Rw.lt {B e s n g : Nat} {v : Value} {w : World} (h : Rw B e s v n w) (hv : v.ownBlock = some g) : B ≤ g ∧ g < w.heap.size := by
  obtain ⟨xs, h⟩ := h; exact h.lt g hv
/-- The row's form, where it holds something. -/
theorem Rw.form {B e s n : Nat} {v : Value} {w : World} (h : Rw B e s v n w) : (v = .slice none 0 0 ∧ n = 0) ∨ ∃ g cap cur, v = .slice (some ⟨g, 0, none⟩) n cap ∧ v.ownBlock = some g ∧ n ≤ cap ∧ w.heap[g]? = some (.cells cur e (0, 0)) ∧ cur.size = cap * s := by
  obtain ⟨xs, h1, h2⟩ := h
  rcases h2 with h | ⟨g', cap, cur, rfl, hb, hg, hnc, hcm, hcs, ht⟩
  · exact .inl h
  · exact .inr ⟨g', cap, cur, rfl, rfl, hnc, hg, hcs⟩
theorem row_cell {w : World} {g e o : Nat} {cur : Array Value} (hg : w.heap[g]? = some (.cells cur e (0, 0))) (ho : o < cur.size) : (∃ x, w.cell? ⟨g, o, none⟩ = some x) ∧ w.frozen? ⟨g, o, none⟩ = false :=
  ⟨⟨cur[o], by rw [cell_of_row w g o cur e (0, 0) hg]; exact Array.getElem?_eq_getElem ho⟩, by simp [World.frozen?, hg]⟩

/-- Two rows of records, whatever they hold, of n and of m; of the blocks of w9 those of D alone have turned. -/
structure S2 (D : Nat → Prop) (w9 : World) (av cv : Value) (n m : Nat) (wr : World) : Prop where
  ch : Ch D w9 wr
  a : Rw 0 34 2 av n wr
  c : Rw 0 34 2 cv m wr
  ap : ∀ x, av.ownBlock = some x → cv.ownBlock ≠ some x
  da : ∀ x, av.ownBlock = some x → D x ∨ w9.heap.size ≤ x
  dc : ∀ x, cv.ownBlock = some x → D x ∨ w9.heap.size ≤ x

theorem gr_of_below {w w' : World} (h : Below w.heap.size w w') : w.grownBy w' none := ⟨h.os, h.tape, h.output, h.size, fun i hi _ => h.block i hi⟩
theorem Ch.set {D : Nat → Prop} {w9 wr : World} (h : Ch D w9 wr) {g : Nat} (hg : D g ∨ w9.heap.size ≤ g) (o : Nat) (u : Value) : Ch D w9 (wr.setCell ⟨g, o, none⟩ u) := by
  refine ⟨h.os, h.tape, h.output, by simpa [go_sem] using h.size, fun k hk hd => ?_⟩
  rw [Below.heap_setCell wr _ u k (by rintro rfl; rcases hg with hg | hg; exact hd hg; exact absurd hk (Nat.not_lt.2 hg)), h.block k hk hd]
theorem Ch.grow {D : Nat → Prop} {w9 wr wx : World} (h : Ch D w9 wr) {row : Option Nat} (hg : wr.grownBy wx row) (hr : ∀ k, row = some k → D k ∨ w9.heap.size ≤ k) : Ch D w9 wx := by
  refine ⟨hg.os.trans h.os, hg.tape.trans h.tape, hg.output.trans h.output, Nat.le_trans h.size hg.size, fun b h1 h2 => ?_⟩
  rw [hg.block b (Nat.lt_of_lt_of_le h1 h.size) (fun e => by rcases hr b e.symm with k | k; exact h2 k; omega), h.block b h1 h2]
section
variable {D : Nat → Prop} {w9 wr wx : World} {av cv : Value} {n m : Nat}
theorem S2.below (h : S2 D w9 av cv n m wr) (hb : Below wr.heap.size wr wx) : S2 D w9 av cv n m wx := by
  have hg := gr_of_below hb
  refine ⟨h.ch.grow hg (by simp), h.a.kept hg ?_, h.c.kept hg ?_, h.ap, h.da, h.dc⟩
  · cases e : av.ownBlock <;> simp
  · cases e : cv.ownBlock <;> simp
theorem S2.setA (h : S2 D w9 av cv n m wr) {g : Nat} (hv : av.ownBlock = some g) (o : Nat) (u : Value) : S2 D w9 av cv n m (wr.setCell ⟨g, o, none⟩ u) :=
  ⟨h.ch.set (h.da g hv) o u, h.a.set hv u, h.c.other (h.ap g hv) u, h.ap, h.da, h.dc⟩
theorem S2.setC (h : S2 D w9 av cv n m wr) {g : Nat} (hv : cv.ownBlock = some g) (o : Nat) (u : Value) : S2 D w9 av cv n m (wr.setCell ⟨g, o, none⟩ u) :=
  ⟨h.ch.set (h.dc g hv) o u, h.a.other (fun e => h.ap g e hv) u, h.c.set hv u, h.ap, h.da, h.dc⟩
theorem S2.appA {av' : Value} {n' : Nat} {xs : List Value} (h : S2 D w9 av cv n m wr) (hg : wr.grownBy wx av.ownBlock) (ho : wx.ownsRow 0 34 2 av' n' xs) (hat : av'.ownBlock = av.ownBlock ∨ av'.ownBlock = some wr.heap.size) : S2 D w9 av' cv n' m wx := by
  refine ⟨h.ch.grow hg h.da, ⟨xs, ho⟩, h.c.kept hg ?_, fun x hx hk => ?_, fun x hx => ?_, h.dc⟩
  · cases e : cv.ownBlock with
    | none => exact .inl rfl
    | some y => exact .inr fun e' => h.ap y e'.symm e
  · rcases hat with e | e
    · exact h.ap x (e ▸ hx) hk
    · rw [e] at hx; cases hx; exact Nat.lt_irrefl _ (h.c.lt hk).2
  · rcases hat with e | e
    · exact h.da x (e ▸ hx)
    · rw [e] at hx; cases hx; exact .inr h.ch.size
theorem S2.appC {cv' : Value} {m' : Nat} {xs : List Value} (h : S2 D w9 av cv n m wr) (hg : wr.grownBy wx cv.ownBlock) (ho : wx.ownsRow 0 34 2 cv' m' xs) (hat : cv'.ownBlock = cv.ownBlock ∨ cv'.ownBlock = some wr.heap.size) : S2 D w9 av cv' n m' wx := by
  refine ⟨h.ch.grow hg h.dc, h.a.kept hg ?_, ⟨xs, ho⟩, fun x hx hk => ?_, h.da, fun x hx => ?_⟩
  · cases e : av.ownBlock with
    | none => exact .inl rfl
    | some y => exact .inr fun e' => h.ap y e e'.symm
  · rcases hat with e | e
    · exact h.ap x hx (e ▸ hk)
    · rw [e] at hk; cases hk; exact Nat.lt_irrefl _ (h.a.lt hx).2
  · rcases hat with e | e
    · exact h.dc x (e ▸ hx)
    · rw [e] at hx; cases hx; exact .inr h.ch.size
end

/-- What the blocks of D have not turned stays a source. -/
theorem Src.ch {D E : Nat → Prop} {w w' : World} {v : Value} {S : Sc} (h : Src E w v S) (hc : Ch D w w') (hd : ∀ x, E x → ¬ D x) : Src E w' v S := h.keep (fun x hx => hc.block x (h.lt hx) (hd x hx)) hc.size
theorem Rl.chg {D : Nat → Prop} {w w' : World} {ao : Option Addr} {l : List Rcd} (h : Rl w ao l) (hc : Ch D w w') (hd : ∀ a, ao = some a → ¬ D a.block) : Rl w' ao l := by
  intro i hi
  obtain ⟨b, off, e, c0, c1⟩ := h i hi
  have hb : w'.heap[b]? = w.heap[b]? := hc.block b (cell_lt c0) (hd _ e)
  exact ⟨b, off, e, by rw [World.cell?_of_block (w := w) (a := ⟨b, off + i * 2, none⟩) hb]; exact c0, by rw [World.cell?_of_block (w := w) (a := ⟨b, off + i * 2 + 1, none⟩) hb]; exact c1⟩

/-- The cell of a row where it holds something. -/
theorem rw_cell {n i : Nat} {v : Value} {w : World} (h : Rw 0 34 2 v n w) (hi : i < n) : ∃ g cap x y, v = .slice (some ⟨g, 0, none⟩) n cap ∧ v.ownBlock = some g ∧ w.cell? ⟨g, i * 2, none⟩ = some x ∧ w.cell? ⟨g, i * 2 + 1, none⟩ = some y ∧ w.frozen? ⟨g, i * 2, none⟩ = false ∧ w.frozen? ⟨g, i * 2 + 1, none⟩ = false := by
  rcases h.form with ⟨_, h0⟩ | ⟨g, cap, cur, hv, hb, hnc, hg, hcs⟩
  · omega
  · obtain ⟨⟨x, hx⟩, fx⟩ := row_cell (o := i * 2) hg (by omega)
    obtain ⟨⟨y, hy⟩, fy⟩ := row_cell (o := i * 2 + 1) hg (by omega)
    exact ⟨g, cap, x, y, hv, hb, hx, hy, fx, fy⟩
end Go.Proofs.Ytfgeabcdcepfdaa
