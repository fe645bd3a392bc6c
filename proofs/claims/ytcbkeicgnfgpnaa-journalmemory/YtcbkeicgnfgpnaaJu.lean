/- Rows of a note of one's own that are written over. -/
import Derived.Test.YtcbkeicgnfgpnaaJr

namespace Go.Proofs.Ytcbkeicgnfgpnaa

open Ieee Go.RowKit



theorem lit_one (w : World) (x : Int) (h0 : 0 ≤ x) (h1 : x ≤ 256) : Nv (w.alloc (Obj.cells #[.int .i64 x] 3)) (.slice (some ⟨w.heap.size, 0, none⟩) 1 1) [x] := own_nv (own_one (B := 0) (alloc_at rfl) (Nat.zero_le _)) (one64 x h0 h1)
/-- A note in block M whose lists are the rows gP and gC. -/
structure Mr (B p M gP cP gC cC : Nat) (lP lC : List Int) (b a : Int) (w : World) : Prop where
  blk : w.heap[M]? = some (.cells #[.int .i64 b, .slice (some ⟨gP, 0, none⟩) p cP, .slice (some ⟨gC, 0, none⟩) p cC, .int .i64 a] 41 (0, 0))
  zp : Zw w gP cP lP
  zc : Zw w gC cC lC
  lp : p ≤ lP.length
  lc : p ≤ lC.length
  m0 : B ≤ M
  p0 : B ≤ gP
  c0 : B ≤ gC
  mp : M ≠ gP
  mc : M ≠ gC
  pc : gP ≠ gC
section

variable {B p M gP cP gC cC : Nat} {lP lC : List Int} {b a : Int} {w w' : World}

theorem Mr.keep (h : Mr B p M gP cP gC cC lP lC b a w) (hk : ∀ x, B ≤ x → x < w.heap.size → w'.heap[x]? = w.heap[x]?) : Mr B p M gP cP gC cC lP lC b a w' :=
  ⟨by rw [hk _ h.m0 (blk_lt h.blk)]; exact h.blk, h.zp.keep (hk _ h.p0 h.zp.lt), h.zc.keep (hk _ h.c0 h.zc.lt), h.lp, h.lc, h.m0, h.p0, h.c0, h.mp, h.mc, h.pc⟩
theorem Mr.below (h : Mr B p M gP cP gC cC lP lC b a w) (hb : Below w.heap.size w w') : Mr B p M gP cP gC cC lP lC b a w' := h.keep fun x _ hx => hb.block x hx
theorem Mr.chA {wz : World} {A : Nat → Prop} (h : Mr B p M gP cP gC cC lP lC b a w) (hc : ChA wz A w w') (hA : ∀ x, B ≤ x → x < w.heap.size → A x) : Mr B p M gP cP gC cC lP lC b a w' := h.keep fun x h1 h2 => hc.block x h2 (fun y => y.2 (hA x h1 h2))
theorem Mr.setP (h : Mr B p M gP cP gC cC lP lC b a w) {j : Nat} (hj : j < p) (x : Int) : Mr B p M gP cP gC cC (lP.set j x) lC b a (w.setCell ⟨gP, j, none⟩ (.int .i64 x)) :=
  ⟨by rw [set_other _ _ h.mp]; exact h.blk, h.zp.set (by have := h.lp; omega) x, h.zc.keep (set_other _ _ (fun e => h.pc e.symm)), by rw [List.length_set]; exact h.lp, h.lc, h.m0, h.p0, h.c0, h.mp, h.mc, h.pc⟩
theorem Mr.setC (h : Mr B p M gP cP gC cC lP lC b a w) {j : Nat} (hj : j < p) (x : Int) : Mr B p M gP cP gC cC lP (lC.set j x) b a (w.setCell ⟨gC, j, none⟩ (.int .i64 x)) :=
  ⟨by rw [set_other _ _ h.mc]; exact h.blk, h.zp.keep (set_other _ _ h.pc), h.zc.set (by have := h.lc; omega) x, h.lp, by rw [List.length_set]; exact h.lc, h.m0, h.p0, h.c0, h.mp, h.mc, h.pc⟩
/-- The first p of a row. -/
theorem zw_take {g cap : Nat} {l : List Int} {m : List Int} (h : Zw w g cap l) (hm : ∀ i, i < m.length → nth l i = nth m i) (hl : m.length ≤ l.length) (h64 : In64 m) : Nv w (.slice (some ⟨g, 0, none⟩) m.length cap) m := by
  obtain ⟨⟨cur, h1, h2, h3⟩, h4, h5⟩ := h
  refine ⟨⟨_, cap, rfl, by omega, h5, by simp, fun i hi => ⟨g, 0, rfl, ?_⟩⟩, h64⟩
  rw [Nat.zero_add, cell_of_row w g i cur _ (0, 0) h1, h3 i (by omega), hm i hi]
theorem app_two {w6 w7 w8 : World} {v1 : Value} {L : List Int} {x : Int} (ho1 : w7.ownsRow w6.heap.size 3 1 v1 (0 + L.length) (cellsN ([] ++ L))) (hg1 : (w6.alloc (Obj.cells #[] 3)).grownBy w7 (Value.ownBlock (.slice (some ⟨w6.heap.size, 0, none⟩) 0 0))) (hg2 : (w7.alloc (Obj.cells #[.int .i64 x] 3)).grownBy w8 v1.ownBlock) : Below w6.heap.size w6 w8 := by
  have h1 : Below w6.heap.size w6 w7 := (below_alloc w6 (Obj.cells #[] 3)).grown hg1 (by simp) (by simp [Value.ownBlock])
  have h2 : Below w6.heap.size w6 (w7.alloc (Obj.cells #[.int .i64 x] 3)) := h1.trans ((below_alloc _ _).mono h1.size)
  exact h2.grown hg2 h2.size (fun y hy => (ho1.lt y hy).1)
/-- A row of n ints, whichever. -/
def Zr (w : World) (g cap n : Nat) : Prop := ∃ l, Zw w g cap l ∧ l.length = n
theorem Zr.keep {g cap n : Nat} (h : Zr w g cap n) (hk : w'.heap[g]? = w.heap[g]?) : Zr w' g cap n := by
  obtain ⟨l, h1, h2⟩ := h
  exact ⟨l, h1.keep hk, h2⟩
theorem Zr.set {g cap n x j : Nat} (h : Zr w g cap n) (hj : j < n) (y : Int) : Zr (w.setCell ⟨x, j, none⟩ (.int .i64 y)) g cap n := by
  obtain ⟨l, h1, h2⟩ := h
  by_cases e : g = x
  · subst e
    exact ⟨l.set j y, h1.set (by omega) y, by rw [List.length_set]; exact h2⟩
  · exact ⟨l, h1.keep (set_other _ _ e), h2⟩
theorem Zr.cell {g cap n j : Nat} (h : Zr w g cap n) (hj : j < n) : ∃ y : Int, w.cell? ⟨g, j, none⟩ = some (.int .i64 y) := by
  obtain ⟨l, h1, h2⟩ := h
  exact ⟨_, h1.cell (by omega)⟩
theorem Zr.soft {g cap n : Nat} (h : Zr w g cap n) (j : Nat) : w.frozen? ⟨g, j, none⟩ = false := by
  obtain ⟨l, h1, h2⟩ := h
  exact h1.soft j
theorem Zr.lt {g cap n : Nat} (h : Zr w g cap n) : g < w.heap.size := by
  obtain ⟨l, h1, h2⟩ := h
  exact h1.lt
/-- A note in block M, its lists in rows of n ints, whichever. -/
structure Nr (n p M gP cP gC cC : Nat) (b a : Int) (w : World) : Prop where
  blk : w.heap[M]? = some (.cells #[.int .i64 b, .slice (some ⟨gP, 0, none⟩) p cP, .slice (some ⟨gC, 0, none⟩) p cC, .int .i64 a] 41 (0, 0))
  zp : Zr w gP cP n
  zc : Zr w gC cC n
  mp : M ≠ gP
  mc : M ≠ gC
  np : p ≤ n
theorem Nr.keep {n : Nat} (h : Nr n p M gP cP gC cC b a w) (hk : ∀ x, x < w.heap.size → (x = M ∨ x = gP ∨ x = gC) → w'.heap[x]? = w.heap[x]?) : Nr n p M gP cP gC cC b a w' :=
  ⟨by rw [hk _ (blk_lt h.blk) (.inl rfl)]; exact h.blk, h.zp.keep (hk _ h.zp.lt (.inr (.inl rfl))), h.zc.keep (hk _ h.zc.lt (.inr (.inr rfl))), h.mp, h.mc, h.np⟩
theorem Nr.set {n j : Nat} (h : Nr n p M gP cP gC cC b a w) (hj : j < p) (y z : Int) : Nr n p M gP cP gC cC b a ((w.setCell ⟨gP, j, none⟩ (.int .i64 y)).setCell ⟨gC, j, none⟩ (.int .i64 z)) :=
  ⟨by rw [set_other _ _ h.mc, set_other _ _ h.mp]; exact h.blk, (h.zp.set (by have := h.np; omega) y).set (by have := h.np; omega) z, (h.zc.set (by have := h.np; omega) y).set (by have := h.np; omega) z, h.mp, h.mc, h.np⟩
theorem Nr.setP {n j : Nat} (h : Nr n p M gP cP gC cC b a w) (hj : j < p) (y : Int) : Nr n p M gP cP gC cC b a (w.setCell ⟨gP, j, none⟩ (.int .i64 y)) :=
  ⟨by rw [set_other _ _ h.mp]; exact h.blk, h.zp.set (by have := h.np; omega) y, h.zc.set (by have := h.np; omega) y, h.mp, h.mc, h.np⟩
theorem Nr.setC {n j : Nat} (h : Nr n p M gP cP gC cC b a w) (hj : j < p) (y : Int) : Nr n p M gP cP gC cC b a (w.setCell ⟨gC, j, none⟩ (.int .i64 y)) :=
  ⟨by rw [set_other _ _ h.mc]; exact h.blk, h.zp.set (by have := h.np; omega) y, h.zc.set (by have := h.np; omega) y, h.mp, h.mc, h.np⟩
theorem ch_one (w : World) (g j : Nat) (y : Value) : Ch (fun x => x = g) w (w.setCell ⟨g, j, none⟩ y) := Ch.of_grown (grown_set w g j y) (fun x hx => by cases hx; rfl)
theorem ch_two (w : World) (g1 g2 j : Nat) (y z : Value) : Ch (fun x => x = g1 ∨ x = g2) w ((w.setCell ⟨g1, j, none⟩ y).setCell ⟨g2, j, none⟩ z) :=
  (Ch.of_grown (D := fun x => x = g1 ∨ x = g2) (grown_set w g1 j y) (fun x hx => by cases hx; exact .inl rfl)).self (Ch.of_grown (grown_set _ g2 j z) (fun x hx => by cases hx; exact .inr rfl))
theorem own_row {B : Nat} {v : Value} {l : List Int} (h : OwN B w v l) (hl : l.length = p) (hp : 1 ≤ p) : ∃ g gc, v = .slice (some ⟨g, 0, none⟩) p gc ∧ B ≤ g ∧ g < w.heap.size ∧ Zr w g gc p := by
  rcases id h.2 with ⟨_, h0⟩ | ⟨g, cap, cur, e, hb, hg, hnc, _⟩
  · omega
  · subst e
    have hz := (own_zw h).1
    exact ⟨g, cap, by rw [hl], hb, hz.lt, l, hz, hl⟩
theorem nth_left {l : List Int} {x : Int} {i : Nat} (hi : i < l.length) : nth (l ++ [x]) i = nth l i := by
  rw [nth_at (by simp; omega), nth_at hi, List.getElem_append_left hi]
theorem nth_end {l : List Int} {x : Int} {n : Nat} (h : l.length = n) : nth (l ++ [x]) n = x := by
  subst h
  rw [nth_at (by simp)]
  simp
theorem ap1 {L : List Int} {x : Int} (h : p ≤ 4) (hl : L.length = p) : 0 + L.length + [x].length ≤ maxLen := by simp only [List.length_singleton, maxLen]; omega
theorem ap2 {L : List Int} {x : Int} (h : p ≤ 4) (hl : L.length = p) : (0 + L.length + [x].length) * 8 ≤ 140737488355328 := by simp only [List.length_singleton]; omega
theorem ap3 {w7 : World} {n : Nat} {o : Obj} (h : n ≤ w7.heap.size) : n ≤ (w7.alloc o).heap.size := by rw [alloc_size]; omega
theorem app_row {w8 : World} {B : Nat} {v2 : Value} {L : List Int} {x : Int} (ho2 : w8.ownsRow B 3 1 v2 (0 + L.length + [x].length) (cellsN ([] ++ L ++ [x]))) (hl : L.length = p) : ∃ g gc, v2 = .slice (some ⟨g, 0, none⟩) (p + 1) gc ∧ B ≤ g ∧ p + 1 ≤ gc ∧ Zw w8 g gc (L ++ [x]) := by
  have hn : 0 + L.length + [x].length = p + 1 := by simp [hl]
  rw [hn, List.nil_append] at ho2
  rcases id ho2.2 with ⟨_, h0⟩ | ⟨g, cap, cur, e, hb, hg, hnc, _⟩
  · omega
  · subst e
    exact ⟨g, cap, rfl, hb, hnc, (own_zw ho2).1⟩
end

end Go.Proofs.Ytcbkeicgnfgpnaa


