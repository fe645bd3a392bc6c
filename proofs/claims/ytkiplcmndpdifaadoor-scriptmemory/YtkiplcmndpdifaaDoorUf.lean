/- ScriptMemory: rows of the call's own, made with room, grown, written over. -/
import Derived.Test.YtkiplcmndpdifaaDoorUb

import Derived.Test.YtkiplcmndpdifaaDoorUa

import Derived.Laws.AppendOwnNone

namespace Go.Proofs.YtkiplcmndpdifaaDoor

open Go.RowKit



theorem make_op {n : Nat} (hn : n * 24 ≤ 140737488351232) : ∀ wx : World, (Instr.makeSlice 22 (.int .i64 0) (.int .i64 ((n : Int) + 2))).run Tryd.prog wx = .ok (.slice (some ⟨wx.heap.size, 0, none⟩) 0 (n + 2)) (wx.alloc (.cells (madeCells #[.int .i64 0, .int .i64 0, .float .f64 0] ((n + 2) * 3)) 46)) := fun wx => by
  obtain ⟨i0, hi0, hz0, hz1, hz2⟩ := info_parts21 info_op
  have := run_make (P := Tryd.prog) wx 22 46 i0 _ Tryd.underlying22 hi0 hz0 .i64 .i64 0 ((n : Int) + 2) (by omega) (by omega) (by rw [hz2]; omega) (by omega)
  rw [hz1, show ((n : Int) + 2).toNat = n + 2 by omega] at this
  exact this


theorem make_st {n : Nat} (hn : n * 40 ≤ 140737488351232) : ∀ wx : World, (Instr.makeSlice 25 (.int .i64 0) (.int .i64 ((n : Int) + 2))).run Tryd.prog wx = .ok (.slice (some ⟨wx.heap.size, 0, none⟩) 0 (n + 2)) (wx.alloc (.cells (madeCells #[.int .i64 0, .int .i64 0, .int .i64 0, .int .u64 0, .float .f64 0] ((n + 2) * 5)) 43)) := fun wx => by
  obtain ⟨i0, hi0, hz0, hz1, hz2⟩ := info_parts21 info_st
  have := run_make (P := Tryd.prog) wx 25 43 i0 _ Tryd.underlying25 hi0 hz0 .i64 .i64 0 ((n : Int) + 2) (by omega) (by omega) (by rw [hz2]; omega) (by omega)
  rw [hz1, show ((n : Int) + 2).toNat = n + 2 by omega] at this
  exact this


theorem own_made (w : World) {q s : Nat} {e : TypeId} {zs : Array Value} (hq : q ≤ maxLen) : (w.alloc (.cells (madeCells zs (q * s)) e)).ownsRow w.heap.size e s (.slice (some ⟨w.heap.size, 0, none⟩) 0 q) 0 [] :=
  ⟨by simp, .inr ⟨_, q, _, rfl, Nat.le_refl _, heap_alloc_new w _, Nat.zero_le _, hq, by rw [size_madeCells], by simp⟩⟩


/-- A row that is not empty lies in a block of its own. -/
theorem row_form {w : World} {base e s n : Nat} {v : Value} {xs : List Value} (h : w.ownsRow base e s v n xs) (hn : 0 < n) : ∃ g cap k, v = .slice (some ⟨g, 0, none⟩) k cap ∧ k = n ∧ n ≤ cap ∧ cap ≤ maxLen ∧ base ≤ g ∧ g < w.heap.size := by
  rcases h.2 with ⟨_, h0⟩ | ⟨g, cap, cur, rfl, hg, hh, hnc, hcm, hcs, htk⟩
  · omega
  · exact ⟨g, cap, n, rfl, rfl, hnc, hcm, hg, (Array.getElem?_eq_some_iff.1 hh).1⟩


/-- A row's cell. -/
theorem own_cell {w : World} {base e s n k g cap j : Nat} {xs : List Value} {u : Value} (h : w.ownsRow base e s (.slice (some ⟨g, 0, none⟩) k cap) n xs) (hj : xs[j]? = some u) : w.cell? ⟨g, j, none⟩ = some u := by
  obtain ⟨h1, h2⟩ := h
  rcases h2 with ⟨h3, _⟩ | ⟨g', cap', cur, e1, hg, hh, hnc, hcm, hcs, htk⟩
  · cases h3
  · cases e1
    rw [cell_of_row w g j cur e (0, 0) hh]
    rw [← htk, List.getElem?_take] at hj
    split at hj
    · simpa using hj
    · cases hj


theorem flat_get {α : Type} {f : α → List Value} {n : Nat} (hn : 0 < n) (hf : ∀ a, (f a).length = n) {l : List α} {j : Nat} {u : Value} (h : (l.flatMap f)[j]? = some u) : ∃ (hi : j / n < l.length), (f l[j / n])[j % n]? = some u := by
  have hlt : j < l.length * n := by
    have := (List.getElem?_eq_some_iff.1 h).1
    rw [flat_len f n hf] at this
    exact this
  have hi : j / n < l.length := by rw [Nat.div_lt_iff_lt_mul hn]; exact hlt
  refine ⟨hi, ?_⟩
  have e := flat_nth f n hf l (j / n) hi (j % n) (Nat.mod_lt _ hn)
  rw [show j / n * n + j % n = j by rw [Nat.mul_comm]; exact Nat.div_add_mod j n] at e
  rw [← e]
  exact h


theorem wpl_app_gv {ops : Array Oper} {rest : List Oper} {o : Oper} {a : Act} {Q : Exit → Act → World → Prop} {α : Type} {f : α → List Value} {base : Nat} {w : World} {v xv : Value} {n sz by9 : Nat} {xs : List Value} {l : List α} {t e : TypeId} {z : Value}
    (hinfo : (Tryd.prog.info? e).map (fun i => (i.zero, i.size, i.bytes)) = some (some z, sz, by9)) (ht : Tryd.prog.underlying t = some (.slice e)) (hzc : z.cells.size = sz) (hsz : 0 < sz) (hf : ∀ a, (f a).length = sz) (hone : ∀ a, ∀ u ∈ f a, u.oneCell' = true)
    (hgd : o.guard = none) (sl x : Operand) (ho : o.op = .call { callee := .builtin .append, args := #[sl, x], argTypes := #[t, t] }) (hs : a.eval sl = v) (h : w.ownsRow base e sz v n xs) (hx : a.eval x = xv) (hg : Gv w xv sz f l)
    (h63 : n + l.length ≤ maxLen) (hbytes : (n + l.length) * by9 ≤ 140737488355328) (hb : base ≤ w.heap.size)
    (hK : ∀ v' w', w'.ownsRow base e sz v' (n + l.length) (xs ++ l.flatMap f) → w.grownBy w' v.ownBlock → (v'.ownBlock = v.ownBlock ∨ v'.ownBlock = some w.heap.size) → wpList Tryd.prog ops Q rest (a.put o.dst v') w') : wpList Tryd.prog ops Q (o :: rest) a w := by
  obtain ⟨i0, hi0, hz0, hz1, hz2⟩ := info_parts21 hinfo
  obtain ⟨ao, cap, rfl, hlc, hcm, hnil, hgl⟩ := hg
  cases ao with
  | none =>
    have hl : l = [] := by
      cases l with
      | nil => rfl
      | cons b l => obtain ⟨b, off, e, _⟩ := hgl 0 (by simp); cases e
    subst hl
    refine wpList_append_own_none hgd sl x t ho base e i0 sz ht hi0 v n xs hs h (by rw [hx, hnil rfl]; rfl) ?_
    exact hK v w (by simpa using h) ⟨rfl, rfl, rfl, Nat.le_refl _, fun _ _ _ => rfl⟩ (.inl rfl)
  | some ad =>
    refine wpList_append_own_at _ hgd sl x t ho base e i0 z sz by9 ht hi0 hz0 hz1 hz2 hzc hsz v n xs hs h ad l.length cap (l.flatMap f) hx (by rw [flat_len f sz hf]) (fun j u hj => ?_) (fun u hu => ?_) h63 hbytes hb ?_
    · obtain ⟨hi, hc⟩ := flat_get hsz hf hj
      obtain ⟨b, off, e1, hcell⟩ := hgl (j / sz) hi
      cases e1
      rw [WideShapes.add_plain]
      have := hcell (j % sz) (Nat.mod_lt _ hsz)
      rw [show j / sz * sz + j % sz = j by rw [Nat.mul_comm]; exact Nat.div_add_mod j sz] at this
      rw [this]
      exact hc
    · obtain ⟨c, _, hu⟩ := List.mem_flatMap.1 hu
      exact hone c u hu
    · intro v' w' hr hgr _ hat
      exact hK v' w' hr hgr hat


theorem one_op (o : Og) : ∀ u ∈ opF o, u.oneCell' = true := by
  intro u hu
  simp only [opF, List.mem_cons, List.not_mem_nil, or_false] at hu
  rcases hu with rfl | rfl | rfl <;> rfl
theorem one_st (s : Sp) : ∀ u ∈ stF s, u.oneCell' = true := by
  intro u hu
  simp only [stF, List.mem_cons, List.not_mem_nil, or_false] at hu
  rcases hu with rfl | rfl | rfl | rfl | rfl <;> rfl


theorem gv_lit {α : Type} {f : α → List Value} {n : Nat} (hf : ∀ a, (f a).length = n) (w : World) {l : List α} {cs : Array Value} {t : TypeId} (hc : cs.toList = l.flatMap f) (hl : l.length ≤ maxLen) : Gv (w.alloc (.cells cs t)) (.slice (some ⟨w.heap.size, 0, none⟩) l.length l.length) n f l :=
  own_gv (base := w.heap.size) (e := t) hf ⟨by rw [flat_len f n hf], .inr ⟨w.heap.size, _, cs, rfl, Nat.le_refl _, heap_alloc_new w _, Nat.le_refl _, hl, by rw [← Array.length_toList, hc, flat_len f n hf], by rw [hc]; exact List.take_of_length_le (by rw [flat_len f n hf]; exact Nat.le_refl _)⟩⟩

/-! ### What the loops keep -/
/-- A plan's block and two rows that are written over and grown; all else stays: what is below lo, and from mid up to what was there. -/
structure Lp (lo mid ka : Nat) (wB : World) (p : Pl) (nO m : Nat) (ov lv : Value) (w : World) : Prop where
  bel : Below lo wB w
  kept : ∀ x, mid ≤ x → x < wB.heap.size → w.heap[x]? = wB.heap[x]?
  pl : w.heap[ka]? = some (.cells (PlC p ov) 24 (0, 0))
  rowO : ∃ xs, w.ownsRow lo 46 3 ov nO xs
  apO : ∀ x, ov.ownBlock = some x → x < mid ∨ wB.heap.size ≤ x
  rowS : ∃ xs, w.ownsRow lo 43 5 lv m xs
  apS : ∀ x, lv.ownBlock = some x → x < mid ∨ wB.heap.size ≤ x


theorem row_set {w : World} {lo e s n k g cap : Nat} {xs : List Value} (h : w.ownsRow lo e s (.slice (some ⟨g, 0, none⟩) k cap) n xs) (j : Nat) (u : Value) : ∃ ys, (w.setCell ⟨g, j, none⟩ u).ownsRow lo e s (.slice (some ⟨g, 0, none⟩) k cap) n ys := by
  obtain ⟨h1, h2⟩ := h
  rcases h2 with ⟨h3, _⟩ | ⟨g', cap', cur, e1, hg, hh, hnc, hcm, hcs, htk⟩
  · cases h3
  · cases e1
    have hns : n * s ≤ cur.size := by rw [hcs]; exact Nat.mul_le_mul_right _ hnc
    exact ⟨(cur.setIfInBounds j u).toList.take (n * s), by rw [List.length_take, Array.length_toList, Array.size_setIfInBounds]; omega, .inr ⟨g, _, _, rfl, hg, set_row hh, hnc, hcm, by rw [Array.size_setIfInBounds]; exact hcs, rfl⟩⟩


theorem row_type {w : World} {lo e s n : Nat} {v : Value} {xs : List Value} (h : w.ownsRow lo e s v n xs) {x : Nat} (hx : v.ownBlock = some x) : (∃ cur, w.heap[x]? = some (.cells cur e (0, 0))) ∧ lo ≤ x := by
  rcases h.2 with ⟨rfl, _⟩ | ⟨g, cap, cur, rfl, hg, hh, _⟩
  · cases hx
  · cases hx
    exact ⟨⟨cur, hh⟩, hg⟩


theorem Lp.setO {lo mid ka : Nat} {wB : World} {p : Pl} {nO m g k cap : Nat} {lv : Value} {w : World} (h : Lp lo mid ka wB p nO m (.slice (some ⟨g, 0, none⟩) k cap) lv w) (j : Nat) (u : Value) : Lp lo mid ka wB p nO m (.slice (some ⟨g, 0, none⟩) k cap) lv (w.setCell ⟨g, j, none⟩ u) := by
  obtain ⟨xs, hr⟩ := h.rowO
  obtain ⟨ys, hs⟩ := h.rowS
  obtain ⟨⟨cur, hc⟩, hlo⟩ := row_type hr (x := g) rfl
  have hap := h.apO g rfl
  refine ⟨h.bel.setCell hlo u, fun x h1 h2 => ?_, ?_, row_set hr j u, h.apO, ⟨ys, row_keep hs fun x hx => ?_⟩, h.apS⟩
  · rw [set_other u (by omega)]; exact h.kept x h1 h2
  · rw [set_other u (by intro e; have := h.pl; rw [e, hc] at this; cases this)]; exact h.pl
  · refine set_other u ?_
    intro e
    obtain ⟨⟨c2, hc2⟩, _⟩ := row_type hs hx
    rw [e, hc] at hc2
    cases hc2


theorem Lp.setS {lo mid ka : Nat} {wB : World} {p : Pl} {nO m g k cap : Nat} {ov : Value} {w : World} (h : Lp lo mid ka wB p nO m ov (.slice (some ⟨g, 0, none⟩) k cap) w) (j : Nat) (u : Value) : Lp lo mid ka wB p nO m ov (.slice (some ⟨g, 0, none⟩) k cap) (w.setCell ⟨g, j, none⟩ u) := by
  obtain ⟨xs, hr⟩ := h.rowS
  obtain ⟨ys, hs⟩ := h.rowO
  obtain ⟨⟨cur, hc⟩, hlo⟩ := row_type hr (x := g) rfl
  have hap := h.apS g rfl
  refine ⟨h.bel.setCell hlo u, fun x h1 h2 => ?_, ?_, ⟨ys, row_keep hs fun x hx => ?_⟩, h.apO, row_set hr j u, h.apS⟩
  · rw [set_other u (by omega)]; exact h.kept x h1 h2
  · rw [set_other u (by intro e; have := h.pl; rw [e, hc] at this; cases this)]; exact h.pl
  · refine set_other u ?_
    intro e
    obtain ⟨⟨c2, hc2⟩, _⟩ := row_type hs hx
    rw [e, hc] at hc2
    cases hc2


theorem Lp.alloc {lo mid ka : Nat} {wB : World} {p : Pl} {nO m : Nat} {ov lv : Value} {w : World} (h : Lp lo mid ka wB p nO m ov lv w) (hlo : lo ≤ wB.heap.size) (o : Obj) : Lp lo mid ka wB p nO m ov lv (w.alloc o) := by
  obtain ⟨xs, hr⟩ := h.rowO
  obtain ⟨ys, hs⟩ := h.rowS
  have hb := below_alloc w o
  have hsz := h.bel.size
  exact ⟨h.bel.alloc (by omega) o, fun x h1 h2 => by rw [hb.block x (by omega)]; exact h.kept x h1 h2, blk_below h.pl hb, ⟨xs, row_keep hr fun x hx => hb.block x (hr.lt x hx).2⟩, h.apO, ⟨ys, row_keep hs fun x hx => hb.block x (hs.lt x hx).2⟩, h.apS⟩


/-- The steps' row has grown. -/
theorem Lp.growS {lo mid ka : Nat} {wB : World} {p : Pl} {nO m m' : Nat} {ov lv lv' : Value} {w w' : World} {xs : List Value} (h : Lp lo mid ka wB p nO m ov lv w) (hlo : lo ≤ wB.heap.size) (hr : w'.ownsRow lo 43 5 lv' m' xs) (hg : w.grownBy w' lv.ownBlock) (hat : lv'.ownBlock = lv.ownBlock ∨ lv'.ownBlock = some w.heap.size) : Lp lo mid ka wB p nO m' ov lv' w' := by
  obtain ⟨ys, hs⟩ := h.rowS
  obtain ⟨zs, ho⟩ := h.rowO
  have hsz := h.bel.size
  have hout : ∀ (x : Nat) (c : Array Value) (t : TypeId) (fr : Nat × Nat), w.heap[x]? = some (Obj.cells c t fr) → t ≠ 43 → w'.heap[x]? = w.heap[x]? := fun x c t fr hx ht => hg.block x (blk_lt hx) (by
    intro e
    obtain ⟨⟨c2, hc2⟩, _⟩ := row_type hs e.symm
    rw [hx] at hc2
    cases hc2
    exact ht rfl)
  refine ⟨h.bel.grown hg (by omega) (fun y hy => (row_type hs hy).2), fun x h1 h2 => ?_, ?_, ⟨zs, row_keep ho fun x hx => ?_⟩, h.apO, ⟨xs, hr⟩, fun x hx => ?_⟩
  · rw [hg.block x (by omega) (fun e => by have := h.apS x e.symm; omega)]; exact h.kept x h1 h2
  · rw [hout _ _ _ _ h.pl (by decide)]; exact h.pl
  · obtain ⟨⟨c2, hc2⟩, _⟩ := row_type ho hx
    exact hout _ _ _ _ hc2 (by decide)
  · rcases hat with e | e
    · exact h.apS x (by rw [← e]; exact hx)
    · rw [e] at hx
      cases hx
      exact .inr hsz


theorem Lp.plO {lo mid ka : Nat} {wB : World} {p : Pl} {nO m : Nat} {ov lv : Value} {w w' : World} (h : Lp lo mid ka wB p nO m ov lv w) (hg : w.grownBy w' ov.ownBlock) : w'.heap[ka]? = some (.cells (PlC p ov) 24 (0, 0)) := by
  obtain ⟨ys, hs⟩ := h.rowO
  rw [hg.block ka (blk_lt h.pl) (by
    intro e
    obtain ⟨⟨c2, hc2⟩, _⟩ := row_type hs e.symm
    rw [h.pl] at hc2
    cases hc2)]
  exact h.pl


/-- The pipeline's row has grown, and the plan holds it. -/
theorem Lp.growO {lo mid ka : Nat} {wB : World} {p : Pl} {nO nO' m : Nat} {ov ov' lv : Value} {w w' : World} {xs : List Value} (h : Lp lo mid ka wB p nO m ov lv w) (hlo : lo ≤ wB.heap.size) (hka : lo ≤ ka ∧ ka < mid) (hr : w'.ownsRow lo 46 3 ov' nO' xs) (hg : w.grownBy w' ov.ownBlock) (hat : ov'.ownBlock = ov.ownBlock ∨ ov'.ownBlock = some w.heap.size) : Lp lo mid ka wB p nO' m ov' lv (w'.setCell ⟨ka, 3, none⟩ ov') := by
  obtain ⟨ys, hs⟩ := h.rowO
  obtain ⟨zs, ho⟩ := h.rowS
  have hsz := h.bel.size
  have hout : ∀ (x : Nat) (c : Array Value) (t : TypeId) (fr : Nat × Nat), w.heap[x]? = some (Obj.cells c t fr) → t ≠ 46 → w'.heap[x]? = w.heap[x]? := fun x c t fr hx ht => hg.block x (blk_lt hx) (by
    intro e
    obtain ⟨⟨c2, hc2⟩, _⟩ := row_type hs e.symm
    rw [hx] at hc2
    cases hc2
    exact ht rfl)
  have hpl : w'.heap[ka]? = some (.cells (PlC p ov) 24 (0, 0)) := by rw [hout _ _ _ _ h.pl (by decide)]; exact h.pl
  refine ⟨(h.bel.grown hg (by omega) (fun y hy => (row_type hs hy).2)).setCell hka.1 _, fun x h1 h2 => ?_, ?_, ⟨xs, row_keep hr fun x hx => ?_⟩, fun x hx => ?_, ⟨zs, ?_⟩, h.apS⟩
  · rw [set_other _ (by omega), hg.block x (by omega) (fun e => by have := h.apO x e.symm; omega)]; exact h.kept x h1 h2
  · rw [set_row hpl]; rfl
  · refine set_other _ ?_
    intro e
    obtain ⟨⟨c2, hc2⟩, _⟩ := row_type hr hx
    rw [e, hpl] at hc2
    cases hc2
  · rcases hat with e | e
    · exact h.apO x (by rw [← e]; exact hx)
    · rw [e] at hx
      cases hx
      exact .inr hsz
  · refine row_keep ho fun x hx => ?_
    obtain ⟨⟨c2, hc2⟩, _⟩ := row_type ho hx
    rw [set_other _ (by intro e; rw [e, h.pl] at hc2; cases hc2)]
    exact hout _ _ _ _ hc2 (by decide)
end Go.Proofs.YtkiplcmndpdifaaDoor


