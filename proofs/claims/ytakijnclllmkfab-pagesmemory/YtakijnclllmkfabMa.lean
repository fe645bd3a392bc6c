/- PagesMemory: rows of bytes and of writes of the call's own; what the statement makes of a list. -/
import Derived.Test.YtakijnclllmkfabPz

import Derived.Maps.AppendAt

namespace Go.Proofs.Ytakijnclllmkfab

open Go.RowKit



/-- A row of n bytes of the call's own, whatever they are. -/
def Ri (w : World) (v : Value) (n : Nat) : Prop := ∃ l : List Int, w.ownsRow 0 5 1 v n (l.map (Value.int .u8))
section

variable {w w' : World} {v v' : Value} {n g i : Nat}

theorem ri_own {base : Nat} {b : List Nat} (h : w.ownsRow base 5 1 v n (cb b)) : Ri w v n := ⟨ib b, own_base h (Nat.zero_le _)⟩
theorem Ri.lt (h : Ri w v n) (hv : v.ownBlock = some g) : g < w.heap.size := by
  obtain ⟨l, h⟩ := h
  exact (h.lt g hv).2
theorem Ri.keep (h : Ri w v n) (hk : ∀ x, v.ownBlock = some x → w'.heap[x]? = w.heap[x]?) : Ri w' v n := by
  obtain ⟨l, h⟩ := h
  exact ⟨l, row_keep h hk⟩
theorem Ri.below (h : Ri w v n) (hb : Below w.heap.size w w') : Ri w' v n := h.keep (fun x hx => hb.block x (h.lt hx))
theorem Ri.block (h : Ri w v n) (hv : v.ownBlock = some g) : ∃ cur, w.heap[g]? = some (.cells cur 5 (0, 0)) := by
  obtain ⟨l, h⟩ := h
  rcases h.2 with ⟨rfl, _⟩ | ⟨g', cap, cur, rfl, _, hg, _⟩
  · cases hv
  · simp [Value.ownBlock] at hv; subst hv; exact ⟨cur, hg⟩
theorem Ri.form (h : Ri w v n) : ∃ ao cap, v = .slice ao n cap ∧ n ≤ cap ∧ cap ≤ maxLen := by
  obtain ⟨l, h⟩ := h
  exact row_form h
theorem Ri.some (h : Ri w v n) (hn : 1 ≤ n) : ∃ g cap, v = .slice (Option.some ⟨g, 0, none⟩) n cap ∧ n ≤ cap := by
  obtain ⟨l, h⟩ := h
  rcases h.2 with ⟨rfl, h0⟩ | ⟨g', cap, cur, rfl, _, hg, hnc, _⟩
  · omega
  · exact ⟨g', cap, rfl, hnc⟩
theorem Ri.at {cap : Nat} (h : Ri w (.slice (Option.some ⟨g, 0, none⟩) n cap) n) (hi : i < n) : (∃ x, w.cell? ⟨g, i, none⟩ = Option.some (.int .u8 x)) ∧ w.frozen? ⟨g, i, none⟩ = false := by
  obtain ⟨l, h1, h2⟩ := h
  rcases h2 with ⟨h, _⟩ | ⟨g', cap', cur, e1, hb, hg, hnc, hcm, hcs, htake⟩
  · cases h
  · simp only [Value.slice.injEq, Option.some.injEq, Addr.mk.injEq] at e1
    obtain ⟨⟨rfl, _⟩, _, rfl⟩ := e1
    have hl : l.length = n := by simpa using h1
    refine ⟨⟨l[i], ?_⟩, by simp [World.frozen?, hg]⟩
    rw [cell_of_row w g i cur _ (0, 0) hg]
    have e := congrArg (fun l => l[i]?) htake
    simp only [List.getElem?_take, Nat.mul_one, if_pos hi, List.getElem?_map, List.getElem?_eq_getElem (show i < l.length by omega)] at e
    rw [← Array.getElem?_toList, e]; rfl
theorem Ri.set {cap : Nat} (h : Ri w (.slice (Option.some ⟨g, 0, none⟩) n cap) n) (i : Nat) (y : Int) : Ri (w.setCell ⟨g, i, none⟩ (.int .u8 y)) (.slice (Option.some ⟨g, 0, none⟩) n cap) n := by
  obtain ⟨l, h1, h2⟩ := h
  rcases h2 with ⟨h, _⟩ | ⟨g', cap', cur, e1, hb, hg, hnc, hcm, hcs, htake⟩
  · cases h
  · simp only [Value.slice.injEq, Option.some.injEq, Addr.mk.injEq] at e1
    obtain ⟨⟨rfl, _⟩, _, rfl⟩ := e1
    have hl : l.length = n := by simpa using h1
    refine ⟨l.set i y, by simpa using hl, .inr ⟨g, cap, cur.setIfInBounds i (.int .u8 y), rfl, hb, set_row hg i _, hnc, hcm, by simpa using hcs, ?_⟩⟩
    rw [Nat.mul_one] at htake ⊢
    rw [Array.toList_setIfInBounds, List.take_set, htake, List.map_set]
end





theorem ch_set {M : Nat → Prop} {w9 w : World} {g i : Nat} (h : Ch M w9 w) (hg : M g ∨ w9.heap.size ≤ g) (u : Value) : Ch M w9 (w.setCell ⟨g, i, none⟩ u) :=
  h.trans (Ch.of_grown (D := fun x => x = g) (grown_set w g i u) (fun x hx => by cases hx; rfl)) (fun x hx => by subst hx; exact hg)


theorem make_pw {q : Nat} (hq : q ≤ 16) : ∀ wx : World, (Instr.makeSlice 22 (.int .i64 0) (.int .i64 q)).run Try.prog wx = .ok (.slice (some ⟨wx.heap.size, 0, none⟩) 0 q) (wx.alloc (.cells (madeCells #[.int .i64 0, .slice none 0 0] (q * 2)) 33)) := fun wx => by
  obtain ⟨i0, hi0, hz0, hz1, hz2⟩ := info_partsV info_pw
  have := run_make (P := Try.prog) wx 22 33 i0 (.agg #[.int .i64 0, .slice none 0 0]) Try.underlying22 hi0 hz0 .i64 .i64 0 q (by omega) (by omega) (by rw [hz2]; omega) (by omega)
  rw [hz1] at this
  simp only [Int.toNat_natCast] at this
  exact this


theorem make_by {q : Nat} (hq : q ≤ 2048) : ∀ wx : World, (Instr.makeSlice 31 (.int .i64 0) (.int .i64 q)).run Try.prog wx = .ok (.slice (some ⟨wx.heap.size, 0, none⟩) 0 q) (wx.alloc (.cells (madeCells #[.int .u8 0] (q * 1)) 5)) := fun wx => by
  obtain ⟨i0, hi0, hz0, hz1, hz2⟩ := info_partsV info_u8
  have := run_make (P := Try.prog) wx 31 5 i0 (.int .u8 0) Try.underlying31 hi0 hz0 .i64 .i64 0 q (by omega) (by omega) (by rw [hz2]; omega) (by omega)
  rw [hz1] at this
  simp only [Int.toNat_natCast] at this
  exact this


theorem own_made (w : World) {base q s : Nat} {e : TypeId} {zs : Array Value} (hb : base ≤ w.heap.size) (hq : q ≤ maxLen) : (w.alloc (.cells (madeCells zs (q * s)) e)).ownsRow base e s (.slice (some ⟨w.heap.size, 0, none⟩) 0 q) 0 [] :=
  ⟨by simp, .inr ⟨_, q, _, rfl, hb, heap_alloc_new w _, Nat.zero_le _, hq, by rw [size_madeCells], by simp⟩⟩


/-- A slice of d's bytes, four more behind them in its room, in a block of its own. -/
def Dt (base : Nat) (w : World) (u : Value) (d : List Nat) : Prop :=
  ∃ g cap cur, u = .slice (some ⟨g, 0, none⟩) d.length cap ∧ base ≤ g ∧ w.heap[g]? = some (.cells cur 5 (0, 0)) ∧ d.length + 4 ≤ cap ∧ cap ≤ maxLen ∧ cur.size = cap ∧ cur.toList.take (d.length + 4) = cb (d ++ [1, 2, 3, 4])


theorem size_alloc' (w : World) (o : Obj) : (w.alloc o).heap.size = w.heap.size + 1 := by simp [go_sem]


section

variable {base b2 : Nat} {w w' : World} {u v : Value} {d : List Nat}

theorem Dt.keep (h : Dt base w u d) (hk : ∀ x, u.ownBlock = some x → w'.heap[x]? = w.heap[x]?) : Dt base w' u d := by
  obtain ⟨g, cap, cur, rfl, h1, h2, h3⟩ := h
  exact ⟨g, cap, cur, rfl, h1, by rw [hk g rfl]; exact h2, h3⟩
theorem Dt.lt (h : Dt base w u d) {x : Nat} (hx : u.ownBlock = some x) : base ≤ x ∧ x < w.heap.size := by
  obtain ⟨g, cap, cur, rfl, h1, h2, h3⟩ := h
  simp [Value.ownBlock] at hx
  subst hx
  exact ⟨h1, (Array.getElem?_eq_some_iff.1 h2).1⟩
theorem Dt.low (h : Dt base w u d) (hb : b2 ≤ base) : Dt b2 w u d := by
  obtain ⟨g, cap, cur, rfl, h1, h2⟩ := h
  exact ⟨g, cap, cur, rfl, Nat.le_trans hb h1, h2⟩
theorem Dt.u8 (h : Dt base w u d) {x : Nat} (hx : u.ownBlock = some x) : ∃ cur, w.heap[x]? = some (.cells cur 5 (0, 0)) := by
  obtain ⟨g, cap, cur, rfl, h1, h2, h3⟩ := h
  simp [Value.ownBlock] at hx
  subst hx
  exact ⟨cur, h2⟩
theorem dt_of {cap : Nat} {ao : Option Addr} (h : w.ownsRow base 5 1 (.slice ao (d.length + 4) cap) (d.length + 4) (cb (d ++ [1, 2, 3, 4]))) : Dt base w (.slice ao d.length cap) d := by
  rcases h.2 with ⟨_, h0⟩ | ⟨g, c, cur, e, hb, hg, hn, hm, hs, ht⟩
  · omega
  · simp only [Value.slice.injEq] at e
    obtain ⟨rfl, _, rfl⟩ := e
    exact ⟨g, cap, cur, rfl, hb, hg, hn, hm, by omega, by simpa using ht⟩
/-- Its bytes. -/
theorem Dt.bv (h : Dt base w u d) (hd : ∀ c ∈ d, c < 256) : Bv w u d := by
  obtain ⟨g, cap, cur, rfl, h1, h2, h3, h4, h5, h6⟩ := h
  refine ⟨⟨some ⟨g, 0, none⟩, cap, by rw [ib_len], by rw [ib_len]; omega, h4, by simp, fun i hi => ⟨g, 0, rfl, ?_⟩⟩, hd⟩
  rw [ib_len] at hi
  rw [Nat.zero_add, cell_of_row w g i cur _ (0, 0) h2]
  have e := congrArg (fun l => l[i]?) h6
  simp only [List.getElem?_take, if_pos (show i < d.length + 4 by omega)] at e
  rw [← Array.getElem?_toList, e]
  have h7 : (cb (d ++ [1, 2, 3, 4]))[i]? = (cb d)[i]? := by simp only [cb, ib, List.map_append]; exact List.getElem?_append_left (by simpa using hi)
  rw [h7]
  simp [cb, ib, hi]
end



/-- The row of writes that the statement makes: each write's bytes in a block of its own. -/
structure Mi (w0 wr : World) (v : Value) (qs : List Qw) : Prop where
  own : wr.ownsRow w0.heap.size 33 2 v qs.length (flatQ qs)
  dat : ∀ q ∈ qs, Dt w0.heap.size wr q.2.1 q.2.2
  nod : (qs.map (fun q => q.2.1.ownBlock)).Nodup
  be : Below w0.heap.size w0 wr


section

variable {w0 wr w4 w6 : World} {v v' u : Value} {qs : List Qw} {p : Int} {d : List Nat} {o : Obj}

/-- A block of bytes is no block of writes. -/
theorem pw_u8 {base n : Nat} {xs : List Value} {w : World} {x : Nat} (h : w.ownsRow base 33 2 v n xs) (hv : v.ownBlock = some x) {cur : Array Value} (hc : w.heap[x]? = some (.cells cur 5 (0, 0))) : False := by
  rcases h.2 with ⟨rfl, _⟩ | ⟨g, cap, cu, rfl, _, hg, _⟩
  · cases hv
  · simp [Value.ownBlock] at hv
    subst hv
    rw [hg] at hc
    simp at hc


theorem Mi.below (h : Mi w0 wr v qs) (hb : Below wr.heap.size wr w4) : Mi w0 w4 v qs :=
  ⟨own_below h.own hb, fun q hq => (h.dat q hq).keep (fun x hx => hb.block x ((h.dat q hq).lt hx).2), h.nod, below_trans h.be hb⟩


theorem Mi.step (h : Mi w0 wr v qs) (hb : Below wr.heap.size wr w4) (hd : Dt wr.heap.size w4 u d) (ho : w6.ownsRow w0.heap.size 33 2 v' (qs.length + 1) (flatQ qs ++ [.int .i64 p, u])) (hg : (w4.alloc o).grownBy w6 v.ownBlock) : Mi w0 w6 v' (qs ++ [(p, u, d)]) := by
  have h4 := h.below hb
  have hs : w0.heap.size ≤ wr.heap.size := h.be.size
  have hkp : ∀ x, x < w4.heap.size → v.ownBlock ≠ some x → w6.heap[x]? = w4.heap[x]? := fun x hx hn => by
    rw [hg.block x (by rw [size_alloc']; omega) (fun e => hn e.symm), (below_alloc w4 o).block x hx]
  have hnb : ∀ {base : Nat} {z : Value} {b : List Nat}, Dt base w4 z b → ∀ x, z.ownBlock = some x → w6.heap[x]? = w4.heap[x]? := fun hz x hx => by
    refine hkp x (hz.lt hx).2 (fun e => ?_)
    obtain ⟨cur, hc⟩ := hz.u8 hx
    exact pw_u8 h4.own e hc
  refine ⟨by rw [List.length_append, flat_snoc]; exact ho, fun q hq => ?_, ?_, ?_⟩
  · rcases List.mem_append.1 hq with q1 | q1
    · exact (h4.dat q q1).keep (hnb (h4.dat q q1))
    · simp at q1
      subst q1
      exact (hd.low hs).keep (hnb hd)
  · rw [List.map_append, List.nodup_append]
    refine ⟨h.nod, by simp, fun a ha b hb2 e => ?_⟩
    simp at hb2
    subst hb2
    subst e
    obtain ⟨q, hq, e⟩ := List.mem_map.1 ha
    obtain ⟨g, cap, cur, rfl, hgb, _⟩ := hd
    have h1 := ((h.dat q hq).lt (x := g) (by rw [e]; rfl)).2
    omega
  · exact (below_trans h.be (below_trans hb (below_alloc w4 o))).grown hg (by rw [size_alloc']; have := hb.size; omega) (fun x hx => (h.own.lt x hx).1)


/-- The row with two writes more behind it. -/
structure Mx (w0 wr : World) (v : Value) (qs : List Qw) : Prop where
  own : wr.ownsRow w0.heap.size 33 2 v (qs.length + 2) (flatQ qs ++ [.int .i64 77, .slice none 0 0, .int .i64 78, .slice none 0 0])
  dat : ∀ q ∈ qs, Dt w0.heap.size wr q.2.1 q.2.2
  nod : (qs.map (fun q => q.2.1.ownBlock)).Nodup


theorem Mi.more (h : Mi w0 wr v qs) (ho : w6.ownsRow w0.heap.size 33 2 v' (qs.length + 2) (flatQ qs ++ [.int .i64 77, .slice none 0 0, .int .i64 78, .slice none 0 0])) (hg : (wr.alloc o).grownBy w6 v.ownBlock) : Mx w0 w6 v' qs ∧ Below w0.heap.size w0 w6 := by
  have hkp : ∀ x, x < wr.heap.size → v.ownBlock ≠ some x → w6.heap[x]? = wr.heap[x]? := fun x hx hn => by
    rw [hg.block x (by rw [size_alloc']; omega) (fun e => hn e.symm), (below_alloc wr o).block x hx]
  refine ⟨⟨ho, fun q hq => (h.dat q hq).keep (fun x hx => hkp x ((h.dat q hq).lt hx).2 (fun e => ?_)), h.nod⟩, ?_⟩
  · obtain ⟨cur, hc⟩ := (h.dat q hq).u8 hx
    exact pw_u8 h.own e hc
  · exact (below_trans h.be (below_alloc wr o)).grown hg (by rw [size_alloc']; have := h.be.size; omega) (fun x hx => (h.own.lt x hx).1)


theorem Mx.form (h : Mx w0 wr v qs) : ∃ g cap, v = .slice (some ⟨g, 0, none⟩) (qs.length + 2) cap ∧ qs.length + 2 ≤ cap := by
  rcases h.own.2 with ⟨_, h0⟩ | ⟨g, cap, cur, e, _, _, hn, _⟩
  · omega
  · exact ⟨g, cap, e, hn⟩


/-- The cells of the row. -/
theorem Mx.row {g cap : Nat} (h : Mx w0 wr (.slice (some ⟨g, 0, none⟩) (qs.length + 2) cap) qs) : w0.heap.size ≤ g ∧ cap ≤ maxLen ∧ ∃ cur, wr.heap[g]? = some (.cells cur 33 (0, 0)) ∧ cur.size = cap * 2 ∧ cur.toList.take ((qs.length + 2) * 2) = flatQ qs ++ [.int .i64 77, .slice none 0 0, .int .i64 78, .slice none 0 0] := by
  rcases h.own.2 with ⟨h0, _⟩ | ⟨g2, cap2, cur, e, hb, hg, hn, hm, hs, ht⟩
  · cases h0
  · simp only [Value.slice.injEq, Option.some.injEq, Addr.mk.injEq] at e
    obtain ⟨⟨rfl, _⟩, _, rfl⟩ := e
    exact ⟨hb, hm, cur, hg, hs, ht⟩


theorem Mx.cell {g cap : Nat} (h : Mx w0 wr (.slice (some ⟨g, 0, none⟩) (qs.length + 2) cap) qs) {j : Nat} (hj : j < (qs.length + 2) * 2) : wr.cell? ⟨g, j, none⟩ = (flatQ qs ++ [.int .i64 77, .slice none 0 0, .int .i64 78, .slice none 0 0])[j]? := by
  obtain ⟨_, _, cur, hg, _, ht⟩ := h.row
  rw [cell_of_row wr g j cur _ (0, 0) hg, ← ht, List.getElem?_take, if_pos hj, Array.getElem?_toList]


theorem Mx.at {g cap : Nat} (h : Mx w0 wr (.slice (some ⟨g, 0, none⟩) (qs.length + 2) cap) qs) {j : Nat} (hj : j < qs.length) : wr.cell? ⟨g, j * 2, none⟩ = some (.int .i64 qs[j].1) ∧ wr.cell? ⟨g, j * 2 + 1, none⟩ = some qs[j].2.1 := by
  have hf := flat_at qs j hj
  have hl := flat_len qs
  rw [h.cell (by omega), h.cell (by omega), List.getElem?_append_left (by omega), List.getElem?_append_left (by omega)]
  exact hf


/-- Two writes of one row have their bytes apart. -/
theorem Mx.tx {A : Nat → Prop} {g cap : Nat} {L : List (Int × List Nat)} (h : Mx w0 wr (.slice (some ⟨g, 0, none⟩) (qs.length + 2) cap) qs) (hA : ∀ x, A x → x < w0.heap.size) (hby : ∀ q ∈ L, ∀ c ∈ q.2, c < 256) (hr : ∀ q ∈ L, -9223372036854775808 ≤ q.1 ∧ q.1 < 9223372036854775808) (hL : lsQ qs = L) : Tx A wr (.slice (some ⟨g, 0, none⟩) qs.length cap) L := by
  obtain ⟨hb, hm, cur, hg, hs, ht⟩ := h.row
  have hlen : L.length = qs.length := by rw [← hL]; unfold lsQ; rw [List.length_map]
  have hc2 : qs.length + 2 ≤ cap := by
    have e := congrArg List.length ht
    rw [List.length_take, List.length_append, flat_len] at e
    simp at e
    omega
  refine ⟨⟨some ⟨g, 0, none⟩, cap, by rw [hlen], by omega, hm, by simp, fun i hi => ?_⟩, hr⟩
  rw [hlen] at hi
  obtain ⟨e0, e1⟩ := h.at hi
  have hp : L[i]'(by omega) = (qs[i].1, qs[i].2.2) := by simp only [← hL, lsQ, List.getElem_map]
  refine ⟨g, 0, qs[i].2.1, rfl, fun hx => ?_, by rw [hp, Nat.zero_add]; exact e0, by rw [Nat.zero_add]; exact e1, ?_⟩
  · have := hA g hx
    omega
  · have hd := h.dat qs[i] (List.getElem_mem _)
    rw [hp]
    refine ⟨hd.bv (fun c hc => hby (qs[i].1, qs[i].2.2) (by rw [← hp]; exact List.getElem_mem _) c hc), .inr (fun x hx e => ?_)⟩
    have h1 := (hd.lt hx).1
    have h2 := hA x e
    omega


theorem Mx.ch {A : Nat → Prop} (h : Mx w0 wr v qs) (hc : Ch A wr w4) (hA : ∀ x, A x → x < w0.heap.size) : Mx w0 w4 v qs :=
  ⟨row_keep h.own (fun x hx => hc.block x (h.own.lt x hx).2 (fun e => by have h1 := (h.own.lt x hx).1; have h2 := hA x e; omega)), fun q hq => (h.dat q hq).keep (fun x hx => hc.block x ((h.dat q hq).lt hx).2 (fun e => by have h1 := ((h.dat q hq).lt hx).1; have h2 := hA x e; omega)), h.nod⟩


/-- The row behind i of its writes: those are written over. -/
structure M2 (base : Nat) (wr : World) (g gc : Nat) (qs : List Qw) (i : Nat) : Prop where
  row : ∃ cur, wr.heap[g]? = some (.cells cur 33 (0, 0)) ∧ cur.size = gc * 2
  cel : ∀ j (h : j < qs.length), i ≤ j → wr.cell? ⟨g, j * 2, none⟩ = some (.int .i64 qs[j].1) ∧ wr.cell? ⟨g, j * 2 + 1, none⟩ = some qs[j].2.1
  dat : ∀ j (h : j < qs.length), i ≤ j → Dt base wr qs[j].2.1 qs[j].2.2
  nod : (qs.map (fun q => q.2.1.ownBlock)).Nodup
  gc2 : qs.length + 2 ≤ gc


theorem Mx.two {g cap : Nat} (h : Mx w0 wr (.slice (some ⟨g, 0, none⟩) (qs.length + 2) cap) qs) (hc : qs.length + 2 ≤ cap) : M2 w0.heap.size wr g cap qs 0 := by
  obtain ⟨_, _, cur, hg, hs, _⟩ := h.row
  exact ⟨⟨cur, hg, hs⟩, fun j hj _ => h.at hj, fun j hj _ => h.dat _ (List.getElem_mem _), h.nod, hc⟩


theorem M2.ng {base g gc i : Nat} (h : M2 base wr g gc qs i) {j : Nat} (hj : j < qs.length) (hi : i ≤ j) : qs[j].2.1.ownBlock ≠ some g := fun e => by
  obtain ⟨cur, hc⟩ := (h.dat j hj hi).u8 e
  obtain ⟨cu, hg, _⟩ := h.row
  rw [hg] at hc
  simp at hc


/-- Behind the i-th write's bytes written over, and its page. -/
theorem M2.step {base g gc i gd : Nat} (h : M2 base wr g gc qs i) (hi : i < qs.length) (hd : qs[i].2.1.ownBlock = some gd) (hc : Ch (fun x => x = gd) wr w4) (u : Value) : M2 base (w4.setCell ⟨g, i * 2, none⟩ u) g gc qs (i + 1) := by
  have hgd : gd ≠ g := fun e => h.ng hi (Nat.le_refl _) (by rw [hd, e])
  obtain ⟨cur, hg, hs⟩ := h.row
  have hlt : g < wr.heap.size := (Array.getElem?_eq_some_iff.1 hg).1
  have hg4 : w4.heap[g]? = some (.cells cur 33 (0, 0)) := by rw [hc.block g hlt (fun e => hgd e.symm)]; exact hg
  refine ⟨⟨_, set_row hg4 _ _, by simpa using hs⟩, fun j hj hij => ?_, fun j hj hij => ?_, h.nod, h.gc2⟩
  · obtain ⟨e0, e1⟩ := h.cel j hj (by omega)
    have k0 : w4.cell? ⟨g, j * 2, none⟩ = wr.cell? ⟨g, j * 2, none⟩ := by rw [World.cell?_of_block (w := wr) (a := ⟨g, j * 2, none⟩) (by rw [hg4, hg])]
    have k1 : w4.cell? ⟨g, j * 2 + 1, none⟩ = wr.cell? ⟨g, j * 2 + 1, none⟩ := by rw [World.cell?_of_block (w := wr) (a := ⟨g, j * 2 + 1, none⟩) (by rw [hg4, hg])]
    rw [World.cell?_setCell_other _ _ _ _ (by intro e; simp at e <;> omega), World.cell?_setCell_other _ _ _ _ (by intro e; simp at e <;> omega), k0, k1]
    exact ⟨e0, e1⟩
  · refine (h.dat j hj (by omega)).keep (fun x hx => ?_)
    have hxg : x ≠ g := fun e => h.ng hj (by omega) (by rw [hx, e])
    rw [set_other _ _ hxg]
    refine hc.block x ((h.dat j hj (by omega)).lt hx).2 (fun e => ?_)
    subst e
    have hn := List.nodup_iff_pairwise_ne.1 h.nod
    have := List.pairwise_iff_getElem.1 hn i j (by simpa using hi) (by simpa using hj) (by omega)
    simp only [List.getElem_map] at this
    exact this (by rw [hd, hx])


theorem M2.below {base g gc i : Nat} (h : M2 base wr g gc qs i) (hb : Below wr.heap.size wr w4) : M2 base w4 g gc qs i := by
  obtain ⟨cur, hg, hs⟩ := h.row
  have hlt : g < wr.heap.size := (Array.getElem?_eq_some_iff.1 hg).1
  refine ⟨⟨cur, by rw [hb.block g hlt]; exact hg, hs⟩, fun j hj hij => ?_, fun j hj hij => (h.dat j hj hij).keep (fun x hx => hb.block x ((h.dat j hj hij).lt hx).2), h.nod, h.gc2⟩
  rw [World.cell?_of_block (w := wr) (a := ⟨g, j * 2, none⟩) (hb.block g hlt), World.cell?_of_block (w := wr) (a := ⟨g, j * 2 + 1, none⟩) (hb.block g hlt)]
  exact h.cel j hj hij


/-- The i-th write's page can be written over. -/
theorem M2.page {base g gc i gd : Nat} (h : M2 base wr g gc qs i) (hi : i < qs.length) (hd : qs[i].2.1.ownBlock = some gd) (hc : Ch (fun x => x = gd) wr w4) : w4.cell? ⟨g, i * 2, none⟩ = some (.int .i64 qs[i].1) ∧ w4.frozen? ⟨g, i * 2, none⟩ = false := by
  have hgd : gd ≠ g := fun e => h.ng hi (Nat.le_refl _) (by rw [hd, e])
  obtain ⟨cur, hg, hs⟩ := h.row
  have hlt : g < wr.heap.size := (Array.getElem?_eq_some_iff.1 hg).1
  have hg4 : w4.heap[g]? = wr.heap[g]? := hc.block g hlt (fun e => hgd e.symm)
  refine ⟨by rw [World.cell?_of_block (w := wr) (a := ⟨g, i * 2, none⟩) hg4]; exact (h.cel i hi (Nat.le_refl _)).1, ?_⟩
  rw [hg] at hg4
  simp [World.frozen?, hg4]


/-- What lies behind a write's bytes. -/
theorem Dt.tail {base g cap : Nat} (h : Dt base wr (.slice (some ⟨g, 0, none⟩) d.length cap) d) : Bv wr (.slice (some ⟨g, d.length, none⟩) 4 (cap - d.length)) [1, 2, 3, 4] := by
  obtain ⟨g2, cap2, cur, e, h1, h2, h3, h4, h5, h6⟩ := h
  simp only [Value.slice.injEq, Option.some.injEq, Addr.mk.injEq] at e
  obtain ⟨⟨rfl, _⟩, _, rfl⟩ := e
  refine ⟨⟨some ⟨g, d.length, none⟩, cap - d.length, by rw [ib_len]; rfl, by rw [ib_len]; simp; omega, by omega, by simp, fun i hi => ⟨g, d.length, rfl, ?_⟩⟩, by simp⟩
  rw [ib_len] at hi
  simp at hi
  rw [cell_of_row wr g (d.length + i) cur _ (0, 0) h2]
  have e := congrArg (fun l => l[d.length + i]?) h6
  simp only [List.getElem?_take, if_pos (show d.length + i < d.length + 4 by omega)] at e
  rw [← Array.getElem?_toList, e]
  have h7 : (cb (d ++ [1, 2, 3, 4]))[d.length + i]? = (cb [1, 2, 3, 4])[i]? := by
    simp only [cb, ib, List.map_append]
    rw [List.getElem?_append_right (by simp)]
    simp
  rw [h7]
  simp only [cb, List.getElem?_map]
  have hi4 : i < (ib [1, 2, 3, 4]).length := by rw [ib_len]; simpa using hi
  rw [List.getD_eq_getElem?_getD, List.getElem?_eq_getElem hi4]
  rfl


theorem Dt.ri {base g cap : Nat} (h : Dt base wr (.slice (some ⟨g, 0, none⟩) d.length cap) d) : Ri wr (.slice (some ⟨g, 0, none⟩) (d.length + 4) cap) (d.length + 4) := by
  obtain ⟨g2, cap2, cur, e, h1, h2, h3, h4, h5, h6⟩ := h
  simp only [Value.slice.injEq, Option.some.injEq, Addr.mk.injEq] at e
  obtain ⟨⟨rfl, _⟩, _, rfl⟩ := e
  refine ⟨ib (d ++ [1, 2, 3, 4]), by simp [ib_len], .inr ⟨g, cap, cur, rfl, Nat.zero_le _, h2, h3, h4, by omega, by rw [Nat.mul_one]; exact h6⟩⟩


/-- Apart from both. -/
theorem Tx.both {A B : Nat → Prop} {w : World} {v : Value} {ps : List (Int × List Nat)} (h : Tx A w v ps) (k : Tx B w v ps) : Tx (fun x => A x ∨ B x) w v ps := by
  obtain ⟨⟨ao, cap, e, h1, h2, h3, h4⟩, h5⟩ := h
  obtain ⟨⟨ao2, cap2, e2, _, _, _, k4⟩, _⟩ := k
  subst e
  simp only [Value.slice.injEq] at e2
  obtain ⟨rfl, _, rfl⟩ := e2
  refine ⟨⟨ao, cap, rfl, h1, h2, h3, fun i hi => ?_⟩, h5⟩
  obtain ⟨b, off, u, rfl, nA, c0, c1, bx⟩ := h4 i hi
  obtain ⟨b2, off2, u2, e, nB, d0, d1, by2⟩ := k4 i hi
  simp only [Option.some.injEq, Addr.mk.injEq] at e
  obtain ⟨rfl, rfl, _⟩ := e
  rw [c1] at d1
  simp only [Option.some.injEq] at d1
  subst d1
  refine ⟨b, off, u, rfl, fun e => e.elim nA nB, c0, c1, bx.1, ?_⟩
  rcases bx.2 with q | q
  · exact .inl q
  · rcases by2.2 with r | r
    · exact .inl r
    · exact .inr (fun x hx e => e.elim (q x hx) (r x hx))
end

end Go.Proofs.Ytakijnclllmkfab


