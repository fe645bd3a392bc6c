/- What the statements share: lists of lists handed in; the pages that are wanted, in their block; a Put between. -/
import Derived.Test.YtakijnclllmkfabPs

namespace Go.Proofs.Ytakijnclllmkfab

open Go.RowKit



/-- The value v is a slice of lists of writes. -/
def Lv (w : World) (v : Value) (lss : List (List (Int × List Nat))) : Prop :=
  ∃ ao cap, v = .slice ao lss.length cap ∧ lss.length ≤ cap ∧ cap ≤ maxLen ∧ (ao = none → cap = 0) ∧
    ∀ i (h : i < lss.length), ∃ b off u, ao = some ⟨b, off, none⟩ ∧ w.cell? ⟨b, off + i, none⟩ = some u ∧ Tv w u lss[i]
theorem Lv.form {w : World} {v : Value} {lss : List (List (Int × List Nat))} (h : Lv w v lss) : ∃ ao cap, v = .slice ao lss.length cap ∧ lss.length ≤ cap ∧ cap ≤ maxLen := by
  obtain ⟨ao, cap, e, h1, h2, _⟩ := h; exact ⟨ao, cap, e, h1, h2⟩
theorem Lv.at {w : World} {ao : Option Addr} {n cap : Nat} {lss : List (List (Int × List Nat))} (h : Lv w (.slice ao n cap) lss) {i : Nat} (hi : i < lss.length) : ∃ b off u, ao = some ⟨b, off, none⟩ ∧ w.cell? ⟨b, off + i, none⟩ = some u ∧ Tv w u lss[i] := by
  obtain ⟨ao', cap', e, h1, h2, h3, h4⟩ := h
  simp only [Value.slice.injEq] at e
  obtain ⟨b, off, u, e1, r⟩ := h4 i hi
  exact ⟨b, off, u, e.1.trans e1, r⟩
/-- What is handed in, later. -/
theorem Tv.later {w wr : World} {v : Value} {ps : List (Int × List Nat)} (h : Tv w v ps) (hb : Below w.heap.size w wr) : Tx (fun x => w.heap.size ≤ x) wr v ps :=
  h.tx.ch ⟨hb.os, hb.tape, hb.output, hb.size, fun x hx _ => hb.block x hx⟩ (fun _ hx => .inl hx)
theorem Tx.bytes {A : Nat → Prop} {w : World} {v : Value} {ps : List (Int × List Nat)} (h : Tx A w v ps) : ∀ q ∈ ps, ∀ c ∈ q.2, c < 256 := by
  obtain ⟨⟨ao, cap, e, h1, h2, h3, h4⟩, h5⟩ := h
  intro q hq
  obtain ⟨i, hi, rfl⟩ := List.getElem_of_mem hq
  obtain ⟨_, _, _, _, _, _, _, hv⟩ := h4 i hi
  exact hv.1.2
theorem with_bytes : ∀ (ps : List (Int × List Nat)) (W : List (List Nat)), (∀ b ∈ W, ∀ c ∈ b, c < 256) → (∀ q ∈ ps, ∀ c ∈ q.2, c < 256) → ∀ b ∈ withL W ps, ∀ c ∈ b, c < 256 := by
  intro ps
  induction ps with
  | nil => intro W h _; exact h
  | cons q l ih =>
    intro W h hq
    refine ih (W.set q.1.toNat q.2) (fun b hb => ?_) (fun r hr => hq r (by simp [hr]))
    rcases List.mem_or_eq_of_mem_set hb with h1 | h1
    · exact h b h1
    · rw [h1]; exact hq q (by simp)


section

variable {w : World} {b : Nat} {a0 a1 a2 a3 a4 a5 a6 a7 : List Nat}

theorem wb_cells (h : Wb8 w b [a0, a1, a2, a3, a4, a5, a6, a7]) : w.cell? ⟨b, 0, none⟩ = some (.string (str a0)) ∧ w.cell? ⟨b, 1, none⟩ = some (.string (str a1)) ∧ w.cell? ⟨b, 2, none⟩ = some (.string (str a2)) ∧ w.cell? ⟨b, 3, none⟩ = some (.string (str a3)) ∧ w.cell? ⟨b, 4, none⟩ = some (.string (str a4)) ∧ w.cell? ⟨b, 5, none⟩ = some (.string (str a5)) ∧ w.cell? ⟨b, 6, none⟩ = some (.string (str a6)) ∧ w.cell? ⟨b, 7, none⟩ = some (.string (str a7)) := by
  have hh : w.heap[b]? = some (.cells #[.string (str a0), .string (str a1), .string (str a2), .string (str a3), .string (str a4), .string (str a5), .string (str a6), .string (str a7)] 29 (0, 0)) := h.1
  refine ⟨?_, ?_, ?_, ?_, ?_, ?_, ?_, ?_⟩ <;> (rw [cell_of_row w b _ _ _ (0, 0) hh]; rfl)
theorem wb_soft {W : List (List Nat)} (h : Wb8 w b W) : w.frozen? ⟨b, 0, none⟩ = false ∧ w.frozen? ⟨b, 1, none⟩ = false ∧ w.frozen? ⟨b, 2, none⟩ = false ∧ w.frozen? ⟨b, 3, none⟩ = false ∧ w.frozen? ⟨b, 4, none⟩ = false ∧ w.frozen? ⟨b, 5, none⟩ = false ∧ w.frozen? ⟨b, 6, none⟩ = false ∧ w.frozen? ⟨b, 7, none⟩ = false := ⟨h.soft 0, h.soft 1, h.soft 2, h.soft 3, h.soft 4, h.soft 5, h.soft 6, h.soft 7⟩
theorem wb_store {b0 b1 b2 b3 b4 b5 b6 b7 : List Nat} (h : Wb8 w b [a0, a1, a2, a3, a4, a5, a6, a7]) : Wb8 ((((((((w.setCell ⟨b, 0, none⟩ (.string (str b0))).setCell ⟨b, 1, none⟩ (.string (str b1))).setCell ⟨b, 2, none⟩ (.string (str b2))).setCell ⟨b, 3, none⟩ (.string (str b3))).setCell ⟨b, 4, none⟩ (.string (str b4))).setCell ⟨b, 5, none⟩ (.string (str b5))).setCell ⟨b, 6, none⟩ (.string (str b6))).setCell ⟨b, 7, none⟩ (.string (str b7))) b [b0, b1, b2, b3, b4, b5, b6, b7] :=
  (((((((h.set 0 b0).set 1 b1).set 2 b2).set 3 b3).set 4 b4).set 5 b5).set 6 b6).set 7 b7
theorem wb_grown (w : World) (b : Nat) (b0 b1 b2 b3 b4 b5 b6 b7 : List Nat) : w.grownBy ((((((((w.setCell ⟨b, 0, none⟩ (.string (str b0))).setCell ⟨b, 1, none⟩ (.string (str b1))).setCell ⟨b, 2, none⟩ (.string (str b2))).setCell ⟨b, 3, none⟩ (.string (str b3))).setCell ⟨b, 4, none⟩ (.string (str b4))).setCell ⟨b, 5, none⟩ (.string (str b5))).setCell ⟨b, 6, none⟩ (.string (str b6))).setCell ⟨b, 7, none⟩ (.string (str b7))) (some b) :=
  grown_trans (grown_trans (grown_trans (grown_trans (grown_trans (grown_trans (grown_trans (grown_set _ _ _ _) (grown_set _ _ _ _)) (grown_set _ _ _ _)) (grown_set _ _ _ _)) (grown_set _ _ _ _)) (grown_set _ _ _ _)) (grown_set _ _ _ _)) (grown_set _ _ _ _)
theorem with8 {A : Nat → Prop} {lv : Value} {ps : List (Int × List Nat)} (hl : Tx A w lv ps) (hp : ∀ q ∈ ps, 0 ≤ q.1 ∧ q.1 < 8) :
    Calls Try.prog 7 #[.agg #[.string (str a0), .string (str a1), .string (str a2), .string (str a3), .string (str a4), .string (str a5), .string (str a6), .string (str a7)], lv] w fun e w' => (∃ b0 b1 b2 b3 b4 b5 b6 b7, e = .returned (.agg #[.string (str b0), .string (str b1), .string (str b2), .string (str b3), .string (str b4), .string (str b5), .string (str b6), .string (str b7)]) ∧ withL [a0, a1, a2, a3, a4, a5, a6, a7] ps = [b0, b1, b2, b3, b4, b5, b6, b7]) ∧ Below w.heap.size w w' := by
  refine (with_walk (W := [a0, a1, a2, a3, a4, a5, a6, a7]) hl rfl hp).mono ?_
  rintro e w' ⟨rfl, hB⟩
  obtain ⟨b0, b1, b2, b3, b4, b5, b6, b7, h⟩ := eight (W := withL [a0, a1, a2, a3, a4, a5, a6, a7] ps) (by rw [with_len]; rfl)
  exact ⟨⟨b0, b1, b2, b3, b4, b5, b6, b7, by rw [h]; rfl, h⟩, hB⟩
theorem holds8 {A : Nat → Prop} {v dv : Value} {P : Bo} {S : Dk} (h : BP A w v dv P S) (hI : Iv P S [a0, a1, a2, a3, a4, a5, a6, a7]) (hb : ∀ b ∈ [a0, a1, a2, a3, a4, a5, a6, a7], ∀ c ∈ b, c < 256) (hrd : S.rd < 4611686018427387904) :
    Calls Try.prog 10 #[v, .agg #[.string (str a0), .string (str a1), .string (str a2), .string (str a3), .string (str a4), .string (str a5), .string (str a6), .string (str a7)]] w fun e w' => e = .returned (.bool true) ∧ ∃ S', BP A w' v dv P S' ∧ Sm S S' 8 ∧ Ch A w w' := holds_walk (W := [a0, a1, a2, a3, a4, a5, a6, a7]) h hI hb hrd
theorem wb_zero (w : World) : Wb8 (w.alloc (Obj.cells #[.string ⟨#[]⟩, .string ⟨#[]⟩, .string ⟨#[]⟩, .string ⟨#[]⟩, .string ⟨#[]⟩, .string ⟨#[]⟩, .string ⟨#[]⟩, .string ⟨#[]⟩] 29)) w.heap.size (List.replicate 8 []) := ⟨heap_alloc_new w _, rfl⟩
end



/-- Put while the power stays. -/
theorem put_free {P : Bo} {S : Dk} {W : List (List Nat)} {ps : List (Int × List Nat)} (h : Iv P S W) (hL : Lok 8 ps) (hg : P.gen < 1099511627776) (hl : S.left = -1) :
    ∃ P' S', putO P S ps = (0, P', S') ∧ Iv P' S' (withL W ps) ∧ P'.gen ≤ P.gen + 1 ∧ S'.wr = S.wr + cntN ps + (if ps = [] then 0 else 1) ∧ S'.rd = S.rd ∧ S'.left = -1 := by
  by_cases hp : ps = []
  · subst hp
    exact ⟨P, S, put_empty h.shut rfl, h, by omega, by rw [if_pos rfl]; rfl, rfl, hl⟩
  · rcases put_iv h hL hp hg with ⟨P', S', a, b, c, _, d, e, _, _, f⟩ | ⟨S', _, _, _, d, _⟩
    · exact ⟨P', S', a, b, by omega, by rw [if_neg hp]; exact d, e, f hl⟩
    · exact absurd hl d
theorem cnt_le {ps : List (Int × List Nat)} (h : Lok 8 ps) : cntN ps ≤ 8 := Nat.le_trans (List.length_filter_le _ _) (lok_len h)




/-- The book's memory, and the block of what is wanted. -/
def Aw (A : Nat → Prop) (wb : Nat) (x : Nat) : Prop := A x ∨ x = wb
theorem tx_of {A : Nat → Prop} {wb : Nat} {w : World} {v : Value} {ps : List (Int × List Nat)} (h : Tx (Aw A wb) w v ps) : Tx A w v ps := h.mono (fun _ hx => .inl hx)
theorem tx_put {A A' : Nat → Prop} {wb : Nat} {w w' : World} {v : Value} {ps : List (Int × List Nat)} (h : Tx (Aw A wb) w v ps) (hC : Ch A w w') (hx : ∀ x, A' x → A x ∨ w.heap.size ≤ x) : Tx (Aw A' wb) w' v ps :=
  h.ch ⟨hC.os, hC.tape, hC.output, hC.size, fun x hx hn => hC.block x hx (fun e => hn (.inl e))⟩ (fun x hx' => by
    rcases hx' with q | q
    · rcases hx x q with r | r
      · exact .inl (.inl r)
      · exact .inr r
    · exact .inl (.inr q))
theorem tx_store {A : Nat → Prop} {wb : Nat} {w : World} {v : Value} {ps : List (Int × List Nat)} (h : Tx (Aw A wb) w v ps) (b0 b1 b2 b3 b4 b5 b6 b7 : List Nat) : Tx (Aw A wb) ((((((((w.setCell ⟨wb, 0, none⟩ (.string (str b0))).setCell ⟨wb, 1, none⟩ (.string (str b1))).setCell ⟨wb, 2, none⟩ (.string (str b2))).setCell ⟨wb, 3, none⟩ (.string (str b3))).setCell ⟨wb, 4, none⟩ (.string (str b4))).setCell ⟨wb, 5, none⟩ (.string (str b5))).setCell ⟨wb, 6, none⟩ (.string (str b6))).setCell ⟨wb, 7, none⟩ (.string (str b7))) v ps :=
  h.ch (Ch.of_grown (wb_grown w wb b0 b1 b2 b3 b4 b5 b6 b7) (fun x hx => by cases hx; exact .inr rfl)) (fun _ hx => .inl hx)
/-- Between two Puts: the book is right and has the pages W; what is wanted, V, lies in block wb. -/
structure Ws (w wr : World) (bv dv : Value) (wb : Nat) (A : Nat → Prop) (P : Bo) (S : Dk) (W V : List (List Nat)) (k : Nat) : Prop where
  bk : BP A wr bv dv P S
  iv : Iv P S W
  by' : ∀ b ∈ W, ∀ c ∈ b, c < 256
  ah : ∀ x, A x → w.heap.size ≤ x
  wk : Wb8 wr wb V
  na : ¬ A wb
  hw : w.heap.size ≤ wb
  be : Below w.heap.size w wr
  gn : P.gen ≤ 1 + k
  wc : S.wr ≤ 2 + 9 * k
  rd : S.rd ≤ 64 * k
section

variable {w wr w' : World} {bv dv : Value} {wb k : Nat} {A : Nat → Prop} {P : Bo} {S : Dk} {W V : List (List Nat)}

theorem Ws.below (h : Ws w wr bv dv wb A P S W V k) (hb : Below wr.heap.size wr w') : Ws w w' bv dv wb A P S W V k := ⟨h.bk.below hb, h.iv, h.by', h.ah, h.wk.below hb, h.na, h.hw, below_trans h.be hb, h.gn, h.wc, h.rd⟩
theorem Ws.more (h : Ws w wr bv dv wb A P S W V k) {j : Nat} (hj : k ≤ j) : Ws w wr bv dv wb A P S W V j := ⟨h.bk, h.iv, h.by', h.ah, h.wk, h.na, h.hw, h.be, by have := h.gn; omega, by have := h.wc; omega, by have := h.rd; omega⟩
/-- A call of the book, or of its disk, behind it. -/
theorem Ws.turn {A' : Nat → Prop} {P' : Bo} {S' : Dk} {W' : List (List Nat)} {j : Nat} {bv' : Value} (h : Ws w wr bv dv wb A P S W V k) (hB : BP A' w' bv' dv P' S') (hx : ∀ x, A' x → A x ∨ wr.heap.size ≤ x) (hC : Ch A wr w') (hI : Iv P' S' W') (hby : ∀ b ∈ W', ∀ c ∈ b, c < 256) (hg : P'.gen ≤ 1 + j) (hw : S'.wr ≤ 2 + 9 * j) (hr : S'.rd ≤ 64 * j) : Ws w w' bv' dv wb A' P' S' W' V j :=
  ⟨hB, hI, hby, fun x hx' => by rcases hx x hx' with q | q; exact h.ah x q; exact Nat.le_trans h.be.size q, h.wk.keep (hC.block _ h.wk.lt h.na), fun e => by rcases hx _ e with q | q; exact h.na q; have := h.wk.lt; omega, h.hw, h.be.trans (hC.to_below h.be.size h.ah), hg, hw, hr⟩
theorem Ws.apart (h : Ws w wr bv dv wb A P S W V k) {lv : Value} {ps : List (Int × List Nat)} {w1 : World} (hT : Tx (fun x => w.heap.size ≤ x ∧ x < wr.heap.size) w1 lv ps) : Tx A w1 lv ps := hT.mono (fun x hx => ⟨h.ah x hx, h.bk.lt hx⟩)
theorem Ws.apartW (h : Ws w wr bv dv wb A P S W V k) {lv : Value} {ps : List (Int × List Nat)} {w1 : World} (hT : Tx (fun x => w.heap.size ≤ x ∧ x < wr.heap.size) w1 lv ps) : Tx (Aw A wb) w1 lv ps := hT.mono (fun x hx => by
  rcases hx with q | q
  · exact ⟨h.ah x q, h.bk.lt q⟩
  · subst q; exact ⟨h.hw, h.wk.lt⟩)
theorem Ws.store {a0 a1 a2 a3 a4 a5 a6 a7 b0 b1 b2 b3 b4 b5 b6 b7 : List Nat} (h : Ws w wr bv dv wb A P S W [a0, a1, a2, a3, a4, a5, a6, a7] k) : Ws w ((((((((wr.setCell ⟨wb, 0, none⟩ (.string (str b0))).setCell ⟨wb, 1, none⟩ (.string (str b1))).setCell ⟨wb, 2, none⟩ (.string (str b2))).setCell ⟨wb, 3, none⟩ (.string (str b3))).setCell ⟨wb, 4, none⟩ (.string (str b4))).setCell ⟨wb, 5, none⟩ (.string (str b5))).setCell ⟨wb, 6, none⟩ (.string (str b6))).setCell ⟨wb, 7, none⟩ (.string (str b7))) bv dv wb A P S W [b0, b1, b2, b3, b4, b5, b6, b7] k :=
  ⟨h.bk.ch (E := fun x => x = wb) (Ch.of_grown (wb_grown wr wb b0 b1 b2 b3 b4 b5 b6 b7) (fun x hx => by cases hx; rfl)) (fun x hx e => h.na (e ▸ hx)), h.iv, h.by', h.ah, wb_store h.wk, h.na, h.hw, h.be.grown (wb_grown wr wb b0 b1 b2 b3 b4 b5 b6 b7) h.be.size (fun x hx => by cases hx; exact h.hw), h.gn, h.wc, h.rd⟩
end

end Go.Proofs.Ytakijnclllmkfab


