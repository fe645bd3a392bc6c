/- PagesRefuses: lists with a bad write behind them: what Put says of them, and their rows. -/
import Derived.Test.YtfjgpkpkhccliaaQc
namespace Go.Proofs.Ytfjgpkpkhccliaa
open Go.RowKit

theorem fault_app {n : Nat} : ∀ (ps : List (Int × List Nat)) (pre : List Int) (r : List (Int × List Nat)), Lok n ps → (∀ p ∈ ps, p.1 ∉ pre) → faultF n pre (ps ++ r) = faultF n (pre ++ ps.map (·.1)) r := by
  intro ps
  induction ps with
  | nil => intro pre r _ _; simp
  | cons q l ih =>
    intro pre r hL hp
    obtain ⟨p, d⟩ := q
    have h1 := hL.pg (p, d) (by simp)
    have h2 := hL.ln (p, d) (by simp)
    have h3 := hL.nd
    rw [List.map_cons, List.nodup_cons] at h3
    have e : faultF n pre (((p, d) :: l) ++ r) = faultF n (pre ++ [p]) (l ++ r) := by
      show faultF n pre ((p, d) :: (l ++ r)) = _
      conv => lhs; unfold faultF
      rw [if_neg (by simp only at h1; omega), if_neg (hp (p, d) (by simp)), if_neg (by simp only at h2; omega)]
    rw [e, ih (pre ++ [p]) r ⟨fun q hq => hL.pg q (by simp [hq]), h3.2, fun q hq => hL.ln q (by simp [hq])⟩ (fun q hq hm => ?_)]
    · simp
    · rcases List.mem_append.1 hm with m | m
      · exact hp q (by simp [hq]) m
      · simp at m
        exact h3.1 (by rw [List.mem_map]; exact ⟨q, hq, m⟩)
theorem bad_page {ps : List (Int × List Nat)} (h : Lok 8 ps) {p : Int} (hp : p < 0 ∨ 8 ≤ p) (d : List Nat) : faultI 8 (ps ++ [(p, d)]) = 91 := by
  unfold faultI; rw [fault_app ps [] _ h (fun _ _ => by simp)]; unfold faultF; rw [if_pos (by omega)]
theorem bad_twice {ps : List (Int × List Nat)} (h : Lok 8 ps) {q : Int × List Nat} (hq : q ∈ ps) (d : List Nat) : faultI 8 (ps ++ [(q.1, d)]) = 93 := by
  have := h.pg q hq
  unfold faultI; rw [fault_app ps [] _ h (fun _ _ => by simp)]; unfold faultF; rw [if_neg (by omega), if_pos (by rw [List.nil_append, List.mem_map]; exact ⟨q, hq, rfl⟩)]
theorem bad_long {d : List Nat} (h : 1024 < d.length) : faultI 8 [(3, d)] = 6 := by
  unfold faultI; unfold faultF; rw [if_neg (by omega), if_neg (by simp), if_pos h]
theorem put_no {P : Bo} {S : Dk} {W : List (List Nat)} {rs : List (Int × List Nat)} {c : Int} (h : Iv P S W) (hf : faultI 8 rs = c) (hc : c ≠ 0) : putO P S rs = (c, P, S) := by
  have e : faultI P.tab.length rs = c := by rw [h.n8]; exact hf
  rw [put_fault h.shut (by rw [e]; exact hc), e]
theorem get_out {P : Bo} {S : Dk} {W : List (List Nat)} {p : Int} (h : Iv P S W) (hp : p < 0 ∨ 8 ≤ p) : getI P S p = 91 ∧ getS P S p = S ∧ getB P S = P := by
  have hs := h.shut
  have hh : hasB P.tab.length p = false := decide_eq_false (by rw [h.n8]; omega)
  refine ⟨?_, ?_, ?_⟩
  · unfold getI; rw [if_neg (by rw [hs]; simp), if_pos hh]
  · unfold getS; rw [if_neg (by rw [hs]; simp), if_pos hh]
  · unfold getB; rw [if_neg (by rw [hs]; simp)]

/-- What a list of writes has in its cells. -/
theorem tx_row {X : Nat → Prop} {w : World} {fo : Option Addr} {fc : Nat} {ps : List (Int × List Nat)} (h : Tx X w (.slice fo ps.length fc) ps) :
    ∃ qs : List Qw, lsQ qs = ps ∧ qs.length = ps.length ∧ (∀ q ∈ qs, Bx X w q.2.1 q.2.2 ∧ ∃ ao c, q.2.1 = .slice ao q.2.2.length c) ∧ ∀ ad, fo = some ad → ∀ j u, (flatQ qs)[j]? = some u → w.cell? (ad.add j) = some u := by
  obtain ⟨⟨ao, cap, e, h1, h2, h3, h4⟩, h5⟩ := h
  simp only [Value.slice.injEq] at e
  obtain ⟨rfl, _, rfl⟩ := e
  have each : ∀ i, ∃ u : Value, ∀ (hi : i < ps.length), ∃ b off, fo = some ⟨b, off, none⟩ ∧ w.cell? ⟨b, off + i * 2, none⟩ = some (.int .i64 ps[i].1) ∧ w.cell? ⟨b, off + i * 2 + 1, none⟩ = some u ∧ Bx X w u ps[i].2 := fun i => by
    by_cases hi : i < ps.length
    · obtain ⟨b, off, u, a1, _, a2, a3, a4⟩ := h4 i hi
      exact ⟨u, fun _ => ⟨b, off, a1, a2, a3, a4⟩⟩
    · exact ⟨.bool false, fun h => absurd h hi⟩
  obtain ⟨f, hf⟩ : ∃ f : Nat → Value, ∀ i (hi : i < ps.length), ∃ b off, fo = some ⟨b, off, none⟩ ∧ w.cell? ⟨b, off + i * 2, none⟩ = some (.int .i64 ps[i].1) ∧ w.cell? ⟨b, off + i * 2 + 1, none⟩ = some (f i) ∧ Bx X w (f i) ps[i].2 :=
    ⟨fun i => (each i).choose, fun i hi => (each i).choose_spec hi⟩
  clear each h4
  obtain ⟨qs, hqs⟩ : ∃ qs : List Qw, qs = ps.mapIdx (fun i q => (q.1, f i, q.2)) := ⟨_, rfl⟩
  have hl : qs.length = ps.length := by rw [hqs]; simp
  have hat : ∀ i (hi : i < qs.length), qs[i] = (ps[i].1, f i, ps[i].2) := fun i hi => by subst hqs; simp
  refine ⟨qs, ?_, hl, fun q hq => ?_, fun ad hd j u hu => ?_⟩
  · refine List.ext_getElem (by simp [lsQ, hl]) (fun i a1 a2 => ?_)
    simp only [lsQ, List.getElem_map]
    rw [hat i (by omega)]
  · obtain ⟨i, hi, rfl⟩ := List.getElem_of_mem hq
    obtain ⟨_, _, _, _, _, hb⟩ := hf i (by omega)
    rw [hat i hi]
    obtain ⟨a, c, e, _⟩ := bv_form hb.1
    exact ⟨hb, a, c, e⟩
  · have hj : j < qs.length * 2 := by
      have := (List.getElem?_eq_some_iff.1 hu).1
      rw [flat_len] at this; exact this
    have hi : j / 2 < qs.length := by omega
    obtain ⟨b, off, e1, e2, e3, _⟩ := hf (j / 2) (by omega)
    rw [hd] at e1
    cases e1
    rw [WideShapes.add_plain]
    obtain ⟨f0, f1⟩ := flat_at qs (j / 2) hi
    rcases Nat.mod_two_eq_zero_or_one j with q | q
    · have ej : j / 2 * 2 = j := by omega
      rw [ej] at e2 f0
      rw [f0] at hu
      cases hu
      rw [hat _ hi]; exact e2
    · have ej : j / 2 * 2 + 1 = j := by omega
      rw [ej] at f1
      rw [Nat.add_assoc, ej] at e3
      rw [f1] at hu
      cases hu
      rw [hat _ hi]; exact e3
theorem flat_one {qs : List Qw} (h : ∀ q ∈ qs, ∃ ao c, q.2.1 = .slice ao q.2.2.length c) : ∀ u ∈ flatQ qs, u.oneCell' = true := fun u hu => by
  unfold flatQ at hu
  obtain ⟨q, hq, hu⟩ := List.mem_flatMap.1 hu
  obtain ⟨ao, c, e⟩ := h q hq
  simp at hu
  rcases hu with rfl | rfl
  · rfl
  · rw [e]; rfl

/-- APPEND of a whole list of writes onto an empty row of the call's own. -/
theorem wpList_append_pws {P : Program} {w : World} {ops : Array Oper} {rest : List Oper} {o : Oper} {a : Act} {Q : Exit → Act → World → Prop} (hgd : o.guard = none) (s x : Operand) (t : TypeId)
    (ho : o.op = .call { callee := .builtin .append, args := #[s, x], argTypes := #[t, t] })
    (base : Nat) (ht : P.underlying t = some (.slice 56)) (hinf : (P.info? 56).map (fun i => (i.zero, i.size, i.bytes)) = some (some (.agg #[.int .i64 0, .slice none 0 0]), 2, 32))
    (v : Value) (hs : a.eval s = v) (hown : w.ownsRow base 56 2 v 0 [])
    {X : Nat → Prop} {w0 : World} (hw0 : Below w0.heap.size w0 w) (fo : Option Addr) (fc : Nat) (ps : List (Int × List Nat)) (hx : a.eval x = .slice fo ps.length fc) (hT : Tx X w0 (.slice fo ps.length fc) ps) (h8 : ps.length ≤ 8) (hbase : base ≤ w.heap.size)
    (h : ∀ v' w' qs, lsQ qs = ps → (∀ q ∈ qs, Bx X w0 q.2.1 q.2.2 ∧ ∃ ao c, q.2.1 = .slice ao q.2.2.length c) → w'.ownsRow base 56 2 v' qs.length (flatQ qs) → w.grownBy w' v.ownBlock → wpList P ops Q rest (a.put o.dst v') w') : wpList P ops Q (o :: rest) a w := by
  obtain ⟨i0, hi, hz0, hz1, hz2⟩ := info_partsV hinf
  obtain ⟨qs, h1, h2, h3, h4⟩ := tx_row hT
  cases hfo : fo with
  | none =>
    have hc : fc = 0 ∧ ps.length = 0 := by
      obtain ⟨⟨ao, cap, e, q1, _, q2, _⟩, _⟩ := hT
      simp only [Value.slice.injEq] at e
      obtain ⟨rfl, _, rfl⟩ := e
      have := q2 hfo
      omega
    rw [hfo, hc.1, hc.2] at hx
    refine wpList_append_own_none hgd s x t ho base 56 i0 2 ht hi v 0 [] hs hown hx ?_
    have hq0 : qs = [] := List.eq_nil_of_length_eq_zero (by omega)
    exact h v w qs h1 h3 (by rw [hq0]; exact hown) ⟨rfl, rfl, rfl, Nat.le_refl _, fun _ _ _ => rfl⟩
  | some ad =>
    rw [hfo] at hx
    refine wpList_append_own w hgd s x t ho base 56 i0 (.agg #[.int .i64 0, .slice none 0 0]) 2 32 ht hi hz0 hz1 hz2 rfl (by decide) v 0 [] hs hown ad ps.length fc (flatQ qs) hx (by rw [flat_len, h2]) (fun j u hj => by have := h4 ad hfo j u hj; rw [hw0.cell (cell_lt this)]; exact this) (flat_one (fun q hq => (h3 q hq).2)) (by simp only [maxLen]; omega) (by omega) hbase (fun v' w' g1 g2 _ => ?_)
    exact h v' w' qs h1 h3 (by rw [h2]; simpa using g1) g2
/-- The list with the bad write behind it, as Put gets it. -/
theorem row_tx {A X : Nat → Prop} {base gb : Nat} {w w' : World} {v : Value} {qs : List Qw} {p : Int} {u : Value} {d : List Nat} (hC : Ch (fun x => x = gb) w w') (hA : ∀ x, A x → x < base ∧ X x) (hX : X gb)
    (hown : w'.ownsRow base 56 2 v (qs.length + 1) (flatQ qs ++ [.int .i64 p, u])) (hq : ∀ q ∈ qs, Bx X w q.2.1 q.2.2) (hqr : ∀ q ∈ qs, -9223372036854775808 ≤ q.1 ∧ q.1 < 9223372036854775808)
    (hu : Bx A w' u d) (hp : -9223372036854775808 ≤ p ∧ p < 9223372036854775808) : Tx A w' v (lsQ qs ++ [(p, d)]) := by
  obtain ⟨qs', hqs'⟩ : ∃ qs' : List Qw, qs' = qs ++ [(p, u, d)] := ⟨_, rfl⟩
  have e1 : lsQ qs ++ [(p, d)] = lsQ qs' := by rw [hqs']; unfold lsQ; rw [List.map_append]; rfl
  have e2 : flatQ qs ++ [.int .i64 p, u] = flatQ qs' := by rw [hqs', flat_snoc]
  have e3 : qs.length + 1 = qs'.length := by rw [hqs']; simp
  have hB : ∀ q ∈ qs', Bx A w' q.2.1 q.2.2 := fun q hm => by
    rw [hqs'] at hm
    rcases List.mem_append.1 hm with m | m
    · exact ((hq q m).ch ⟨hC.os, hC.tape, hC.output, hC.size, fun x hx hn => hC.block x hx (fun e => hn (e ▸ hX))⟩ (D' := A) (fun x hx => .inl (hA x hx).2))
    · simp at m; subst m; exact hu
  have hR : ∀ q ∈ qs', -9223372036854775808 ≤ q.1 ∧ q.1 < 9223372036854775808 := fun q hm => by
    rw [hqs'] at hm
    rcases List.mem_append.1 hm with m | m
    · exact hqr q m
    · simp at m; subst m; exact hp
  rw [e2, e3] at hown
  rw [e1]
  have hl : (lsQ qs').length = qs'.length := by simp [lsQ]
  obtain ⟨h1, h2⟩ := hown
  refine ⟨?_, fun p hp => by obtain ⟨q, hq, rfl⟩ := List.mem_map.1 hp; exact hR q hq⟩
  rcases h2 with ⟨rfl, h0⟩ | ⟨g, cap, cur, rfl, hb2, hg, hnc, hcm, hcs, htake⟩
  · omega
  · refine ⟨_, cap, by rw [hl], by rw [hl]; exact hnc, hcm, by simp, fun i hi => ?_⟩
    rw [hl] at hi
    have hq : (lsQ qs')[i]'(by rw [hl]; exact hi) = (qs'[i].1, qs'[i].2.2) := by simp [lsQ]
    obtain ⟨f0, f1⟩ := flat_at qs' i hi
    have hc : ∀ j u, j < qs'.length * 2 → (flatQ qs')[j]? = some u → w'.cell? ⟨g, 0 + j, none⟩ = some u := fun j u hj hu => by
      rw [Nat.zero_add, cell_of_row w' g j cur _ (0, 0) hg, ← Array.getElem?_toList]
      have hh : (cur.toList.take (qs'.length * 2))[j]? = (flatQ qs')[j]? := by rw [htake]
      rw [List.getElem?_take, if_pos hj] at hh
      rw [hh]; exact hu
    refine ⟨g, 0, qs'[i].2.1, rfl, fun e => by have := (hA g e).1; omega, ?_, ?_, ?_⟩
    · rw [hq]; exact hc (i * 2) _ (by omega) f0
    · exact hc (i * 2 + 1) _ (by omega) f1
    · rw [hq]; exact hB qs'[i] (List.getElem_mem hi)
/-- A row cut down to nothing. -/
theorem own_cut {w : World} {base e s n cap : Nat} {ao : Option Addr} {xs : List Value} (h : w.ownsRow base e s (.slice ao n cap) n xs) : w.ownsRow base e s (.slice ao 0 cap) 0 [] := by
  obtain ⟨h1, h2⟩ := h
  refine ⟨by simp, ?_⟩
  rcases h2 with ⟨h3, _⟩ | ⟨g, cap', cur, h3, hb, hg, hnc, hcm, hcs, _⟩
  · simp only [Value.slice.injEq] at h3
    obtain ⟨rfl, _, rfl⟩ := h3
    exact .inl ⟨rfl, rfl⟩
  · simp only [Value.slice.injEq] at h3
    obtain ⟨rfl, _, rfl⟩ := h3
    exact .inr ⟨g, cap, cur, rfl, hb, hg, Nat.zero_le _, hcm, hcs, by simp⟩
/-- The bad write's block. -/
def Bd (w : World) (gb : Nat) (p : Int) (u : Value) : Prop := w.heap[gb]? = some (.cells #[.int .i64 p, u] 56 (0, 0))
section
variable {w w' : World} {gb : Nat} {p : Int} {u : Value}
theorem Bd.lt (h : Bd w gb p u) : gb < w.heap.size := (Array.getElem?_eq_some_iff.1 h).1
theorem Bd.keep (h : Bd w gb p u) (hk : w'.heap[gb]? = w.heap[gb]?) : Bd w' gb p u := by unfold Bd; rw [hk]; exact h
theorem Bd.below (h : Bd w gb p u) (hb : Below w.heap.size w w') : Bd w' gb p u := h.keep (hb.block _ h.lt)
theorem Bd.c0 (h : Bd w gb p u) : w.cell? ⟨gb, 0, none⟩ = some (.int .i64 p) := by rw [cell_of_row w gb 0 _ _ (0, 0) h]; rfl
theorem Bd.c1 (h : Bd w gb p u) : w.cell? ⟨gb, 1, none⟩ = some u := by rw [cell_of_row w gb 1 _ _ (0, 0) h]; rfl
theorem Bd.soft (h : Bd w gb p u) (i : Nat) : w.frozen? ⟨gb, i, none⟩ = false := by unfold Bd at h; simp [World.frozen?, h]
theorem Bd.page (h : Bd w gb p u) (y : Int) : Bd (w.setCell ⟨gb, 0, none⟩ (.int .i64 y)) gb y u := by unfold Bd; rw [set_row h]; rfl
theorem Bd.data (h : Bd w gb p u) (y : Value) : Bd (w.setCell ⟨gb, 1, none⟩ y) gb p y := by unfold Bd; rw [set_row h]; rfl
end
end Go.Proofs.Ytfjgpkpkhccliaa
