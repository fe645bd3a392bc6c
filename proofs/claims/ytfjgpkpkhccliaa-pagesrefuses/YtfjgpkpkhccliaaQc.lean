/- Images beside the book: what Put leaves of the disk, rows of blocks laid anew. -/
import Derived.Test.YtfjgpkpkhccliaaQb
namespace Go.Proofs.Ytfjgpkpkhccliaa
open Go.RowKit

/-- Put while the power stays, and what it leaves. -/
theorem put_free2 {P : Bo} {S : Dk} {W : List (List Nat)} {ps : List (Int × List Nat)} (h : Iv P S W) (hL : Lok 8 ps) (hg : P.gen < 1099511627776) (hl : S.left = -1) :
    ∃ P' S', putO P S ps = (0, P', S') ∧ Iv P' S' (withL W ps) ∧ P'.gen ≤ P.gen + 1 ∧ S'.wr = S.wr + cntN ps + (if ps = [] then 0 else 1) ∧ S'.rd = S.rd ∧ S'.left = -1 ∧ (∀ x, (x ∈ P.tab ∧ x ≠ 0) ∨ x = P.home → bk S'.bl x = bk S.bl x) ∧ S'.bl.length = S.bl.length := by
  by_cases hp : ps = []
  · subst hp
    exact ⟨P, S, put_empty h.shut rfl, h, by omega, by rw [if_pos rfl]; rfl, rfl, hl, fun _ _ => rfl, rfl⟩
  · rcases put_iv h hL hp hg with ⟨P', S', a, b, c, _, d, e, k1, k2, f⟩ | ⟨S', _, _, _, d, _⟩
    · exact ⟨P', S', a, b, by omega, by rw [if_neg hp]; exact d, e, f hl, k1, k2⟩
    · exact absurd hl d
/-- With one of the roots' blocks as it was, the disk has a right book; where that block has changed, it is the book of before. -/
theorem shadow_iv {P P' : Bo} {S S' : Dk} {W W' : List (List Nat)} {j : Nat} (h : Iv P S W) (h' : Iv P' S' W') (hk : ∀ x, (x ∈ P.tab ∧ x ≠ 0) ∨ x = P.home → bk S'.bl x = bk S.bl x) (hl : S'.bl.length = S.bl.length) (hj : j < 2) :
    ∃ Pk Wk, Iv Pk (loadS (S'.bl.set j (bk S.bl j))) Wk ∧ (bk S'.bl j ≠ bk S.bl j → Pk = P ∧ Wk = W) := by
  have h18 := h.two
  by_cases hh : j = P.home
  · have e : bk S'.bl j = bk S.bl j := hk j (.inr hh)
    refine ⟨P', W', h'.turn rfl (by show (S'.bl.set j _).length = _; rw [List.length_set]) (fun x hx => ?_), fun ne => absurd e ne⟩
    have hx2 : x < S'.bl.length := by
      rcases hx with q | q
      · exact tok_lt h'.ok.tok x q
      · omega
    show bk (S'.bl.set j _) x = _
    rw [bk_set hx2]
    split
    · next e2 => rw [← e2, ← e]
    · rfl
  · refine ⟨P, W, h.turn rfl (by show (S'.bl.set j _).length = _; rw [List.length_set, hl]) (fun x hx => ?_), fun _ => ⟨rfl, rfl⟩⟩
    have hx2 : x < S'.bl.length := by
      rcases hx with q | q
      · rw [hl]; exact tok_lt h.ok.tok x q
      · omega
    show bk (S'.bl.set j _) x = _
    rw [bk_set hx2]
    split
    · next e2 => rw [e2]
    · next e2 =>
      have hm : x < 2 → x = P.home := fun q => by have := h.ok.h2; omega
      rcases hx with q | q
      · by_cases h0 : x = 0
        · exact hk x (.inr (hm (by omega)))
        · exact hk x (.inl ⟨q, h0⟩)
      · exact hk x (.inr (hm q))
theorem used_8 {t : List Nat} (h : t.length = 8) : usedN t ≤ 8 := by rw [← h]; exact List.length_filter_le _ _

/-- APPEND of a whole row of blocks onto an empty row of the call's own. -/
theorem wpList_append_rows {P : Program} {w : World} {ops : Array Oper} {rest : List Oper} {o : Oper} {a : Act} {Q : Exit → Act → World → Prop} (hgd : o.guard = none) (s x : Operand) (t : TypeId)
    (ho : o.op = .call { callee := .builtin .append, args := #[s, x], argTypes := #[t, t] })
    (base : Nat) (ht : P.underlying t = some (.slice 43)) (hinf : (P.info? 43).map (fun i => (i.zero, i.size, i.bytes)) = some (some (.slice none 0 0), 1, 24))
    (v : Value) (hs : a.eval s = v) (hown : w.ownsRow base 43 1 v 0 [])
    {E : Nat → Prop} (g cap : Nat) (ls : List (List Nat)) (hx : a.eval x = .slice (some ⟨g, 0, none⟩) ls.length cap) (hG : Gr E w g cap ls) (h1 : 1 ≤ ls.length) (h64 : ls.length ≤ 64) (hbase : base ≤ w.heap.size)
    (h : ∀ g' cap' w', base ≤ g' → Gr (fun _ => True) w' g' cap' ls → w.grownBy w' v.ownBlock → wpList P ops Q rest (a.put o.dst (.slice (some ⟨g', 0, none⟩) ls.length cap')) w') : wpList P ops Q (o :: rest) a w := by
  obtain ⟨i0, hi, hz0, hz1, hz2⟩ := info_partsV hinf
  obtain ⟨⟨cur, hc1, hc2, hc3⟩, hc4, hc5⟩ := hG
  have hus : ∀ i u, (cur.toList.take ls.length)[i]? = some u → w.cell? ⟨g, i, none⟩ = some u ∧ Oc w u (bk ls i) := fun i u hu => by
    have hil : i < ls.length := by
      have := (List.getElem?_eq_some_iff.1 hu).1
      rw [List.length_take] at this; omega
    obtain ⟨u', e1, e2, _⟩ := hc3 i hil
    rw [List.getElem?_take, if_pos hil, Array.getElem?_toList, e1] at hu
    cases hu
    exact ⟨by rw [cell_of_row w g i _ _ (0, 0) hc1]; exact e1, e2⟩
  have hlen : (cur.toList.take ls.length).length = ls.length := by rw [List.length_take]; have : cur.toList.length = cur.size := Array.length_toList; omega
  refine wpList_append_own w hgd s x t ho base 43 i0 (.slice none 0 0) 1 24 ht hi hz0 hz1 hz2 rfl (by decide) v 0 [] hs hown ⟨g, 0, none⟩ ls.length cap (cur.toList.take ls.length) hx (by rw [hlen]; simp) ?_ ?_ (by simp only [maxLen]; omega) (by omega) hbase (fun v' w' h1' h2' _ => ?_)
  · intro j y hj
    have := (hus j y hj).1
    simpa [WideShapes.add_plain] using this
  · intro y hy
    obtain ⟨i, hi', rfl⟩ := List.getElem_of_mem hy
    obtain ⟨_, _, hform, _⟩ := row_form (hus i _ (List.getElem?_eq_getElem hi')).2
    rw [hform]; rfl
  · have hR : Rr 0 w' v' ls := by
      refine ⟨cur.toList.take ls.length, ?_, fun i u hu => ⟨?_, fun x _ => Nat.zero_le _⟩⟩
      · have := row_base (b' := 0) h1' (fun x _ => Nat.zero_le _)
        simpa using this
      · have hoc := (hus i u hu).2
        refine hoc.keep (fun x hx => h2'.block x ?_ (fun e => ?_))
        · obtain ⟨cur2, hb2⟩ := hoc.block hx
          exact (Array.getElem?_eq_some_iff.1 hb2).1
        · have hr0 : Rr base w v [] := ⟨[], hown, fun i u h => by simp at h⟩
          exact hr0.apart hoc hx e.symm
    obtain ⟨g', cap', rfl, _, hG'⟩ := hR.gr h1
    refine h g' cap' w' ?_ (hG'.mono (fun _ _ => trivial)) h2'
    exact (h1'.lt g' rfl).1
end Go.Proofs.Ytfjgpkpkhccliaa
