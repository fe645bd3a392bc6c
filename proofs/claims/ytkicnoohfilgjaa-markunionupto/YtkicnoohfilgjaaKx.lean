/- Rows of numbers of the call's own that are written over and grown; pieces of a list of keys; what stays beside them. -/
import Derived.Test.YtkicnoohfilgjaaKm

import Derived.Test.YtkicnoohfilgjaaKq

import Derived.SizedLaws

namespace Go.Proofs.Ytkicnoohfilgjaa

open Go.RowKit



theorem own_form8 {w : World} {base e : Nat} {v : Value} {n : Nat} {xs : List Value} (h : w.ownsRow base e 1 v n xs) : ∃ a c, v = .slice a n c := by
  rcases h.2 with ⟨rfl, h0⟩ | ⟨g, cap, cur, rfl, _⟩
  · exact ⟨none, 0, by rw [h0]⟩
  · exact ⟨_, _, rfl⟩
theorem encM_no {m : Mk} (h : (encM m).2 ≠ 0) : encM m = ([], 1) ∧ soundB m = false := by
  cases hs : soundB m
  · exact ⟨by simp [encM, hs], rfl⟩
  · simp [encM, hs] at h
theorem encM_yes {m : Mk} (h : (encM m).2 = 0) : encM m = (bytesM m, 0) ∧ soundB m = true := by
  cases hs : soundB m
  · simp [encM, hs] at h
  · exact ⟨by simp [encM, hs], rfl⟩
theorem encM_lt {m : Mk} (hk : keysOk m.k) : ∀ x ∈ (encM m).1, x < 256 := by
  unfold encM
  cases h : soundB m
  · simp
  · rw [if_pos rfl]; exact bytesM_lt h hk
/-- A row of n numbers of the call's own, whatever they are. -/
def Ro (e : TypeId) (k : IntKind) (w : World) (v : Value) (n : Nat) : Prop := ∃ l : List Int, w.ownsRow 0 e 1 v n (l.map (Value.int k))
section

variable {e : TypeId} {k : IntKind} {w w' : World} {v v' : Value} {n g i : Nat}

theorem ro_own {base : Nat} {l : List Int} (h : w.ownsRow base e 1 v n (l.map (Value.int k))) : Ro e k w v n := ⟨l, own_baseC h (Nat.zero_le _)⟩
theorem Ro.ch {D : Nat → Prop} (h : Ro e k w v n) (hc : Ch D w w') (hd : ∀ x, v.ownBlock = some x → ¬ D x) : Ro e k w' v n := by
  obtain ⟨l, h⟩ := h
  refine ⟨l, h.1, ?_⟩
  rcases h.2 with h' | ⟨g, cap, cur, hv, hg, hh, r⟩
  · exact .inl h'
  · exact .inr ⟨g, cap, cur, hv, hg, by rw [hc.block g ((Array.getElem?_eq_some_iff.1 hh).1) (hd g (by rw [hv]; rfl))]; exact hh, r⟩
theorem Ro.some (h : Ro e k w v n) (hn : 0 < n) : ∃ g cap, v = .slice (Option.some ⟨g, 0, none⟩) n cap ∧ n ≤ cap ∧ cap ≤ maxLen := by
  obtain ⟨l, h⟩ := h
  rcases h.2 with ⟨rfl, h0⟩ | ⟨g', cap, cur, rfl, _, hg, hnc, hcm, _⟩
  · omega
  · exact ⟨g', cap, rfl, hnc, hcm⟩
theorem Ro.form (h : Ro e k w v n) : ∃ a cap, v = .slice a n cap := by
  obtain ⟨l, h⟩ := h
  exact own_form8 h
theorem Ro.at {cap : Nat} (h : Ro e k w (.slice (Option.some ⟨g, 0, none⟩) n cap) n) (hi : i < n) : (∃ x, w.cell? ⟨g, i, none⟩ = Option.some (.int k x)) ∧ w.frozen? ⟨g, i, none⟩ = false := by
  obtain ⟨l, h1, h2⟩ := h
  rcases h2 with ⟨h, _⟩ | ⟨g', cap', cur, e1, hb, hg, hnc, hcm, hcs, htake⟩
  · cases h
  · simp only [Value.slice.injEq, Option.some.injEq, Addr.mk.injEq] at e1
    obtain ⟨⟨rfl, _⟩, _, rfl⟩ := e1
    have hl : l.length = n := by simpa using h1
    refine ⟨⟨l[i], ?_⟩, by simp [World.frozen?, hg]⟩
    rw [cell_of_row w g i cur _ (0, 0) hg]
    have e := congrArg (fun l => l[i]?) htake
    simp only [List.getElem?_take, Nat.mul_one, if_pos hi, List.getElem?_map, List.getElem?_eq_getElem (show i < l.length by omega)] at e
    rw [← Array.getElem?_toList, e]; rfl
theorem Ro.set {cap : Nat} (h : Ro e k w (.slice (Option.some ⟨g, 0, none⟩) n cap) n) (i : Nat) (y : Int) : Ro e k (w.setCell ⟨g, i, none⟩ (.int k y)) (.slice (Option.some ⟨g, 0, none⟩) n cap) n := by
  obtain ⟨l, h1, h2⟩ := h
  rcases h2 with ⟨h, _⟩ | ⟨g', cap', cur, e1, hb, hg, hnc, hcm, hcs, htake⟩
  · cases h
  · simp only [Value.slice.injEq, Option.some.injEq, Addr.mk.injEq] at e1
    obtain ⟨⟨rfl, _⟩, _, rfl⟩ := e1
    have hl : l.length = n := by simpa using h1
    refine ⟨l.set i y, by simpa using hl, .inr ⟨g, cap, cur.setIfInBounds i (.int k y), rfl, hb, ?_, hnc, hcm, by simpa using hcs, ?_⟩⟩
    · rw [Sort.setCell_eq]
      simp [Sort.mapBlock, Array.getElem?_modify, hg, Sort.onCells]
    rw [Nat.mul_one] at htake ⊢
    rw [Array.toList_setIfInBounds, List.take_set, htake, List.map_set]
end

theorem Kv.ch {D : Nat → Prop} {w w' : World} {v : Value} {l : List Nat} (h : Kv w v l) (hc : Ch D w w') (hd : ∀ x, v.ownBlock = some x → ¬ D x) : Kv w' v l := by
  obtain ⟨ao, cap, e, h1, h2, h3, h4⟩ := h
  refine ⟨ao, cap, e, h1, h2, h3, fun i hi => ?_⟩
  obtain ⟨b, off, e1, e2⟩ := h4 i hi
  exact ⟨b, off, e1, hc.cell e2 (hd b (by rw [e, e1]; rfl))⟩
theorem Bv.chO {D : Nat → Prop} {w w' : World} {v : Value} {l : List Nat} (h : Bv w v l) (hc : Ch D w w') (hd : ∀ x, v.ownBlock = some x → ¬ D x) : Bv w' v l := by
  obtain ⟨⟨ao, cap, e, h1, h2, h3, h4⟩, h5⟩ := h
  refine ⟨⟨ao, cap, e, h1, h2, h3, fun i hi => ?_⟩, h5⟩
  obtain ⟨b, off, e1, e2⟩ := h4 i hi
  exact ⟨b, off, e1, hc.cell e2 (hd b (by rw [e, e1]; rfl))⟩
/-- A piece of a list of keys. -/
theorem kv_sub {w : World} {g o N cap : Nat} {L : List Nat} (h : Kv w (.slice (some ⟨g, o, none⟩) N cap) L) (i m c : Nat) (hi : i + m ≤ L.length) (hm : m ≤ c) (hc : c ≤ maxLen) : Kv w (.slice (some ⟨g, o + i, none⟩) m c) ((L.drop i).take m) := by
  obtain ⟨ao, cap', e, h1, h2, h3, h4⟩ := h
  have hlen : ((L.drop i).take m).length = m := by simp; omega
  refine ⟨some ⟨g, o + i, none⟩, c, by rw [ib_len, hlen], by rw [ib_len, hlen]; exact hm, hc, by simp, fun j hj => ?_⟩
  rw [ib_len, hlen] at hj
  obtain ⟨b, off, e1, e2⟩ := h4 (i + j) (by rw [ib_len]; omega)
  simp only [Value.slice.injEq] at e
  rw [← e.1] at e1
  simp only [Option.some.injEq, Addr.mk.injEq] at e1
  obtain ⟨rfl, rfl, _⟩ := e1
  refine ⟨g, o + i, rfl, ?_⟩
  rw [show o + i + j = o + (i + j) by omega, e2]
  have a1 : i + j < L.length := by omega
  simp [ib, List.getD, a1, hj]
theorem size_setM {H : Type} {d d0 d1 d2 : DataW H} {ts : List TypeId} {ds : List (DataW H)} {l : List Nat} (h : (DataW.weightsEach Try.prog (26 :: ts) (d :: ds)).all (· ≤ reachBytes) = true) (hd : d = .agg [d0, d1, d2]) (h2 : (d2 = .nil ∧ l = []) ∨ ∃ elems spare, d2 = .slice elems spare ∧ elems.length = l.length) :
    l.length * 8 ≤ 140737488351232 := by
  subst hd
  rcases h2 with ⟨_, rfl⟩ | ⟨el, sp, rfl, he⟩
  · simp
  · have hm : (el.length + sp.length) * Try.prog.bytesOf 32 ∈ DataW.weightsEach Try.prog (26 :: ts) (DataW.agg [d0, d1, .slice el sp] :: ds) := by
      simp [DataW.weightsEach, DataW.weights, Try.underlying26, Try.underlying24]
    have hs := of_decide_eq_true (List.all_eq_true.1 h _ hm)
    rw [show Try.prog.bytesOf 32 = 8 by kernel_rfl] at hs
    simp only [reachBytes] at hs
    omega
end Go.Proofs.Ytkicnoohfilgjaa


