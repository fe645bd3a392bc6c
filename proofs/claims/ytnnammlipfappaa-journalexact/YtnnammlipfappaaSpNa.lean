/- Slices of ints as lists; rows of ints that a call itself makes, and that are written into; slices.Clone. -/
import Derived.Test.YtnnammlipfappaaDi

namespace Go.Proofs.Ytnnammlipfappaa

open Ieee Go.RowKit



def nth (l : List Int) (i : Nat) : Int := l.getD i 0
theorem nth_at {l : List Int} {i : Nat} (h : i < l.length) : nth l i = l[i] := by unfold nth; rw [List.getD_eq_getElem?_getD, List.getElem?_eq_getElem h]; rfl
theorem nth_mem {l : List Int} {i : Nat} (h : i < l.length) : nth l i ∈ l := by rw [nth_at h]; exact List.getElem_mem h
theorem nth_ext {a b : List Int} (h : a.length = b.length) (hn : ∀ i, i < a.length → nth a i = nth b i) : a = b := by
  refine List.ext_getElem h fun i h1 h2 => ?_
  have := hn i h1
  rwa [nth_at h1, nth_at h2] at this
def In64 (l : List Int) : Prop := ∀ x ∈ l, -9223372036854775808 ≤ x ∧ x < 9223372036854775808
theorem In64.at {l : List Int} (h : In64 l) {i : Nat} (hi : i < l.length) : -9223372036854775808 ≤ nth l i ∧ nth l i < 9223372036854775808 := h _ (nth_mem hi)


/-- The cells behind ao hold the numbers l. -/
def Nl (w : World) (ao : Option Addr) (l : List Int) : Prop := ∀ i, i < l.length → ∃ b off, ao = some ⟨b, off, none⟩ ∧ w.cell? ⟨b, off + i, none⟩ = some (.int .i64 (nth l i))
/-- The value v is a slice of ints that holds l. -/
def Nv (w : World) (v : Value) (l : List Int) : Prop := (∃ ao cap, v = .slice ao l.length cap ∧ l.length ≤ cap ∧ cap ≤ maxLen ∧ (ao = none → cap = 0) ∧ Nl w ao l) ∧ In64 l


theorem Nl.below {w w' : World} {ao : Option Addr} {l : List Int} (h : Nl w ao l) (hb : Below w.heap.size w w') : Nl w' ao l := by
  intro i hi
  obtain ⟨b, off, e, c⟩ := h i hi
  exact ⟨b, off, e, by rw [hb.cell (p := ⟨b, off + i, none⟩) (cell_lt c)]; exact c⟩
theorem Nv.below {w w' : World} {v : Value} {l : List Int} (h : Nv w v l) (hb : Below w.heap.size w w') : Nv w' v l := by
  obtain ⟨⟨ao, cap, e, h1, h2, h3, h4⟩, h5⟩ := h
  exact ⟨⟨ao, cap, e, h1, h2, h3, h4.below hb⟩, h5⟩
/-- What lies below B stays. -/
theorem Nl.keep {w w' : World} {ao : Option Addr} {l : List Int} (h : Nl w ao l) (hk : ∀ a, ao = some a → w'.heap[a.block]? = w.heap[a.block]?) : Nl w' ao l := by
  intro i hi
  obtain ⟨b, off, e, c⟩ := h i hi
  have hb : w'.heap[b]? = w.heap[b]? := hk _ e
  exact ⟨b, off, e, by rw [World.cell?_of_block (w := w) (a := ⟨b, off + i, none⟩) hb]; exact c⟩
theorem Nv.nil (w : World) : Nv w (.slice none 0 0) [] := ⟨⟨none, 0, rfl, Nat.le_refl _, by simp [maxLen], fun _ => rfl, fun i hi => by simp at hi⟩, fun x hx => by simp at hx⟩
theorem Nv.len_le {w : World} {v : Value} {l : List Int} (h : Nv w v l) : l.length ≤ maxLen := by
  obtain ⟨⟨ao, cap, e, h1, h2, h3, h4⟩, h5⟩ := h; omega


abbrev cellsN (l : List Int) : List Value := l.map (Value.int .i64)
theorem own_nl {w : World} {base e n : Nat} {v : Value} {l : List Int} (h : w.ownsRow base e 1 v n (cellsN l)) : n = l.length ∧ ∃ ao cap, v = .slice ao l.length cap ∧ l.length ≤ cap ∧ cap ≤ maxLen ∧ (ao = none → cap = 0) ∧ Nl w ao l := by
  obtain ⟨h1, h2⟩ := h
  have hn : l.length = n := by simpa using h1
  subst hn
  refine ⟨rfl, ?_⟩
  rcases h2 with ⟨rfl, h0⟩ | ⟨g, cap, cur, rfl, hb, hg, hnc, hcm, hcs, htake⟩
  · have : l = [] := List.eq_nil_of_length_eq_zero h0
    subst this
    exact ⟨none, 0, rfl, Nat.le_refl _, by simp [maxLen], fun _ => rfl, fun i hi => by simp at hi⟩
  · refine ⟨_, cap, rfl, hnc, hcm, by simp, fun i hi => ⟨g, 0, rfl, ?_⟩⟩
    rw [Nat.zero_add, cell_of_row w g i cur e (0, 0) hg]
    have hh : (cur.toList.take (l.length * 1))[i]? = (l.map (Value.int .i64))[i]? := by rw [htake]
    rw [List.getElem?_take, if_pos (by omega)] at hh
    rw [← Array.getElem?_toList, hh, nth_at hi]
    simp [List.getElem?_eq_getElem hi]
theorem own_nv {w : World} {base e n : Nat} {v : Value} {l : List Int} (h : w.ownsRow base e 1 v n (cellsN l)) (hl : In64 l) : Nv w v l := ⟨(own_nl h).2, hl⟩


theorem info_int : (Try.prog.info? 3).map (fun i => (i.zero, i.size, i.bytes)) = some (some (.int .i64 0), 1, 8) := by kernel_rfl


theorem wpList_append_nv {P : Program} {w : World} {ops : Array Oper} {rest : List Oper} {o : Oper} {a : Act} {Q : Exit → Act → World → Prop} (hgd : o.guard = none) (s x : Operand) (t : TypeId)
    (ho : o.op = .call { callee := .builtin .append, args := #[s, x], argTypes := #[t, t] })
    (base : Nat) (e : TypeId) (ht : P.underlying t = some (.slice e)) (hinf : (P.info? e).map (fun i => (i.zero, i.size, i.bytes)) = some (some (.int .i64 0), 1, 8))
    (v : Value) (n : Nat) (m : List Int) (hs : a.eval s = v) (hown : w.ownsRow base e 1 v n (cellsN m))
    (y : Value) (l : List Int) (hx : a.eval x = y) (hy : Nv w y l) (h63 : n + l.length ≤ maxLen) (hb : (n + l.length) * 8 ≤ 140737488355328) (hbase : base ≤ w.heap.size)
    (h : ∀ v' w', w'.ownsRow base e 1 v' (n + l.length) (cellsN (m ++ l)) → w.grownBy w' v.ownBlock → wpList P ops Q rest (a.put o.dst v') w') : wpList P ops Q (o :: rest) a w := by
  obtain ⟨i0, hi, hz0, hz1, hz2⟩ := info_partsV hinf
  obtain ⟨⟨ao, c, rfl, hc1, hc2, hnone, hcells⟩, _⟩ := hy
  cases ao with
  | none =>
    obtain rfl := hnone rfl
    have hl0 : l.length = 0 := by omega
    have hl : l = [] := List.eq_nil_of_length_eq_zero hl0
    subst hl
    refine wpList_append_own_none hgd s x t ho base e i0 1 ht hi _ n (cellsN m) hs hown hx ?_
    exact h v w (by simpa using hown) ⟨rfl, rfl, rfl, Nat.le_refl _, fun _ _ _ => rfl⟩
  | some p =>
    refine wpList_append_own w hgd s x t ho base e i0 (.int .i64 0) 1 8 ht hi hz0 hz1 hz2 rfl (by decide) v n (cellsN m) hs hown p l.length c (cellsN l) hx (by simp) ?_ ?_ h63 hb hbase (fun v' w' h1 h2 _ => h v' w' (by rw [cellsN, List.map_append]; exact h1) h2)
    · intro j u hj
      have hjl : j < l.length := by
        rcases Nat.lt_or_ge j l.length with h | h
        · exact h
        · simp [List.getElem?_eq_none (show (l.map (Value.int .i64)).length ≤ j by simpa using h)] at hj
      obtain ⟨b, off, e1, e2⟩ := hcells j hjl
      cases e1
      rw [WideShapes.add_plain, e2, nth_at hjl]
      simp [List.getElem?_eq_getElem hjl] at hj
      rw [← hj]
    · intro u hu
      obtain ⟨z, _, rfl⟩ := List.mem_map.1 hu
      rfl


set_option maxRecDepth 100000 in
theorem cloneN_walk {v : Value} {l : List Int} {w : World} (ho : Nv w v l) (hl : l.length * 8 ≤ 140737488355328) :
    Calls Try.prog 70 #[v] w fun e w' => ∃ v', e = .returned v' ∧ w'.ownsRow w.heap.size 3 1 v' l.length (cellsN l) ∧ Below w.heap.size w w' := by
  have HO : Hid (Nv w v l) := ho
  obtain ⟨⟨ao, cap, rfl, h1, h2, h3, _⟩, _⟩ := ho
  have HL : Hid (l.length * 8 ≤ 140737488355328) := hl
  have HM : Hid (l.length ≤ maxLen) := by show _ ≤ _; omega
  have H3 : Hid (ao = none → cap = 0) := h3
  have H1 : Hid (l.length ≤ cap) := h1
  have q : ∀ (w : World) (a : Option Addr) (n c : Nat), (binOp .eql 37 (.slice a n c) (.slice none 0 0)).run Try.prog w = .ok (.bool a.isNone) w := fun w a n c => Lib.run_eql_slice_nil w 37 3 a n c 0 0 Try.underlying37
  clear hl h1 h2 h3
  cases ao with
  | none =>
    have hc := H3.out rfl
    subst hc
    have hl0 : l.length = 0 := by have := H1.out; omega
    have hl : l = [] := List.eq_nil_of_length_eq_zero hl0
    subst hl
    rw [List.length_nil]
    go_enter Try.func70, Try.ntmps70
    go_wp2_with fail
    go_ret
    exact ⟨_, rfl, World.ownsRow_nil _ _ _ _, below_same _⟩
  | some p =>
    go_enter Try.func70, Try.ntmps70
    go_wp2_with (at_builtin; refine wpList_append_nv (by rfl) _ _ 37 (by rfl) w.heap.size 3 Try.underlying37 info_int _ 0 [] (by rfl) (World.ownsRow_made w #[] 0 (Nat.le_refl _) (by simp [maxLen]) (by simp)) _ l (by rfl) (HO.out.below (below_alloc _ _)) (by have := HM.out; omega) (by have := HL.out; omega) (by simp) ?_; intro v' w2 hown hgrow; go_frame)
    go_ret
    refine ⟨_, rfl, by simpa using hown, ?_⟩
    exact (below_alloc w (Obj.cells #[] 3)).grown hgrow (by simp) (by simp [Value.ownBlock])


/-- The block g holds the ints l in a row of cap cells that is the call's own. -/
def Zw (w : World) (g cap : Nat) (l : List Int) : Prop := (∃ cur, w.heap[g]? = some (.cells cur 3 (0, 0)) ∧ cur.size = cap ∧ ∀ i, i < l.length → cur[i]? = some (.int .i64 (nth l i))) ∧ l.length ≤ cap ∧ cap ≤ maxLen


section

variable {w w' : World} {g cap : Nat} {l : List Int}

theorem Zw.cell (h : Zw w g cap l) {i : Nat} (hi : i < l.length) : w.cell? ⟨g, i, none⟩ = some (.int .i64 (nth l i)) := by
  obtain ⟨⟨cur, h1, h2, h3⟩, _⟩ := h
  rw [cell_of_row w g i cur _ (0, 0) h1]; exact h3 i hi
theorem Zw.soft (h : Zw w g cap l) (i : Nat) : w.frozen? ⟨g, i, none⟩ = false := by
  obtain ⟨⟨cur, h1, h2, h3⟩, _⟩ := h
  simp [World.frozen?, h1]
theorem Zw.lt (h : Zw w g cap l) : g < w.heap.size := by
  obtain ⟨⟨cur, h1, h2, h3⟩, _⟩ := h
  exact (Array.getElem?_eq_some_iff.1 h1).1
theorem Zw.keep (h : Zw w g cap l) (hk : w'.heap[g]? = w.heap[g]?) : Zw w' g cap l := by
  obtain ⟨⟨cur, h1, h2, h3⟩, h4⟩ := h
  exact ⟨⟨cur, by rw [hk]; exact h1, h2, h3⟩, h4⟩
theorem Zw.below (h : Zw w g cap l) (hb : Below w.heap.size w w') : Zw w' g cap l := h.keep (hb.block g h.lt)
theorem Zw.set (h : Zw w g cap l) {j : Nat} (hj : j < l.length) (x : Int) : Zw (w.setCell ⟨g, j, none⟩ (.int .i64 x)) g cap (l.set j x) := by
  obtain ⟨⟨cur, h1, h2, h3⟩, h4, h5⟩ := h
  refine ⟨⟨cur.setIfInBounds j (.int .i64 x), ?_, by simpa using h2, fun i hi => ?_⟩, by simpa using h4, h5⟩
  · rw [Sort.setCell_eq]
    simp [Sort.mapBlock, Array.getElem?_modify, h1, Sort.onCells]
  · rw [nth_at hi]
    rw [List.length_set] at hi
    by_cases e : j = i
    · subst e
      rw [Array.getElem?_setIfInBounds, if_pos rfl, if_pos (by omega), List.getElem_set_self]
    · rw [Array.getElem?_setIfInBounds, if_neg e, List.getElem_set_ne e, h3 i hi, nth_at hi]
theorem Zw.own {base : Nat} (h : Zw w g cap l) (hb : base ≤ g) : w.ownsRow base 3 1 (.slice (some ⟨g, 0, none⟩) l.length cap) l.length (cellsN l) := by
  obtain ⟨⟨cur, h1, h2, h3⟩, h4, h5⟩ := h
  refine ⟨by simp, .inr ⟨g, cap, cur, rfl, hb, h1, h4, h5, by omega, ?_⟩⟩
  apply List.ext_getElem?
  intro j
  by_cases hj : j < l.length
  · rw [List.getElem?_take, if_pos (by omega), Array.getElem?_toList, h3 j hj, nth_at hj]
    simp [hj]
  · rw [List.getElem?_take, if_neg (by omega), List.getElem?_eq_none (by simp; omega)]
theorem own_zw {base n : Nat} (h : w.ownsRow base 3 1 (.slice (some ⟨g, 0, none⟩) n cap) n (cellsN l)) : Zw w g cap l ∧ base ≤ g ∧ n = l.length := by
  obtain ⟨h1, h2⟩ := h
  have hn : l.length = n := by simpa using h1
  subst hn
  rcases h2 with ⟨h, _⟩ | ⟨g', cap', cur, e1, hb, hg, hnc, hcm, hcs, htake⟩
  · cases h
  · simp only [Value.slice.injEq, Option.some.injEq, Addr.mk.injEq] at e1
    obtain ⟨⟨rfl, _⟩, _, rfl⟩ := e1
    refine ⟨⟨⟨cur, hg, by omega, fun i hi => ?_⟩, hnc, hcm⟩, hb, rfl⟩
    have e := congrArg (fun l => l[i]?) htake
    simp only [List.getElem?_take, Nat.mul_one, if_pos hi, List.getElem?_map, List.getElem?_eq_getElem hi] at e
    rw [← Array.getElem?_toList, e, nth_at hi]; rfl
theorem Zw.nv (h : Zw w g cap l) (hl : In64 l) : Nv w (.slice (some ⟨g, 0, none⟩) l.length cap) l := own_nv (h.own (Nat.zero_le _)) hl


end

end Go.Proofs.Ytnnammlipfappaa


