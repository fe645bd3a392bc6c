/- MsgMemory: rows of the call's own. -/
import Derived.Test.YthkkbdmbmkgjpaaJn

namespace Go.Proofs.Ythkkbdmbmkgjpaa

open Go.RowKit



theorem info_intM : (Try.prog.info? 3).map (fun i => (i.zero, i.size, i.bytes)) = some (some (.int .i64 0), 1, 8) := by kernel_rfl
theorem make_eM {n : Nat} (hn : n * 8 ≤ 140737488351232) : ∀ wx : World, (Instr.makeSlice 22 (.int .i64 0) (.int .i64 ((n : Int) + 2))).run Try.prog wx = .ok (.slice (some ⟨wx.heap.size, 0, none⟩) 0 (n + 2)) (wx.alloc (.cells (madeCells #[.int .i64 0] ((n + 2) * 1)) 3)) := fun wx => by
  obtain ⟨i0, hi0, hz0, hz1, hz2⟩ := info_partsQ info_intM
  have := run_make (P := Try.prog) wx 22 3 i0 (.int .i64 0) Try.underlying22 hi0 hz0 .i64 .i64 0 ((n : Int) + 2) (by omega) (by omega) (by rw [hz2]; omega) (by omega)
  rw [hz1, show ((n : Int) + 2).toNat = n + 2 by omega] at this
  exact this
theorem make_kM {n : Nat} (hn : n * 8 ≤ 140737488351232) : ∀ wx : World, (Instr.makeSlice 23 (.int .i64 0) (.int .i64 ((n : Int) + 2))).run Try.prog wx = .ok (.slice (some ⟨wx.heap.size, 0, none⟩) 0 (n + 2)) (wx.alloc (.cells (madeCells #[.int .u64 0] ((n + 2) * 1)) 38)) := fun wx => by
  obtain ⟨i0, hi0, hz0, hz1, hz2⟩ := info_partsQ info_u64
  have := run_make (P := Try.prog) wx 23 38 i0 (.int .u64 0) Try.underlying23 hi0 hz0 .i64 .i64 0 ((n : Int) + 2) (by omega) (by omega) (by rw [hz2]; omega) (by omega)
  rw [hz1, show ((n : Int) + 2).toNat = n + 2 by omega] at this
  exact this
theorem make_pM {n : Nat} (hn : n * 24 ≤ 140737488351232) : ∀ wx : World, (Instr.makeSlice 24 (.int .i64 0) (.int .i64 ((n : Int) + 2))).run Try.prog wx = .ok (.slice (some ⟨wx.heap.size, 0, none⟩) 0 (n + 2)) (wx.alloc (.cells (madeCells #[.int .u64 0, .bool false, .int .u64 0] ((n + 2) * 3)) 42)) := fun wx => by
  obtain ⟨i0, hi0, hz0, hz1, hz2⟩ := info_partsQ info_pair
  have := run_make (P := Try.prog) wx 24 42 i0 (.agg #[.int .u64 0, .bool false, .int .u64 0]) Try.underlying24 hi0 hz0 .i64 .i64 0 ((n : Int) + 2) (by omega) (by omega) (by rw [hz2]; omega) (by omega)
  rw [hz1, show ((n : Int) + 2).toNat = n + 2 by omega] at this
  exact this
theorem own_madeM (w : World) {q s : Nat} {e : TypeId} {zs : Array Value} (hq : q ≤ maxLen) : (w.alloc (.cells (madeCells zs (q * s)) e)).ownsRow w.heap.size e s (.slice (some ⟨w.heap.size, 0, none⟩) 0 q) 0 [] :=
  ⟨by simp, .inr ⟨_, q, _, rfl, Nat.le_refl _, heap_alloc_new w _, Nat.zero_le _, hq, by rw [size_madeCells], by simp⟩⟩
def kvM (k : Nat) : Pr := ⟨k, ⟨false, 0⟩⟩
theorem kvM_ok {k : Nat} (h : k < 100) : (kvM k).ok := ⟨by simp only [kvM]; omega, by show (0 : Nat) < 18446744073709551616; decide⟩
theorem qv_twoM (w : World) (p q : Pr) (hp : p.ok) (hq : q.ok) : Qv (w.alloc (.cells #[.int .u64 p.k, .bool p.v.h, .int .u64 p.v.b, .int .u64 q.k, .bool q.v.h, .int .u64 q.v.b] 42)) (.slice (some ⟨w.heap.size, 0, none⟩) 2 2) [p, q] := by
  refine ⟨⟨_, 2, rfl, Nat.le_refl _, by simp [maxLen], by simp, fun i hi => ?_⟩, fun o ho => ?_⟩
  · have h : i = 0 ∨ i = 1 := by simp at hi; omega
    rcases h with rfl | rfl
    · exact ⟨w.heap.size, 0, rfl, by simp [go_sem], by simp [go_sem], by simp [go_sem]⟩
    · exact ⟨w.heap.size, 0, rfl, by simp [go_sem], by simp [go_sem], by simp [go_sem]⟩
  · simp at ho
    rcases ho with rfl | rfl
    · exact hp
    · exact hq
/-- A row that is not empty lies in a block of its own. -/
theorem row_formM {w : World} {base e s n : Nat} {v : Value} {xs : List Value} (h : w.ownsRow base e s v n xs) (hn : 0 < n) : ∃ g cap, v = .slice (some ⟨g, 0, none⟩) n cap ∧ n ≤ cap ∧ cap ≤ maxLen ∧ base ≤ g ∧ g < w.heap.size := by
  rcases h.2 with ⟨_, h0⟩ | ⟨g, cap, cur, rfl, hg, hh, hnc, hcm, hcs, htk⟩
  · omega
  · exact ⟨g, cap, rfl, hnc, hcm, hg, (Array.getElem?_eq_some_iff.1 hh).1⟩
theorem own_formM {w : World} {base e s n : Nat} {v : Value} {xs : List Value} (h : w.ownsRow base e s v n xs) : ∃ a k c, v = .slice a k c := by
  rcases h.2 with ⟨h3, _⟩ | ⟨g, cap, cur, rfl, _⟩
  · exact ⟨_, _, _, h3⟩
  · exact ⟨_, _, _, rfl⟩
/-- A row's head is a row. -/
theorem own_cutM {w : World} {base e s n k g cap : Nat} {xs : List Value} (h : w.ownsRow base e s (.slice (some ⟨g, 0, none⟩) n cap) n xs) (hk : k ≤ n) : w.ownsRow base e s (.slice (some ⟨g, 0, none⟩) k cap) k (xs.take (k * s)) := by
  obtain ⟨h1, h2⟩ := h
  have hks : k * s ≤ n * s := Nat.mul_le_mul_right _ hk
  refine ⟨by rw [List.length_take]; omega, .inr ?_⟩
  rcases h2 with ⟨h3, _⟩ | ⟨g', cap', cur, e1, hg, hh, hnc, hcm, hcs, htk⟩
  · cases h3
  · cases e1
    refine ⟨g, cap, cur, rfl, hg, hh, by omega, hcm, hcs, ?_⟩
    rw [← htk, List.take_take, Nat.min_eq_left hks]
/-- A row's cell. -/
theorem own_cellM {w : World} {base e s n g cap j : Nat} {xs : List Value} {u : Value} (h : w.ownsRow base e s (.slice (some ⟨g, 0, none⟩) n cap) n xs) (hj : xs[j]? = some u) : w.cell? ⟨g, j, none⟩ = some u := by
  obtain ⟨h1, h2⟩ := h
  rcases h2 with ⟨h3, _⟩ | ⟨g', cap', cur, e1, hg, hh, hnc, hcm, hcs, htk⟩
  · cases h3
  · cases e1
    rw [cell_of_row w g j cur e (0, 0) hh]
    rw [← htk, List.getElem?_take] at hj
    split at hj
    · simpa using hj
    · cases hj
/-- Block g has N cells, whatever they are. -/
def Rcl (w : World) (g N : Nat) : Prop := ∀ o, o < N → (∃ x, w.cell? ⟨g, o, none⟩ = some x) ∧ w.frozen? ⟨g, o, none⟩ = false
theorem Rcl.put {w : World} {g N : Nat} (h : Rcl w g N) (g' o' : Nat) (u : Value) : Rcl (w.setCell ⟨g', o', none⟩ u) g N := by
  intro o ho
  obtain ⟨⟨x, hx⟩, hz⟩ := h o ho
  by_cases e : (⟨g', o', none⟩ : Addr) = ⟨g, o, none⟩
  · cases e
    exact ⟨⟨u, by simp [go_sem, hx]⟩, by simpa [go_sem] using hz⟩
  · exact ⟨⟨x, by rw [World.cell?_setCell_other _ _ _ _ e]; exact hx⟩, by simpa [go_sem] using hz⟩
/-- The list v, n values of s cells each, is empty or lies in a block from lo up to hi. -/
def Rw (w : World) (lo hi : Nat) (v : Value) (n s : Nat) : Prop := n = 0 ∨ ∃ g cap, v = .slice (some ⟨g, 0, none⟩) n cap ∧ n ≤ cap ∧ cap ≤ maxLen ∧ lo ≤ g ∧ g < hi ∧ Rcl w g (n * s)
theorem rw_own {w : World} {base e s n hi : Nat} {v : Value} {xs : List Value} (h : w.ownsRow base e s v n xs) (hh : w.heap.size ≤ hi) : Rw w base hi v n s := by
  rcases h.2 with ⟨_, h0⟩ | ⟨g, cap, cur, rfl, hg, hh', hnc, hcm, hcs, htk⟩
  · exact .inl h0
  · have hl := (Array.getElem?_eq_some_iff.1 hh').1
    refine .inr ⟨g, cap, rfl, hnc, hcm, hg, by omega, fun o ho => ⟨?_, by simp [World.frozen?, hh']⟩⟩
    have hlt : o < cur.size := by rw [hcs]; exact Nat.lt_of_lt_of_le ho (Nat.mul_le_mul_right _ hnc)
    exact ⟨cur[o], by rw [cell_of_row w g o cur e (0, 0) hh']; simp [hlt]⟩
theorem Rw.put {w : World} {lo hi n s : Nat} {v : Value} (h : Rw w lo hi v n s) (g' o' : Nat) (u : Value) : Rw (w.setCell ⟨g', o', none⟩ u) lo hi v n s := by
  rcases h with h | ⟨g, cap, e, h1, h2, h3, h4, h5⟩
  · exact .inl h
  · exact .inr ⟨g, cap, e, h1, h2, h3, h4, h5.put g' o' u⟩
theorem Rw.lo {w : World} {lo lo' hi n s : Nat} {v : Value} (h : Rw w lo hi v n s) (hl : lo' ≤ lo) : Rw w lo' hi v n s := by
  rcases h with h | ⟨g, cap, e, h1, h2, h3, h4, h5⟩
  · exact .inl h
  · exact .inr ⟨g, cap, e, h1, h2, by omega, h4, h5⟩
theorem Rw.below {w w' : World} {lo hi n s : Nat} {v : Value} (h : Rw w lo hi v n s) (hb : Below w.heap.size w w') (hh : hi ≤ w.heap.size) : Rw w' lo hi v n s := by
  rcases h with h | ⟨g, cap, e, h1, h2, h3, h4, h5⟩
  · exact .inl h
  · refine .inr ⟨g, cap, e, h1, h2, h3, h4, fun o ho => ?_⟩
    obtain ⟨⟨x, hx⟩, hz⟩ := h5 o ho
    exact ⟨⟨x, by rw [hb.cell (p := ⟨g, o, none⟩) (by show g < _; omega)]; exact hx⟩, by rw [hb.frozen (p := ⟨g, o, none⟩) (by show g < _; omega)]; exact hz⟩
theorem encS_ltM {m : Ms} (hk : m.ok) : ∀ c ∈ (encS m).1, c < 256 := by
  unfold encS
  cases h : sndM m
  · simp
  · simp only [if_true]
    exact bytS_lt h hk
theorem decS_encM {m : Ms} {l : List Nat} (hk : m.ok) (h : encS m = (l, 0)) : decS l = (m, 0) := by
  cases hs : sndM m
  · rw [encS_bad hs] at h; simp at h
  · rw [encS_bytS hs] at h
    have e : bytS m = l := congrArg Prod.fst h
    have k := formS_there hs hk []
    rw [List.append_nil, if_neg (by simp), e] at k
    exact k
/-- The four lists that are written over. -/
structure Wa (lo hi : Nat) (w9 w : World) (vb ve vk vp : Value) (nb ne nk np : Nat) : Prop where
  ch : Ch (fun x => lo ≤ x ∧ x < hi) w9 w
  b : Rw w lo hi vb nb 1
  e : Rw w lo hi ve ne 1
  k : Rw w lo hi vk nk 1
  p : Rw w lo hi vp np 3
theorem Wa.put {lo hi : Nat} {w9 w : World} {vb ve vk vp : Value} {nb ne nk np : Nat} (h : Wa lo hi w9 w vb ve vk vp nb ne nk np) {g : Nat} (hg : lo ≤ g ∧ g < hi) (o : Nat) (u : Value) : Wa lo hi w9 (w.setCell ⟨g, o, none⟩ u) vb ve vk vp nb ne nk np :=
  ⟨h.ch.trans (ch_set _ _ _ _) (fun x hx => by left; rw [hx]; exact hg), h.b.put _ _ _, h.e.put _ _ _, h.k.put _ _ _, h.p.put _ _ _⟩
theorem Wa.put3 {lo hi : Nat} {w9 w : World} {vb ve vk vp : Value} {nb ne nk np : Nat} (h : Wa lo hi w9 w vb ve vk vp nb ne nk np) {g : Nat} (hg : lo ≤ g ∧ g < hi) (o p q : Nat) (a b c : Value) : Wa lo hi w9 (((w.setCell ⟨g, o, none⟩ a).setCell ⟨g, p, none⟩ b).setCell ⟨g, q, none⟩ c) vb ve vk vp nb ne nk np := ((h.put hg o a).put hg p b).put hg q c
end Go.Proofs.Ythkkbdmbmkgjpaa


