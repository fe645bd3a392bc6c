/- NetBag: what stays while a script runs. -/
import Derived.Test.YtokfbnpjndlccaaNo

namespace Go.Proofs.Ytokfbnpjndlccaa

open Go.RowKit



/-- Who is on its way, by what was sent and what is gone. -/
structure Live (T : List Tq) (G : List Bool) (L : List En) : Prop where
  gl : G.length = T.length
  fwd : ∀ x ∈ L, ∃ h : x.n < T.length, G[x.n]? = some false ∧ x.m = (T[x.n]).m
  bwd : ∀ k, G[k]? = some false → ∃ x ∈ L, x.n = k
theorem at_nope {L : List En} {k : Int} (h : ∀ x ∈ L, (x.n : Int) ≠ k) : atN L k = none := by
  unfold atN
  rw [List.find?_eq_none]
  intro x hx
  simpa using h x hx
theorem at_yes {L : List En} (hr : RiseE L) {x : En} (hx : x ∈ L) : atN L (x.n : Int) = some x := by
  obtain ⟨i, hi, rfl⟩ := List.mem_iff_getElem.1 hx
  exact atN_at hr hi
theorem live_neg {L : List En} {k : Int} (h : k < 0) : atN L k = none := at_nope (fun x _ => by omega)
theorem live_far {T : List Tq} {G : List Bool} {L : List En} (h : Live T G L) {k : Nat} (hk : T.length ≤ k) : atN L (k : Int) = none := at_nope (fun x hx => by obtain ⟨h1, _⟩ := h.fwd x hx; omega)
theorem live_gone {T : List Tq} {G : List Bool} {L : List En} (h : Live T G L) {k : Nat} (hk : G[k]? = some true) : atN L (k : Int) = none := at_nope (fun x hx e => by
  obtain ⟨_, h2, _⟩ := h.fwd x hx
  have e' : x.n = k := by omega
  rw [e', hk] at h2
  cases h2)
theorem live_there {T : List Tq} {G : List Bool} {L : List En} (h : Live T G L) (hr : RiseE L) {k : Nat} (hk : G[k]? = some false) : ∃ x, atN L (k : Int) = some x ∧ x ∈ L ∧ x.n = k ∧ ∃ h : k < T.length, x.m = (T[k]).m := by
  obtain ⟨x, hx, rfl⟩ := h.bwd k hk
  obtain ⟨h1, _, h3⟩ := h.fwd x hx
  exact ⟨x, at_yes hr hx, hx, rfl, h1, h3⟩
theorem live_send {T : List Tq} {G : List Bool} {L : List En} (h : Live T G L) {en : En} {t : Tq} (hn : en.n = T.length) (hm : en.m = t.m) : Live (T ++ [t]) (G ++ [false]) (L ++ [en]) := by
  refine ⟨by simp [h.gl], fun x hx => ?_, fun k hk => ?_⟩
  · rcases List.mem_append.1 hx with hx | hx
    · obtain ⟨h1, h2, h3⟩ := h.fwd x hx
      refine ⟨by simp; omega, by rw [List.getElem?_append_left (by rw [h.gl]; exact h1)]; exact h2, by rw [List.getElem_append_left h1]; exact h3⟩
    · rw [List.mem_singleton] at hx
      subst hx
      refine ⟨by simp; omega, by rw [hn, List.getElem?_append_right (by rw [h.gl]; exact Nat.le_refl _), h.gl]; simp, ?_⟩
      simp only [hn, hm]
      rw [List.getElem_append_right (Nat.le_refl _)]
      simp
  · by_cases hl : k < G.length
    · rw [List.getElem?_append_left hl] at hk
      obtain ⟨x, hx, e⟩ := h.bwd k hk
      exact ⟨x, by simp [hx], e⟩
    · have : k < (G ++ [false]).length := by
        rcases Nat.lt_or_ge k (G ++ [false]).length with q | q
        · exact q
        · rw [List.getElem?_eq_none q] at hk; cases hk
      simp at this
      exact ⟨en, by simp, by rw [hn, ← h.gl]; omega⟩
theorem live_out {T : List Tq} {G : List Bool} {L : List En} (h : Live T G L) (k : Nat) : Live T (G.set k true) (outN L (k : Int)) := by
  refine ⟨by simp [h.gl], fun x hx => ?_, fun j hj => ?_⟩
  · obtain ⟨h0, hne⟩ := mem_out hx
    obtain ⟨h1, h2, h3⟩ := h.fwd x h0
    refine ⟨h1, ?_, h3⟩
    rw [List.getElem?_set_ne (by omega)]
    exact h2
  · by_cases e : k = j
    · subst e
      by_cases hl : k < G.length
      · rw [List.getElem?_set_self hl] at hj; cases hj
      · rw [List.getElem?_eq_none (by simp; omega)] at hj; cases hj
    · rw [List.getElem?_set_ne e] at hj
      obtain ⟨x, hx, rfl⟩ := h.bwd j hj
      exact ⟨x, List.mem_filter.2 ⟨hx, by simp; omega⟩, rfl⟩
theorem len_out {L : List En} (hr : RiseE L) {k : Int} {x : En} (h : atN L k = some x) : (outN L k).length + 1 = L.length := by
  induction L with
  | nil => simp [atN] at h
  | cons a t ih =>
    obtain ⟨h1, h2⟩ := List.pairwise_cons.1 hr
    by_cases e : (a.n : Int) = k
    · rw [out_first e]
      have : outN t k = t := by
        refine List.filter_eq_self.2 fun y hy => ?_
        have := h1 y hy
        simp; omega
      rw [this]; rfl
    · rw [at_skip e] at h
      rw [out_skip e, List.length_cons, List.length_cons, ih h2 h]


/-- The net and the two rows of the call's own. -/
structure Bg (w0 : World) (B P b r nx : Nat) (T : List Tq) (G : List Bool) (L : List En) (sv gv : Value) (wr : World) : Prop where
  nt : Nt wr P b r nx L
  so : wr.ownsRow B 35 9 sv T.length (flatT T)
  go : wr.ownsRow B 4 1 gv G.length (G.map Value.bool)
  so' : ∀ g, sv.ownBlock = some g → ¬ Bk P b L g
  go' : ∀ g, gv.ownBlock = some g → ¬ Bk P b L g
  ne : ∀ g, sv.ownBlock = some g → gv.ownBlock ≠ some g
  w : Below w0.heap.size w0 wr
  lo : w0.heap.size ≤ B ∧ B ≤ wr.heap.size ∧ w0.heap.size ≤ P ∧ w0.heap.size ≤ b
theorem Bg.sl {w0 wr : World} {B P b r nx : Nat} {T : List Tq} {G : List Bool} {L : List En} {sv gv : Value} (h : Bg w0 B P b r nx T G L sv gv wr) : ∀ g, sv.ownBlock = some g → w0.heap.size ≤ g ∧ g < wr.heap.size := fun g hg => by have := h.so.lt g hg; have := h.lo; omega
theorem Bg.gl {w0 wr : World} {B P b r nx : Nat} {T : List Tq} {G : List Bool} {L : List En} {sv gv : Value} (h : Bg w0 B P b r nx T G L sv gv wr) : ∀ g, gv.ownBlock = some g → w0.heap.size ≤ g ∧ g < wr.heap.size := fun g hg => by have := h.go.lt g hg; have := h.lo; omega
theorem own_chG {D : Nat → Prop} {w w' : World} {base e size n : Nat} {v : Value} {xs : List Value} (h : w.ownsRow base e size v n xs) (hc : Ch D w w') (hd : ∀ x, v.ownBlock = some x → ¬ D x) : w'.ownsRow base e size v n xs := by
  refine ⟨h.1, ?_⟩
  rcases h.2 with h' | ⟨g, cap, cur, hv, hg, hh, r⟩
  · exact .inl h'
  · exact .inr ⟨g, cap, cur, hv, hg, by rw [hc.block g ((Array.getElem?_eq_some_iff.1 hh).1) (hd g (by rw [hv]; rfl))]; exact hh, r⟩
/-- A call of the net. -/
theorem Bg.move {w0 wr w' : World} {B P b r nx nx' : Nat} {T : List Tq} {G : List Bool} {L L' : List En} {sv gv : Value} (h : Bg w0 B P b r nx T G L sv gv wr) (hc : Ch (fun x => x = P ∨ x = b) wr w') (hn : Nt w' P b r nx' L') (hs : ∀ y ∈ L', y ∈ L ∨ wr.heap.size ≤ y.lo) : Bg w0 B P b r nx' T G L' sv gv w' := by
  have key : ∀ g, g < wr.heap.size → ¬ Bk P b L g → ¬ Bk P b L' g := fun g hg hk hk' => by
    rcases hk' with e | e | ⟨y, hy, h1, h2⟩
    · exact hk (.inl e)
    · exact hk (.inr (.inl e))
    · rcases hs y hy with q | q
      · exact hk (.inr (.inr ⟨y, q, h1, h2⟩))
      · omega
  have hsz := hc.size
  have hlo := h.lo
  exact ⟨hn, own_chG h.so hc (fun x hx e => h.so' x hx (e.elim .inl (fun q => .inr (.inl q)))), own_chG h.go hc (fun x hx e => h.go' x hx (e.elim .inl (fun q => .inr (.inl q)))),
    fun g hg => key g (h.sl g hg).2 (h.so' g hg), fun g hg => key g (h.gl g hg).2 (h.go' g hg), h.ne, h.w.trans (hc.to_below h.w.size (fun x hx => by omega)), by omega⟩
theorem Bg.below {w0 wr w' : World} {B P b r nx : Nat} {T : List Tq} {G : List Bool} {L : List En} {sv gv : Value} (h : Bg w0 B P b r nx T G L sv gv wr) (hb : Below wr.heap.size wr w') : Bg w0 B P b r nx T G L sv gv w' :=
  h.move (Ch.of_below hb) (h.nt.below hb) (fun _ hy => .inl hy)
/-- Block M is none of theirs. -/
structure Of (w0 : World) (P b : Nat) (L : List En) (sv gv : Value) (M : Nat) : Prop where
  k : ¬ Bk P b L M
  s : sv.ownBlock ≠ some M
  g : gv.ownBlock ≠ some M
  l : w0.heap.size ≤ M
theorem Bg.off {w0 wr : World} {B P b r nx : Nat} {T : List Tq} {G : List Bool} {L : List En} {sv gv : Value} (h : Bg w0 B P b r nx T G L sv gv wr) {M : Nat} (hM : wr.heap.size ≤ M) : Of w0 P b L sv gv M := by
  refine ⟨?_, fun e => by have := h.sl M e; omega, fun e => by have := h.gl M e; omega, Nat.le_trans h.w.size hM⟩
  intro hk
  rcases hk with e | e | ⟨y, hy, _, h2⟩
  · have := h.nt.ltP; omega
  · have := h.nt.ltb; omega
  · have := (h.nt.ent y hy).hi; omega
theorem Of.move {w0 : World} {P b : Nat} {L L' : List En} {sv gv : Value} {M s : Nat} (h : Of w0 P b L sv gv M) (hM : M < s) (hs : ∀ y ∈ L', y ∈ L ∨ s ≤ y.lo) : Of w0 P b L' sv gv M := by
  refine ⟨?_, h.s, h.g, h.l⟩
  intro hk
  rcases hk with e | e | ⟨y, hy, h1, h2⟩
  · exact h.k (.inl e)
  · exact h.k (.inr (.inl e))
  · rcases hs y hy with q | q
    · exact h.k (.inr (.inr ⟨y, q, h1, h2⟩))
    · omega
/-- A block that is none of theirs turns. -/
theorem Bg.other {w0 wr w' : World} {B P b r nx M : Nat} {T : List Tq} {G : List Bool} {L : List En} {sv gv : Value} (h : Bg w0 B P b r nx T G L sv gv wr) (ho : Of w0 P b L sv gv M) (hc : Ch (fun x => x = M) wr w') : Bg w0 B P b r nx T G L sv gv w' := by
  have hsz := hc.size
  have hlo := h.lo
  exact ⟨h.nt.ch hc (fun x hx => by rw [hx]; exact ho.k), own_chG h.so hc (fun x hx e => ho.s (by rw [hx, e])), own_chG h.go hc (fun x hx e => ho.g (by rw [hx, e])), h.so', h.go', h.ne, h.w.trans (hc.to_below h.w.size (fun x hx => by rw [hx]; exact ho.l)), by omega⟩
/-- One more was sent. -/
theorem Bg.sent {w0 wr w2 w3 : World} {B P b r nx : Nat} {T : List Tq} {G : List Bool} {L : List En} {sv gv sv' : Value} {t : Tq} (h0 : Bg w0 B P b r nx T G L sv gv wr) (hb : Below wr.heap.size wr w2) (ho : w3.ownsRow B 35 9 sv' (T.length + 1) (flatT T ++ cellsT t)) (hg : w2.grownBy w3 sv.ownBlock) (hat : sv'.ownBlock = sv.ownBlock ∨ sv'.ownBlock = some w2.heap.size) : Bg w0 B P b r nx (T ++ [t]) G L sv' gv w3 := by
  have h := h0.below hb
  have hc : Ch (fun y => sv.ownBlock = some y) w2 w3 := Ch.of_grown hg (fun y hy => hy)
  have hsz := hc.size
  have hlo := h.lo
  have ho2 := h.off (Nat.le_refl _)
  refine ⟨h.nt.ch hc (fun x hx => h.so' x hx), by rw [flatT_app, List.length_append]; exact ho, own_chG h.go hc (fun x hx e => h.ne x e hx), ?_, h.go', ?_, h.w.trans (hc.to_below h.w.size (fun x hx => (h.sl x hx).1)), by omega⟩
  · intro g hgv
    rcases hat with q | q
    · rw [q] at hgv; exact h.so' g hgv
    · rw [q] at hgv; cases hgv; exact ho2.k
  · intro g hgv
    rcases hat with q | q
    · rw [q] at hgv; exact h.ne g hgv
    · rw [q] at hgv; cases hgv; exact ho2.g
/-- One more that is not gone. -/
theorem Bg.live {w0 wr w2 w3 : World} {B P b r nx : Nat} {T : List Tq} {G : List Bool} {L : List En} {sv gv gv' : Value} {y : Bool} (h0 : Bg w0 B P b r nx T G L sv gv wr) (hb : Below wr.heap.size wr w2) (ho : w3.ownsRow B 4 1 gv' (G.length + 1) (G.map Value.bool ++ [.bool y])) (hg : w2.grownBy w3 gv.ownBlock) (hat : gv'.ownBlock = gv.ownBlock ∨ gv'.ownBlock = some w2.heap.size) : Bg w0 B P b r nx T (G ++ [y]) L sv gv' w3 := by
  have h := h0.below hb
  have hc : Ch (fun y => gv.ownBlock = some y) w2 w3 := Ch.of_grown hg (fun y hy => hy)
  have hsz := hc.size
  have hlo := h.lo
  have ho2 := h.off (Nat.le_refl _)
  refine ⟨h.nt.ch hc (fun x hx => h.go' x hx), own_chG h.so hc (fun x hx e => h.ne x hx e), by rw [List.map_append, List.length_append]; exact ho, h.so', ?_, ?_, h.w.trans (hc.to_below h.w.size (fun x hx => (h.gl x hx).1)), by omega⟩
  · intro g hgv
    rcases hat with q | q
    · rw [q] at hgv; exact h.go' g hgv
    · rw [q] at hgv; cases hgv; exact ho2.k
  · intro g hgv
    rcases hat with q | q
    · rw [q]; exact h.ne g hgv
    · rw [q]
      intro e
      cases e
      exact ho2.s hgv
/-- One is gone. -/
theorem Bg.gone {w0 wr : World} {B P b r nx gg gc k : Nat} {T : List Tq} {G : List Bool} {L : List En} {sv : Value} (h : Bg w0 B P b r nx T G L sv (.slice (some ⟨gg, 0, none⟩) G.length gc) wr) : Bg w0 B P b r nx T (G.set k true) L sv (.slice (some ⟨gg, 0, none⟩) G.length gc) (wr.setCell ⟨gg, k, none⟩ (.bool true)) := by
  have hc : Ch (fun y => y = gg) wr (wr.setCell ⟨gg, k, none⟩ (.bool true)) := ch_set _ _ _ _
  have hsz := hc.size
  have hlo := h.lo
  have hgo := own_setRN (o := k) (.bool true) h.go
  rw [show (G.map Value.bool).set k (.bool true) = (G.set k true).map Value.bool by rw [List.map_set]] at hgo
  refine ⟨h.nt.ch hc (fun x hx => by rw [hx]; exact h.go' gg rfl), own_chG h.so hc (fun x hx e => h.ne x hx (by rw [e]; rfl)), by rw [List.length_set]; exact hgo, h.so', h.go', h.ne, h.w.trans (hc.to_below h.w.size (fun x hx => by rw [hx]; exact (h.gl gg rfl).1)), by omega⟩


/-- The messages that were sent, as the arguments hold them. -/
def Tok (w0 : World) (T : List Tq) : Prop := ∀ t ∈ T, ML w0 t.m t.e t.q t.p ∧ t.m.ok
theorem Tok.app {w0 : World} {T : List Tq} {t : Tq} (h : Tok w0 T) (h1 : ML w0 t.m t.e t.q t.p) (h2 : t.m.ok) : Tok w0 (T ++ [t]) := fun x hx => by
  rcases List.mem_append.1 hx with hx | hx
  · exact h x hx
  · rw [List.mem_singleton] at hx; subst hx; exact ⟨h1, h2⟩
/-- How many below k. -/
def cnE (L : List En) (k : Nat) : Nat := (L.filter fun x => decide (x.n < k)).length
theorem cnE_zero (L : List En) : cnE L 0 = 0 := by
  unfold cnE
  rw [List.length_eq_zero_iff, List.filter_eq_nil_iff]
  intro x _
  simp
theorem cnE_no {L : List En} {k : Nat} (h : ∀ x ∈ L, x.n ≠ k) : cnE L (k + 1) = cnE L k := by
  unfold cnE
  congr 1
  refine List.filter_congr fun x hx => ?_
  have := h x hx
  simp; omega
theorem cnE_yes {L : List En} (hr : RiseE L) {x : En} (hx : x ∈ L) : cnE L (x.n + 1) = cnE L x.n + 1 ∧ L[cnE L x.n]? = some x := by
  induction L with
  | nil => simp at hx
  | cons a t ih =>
    obtain ⟨h1, h2⟩ := List.pairwise_cons.1 hr
    rcases List.mem_cons.1 hx with rfl | hx
    · have e0 : cnE t x.n = 0 := by
        unfold cnE
        rw [List.length_eq_zero_iff, List.filter_eq_nil_iff]
        intro y hy
        have := h1 y hy
        simp; omega
      have e1 : cnE t (x.n + 1) = 0 := by
        unfold cnE
        rw [List.length_eq_zero_iff, List.filter_eq_nil_iff]
        intro y hy
        have := h1 y hy
        simp; omega
      have f0 : cnE (x :: t) x.n = 0 := by unfold cnE; rw [List.filter_cons_of_neg (by simp)]; exact e0
      have f1 : cnE (x :: t) (x.n + 1) = 1 := by unfold cnE; rw [List.filter_cons_of_pos (by simp), List.length_cons]; unfold cnE at e1; rw [e1]
      rw [f0, f1]
      exact ⟨rfl, rfl⟩
    · have hlt := h1 x hx
      obtain ⟨i1, i2⟩ := ih h2 hx
      have f0 : cnE (a :: t) x.n = cnE t x.n + 1 := by unfold cnE; rw [List.filter_cons_of_pos (by simpa using hlt), List.length_cons]
      have f1 : cnE (a :: t) (x.n + 1) = cnE t (x.n + 1) + 1 := by unfold cnE; rw [List.filter_cons_of_pos (by simp; omega), List.length_cons]
      rw [f0, f1, i1]
      exact ⟨rfl, by rw [List.getElem?_cons_succ]; exact i2⟩
end Go.Proofs.Ytokfbnpjndlccaa


