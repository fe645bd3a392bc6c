/- Two rows that are written over and grown while all else stays. -/
import Derived.Test.YtiglkmdeokmnhabMm
namespace Go.Proofs.Ytiglkmdeokmnhab
open Go.RowKit

/-- Of W's blocks only those from A1 to A2 and from C1 to C2 may have turned. -/
structure Apart (A1 A2 C1 C2 : Nat) (W w' : World) : Prop where
  os : w'.os = W.os
  tape : w'.tape = W.tape
  output : w'.output = W.output
  size : W.heap.size ≤ w'.heap.size
  block : ∀ k, k < W.heap.size → ¬ (A1 ≤ k ∧ k < A2) → ¬ (C1 ≤ k ∧ k < C2) → w'.heap[k]? = W.heap[k]?

theorem Apart.refl (A1 A2 C1 C2 : Nat) (W : World) : Apart A1 A2 C1 C2 W W := ⟨rfl, rfl, rfl, Nat.le_refl _, fun _ _ _ _ => rfl⟩

theorem Apart.grown {A1 A2 C1 C2 : Nat} {W w w' : World} {row : Option Nat} (h : Apart A1 A2 C1 C2 W w) (hg : w.grownBy w' row) (hr : ∀ g, row = some g → (A1 ≤ g ∧ g < A2) ∨ (C1 ≤ g ∧ g < C2) ∨ W.heap.size ≤ g) : Apart A1 A2 C1 C2 W w' := by
  refine ⟨hg.os.trans h.os, hg.tape.trans h.tape, hg.output.trans h.output, Nat.le_trans h.size hg.size, fun k hk h1 h2 => ?_⟩
  rw [hg.block k (Nat.lt_of_lt_of_le hk h.size) (fun e => ?_)]
  · exact h.block k hk h1 h2
  · rcases hr k e.symm with h | h | h
    · exact h1 h
    · exact h2 h
    · omega

/-- The two rows a and c, and that all else stays. -/
structure Inv (A1 A2 C1 C2 : Nat) (W : World) (av : Value) (na : Nat) (cv : Value) (nc : Nat) (w : World) : Prop where
  a : ∃ xs, w.ownsRow A1 5 1 av na xs
  c : ∃ xs, w.ownsRow A1 5 1 cv nc xs
  ga : ∀ g, av.ownBlock = some g → (A1 ≤ g ∧ g < A2) ∨ W.heap.size ≤ g
  gc : ∀ g, cv.ownBlock = some g → (C1 ≤ g ∧ g < C2) ∨ W.heap.size ≤ g
  ne : ∀ g, av.ownBlock = some g → cv.ownBlock ≠ some g
  ap : Apart A1 A2 C1 C2 W w

theorem own_at {w : World} {H e n cap : Nat} {ao : Option Addr} {xs : List Value} (h : w.ownsRow H e 1 (.slice ao n cap) n xs) (h0 : 0 < n) : ∃ g, ao = some ⟨g, 0, none⟩ := by
  rcases h.2 with ⟨_, h'⟩ | ⟨g, cap', cur, e', _⟩
  · omega
  · simp only [Value.slice.injEq] at e'
    exact ⟨g, e'.1⟩

theorem Inv.cellA {A1 A2 C1 C2 na cap nc g : Nat} {W w : World} {cv : Value} (h : Inv A1 A2 C1 C2 W (.slice (some ⟨g, 0, none⟩) na cap) na cv nc w) (j : Nat) (hj : j < na) : ∃ q, w.cell? ⟨g, j, none⟩ = some q ∧ w.frozen? ⟨g, j, none⟩ = false := by
  obtain ⟨xs, hx⟩ := h.a
  have hl := hx.1
  refine ⟨xs[j], ?_, hx.frozenAt j⟩
  rw [hx.cellAt j (by omega), List.getElem?_eq_getElem (by omega)]
theorem Inv.cellC {A1 A2 C1 C2 na cap nc g : Nat} {W w : World} {av : Value} (h : Inv A1 A2 C1 C2 W av na (.slice (some ⟨g, 0, none⟩) nc cap) nc w) (j : Nat) (hj : j < nc) : ∃ q, w.cell? ⟨g, j, none⟩ = some q ∧ w.frozen? ⟨g, j, none⟩ = false := by
  obtain ⟨xs, hx⟩ := h.c
  have hl := hx.1
  refine ⟨xs[j], ?_, hx.frozenAt j⟩
  rw [hx.cellAt j (by omega), List.getElem?_eq_getElem (by omega)]

theorem Inv.storeA {A1 A2 C1 C2 na cap nc g : Nat} {W w : World} {cv : Value} (h : Inv A1 A2 C1 C2 W (.slice (some ⟨g, 0, none⟩) na cap) na cv nc w) (j : Nat) (u : Value) : Inv A1 A2 C1 C2 W (.slice (some ⟨g, 0, none⟩) na cap) na cv nc (w.setCell ⟨g, j, none⟩ u) := by
  obtain ⟨xs, hx⟩ := h.a
  obtain ⟨ys, hy⟩ := h.c
  have hs := hx.stored j u
  refine ⟨⟨_, hs.1⟩, ⟨ys, hy.kept hs.2 (.inr (h.ne g rfl))⟩, h.ga, h.gc, h.ne, h.ap.grown hs.2 (fun r hr => ?_)⟩
  cases hr
  rcases h.ga g rfl with h | h
  · exact .inl h
  · exact .inr (.inr h)
theorem Inv.storeC {A1 A2 C1 C2 na cap nc g : Nat} {W w : World} {av : Value} (h : Inv A1 A2 C1 C2 W av na (.slice (some ⟨g, 0, none⟩) nc cap) nc w) (j : Nat) (u : Value) : Inv A1 A2 C1 C2 W av na (.slice (some ⟨g, 0, none⟩) nc cap) nc (w.setCell ⟨g, j, none⟩ u) := by
  obtain ⟨xs, hx⟩ := h.a
  obtain ⟨ys, hy⟩ := h.c
  have hs := hy.stored j u
  refine ⟨⟨xs, hx.kept hs.2 (.inr (fun e => h.ne g e rfl))⟩, ⟨_, hs.1⟩, h.ga, h.gc, h.ne, h.ap.grown hs.2 (fun r hr => ?_)⟩
  cases hr
  rcases h.gc g rfl with h | h
  · exact .inr (.inl h)
  · exact .inr (.inr h)

theorem own_blk_lt {w : World} {H e n : Nat} {v : Value} {xs : List Value} (h : w.ownsRow H e 1 v n xs) {g : Nat} (hg : v.ownBlock = some g) : g < w.heap.size := (h.lt g hg).2

theorem Inv.alloc {A1 A2 C1 C2 na nc : Nat} {W w : World} {av cv : Value} (h : Inv A1 A2 C1 C2 W av na cv nc w) (o : Obj) : Inv A1 A2 C1 C2 W av na cv nc (w.alloc o) := by
  obtain ⟨xs, hx⟩ := h.a
  obtain ⟨ys, hy⟩ := h.c
  exact ⟨⟨xs, hx.alloc o⟩, ⟨ys, hy.alloc o⟩, h.ga, h.gc, h.ne, h.ap.grown (World.grownBy_alloc w o none) (by simp)⟩

theorem Inv.growA {A1 A2 C1 C2 na nc : Nat} {W w w' : World} {av cv v' : Value} {xs : List Value} (h : Inv A1 A2 C1 C2 W av na cv nc w) (hown : w'.ownsRow A1 5 1 v' (na + 1) xs) (hg : w.grownBy w' av.ownBlock)
    (hat : v'.ownBlock = av.ownBlock ∨ v'.ownBlock = some w.heap.size) : Inv A1 A2 C1 C2 W v' (na + 1) cv nc w' := by
  obtain ⟨zs, hz⟩ := h.a
  obtain ⟨ys, hy⟩ := h.c
  refine ⟨⟨_, hown⟩, ⟨ys, hy.kept hg ?_⟩, ?_, h.gc, ?_, h.ap.grown hg (fun r hr => ?_)⟩
  · cases hb : cv.ownBlock with
    | none => exact .inl rfl
    | some g => exact .inr (fun e => h.ne g e.symm hb)
  · intro g hgg
    rcases hat with e | e
    · exact h.ga g (by rw [← e]; exact hgg)
    · rw [e] at hgg; cases hgg; exact .inr h.ap.size
  · intro g hgg hc
    rcases hat with e | e
    · exact h.ne g (by rw [← e]; exact hgg) hc
    · rw [e] at hgg; cases hgg
      have := own_blk_lt hy hc
      omega
  · rcases h.ga r hr with h | h
    · exact .inl h
    · exact .inr (.inr h)
theorem Inv.growC {A1 A2 C1 C2 na nc : Nat} {W w w' : World} {av cv v' : Value} {xs : List Value} (h : Inv A1 A2 C1 C2 W av na cv nc w) (hown : w'.ownsRow A1 5 1 v' (nc + 1) xs) (hg : w.grownBy w' cv.ownBlock)
    (hat : v'.ownBlock = cv.ownBlock ∨ v'.ownBlock = some w.heap.size) : Inv A1 A2 C1 C2 W av na v' (nc + 1) w' := by
  obtain ⟨zs, hz⟩ := h.a
  obtain ⟨ys, hy⟩ := h.c
  refine ⟨⟨zs, hz.kept hg ?_⟩, ⟨_, hown⟩, h.ga, ?_, ?_, h.ap.grown hg (fun r hr => ?_)⟩
  · cases hb : av.ownBlock with
    | none => exact .inl rfl
    | some g => exact .inr (fun e => h.ne g hb e.symm)
  · intro g hgg
    rcases hat with e | e
    · exact h.gc g (by rw [← e]; exact hgg)
    · rw [e] at hgg; cases hgg; exact .inr h.ap.size
  · intro g hgg hc
    rcases hat with e | e
    · exact h.ne g hgg (by rw [← e]; exact hc)
    · rw [e] at hc; cases hc
      have := own_blk_lt hz hgg
      omega
  · rcases h.gc r hr with h | h
    · exact .inr (.inl h)
    · exact .inr (.inr h)

/-- A row that lies beside both stays. -/
theorem Apart.own {A1 A2 C1 C2 H e n : Nat} {W w : World} {v : Value} {xs : List Value} (h : Apart A1 A2 C1 C2 W w) (hown : W.ownsRow H e 1 v n xs) (ho : ∀ g, v.ownBlock = some g → ¬ (A1 ≤ g ∧ g < A2) ∧ ¬ (C1 ≤ g ∧ g < C2)) : w.ownsRow H e 1 v n xs := by
  refine ⟨hown.1, ?_⟩
  rcases hown.2 with h' | ⟨g, cap, cur, hv, hg, hh, r⟩
  · exact .inl h'
  · have hlt := (Array.getElem?_eq_some_iff.1 hh).1
    have := ho g (by rw [hv]; rfl)
    exact .inr ⟨g, cap, cur, hv, hg, by rw [h.block g hlt this.1 this.2]; exact hh, r⟩

/-- What lies below both stays. -/
theorem Apart.below {A1 A2 C1 C2 : Nat} {W w w0 : World} (h : Apart A1 A2 C1 C2 W w) (h0 : Below A1 w0 W) (hA : A1 ≤ C1) (hs : A1 ≤ W.heap.size) : Below A1 w0 w :=
  ⟨h.os.trans h0.os, h.tape.trans h0.tape, h.output.trans h0.output, Nat.le_trans h0.size h.size, fun k hk => by rw [h.block k (by omega) (by omega) (by omega)]; exact h0.block k hk⟩

theorem Sv.cutTo {k : IntKind} {w : World} {ao : Option Addr} {cap n : Nat} {l r : List Int} (h : Sv k w (.slice ao n cap) (l ++ r)) : Sv k w (.slice ao l.length cap) l := by
  obtain ⟨ao', cap', e, h1, h2, h3, h4⟩ := h
  simp only [Value.slice.injEq] at e
  obtain ⟨rfl, _, rfl⟩ := e
  rw [List.length_append] at h1
  refine ⟨ao, cap, rfl, by omega, h2, h3, fun i hi => ?_⟩
  obtain ⟨b, off, e1, e2⟩ := h4 i (by rw [List.length_append]; omega)
  refine ⟨b, off, e1, ?_⟩
  rw [e2]
  simp [List.getD, List.getElem?_append_left hi]

theorem Sv.cutRest {k : IntKind} {w : World} {g n cap : Nat} {l r : List Int} (h : Sv k w (.slice (some ⟨g, 0, none⟩) n cap) (l ++ r)) (m : Nat) (hm : m = r.length) : Sv k w (.slice (some ⟨g, l.length, none⟩) m (cap - l.length)) r := by
  subst hm
  obtain ⟨ao', cap', e, h1, h2, h3, h4⟩ := h
  simp only [Value.slice.injEq] at e
  obtain ⟨rfl, _, rfl⟩ := e
  rw [List.length_append] at h1
  refine ⟨_, cap - l.length, rfl, by omega, by omega, by simp, fun i hi => ?_⟩
  obtain ⟨b, off, e1, e2⟩ := h4 (l.length + i) (by rw [List.length_append]; omega)
  cases e1
  refine ⟨g, l.length, rfl, ?_⟩
  rw [Nat.zero_add] at e2
  rw [e2]
  simp [List.getD, List.getElem?_append_right (Nat.le_add_right l.length i)]

/-- Nums' answer as a row of its own. -/
theorem nums_own {w : World} {v : Value} {l : List Int} {q : List Nat} {er : Nat} (h : Sv .i64 w v l) (hsz : 10 + 10 * l.length ≤ 140737488355328) (hin : ∀ x ∈ l, x < 9223372036854775808) (hq : numsA l = (q, er)) :
    Calls Try.prog 6 #[v] w fun e w' => ∃ ao cap, e = .returned (.tuple #[.slice ao q.length cap, .int .i64 er]) ∧ w'.ownsRow w.heap.size 5 1 (.slice ao q.length cap) q.length ((ib q).map (Value.int .u8)) ∧ Below w.heap.size w w' := by
  refine (nums_walk h hsz hin).mono fun e w' hh => ?_
  obtain ⟨v', h1, h2, h3⟩ := hh
  rw [hq] at h1 h2
  obtain ⟨ao, cap, rfl⟩ := own_form h2
  exact ⟨ao, cap, h1, h2, h3⟩

theorem numsA_lt {l : List Int} {q : List Nat} {er : Nat} (h : numsA l = (q, er)) (hl : l.length < 9223372036854775808) (hx : ∀ x ∈ l, x < 9223372036854775808) : (∀ c ∈ q, c < 256) ∧ q.length ≤ 10 + 10 * l.length := by
  unfold numsA at h
  split at h
  · cases h
    refine ⟨fun c hc => ?_, numsB_len l⟩
    rcases List.mem_append.1 hc with h | h
    · exact Wm.enc_lt l.length (by omega) c h
    · refine encAll_lt (l.map Int.toNat) (fun y hy => ?_) c h
      obtain ⟨x, hx', rfl⟩ := List.mem_map.1 hy
      have := hx x hx'; omega
  · cases h
    simp
end Go.Proofs.Ytiglkmdeokmnhab
