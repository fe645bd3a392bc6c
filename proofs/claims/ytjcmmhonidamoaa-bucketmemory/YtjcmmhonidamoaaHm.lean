/- BucketMemory: rows of cells that are written over and grown; what stays beside them. -/
import Derived.Test.YtjcmmhonidamoaaHb
import Derived.Test.YtjcmmhonidamoaaBr
namespace Go.Proofs.Ytjcmmhonidamoaa
open Go.RowKit

theorem Cv.ch {D : Nat → Prop} {w w' : World} {v : Value} {l : List Cl} (h : Cv w v l) (hc : Ch D w w') (hd : ∀ x, v.ownBlock = some x → ¬ D x) : Cv w' v l := by
  obtain ⟨ao, cap, e, h1, h2, h3, h4⟩ := h
  refine ⟨ao, cap, e, h1, h2, h3, fun i hi => ?_⟩
  obtain ⟨b, off, e1, e2⟩ := h4 i hi
  refine ⟨b, off, e1, fun j hj => ?_⟩
  have h5 := e2 j hj
  have h6 : (clF l[i])[j]? = some ((clF l[i])[j]'(by rw [clF_len]; exact hj)) := List.getElem?_eq_getElem _
  rw [h6] at h5 ⊢
  exact hc.cell h5 (hd b (by rw [e, e1]; rfl))
theorem Bv.chO {D : Nat → Prop} {w w' : World} {v : Value} {l : List Nat} (h : Bv w v l) (hc : Ch D w w') (hd : ∀ x, v.ownBlock = some x → ¬ D x) : Bv w' v l := by
  obtain ⟨⟨ao, cap, e, h1, h2, h3, h4⟩, h5⟩ := h
  refine ⟨⟨ao, cap, e, h1, h2, h3, fun i hi => ?_⟩, h5⟩
  obtain ⟨b, off, e1, e2⟩ := h4 i hi
  exact ⟨b, off, e1, hc.cell e2 (hd b (by rw [e, e1]; rfl))⟩
theorem ch_six {D : Nat → Prop} {w0 w : World} {g k : Nat} {c : Cl} (h : Ch D w0 w) (hg : D g ∨ w0.heap.size ≤ g) : Ch D w0 (sixW w g k c) := by
  have s : ∀ {x : World} (i : Nat) (u : Value), Ch D w0 x → Ch D w0 (x.setCell ⟨g, i, none⟩ u) := fun i u hx => hx.trans (ch_set _ g i u) (fun y hy => by subst hy; exact hg)
  exact s _ _ (s _ _ (s _ _ (s _ _ (s _ _ (s _ _ h)))))

/-- Two rows of cells of the call's own, whatever they hold; nothing but D's blocks has turned since w0. -/
structure Pr (w0 : World) (D : Nat → Prop) (np nd : Nat) (pv dv : Value) (wr : World) : Prop where
  p : ∃ L : List Cl, wr.ownsRow 0 37 6 pv np (flatC L)
  d : ∃ L : List Cl, wr.ownsRow 0 37 6 dv nd (flatC L)
  pp : ∀ x, pv.ownBlock = some x → D x ∨ w0.heap.size ≤ x
  dp : ∀ x, dv.ownBlock = some x → D x ∨ w0.heap.size ≤ x
  ap : ∀ x, pv.ownBlock = some x → dv.ownBlock ≠ some x
  ch : Ch D w0 wr
section
variable {w0 wr w1 : World} {D : Nat → Prop} {np nd : Nat} {pv dv : Value}
theorem Pr.swap (h : Pr w0 D np nd pv dv wr) : Pr w0 D nd np dv pv wr := ⟨h.d, h.p, h.dp, h.pp, fun x hx hy => h.ap x hy hx, h.ch⟩
theorem Pr.below (h : Pr w0 D np nd pv dv wr) (hb : Below wr.heap.size wr w1) : Pr w0 D np nd pv dv w1 := by
  obtain ⟨⟨L, h1⟩, ⟨M, h2⟩, h3, h4, h5, h6⟩ := h
  exact ⟨⟨L, own_belowC h1 hb⟩, ⟨M, own_belowC h2 hb⟩, h3, h4, h5, h6.trans (Ch.of_below (D := D) hb) (fun x hx => .inl hx)⟩
theorem Pr.set {g cap k : Nat} (h : Pr w0 D np nd (.slice (some ⟨g, 0, none⟩) np cap) dv wr) (hk : k < np) (c : Cl) : Pr w0 D np nd (.slice (some ⟨g, 0, none⟩) np cap) dv (sixW wr g k c) := by
  obtain ⟨⟨L, h1⟩, ⟨M, h2⟩, h3, h4, h5, h6⟩ := h
  have hl := own_len6 h1
  exact ⟨⟨_, own_six h1 (by omega) c⟩, ⟨M, own_keep h2 (fun x hx => heap_six _ _ _ _ x (fun e => h5 g rfl (by rw [← e]; exact hx)))⟩, h3, h4, h5, ch_six h6 (h3 g rfl)⟩
theorem Pr.app {v' : Value} {c : Cl} {wa : World} (h : Pr w0 D np nd pv dv wr) (hba : Below wr.heap.size wr wa) {L : List Cl} (ho : w1.ownsRow 0 37 6 v' (np + 1) (flatC L ++ flatC [c])) (hg : wa.grownBy w1 pv.ownBlock) (hat : v'.ownBlock = pv.ownBlock ∨ v'.ownBlock = some wa.heap.size) : Pr w0 D (np + 1) nd v' dv w1 := by
  have hh := h.below hba
  obtain ⟨_, ⟨M, h2⟩, h3, h4, h5, h6⟩ := hh
  have hs := h6.size
  have hsz := hba.size
  refine ⟨⟨L ++ [c], by rw [flatC_append]; exact ho⟩, ⟨M, own_grown h2 hg (fun x hx hy => h5 x hy hx)⟩, fun x hx => ?_, h4, fun x hx hy => ?_, h6.trans (Ch.of_grown (D := fun x => pv.ownBlock = some x) hg (fun x hx => hx)) (fun x hx => h3 x hx)⟩
  · rcases hat with e | e
    · rw [e] at hx; exact h3 x hx
    · rw [e] at hx; simp at hx; right; omega
  · rcases hat with e | e
    · rw [e] at hx; exact h5 x hx hy
    · rw [e] at hx; simp at hx
      have := (h2.lt x hy).2
      omega
theorem Pr.some (h : Pr w0 D np nd pv dv wr) (hn : 0 < np) : ∃ g cap, pv = .slice (Option.some ⟨g, 0, none⟩) np cap ∧ np ≤ cap ∧ cap ≤ maxLen := by
  obtain ⟨⟨L, h1⟩, _⟩ := h
  obtain ⟨g, cap, e, h2, h3, _⟩ := own_block h1 hn
  exact ⟨g, cap, e, h2, h3⟩
theorem Pr.form (h : Pr w0 D np nd pv dv wr) : ∃ a cap, pv = .slice a np cap ∧ cap ≤ maxLen := by
  obtain ⟨⟨L, h1⟩, _⟩ := h
  exact own_form h1
theorem Pr.at {g cap k : Nat} (h : Pr w0 D np nd (.slice (Option.some ⟨g, 0, none⟩) np cap) dv wr) (hk : k < np) : ∃ c : Cl, CA wr g (k * 6) c ∧ ∀ j, wr.frozen? ⟨g, j, none⟩ = false := by
  obtain ⟨⟨L, h1⟩, _⟩ := h
  have hl := own_len6 h1
  exact ⟨_, own_ca h1 k (by omega), h1.frozenAt⟩
end
/-- APPEND of one cell onto a row of the call's own: the row stays where it was, or is new. -/
theorem wpList_append_at2 {w : World} {ops : Array Oper} {rest : List Oper} {o : Oper} {a : Act} {Q : Exit → Act → World → Prop} (hgd : o.guard = none) (s x : Operand)
    (ho : o.op = .call { callee := .builtin .append, args := #[s, x], argTypes := #[22, 22] })
    (base : Nat) (v : Value) (n : Nat) (xs : List Value) (hs : a.eval s = v) (hown : w.ownsRow base 37 6 v n xs)
    (g : Nat) (c : Cl) (hx : a.eval x = .slice (some ⟨g, 0, none⟩) 1 1) (hy : CA w g 0 c)
    (h63 : n + 1 ≤ maxLen) (hbytes : (n + 1) * 48 ≤ 140737488355328) (hbase : base ≤ w.heap.size)
    (h : ∀ v' w', w'.ownsRow base 37 6 v' (n + 1) (xs ++ flatC [c]) → w.grownBy w' v.ownBlock → (v'.ownBlock = v.ownBlock ∨ v'.ownBlock = some w.heap.size) → wpList Try.prog ops Q rest (a.put o.dst v') w') : wpList Try.prog ops Q (o :: rest) a w := by
  obtain ⟨i0, hi, hz0, hz1, hz2⟩ := info_partsV info_cell
  refine wpList_append_own_at w hgd s x 22 ho base 37 i0 (.agg #[.int .u64 0, .bool false, .int .u64 0, .bool false, .int .u64 0, .int .i64 0]) 6 48 Try.underlying22 hi hz0 hz1 hz2 rfl (by decide) v n xs hs hown ⟨g, 0, none⟩ 1 1 (flatC [c]) hx (flatC_len [c]) ?_ (fun u hu => flatC_one' hu) h63 hbytes hbase
    (fun v' w' h1 h2 _ h4 => h v' w' h1 h2 h4)
  exact fun j u hj => cells_at (b := g) (off := 0) (l := [c]) (fun i hi j hj => by
    have : i = 0 := by simp at hi; omega
    subst this
    have hh := hy
    have : j = 0 ∨ j = 1 ∨ j = 2 ∨ j = 3 ∨ j = 4 ∨ j = 5 := by omega
    rcases this with rfl | rfl | rfl | rfl | rfl | rfl
    · simpa [clF] using hh.c0
    · simpa [clF] using hh.c1
    · simpa [clF] using hh.c2
    · simpa [clF] using hh.c3
    · simpa [clF] using hh.c4
    · simpa [clF] using hh.c5) j u hj
def lc (k x : Nat) : Cl := ⟨k, noV, ⟨true, x⟩, 1⟩
theorem cv_four (w : World) (a b c d : Cl) : Cv (w.alloc (Obj.cells #[.int .u64 a.k, .bool a.p.h, .int .u64 a.p.b, .bool a.c.h, .int .u64 a.c.b, .int .i64 a.n, .int .u64 b.k, .bool b.p.h, .int .u64 b.p.b, .bool b.c.h, .int .u64 b.c.b, .int .i64 b.n, .int .u64 c.k, .bool c.p.h, .int .u64 c.p.b, .bool c.c.h, .int .u64 c.c.b, .int .i64 c.n, .int .u64 d.k, .bool d.p.h, .int .u64 d.p.b, .bool d.c.h, .int .u64 d.c.b, .int .i64 d.n] 37)) (.slice (some ⟨w.heap.size, 0, none⟩) 4 4) [a, b, c, d] := by
  refine cv_of (l := [a, b, c, d]) (by simp) (by simp [maxLen]) (fun i hi => ?_)
  have : i = 0 ∨ i = 1 ∨ i = 2 ∨ i = 3 := by simp at hi; omega
  rcases this with rfl | rfl | rfl | rfl <;> constructor <;> simp [go_sem]
theorem put_len (l : List Cl) (c : Cl) : (putR l c).1.length ≤ l.length + 1 := by
  unfold putR
  have := fnd_le l c.k
  repeat' split
  all_goals simp; try omega
theorem drop_len (l : List Cl) (k : Nat) : (dropR l k).1.length ≤ l.length := by
  unfold dropR
  have := fnd_le l k
  repeat' split
  all_goals simp; try omega
/-- A row of bytes of the call's own, whatever they are; nothing but D's blocks has turned since w0. -/
structure Br1 (w0 : World) (D : Nat → Prop) (n : Nat) (v : Value) (wr : World) : Prop where
  o : ∃ L : List Int, wr.ownsRow 0 5 1 v n (L.map (Value.int .u8))
  p : ∀ x, v.ownBlock = some x → D x
  ch : Ch D w0 wr
theorem Br1.set {w0 wr : World} {D : Nat → Prop} {n g cap k : Nat} (h : Br1 w0 D n (.slice (some ⟨g, 0, none⟩) n cap) wr) (x : Int) : Br1 w0 D n (.slice (some ⟨g, 0, none⟩) n cap) (wr.setCell ⟨g, k, none⟩ (.int .u8 x)) := by
  obtain ⟨⟨L, h1⟩, h2, h3⟩ := h
  exact ⟨⟨L.set k x, by rw [List.map_set]; exact (h1.stored k _).1⟩, h2, h3.trans (ch_set _ g k _) (fun y hy => by rw [hy]; exact .inl (h2 g rfl))⟩
theorem Br1.at {w0 wr : World} {D : Nat → Prop} {n g cap k : Nat} (h : Br1 w0 D n (.slice (some ⟨g, 0, none⟩) n cap) wr) (hk : k < n) : (∃ q, wr.cell? ⟨g, k, none⟩ = some q) ∧ wr.frozen? ⟨g, k, none⟩ = false := by
  obtain ⟨⟨L, h1⟩, _⟩ := h
  have hl : L.length = n := by have := h1.1; simpa using this
  refine ⟨⟨(L.map (Value.int .u8))[k]'(by simp; omega), ?_⟩, h1.frozenAt k⟩
  rw [h1.cellAt k (by omega)]
  exact List.getElem?_eq_getElem _
end Go.Proofs.Ytjcmmhonidamoaa
