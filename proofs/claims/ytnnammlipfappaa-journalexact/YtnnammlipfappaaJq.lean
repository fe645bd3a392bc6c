/- Turns handed in; a note of the statement's own beside the journal. -/
import Derived.Test.YtnnammlipfappaaJp

namespace Go.Proofs.Ytnnammlipfappaa

open Ieee Go.RowKit



def zeroT : Tr := ⟨[], 0, false, false, 0⟩
def tth (ts : List Tr) (i : Nat) : Tr := ts.getD i zeroT
/-- The value v is a slice of turns that holds ts. -/
def Tus (w : World) (v : Value) (ts : List Tr) : Prop := ∃ ao cap, v = .slice ao ts.length cap ∧ ts.length ≤ cap ∧ cap ≤ maxLen ∧ ∀ i, i < ts.length → ∃ b off ov, ao = some ⟨b, off, none⟩ ∧ w.cell? ⟨b, off + i * 5, none⟩ = some ov ∧ w.cell? ⟨b, off + i * 5 + 1, none⟩ = some (.int .i64 (tth ts i).m) ∧ w.cell? ⟨b, off + i * 5 + 2, none⟩ = some (.bool (tth ts i).s) ∧ w.cell? ⟨b, off + i * 5 + 3, none⟩ = some (.bool (tth ts i).k) ∧ w.cell? ⟨b, off + i * 5 + 4, none⟩ = some (.int .i64 (tth ts i).b) ∧ Nv w ov (tth ts i).on
theorem Tus.below {w w' : World} {v : Value} {ts : List Tr} (h : Tus w v ts) (hb : Below w.heap.size w w') : Tus w' v ts := by
  obtain ⟨ao, cap, e, h1, h2, h3⟩ := h
  refine ⟨ao, cap, e, h1, h2, fun i hi => ?_⟩
  obtain ⟨b, off, ov, e1, c0, c1, c2, c3, c4, hn⟩ := h3 i hi
  exact ⟨b, off, ov, e1, by rw [hb.cell (p := ⟨b, off + i * 5, none⟩) (cell_lt c0)]; exact c0, by rw [hb.cell (p := ⟨b, off + i * 5 + 1, none⟩) (cell_lt c1)]; exact c1, by rw [hb.cell (p := ⟨b, off + i * 5 + 2, none⟩) (cell_lt c2)]; exact c2, by rw [hb.cell (p := ⟨b, off + i * 5 + 3, none⟩) (cell_lt c3)]; exact c3, by rw [hb.cell (p := ⟨b, off + i * 5 + 4, none⟩) (cell_lt c4)]; exact c4, hn.below hb⟩
theorem Kl.keep {D E : Nat → Prop} {w w' : World} {v : Value} {l : List Int} (h : Kl E w v l) (hc : Ch D w w') (hd : ∀ x, E x → ¬ D x) : Kl E w' v l := by
  obtain ⟨⟨⟨ao, cap, e, h1, h2, h3, h4⟩, h5⟩, h6⟩ := h
  refine ⟨⟨⟨ao, cap, e, h1, h2, h3, fun i hi => ?_⟩, h5⟩, h6⟩
  obtain ⟨b, off, e2, c⟩ := h4 i hi
  subst e2
  exact ⟨b, off, rfl, by rw [World.cell?_of_block (w := w) (a := ⟨b, off + i, none⟩) (hc.block b (cell_lt c) (hd _ (h6 _ _ _ e)))]; exact c⟩
theorem blk_ch {D : Nat → Prop} {w w' : World} {g : Nat} {o : Obj} (h : w.heap[g]? = some o) (hc : Ch D w w') (hd : ¬ D g) : w'.heap[g]? = some o := by rw [hc.block g (blk_lt h) hd]; exact h


/-- A note m in block N, its lists in blocks of A other than N. -/
structure Vn (A : Nat → Prop) (N : Nat) (pv cv : Value) (m : Nt) (w : World) : Prop where
  a : A N
  blk : w.heap[N]? = some (.cells #[.int .i64 m.b, pv, cv, .int .i64 m.a] 41 (0, 0))
  p : Kl (fun x => A x ∧ x ≠ N) w pv m.p
  c : Kl (fun x => A x ∧ x ≠ N) w cv m.c
section

variable {A E : Nat → Prop} {N : Nat} {pv cv p' c' : Value} {m m' : Nt} {w w' wz : World}

theorem Vn.below (h : Vn A N pv cv m w) (hb : Below w.heap.size w w') : Vn A N pv cv m w' := ⟨h.a, blk_below h.blk hb, h.p.below hb, h.c.below hb⟩
theorem Vn.ch {D : Nat → Prop} (h : Vn A N pv cv m w) (hc : Ch D w w') (hd : ∀ x, A x → ¬ D x) : Vn A N pv cv m w' := ⟨h.a, blk_ch h.blk hc (hd N h.a), h.p.keep hc (fun x hx => hd x hx.1), h.c.keep hc (fun x hx => hd x hx.1)⟩
theorem Vn.chA (h : Vn A N pv cv m w) (hc : ChA wz A w w') : Vn A N pv cv m w' := h.ch hc (fun _ hx hd => hd.2 hx)
theorem Vn.mono (h : Vn A N pv cv m w) (hE : ∀ x, A x → E x) : Vn E N pv cv m w := ⟨hE _ h.a, h.blk, h.p.mono (fun x hx => ⟨hE x hx.1, hx.2⟩), h.c.mono (fun x hx => ⟨hE x hx.1, hx.2⟩)⟩
theorem Vn.forms (h : Vn A N pv cv m w) : ∃ po pc co cc, pv = .slice po m.p.length pc ∧ cv = .slice co m.c.length cc := by
  obtain ⟨⟨po, pc, e1, _⟩, _⟩ := h.p.nv
  obtain ⟨⟨co, cc, e2, _⟩, _⟩ := h.c.nv
  exact ⟨po, pc, co, cc, e1, e2⟩
/-- The note is written over. -/
theorem Vn.set (h : Vn A N pv cv m w) (hp : Kl (fun x => A x ∧ x ≠ N) w p' m'.p) (hc : Kl (fun x => A x ∧ x ≠ N) w c' m'.c) : Vn A N p' c' m' ((((w.setCell ⟨N, 0, none⟩ (.int .i64 m'.b)).setCell ⟨N, 1, none⟩ p').setCell ⟨N, 2, none⟩ c').setCell ⟨N, 3, none⟩ (.int .i64 m'.a)) := by
  have hch : Ch (fun x => x = N) w ((((w.setCell ⟨N, 0, none⟩ (.int .i64 m'.b)).setCell ⟨N, 1, none⟩ p').setCell ⟨N, 2, none⟩ c').setCell ⟨N, 3, none⟩ (.int .i64 m'.a)) := Ch.of_grown (grown_set4 _ _ _ _ _ _) (fun x hx => by cases hx; rfl)
  exact ⟨h.a, by rw [set_row (set_row (set_row (set_row h.blk _ _) _ _) _ _)]; rfl, hp.keep hch (fun x hx => hx.2), hc.keep hch (fun x hx => hx.2)⟩
end

/-- A journal and a note of one's own. -/
structure Fit (w : World) (A : Nat → Prop) (sb jb N : Nat) (q : Int) (k : Nat) (J : Jn) (S : Dk) (pv cv : Value) (wr : World) : Prop where
  lw : Lw w A sb jb q J S wr
  gd : Gd q J S
  vn : Vn A N pv cv J.n wr
  g : J.g ≤ k + 1
  b : J.n.b ≤ k
  a : J.n.a ≤ 3 * k
  wr : S.wr ≤ k + 2
  rd : S.rd ≤ 4 * k
  base : ∀ x, A x → w.heap.size ≤ x
section

variable {A : Nat → Prop} {N sb jb k : Nat} {pv cv p' c' : Value} {q : Int} {J : Jn} {S : Dk} {w wr w2 w3 w4 : World} {t : Tr}

theorem Fit.rn (h : Fit w A sb jb N q k J S pv cv wr) (hk : k ≤ 1000) : Rgt (nxtN J.n t) q := by
  have h1 := h.b; have h2 := h.a
  exact nxt_rgt h.gd.ok.r (by omega) (by omega)
theorem Fit.b64 (h : Fit w A sb jb N q k J S pv cv wr) (hk : k ≤ 1000) : -9223372036854775808 ≤ (nxtN J.n t).b ∧ (nxtN J.n t).b < 9223372036854775808 := by
  have h1 := (h.rn (t := t) hk).b0; have h2 := (h.rn (t := t) hk).b1
  constructor <;> omega
/-- What next has made is laid into the note. -/
theorem Fit.step (h : Fit w A sb jb N q k J S pv cv wr) (hb : Below wr.heap.size wr w2) (hp : Nv w2 p' (nxtN J.n t).p) (hc : Nv w2 c' (nxtN J.n t).c) (hA : ∀ A : Nat → Prop, InA A pv → InA A cv → (∀ x, wr.heap.size ≤ x → x < w2.heap.size → A x) → InA A p' ∧ InA A c') :
    Lw w (fun x => A x ∨ (wr.heap.size ≤ x ∧ x < w2.heap.size)) sb jb q J S ((((w2.setCell ⟨N, 0, none⟩ (.int .i64 (nxtN J.n t).b)).setCell ⟨N, 1, none⟩ p').setCell ⟨N, 2, none⟩ c').setCell ⟨N, 3, none⟩ (.int .i64 (nxtN J.n t).a)) ∧
    Vn (fun x => A x ∨ (wr.heap.size ≤ x ∧ x < w2.heap.size)) N p' c' (nxtN J.n t) ((((w2.setCell ⟨N, 0, none⟩ (.int .i64 (nxtN J.n t).b)).setCell ⟨N, 1, none⟩ p').setCell ⟨N, 2, none⟩ c').setCell ⟨N, 3, none⟩ (.int .i64 (nxtN J.n t).a)) ∧ (∀ x, (A x ∨ (wr.heap.size ≤ x ∧ x < w2.heap.size)) → w.heap.size ≤ x) := by
  have hl := h.lw.more hb
  have hbase : ∀ x, (A x ∨ (wr.heap.size ≤ x ∧ x < w2.heap.size)) → w.heap.size ≤ x := fun x hx => by
    rcases hx with hx | hx
    · exact h.base x hx
    · exact Nat.le_trans h.lw.bel.size hx.1
  have hN := blk_lt h.vn.blk
  have hv : Vn (fun x => A x ∨ (wr.heap.size ≤ x ∧ x < w2.heap.size)) N pv cv J.n w2 := (h.vn.below hb).mono (fun x hx => .inl hx)
  obtain ⟨i1, i2⟩ := hA (fun x => (A x ∨ (wr.heap.size ≤ x ∧ x < w2.heap.size)) ∧ x ≠ N) (fun a n c e => ⟨.inl (h.vn.p.inA a n c e).1, (h.vn.p.inA a n c e).2⟩) (fun a n c e => ⟨.inl (h.vn.c.inA a n c e).1, (h.vn.c.inA a n c e).2⟩) (fun x h1 h2 => ⟨.inr ⟨h1, h2⟩, by omega⟩)
  refine ⟨hl.write (Ch.of_grown (grown_set4 _ _ _ _ _ _) (fun x hx => by cases hx; exact .inl h.vn.a)) hbase, hv.set ⟨hp, i1⟩ ⟨hc, i2⟩, hbase⟩
/-- The note is saved. -/
theorem Fit.saved {E : Nat → Prop} (h : Fit w A sb jb N q k J S pv cv wr) (hk : k ≤ 1000) (hl : Lw w E sb jb q (savJ J S q (nxtN J.n t)) (savS J S q (nxtN J.n t)) w4) (hv : Vn E N p' c' (nxtN J.n t) w4) (hb : ∀ x, E x → w.heap.size ≤ x) :
    savI J S q (nxtN J.n t) = 0 ∧ Fit w E sb jb N q (k + 1) ⟨J.g + 1, nxtN J.n t, 1 - J.h, false⟩ (putS S (1 - J.h) (bytN (J.g + 1) (nxtN J.n t))) p' c' w4 := by
  have h1 := h.g; have h2 := h.b; have h3 := h.a; have h4 := h.wr; have h5 := h.rd
  obtain ⟨e1, e2, e3⟩ := h.gd.save (h.rn (t := t) hk) nxt_fol (by omega)
  rw [e2, e3] at hl
  obtain ⟨a1, a2, a3, a4⟩ := nxt_ab (n := J.n) (t := t)
  refine ⟨e1, ⟨hl, h.gd.next (h.rn hk) (by omega), hv, by show J.g + 1 ≤ _; omega, by show (nxtN J.n t).b ≤ _; omega, by show (nxtN J.n t).a ≤ _; omega, by show S.wr + 1 ≤ _; omega, by show S.rd ≤ _; omega, hb⟩⟩
end

end Go.Proofs.Ytnnammlipfappaa


