/- What JournalGoes keeps. -/
import Derived.Test.YtcbkeicgnfgpnaaJr

namespace Go.Proofs.Ytcbkeicgnfgpnaa

open Ieee Go.RowKit



/-- Behind a turn is read: the journal, the note, the turn. -/
structure Gs (w : World) (A : Nat → Prop) (sb jb N T : Nat) (q : Int) (k : Nat) (J : Jn) (S : Dk) (pv cv : Value) (t : Tr) (ov : Value) (W : World) : Prop where
  lw : Lw w A sb jb q J S W
  gd : Gd q J S
  vn : Vn A N pv cv J.n W
  g : J.g ≤ k + 1
  b : J.n.b ≤ k
  a : J.n.a ≤ 3 * k
  wr : S.wr ≤ k + 2
  rd : S.rd ≤ 4 * k + 2
  base : ∀ x, A x → w.heap.size ≤ x
  tA : A T
  tb : W.heap[T]? = some (.cells #[ov, .int .i64 t.m, .bool t.s, .bool t.k, .int .i64 t.b] 59 (0, 0))
  tn : T ≠ N
  on : Nv w ov t.on
/-- Behind next: and its note. -/
structure Gt (w : World) (A : Nat → Prop) (sb jb N M : Nat) (q : Int) (k : Nat) (J : Jn) (S : Dk) (pv cv p2 c2 : Value) (t : Tr) (W : World) : Prop where
  lw : Lw w A sb jb q J S W
  gd : Gd q J S
  vn : Vn A N pv cv J.n W
  g : J.g ≤ k + 1
  b : J.n.b ≤ k
  a : J.n.a ≤ 3 * k
  wr : S.wr ≤ k + 2
  rd : S.rd ≤ 4 * k + 2
  base : ∀ x, A x → w.heap.size ≤ x
  mn : M ≠ N
  vm : Vn A M p2 c2 (nxtN J.n t) W
  np : InA (fun x => A x ∧ x ≠ N) p2
  nc : InA (fun x => A x ∧ x ≠ N) c2
section

variable {A E : Nat → Prop} {N T M sb jb jb' k : Nat} {pv cv p2 c2 ov : Value} {q : Int} {J : Jn} {S S' : Dk} {w wr w2 w3 : World} {t : Tr}

theorem Gs.ch (h : Gs w A sb jb N T q k J S pv cv t ov wr) (hl : Lw w A sb jb q J S w2) (hc : ChA w A wr w2) : Gs w A sb jb N T q k J S pv cv t ov w2 :=
  ⟨hl, h.gd, h.vn.chA hc, h.g, h.b, h.a, h.wr, h.rd, h.base, h.tA, blk_ch h.tb hc (fun x => x.2 h.tA), h.tn, h.on⟩
theorem Gs.more (h : Gs w A sb jb N T q k J S pv cv t ov wr) (hb : Below wr.heap.size wr w2) : Gs w (fun x => A x ∨ (wr.heap.size ≤ x ∧ x < w2.heap.size)) sb jb N T q k J S pv cv t ov w2 :=
  ⟨h.lw.more hb, h.gd, (h.vn.below hb).mono (fun x hx => .inl hx), h.g, h.b, h.a, h.wr, h.rd, fun x hx => by
    rcases hx with hx | hx
    · exact h.base x hx
    · exact Nat.le_trans h.lw.bel.size hx.1, .inl h.tA, blk_below h.tb hb, h.tn, h.on⟩
/-- A turn is read. -/
theorem Gs.of (h : Fit w A sb jb N q k J S pv cv wr) (hon : Nv w ov t.on) : Gs w (fun x => A x ∨ (wr.heap.size ≤ x ∧ x < (wr.alloc (Obj.cells #[ov, .int .i64 t.m, .bool t.s, .bool t.k, .int .i64 t.b] 59)).heap.size)) sb jb N wr.heap.size q k J S pv cv t ov (wr.alloc (Obj.cells #[ov, .int .i64 t.m, .bool t.s, .bool t.k, .int .i64 t.b] 59)) := by
  have hb := below_alloc wr (Obj.cells #[ov, .int .i64 t.m, .bool t.s, .bool t.k, .int .i64 t.b] 59)
  have hs := alloc_size wr (Obj.cells #[ov, .int .i64 t.m, .bool t.s, .bool t.k, .int .i64 t.b] 59)
  have hN := blk_lt h.vn.blk
  have := h.rd
  exact ⟨h.lw.more hb, h.gd, (h.vn.below hb).mono (fun x hx => .inl hx), h.g, h.b, h.a, h.wr, by omega, fun x hx => by
    rcases hx with hx | hx
    · exact h.base x hx
    · exact Nat.le_trans h.lw.bel.size hx.1, .inr ⟨Nat.le_refl _, by rw [hs]; omega⟩, alloc_at rfl, by omega, hon⟩
theorem Gs.rn (h : Gs w A sb jb N T q k J S pv cv t ov wr) (hk : k ≤ 1000) : Rgt (nxtN J.n t) q := by
  have h1 := h.b; have h2 := h.a
  exact nxt_rgt h.gd.ok.r (by omega) (by omega)
theorem Gt.rn (h : Gt w A sb jb N M q k J S pv cv p2 c2 t wr) (hk : k ≤ 1000) : Rgt (nxtN J.n t) q := by
  have h1 := h.b; have h2 := h.a
  exact nxt_rgt h.gd.ok.r (by omega) (by omega)
/-- The next note lies in a block of its own. -/
theorem Gt.of (h : Gs w A sb jb N T q k J S pv cv t ov wr) (hb : Below wr.heap.size wr w2) (hp : Nv w2 p2 (nxtN J.n t).p) (hc : Nv w2 c2 (nxtN J.n t).c) (hA : ∀ A : Nat → Prop, InA A pv → InA A cv → (∀ x, wr.heap.size ≤ x → x < w2.heap.size → A x) → InA A p2 ∧ InA A c2) :
    ∃ E : Nat → Prop, Gt w E sb jb N w2.heap.size q k J S pv cv p2 c2 t (w2.alloc (Obj.cells #[.int .i64 (nxtN J.n t).b, p2, c2, .int .i64 (nxtN J.n t).a] 41)) := by
  have hb3 := below_alloc w2 (Obj.cells #[.int .i64 (nxtN J.n t).b, p2, c2, .int .i64 (nxtN J.n t).a] 41)
  have hs := alloc_size w2 (Obj.cells #[.int .i64 (nxtN J.n t).b, p2, c2, .int .i64 (nxtN J.n t).a] 41)
  have hg := h.more (below_trans hb hb3)
  have hN := blk_lt h.vn.blk
  have hsz := hb.size
  have hlt : ∀ x, A x → x < wr.heap.size := h.lw.al
  obtain ⟨i1, i2⟩ := hA (fun x => ((A x ∨ (wr.heap.size ≤ x ∧ x < (w2.alloc (Obj.cells #[.int .i64 (nxtN J.n t).b, p2, c2, .int .i64 (nxtN J.n t).a] 41)).heap.size)) ∧ x ≠ N) ∧ x ≠ w2.heap.size)
    (fun a n c e => ⟨⟨.inl (h.vn.p.inA a n c e).1, (h.vn.p.inA a n c e).2⟩, by have := hlt _ (h.vn.p.inA a n c e).1; omega⟩) (fun a n c e => ⟨⟨.inl (h.vn.c.inA a n c e).1, (h.vn.c.inA a n c e).2⟩, by have := hlt _ (h.vn.c.inA a n c e).1; omega⟩) (fun x h1 h2 => ⟨⟨.inr ⟨h1, by rw [hs]; omega⟩, by omega⟩, by omega⟩)
  refine ⟨_, ⟨hg.lw, hg.gd, hg.vn, h.g, h.b, h.a, h.wr, h.rd, hg.base, by omega, ⟨.inr ⟨hsz, by rw [hs]; omega⟩, alloc_at rfl, ⟨hp.below hb3, fun a n c e => ⟨(i1 a n c e).1.1, (i1 a n c e).2⟩⟩, ⟨hc.below hb3, fun a n c e => ⟨(i2 a n c e).1.1, (i2 a n c e).2⟩⟩⟩, fun a n c e => (i1 a n c e).1, fun a n c e => (i2 a n c e).1⟩⟩
/-- Another journal on the same disk, the reads counted. -/
theorem Gt.turn (h : Gt w A sb jb N M q k J S pv cv p2 c2 t wr) (hl : Lw w A sb jb' q J S' w2) (hc : ChA w A wr w2) (hg : Gd q J S') (hw : S'.wr ≤ k + 2) (hr : S'.rd ≤ 4 * k + 2) : Gt w A sb jb' N M q k J S' pv cv p2 c2 t w2 :=
  ⟨hl, hg, h.vn.chA hc, h.g, h.b, h.a, hw, hr, h.base, h.mn, h.vm.chA hc, h.np, h.nc⟩
/-- The end of a turn: the note is written over by the next one. -/
theorem Gt.last {S2 : Dk} (h : Gt w A sb jb N M q k J S pv cv p2 c2 t wr) (hl : Lw w A sb jb' q ⟨J.g + 1, nxtN J.n t, 1 - J.h, false⟩ S2 w2) (hv : Vn A N p2 c2 (nxtN J.n t) w2) (hg : Gd q ⟨J.g + 1, nxtN J.n t, 1 - J.h, false⟩ S2) (hw : S2.wr ≤ k + 3) (hr : S2.rd ≤ 4 * k + 4) : Fit w A sb jb' N q (k + 1) ⟨J.g + 1, nxtN J.n t, 1 - J.h, false⟩ S2 p2 c2 w2 := by
  have h1 := h.g; have h2 := h.b; have h3 := h.a
  obtain ⟨a1, a2, a3, a4⟩ := nxt_ab (n := J.n) (t := t)
  exact ⟨hl, hg, hv, by show J.g + 1 ≤ _; omega, by show (nxtN J.n t).b ≤ _; omega, by show (nxtN J.n t).a ≤ _; omega, by omega, by omega, h.base⟩
end

end Go.Proofs.Ytcbkeicgnfgpnaa


