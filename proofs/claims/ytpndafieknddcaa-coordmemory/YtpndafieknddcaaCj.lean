/- begin: a new attempt. -/
import Derived.Test.YtpndafieknddcaaM18
import Derived.Maps.AppendAt
import Derived.Deep.CutBlock
namespace Go.Proofs.Ytpndafieknddcaa

open Ieee Go.RowKit

/-- The answer: no message, or one, in blocks of B. -/
def MgR (B : Nat → Prop) (w : World) (v : Value) : Option Ms → Prop
  | none => v = .slice none 0 0
  | some m => ∃ g ev, v = .slice (some ⟨g, 0, none⟩) 1 1 ∧ w.heap[g]? = some (.cells #[.int .i64 m.K, .int .i64 m.F, .int .i64 m.T, .int .i64 m.B, .int .i64 m.A, .int .i64 m.C, ev, .slice none 0 0, .slice none 0 0] 41 (0, 0)) ∧ OwN 0 w ev m.E ∧ B g ∧ ∀ x, ev.ownBlock = some x → B x
/-- What a call that may send answers. -/
def CwM (wz : World) (A : Nat → Prop) (sb cb : Nat) (c' : Cs) (mo : Option Ms) (er : Int) (w : World) (e : Ending) (w' : World) : Prop := ∃ v B, e = .returned (.tuple #[v, .int .i64 er]) ∧ MgR B w' v mo ∧ (∀ x, B x → w.heap.size ≤ x) ∧ CW wz (fun x => A x ∨ B x) sb cb c' w' ∧ ChA wz A w w'
/-- The note in a block of its own. -/
def NbR (w : World) (n : Nt) (nv : Value) (wx : World) : Prop := ∃ (NB : Nat) (pa ca : Option Addr) (pc cc : Nat), nv = .pointer (some ⟨NB, 0, none⟩) ∧ wx.heap[NB]? = some (.cells #[.int .i64 n.b, .slice pa n.p.length pc, .slice ca n.c.length cc, .int .i64 n.a] 53 (0, 0)) ∧ OwN w.heap.size wx (.slice pa n.p.length pc) n.p ∧ OwN w.heap.size wx (.slice ca n.c.length cc) n.c ∧ w.heap.size ≤ NB ∧ Below w.heap.size w wx
theorem nb_new {w w9 : World} {n : Nt} {pa ca : Option Addr} {pc cc : Nat} (hS : Below w.heap.size w w9) (h1 : OwN w.heap.size w9 (.slice pa n.p.length pc) n.p) (h2 : OwN w.heap.size w9 (.slice ca n.c.length cc) n.c) : NbR w n (.pointer (some ⟨w9.heap.size, 0, none⟩)) (w9.alloc (Obj.cells #[.int .i64 n.b, .slice pa n.p.length pc, .slice ca n.c.length cc, .int .i64 n.a] 53)) :=
  ⟨_, pa, ca, pc, cc, rfl, alloc_at rfl, own_below h1 (below_alloc _ _), own_below h2 (below_alloc _ _), hS.size, below_trans hS (below_alloc _ _)⟩
theorem nb_old {w w9 : World} {n : Nt} {pa ca : Option Addr} {pc cc : Nat} (hS : Below w.heap.size w w9) (hz : w9.heap[w.heap.size]? = some (.cells #[.int .i64 0, .slice none 0 0, .slice none 0 0, .int .i64 0] 53 (0, 0))) (h1 : OwN (w.heap.size + 1) w9 (.slice pa n.p.length pc) n.p) (h2 : OwN (w.heap.size + 1) w9 (.slice ca n.c.length cc) n.c) :
    NbR w n (.pointer (some ⟨w.heap.size, 0, none⟩)) ((((w9.setCell ⟨w.heap.size, 0, none⟩ (.int .i64 n.b)).setCell ⟨w.heap.size, 1, none⟩ (.slice pa n.p.length pc)).setCell ⟨w.heap.size, 2, none⟩ (.slice ca n.c.length cc)).setCell ⟨w.heap.size, 3, none⟩ (.int .i64 n.a)) := by
  have hg := grown_set4 w9 w.heap.size (.int .i64 n.b) (.slice pa n.p.length pc) (.slice ca n.c.length cc) (.int .i64 n.a)
  have hk : ∀ x, x < w9.heap.size → x ≠ w.heap.size → ((((w9.setCell ⟨w.heap.size, 0, none⟩ (.int .i64 n.b)).setCell ⟨w.heap.size, 1, none⟩ (.slice pa n.p.length pc)).setCell ⟨w.heap.size, 2, none⟩ (.slice ca n.c.length cc)).setCell ⟨w.heap.size, 3, none⟩ (.int .i64 n.a)).heap[x]? = w9.heap[x]? := fun x hx hn => hg.block x hx (fun e => hn (by simpa using e))
  refine ⟨_, pa, ca, pc, cc, rfl, by rw [set_row (set_row (set_row (set_row hz _ _) _ _) _ _)]; rfl, ?_, ?_, Nat.le_refl _, hS.grown hg hS.size (fun x hx => by cases hx; omega)⟩
  · refine own_base (row_keep h1 fun x hx => hk x (h1.lt x hx).2 ?_) (by omega)
    have := (h1.lt x hx).1; omega
  · refine own_base (row_keep h2 fun x hx => hk x (h2.lt x hx).2 ?_) (by omega)
    have := (h2.lt x hx).1; omega
theorem zero_nt {w2 w9 : World} {cs : Array Value} {T : TypeId} (h : Below (w2.drew.alloc (Obj.cells cs T)).heap.size (w2.drew.alloc (Obj.cells cs T)) w9) : w9.heap[w2.heap.size]? = some (.cells cs T (0, 0)) := blk_below (alloc_at (w := w2.drew) (o := Obj.cells cs T) (k := w2.heap.size) rfl) h
theorem zero_ow {w2 w9 : World} {o : Obj} {e n : Nat} {v : Value} {xs : List Value} (h : w9.ownsRow (w2.drew.alloc o).heap.size e 1 v n xs) : w9.ownsRow (w2.heap.size + 1) e 1 v n xs := own_base h (by rw [alloc_size]; exact Nat.le_refl _)
def frm (c : Cs) : List Int := (c.L.getLast?.map Yt.e).getD c.J.n.c
def newY (c : Cs) : Yt := ⟨c.J.n.b + c.L.length + 1, c.J.n.a + 1, c.p.worker (c.J.n.a + 1), 1, 0, frm c, []⟩
def begN (c : Cs) : Nt := { c.J.n with a := c.J.n.a + 1 }
def begI (c : Cs) : Int := savI c.J c.S c.p.P (begN c)
def begC (c : Cs) : Cs := { c with J := savJ c.J c.S c.p.P (begN c), S := savS c.J c.S c.p.P (begN c), L := if begI c = 0 then c.L ++ [newY c] else c.L }
def begE (c : Cs) : Int := if begI c = 0 then 0 else tolI (begI c)
def begM (c : Cs) : Option Ms := if begI c = 0 then some (abtM 1 (newY c) (frm c)) else none
/-- A new try in a block of its own. -/
def TbR (w : World) (y : Yt) (tv : Value) (wx : World) : Prop := ∃ (TB : Nat) (fa : Option Addr) (fc : Nat), tv = .pointer (some ⟨TB, 0, none⟩) ∧ wx.heap[TB]? = some (.cells #[.int .i64 y.b, .int .i64 y.a, .int .i64 y.n, .int .i64 y.h, .int .i64 y.t, .slice fa y.f.length fc, .slice none 0 0] 43 (0, 0)) ∧ OwN w.heap.size wx (.slice fa y.f.length fc) y.f ∧ w.heap.size ≤ TB ∧ Below w.heap.size w wx
theorem tb_new {w w9 : World} {y : Yt} {fa : Option Addr} {fc : Nat} (hS : Below w.heap.size w w9) (h1 : OwN w.heap.size w9 (.slice fa y.f.length fc) y.f) : TbR w y (.pointer (some ⟨w9.heap.size, 0, none⟩)) (w9.alloc (Obj.cells #[.int .i64 y.b, .int .i64 y.a, .int .i64 y.n, .int .i64 y.h, .int .i64 y.t, .slice fa y.f.length fc, .slice none 0 0] 43)) :=
  ⟨_, fa, fc, rfl, alloc_at rfl, own_below h1 (below_alloc _ _), hS.size, below_trans hS (below_alloc _ _)⟩
def set7 (w : World) (P : Nat) (y : Yt) (fv ev : Value) : World := ((((((w.setCell ⟨P, 0, none⟩ (.int .i64 y.b)).setCell ⟨P, 1, none⟩ (.int .i64 y.a)).setCell ⟨P, 2, none⟩ (.int .i64 y.n)).setCell ⟨P, 3, none⟩ (.int .i64 y.h)).setCell ⟨P, 4, none⟩ (.int .i64 y.t)).setCell ⟨P, 5, none⟩ fv).setCell ⟨P, 6, none⟩ ev
theorem ch_set7 (w : World) (P : Nat) (y : Yt) (fv ev : Value) : Ch (fun x => x = P) w (set7 w P y fv ev) := ((((((ch_set _ _ _ _).self (ch_set _ _ _ _)).self (ch_set _ _ _ _)).self (ch_set _ _ _ _)).self (ch_set _ _ _ _)).self (ch_set _ _ _ _)).self (ch_set _ _ _ _)
theorem own_not {w : World} {b n : Nat} {v : Value} {l : List Int} {N : Nat} {cs : Array Value} {T : TypeId} (ho : w.ownsRow b 3 1 v n (cellsN l)) (hN : w.heap[N]? = some (.cells cs T (0, 0))) (hT : T ≠ 3) : ∀ x, v.ownBlock = some x → x ≠ N := by
  intro x hx e
  subst e
  rcases ho.2 with ⟨q, _⟩ | ⟨g, cap, cur, rfl, _, hh, _⟩
  · rw [q] at hx; cases hx
  · have e1 : g = x := Option.some.inj hx
    subst e1
    rw [hh] at hN
    injection hN with h3
    injection h3 with _ h4
    exact hT h4.symm
theorem tb_old {w w9 : World} {y : Yt} {fa : Option Addr} {fc TB : Nat} (hS : Below w.heap.size w w9) (hT : w.heap.size ≤ TB) (hz : w9.heap[TB]? = some (.cells zeroY 43 (0, 0))) (h1 : OwN w.heap.size w9 (.slice fa y.f.length fc) y.f) : TbR w y (.pointer (some ⟨TB, 0, none⟩)) (set7 w9 TB y (.slice fa y.f.length fc) (.slice none 0 0)) := by
  have hc := ch_set7 w9 TB y (.slice fa y.f.length fc) (.slice none 0 0)
  refine ⟨TB, fa, fc, rfl, ?_, row_keep h1 fun x hx => hc.block x (h1.lt x hx).2 ?_, hT, hS.trans (hc.to_below hS.size (fun x hx => by rw [hx]; exact hT))⟩
  · unfold set7
    rw [set_row (set_row (set_row (set_row (set_row (set_row (set_row hz _ _) _ _) _ _) _ _) _ _) _ _)]
    rfl
  · exact own_not h1 hz (by decide) x hx
theorem step_app_try {ops : Array Oper} {o : Oper} {a : Act} {w : World} {K : Act → World → Prop} {Q : Exit → Act → World → Prop} {E : Prop}
    (hg : o.guard = none) (s x : Operand) (hop : o.op = Op.call { callee := Callee.builtin Builtin.append, args := #[s, x], argTypes := #[44, 44] })
    {base : Nat} (v : Value) (n : Nat) (xs : List Value) (hs : a.eval s = v) (hown : w.ownsRow base 43 7 v n xs)
    (q : Nat) (en : Ye) (hx : a.eval x = .slice (some ⟨q, 0, none⟩) 1 1) (hnews : ∀ j u, (cellsY en)[j]? = some u → w.cell? ⟨q, j, none⟩ = some u) (h1 : ∀ u ∈ cellsY en, u.oneCell' = true) (hn : n ≤ 5000) (hb : base ≤ w.heap.size)
    (hK : ∀ v' w', w'.ownsRow base 43 7 v' (n + 1) (xs ++ cellsY en) → w.grownBy w' v.ownBlock → (v'.ownBlock = v.ownBlock ∨ v'.ownBlock = some w.heap.size) → K (a.put o.dst v') w') :
    if Region.wanted o (yielded ops a.tmps) = true then Oper.wp Try.prog o a w K Q else E := by
  have hw : Region.wanted o (yielded ops a.tmps) = true := by simp [Region.wanted, hg]
  rw [if_pos hw]
  obtain ⟨i0, hi, hz0, hz1, hz2⟩ := info_partsY info_try
  obtain ⟨v', w', hrun, r1, r2, _, r4⟩ := run_append_own_at (P := Try.prog) w base 44 o.type 43 i0 _ 7 88 Try.underlying44 hi hz0 hz1 hz2 rfl (by decide) v n xs hown ⟨q, 0, none⟩ 1 1 (cellsY en) rfl (fun j u hj => by rw [WideShapes.add_plain, Nat.zero_add]; exact hnews j u hj) h1 (by unfold maxLen; omega) (by omega) hb
  unfold Oper.wp
  simp [execOp, hop, resolve, invoke, builtin, hs, hx, hrun, Result.andThen]
  exact hK v' w' r1 r2 r4
theorem Lw.grow {wz w w' : World} {A E : Nat → Prop} {sb jb : Nat} {q : Int} {J : Jn} {S : Dk} (h : Lw wz A sb jb q J S w) (hc : Ch E w w') (hE : ∀ x, E x → A x) (hz : ∀ x, E x → wz.heap.size ≤ x) : Lw wz (fun x => A x ∨ (w.heap.size ≤ x ∧ x < w'.heap.size)) sb jb q J S w' := by
  obtain ⟨D, K, h1, h2⟩ := h.ex
  refine ⟨⟨D, K, h1.ch hc (fun x hx he => (h2 x hx).2 (hE x he)), fun x hx => ⟨(h2 x hx).1, ?_⟩⟩, h.bel.trans (hc.to_below h.bel.size hz), fun x hx => ?_⟩
  · rintro (h3 | h3)
    · exact (h2 x hx).2 h3
    · rcases hx with hx | hx
      · have := h1.d.lt hx; omega
      · have := h1.j.lt hx; omega
  · rcases hx with hx | hx
    · exact Nat.lt_of_lt_of_le (h.al x hx) hc.size
    · exact hx.2
theorem worker19 {c : Cs} {w : World} (hok : c.ok) (a : Int) (ha : a < 9223372036854775808) : Calls Try.prog 50 #[.agg #[.int .i64 c.p.P, .int .i64 c.p.S, .int .i64 c.p.W, .slice none 0 0, .int .i64 c.p.A, .int .i64 c.p.B, .int .i64 c.p.N, .int .i64 c.p.G], .int .i64 a] w fun e w' => e = .returned (.int .i64 (c.p.worker a)) ∧ Below w.heap.size w w' := by
  refine worker_walk (p := c.p) a ha ?_
  rw [hok.pn]
  exact ⟨⟨none, 0, rfl, Nat.le_refl _, by simp [maxLen], fun _ => rfl, fun i hi => by simp at hi⟩, by simp⟩
theorem push_end {wz w3 w4 w5 : World} {A C : Nat → Prop} {sb cb jb : Nat} {c : Cs} {V : List Ye} {tv v' : Value} {x : Ye} {o : Obj} {J' : Jn} {S' : Dk} {A1 : Nat → Prop} (hok : c.ok) (h1 : ∀ b, C b → wz.heap.size ≤ b ∧ ¬ A b) (hA : ∀ b, A b ∨ C b → A1 b) (hAl : ∀ b, A b → b < w3.heap.size)
    (h2 : Lw wz A1 sb jb c.p.P J' S' w3) (h3 : CM C w3 cb (Pt sb) (Pt jb) c.p tv V c.o) (hb : Below w3.heap.size w3 w4) (hf : OwN w3.heap.size w4 x.fv x.y.f) (he : x.ev = .slice none 0 0 ∧ x.y.e = []) (hxo : x.y.ok) (hl : V.length < 4)
    (hr : w5.ownsRow 0 43 7 v' (V.length + 1) (flatY V ++ cellsY x)) (hg : (w4.alloc o).grownBy w5 tv.ownBlock) (hat : v'.ownBlock = tv.ownBlock ∨ v'.ownBlock = some (w4.alloc o).heap.size) :
    CW wz A sb cb { c with J := J', S := S', L := V.map Ye.y ++ [x.y] } (w5.setCell ⟨cb, 10, none⟩ v') ∧ Ch (fun b => b = cb ∨ tv.ownBlock = some b) w3 (w5.setCell ⟨cb, 10, none⟩ v') ∧ Yl (w5.setCell ⟨cb, 10, none⟩ v') x := by
  have hb2 : Below w3.heap.size w3 (w4.alloc o) := below_trans hb (below_alloc _ _)
  have hs4 := hb2.size
  have hc5 : Ch (fun b => tv.ownBlock = some b) (w4.alloc o) w5 := Ch.of_grown hg (fun y hy => hy)
  have hc35 : Ch (fun b => tv.ownBlock = some b) w3 w5 := (Ch.of_below hb2).self hc5
  have hc6 : Ch (fun b => b = cb ∨ tv.ownBlock = some b) w3 (w5.setCell ⟨cb, 10, none⟩ v') := (ch_le hc35 (fun b hb => .inr hb)).trans (ch_set w5 cb 10 v') (fun b hb => .inl (.inl hb))
  have hEC : ∀ b, b = cb ∨ tv.ownBlock = some b → C b := by
    rintro b (rfl | hb)
    · exact h3.kc
    · exact (h3.kr b hb).1
  have hs6 : (w5.setCell ⟨cb, 10, none⟩ v').heap.size = w5.heap.size := by simp [go_sem]
  have hcv : ∀ b, v'.ownBlock = some b → (C b ∨ (w3.heap.size ≤ b ∧ b < w5.heap.size)) ∧ b ≠ cb := by
    intro b hb'
    rcases hat with q | q
    · rw [q] at hb'; exact ⟨.inl (h3.kr b hb').1, (h3.kr b hb').2⟩
    · have hlt := (hr.lt b hb').2
      rw [q] at hb'
      have e : (w4.alloc o).heap.size = b := Option.some.inj hb'
      have := h3.lt
      exact ⟨.inr ⟨by omega, hlt⟩, by omega⟩
  have hf5 : OwN 0 w5 x.fv x.y.f := by
    have h9 := own_below hf (below_alloc w4 o)
    refine own_base (row_keep h9 fun b hb' => hc5.block b (h9.lt b hb').2 ?_) (Nat.zero_le _)
    intro e
    have e1 := (hf.lt b hb').1
    have e2 := h3.kl b (h3.kr b e).1
    omega
  have hyx : Yo (fun b => C b ∨ (w3.heap.size ≤ b ∧ b < w5.heap.size)) w5 x := by
    refine ⟨hf5, by rw [he.1, he.2]; exact World.ownsRow_nil _ _ _ _, fun b hb' => .inr ⟨(hf.lt b hb').1, (hf5.lt b hb').2⟩, fun b hb' => (by rw [he.1] at hb'; cases hb'), hxo⟩
  have hM : CM (fun b => C b ∨ (w3.heap.size ≤ b ∧ b < w5.heap.size)) (w5.setCell ⟨cb, 10, none⟩ v') cb (Pt sb) (Pt jb) c.p v' (V ++ [x]) c.o := by
    refine cm_turn (tv := tv) (o := c.o) ?_ (.inl h3.kc) (fun b hb' => ?_) rfl (by rw [List.length_append, flatY_app, flatY_one]; exact hr) (fun y hy => ?_) hcv
    · rw [hc35.block cb h3.lt (fun e => (h3.kr cb e).2 rfl)]; exact h3.head
    · rcases hb' with q | q
      · exact Nat.lt_of_lt_of_le (h3.kl b q) hc35.size
      · exact q.2
    · rcases List.mem_append.1 hy with q | q
      · exact ((h3.ls y q).rowset h3.row (fun b hb' hl' => hc35.block b hl' hb')).mono (fun b hb' => .inl hb')
      · rw [List.mem_singleton] at q; rw [q]; exact hyx
  refine ⟨⟨⟨_, jb, v', V ++ [x], fun b hb' => ?_, ?_, hM, by simp⟩, ⟨hok.pl, hok.pn, by simp; omega⟩⟩, hc6, (hM.ls x (by simp)).yl⟩
  · rcases hb' with q | q
    · exact h1 b q
    · exact ⟨Nat.le_trans h2.bel.size q.1, fun hA' => by have := hAl b hA'; omega⟩
  · refine (h2.grow hc6 (fun b hb' => hA b (.inr (hEC b hb'))) (fun b hb' => (h1 b (hEC b hb')).1)).less ?_
    rintro b (q | q | q)
    · exact .inl (hA b (.inl q))
    · exact .inl (hA b (.inr q))
    · exact .inr ⟨q.1, by rw [hs6]; exact q.2⟩
theorem beg_no {wz w w1 w2 w3 : World} {A C A1 : Nat → Prop} {sb cb jb NB : Nat} {c : Cs} {V : List Ye} {tv : Value} (hok : c.ok) (h1 : ∀ b, C b → wz.heap.size ≤ b ∧ ¬ A b) (hA : A1 = fun x => (A x ∨ C x) ∨ (w.heap.size ≤ x ∧ x < w1.heap.size)) (hb : Below w.heap.size w w1) (hN : w.heap.size ≤ NB) (hc2 : Ch (fun x => x = NB) w1 w2) (hc3 : ChA wz A1 w2 w3) (hL : Lw wz A1 sb jb c.p.P (savJ c.J c.S c.p.P (begN c)) (savS c.J c.S c.p.P (begN c)) w3) (hM : CM C w2 cb (Pt sb) (Pt jb) c.p tv V c.o) (hV : V.map Ye.y = c.L) (hAl : ∀ b, A1 b → b < w2.heap.size) (hz : wz.heap.size ≤ w.heap.size) (hAw : ∀ b, A b → b < w.heap.size) :
    CM C w3 cb (Pt sb) (Pt jb) c.p tv V c.o ∧ ChA wz A w w3 ∧ (begI c ≠ 0 → CwM wz A sb cb (begC c) (begM c) (begE c) w (.returned (.tuple #[.slice none 0 0, .int .i64 (tolI (begI c))])) w3) := by
  have hAC : ∀ x, C x → A1 x := fun x hx => by rw [hA]; exact .inl (.inr hx)
  have hM3 : CM C w3 cb (Pt sb) (Pt jb) c.p tv V c.o := hM.keep (fun x hx => hc3.block x (hAl x (hAC x hx)) (fun h => h.2 (hAC x hx))) hc3.size
  have hch : ChA wz A w w3 := by
    refine (Ch.of_below hb).self ((ch_le hc2 (fun x hx => ?_)).self (ch_le hc3 (fun x hx => ⟨hx.1, fun h => hx.2 (by rw [hA]; exact .inl (.inl h))⟩)))
    rw [hx]
    refine ⟨Nat.le_trans ?_ hN, fun h => ?_⟩
    · exact hz
    · have := hAw NB h; omega
  refine ⟨hM3, hch, fun hne => ⟨.slice none 0 0, fun _ => False, ?_, ?_, fun x hx => hx.elim, ?_, hch⟩⟩
  · unfold begE; rw [if_neg hne]
  · unfold begM; rw [if_neg hne]; rfl
  · refine ⟨⟨C, jb, tv, V, fun x hx => ⟨(h1 x hx).1, fun h => ?_⟩, hL.less (fun x hx => ?_), hM3, ?_⟩, ⟨hok.pl, hok.pn, ?_⟩⟩
    · rcases h with h | h
      · exact (h1 x hx).2 h
      · exact h
    · rw [hA]
      rcases hx with (h | h) | h
      · exact .inl (.inl h)
      · exact h.elim
      · exact .inl (.inr h)
    · show _ = (begC c).L; unfold begC; simp only; rw [if_neg hne]; exact hV
    · show (begC c).L.length ≤ 4; unfold begC; simp only; rw [if_neg hne]; exact hok.ln
/-- The blocks of A1 stay. -/
def KpA (A1 : Nat → Prop) (w2 wx : World) : Prop := ∀ x, A1 x → wx.heap[x]? = w2.heap[x]?
theorem beg_save {wz w : World} {A1 : Nat → Prop} {sb jb : Nat} {c : Cs} {pv cv : Value} (h : Lw wz A1 sb jb c.p.P c.J c.S w) (hp : Nv w pv c.J.n.p) (hc : Nv w cv c.J.n.c) (hwr : c.S.wr < 9223372036854775800) :
    Calls Try.prog 48 #[.pointer (some ⟨jb, 0, none⟩), .agg #[.int .i64 c.J.n.b, pv, cv, .int .i64 (c.J.n.a + 1)]] w fun e w' => e = .returned (.int .i64 (begI c)) ∧ Lw wz A1 sb jb c.p.P (savJ c.J c.S c.p.P (begN c)) (savS c.J c.S c.p.P (begN c)) w' ∧ ChA wz A1 w w' :=
  lw_save (n := begN c) h hp hc ⟨by have := h.ok.r.b0; show -9223372036854775808 ≤ c.J.n.b; omega, by have := h.ok.r.b1; show c.J.n.b < _; omega⟩ hwr
theorem yok_new {b a n : Int} {f : List Int} (h : ∀ v ∈ f, 0 ≤ v ∧ v ≤ 256) (h4 : f.length ≤ 4) : (⟨b, a, n, 1, 0, f, []⟩ : Yt).ok := ⟨h, by simp, h4, by simp, by show (0 : Int) ≤ 0; omega, by show (0 : Int) < _; omega⟩
theorem beg_yes {wz w w3 w6 w7 : World} {A C : Nat → Prop} {sb cb : Nat} {c : Cs} {V : List Ye} {tv : Value} {x : Ye} {ea : Option Addr} {ec : Nat} (h0 : begI c = 0) (h4 : V.map Ye.y = c.L) (hlen : V.length = c.L.length) (hca : ChA wz A w w3) (h1 : ∀ b, C b → wz.heap.size ≤ b ∧ ¬ A b)
    (hp : CW wz A sb cb { c with J := savJ c.J c.S c.p.P (begN c), S := savS c.J c.S c.p.P (begN c), L := V.map Ye.y ++ [(⟨c.J.n.b + V.length + 1, c.J.n.a + 1, c.p.worker (c.J.n.a + 1), 1, 0, frm c, []⟩ : Yt)] } w6 ∧ Ch (fun b => b = cb ∨ tv.ownBlock = some b) w3 w6 ∧ Yl w6 x) (hE : ∀ b, b = cb ∨ tv.ownBlock = some b → C b) (ho : OwN w6.heap.size w7 (.slice ea (frm c).length ec) (frm c)) (hb : Below w6.heap.size w6 w7) :
    CwM wz A sb cb (begC c) (begM c) (begE c) w (.returned (.tuple #[.slice (some ⟨w7.heap.size, 0, none⟩) 1 1, .int .i64 0])) (w7.alloc (Obj.cells #[.int .i64 1, .int .i64 0, .int .i64 (c.p.worker (c.J.n.a + 1)), .int .i64 (c.J.n.b + V.length + 1), .int .i64 (c.J.n.a + 1), .int .i64 0, .slice ea (frm c).length ec, .slice none 0 0, .slice none 0 0] 41)) := by
  have hy : newY c = ⟨c.J.n.b + V.length + 1, c.J.n.a + 1, c.p.worker (c.J.n.a + 1), 1, 0, frm c, []⟩ := by unfold newY; rw [hlen]
  have hC : begC c = { c with J := savJ c.J c.S c.p.P (begN c), S := savS c.J c.S c.p.P (begN c), L := V.map Ye.y ++ [(⟨c.J.n.b + V.length + 1, c.J.n.a + 1, c.p.worker (c.J.n.a + 1), 1, 0, frm c, []⟩ : Yt)] } := by unfold begC; rw [if_pos h0, hy, h4]
  have hb8 : Below w6.heap.size w6 (w7.alloc (Obj.cells #[.int .i64 1, .int .i64 0, .int .i64 (c.p.worker (c.J.n.a + 1)), .int .i64 (c.J.n.b + V.length + 1), .int .i64 (c.J.n.a + 1), .int .i64 0, .slice ea (frm c).length ec, .slice none 0 0, .slice none 0 0] 41)) := below_trans hb (below_alloc _ _)
  have hch : ChA wz A w w6 := hca.self (ch_le hp.2.1 (fun x hx => h1 x (hE x hx)))
  refine ⟨.slice (some ⟨w7.heap.size, 0, none⟩) 1 1, fun x => w6.heap.size ≤ x ∧ x < (w7.alloc (Obj.cells #[.int .i64 1, .int .i64 0, .int .i64 (c.p.worker (c.J.n.a + 1)), .int .i64 (c.J.n.b + V.length + 1), .int .i64 (c.J.n.a + 1), .int .i64 0, .slice ea (frm c).length ec, .slice none 0 0, .slice none 0 0] 41)).heap.size, ?_, ?_, fun x hx => Nat.le_trans hch.size hx.1, ?_, hch.self (Ch.of_below hb8)⟩
  · unfold begE; rw [if_pos h0]
  · unfold begM; rw [if_pos h0, hy]
    refine ⟨w7.heap.size, .slice ea (frm c).length ec, rfl, alloc_at rfl, own_base (own_below ho (below_alloc _ _)) (Nat.zero_le _), ⟨hb.size, by simp⟩, fun x hx => ⟨(ho.lt x hx).1, ?_⟩⟩
    have := (ho.lt x hx).2
    simp; omega
  · rw [hC]
    exact hp.1.more hb8
theorem cells_litY {w : World} {x : Ye} {t : TypeId} : ∀ j u, (cellsY x)[j]? = some u → (w.alloc (Obj.cells #[.int .i64 x.y.b, .int .i64 x.y.a, .int .i64 x.y.n, .int .i64 x.y.h, .int .i64 x.y.t, x.fv, x.ev] t)).cell? ⟨w.heap.size, j, none⟩ = some u := by
  intro j u hj
  unfold cellsY at hj
  have hj7 : j < 7 := by
    rcases Nat.lt_or_ge j 7 with q | q
    · exact q
    · rw [List.getElem?_eq_none (by simpa using q)] at hj; cases hj
  have hc : j = 0 ∨ j = 1 ∨ j = 2 ∨ j = 3 ∨ j = 4 ∨ j = 5 ∨ j = 6 := by omega
  rcases hc with rfl | rfl | rfl | rfl | rfl | rfl | rfl <;> simp at hj <;> subst hj <;> simp [go_sem]
section

variable {wz w w' w2 : World} {A E C : Nat → Prop} {sb cb jb : Nat} {c : Cs} {p : Pn} {q : Int} {J : Jn} {S : Dk} {F dv jv tv : Value} {f : Yt → Bool} {V : List Ye} {o : Bool}

set_option maxRecDepth 100000 in
set_option maxHeartbeats 4000000 in
theorem begin_walk (h : CW wz A sb cb c w) (hln : c.L.length < 4) (hwr : c.S.wr < 9223372036854775800) : Calls Try.prog 29 #[Pt cb] w (CwM wz A sb cb (begC c) (begM c) (begE c) w) := by
  have HJO : Hid (c.J.ok c.p.P) := h.jok
  obtain ⟨C, jb, tv, V, h1, h2, h3, h4⟩ := h.ex
  have hlen : V.length = c.L.length := by rw [← h4, List.length_map]
  have HOK : Hid c.ok := h.ok
  have HWR : Hid (c.S.wr < 9223372036854775800) := hwr
  have HLEN : Hid (V.length = c.L.length) := hlen
  have hv4 : V.length < 4 := by omega
  have HV4 : Hid (V.length < 4) := hv4
  have H1 : Hid (∀ x, C x → wz.heap.size ≤ x ∧ ¬ A x) := h1
  have H2 : Hid (Lw wz (fun x => A x ∨ C x) sb jb c.p.P c.J c.S w) := h2
  have H3 : Hid (CM C w cb (Pt sb) (Pt jb) c.p tv V c.o) := h3
  have H4 : Hid (V.map Ye.y = c.L) := h4
  have HFM : Hid (frm c = if V.length = 0 then c.J.n.c else ((V.map Ye.y).getLast?.map Yt.e).getD []) := by
    show _ = _
    unfold frm
    rw [← h4]
    split
    · rename_i h0
      rw [List.eq_nil_of_length_eq_zero h0]; rfl
    · rename_i h0
      rw [last_of (by omega)]; rfl
  obtain ⟨ta, tc, rfl, hlc, hlm⟩ := h3.form
  have k9 : ∀ wx, Below w.heap.size w wx → wx.cell? ⟨cb, 9, none⟩ = some (.pointer (some ⟨jb, 0, none⟩)) := fun wx hb => by rw [(h3.below hb).cell]; rfl
  have k10 : ∀ wx, Below w.heap.size w wx → wx.cell? ⟨cb, 10, none⟩ = some (.slice ta V.length tc) := fun wx hb => by rw [(h3.below hb).cell]; rfl
  have hcl : cb < w.heap.size := h3.lt
  clear h h1 h2 h3 h4 hln hwr hlen hlm
  go_enter Try.func29, Try.ntmps29
  go_wp2_with fail
  go_cut [4, 5] (fun nv cv wx => cv = .int .i64 V.length ∧ NbR w c.J.n nv wx)
  case first =>
    refine wp_region_noPanic ?_
    refine wp_region_held_drew (S := (fun wx => Below w.heap.size w wx)) (by kernel_rfl) ?_ (fun hHeld => ?_)
    · exact (below_drewN w 1)
    refine wpAnyH_take (i := 0) (oi := ⟨some 9, _, _, _, _, _⟩) (v := ?_) rfl (by kernel_rfl) (by kernel_rfl) (by kernel_rfl) (fun _ _ _ h => h) (Or.inl ⟨by rfl, ?_⟩) hHeld ?_
    rotate_left
    · intro w hSw; (try dsimp only at hSw); go_simp; all_goals (with_reducible rfl)
    try simp only [Act.put, List.setIfInBounds_toArray, List.set_cons_zero, List.set_cons_succ]
    refine wpAnyH_take (i := 1) (oi := ⟨some 10, _, _, _, _, _⟩) (v := ?_) rfl (by kernel_rfl) (by kernel_rfl) (by kernel_rfl) (fun _ _ _ h => h) (Or.inl ⟨by rfl, ?_⟩) hHeld ?_
    rotate_left
    · intro w hSw; (try dsimp only at hSw); go_simp; all_goals (with_reducible rfl)
    try simp only [Act.put, List.setIfInBounds_toArray, List.set_cons_zero, List.set_cons_succ]
    refine wpAnyH_take (i := 2) (oi := ⟨some 11, _, _, _, _, _⟩) (v := ?_) rfl (by kernel_rfl) (by kernel_rfl) (by kernel_rfl) (fun _ _ _ h => h) (Or.inl ⟨by rfl, ?_⟩) hHeld ?_
    rotate_left
    · intro w hSw; (try dsimp only at hSw); go_simp; all_goals (with_reducible rfl)
    try simp only [Act.put, List.setIfInBounds_toArray, List.set_cons_zero, List.set_cons_succ]
    refine wpAnyH_take (i := 3) (oi := ⟨some 12, _, _, _, _, _⟩) (v := ?_) rfl (by kernel_rfl) (by kernel_rfl) (by kernel_rfl) (fun _ _ _ h => h) (Or.inl ⟨by rfl, ?_⟩) hHeld ?_
    rotate_left
    · intro w hSw; (try dsimp only at hSw); go_simp; all_goals (with_reducible rfl)
    try simp only [Act.put, List.setIfInBounds_toArray, List.set_cons_zero, List.set_cons_succ]
    refine wpAnyH_take (i := 5) (oi := ⟨some 14, _, _, _, _, _⟩) (v := ?_) rfl (by kernel_rfl) (by kernel_rfl) (by kernel_rfl) (fun _ _ _ h => h) (Or.inl ⟨by rfl, ?_⟩) hHeld ?_
    rotate_left
    · intro w hSw; (try dsimp only at hSw); go_simp; all_goals (with_reducible rfl)
    try simp only [Act.put, List.setIfInBounds_toArray, List.set_cons_zero, List.set_cons_succ]
    refine wpAnyH_take (i := 6) (oi := ⟨some 15, _, _, _, _, _⟩) (v := ?_) rfl (by kernel_rfl) (by kernel_rfl) (by kernel_rfl) (fun _ _ _ h => h) (Or.inl ⟨by rfl, ?_⟩) hHeld ?_
    rotate_left
    · intro w hSw; (try dsimp only at hSw); go_simp; all_goals (with_reducible rfl)
    try simp only [Act.put, List.setIfInBounds_toArray, List.set_cons_zero, List.set_cons_succ]
    refine wpAnyH_take (i := 7) (oi := ⟨some 16, _, _, _, _, _⟩) (v := ?_) rfl (by kernel_rfl) (by kernel_rfl) (by kernel_rfl) (fun _ _ _ h => h) (Or.inl ⟨by rfl, ?_⟩) hHeld ?_
    rotate_left
    · intro w hSw; (try dsimp only at hSw); go_simp; all_goals (with_reducible rfl)
    try simp only [Act.put, List.setIfInBounds_toArray, List.set_cons_zero, List.set_cons_succ]
    refine wpAnyH_take (i := 8) (oi := ⟨some 17, _, _, _, _, _⟩) (v := ?_) rfl (by kernel_rfl) (by kernel_rfl) (by kernel_rfl) (fun _ _ _ h => h) (Or.inl ⟨by rfl, ?_⟩) hHeld ?_
    rotate_left
    · intro w hSw; (try dsimp only at hSw); go_simp; all_goals (with_reducible rfl)
    try simp only [Act.put, List.setIfInBounds_toArray, List.set_cons_zero, List.set_cons_succ]
    refine wpAnyH_take (i := 9) (oi := ⟨some 18, _, _, _, _, _⟩) (v := ?_) rfl (by kernel_rfl) (by kernel_rfl) (by kernel_rfl) (fun _ _ _ h => h) (Or.inl ⟨by rfl, ?_⟩) hHeld ?_
    rotate_left
    · intro w hSw; (try dsimp only at hSw); go_simp; all_goals (with_reducible rfl)
    try simp only [Act.put, List.setIfInBounds_toArray, List.set_cons_zero, List.set_cons_succ]
    refine wpAnyH_ready (rs := [4, 10]) (by kernel_rfl) (by simp) ?_
    refine AllReadyH.cons (o := ⟨some 13, _, _, _, _, _⟩) rfl (fun K hK => ?_) (AllReadyH.cons (o := ⟨some 4, _, _, _, _, _⟩) rfl (fun K hK => ?_) AllReadyH.nil)
    · go_simp
      refine (lw_note (H2.out.below hHeld)).mono ?_
      rintro e w9 ⟨pa, pc9, ca, cc9, rfl, ho1, ho2, hB9⟩
      have hS9 : Below w.heap.size w w9 := below_trans hHeld hB9
      have ho1 := own_base ho1 hHeld.size
      have ho2 := own_base ho2 hHeld.size
      clear hB9 hHeld
      go_simp
      refine hK.out _ _ ?_ (fun hHeld => ?_)
      · exact hS9
      clear hK K
      try simp only [Act.put, List.setIfInBounds_toArray, List.set_cons_zero, List.set_cons_succ]
      refine wpAnyH_ready (rs := [10]) (by kernel_rfl) (by simp) ?_
      refine AllReadyH.cons (o := ⟨some 4, _, _, _, _, _⟩) rfl (fun K hK => ?_) AllReadyH.nil
      go_simp
      refine hK.out _ _ ?_ (fun hHeld => ?_)
      · exact (by first | exact hHeld.alloc hHeld.size _ | exact (below_alloc _ _).drew)
      clear hK K
      try simp only [Act.put, List.setIfInBounds_toArray, List.set_cons_zero, List.set_cons_succ]
      refine wpAnyH_ready (rs := [11]) (by kernel_rfl) (by simp) ?_
      refine AllReadyH.cons (o := ⟨none, _, _, _, _, _⟩) rfl (fun K hK => ?_) AllReadyH.nil
      go_simp
      refine hK.out _ _ ?_ (fun hHeld => ?_)
      · exact hS9.alloc hS9.size _
      clear hK K
      try simp only [Act.put, List.setIfInBounds_toArray, List.set_cons_zero, List.set_cons_succ]
      refine wpAnyH_take (i := 12) (oi := ⟨some 5, _, _, _, _, _⟩) (v := ?_) rfl (by kernel_rfl) (by kernel_rfl) (by kernel_rfl) (fun _ _ _ h => h) (Or.inl ⟨by rfl, ?_⟩) hHeld ?_
      rotate_left
      · intro w hSw; (try dsimp only at hSw); go_simp; all_goals (with_reducible rfl)
      try simp only [Act.put, List.setIfInBounds_toArray, List.set_cons_zero, List.set_cons_succ]
      refine wpAnyH_done (by kernel_rfl) ?_ _
      refine NoPanic.normal ?_
      go_wp2_with fail
      go_meet
      exact ⟨rfl, nb_new hS9 ho1 ho2⟩
    · go_simp
      refine hK.out _ _ ?_ (fun hHeld => ?_)
      · exact (by first | exact hHeld.alloc hHeld.size _ | exact (below_alloc _ _).drew)
      clear hK K
      try simp only [Act.put, List.setIfInBounds_toArray, List.set_cons_zero, List.set_cons_succ]
      refine wpAnyH_ready (rs := [4]) (by kernel_rfl) (by simp) ?_
      refine AllReadyH.cons (o := ⟨some 13, _, _, _, _, _⟩) rfl (fun K hK => ?_) AllReadyH.nil
      go_simp
      refine (lw_note (H2.out.below hHeld)).mono ?_
      rintro e w9 ⟨pa, pc9, ca, cc9, rfl, ho1, ho2, hB9⟩
      have hS9 : Below w.heap.size w w9 := below_trans hHeld hB9
      have hz9 := zero_nt hB9
      have hzb := hz9
      have z0 : w9.cell? ⟨w.heap.size, 0, none⟩ = some (.int .i64 0) := by rw [blk_cell hz9]; rfl
      have y0 : w9.frozen? ⟨w.heap.size, 0, none⟩ = false := blk_soft hz9 0
      have z1 : w9.cell? ⟨w.heap.size, 1, none⟩ = some (.slice none 0 0) := by rw [blk_cell hz9]; rfl
      have y1 : w9.frozen? ⟨w.heap.size, 1, none⟩ = false := blk_soft hz9 1
      have z2 : w9.cell? ⟨w.heap.size, 2, none⟩ = some (.slice none 0 0) := by rw [blk_cell hz9]; rfl
      have y2 : w9.frozen? ⟨w.heap.size, 2, none⟩ = false := blk_soft hz9 2
      have z3 : w9.cell? ⟨w.heap.size, 3, none⟩ = some (.int .i64 0) := by rw [blk_cell hz9]; rfl
      have y3 : w9.frozen? ⟨w.heap.size, 3, none⟩ = false := blk_soft hz9 3
      have ho1 := zero_ow ho1
      have ho2 := zero_ow ho2
      clear hB9 hHeld hz9
      go_simp
      refine hK.out _ _ ?_ (fun hHeld => ?_)
      · exact hS9
      clear hK K
      try simp only [Act.put, List.setIfInBounds_toArray, List.set_cons_zero, List.set_cons_succ]
      refine wpAnyH_ready (rs := [11]) (by kernel_rfl) (by simp) ?_
      refine AllReadyH.cons (o := ⟨none, _, _, _, _, _⟩) rfl (fun K hK => ?_) AllReadyH.nil
      go_simp
      refine hK.out _ _ ?_ (fun hHeld => ?_)
      · exact hS9.grown (grown_set4 _ _ _ _ _ _) hS9.size (fun x hx => by cases hx; omega)
      clear hK K
      try simp only [Act.put, List.setIfInBounds_toArray, List.set_cons_zero, List.set_cons_succ]
      refine wpAnyH_take (i := 12) (oi := ⟨some 5, _, _, _, _, _⟩) (v := ?_) rfl (by kernel_rfl) (by kernel_rfl) (by kernel_rfl) (fun _ _ _ h => h) (Or.inl ⟨by rfl, ?_⟩) hHeld ?_
      rotate_left
      · intro w hSw; (try dsimp only at hSw); go_simp; all_goals (with_reducible rfl)
      try simp only [Act.put, List.setIfInBounds_toArray, List.set_cons_zero, List.set_cons_succ]
      refine wpAnyH_done (by kernel_rfl) ?_ _
      refine NoPanic.normal ?_
      go_wp2_with fail
      go_meet
      exact ⟨rfl, nb_old hS9 hzb ho1 ho2⟩
  case rest =>
    obtain ⟨rfl, NB, pa, ca, pc9, cc9, rfl, hN, ho1, ho2, hNb, hB1⟩ := hcut
    obtain ⟨w1, hw1⟩ : ∃ w1, w1 = wc := ⟨_, rfl⟩
    subst hw1
    have HN : Hid (w1.heap[NB]? = some (.cells #[.int .i64 c.J.n.b, .slice pa c.J.n.p.length pc9, .slice ca c.J.n.c.length cc9, .int .i64 c.J.n.a] 53 (0, 0))) := hN
    have HO1 : Hid (OwN w.heap.size w1 (.slice pa c.J.n.p.length pc9) c.J.n.p) := ho1
    have HO2 : Hid (OwN w.heap.size w1 (.slice ca c.J.n.c.length cc9) c.J.n.c) := ho2
    have HB1 : Hid (Below w.heap.size w w1) := hB1
    have HNB : Hid (w.heap.size ≤ NB) := hNb
    have n0 : w1.cell? ⟨NB, 0, none⟩ = some (.int .i64 c.J.n.b) := by rw [blk_cell hN]; rfl
    have n1 : w1.cell? ⟨NB, 1, none⟩ = some (.slice pa c.J.n.p.length pc9) := by rw [blk_cell hN]; rfl
    have n2 : w1.cell? ⟨NB, 2, none⟩ = some (.slice ca c.J.n.c.length cc9) := by rw [blk_cell hN]; rfl
    have n3 : w1.cell? ⟨NB, 3, none⟩ = some (.int .i64 c.J.n.a) := by rw [blk_cell hN]; rfl
    have nz : w1.frozen? ⟨NB, 3, none⟩ = false := blk_soft hN 3
    have t10 := k10 w1 hB1
    clear hN ho1 ho2 hB1 hNb
    go_upto_if 23 with fail
    go_cut [6] (fun fv wx => wx = w1 ∧ ∃ fa fc, fv = .slice fa (frm c).length fc ∧ OwN 0 w1 (.slice fa (frm c).length fc) (frm c) ∧ (∀ v ∈ frm c, 0 ≤ v ∧ v ≤ 256) ∧ (frm c).length ≤ 4 ∧ ∀ x, (Value.slice fa (frm c).length fc).ownBlock = some x → C x ∨ (w.heap.size ≤ x ∧ x < w1.heap.size))
    case first =>
      by_cases h0 : V.length = 0
      · have q0 : decide ((0 : Int) < (V.length : Int)) = false := by rw [h0]; rfl
        have hfm : frm c = c.J.n.c := by rw [HFM.out, if_pos h0]
        have HG : Hid (OwN 0 w1 (.slice ca (frm c).length cc9) (frm c) ∧ (∀ v ∈ frm c, 0 ≤ v ∧ v ≤ 256) ∧ (frm c).length ≤ 4 ∧ (frm c).length = c.J.n.c.length) := by
          show _ ∧ _
          rw [hfm]
          exact ⟨own_base HO2.out (Nat.zero_le _), HJO.out.r.cm, by have := HJO.out.r.lc; have := HJO.out.q4; omega, rfl⟩
        have HGB : Hid (∀ x, (Value.slice ca (frm c).length cc9).ownBlock = some x → C x ∨ (w.heap.size ≤ x ∧ x < w1.heap.size)) := fun x hx => .inr (HO2.out.lt x (by rw [hfm] at hx; exact hx))
        have q1 : ¬ (0 < V.length) := by omega
        clear h0 hfm
        go_wp2_with fail
        go_meet
        refine ⟨rfl, ca, cc9, ?_, HG.out.1, HG.out.2.1, HG.out.2.2.1, HGB.out⟩
        rw [HG.out.2.2.2]
      · have hn : 0 < V.length := by omega
        have q1 : 0 < V.length := hn
        have hm1 := H3.out.below HB1.out
        obtain ⟨g, cap, e1, _, _, _, h7⟩ := hm1.yr.at (i := V.length - 1) (by omega)
        cases e1
        obtain ⟨x, hx⟩ : ∃ x, x = V[V.length - 1] := ⟨_, rfl⟩
        have hyo := hm1.ls x (by rw [hx]; exact List.getElem_mem _)
        have c6 := h7.c6
        rw [← hx] at c6
        have hfm : frm c = x.y.e := by rw [HFM.out, if_neg h0, last_of hn, hx]; rfl
        obtain ⟨fa, fc, ea, ec, e5, e6⟩ := hyo.yl.form
        have ho := hyo.e
        rw [e6] at c6 ho
        have HG : Hid (OwN 0 w1 (.slice ea (frm c).length ec) (frm c) ∧ (∀ v ∈ frm c, 0 ≤ v ∧ v ≤ 256) ∧ (frm c).length ≤ 4 ∧ (frm c).length = x.y.e.length) := by
          show _ ∧ _
          rw [hfm]
          exact ⟨ho, hyo.ok.em, hyo.ok.el, rfl⟩
        have HGB : Hid (∀ x, (Value.slice ea (frm c).length ec).ownBlock = some x → C x ∨ (w.heap.size ≤ x ∧ x < w1.heap.size)) := fun x hx => .inl (hyo.ke x (by rw [e6]; rw [hfm] at hx; exact hx))
        obtain ⟨m, hm⟩ : ∃ m, V.length = m + 1 := ⟨V.length - 1, by omega⟩
        have hm1' : V.length - 1 = m := by omega
        rw [hm1'] at c6
        have hi1 : ((V.length : Int) - 1) = (m : Int) := by omega
        have hwr : IntKind.i64.wrap ((V.length : Int) - 1) = (m : Int) := by have := HV4.out; rw [hi1, IntKind.wrap_i64]; omega
        have hmi : (m : Int) < (V.length : Int) := by omega
        clear h0 hfm hyo h7 hm1 ho e5 e6 hx hm1'
        go_wp2_with fail
        go_meet
        refine ⟨rfl, ea, ec, ?_, HG.out.1, HG.out.2.1, HG.out.2.2.1, HGB.out⟩
        rw [HG.out.2.2.2]
    case rest =>
      obtain ⟨hwc, fa, fc, rfl, hF, hF256, hF4, hFB⟩ := hcut
      replace hwc := hwc.symm
      subst hwc
      have HF : Hid (OwN 0 w1 (.slice fa (frm c).length fc) (frm c)) := hF
      have HF256 : Hid (∀ v ∈ frm c, 0 ≤ v ∧ v ≤ 256) := hF256
      have HF4 : Hid ((frm c).length ≤ 4) := hF4
      have HFB : Hid (∀ x, (Value.slice fa (frm c).length fc).ownBlock = some x → C x ∨ (w.heap.size ≤ x ∧ x < w1.heap.size)) := hFB
      clear hFB
      have hwa : IntKind.i64.wrap (c.J.n.a + 1) = c.J.n.a + 1 := by have := HJO.out.r.a0; have := HJO.out.r.a1; rw [IntKind.wrap_i64]; omega
      obtain ⟨w2, hw2⟩ : ∃ w2, w2 = w1.setCell ⟨NB, 3, none⟩ (.int .i64 (c.J.n.a + 1)) := ⟨_, rfl⟩
      have HW2 : Hid (w2 = w1.setCell ⟨NB, 3, none⟩ (.int .i64 (c.J.n.a + 1))) := hw2
      have hN2 : w2.heap[NB]? = some (.cells #[.int .i64 c.J.n.b, .slice pa c.J.n.p.length pc9, .slice ca c.J.n.c.length cc9, .int .i64 (c.J.n.a + 1)] 53 (0, 0)) := by rw [hw2, set_row HN.out]; rfl
      have hC2 : Ch (fun x => x = NB) w1 w2 := by rw [hw2]; exact ch_set _ _ _ _
      have hNC : ¬ C NB := fun hc => by have := H3.out.kl NB hc; have := HNB.out; omega
      have hM2 : CM C w2 cb (Pt sb) (Pt jb) c.p (.slice ta V.length tc) V c.o := (H3.out.below HB1.out).keep (fun x hx => hC2.block x ((H3.out.below HB1.out).kl x hx) (fun e => hNC (e ▸ hx))) hC2.size
      have hL2 : Lw wz (fun x => (A x ∨ C x) ∨ (w.heap.size ≤ x ∧ x < w1.heap.size)) sb jb c.p.P c.J c.S w2 := (H2.out.more HB1.out).ch hC2 (fun x hx => by rw [hx]; exact .inr ⟨HNB.out, blk_lt HN.out⟩) (fun x hx => by rw [hx]; exact Nat.le_trans H2.out.bel.size HNB.out)
      have hP2 : Nv w2 (.slice pa c.J.n.p.length pc9) c.J.n.p := own_nv (row_keep HO1.out fun x hx => hC2.block x (HO1.out.lt x hx).2 (own_not HO1.out HN.out (by decide) x hx)) (rgt_p64 HJO.out.r)
      have hCu2 : Nv w2 (.slice ca c.J.n.c.length cc9) c.J.n.c := own_nv (row_keep HO2.out fun x hx => hC2.block x (HO2.out.lt x hx).2 (own_not HO2.out HN.out (by decide) x hx)) (rgt_c64 HJO.out.r)
      have hF2 : OwN 0 w2 (.slice fa (frm c).length fc) (frm c) := row_keep HF.out fun x hx => hC2.block x (HF.out.lt x hx).2 (own_not HF.out HN.out (by decide) x hx)
      have HN2 : Hid (w2.heap[NB]? = some (.cells #[.int .i64 c.J.n.b, .slice pa c.J.n.p.length pc9, .slice ca c.J.n.c.length cc9, .int .i64 (c.J.n.a + 1)] 53 (0, 0))) := hN2
      have HC2 : Hid (Ch (fun x => x = NB) w1 w2) := hC2
      have HM2 : Hid (CM C w2 cb (Pt sb) (Pt jb) c.p (.slice ta V.length tc) V c.o) := hM2
      have HL2 : Hid (Lw wz (fun x => (A x ∨ C x) ∨ (w.heap.size ≤ x ∧ x < w1.heap.size)) sb jb c.p.P c.J c.S w2) := hL2
      have HP2 : Hid (Nv w2 (.slice pa c.J.n.p.length pc9) c.J.n.p) := hP2
      have HCu2 : Hid (Nv w2 (.slice ca c.J.n.c.length cc9) c.J.n.c) := hCu2
      have HF2 : Hid (OwN 0 w2 (.slice fa (frm c).length fc) (frm c)) := hF2
      obtain ⟨A1, hA1⟩ : ∃ A1 : Nat → Prop, A1 = fun x => (A x ∨ C x) ∨ (w.heap.size ≤ x ∧ x < w1.heap.size) := ⟨_, rfl⟩
      rw [← hA1] at HL2
      have HA1 : Hid (A1 = fun x => (A x ∨ C x) ∨ (w.heap.size ≤ x ∧ x < w1.heap.size)) := hA1
      have hAC : ∀ x, C x → A1 x := fun x hx => by rw [hA1]; exact .inl (.inr hx)
      have hANB : A1 NB := by rw [hA1]; exact .inr ⟨HNB.out, blk_lt HN.out⟩
      have HAC : Hid (∀ x, C x → A1 x) := hAC
      have HANB : Hid (A1 NB) := hANB
      have KCB : ∀ wx : World, KpA A1 w2 wx → wx.heap[cb]? = some (.cells (cC c.p (Pt sb) (Pt jb) (.slice ta V.length tc) c.o) 72 (0, 0)) := fun wx h => by rw [h cb (hAC cb hM2.kc)]; exact hM2.head
      have KNB : ∀ wx : World, KpA A1 w2 wx → wx.heap[NB]? = some (.cells #[.int .i64 c.J.n.b, .slice pa c.J.n.p.length pc9, .slice ca c.J.n.c.length cc9, .int .i64 (c.J.n.a + 1)] 53 (0, 0)) := fun wx h => by rw [h NB hANB]; exact hN2
      have j9 : ∀ wx : World, KpA A1 w2 wx → wx.cell? ⟨cb, 9, none⟩ = some (.pointer (some ⟨jb, 0, none⟩)) := fun wx h => by rw [blk_cell (KCB wx h)]; rfl
      have m0 : ∀ wx : World, KpA A1 w2 wx → wx.cell? ⟨NB, 0, none⟩ = some (.int .i64 c.J.n.b) := fun wx h => by rw [blk_cell (KNB wx h)]; rfl
      have m1 : ∀ wx : World, KpA A1 w2 wx → wx.cell? ⟨NB, 1, none⟩ = some (.slice pa c.J.n.p.length pc9) := fun wx h => by rw [blk_cell (KNB wx h)]; rfl
      have m2 : ∀ wx : World, KpA A1 w2 wx → wx.cell? ⟨NB, 2, none⟩ = some (.slice ca c.J.n.c.length cc9) := fun wx h => by rw [blk_cell (KNB wx h)]; rfl
      have m3 : ∀ wx : World, KpA A1 w2 wx → wx.cell? ⟨NB, 3, none⟩ = some (.int .i64 (c.J.n.a + 1)) := fun wx h => by rw [blk_cell (KNB wx h)]; rfl
      clear hF hF256 hF4 hw2 hN2 hC2 hNC hM2 hL2 hP2 hCu2 hF2 hA1 hAC hANB KCB KNB k9 k10
      go_wp2_with fail
      rw [← HW2.out]
      refine wp_region_noPanic ?_
      refine wp_region_held_drew (S := (fun wx : World => KpA A1 w2 wx)) (by kernel_rfl) ?_ (fun hHeld => ?_)
      · exact (fun x hx => (below_drewN w2 1).block x (HL2.out.al x hx))
      refine wpAnyH_take (i := 0) (oi := ⟨some 37, _, _, _, _, _⟩) (v := ?_) rfl (by kernel_rfl) (by kernel_rfl) (by kernel_rfl) (fun _ _ _ h => h) (Or.inl ⟨by rfl, ?_⟩) hHeld ?_
      rotate_left
      · intro w hSw; (try dsimp only at hSw); go_simp; all_goals (with_reducible rfl)
      try simp only [Act.put, List.setIfInBounds_toArray, List.set_cons_zero, List.set_cons_succ]
      refine wpAnyH_take (i := 1) (oi := ⟨some 38, _, _, _, _, _⟩) (v := ?_) rfl (by kernel_rfl) (by kernel_rfl) (by kernel_rfl) (fun _ _ _ h => h) (Or.inl ⟨by rfl, ?_⟩) hHeld ?_
      rotate_left
      · intro w hSw; (try dsimp only at hSw); go_simp; all_goals (with_reducible rfl)
      try simp only [Act.put, List.setIfInBounds_toArray, List.set_cons_zero, List.set_cons_succ]
      refine wpAnyH_take (i := 2) (oi := ⟨some 39, _, _, _, _, _⟩) (v := ?_) rfl (by kernel_rfl) (by kernel_rfl) (by kernel_rfl) (fun _ _ _ h => h) (Or.inl ⟨by rfl, ?_⟩) hHeld ?_
      rotate_left
      · intro w hSw; (try dsimp only at hSw); go_simp; all_goals (with_reducible rfl)
      try simp only [Act.put, List.setIfInBounds_toArray, List.set_cons_zero, List.set_cons_succ]
      refine wpAnyH_take (i := 3) (oi := ⟨some 40, _, _, _, _, _⟩) (v := ?_) rfl (by kernel_rfl) (by kernel_rfl) (by kernel_rfl) (fun _ _ _ h => h) (Or.inl ⟨by rfl, ?_⟩) hHeld ?_
      rotate_left
      · intro w hSw; (try dsimp only at hSw); go_simp; all_goals (with_reducible rfl)
      try simp only [Act.put, List.setIfInBounds_toArray, List.set_cons_zero, List.set_cons_succ]
      refine wpAnyH_take (i := 4) (oi := ⟨some 41, _, _, _, _, _⟩) (v := ?_) rfl (by kernel_rfl) (by kernel_rfl) (by kernel_rfl) (fun _ _ _ h => h) (Or.inl ⟨by rfl, ?_⟩) hHeld ?_
      rotate_left
      · intro w hSw; (try dsimp only at hSw); go_simp; all_goals (with_reducible rfl)
      try simp only [Act.put, List.setIfInBounds_toArray, List.set_cons_zero, List.set_cons_succ]
      refine wpAnyH_ready (rs := [5]) (by kernel_rfl) (by simp) ?_
      refine AllReadyH.cons (o := ⟨some 42, _, _, _, _, _⟩) rfl (fun K hK => ?_) AllReadyH.nil
      go_simp
      refine (beg_save (HL2.out.below (below_drewN w2 1)) (HP2.out.below (below_drewN w2 1)) (HCu2.out.below (below_drewN w2 1)) HWR.out).mono ?_
      rintro e w3 ⟨he, hL3, hC3⟩
      obtain ⟨ei, hei⟩ : ∃ ei, ei = begI c := ⟨_, rfl⟩
      rw [← hei] at he
      subst he
      have HEI : Hid (ei = begI c) := hei
      clear hei
      have HL3 : Hid (Lw wz A1 sb jb c.p.P (savJ c.J c.S c.p.P (begN c)) (savS c.J c.S c.p.P (begN c)) w3) := hL3
      have HC3 : Hid (ChA wz A1 w2 w3) := (Ch.of_below (below_drewN w2 1)).self hC3
      have HS3 : Hid (KpA A1 w2 w3) := fun x hx => HC3.out.block x (HL2.out.al x hx) (fun h => h.2 hx)
      clear hL3 hC3
      refine hK.out _ _ ?_ (fun hHeld => ?_)
      · exact HS3.out
      clear hK K
      try simp only [Act.put, List.setIfInBounds_toArray, List.set_cons_zero, List.set_cons_succ]
      refine wpAnyH_take (i := 6) (oi := ⟨some 7, _, _, _, _, _⟩) (v := ?_) rfl (by kernel_rfl) (by kernel_rfl) (by kernel_rfl) (fun _ _ _ h => h) (Or.inl ⟨by rfl, ?_⟩) hHeld ?_
      rotate_left
      · intro w hSw; (try dsimp only at hSw); go_simp; all_goals (with_reducible rfl)
      try simp only [Act.put, List.setIfInBounds_toArray, List.set_cons_zero, List.set_cons_succ]
      refine wpAnyH_done (by kernel_rfl) ?_ _
      refine NoPanic.normal ?_
      obtain ⟨hM3, hCA, hNO⟩ := beg_no HOK.out H1.out HA1.out HB1.out HNB.out HC2.out HC3.out HL3.out HM2.out H4.out (fun b hb => HL2.out.al b hb) H2.out.bel.size (fun b hb => H2.out.al b (.inl hb))
      have HM3 : Hid (CM C w3 cb (Pt sb) (Pt jb) c.p (.slice ta V.length tc) V c.o) := hM3
      have HCA : Hid (ChA wz A w w3) := hCA
      have hN3 : w3.heap[NB]? = some (.cells #[.int .i64 c.J.n.b, .slice pa c.J.n.p.length pc9, .slice ca c.J.n.c.length cc9, .int .i64 (c.J.n.a + 1)] 53 (0, 0)) := by rw [HS3.out NB HANB.out]; exact HN2.out
      have HN3 : Hid (w3.heap[NB]? = some (.cells #[.int .i64 c.J.n.b, .slice pa c.J.n.p.length pc9, .slice ca c.J.n.c.length cc9, .int .i64 (c.J.n.a + 1)] 53 (0, 0))) := hN3
      have HF3 : Hid (OwN 0 w3 (.slice fa (frm c).length fc) (frm c)) := row_keep HF2.out fun x hx => HS3.out x (by rw [HA1.out]; rcases HFB.out x hx with h | h; exact .inl (.inr h); exact .inr h)
      by_cases hee : ei = 0
      rotate_left
      · have q7 : (ei != 0) = true := by simp [hee]
        have HNO : Hid (CwM wz A sb cb (begC c) (begM c) (begE c) w (.returned (.tuple #[.slice none 0 0, .int .i64 (tolI ei)])) w3) := by rw [HEI.out]; exact hNO (by rw [← HEI.out]; exact hee)
        clear hee hNO hM3 hCA hN3 j9 m0 m1 m2 m3
        go_wp2_with (go_at_call 49; refine (told_walk ei).mono ?_; rintro e w9 ⟨rfl, h9⟩; replace h9 := h9.symm; subst h9)
        go_ret2
        exact HNO.out
      · have HE0 : Hid (begI c = 0) := by show _ = _; rw [← HEI.out]; exact hee
        subst hee
        have hwb1 : IntKind.i64.wrap (c.J.n.b + (V.length : Int)) = c.J.n.b + (V.length : Int) := by have := HJO.out.r.b0; have := HJO.out.r.b1; have := HV4.out; rw [IntKind.wrap_i64]; omega
        have hwb2 : IntKind.i64.wrap (c.J.n.b + (V.length : Int) + 1) = c.J.n.b + (V.length : Int) + 1 := by have := HJO.out.r.b0; have := HJO.out.r.b1; have := HV4.out; rw [IntKind.wrap_i64]; omega
        have HF64 : Hid (In64 (frm c)) := in64_of HF256.out
        have HF8 : Hid ((frm c).length * 8 ≤ 140737488355328) := by have := HF4.out; show _ ≤ _; omega
        have g0 : ∀ wx, Below w3.heap.size w3 wx → wx.cell? ⟨cb, 0, none⟩ = some (.int .i64 c.p.P) := fun wx hb => by rw [(HM3.out.below hb).cell]; rfl
        have g1 : ∀ wx, Below w3.heap.size w3 wx → wx.cell? ⟨cb, 1, none⟩ = some (.int .i64 c.p.S) := fun wx hb => by rw [(HM3.out.below hb).cell]; rfl
        have g2 : ∀ wx, Below w3.heap.size w3 wx → wx.cell? ⟨cb, 2, none⟩ = some (.int .i64 c.p.W) := fun wx hb => by rw [(HM3.out.below hb).cell]; rfl
        have g3 : ∀ wx, Below w3.heap.size w3 wx → wx.cell? ⟨cb, 3, none⟩ = some (.slice none 0 0) := fun wx hb => by rw [(HM3.out.below hb).cell]; rfl
        have g4 : ∀ wx, Below w3.heap.size w3 wx → wx.cell? ⟨cb, 4, none⟩ = some (.int .i64 c.p.A) := fun wx hb => by rw [(HM3.out.below hb).cell]; rfl
        have g5 : ∀ wx, Below w3.heap.size w3 wx → wx.cell? ⟨cb, 5, none⟩ = some (.int .i64 c.p.B) := fun wx hb => by rw [(HM3.out.below hb).cell]; rfl
        have g6 : ∀ wx, Below w3.heap.size w3 wx → wx.cell? ⟨cb, 6, none⟩ = some (.int .i64 c.p.N) := fun wx hb => by rw [(HM3.out.below hb).cell]; rfl
        have g7 : ∀ wx, Below w3.heap.size w3 wx → wx.cell? ⟨cb, 7, none⟩ = some (.int .i64 c.p.G) := fun wx hb => by rw [(HM3.out.below hb).cell]; rfl
        have nb0 : ∀ wx, Below w3.heap.size w3 wx → wx.cell? ⟨NB, 0, none⟩ = some (.int .i64 c.J.n.b) := fun wx hb => by rw [blk_cell (blk_below HN3.out hb)]; rfl
        have nb3 : ∀ wx, Below w3.heap.size w3 wx → wx.cell? ⟨NB, 3, none⟩ = some (.int .i64 (c.J.n.a + 1)) := fun wx hb => by rw [blk_cell (blk_below HN3.out hb)]; rfl
        clear hNO hM3 hCA hN3 j9 m0 m1 m2 m3
        go_wp2_with fail
        go_cut [8] (fun tv wx => TbR w3 ⟨c.J.n.b + V.length + 1, c.J.n.a + 1, c.p.worker (c.J.n.a + 1), 1, 0, frm c, []⟩ tv wx)
        case first =>
          refine wp_region_noPanic ?_
          refine wp_region_held_drew (S := (fun wx => Below w3.heap.size w3 wx)) (by kernel_rfl) ?_ (fun hHeld => ?_)
          · exact (below_drewN w3 1)
          refine wpAnyH_take (i := 0) (oi := ⟨some 47, _, _, _, _, _⟩) (v := ?_) rfl (by kernel_rfl) (by kernel_rfl) (by kernel_rfl) (fun _ _ _ h => h) (Or.inl ⟨by rfl, ?_⟩) hHeld ?_
          rotate_left
          · intro w hSw; (try dsimp only at hSw); go_simp; all_goals (with_reducible rfl)
          try simp only [Act.put, List.setIfInBounds_toArray, List.set_cons_zero, List.set_cons_succ]
          refine wpAnyH_take (i := 1) (oi := ⟨some 48, _, _, _, _, _⟩) (v := ?_) rfl (by kernel_rfl) (by kernel_rfl) (by kernel_rfl) (fun _ _ _ h => h) (Or.inl ⟨by rfl, ?_⟩) hHeld ?_
          rotate_left
          · intro w hSw; (try dsimp only at hSw); go_simp; all_goals (with_reducible rfl)
          try simp only [Act.put, List.setIfInBounds_toArray, List.set_cons_zero, List.set_cons_succ]
          refine wpAnyH_take (i := 2) (oi := ⟨some 49, _, _, _, _, _⟩) (v := ?_) rfl (by kernel_rfl) (by kernel_rfl) (by kernel_rfl) (fun _ _ _ h => h) (Or.inl ⟨by rfl, ?_⟩) hHeld ?_
          rotate_left
          · intro w hSw; (try dsimp only at hSw); go_simp; all_goals (with_reducible rfl)
          try simp only [Act.put, List.setIfInBounds_toArray, List.set_cons_zero, List.set_cons_succ]
          refine wpAnyH_take (i := 3) (oi := ⟨some 50, _, _, _, _, _⟩) (v := ?_) rfl (by kernel_rfl) (by kernel_rfl) (by kernel_rfl) (fun _ _ _ h => h) (Or.inl ⟨by rfl, ?_⟩) hHeld ?_
          rotate_left
          · intro w hSw; (try dsimp only at hSw); go_simp; all_goals (with_reducible rfl)
          try simp only [Act.put, List.setIfInBounds_toArray, List.set_cons_zero, List.set_cons_succ]
          refine wpAnyH_take (i := 4) (oi := ⟨some 51, _, _, _, _, _⟩) (v := ?_) rfl (by kernel_rfl) (by kernel_rfl) (by kernel_rfl) (fun _ _ _ h => h) (Or.inl ⟨by rfl, ?_⟩) hHeld ?_
          rotate_left
          · intro w hSw; (try dsimp only at hSw); go_simp; all_goals (with_reducible rfl)
          try simp only [Act.put, List.setIfInBounds_toArray, List.set_cons_zero, List.set_cons_succ]
          refine wpAnyH_take (i := 5) (oi := ⟨some 52, _, _, _, _, _⟩) (v := ?_) rfl (by kernel_rfl) (by kernel_rfl) (by kernel_rfl) (fun _ _ _ h => h) (Or.inl ⟨by rfl, ?_⟩) hHeld ?_
          rotate_left
          · intro w hSw; (try dsimp only at hSw); go_simp; all_goals (with_reducible rfl)
          try simp only [Act.put, List.setIfInBounds_toArray, List.set_cons_zero, List.set_cons_succ]
          refine wpAnyH_take (i := 6) (oi := ⟨some 53, _, _, _, _, _⟩) (v := ?_) rfl (by kernel_rfl) (by kernel_rfl) (by kernel_rfl) (fun _ _ _ h => h) (Or.inl ⟨by rfl, ?_⟩) hHeld ?_
          rotate_left
          · intro w hSw; (try dsimp only at hSw); go_simp; all_goals (with_reducible rfl)
          try simp only [Act.put, List.setIfInBounds_toArray, List.set_cons_zero, List.set_cons_succ]
          refine wpAnyH_take (i := 7) (oi := ⟨some 54, _, _, _, _, _⟩) (v := ?_) rfl (by kernel_rfl) (by kernel_rfl) (by kernel_rfl) (fun _ _ _ h => h) (Or.inl ⟨by rfl, ?_⟩) hHeld ?_
          rotate_left
          · intro w hSw; (try dsimp only at hSw); go_simp; all_goals (with_reducible rfl)
          try simp only [Act.put, List.setIfInBounds_toArray, List.set_cons_zero, List.set_cons_succ]
          refine wpAnyH_take (i := 8) (oi := ⟨some 55, _, _, _, _, _⟩) (v := ?_) rfl (by kernel_rfl) (by kernel_rfl) (by kernel_rfl) (fun _ _ _ h => h) (Or.inl ⟨by rfl, ?_⟩) hHeld ?_
          rotate_left
          · intro w hSw; (try dsimp only at hSw); go_simp; all_goals (with_reducible rfl)
          try simp only [Act.put, List.setIfInBounds_toArray, List.set_cons_zero, List.set_cons_succ]
          refine wpAnyH_take (i := 9) (oi := ⟨some 56, _, _, _, _, _⟩) (v := ?_) rfl (by kernel_rfl) (by kernel_rfl) (by kernel_rfl) (fun _ _ _ h => h) (Or.inl ⟨by rfl, ?_⟩) hHeld ?_
          rotate_left
          · intro w hSw; (try dsimp only at hSw); go_simp; all_goals (with_reducible rfl)
          try simp only [Act.put, List.setIfInBounds_toArray, List.set_cons_zero, List.set_cons_succ]
          refine wpAnyH_take (i := 10) (oi := ⟨some 57, _, _, _, _, _⟩) (v := ?_) rfl (by kernel_rfl) (by kernel_rfl) (by kernel_rfl) (fun _ _ _ h => h) (Or.inl ⟨by rfl, ?_⟩) hHeld ?_
          rotate_left
          · intro w hSw; (try dsimp only at hSw); go_simp; all_goals (with_reducible rfl)
          try simp only [Act.put, List.setIfInBounds_toArray, List.set_cons_zero, List.set_cons_succ]
          refine wpAnyH_take (i := 11) (oi := ⟨some 58, _, _, _, _, _⟩) (v := ?_) rfl (by kernel_rfl) (by kernel_rfl) (by kernel_rfl) (fun _ _ _ h => h) (Or.inl ⟨by rfl, ?_⟩) hHeld ?_
          rotate_left
          · intro w hSw; (try dsimp only at hSw); go_simp; all_goals (with_reducible rfl)
          try simp only [Act.put, List.setIfInBounds_toArray, List.set_cons_zero, List.set_cons_succ]
          refine wpAnyH_take (i := 12) (oi := ⟨some 59, _, _, _, _, _⟩) (v := ?_) rfl (by kernel_rfl) (by kernel_rfl) (by kernel_rfl) (fun _ _ _ h => h) (Or.inl ⟨by rfl, ?_⟩) hHeld ?_
          rotate_left
          · intro w hSw; (try dsimp only at hSw); go_simp; all_goals (with_reducible rfl)
          try simp only [Act.put, List.setIfInBounds_toArray, List.set_cons_zero, List.set_cons_succ]
          refine wpAnyH_take (i := 13) (oi := ⟨some 60, _, _, _, _, _⟩) (v := ?_) rfl (by kernel_rfl) (by kernel_rfl) (by kernel_rfl) (fun _ _ _ h => h) (Or.inl ⟨by rfl, ?_⟩) hHeld ?_
          rotate_left
          · intro w hSw; (try dsimp only at hSw); go_simp; all_goals (with_reducible rfl)
          try simp only [Act.put, List.setIfInBounds_toArray, List.set_cons_zero, List.set_cons_succ]
          refine wpAnyH_take (i := 15) (oi := ⟨some 62, _, _, _, _, _⟩) (v := ?_) rfl (by kernel_rfl) (by kernel_rfl) (by kernel_rfl) (fun _ _ _ h => h) (Or.inl ⟨by rfl, ?_⟩) hHeld ?_
          rotate_left
          · intro w hSw; (try dsimp only at hSw); go_simp; all_goals (with_reducible rfl)
          try simp only [Act.put, List.setIfInBounds_toArray, List.set_cons_zero, List.set_cons_succ]
          refine wpAnyH_ready (rs := [14, 18]) (by kernel_rfl) (by simp) ?_
          refine AllReadyH.cons (o := ⟨some 61, _, _, _, _, _⟩) rfl (fun K hK => ?_) (AllReadyH.cons (o := ⟨some 8, _, _, _, _, _⟩) rfl (fun K hK => ?_) AllReadyH.nil)
          · go_simp
            refine (worker19 HOK.out (c.J.n.a + 1) (by have := HJO.out.r.a1; omega)).mono ?_
            rintro e w8 ⟨rfl, hB8⟩
            have hS8 : Below w3.heap.size w3 w8 := below_trans hHeld hB8
            clear hB8 hHeld
            refine hK.out _ _ ?_ (fun hHeld => ?_)
            · exact hS8
            clear hK K
            try simp only [Act.put, List.setIfInBounds_toArray, List.set_cons_zero, List.set_cons_succ]
            refine wpAnyH_ready (rs := [16, 18]) (by kernel_rfl) (by simp) ?_
            refine AllReadyH.cons (o := ⟨some 63, _, _, _, _, _⟩) rfl (fun K hK => ?_) (AllReadyH.cons (o := ⟨some 8, _, _, _, _, _⟩) rfl (fun K hK => ?_) AllReadyH.nil)
            · go_simp
              refine (cloneN_walk ((own_nv HF3.out HF64.out).below hHeld) HF8.out).mono ?_
              rintro e w9 ⟨v9, rfl, ho9, hB9⟩
              obtain ⟨_, fa9, fc9, rfl, _⟩ := own_nl ho9
              have hS9 : Below w3.heap.size w3 w9 := below_trans hHeld hB9
              have ho9 := own_base ho9 hHeld.size
              clear hB9 hHeld
              go_simp
              refine hK.out _ _ ?_ (fun hHeld => ?_)
              · exact hS9
              clear hK K
              try simp only [Act.put, List.setIfInBounds_toArray, List.set_cons_zero, List.set_cons_succ]
              refine wpAnyH_take (i := 17) (oi := ⟨some 64, _, _, _, _, _⟩) (v := ?_) rfl (by kernel_rfl) (by kernel_rfl) (by kernel_rfl) (fun _ _ _ h => h) (Or.inl ⟨by rfl, ?_⟩) hHeld ?_
              rotate_left
              · intro w hSw; (try dsimp only at hSw); go_simp; all_goals (with_reducible rfl)
              try simp only [Act.put, List.setIfInBounds_toArray, List.set_cons_zero, List.set_cons_succ]
              refine wpAnyH_ready (rs := [18]) (by kernel_rfl) (by simp) ?_
              refine AllReadyH.cons (o := ⟨some 8, _, _, _, _, _⟩) rfl (fun K hK => ?_) AllReadyH.nil
              go_simp
              refine hK.out _ _ ?_ (fun hHeld => ?_)
              · exact (by first | exact hHeld.alloc hHeld.size _ | exact (below_alloc _ _).drew)
              clear hK K
              try simp only [Act.put, List.setIfInBounds_toArray, List.set_cons_zero, List.set_cons_succ]
              refine wpAnyH_ready (rs := [19]) (by kernel_rfl) (by simp) ?_
              refine AllReadyH.cons (o := ⟨none, _, _, _, _, _⟩) rfl (fun K hK => ?_) AllReadyH.nil
              go_simp
              refine hK.out _ _ ?_ (fun hHeld => ?_)
              · exact hS9.alloc hS9.size _
              clear hK K
              try simp only [Act.put, List.setIfInBounds_toArray, List.set_cons_zero, List.set_cons_succ]
              refine wpAnyH_done (by kernel_rfl) ?_ _
              refine NoPanic.normal ?_
              go_wp2_with fail
              go_meet
              exact tb_new (y := ⟨c.J.n.b + V.length + 1, c.J.n.a + 1, c.p.worker (c.J.n.a + 1), 1, 0, frm c, []⟩) hS9 ho9
            · go_simp
              refine hK.out _ _ ?_ (fun hHeld => ?_)
              · exact (by first | exact hHeld.alloc hHeld.size _ | exact (below_alloc _ _).drew)
              clear hK K
              try simp only [Act.put, List.setIfInBounds_toArray, List.set_cons_zero, List.set_cons_succ]
              refine wpAnyH_ready (rs := [16]) (by kernel_rfl) (by simp) ?_
              refine AllReadyH.cons (o := ⟨some 63, _, _, _, _, _⟩) rfl (fun K hK => ?_) AllReadyH.nil
              go_simp
              refine (cloneN_walk ((own_nv HF3.out HF64.out).below hHeld) HF8.out).mono ?_
              rintro e w9 ⟨v9, rfl, ho9, hB9⟩
              obtain ⟨_, fa9, fc9, rfl, _⟩ := own_nl ho9
              have hS9 : Below w3.heap.size w3 w9 := below_trans hHeld hB9
              have ho9 := own_base ho9 hHeld.size
              have hz9 := blk_below (alloc_at (w := w8) (k := w8.heap.size) rfl) hB9
              have hT : w3.heap.size ≤ w8.heap.size := hS8.size
              have z0 : w9.cell? ⟨w8.heap.size, 0, none⟩ = some (.int .i64 0) := by rw [blk_cell hz9]; rfl
              have y0 : w9.frozen? ⟨w8.heap.size, 0, none⟩ = false := blk_soft hz9 0
              have z1 : w9.cell? ⟨w8.heap.size, 1, none⟩ = some (.int .i64 0) := by rw [blk_cell hz9]; rfl
              have y1 : w9.frozen? ⟨w8.heap.size, 1, none⟩ = false := blk_soft hz9 1
              have z2 : w9.cell? ⟨w8.heap.size, 2, none⟩ = some (.int .i64 0) := by rw [blk_cell hz9]; rfl
              have y2 : w9.frozen? ⟨w8.heap.size, 2, none⟩ = false := blk_soft hz9 2
              have z3 : w9.cell? ⟨w8.heap.size, 3, none⟩ = some (.int .i64 0) := by rw [blk_cell hz9]; rfl
              have y3 : w9.frozen? ⟨w8.heap.size, 3, none⟩ = false := blk_soft hz9 3
              have z4 : w9.cell? ⟨w8.heap.size, 4, none⟩ = some (.int .i64 0) := by rw [blk_cell hz9]; rfl
              have y4 : w9.frozen? ⟨w8.heap.size, 4, none⟩ = false := blk_soft hz9 4
              have z5 : w9.cell? ⟨w8.heap.size, 5, none⟩ = some (.slice none 0 0) := by rw [blk_cell hz9]; rfl
              have y5 : w9.frozen? ⟨w8.heap.size, 5, none⟩ = false := blk_soft hz9 5
              have z6 : w9.cell? ⟨w8.heap.size, 6, none⟩ = some (.slice none 0 0) := by rw [blk_cell hz9]; rfl
              have y6 : w9.frozen? ⟨w8.heap.size, 6, none⟩ = false := blk_soft hz9 6
              clear hB9 hHeld
              go_simp
              refine hK.out _ _ ?_ (fun hHeld => ?_)
              · exact hS9
              clear hK K
              try simp only [Act.put, List.setIfInBounds_toArray, List.set_cons_zero, List.set_cons_succ]
              refine wpAnyH_take (i := 17) (oi := ⟨some 64, _, _, _, _, _⟩) (v := ?_) rfl (by kernel_rfl) (by kernel_rfl) (by kernel_rfl) (fun _ _ _ h => h) (Or.inl ⟨by rfl, ?_⟩) hHeld ?_
              rotate_left
              · intro w hSw; (try dsimp only at hSw); go_simp; all_goals (with_reducible rfl)
              try simp only [Act.put, List.setIfInBounds_toArray, List.set_cons_zero, List.set_cons_succ]
              refine wpAnyH_ready (rs := [19]) (by kernel_rfl) (by simp) ?_
              refine AllReadyH.cons (o := ⟨none, _, _, _, _, _⟩) rfl (fun K hK => ?_) AllReadyH.nil
              go_simp
              refine hK.out _ _ ?_ (fun hHeld => ?_)
              · exact hS9.trans ((ch_set7 w9 w8.heap.size ⟨c.J.n.b + V.length + 1, c.J.n.a + 1, c.p.worker (c.J.n.a + 1), 1, 0, frm c, []⟩ (.slice fa9 (frm c).length fc9) (.slice none 0 0)).to_below hS9.size (fun x hx => by rw [hx]; exact hT))
              clear hK K
              try simp only [Act.put, List.setIfInBounds_toArray, List.set_cons_zero, List.set_cons_succ]
              refine wpAnyH_done (by kernel_rfl) ?_ _
              refine NoPanic.normal ?_
              go_wp2_with fail
              go_meet
              exact tb_old (y := ⟨c.J.n.b + V.length + 1, c.J.n.a + 1, c.p.worker (c.J.n.a + 1), 1, 0, frm c, []⟩) hS9 hT hz9 ho9
          · go_simp
            refine hK.out _ _ ?_ (fun hHeld => ?_)
            · exact (by first | exact hHeld.alloc hHeld.size _ | exact (below_alloc _ _).drew)
            clear hK K
            try simp only [Act.put, List.setIfInBounds_toArray, List.set_cons_zero, List.set_cons_succ]
            refine wpAnyH_ready (rs := [14]) (by kernel_rfl) (by simp) ?_
            refine AllReadyH.cons (o := ⟨some 61, _, _, _, _, _⟩) rfl (fun K hK => ?_) AllReadyH.nil
            go_simp
            refine (worker19 HOK.out (c.J.n.a + 1) (by have := HJO.out.r.a1; omega)).mono ?_
            rintro e w8 ⟨rfl, hB8⟩
            have hS8 : Below w3.heap.size w3 w8 := below_trans hHeld hB8
            have hz8 := zero_nt hB8
            clear hB8 hHeld
            refine hK.out _ _ ?_ (fun hHeld => ?_)
            · exact hS8
            clear hK K
            try simp only [Act.put, List.setIfInBounds_toArray, List.set_cons_zero, List.set_cons_succ]
            refine wpAnyH_ready (rs := [16]) (by kernel_rfl) (by simp) ?_
            refine AllReadyH.cons (o := ⟨some 63, _, _, _, _, _⟩) rfl (fun K hK => ?_) AllReadyH.nil
            go_simp
            refine (cloneN_walk ((own_nv HF3.out HF64.out).below hHeld) HF8.out).mono ?_
            rintro e w9 ⟨v9, rfl, ho9, hB9⟩
            obtain ⟨_, fa9, fc9, rfl, _⟩ := own_nl ho9
            have hS9 : Below w3.heap.size w3 w9 := below_trans hHeld hB9
            have ho9 := own_base ho9 hHeld.size
            have hz9 := blk_below hz8 hB9
            have hT : w3.heap.size ≤ w3.heap.size := Nat.le_refl _
            have z0 : w9.cell? ⟨w3.heap.size, 0, none⟩ = some (.int .i64 0) := by rw [blk_cell hz9]; rfl
            have y0 : w9.frozen? ⟨w3.heap.size, 0, none⟩ = false := blk_soft hz9 0
            have z1 : w9.cell? ⟨w3.heap.size, 1, none⟩ = some (.int .i64 0) := by rw [blk_cell hz9]; rfl
            have y1 : w9.frozen? ⟨w3.heap.size, 1, none⟩ = false := blk_soft hz9 1
            have z2 : w9.cell? ⟨w3.heap.size, 2, none⟩ = some (.int .i64 0) := by rw [blk_cell hz9]; rfl
            have y2 : w9.frozen? ⟨w3.heap.size, 2, none⟩ = false := blk_soft hz9 2
            have z3 : w9.cell? ⟨w3.heap.size, 3, none⟩ = some (.int .i64 0) := by rw [blk_cell hz9]; rfl
            have y3 : w9.frozen? ⟨w3.heap.size, 3, none⟩ = false := blk_soft hz9 3
            have z4 : w9.cell? ⟨w3.heap.size, 4, none⟩ = some (.int .i64 0) := by rw [blk_cell hz9]; rfl
            have y4 : w9.frozen? ⟨w3.heap.size, 4, none⟩ = false := blk_soft hz9 4
            have z5 : w9.cell? ⟨w3.heap.size, 5, none⟩ = some (.slice none 0 0) := by rw [blk_cell hz9]; rfl
            have y5 : w9.frozen? ⟨w3.heap.size, 5, none⟩ = false := blk_soft hz9 5
            have z6 : w9.cell? ⟨w3.heap.size, 6, none⟩ = some (.slice none 0 0) := by rw [blk_cell hz9]; rfl
            have y6 : w9.frozen? ⟨w3.heap.size, 6, none⟩ = false := blk_soft hz9 6
            clear hB9 hHeld
            go_simp
            refine hK.out _ _ ?_ (fun hHeld => ?_)
            · exact hS9
            clear hK K
            try simp only [Act.put, List.setIfInBounds_toArray, List.set_cons_zero, List.set_cons_succ]
            refine wpAnyH_take (i := 17) (oi := ⟨some 64, _, _, _, _, _⟩) (v := ?_) rfl (by kernel_rfl) (by kernel_rfl) (by kernel_rfl) (fun _ _ _ h => h) (Or.inl ⟨by rfl, ?_⟩) hHeld ?_
            rotate_left
            · intro w hSw; (try dsimp only at hSw); go_simp; all_goals (with_reducible rfl)
            try simp only [Act.put, List.setIfInBounds_toArray, List.set_cons_zero, List.set_cons_succ]
            refine wpAnyH_ready (rs := [19]) (by kernel_rfl) (by simp) ?_
            refine AllReadyH.cons (o := ⟨none, _, _, _, _, _⟩) rfl (fun K hK => ?_) AllReadyH.nil
            go_simp
            refine hK.out _ _ ?_ (fun hHeld => ?_)
            · exact hS9.trans ((ch_set7 w9 w3.heap.size ⟨c.J.n.b + V.length + 1, c.J.n.a + 1, c.p.worker (c.J.n.a + 1), 1, 0, frm c, []⟩ (.slice fa9 (frm c).length fc9) (.slice none 0 0)).to_below hS9.size (fun x hx => by rw [hx]; exact hT))
            clear hK K
            try simp only [Act.put, List.setIfInBounds_toArray, List.set_cons_zero, List.set_cons_succ]
            refine wpAnyH_done (by kernel_rfl) ?_ _
            refine NoPanic.normal ?_
            go_wp2_with fail
            go_meet
            exact tb_old (y := ⟨c.J.n.b + V.length + 1, c.J.n.a + 1, c.p.worker (c.J.n.a + 1), 1, 0, frm c, []⟩) hS9 hT hz9 ho9
        case rest =>
          obtain ⟨TB, fa4, fc4, rfl, hT4, ho4, hTB, hB4⟩ := hcut
          obtain ⟨w4, hw4⟩ : ∃ w4, w4 = wc := ⟨_, rfl⟩
          subst hw4
          have HT4 : Hid (w4.heap[TB]? = some (.cells #[.int .i64 (c.J.n.b + V.length + 1), .int .i64 (c.J.n.a + 1), .int .i64 (c.p.worker (c.J.n.a + 1)), .int .i64 1, .int .i64 0, .slice fa4 (frm c).length fc4, .slice none 0 0] 43 (0, 0))) := hT4
          have HO4 : Hid (OwN w3.heap.size w4 (.slice fa4 (frm c).length fc4) (frm c)) := ho4
          have HTB : Hid (w3.heap.size ≤ TB) := hTB
          have HB4 : Hid (Below w3.heap.size w3 w4) := hB4
          have hm4 := HM3.out.below hB4
          have HM4 : Hid (CM C w4 cb (Pt sb) (Pt jb) c.p (.slice ta V.length tc) V c.o) := hm4
          have c10 : w4.cell? ⟨cb, 10, none⟩ = some (.slice ta V.length tc) := hm4.cell 10
          have hcb4 : cb < w4.heap.size := hm4.lt
          have hcb5 : ¬ cb = w4.heap.size := by omega
          have x0 : ∀ wx : World, wx.heap[TB]? = some (.cells #[.int .i64 (c.J.n.b + V.length + 1), .int .i64 (c.J.n.a + 1), .int .i64 (c.p.worker (c.J.n.a + 1)), .int .i64 1, .int .i64 0, .slice fa4 (frm c).length fc4, .slice none 0 0] 43 (0, 0)) → wx.cell? ⟨TB, 0, none⟩ = some (.int .i64 (c.J.n.b + V.length + 1)) := fun wx h => by rw [blk_cell h]; rfl
          have x1 : ∀ wx : World, wx.heap[TB]? = some (.cells #[.int .i64 (c.J.n.b + V.length + 1), .int .i64 (c.J.n.a + 1), .int .i64 (c.p.worker (c.J.n.a + 1)), .int .i64 1, .int .i64 0, .slice fa4 (frm c).length fc4, .slice none 0 0] 43 (0, 0)) → wx.cell? ⟨TB, 1, none⟩ = some (.int .i64 (c.J.n.a + 1)) := fun wx h => by rw [blk_cell h]; rfl
          have x2 : ∀ wx : World, wx.heap[TB]? = some (.cells #[.int .i64 (c.J.n.b + V.length + 1), .int .i64 (c.J.n.a + 1), .int .i64 (c.p.worker (c.J.n.a + 1)), .int .i64 1, .int .i64 0, .slice fa4 (frm c).length fc4, .slice none 0 0] 43 (0, 0)) → wx.cell? ⟨TB, 2, none⟩ = some (.int .i64 (c.p.worker (c.J.n.a + 1))) := fun wx h => by rw [blk_cell h]; rfl
          have x3 : ∀ wx : World, wx.heap[TB]? = some (.cells #[.int .i64 (c.J.n.b + V.length + 1), .int .i64 (c.J.n.a + 1), .int .i64 (c.p.worker (c.J.n.a + 1)), .int .i64 1, .int .i64 0, .slice fa4 (frm c).length fc4, .slice none 0 0] 43 (0, 0)) → wx.cell? ⟨TB, 3, none⟩ = some (.int .i64 1) := fun wx h => by rw [blk_cell h]; rfl
          have x4 : ∀ wx : World, wx.heap[TB]? = some (.cells #[.int .i64 (c.J.n.b + V.length + 1), .int .i64 (c.J.n.a + 1), .int .i64 (c.p.worker (c.J.n.a + 1)), .int .i64 1, .int .i64 0, .slice fa4 (frm c).length fc4, .slice none 0 0] 43 (0, 0)) → wx.cell? ⟨TB, 4, none⟩ = some (.int .i64 0) := fun wx h => by rw [blk_cell h]; rfl
          have x5 : ∀ wx : World, wx.heap[TB]? = some (.cells #[.int .i64 (c.J.n.b + V.length + 1), .int .i64 (c.J.n.a + 1), .int .i64 (c.p.worker (c.J.n.a + 1)), .int .i64 1, .int .i64 0, .slice fa4 (frm c).length fc4, .slice none 0 0] 43 (0, 0)) → wx.cell? ⟨TB, 5, none⟩ = some (.slice fa4 (frm c).length fc4) := fun wx h => by rw [blk_cell h]; rfl
          have x6 : ∀ wx : World, wx.heap[TB]? = some (.cells #[.int .i64 (c.J.n.b + V.length + 1), .int .i64 (c.J.n.a + 1), .int .i64 (c.p.worker (c.J.n.a + 1)), .int .i64 1, .int .i64 0, .slice fa4 (frm c).length fc4, .slice none 0 0] 43 (0, 0)) → wx.cell? ⟨TB, 6, none⟩ = some (.slice none 0 0) := fun wx h => by rw [blk_cell h]; rfl
          clear hT4 ho4 hTB hB4 hm4 g0 g1 g2 g3 g4 g5 g6 g7 nb0 nb3
          go_wp2_with fail
          refine wp_region_noPanic ?_
          refine wp_region_held_drew (S := (fun wx : World => wx.heap[TB]? = some (.cells #[.int .i64 (c.J.n.b + V.length + 1), .int .i64 (c.J.n.a + 1), .int .i64 (c.p.worker (c.J.n.a + 1)), .int .i64 1, .int .i64 0, .slice fa4 (frm c).length fc4, .slice none 0 0] 43 (0, 0)))) (by kernel_rfl) ?_ (fun hHeld => ?_)
          · exact (blk_below HT4.out (below_drewN w4 1))
          refine wpAnyH_take (i := 0) (oi := ⟨some 65, _, _, _, _, _⟩) (v := ?_) rfl (by kernel_rfl) (by kernel_rfl) (by kernel_rfl) (fun _ _ _ h => h) (Or.inl ⟨by rfl, ?_⟩) hHeld ?_
          rotate_left
          · intro w hSw; (try dsimp only at hSw); go_simp; all_goals (with_reducible rfl)
          try simp only [Act.put, List.setIfInBounds_toArray, List.set_cons_zero, List.set_cons_succ]
          refine wpAnyH_take (i := 1) (oi := ⟨some 66, _, _, _, _, _⟩) (v := ?_) rfl (by kernel_rfl) (by kernel_rfl) (by kernel_rfl) (fun _ _ _ h => h) (Or.inl ⟨by rfl, ?_⟩) hHeld ?_
          rotate_left
          · intro w hSw; (try dsimp only at hSw); go_simp; all_goals (with_reducible rfl)
          try simp only [Act.put, List.setIfInBounds_toArray, List.set_cons_zero, List.set_cons_succ]
          refine wpAnyH_take (i := 2) (oi := ⟨some 67, _, _, _, _, _⟩) (v := ?_) rfl (by kernel_rfl) (by kernel_rfl) (by kernel_rfl) (fun _ _ _ h => h) (Or.inl ⟨by rfl, ?_⟩) hHeld ?_
          rotate_left
          · intro w hSw; (try dsimp only at hSw); go_simp; all_goals (with_reducible rfl)
          try simp only [Act.put, List.setIfInBounds_toArray, List.set_cons_zero, List.set_cons_succ]
          refine wpAnyH_take (i := 3) (oi := ⟨some 68, _, _, _, _, _⟩) (v := ?_) rfl (by kernel_rfl) (by kernel_rfl) (by kernel_rfl) (fun _ _ _ h => h) (Or.inl ⟨by rfl, ?_⟩) hHeld ?_
          rotate_left
          · intro w hSw; (try dsimp only at hSw); go_simp; all_goals (with_reducible rfl)
          try simp only [Act.put, List.setIfInBounds_toArray, List.set_cons_zero, List.set_cons_succ]
          refine wpAnyH_take (i := 5) (oi := ⟨some 70, _, _, _, _, _⟩) (v := ?_) rfl (by kernel_rfl) (by kernel_rfl) (by kernel_rfl) (fun _ _ _ h => h) (Or.inl ⟨by rfl, ?_⟩) hHeld ?_
          rotate_left
          · intro w hSw; (try dsimp only at hSw); go_simp; all_goals (with_reducible rfl)
          try simp only [Act.put, List.setIfInBounds_toArray, List.set_cons_zero, List.set_cons_succ]
          refine wpAnyH_ready (rs := [4, 6]) (by kernel_rfl) (by simp) ?_
          refine AllReadyH.cons (o := ⟨some 69, _, _, _, _, _⟩) rfl (fun K hK => ?_) (AllReadyH.cons (o := ⟨some 71, _, _, _, _, _⟩) rfl (fun K hK => ?_) AllReadyH.nil)
          · go_simp
            refine hK.out _ _ ?_ (fun hHeld => ?_)
            · exact hHeld
            clear hK K
            try simp only [Act.put, List.setIfInBounds_toArray, List.set_cons_zero, List.set_cons_succ]
            refine wpAnyH_ready (rs := [6]) (by kernel_rfl) (by simp) ?_
            refine AllReadyH.cons (o := ⟨some 71, _, _, _, _, _⟩) rfl (fun K hK => ?_) AllReadyH.nil
            go_simp
            refine hK.out _ _ ?_ (fun hHeld => ?_)
            · exact (alloc_old hHeld)
            clear hK K
            try simp only [Act.put, List.setIfInBounds_toArray, List.set_cons_zero, List.set_cons_succ]
            refine wpAnyH_ready (rs := [7]) (by kernel_rfl) (by simp) ?_
            refine AllReadyH.cons (o := ⟨some 72, _, _, _, _, _⟩) rfl (fun K hK => ?_) AllReadyH.nil
            refine step_app_try rfl (.tmp 69) (.tmp 71) rfl (base := 0) (.slice ta V.length tc) V.length (flatY V) (by simp [Act.eval]) (own_below HM4.out.row (below_trans (below_drewN w4 1) (below_alloc _ _))) w4.heap.size ⟨⟨c.J.n.b + V.length + 1, c.J.n.a + 1, c.p.worker (c.J.n.a + 1), 1, 0, frm c, []⟩, .slice fa4 (frm c).length fc4, .slice none 0 0⟩ (by simp [Act.eval]) (@cells_litY w4.drew ⟨⟨c.J.n.b + V.length + 1, c.J.n.a + 1, c.p.worker (c.J.n.a + 1), 1, 0, frm c, []⟩, .slice fa4 (frm c).length fc4, .slice none 0 0⟩ 43) ?_ (by have := HV4.out; omega) (Nat.zero_le _) ?_
            · intro u hu; unfold cellsY at hu; simp only [List.mem_cons, List.not_mem_nil, or_false] at hu; rcases hu with rfl | rfl | rfl | rfl | rfl | rfl | rfl <;> rfl
            intro v5 w5 hr5 hg5 hat5
            have HR5 : Hid (w5.ownsRow 0 43 7 v5 (V.length + 1) (flatY V ++ cellsY ⟨⟨c.J.n.b + V.length + 1, c.J.n.a + 1, c.p.worker (c.J.n.a + 1), 1, 0, frm c, []⟩, .slice fa4 (frm c).length fc4, .slice none 0 0⟩)) := hr5
            have HG5 := hidH hg5
            have HAT5 := hidH hat5
            obtain ⟨a5, cp5, rfl, _, _⟩ := own_formY hr5
            have hh5 : w5.heap[cb]? = some (.cells (cC c.p (Pt sb) (Pt jb) (.slice ta V.length tc) c.o) 72 (0, 0)) := by rw [hg5.block cb (by have := HM4.out.lt; simp; omega) (fun e => (HM4.out.kr cb e.symm).2 rfl)]; exact alloc_old HM4.out.head
            have v10 : w5.cell? ⟨cb, 10, none⟩ = some (.slice ta V.length tc) := by rw [blk_cell hh5]; rfl
            have y10 : w5.frozen? ⟨cb, 10, none⟩ = false := blk_soft hh5 10
            have HT5 : Hid (w5.heap[TB]? = some (.cells #[.int .i64 (c.J.n.b + V.length + 1), .int .i64 (c.J.n.a + 1), .int .i64 (c.p.worker (c.J.n.a + 1)), .int .i64 1, .int .i64 0, .slice fa4 (frm c).length fc4, .slice none 0 0] 43 (0, 0))) := by
                show _ = _
                rw [hg5.block TB (by have := blk_lt HT4.out; simp; omega) (fun e => by have h1 := HM3.out.kl TB (HM4.out.kr TB e.symm).1; have h2 := HTB.out; omega)]
                exact alloc_old HT4.out
            clear hr5 hg5 hat5 hh5
            refine hK.out _ _ ?_ (fun hHeld => ?_)
            · exact HT5.out
            clear hK K
            try simp only [Act.put, List.setIfInBounds_toArray, List.set_cons_zero, List.set_cons_succ]
            refine wpAnyH_take (i := 8) (oi := ⟨some 73, _, _, _, _, _⟩) (v := ?_) rfl (by kernel_rfl) (by kernel_rfl) (by kernel_rfl) (fun _ _ _ h => h) (Or.inl ⟨by rfl, ?_⟩) hHeld ?_
            rotate_left
            · intro w hSw; (try dsimp only at hSw); go_simp; all_goals (with_reducible rfl)
            try simp only [Act.put, List.setIfInBounds_toArray, List.set_cons_zero, List.set_cons_succ]
            refine wpAnyH_take (i := 9) (oi := ⟨some 74, _, _, _, _, _⟩) (v := ?_) rfl (by kernel_rfl) (by kernel_rfl) (by kernel_rfl) (fun _ _ _ h => h) (Or.inl ⟨by rfl, ?_⟩) hHeld ?_
            rotate_left
            · intro w hSw; (try dsimp only at hSw); go_simp; all_goals (with_reducible rfl)
            try simp only [Act.put, List.setIfInBounds_toArray, List.set_cons_zero, List.set_cons_succ]
            refine wpAnyH_ready (rs := [10]) (by kernel_rfl) (by simp) ?_
            refine AllReadyH.cons (o := ⟨none, _, _, _, _, _⟩) rfl (fun K hK => ?_) AllReadyH.nil
            go_simp
            refine hK.out _ _ ?_ (fun hHeld => ?_)
            · exact (by rw [set_other _ _ (show TB ≠ cb by have h1 := HM3.out.lt; have h2 := HTB.out; omega)]; exact HT5.out)
            clear hK K
            try simp only [Act.put, List.setIfInBounds_toArray, List.set_cons_zero, List.set_cons_succ]
            refine wpAnyH_done (by kernel_rfl) ?_ _
            refine NoPanic.normal ?_
            have HP := hidH (push_end (x := ⟨⟨c.J.n.b + V.length + 1, c.J.n.a + 1, c.p.worker (c.J.n.a + 1), 1, 0, frm c, []⟩, .slice fa4 (frm c).length fc4, .slice none 0 0⟩) (o := Obj.cells #[.int .i64 (c.J.n.b + V.length + 1), .int .i64 (c.J.n.a + 1), .int .i64 (c.p.worker (c.J.n.a + 1)), .int .i64 1, .int .i64 0, .slice fa4 (frm c).length fc4, .slice none 0 0] 43) HOK.out H1.out (A := A) (A1 := A1) (fun b hb => by rw [HA1.out]; exact .inl hb) (fun b hb => by have h1 := H2.out.al b (.inl hb); have h2 := HCA.out.size; omega) (w4 := w4.drew) HL3.out HM3.out (below_trans HB4.out (below_drewN w4 1)) (own_below HO4.out (below_drewN w4 1)) ⟨rfl, rfl⟩ (yok_new HF256.out HF4.out) HV4.out HR5.out HG5.out HAT5.out)
            obtain ⟨w6, hw6⟩ : ∃ w6, w6 = w5.setCell ⟨cb, 10, none⟩ (.slice a5 (V.length + 1) cp5) := ⟨_, rfl⟩
            rw [← hw6] at HP ⊢
            have hT6 : w6.heap[TB]? = some (.cells #[.int .i64 (c.J.n.b + V.length + 1), .int .i64 (c.J.n.a + 1), .int .i64 (c.p.worker (c.J.n.a + 1)), .int .i64 1, .int .i64 0, .slice fa4 (frm c).length fc4, .slice none 0 0] 43 (0, 0)) := by rw [hw6, set_other _ _ (show TB ≠ cb by have h1 := HM3.out.lt; have h2 := HTB.out; omega)]; exact HT5.out
            have HY6 : Hid (Yl w6 ⟨⟨c.J.n.b + V.length + 1, c.J.n.a + 1, c.p.worker (c.J.n.a + 1), 1, 0, frm c, []⟩, .slice fa4 (frm c).length fc4, .slice none 0 0⟩) := HP.out.2.2
            have l0 := x0 w6 hT6
            have l1 := x1 w6 hT6
            have l2 := x2 w6 hT6
            have l3 := x3 w6 hT6
            have l4 := x4 w6 hT6
            have l5 := x5 w6 hT6
            have l6 := x6 w6 hT6
            clear hT6 hw6
            go_wp2_with fail
            refine (about_walk (x := ⟨⟨c.J.n.b + V.length + 1, c.J.n.a + 1, c.p.worker (c.J.n.a + 1), 1, 0, frm c, []⟩, .slice fa4 (frm c).length fc4, .slice none 0 0⟩) (k := 1) (l := frm c) HY6.out HY6.out.f HF8.out).mono ?_
            rintro e w7 ⟨ev7, rfl, ho7, hB7⟩
            have HO7 : Hid (OwN w6.heap.size w7 ev7 (frm c)) := ho7
            have HB7 : Hid (Below w6.heap.size w6 w7) := hB7
            obtain ⟨_, ea7, ec7, rfl, _⟩ := own_nl ho7
            clear ho7 hB7
            go_wp2_with fail
            go_ret2
            exact beg_yes HE0.out H4.out HLEN.out HCA.out H1.out HP.out (fun b hb => by rcases hb with rfl | hb; exact HM3.out.kc; exact (HM3.out.kr b hb).1) HO7.out HB7.out
          · go_simp
            refine hK.out _ _ ?_ (fun hHeld => ?_)
            · exact (alloc_old hHeld)
            clear hK K
            try simp only [Act.put, List.setIfInBounds_toArray, List.set_cons_zero, List.set_cons_succ]
            refine wpAnyH_ready (rs := [4]) (by kernel_rfl) (by simp) ?_
            refine AllReadyH.cons (o := ⟨some 69, _, _, _, _, _⟩) rfl (fun K hK => ?_) AllReadyH.nil
            go_simp
            refine hK.out _ _ ?_ (fun hHeld => ?_)
            · exact hHeld
            clear hK K
            try simp only [Act.put, List.setIfInBounds_toArray, List.set_cons_zero, List.set_cons_succ]
            refine wpAnyH_ready (rs := [7]) (by kernel_rfl) (by simp) ?_
            refine AllReadyH.cons (o := ⟨some 72, _, _, _, _, _⟩) rfl (fun K hK => ?_) AllReadyH.nil
            refine step_app_try rfl (.tmp 69) (.tmp 71) rfl (base := 0) (.slice ta V.length tc) V.length (flatY V) (by simp [Act.eval]) (own_below HM4.out.row (below_trans (below_drewN w4 1) (below_alloc _ _))) w4.heap.size ⟨⟨c.J.n.b + V.length + 1, c.J.n.a + 1, c.p.worker (c.J.n.a + 1), 1, 0, frm c, []⟩, .slice fa4 (frm c).length fc4, .slice none 0 0⟩ (by simp [Act.eval]) (@cells_litY w4.drew ⟨⟨c.J.n.b + V.length + 1, c.J.n.a + 1, c.p.worker (c.J.n.a + 1), 1, 0, frm c, []⟩, .slice fa4 (frm c).length fc4, .slice none 0 0⟩ 43) ?_ (by have := HV4.out; omega) (Nat.zero_le _) ?_
            · intro u hu; unfold cellsY at hu; simp only [List.mem_cons, List.not_mem_nil, or_false] at hu; rcases hu with rfl | rfl | rfl | rfl | rfl | rfl | rfl <;> rfl
            intro v5 w5 hr5 hg5 hat5
            have HR5 : Hid (w5.ownsRow 0 43 7 v5 (V.length + 1) (flatY V ++ cellsY ⟨⟨c.J.n.b + V.length + 1, c.J.n.a + 1, c.p.worker (c.J.n.a + 1), 1, 0, frm c, []⟩, .slice fa4 (frm c).length fc4, .slice none 0 0⟩)) := hr5
            have HG5 := hidH hg5
            have HAT5 := hidH hat5
            obtain ⟨a5, cp5, rfl, _, _⟩ := own_formY hr5
            have hh5 : w5.heap[cb]? = some (.cells (cC c.p (Pt sb) (Pt jb) (.slice ta V.length tc) c.o) 72 (0, 0)) := by rw [hg5.block cb (by have := HM4.out.lt; simp; omega) (fun e => (HM4.out.kr cb e.symm).2 rfl)]; exact alloc_old HM4.out.head
            have v10 : w5.cell? ⟨cb, 10, none⟩ = some (.slice ta V.length tc) := by rw [blk_cell hh5]; rfl
            have y10 : w5.frozen? ⟨cb, 10, none⟩ = false := blk_soft hh5 10
            have HT5 : Hid (w5.heap[TB]? = some (.cells #[.int .i64 (c.J.n.b + V.length + 1), .int .i64 (c.J.n.a + 1), .int .i64 (c.p.worker (c.J.n.a + 1)), .int .i64 1, .int .i64 0, .slice fa4 (frm c).length fc4, .slice none 0 0] 43 (0, 0))) := by
                show _ = _
                rw [hg5.block TB (by have := blk_lt HT4.out; simp; omega) (fun e => by have h1 := HM3.out.kl TB (HM4.out.kr TB e.symm).1; have h2 := HTB.out; omega)]
                exact alloc_old HT4.out
            clear hr5 hg5 hat5 hh5
            refine hK.out _ _ ?_ (fun hHeld => ?_)
            · exact HT5.out
            clear hK K
            try simp only [Act.put, List.setIfInBounds_toArray, List.set_cons_zero, List.set_cons_succ]
            refine wpAnyH_take (i := 8) (oi := ⟨some 73, _, _, _, _, _⟩) (v := ?_) rfl (by kernel_rfl) (by kernel_rfl) (by kernel_rfl) (fun _ _ _ h => h) (Or.inl ⟨by rfl, ?_⟩) hHeld ?_
            rotate_left
            · intro w hSw; (try dsimp only at hSw); go_simp; all_goals (with_reducible rfl)
            try simp only [Act.put, List.setIfInBounds_toArray, List.set_cons_zero, List.set_cons_succ]
            refine wpAnyH_take (i := 9) (oi := ⟨some 74, _, _, _, _, _⟩) (v := ?_) rfl (by kernel_rfl) (by kernel_rfl) (by kernel_rfl) (fun _ _ _ h => h) (Or.inl ⟨by rfl, ?_⟩) hHeld ?_
            rotate_left
            · intro w hSw; (try dsimp only at hSw); go_simp; all_goals (with_reducible rfl)
            try simp only [Act.put, List.setIfInBounds_toArray, List.set_cons_zero, List.set_cons_succ]
            refine wpAnyH_ready (rs := [10]) (by kernel_rfl) (by simp) ?_
            refine AllReadyH.cons (o := ⟨none, _, _, _, _, _⟩) rfl (fun K hK => ?_) AllReadyH.nil
            go_simp
            refine hK.out _ _ ?_ (fun hHeld => ?_)
            · exact (by rw [set_other _ _ (show TB ≠ cb by have h1 := HM3.out.lt; have h2 := HTB.out; omega)]; exact HT5.out)
            clear hK K
            try simp only [Act.put, List.setIfInBounds_toArray, List.set_cons_zero, List.set_cons_succ]
            refine wpAnyH_done (by kernel_rfl) ?_ _
            refine NoPanic.normal ?_
            have HP := hidH (push_end (x := ⟨⟨c.J.n.b + V.length + 1, c.J.n.a + 1, c.p.worker (c.J.n.a + 1), 1, 0, frm c, []⟩, .slice fa4 (frm c).length fc4, .slice none 0 0⟩) (o := Obj.cells #[.int .i64 (c.J.n.b + V.length + 1), .int .i64 (c.J.n.a + 1), .int .i64 (c.p.worker (c.J.n.a + 1)), .int .i64 1, .int .i64 0, .slice fa4 (frm c).length fc4, .slice none 0 0] 43) HOK.out H1.out (A := A) (A1 := A1) (fun b hb => by rw [HA1.out]; exact .inl hb) (fun b hb => by have h1 := H2.out.al b (.inl hb); have h2 := HCA.out.size; omega) (w4 := w4.drew) HL3.out HM3.out (below_trans HB4.out (below_drewN w4 1)) (own_below HO4.out (below_drewN w4 1)) ⟨rfl, rfl⟩ (yok_new HF256.out HF4.out) HV4.out HR5.out HG5.out HAT5.out)
            obtain ⟨w6, hw6⟩ : ∃ w6, w6 = w5.setCell ⟨cb, 10, none⟩ (.slice a5 (V.length + 1) cp5) := ⟨_, rfl⟩
            rw [← hw6] at HP ⊢
            have hT6 : w6.heap[TB]? = some (.cells #[.int .i64 (c.J.n.b + V.length + 1), .int .i64 (c.J.n.a + 1), .int .i64 (c.p.worker (c.J.n.a + 1)), .int .i64 1, .int .i64 0, .slice fa4 (frm c).length fc4, .slice none 0 0] 43 (0, 0)) := by rw [hw6, set_other _ _ (show TB ≠ cb by have h1 := HM3.out.lt; have h2 := HTB.out; omega)]; exact HT5.out
            have HY6 : Hid (Yl w6 ⟨⟨c.J.n.b + V.length + 1, c.J.n.a + 1, c.p.worker (c.J.n.a + 1), 1, 0, frm c, []⟩, .slice fa4 (frm c).length fc4, .slice none 0 0⟩) := HP.out.2.2
            have l0 := x0 w6 hT6
            have l1 := x1 w6 hT6
            have l2 := x2 w6 hT6
            have l3 := x3 w6 hT6
            have l4 := x4 w6 hT6
            have l5 := x5 w6 hT6
            have l6 := x6 w6 hT6
            clear hT6 hw6
            go_wp2_with fail
            refine (about_walk (x := ⟨⟨c.J.n.b + V.length + 1, c.J.n.a + 1, c.p.worker (c.J.n.a + 1), 1, 0, frm c, []⟩, .slice fa4 (frm c).length fc4, .slice none 0 0⟩) (k := 1) (l := frm c) HY6.out HY6.out.f HF8.out).mono ?_
            rintro e w7 ⟨ev7, rfl, ho7, hB7⟩
            have HO7 : Hid (OwN w6.heap.size w7 ev7 (frm c)) := ho7
            have HB7 : Hid (Below w6.heap.size w6 w7) := hB7
            obtain ⟨_, ea7, ec7, rfl, _⟩ := own_nl ho7
            clear ho7 hB7
            go_wp2_with fail
            go_ret2
            exact beg_yes HE0.out H4.out HLEN.out HCA.out H1.out HP.out (fun b hb => by rcases hb with rfl | hb; exact HM3.out.kc; exact (HM3.out.kr b hb).1) HO7.out HB7.out
end

end Go.Proofs.Ytpndafieknddcaa
