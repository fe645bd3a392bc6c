/- P13.8: behind whatever attempts of a batch a further one leaves the store as if it had been the only one; every input, no condition.
-/
import Derived.Test.YtofkhgokfdpdiaaGreatB50
import Derived.Test.YtofkhgokfdpdiaaGreatB09
import Derived.Test.YtofkhgokfdpdiaaGreatB48
set_option maxRecDepth 100000
set_option maxHeartbeats 16000000
namespace Go.Proofs.YtofkhgokfdpdiaaGreat
section
open Go.RowKit

def keptJ (js : List Jb) : List Jb := js.filter (fun j => !j.f)
theorem keptJ_F (k : Int) (js : List Jb) : rowF k (keptJ js) = rowF k js := by
 unfold rowF keptJ
 generalize (fun _ : Nat => noV) = F
 induction js generalizing F with
 | nil => rfl
 | cons j r ih =>
  cases h : j.f
  ·rw [List.filter_cons_of_pos (by simp [h]), List.foldl_cons, List.foldl_cons]; exact ih _
  ·rw [List.filter_cons_of_neg (by simp [h]), List.foldl_cons, ih]
   have : jobF k F j = F := by unfold jobF; rw [if_pos h]
   rw [this]
theorem keptJ_B (js : List Jb) : rowB (keptJ js) = rowB js := by
 unfold rowB keptJ
 rw [List.filter_filter]
 simp
theorem keptJ_le (js : List Jb) : (keptJ js).length ≤ js.length := List.length_filter_le _ _
theorem keptJ_snoc (js : List Jb) (j : Jb) : keptJ (js ++ [j]) = keptJ js ++ (if j.f = true then [] else [j]) := by
 unfold keptJ
 rw [List.filter_append]
 cases h : j.f <;> simp [h]
def flatJ (qs : List (Value × Value × Jb)) : List Value := qs.flatMap fun q => [q.1, q.2.1, .bool q.2.2.f, .bool q.2.2.s]
theorem flatJ_append (a b : List (Value × Value × Jb)) : flatJ (a ++ b) = flatJ a ++ flatJ b := by simp [flatJ]
theorem flatJ_get (qs : List (Value × Value × Jb)) (i : Nat) (hi : i < qs.length) : (flatJ qs)[i * 4]? = some qs[i].1 ∧ (flatJ qs)[i * 4 + 1]? = some qs[i].2.1 ∧ (flatJ qs)[i * 4 + 2]? = some (.bool qs[i].2.2.f) ∧ (flatJ qs)[i * 4 + 3]? = some (.bool qs[i].2.2.s) := by
 induction qs generalizing i with
 | nil => simp at hi
 | cons q r ih =>
  have e : flatJ (q :: r) = [q.1, q.2.1, .bool q.2.2.f, .bool q.2.2.s] ++ flatJ r := rfl
  cases i with
  | zero => simp [e]
  | succ i =>
   have := ih i (by simpa using hi)
   rw [e]
   rw [show (i + 1) * 4 = i * 4 + 4 by omega]
   simpa using this
def Jo (w0 : World) (w : World) (v : Value) (js : List Jb) : Prop :=
 ∃ qs : List (Value × Value × Jb), qs.map (·.2.2) = js ∧ w.ownsRow w0.heap.size 65 4 v js.length (flatJ qs) ∧ ∀ q ∈ qs, Rv w0 q.1 q.2.2.r ∧ Kv w0 q.2.1 q.2.2.m
theorem Jo.nil (w0 w : World) : Jo w0 w (.slice none 0 0) [] := ⟨[], rfl, ⟨rfl, .inl ⟨rfl, rfl⟩⟩, by simp⟩
theorem Jo.jv {w0 w : World} {v : Value} {js : List Jb} (h : Jo w0 w v js) (hb : Below w0.heap.size w0 w) : Jv w v js := by
 obtain ⟨qs, rfl, h1, h2⟩ := h
 rcases h1.2 with ⟨rfl, h0⟩ | ⟨g, cap, cur, rfl, hg, hh, hnc, hcm, hcs, htk⟩
 ·have : qs = [] := by simpa using h0
  subst this
  exact ⟨none, 0, rfl, by simp, by simp [maxLen], fun i hi => by simp at hi⟩
 ·refine ⟨_, cap, rfl, hnc, hcm, fun i hi => ?_⟩
  have hi' : i < qs.length := by simpa using hi
  have hc : ∀ j, j < qs.length * 4 → w.cell? ⟨g, j, none⟩ = (flatJ qs)[j]? := fun j hj => by
   rw [cell_of_row w g j cur 65 (0, 0) hh, ← htk]
   simp [hj]
  obtain ⟨e0, e1, e2, e3⟩ := flatJ_get qs i hi'
  obtain ⟨r1, r2⟩ := h2 qs[i] (List.getElem_mem hi')
  refine ⟨g, 0, qs[i].1, qs[i].2.1, rfl, ?_, ?_, ?_, ?_, by simpa using r1.below hb, by simpa using r2.below hb⟩
  ·rw [Nat.zero_add, hc _ (by omega)]; exact e0
  ·rw [Nat.zero_add, hc _ (by omega)]; exact e1
  ·rw [Nat.zero_add, hc _ (by omega)]; simpa using e2
  ·rw [Nat.zero_add, hc _ (by omega)]; simpa using e3
theorem info_job : (Tryz.prog.info? 65).map (fun i => (i.zero, i.size, i.bytes)) = some (some (.agg #[.slice none 0 0, .slice none 0 0, .bool false, .bool false]), 4, 56) := by kernel_rfl
theorem wpList_append_jo {w0 w : World} {ops : Array Oper} {rest : List Oper} {o : Oper} {a : Act} {Q : Exit → Act → World → Prop} (hgd : o.guard = none) (s x : Operand)
  (ho : o.op = .call { callee := .builtin .append, args := #[s, x], argTypes := #[57, 57] })
  (v : Value) (js : List Jb) (hs : a.eval s = v) (hw : Jo w0 w v js)
  (q : Nat) (rv mv : Value) (j : Jb) (hx : a.eval x = .slice (some ⟨q, 0, none⟩) 1 1) (h0 : w.cell? ⟨q, 0, none⟩ = some rv) (h1 : w.cell? ⟨q, 1, none⟩ = some mv) (h2 : w.cell? ⟨q, 2, none⟩ = some (.bool j.f)) (h3 : w.cell? ⟨q, 3, none⟩ = some (.bool j.s)) (hr : Rv w0 rv j.r) (hm : Kv w0 mv j.m) (hn : js.length ≤ 100) (hbase : w0.heap.size ≤ w.heap.size)
  (h : ∀ v' w', Jo w0 w' v' (js ++ [j]) → Below w0.heap.size w w' → wpList Tryz.prog ops Q rest (a.put o.dst v') w') : wpList Tryz.prog ops Q (o :: rest) a w := by
 obtain ⟨i0, hi, hz0, hz1, hz2⟩ := info_partsVB info_job
 obtain ⟨qs, k1, k2, k3⟩ := hw
 have hr1 : rv.oneCell' = true := by obtain ⟨⟨_, _, rfl, _⟩, _⟩ := hr; rfl
 have hm1 : mv.oneCell' = true := by obtain ⟨_, _, rfl, _⟩ := hm; rfl
 refine wpList_append_own w hgd s x 57 ho w0.heap.size 65 i0 (.agg #[.slice none 0 0, .slice none 0 0, .bool false, .bool false]) 4 56 Tryz.underlying57 hi hz0 hz1 hz2 rfl (by decide) v js.length (flatJ qs) hs k2 ⟨q, 0, none⟩ 1 1 [rv, mv, .bool j.f, .bool j.s] hx rfl ?_ (fun y hy => by simp at hy; rcases hy with rfl | rfl | rfl | rfl; exact hr1; exact hm1; rfl; rfl) (by simp only [maxLen]; omega) (by omega) hbase (fun v' w' g1 g2 _ => ?_)
 ·intro i y hi
  match i, hi with
  | 0, hi => simp at hi; subst hi; exact h0
  | 1, hi => simp at hi; subst hi; exact h1
  | 2, hi => simp at hi; subst hi; exact h2
  | 3, hi => simp at hi; subst hi; exact h3
 ·refine h v' w' ⟨qs ++ [(rv, mv, j)], by simp [k1], ?_, fun y hy => ?_⟩ (grown_belowC k2 g2 hbase)
  ·rw [flatJ_append, List.length_append]; exact g1
  ·rcases List.mem_append.1 hy with hy | hy
   ·exact k3 y hy
   ·simp at hy; subst hy; exact ⟨hr, hm⟩
end
section
open Go.RowKit

theorem RS.high {A E : Nat → Prop} {w w1 : World} {sp : Nat} {dv : Value} {k : Int} {P : Bo} {S : Dk} {m : Mk} {Ls : List (List Cl)} (h : RS A w (.pointer (some ⟨sp, 0, none⟩)) dv k P S m Ls) (hc : Ch E w w1) (hA : ∀ x, A x → ¬ E x) (hs : ¬ E sp) : RS A w1 (.pointer (some ⟨sp, 0, none⟩)) dv k P S m Ls :=
 ⟨h.st.high hc hA hs, h.iw, h.gk, h.lf⟩
structure Two (wz : World) (sp1 sp2 : Nat) (A1 A2 : Nat → Prop) (w : World) : Prop where
 d : ∀ x, A1 x → ¬ A2 x
 s1 : ¬ A2 sp1
 s2 : ¬ A1 sp2
 l1 : ∀ x, A1 x → wz.heap.size ≤ x ∧ x < w.heap.size
 l2 : ∀ x, A2 x → wz.heap.size ≤ x ∧ x < w.heap.size
 p1 : sp1 < w.heap.size
 p2 : sp2 < w.heap.size
 bw : Below wz.heap.size wz w
section

variable {wz w w' : World} {sp1 sp2 : Nat} {A1 A2 A' : Nat → Prop}

theorem Two.swap (h : Two wz sp1 sp2 A1 A2 w) : Two wz sp2 sp1 A2 A1 w := ⟨fun x h2 h1 => h.d x h1 h2, h.s2, h.s1, h.l2, h.l1, h.p2, h.p1, h.bw⟩
theorem Two.one (h : Two wz sp1 sp2 A1 A2 w) (hA : ∀ x, A' x → A1 x ∨ w.heap.size ≤ x) (hl : ∀ x, A' x → x < w'.heap.size) (hc : Ch A1 w w') : Two wz sp1 sp2 A' A2 w' := by
 have hs := hc.size
 refine ⟨fun x h1 h2 => ?_, h.s1, fun e => ?_, fun x hx => ⟨?_, hl x hx⟩, fun x hx => ⟨(h.l2 x hx).1, by have := (h.l2 x hx).2; omega⟩, by have := h.p1; omega, by have := h.p2; omega, h.bw.trans (hc.to_below h.bw.size (fun x hx => (h.l1 x hx).1))⟩
 ·rcases hA x h1 with q | q
  ·exact h.d x q h2
  ·have := (h.l2 x h2).2; omega
 ·rcases hA _ e with q | q
  ·exact h.s2 q
  ·have := h.p2; omega
 ·rcases hA x hx with q | q
  ·exact (h.l1 x q).1
  ·have := h.bw.size; omega
theorem Two.below (h : Two wz sp1 sp2 A1 A2 w) (hb : Below w.heap.size w w') : Two wz sp1 sp2 A1 A2 w' := by
 have hs := hb.size
 exact ⟨h.d, h.s1, h.s2, fun x hx => ⟨(h.l1 x hx).1, by have := (h.l1 x hx).2; omega⟩, fun x hx => ⟨(h.l2 x hx).1, by have := (h.l2 x hx).2; omega⟩, by have := h.p1; omega, by have := h.p2; omega, below_trans h.bw hb⟩
end
end
section
open Go.RowKit

def Ph (p : Nat) (A : Nat → Prop) (w : World) (sv dv : Value) (k : Int) (P : Bo) (S : Dk) (B : Int) (i : Nat) (F : Nat → Vl) (T : List Pr) (ks : List Nat) : Prop :=
 (p = 0 ∧ ∃ m L, RW A w sv dv k P S m L B i F) ∨
 (p = 1 ∧ ∃ L, RS A w sv dv k P S ⟨B, 99, ks⟩ L ∧ Low L ∧ ∀ x n, B - 1 ≤ n → shRes L x n = F x) ∨
 (p = 2 ∧ ∃ L, RS A w sv dv k P S ⟨B, 99, ks⟩ L ∧ (∀ x, shRes L x (B - 1) = F x) ∧ ∀ x, shRes L x B = addF k F T x)
theorem ST.plt {A : Nat → Prop} {w : World} {sp : Nat} {dv : Value} {k : Int} {P : Bo} {S : Dk} (h : ST A w (.pointer (some ⟨sp, 0, none⟩)) dv k P S) : sp < w.heap.size := by
 obtain ⟨_, bv, e, h1, _⟩ := h
 cases e
 exact (Array.getElem?_eq_some_iff.1 h1).1
section

variable {p : Nat} {A E : Nat → Prop} {w w1 : World} {sp : Nat} {sv dv : Value} {k : Int} {P : Bo} {S : Dk} {B : Int} {i : Nat} {F : Nat → Vl} {T : List Pr} {ks : List Nat}

theorem Ph.rs (h : Ph p A w sv dv k P S B i F T ks) : ∃ m L, RS A w sv dv k P S m L := by
 rcases h with ⟨_, m, L, h⟩ | ⟨_, L, h, _⟩ | ⟨_, L, h, _⟩
 ·exact ⟨_, _, h.rs⟩
 ·exact ⟨_, _, h⟩
 ·exact ⟨_, _, h⟩
theorem Ph.high (h : Ph p A w (.pointer (some ⟨sp, 0, none⟩)) dv k P S B i F T ks) (hc : Ch E w w1) (hA : ∀ x, A x → ¬ E x) (hs : ¬ E sp) : Ph p A w1 (.pointer (some ⟨sp, 0, none⟩)) dv k P S B i F T ks := by
 rcases h with ⟨e, m, L, h⟩ | ⟨e, L, h, r⟩ | ⟨e, L, h, r⟩
 ·exact .inl ⟨e, m, L, h.rs.high hc hA hs, h.low, h.val, h.mb, h.ma, h.b1, h.b2⟩
 ·exact .inr (.inl ⟨e, L, h.high hc hA hs, r⟩)
 ·exact .inr (.inr ⟨e, L, h.high hc hA hs, r⟩)
end

structure Tws (wz : World) (sp1 sb1 sp2 sb2 : Nat) (k B : Int) (i1 i2 : Nat) (F : Nat → Vl) (T : List Pr) (ks : List Nat) (kv tv : Value) (bn p1 p2 N : Nat) (w : World) : Prop where
 ex : ∃ A1 P1 S1 A2 P2 S2, Ph p1 A1 w (.pointer (some ⟨sp1, 0, none⟩)) (.pointer (some ⟨sb1, 0, none⟩)) k P1 S1 B i1 F T ks ∧ Ph p2 A2 w (.pointer (some ⟨sp2, 0, none⟩)) (.pointer (some ⟨sb2, 0, none⟩)) k P2 S2 B i2 F T ks ∧ Two wz sp1 sp2 A1 A2 w ∧ cntS P1 S1 ≤ N ∧ cntS P2 S2 ≤ N ∧ S1.bl.length = bn ∧ S2.bl.length = bn ∧ (∀ x, kv.ownBlock = some x → ¬ A1 x ∧ ¬ A2 x) ∧ (∀ x, tv.ownBlock = some x → ¬ A1 x ∧ ¬ A2 x)
 kvv : Kv w kv ks
 qv : Qv w tv T
 kvl : ∀ x, kv.ownBlock = some x → x < w.heap.size
 tvl : ∀ x, tv.ownBlock = some x → x < w.heap.size
 bw : Below wz.heap.size wz w
def qA (k B : Int) (F : Nat → Vl) (T : List Pr) (key : Nat) (n : Int) : Vl := if n = B then addF k F T key else F key
section

variable {wz w w' : World} {sp1 sb1 sp2 sb2 : Nat} {k B : Int} {i1 i2 : Nat} {F : Nat → Vl} {T : List Pr} {ks : List Nat} {kv tv : Value} {bn p1 p2 N N' p : Nat}

theorem Tws.mono (h : Tws wz sp1 sb1 sp2 sb2 k B i1 i2 F T ks kv tv bn p1 p2 N w) (hN : N ≤ N') : Tws wz sp1 sb1 sp2 sb2 k B i1 i2 F T ks kv tv bn p1 p2 N' w := by
 obtain ⟨⟨A1, P1, S1, A2, P2, S2, a1, a2, a3, a4, a5, a6⟩, r1, r2, r3, r4, r5⟩ := h
 exact ⟨⟨A1, P1, S1, A2, P2, S2, a1, a2, a3, by omega, by omega, a6⟩, r1, r2, r3, r4, r5⟩
theorem Tws.swap (h : Tws wz sp1 sb1 sp2 sb2 k B i1 i2 F T ks kv tv bn p1 p2 N w) : Tws wz sp2 sb2 sp1 sb1 k B i2 i1 F T ks kv tv bn p2 p1 N w := by
 obtain ⟨⟨A1, P1, S1, A2, P2, S2, a1, a2, a3, a4, a5, a6, a7, a8, a9⟩, r1, r2, r3, r4, r5⟩ := h
 exact ⟨⟨A2, P2, S2, A1, P1, S1, a2, a1, a3.swap, a5, a4, a7, a6, fun x hx => (a8 x hx).symm, fun x hx => (a9 x hx).symm⟩, r1, r2, r3, r4, r5⟩
theorem Tws.below (h : Tws wz sp1 sb1 sp2 sb2 k B i1 i2 F T ks kv tv bn p1 p2 N w) (hb : Below w.heap.size w w') : Tws wz sp1 sb1 sp2 sb2 k B i1 i2 F T ks kv tv bn p1 p2 N w' := by
 obtain ⟨⟨A1, P1, S1, A2, P2, S2, a1, a2, a3, a4⟩, r1, r2, r3, r4, r5⟩ := h
 have hs := hb.size
 exact ⟨⟨A1, P1, S1, A2, P2, S2, a1.high (E := fun _ => False) (Ch.of_below hb) (fun _ _ e => e) (fun e => e), a2.high (E := fun _ => False) (Ch.of_below hb) (fun _ _ e => e) (fun e => e), a3.below hb, a4⟩, r1.below hb, r2.below hb, fun x hx => Nat.lt_of_lt_of_le (r3 x hx) hs, fun x hx => Nat.lt_of_lt_of_le (r4 x hx) hs, below_trans r5 hb⟩
theorem Tws.step (h : Tws wz sp1 sb1 sp2 sb2 k B i1 i2 F T ks kv tv bn p1 p2 N w) {A1 A2 A' : Nat → Prop} {P2 P' : Bo} {S2 S' : Dk} (a2 : Ph p2 A2 w (.pointer (some ⟨sp2, 0, none⟩)) (.pointer (some ⟨sb2, 0, none⟩)) k P2 S2 B i2 F T ks) (a3 : Two wz sp1 sp2 A1 A2 w) (a5 : cntS P2 S2 ≤ N) (a7 : S2.bl.length = bn) (a8 : ∀ x, kv.ownBlock = some x → ¬ A1 x ∧ ¬ A2 x) (a9 : ∀ x, tv.ownBlock = some x → ¬ A1 x ∧ ¬ A2 x)
  (hp : Ph p A' w' (.pointer (some ⟨sp1, 0, none⟩)) (.pointer (some ⟨sb1, 0, none⟩)) k P' S' B i1 F T ks) (hA : ∀ x, A' x → A1 x ∨ w.heap.size ≤ x) (hc : Ch A1 w w') (hn : cntS P' S' ≤ N') (hN : N ≤ N') (hb : S'.bl.length = bn) : Tws wz sp1 sb1 sp2 sb2 k B i1 i2 F T ks kv tv bn p p2 N' w' := by
 have hs := hc.size
 obtain ⟨m, L, hrs⟩ := hp.rs
 refine ⟨⟨A', P', S', A2, P2, S2, hp, a2.high hc (fun x h2 h1 => a3.d x h1 h2) a3.s2, a3.one hA (fun x hx => hrs.st.lt hx) hc, hn, by omega, hb, a7, fun x hx => ⟨fun e => ?_, (a8 x hx).2⟩, fun x hx => ⟨fun e => ?_, (a9 x hx).2⟩⟩, kv_ch h.kvv hc (fun x hx => (a8 x hx).1), qv_ch h.qv hc (fun _ x hx => (a9 x hx).1), fun x hx => Nat.lt_of_lt_of_le (h.kvl x hx) hs, fun x hx => Nat.lt_of_lt_of_le (h.tvl x hx) hs, h.bw.trans (hc.to_below h.bw.size (fun x hx => (a3.l1 x hx).1))⟩
 ·rcases hA x e with q | q
  ·exact (a8 x hx).1 q
  ·have := h.kvl x hx; omega
 ·rcases hA x e with q | q
  ·exact (a9 x hx).1 q
  ·have := h.tvl x hx; omega
theorem tw_begin (h : Tws wz sp1 sb1 sp2 sb2 k B i1 i2 F T ks kv tv bn 0 p2 N w) (hN : N < 1000000000) (hi : i1 < 99) (ko : keysOk ks) (h64 : ks.length ≤ 64) (hr : risB ks = true) :
  Calls Tryz.prog 36 #[.pointer (some ⟨sp1, 0, none⟩), .int .i64 B, .int .i64 99, kv] w fun e w' => e = .returned (.int .i64 0) ∧ Tws wz sp1 sb1 sp2 sb2 k B i1 i2 F T ks kv tv bn 1 p2 (N + 17) w' := by
 obtain ⟨A1, P1, S1, A2, P2, S2, a1, a2, a3, a4, a5, a6, a7, a8, a9⟩ := h.ex
 rcases a1 with ⟨_, m, L, a1⟩ | ⟨e, _⟩ | ⟨e, _⟩
 ·refine (begin_row a1 (by omega) (by omega) h.kvv ko (fun x hx => (a8 x hx).1) (a := 99) (by omega) (by omega) h64 hr).mono ?_
  rintro e w1 ⟨rfl, A', P', S', L', hrs, low, val, hA, hc, hcn, hbl⟩
  exact ⟨rfl, h.step a2 a3 a5 a7 a8 a9 (.inr (.inl ⟨rfl, L', hrs, low, val⟩)) hA hc (by omega) (by omega) (by omega)⟩
 ·cases e
 ·cases e
theorem tw_apply (h : Tws wz sp1 sb1 sp2 sb2 k B i1 i2 F T ks kv tv bn 1 p2 N w) (hN : N < 1000000000) (h1 : 1 ≤ B) (ht : Ta k ⟨B, 99, ks⟩ T) :
  Calls Tryz.prog 39 #[.pointer (some ⟨sp1, 0, none⟩), .int .i64 B, .int .i64 99, tv] w fun e w' => e = .returned (.int .i64 0) ∧ Tws wz sp1 sb1 sp2 sb2 k B i1 i2 F T ks kv tv bn 2 p2 (N + 17) w' := by
 obtain ⟨A1, P1, S1, A2, P2, S2, a1, a2, a3, a4, a5, a6, a7, a8, a9⟩ := h.ex
 rcases a1 with ⟨e, _⟩ | ⟨_, L, a1, low, val⟩ | ⟨e, _⟩
 ·cases e
 ·refine (apply_row a1 low val (by omega) h.qv (fun x hx => (a9 x hx).1) h1 (by show (1 : Int) ≤ 99; omega) ht).mono ?_
  rintro e w1 ⟨rfl, A', P', S', L', hrs, low', v1, v2, _, hA, hc, hcn, hbl⟩
  exact ⟨rfl, h.step a2 a3 a5 a7 a8 a9 (.inr (.inr ⟨rfl, L', hrs, v1, v2⟩)) hA hc (by omega) (by omega) (by omega)⟩
 ·cases e
theorem tw_query (h : Tws wz sp1 sb1 sp2 sb2 k B i1 i2 F T ks kv tv bn 2 p2 N w) {wx : World} (hx : Below w.heap.size w wx) (hN : N < 1000000000) (key : Nat) {n : Int} (hn : n = B - 1 ∨ n = B) :
  Calls Tryz.prog 31 #[.pointer (some ⟨sp1, 0, none⟩), .int .u64 key, .int .i64 n] wx fun e w' => e = .returned (.tuple #[.agg #[.bool (qA k B F T key n).h, .int .u64 (qA k B F T key n).b], .int .i64 0]) ∧ Tws wz sp1 sb1 sp2 sb2 k B i1 i2 F T ks kv tv bn 2 p2 (N + 6) w' ∧ Ch (fun x => x < w.heap.size) wx w' := by
 obtain ⟨A1, P1, S1, A2, P2, S2, a1, a2, a3, a4, a5, a6, a7, a8, a9⟩ := h.ex
 have g := h.below hx
 have b2 := a2.high (E := fun _ => False) (Ch.of_below hx) (fun _ _ e => e) (fun e => e)
 rcases a1 with ⟨e, _⟩ | ⟨e, _⟩ | ⟨_, L, a1, v1, v2⟩
 ·cases e
 ·cases e
 ·refine (query_rs (a1.below hx) (by omega) key n).mono ?_
  rintro e w1 ⟨rfl, S', hrs, hr, hc⟩
  have e : shRes L key n = qA k B F T key n := by
   unfold qA
   rcases hn with rfl | rfl
   ·rw [if_neg (by omega)]; exact v1 key
   ·rw [if_pos rfl]; exact v2 key
  rw [e]
  exact ⟨rfl, g.step b2 (a3.below hx) a5 a7 a8 a9 (.inr (.inr ⟨rfl, L, hrs, v1, v2⟩)) (fun x hx => .inl hx) hc (by have := cnt_rdd (P := P1) hr; omega) (by omega) (by rw [hr.bl]; exact a6), ⟨hc.os, hc.tape, hc.output, hc.size, fun y hy hd => hc.block y hy (fun e => hd (a1.st.lt e))⟩⟩
theorem tw_blocks (h : Tws wz sp1 sb1 sp2 sb2 k B i1 i2 F T ks kv tv bn p1 p2 N w) :
  Calls Tryz.prog 47 #[.pointer (some ⟨sb1, 0, none⟩)] w fun e w' => e = .returned (.int .i64 bn) ∧ w' = w := by
 obtain ⟨A1, P1, S1, A2, P2, S2, a1, a2, a3, a4, a5, a6, _⟩ := h.ex
 obtain ⟨m, L, hrs⟩ := a1.rs
 refine (blocks_rs hrs.st).mono ?_
 rw [a6]
 exact fun _ _ h => h
theorem tw_start {w0 w3 w4 w5 : World} {js1 js2 : List Jb} (hB : Below wz.heap.size wz w0) (h1 : RoR k js1 w0 sp1 sb1 js1.length w3) (hb : Below w3.heap.size w3 w4) (h2 : RoR k js2 w4 sp2 sb2 js2.length w5) (eB : rowB js2 = rowB js1) (eF : rowF k js2 = rowF k js1) {w6 : World} (h6 : Below w5.heap.size w5 w6) (hk : Kv w6 kv ks) (hq : Qv w6 tv T) (hkb : ∀ x, kv.ownBlock = some x → w5.heap.size ≤ x ∧ x < w6.heap.size) (hqb : ∀ x, tv.ownBlock = some x → w5.heap.size ≤ x ∧ x < w6.heap.size) (hn1 : js1.length ≤ 60) (hn2 : js2.length ≤ 60) :
  Tws wz sp1 sb1 sp2 sb2 k (rowB js1 : Nat) js1.length js2.length (rowF k js1) T ks kv tv 16 0 0 2060 w6 := by
 obtain ⟨A1, P1, S1, m1, L1, r1, hA1, hsp1, hcn1, hbl1, hb1⟩ := h1
 obtain ⟨A2, P2, S2, m2, L2, r2, hA2, hsp2, hcn2, hbl2, hb2⟩ := h2
 rw [List.take_length] at r1 r2
 rw [eB, eF] at r2
 have s1 := hb1.size
 have s2 := hb.size
 have s3 := hb2.size
 have s4 := h6.size
 have l1 : ∀ x, A1 x → x < w3.heap.size := fun x hx => r1.rs.st.lt hx
 have l2 : ∀ x, A2 x → x < w5.heap.size := fun x hx => r2.rs.st.lt hx
 have p1 := r1.rs.st.plt
 have p2 := r2.rs.st.plt
 have h36 : Below w3.heap.size w3 w6 := below_trans (below_trans hb hb2) h6
 have s0 := hB.size
 refine ⟨⟨A1, P1, S1, A2, P2, S2, .inl ⟨rfl, m1, L1, r1.below h36⟩, .inl ⟨rfl, m2, L2, r2.below h6⟩, ⟨fun x q1 q2 => ?_, fun q => ?_, fun q => ?_, fun x hx => ⟨?_, ?_⟩, fun x hx => ⟨?_, ?_⟩, by omega, by omega, below_trans (below_trans hB hb1) h36⟩, by omega, by omega, hbl1, hbl2, fun x hx => ⟨fun q => ?_, fun q => ?_⟩, fun x hx => ⟨fun q => ?_, fun q => ?_⟩⟩, hk, hq, fun x hx => (hkb x hx).2, fun x hx => (hqb x hx).2, below_trans (below_trans hB hb1) h36⟩
 ·have := l1 x q1; have := hA2 x q2; omega
 ·have := hA2 _ q; omega
 ·have := l1 _ q; omega
 ·have := hA1 x hx; omega
 ·have := l1 x hx; omega
 ·have := hA2 x hx; omega
 ·have := l2 x hx; omega
 ·have := l1 x q; have := hkb x hx; omega
 ·have := l2 x q; have := hkb x hx; omega
 ·have := l1 x q; have := hqb x hx; omega
 ·have := l2 x q; have := hqb x hx; omega
end
end
section
open Go.RowKit

theorem answers_walk {A : Nat → Prop} {w : World} {sp sb : Nat} {k : Int} {P : Bo} {S : Dk} {m : Mk} {Ls : List (List Cl)} (h : RS A w (.pointer (some ⟨sp, 0, none⟩)) (.pointer (some ⟨sb, 0, none⟩)) k P S m Ls) (hN : cntS P S < 100000000) {tv : Value} {t : List Pr} (hq : Qv w tv t) (hqA : ∀ x, tv.ownBlock = some x → ¬ A x) {n : Int} (hv : ∀ x, x < 40 → shRes Ls x n = getT x t) :
  Calls Tryz.prog 37 #[(.pointer (some ⟨sb, 0, none⟩)), (.pointer (some ⟨sp, 0, none⟩)), .int .i64 n, tv] w fun e w' => e = .returned (.bool true) ∧ ∃ S', RS A w' (.pointer (some ⟨sp, 0, none⟩)) (.pointer (some ⟨sb, 0, none⟩)) k P S' m Ls ∧ Rdd 240 S S' ∧ Ch A w w' := by
 have HR := hidH h
 have HN : Hid (cntS P S < 100000000) := hN
 have HV : Hid (∀ x, x < 40 → shRes Ls x n = getT x t) := hv
 have HQ : Hid (Qv w tv t) := hq
 obtain ⟨⟨ta, tc, rfl, t1, t2, _, _⟩, _⟩ := hq
 have HTL : Hid (t.length ≤ maxLen) := Nat.le_trans t1 t2
 have HQA : Hid (∀ x, (Value.slice ta t.length tc).ownBlock = some x → ¬ A x) := hqA
 clear h hN hv hqA t1 t2
 go_in
 go_wp2_with fail
 go_loopw [9] (fun kv wr => ∃ i : Nat, kv = .int .u64 i ∧ i ≤ 40 ∧ ∃ S', RS A wr (.pointer (some ⟨sp, 0, none⟩)) (.pointer (some ⟨sb, 0, none⟩)) k P S' m Ls ∧ Rdd (6 * i) S S' ∧ Ch A w wr) (fun kv _ => 40 - (intOf kv).toNat)
 case atStart => exact ⟨0, rfl, by omega, S, HR.out, Rdd.refl _, Ch.refl _ _⟩
 case round =>
  obtain ⟨i, rfl, hi, S1, hrs, hrd, hch⟩ := hrel
  have HR1 := hidH hrs
  have HD1 : Hid (Rdd (6 * i) S S1) := hrd
  have HC1 : Hid (Ch A w wr) := hch
  clear hrs hrd hch
  by_cases hlt : i < 40
  rotate_left
  ·have hlti : ¬ (i : Int) < 40 := by omega
   go_wp2_with fail
   go_ret
   exact ⟨rfl, S1, HR1.out, HD1.out.mono (by omega), HC1.out⟩
  ·have hlti : (i : Int) < 40 := by omega
   have HN1 : Hid (cntS P S1 < 100000300) := by have h1 := cnt_rdd (P := P) HD1.out; have h2 := HN.out; show _ < _; omega
   obtain ⟨r1, hr1⟩ : ∃ r, r = S1.rd := ⟨_, rfl⟩
   have HR1D : Hid (r1 = S1.rd) := hr1
   have hr1b : (r1 : Int) ≤ 100000300 := by have h := HN1.out; unfold cntS at h; omega
   clear hr1
   go_wp2_with fail
   refine (reads_rs HR1.out.st).mono ?_
   rw [← HR1D.out]
   rintro e wx ⟨rfl, hwx⟩
   replace hwx := hwx.symm
   subst hwx
   obtain ⟨v, hvv⟩ : ∃ v, v = shRes Ls i n := ⟨_, rfl⟩
   have HVS : Hid (v = shRes Ls i n) := hvv
   have HVG : Hid (v = getT i t) := hvv.trans (HV.out i hlt)
   clear hvv
   go_wp2_with fail
   refine (query_rs HR1.out (by have := HN1.out; omega) i n).mono ?_
   rw [← HVS.out]
   rintro e w2 ⟨rfl, S2, hrs, hr, hc⟩
   have HR2 := hidH hrs
   have HD2 : Hid (Rdd (6 * (i + 1)) S S2) := (HD1.out.trans hr).mono (by omega)
   have HC2 : Hid (Ch A w w2) := HC1.out.trans hc (fun x hx => .inl hx)
   obtain ⟨r2, hr2⟩ : ∃ r, r = S2.rd := ⟨_, rfl⟩
   have HR2D : Hid (S2.rd = r2) := hr2.symm
   have hr2b : (r2 : Int) ≤ (r1 : Int) + 6 := by have h := hr.rd; have h1 := HR1D.out; omega
   have hr2n : ¬ (r1 : Int) + 6 < (r2 : Int) := by omega
   have hw6 : IntKind.i64.wrap ((r1 : Int) + 6) = (r1 : Int) + 6 := by rw [IntKind.wrap_i64]; omega
   clear hrs hr hc hr2 HR1 HD1 HC1
   go_upto_region 6 with fail
   obtain ⟨T, hT⟩ : ∃ T, T = w2.heap.size := ⟨_, rfl⟩
   have HV3 : Hid ((w2.alloc (Obj.cells #[.bool v.h, .int .u64 v.b] 53)).cell? ⟨T, 0, none⟩ = some (.bool v.h) ∧ (w2.alloc (Obj.cells #[.bool v.h, .int .u64 v.b] 53)).cell? ⟨T, 1, none⟩ = some (.int .u64 v.b)) := by rw [hT]; exact vb_newS w2 v.h v.b
   have HB3 : Hid (Below w2.heap.size w2 (w2.alloc (Obj.cells #[.bool v.h, .int .u64 v.b] 53))) := below_alloc _ _
   rw [← hT]
   generalize (w2.alloc (Obj.cells #[.bool v.h, .int .u64 v.b] 53)) = w3 at HV3 HB3 ⊢
   have HR3 : Hid (RS A w3 (.pointer (some ⟨sp, 0, none⟩)) (.pointer (some ⟨sb, 0, none⟩)) k P S2 m Ls) := HR2.out.below HB3.out
   have HC3 : Hid (Ch A w w3) := HC2.out.self (Ch.of_below HB3.out)
   have HQ3 : Hid (Ql w3 ta t) := by
    obtain ⟨⟨ao, cap, e, _, _, _, h⟩, _⟩ := qv_ch HQ.out HC3.out (fun _ => HQA.out)
    cases e
    exact h
   have qv : ∀ wx, (binOp .neq 53 (.agg #[.bool v.h, .int .u64 v.b]) (.agg #[.bool v.h, .int .u64 v.b])).run Tryz.prog wx = .ok (.bool false) wx := neq_val v
   have hgv := guard_val
   clear hT HR2 HC2 HB3
   refine wp_region_noPanic ?_
   refine wp_region_held_drew (S := fun wx => wx.cell? ⟨T, 0, none⟩ = some (.bool v.h) ∧ wx.cell? ⟨T, 1, none⟩ = some (.int .u64 v.b) ∧ Hid (RS A wx (.pointer (some ⟨sp, 0, none⟩)) (.pointer (some ⟨sb, 0, none⟩)) k P S2 m Ls ∧ Ql wx ta t ∧ Ch A w wx)) (by kernel_rfl) ?_ (fun hHeld => ?_)
   ·exact (by have hb : Below w3.heap.size w3 w3.drew := ⟨rfl, rfl, rfl, Nat.le_refl _, fun _ _ => rfl⟩; exact ⟨by rw [hb.cell (p := ⟨T, 0, none⟩) (cell_lt HV3.out.1)]; exact HV3.out.1, by rw [hb.cell (p := ⟨T, 1, none⟩) (cell_lt HV3.out.2)]; exact HV3.out.2, ⟨HR3.out.below hb, HQ3.out.below hb, HC3.out.self (Ch.of_below hb)⟩⟩)
   refine tkS 0 26 rfl hHeld ?_
   refine tkS 1 27 rfl hHeld ?_
   refine tkS 2 28 rfl hHeld ?_
   refine tkS 3 29 rfl hHeld ?_
   refine tkS 4 30 rfl hHeld ?_
   refine tkS 5 31 rfl hHeld ?_
   refine rdH 6 32 rfl (fun K hK => ?_)
   go_simp
   have x6 := hHeld
   have c6 := find_walk (ca := tc) HTL.out x6.2.2.out.2.1 i
   rw [← HVG.out] at c6
   refine c6.mono ?_
   rintro e9 w6 ⟨rfl, h6⟩
   refine hK.out _ _ ?_ (fun hHeld => ?_)
   ·exact ⟨by rw [h6.cell (p := ⟨T, 0, none⟩) (cell_lt x6.1)]; exact x6.1, by rw [h6.cell (p := ⟨T, 1, none⟩) (cell_lt x6.2.1)]; exact x6.2.1, ⟨x6.2.2.out.1.below h6, x6.2.2.out.2.1.below h6, x6.2.2.out.2.2.self (Ch.of_below h6)⟩⟩
   clear hK K
   try simp only [Act.put, zA, zB, zC]
   refine tkS 7 33 rfl hHeld ?_
   refine tkS 8 34 rfl hHeld ?_
   refine tkS 9 35 rfl hHeld ?_
   refine tkS 10 36 rfl hHeld ?_
   refine tkS 12 38 rfl hHeld ?_
   refine tkS 13 39 rfl hHeld ?_
   refine rdH 11 37 rfl (fun K hK => ?_)
   go_simp
   have x11 := hHeld
   have c11 := reads_rs x11.2.2.out.1.st
   rw [HR2D.out] at c11
   refine c11.mono ?_
   rintro e9 w11 ⟨rfl, h11⟩
   replace h11 := h11.symm
   subst h11
   refine hK.out _ _ ?_ (fun hHeld => ?_)
   ·exact x11
   clear hK K
   try simp only [Act.put, zA, zB, zC]
   refine tkS 14 40 rfl hHeld ?_
   refine tkS 15 41 rfl hHeld ?_
   refine wpAnyH_done (by kernel_rfl) ?_ _
   refine NoPanic.normal ?_
   go_wp2_with fail
   go_roundw
   case rel => exact ⟨i + 1, by go_num, by omega, S2, hHeld.2.2.out.1, HD2.out, hHeld.2.2.out.2.2⟩
   case measure => simp [intOf]; omega
end
section
open Go.RowKit

theorem retries_walk {k : Int} {w : World} {jv rv mv : Value} {jobs : List Jb} {recs : List Rcd} {more : List Nat} (hj : Jv w jv jobs) (hr : Rv w rv recs) (hm : Kv w mv more) (f s : Bool) :
  Calls Tryz.prog 8 #[.int .i64 k, jv, .agg #[rv, mv, .bool f, .bool s]] w fun e w' => e = .returned (.bool true) ∧ Below w.heap.size w w' := by
 obtain ⟨ra, rn, rc, rfl⟩ : ∃ x y z, rv = .slice x y z := by obtain ⟨⟨x, z, e, _⟩, _⟩ := id hr; exact ⟨x, _, z, e⟩
 obtain ⟨ma, mn, mc, rfl⟩ := sv_any hm
 have HB0 : Hid (Below w.heap.size w (w.alloc (Obj.cells #[.slice ra rn rc, .slice ma mn mc, .bool f, .bool s] 65))) := below_alloc _ _
 have HC0 : Hid ((w.alloc (Obj.cells #[.slice ra rn rc, .slice ma mn mc, .bool f, .bool s] 65)).cell? ⟨w.heap.size, 0, none⟩ = some (.slice ra rn rc) ∧ (w.alloc (Obj.cells #[.slice ra rn rc, .slice ma mn mc, .bool f, .bool s] 65)).cell? ⟨w.heap.size, 1, none⟩ = some (.slice ma mn mc) ∧ (w.alloc (Obj.cells #[.slice ra rn rc, .slice ma mn mc, .bool f, .bool s] 65)).cell? ⟨w.heap.size, 2, none⟩ = some (.bool f) ∧ (w.alloc (Obj.cells #[.slice ra rn rc, .slice ma mn mc, .bool f, .bool s] 65)).cell? ⟨w.heap.size, 3, none⟩ = some (.bool s)) := ⟨by simp [go_sem], by simp [go_sem], by simp [go_sem], by simp [go_sem]⟩
 obtain ⟨jo, jc, rfl, j1, j2, j3⟩ := hj
 obtain ⟨n, hn⟩ : ∃ n, n = jobs.length := ⟨_, rfl⟩
 rw [← hn] at j1 ⊢
 have HN : Hid (n = jobs.length) := hn
 have hni : (n : Int) ≤ 9223372036854775807 := by simp only [maxLen] at j2; omega
 have HJ : Hid (Jl w jo jobs) := j3
 have HJV : Hid (Jv w (.slice jo n jc) jobs) := ⟨jo, jc, by rw [hn], by rw [← hn]; exact j1, j2, j3⟩
 have HR : Hid (Rv w (.slice ra rn rc) recs) := hr
 have HM : Hid (Kv w (.slice ma mn mc) more) := hm
 clear hr hm hn j1 j2 j3
 go_in
 go_upto_region 1 with fail
 obtain ⟨N, hN⟩ : ∃ N, N = w.heap.size := ⟨_, rfl⟩
 rw [← hN] at HC0 ⊢
 generalize (w.alloc (Obj.cells #[.slice ra rn rc, .slice ma mn mc, .bool f, .bool s] 65)) = w0 at HB0 HC0 ⊢
 clear hN
 go_wp2_with fail
 refine (awake_walkS w0).mono ?_
 rintro e w1 ⟨rfl, hb1⟩
 have HB1 : Hid (Below w0.heap.size w0 w1) := hb1
 clear hb1
 obtain ⟨K, hK⟩ : ∃ K, K = knownB k := ⟨_, rfl⟩
 have HK : Hid (K = knownB k) := hK
 clear hK
 go_wp2_with fail
 refine (known_walk k w1).mono ?_
 rw [← HK.out]
 rintro e w2 ⟨rfl, hw2⟩
 replace hw2 := hw2.symm
 subst hw2
 cases K
 ·go_wp2_with fail
  go_ret
  exact ⟨rfl, below_trans HB0.out HB1.out⟩
 have HB01 : Hid (Below w.heap.size w w1) := below_trans HB0.out HB1.out
 go_wp2_with fail
 refine (rowed_walk HK.out.symm (HJV.out.below HB01.out)).mono ?_
 obtain ⟨js, hjs⟩ : ∃ js, js = jobs.take 60 := ⟨_, rfl⟩
 have HJS : Hid (js = jobs.take 60) := hjs
 have HJ60 : Hid (js.length ≤ 60) := by rw [hjs, List.length_take]; show _ ≤ _; omega
 rw [← hjs]
 clear hjs
 rintro e w3 ⟨sp, sb, rfl, hro⟩
 have HRO : Hid (RoR k js w1 sp sb js.length w3) := hro
 have HB3 : Hid (Below w1.heap.size w1 w3) := by obtain ⟨_, _, _, _, _, _, _, _, _, _, h⟩ := hro; exact h
 obtain ⟨B, hB⟩ : ∃ B, B = rowB js := ⟨_, rfl⟩
 rw [← hB]
 have HBB : Hid (B = rowB js) := hB
 have HW3 : Hid (Below w.heap.size w w3) := below_trans HB01.out HB3.out
 have HJ3 : Hid (Jl w3 jo jobs) := HJ.out.below HW3.out
 clear hro hB
 go_wp2_with fail
 go_loopw [10, 11] (fun lv iv wr => ∃ i : Nat, iv = .int .i64 i ∧ i ≤ 60 ∧ i ≤ n ∧ Jo w3 wr lv (keptJ (jobs.take i)) ∧ Below w3.heap.size w3 wr) (fun _ iv _ => 60 - (intOf iv).toNat)
 case atStart => exact ⟨0, rfl, by omega, by omega, Jo.nil _ _, Below.refl _ _⟩
 case round =>
  obtain ⟨i, rfl, hi60, hin, hjo, hbr⟩ := hrel
  have HJO : Hid (Jo w3 wr u10 (keptJ (jobs.take i))) := hjo
  have HBR : Hid (Below w3.heap.size w3 wr) := hbr
  clear hjo hbr
  by_cases hgo : i < n ∧ i < 60
  ·obtain ⟨hlt, h60⟩ := hgo
   have hlti : (i : Int) < (n : Int) := by omega
   have h60i : (i : Int) < 60 := by omega
   have hlt' : i < jobs.length := by rw [← HN.out]; exact hlt
   obtain ⟨b, off, rv, mv, rfl, c0, c1, c2, c3, hrv, hmv⟩ := HJ3.out i hlt'
   obtain ⟨j, hjj⟩ : ∃ j, j = jobs[i] := ⟨_, rfl⟩
   rw [← hjj] at c2 c3 hrv hmv
   have HTK : Hid (jobs.take (i + 1) = jobs.take i ++ [j]) := by rw [hjj]; exact List.take_succ_eq_append_getElem hlt'
   have HRV : Hid (Rv w3 rv j.r) := hrv
   have HMV : Hid (Kv w3 mv j.m) := hmv
   obtain ⟨qa, qn, qc, rfl⟩ : ∃ x y z, rv = .slice x y z := by obtain ⟨⟨x, z, e, _⟩, _⟩ := hrv; exact ⟨x, _, z, e⟩
   obtain ⟨pa, pn, pc, rfl⟩ := sv_any hmv
   have d0 : wr.cell? ⟨b, off + i * 4, none⟩ = some (.slice qa qn qc) := by rw [HBR.out.cell (p := ⟨b, off + i * 4, none⟩) (cell_lt c0)]; exact c0
   have d1 : wr.cell? ⟨b, off + i * 4 + 1, none⟩ = some (.slice pa pn pc) := by rw [HBR.out.cell (p := ⟨b, off + i * 4 + 1, none⟩) (cell_lt c1)]; exact c1
   have d2 : wr.cell? ⟨b, off + i * 4 + 2, none⟩ = some (.bool j.f) := by rw [HBR.out.cell (p := ⟨b, off + i * 4 + 2, none⟩) (cell_lt c2)]; exact c2
   have d3 : wr.cell? ⟨b, off + i * 4 + 3, none⟩ = some (.bool j.s) := by rw [HBR.out.cell (p := ⟨b, off + i * 4 + 3, none⟩) (cell_lt c3)]; exact c3
   clear hrv hmv hjj c0 c1 c2 c3
   obtain ⟨jf, hjf⟩ : ∃ x, x = j.f := ⟨_, rfl⟩
   obtain ⟨jS, hjs⟩ : ∃ x, x = j.s := ⟨_, rfl⟩
   rw [← hjf] at d2
   rw [← hjs] at d3
   have HJF : Hid (jf = j.f) := hjf
   have HJSS : Hid (jS = j.s) := hjs
   clear hjf hjs
   cases jf
   ·have HLE : Hid ((keptJ (jobs.take i)).length ≤ 100) := by have h1 := keptJ_le (jobs.take i); rw [List.length_take] at h1; show _ ≤ _; omega
    have HBA : Hid (Below wr.heap.size wr (wr.alloc (Obj.cells #[.slice qa qn qc, .slice pa pn pc, .bool false, .bool jS] 65))) := below_alloc _ _
    have HJA : Hid (Jo w3 (wr.alloc (Obj.cells #[.slice qa qn qc, .slice pa pn pc, .bool false, .bool jS] 65)) u10 (keptJ (jobs.take i))) := by
     obtain ⟨qs, q1, q2, q3⟩ := HJO.out
     exact ⟨qs, q1, q2.alloc _, q3⟩
    go_upto_region 9 with (at_builtin; refine wpList_append_jo (w0 := w3) (by rfl) (.tmp 51) (.tmp 56) (by rfl) _ _ (by rfl) HJA.out wr.heap.size (.slice qa qn qc) (.slice pa pn pc) j (by rfl) (by simp [go_sem]) (by simp [go_sem]) (by rw [← HJF.out]; simp [go_sem]) (by rw [← HJSS.out]; simp [go_sem]) HRV.out HMV.out HLE.out (Nat.le_trans HBR.out.size HBA.out.size) ?_; intro v2 wx hjo hbx)
    have HX : Hid (Jo w3 wx v2 (keptJ (jobs.take (i + 1)))) := by rw [HTK.out, keptJ_snoc, ← HJF.out]; exact hjo
    have HBX : Hid (Below w3.heap.size w3 wx) := (below_trans HBR.out HBA.out).trans hbx
    clear hjo hbx
    go_wp2_with fail
    go_roundw
    case rel => exact ⟨i + 1, by go_num, by omega, by omega, HX.out, HBX.out⟩
    case measure => simp [intOf]; omega
   ·have HX : Hid (Jo w3 wr u10 (keptJ (jobs.take (i + 1)))) := by rw [HTK.out, keptJ_snoc, ← HJF.out, if_pos rfl, List.append_nil]; exact HJO.out
    go_wp2_with fail
    go_roundw
    case rel => exact ⟨i + 1, by go_num, by omega, by omega, HX.out, HBR.out⟩
    case measure => simp [intOf]; omega
  ·have HE : Hid (jobs.take i = js) := by
    show _ = _
    rw [HJS.out]
    by_cases h : i < n
    ·rw [show i = 60 by omega]
    ·rw [List.take_of_length_le (by rw [← HN.out]; omega), List.take_of_length_le (by rw [← HN.out]; omega)]
   have HKJ : Hid (Jv wr u10 (keptJ js)) := by have h := HJO.out.jv HBR.out; rw [HE.out] at h; exact h
   have HK60 : Hid ((keptJ js).length ≤ 60) := Nat.le_trans (keptJ_le js) HJ60.out
   obtain ⟨la, ln, lc, rfl⟩ : ∃ x y z, u10 = .slice x y z := by obtain ⟨x, z, e, _⟩ := HKJ.out; exact ⟨x, _, z, e⟩
   clear HJO
   by_cases hlt : i < n
   all_goals
    first
     | (have hlti : (i : Int) < (n : Int) := (by omega); have h60i : ¬ (i : Int) < 60 := (by omega))
     | have hlti : ¬ (i : Int) < (n : Int) := by omega
    go_wp2_with fail
    refine (rowed_walk HK.out.symm HKJ.out).mono ?_
    rw [List.take_of_length_le HK60.out]
    rintro e w4 ⟨sp2, sb2, rfl, hro2⟩
    rw [keptJ_B, ← HBB.out]
    have HRO2 : Hid (RoR k (keptJ js) wr sp2 sb2 (keptJ js).length w4) := hro2
    have HB4 : Hid (Below wr.heap.size wr w4) := by obtain ⟨_, _, _, _, _, _, _, _, _, _, h⟩ := hro2; exact h
    have HBX4 : Hid (Below w0.heap.size w0 w4) := below_trans (below_trans (below_trans HB1.out HB3.out) HBR.out) HB4.out
    have HW4 : Hid (Below w.heap.size w w4) := below_trans HB0.out HBX4.out
    have d0 : w4.cell? ⟨N, 0, none⟩ = some (.slice ra rn rc) := by rw [HBX4.out.cell (p := ⟨N, 0, none⟩) (cell_lt HC0.out.1)]; exact HC0.out.1
    have d1 : w4.cell? ⟨N, 1, none⟩ = some (.slice ma mn mc) := by rw [HBX4.out.cell (p := ⟨N, 1, none⟩) (cell_lt HC0.out.2.1)]; exact HC0.out.2.1
    have d2 : w4.cell? ⟨N, 2, none⟩ = some (.bool f) := by rw [HBX4.out.cell (p := ⟨N, 2, none⟩) (cell_lt HC0.out.2.2.1)]; exact HC0.out.2.2.1
    have d3 : w4.cell? ⟨N, 3, none⟩ = some (.bool s) := by rw [HBX4.out.cell (p := ⟨N, 3, none⟩) (cell_lt HC0.out.2.2.2)]; exact HC0.out.2.2.2
    have HBBB : Hid (1 ≤ B ∧ B ≤ 61) := by
     have h1 := rowB_le js; have h2 := HJ60.out; have h3 : 1 ≤ rowB js := by unfold rowB; omega
     have h4 := HBB.out
     exact ⟨by omega, by omega⟩
    have hb1i : (1 : Int) ≤ (B : Int) := by have := HBBB.out; omega
    have hb2i : (B : Int) ≤ 61 := by have := HBBB.out; omega
    clear hro2
    go_wp2_with fail
    refine (part_walk HK.out.symm (HR.out.below HW4.out) (HM.out.below HW4.out) f s).mono ?_
    rintro e w5 ⟨tv, kv, rfl, hqv, hqb, hkv, hb5⟩
    obtain ⟨T, hT⟩ : ∃ T, T = ptT k recs := ⟨_, rfl⟩
    obtain ⟨ks, hks⟩ : ∃ ks, ks = ptK k recs more := ⟨_, rfl⟩
    have HTA : Hid (Ta k ⟨(B : Nat), 99, ks⟩ T) := by rw [hT, hks]; exact pt_ta HK.out.symm HR.out.2 _ _ _
    have HKS : Hid (keysOk ks ∧ ks.length ≤ 64 ∧ risB ks = true) := by rw [hks]; exact ⟨ptK_ok _ _ _, ptK_len _ _ _, ptK_ris _ _ _⟩
    rw [← hT] at hqv
    rw [← hks] at hkv
    have HKV : Hid (Kv w5 kv ks) := own_sv hkv
    obtain ⟨n1, hn1⟩ : ∃ n1, n1 = js.length := ⟨_, rfl⟩
    obtain ⟨n2, hn2⟩ : ∃ n2, n2 = (keptJ js).length := ⟨_, rfl⟩
    obtain ⟨F, hF⟩ : ∃ F, F = rowF k js := ⟨_, rfl⟩
    obtain ⟨bn, hbn⟩ : ∃ bn, bn = 16 := ⟨_, rfl⟩
    obtain ⟨ta, tn, tc, rfl⟩ : ∃ x y z, tv = .slice x y z := by obtain ⟨⟨x, z, e, _⟩, _⟩ := id hqv; exact ⟨x, _, z, e⟩
    obtain ⟨ka, kn, kc, rfl⟩ := sv_any HKV.out
    have HT0 : Hid (Tws w sp sb sp2 sb2 k (B : Nat) n1 n2 F T ks (.slice ka kn kc) (.slice ta tn tc) bn 0 0 (2060) w5) := by
     rw [hF, hn1, hn2, hbn, HBB.out]
     exact tw_start HB01.out HRO.out HBR.out HRO2.out (keptJ_B js) (keptJ_F k js) hb5 HKV.out hqv (fun x hx => hkv.lt x hx) hqb HJ60.out HK60.out
    have HN12 : Hid (n1 < 99 ∧ n2 < 99) := ⟨by have := HJ60.out; omega, by have := HK60.out; omega⟩
    clear hqv hqb hkv hb5 d0 d1 d2 d3 hT hks hn1 hn2 hF hbn HKV
    go_wp2_with fail
    refine (tw_begin HT0.out (by omega) HN12.out.1 HKS.out.1 HKS.out.2.1 HKS.out.2.2).mono ?_
    rintro e w6 ⟨rfl, h⟩
    have HT1 := hidH h
    clear h HT0
    go_wp2_with fail
    refine (tw_begin HT1.out.swap (by omega) HN12.out.2 HKS.out.1 HKS.out.2.1 HKS.out.2.2).mono ?_
    rintro e w7 ⟨rfl, h⟩
    have HT2 : Hid (Tws w sp sb sp2 sb2 k (B : Nat) n1 n2 F T ks (.slice ka kn kc) (.slice ta tn tc) bn 1 1 (2060 + 17 + 17) w7) := h.swap
    clear h HT1
    go_wp2_with fail
    refine (tw_apply HT2.out (by omega) hb1i HTA.out).mono ?_
    rintro e w8 ⟨rfl, h⟩
    have HT3 := hidH h
    clear h HT2
    go_wp2_with fail
    refine (tw_apply HT3.out.swap (by omega) hb1i HTA.out).mono ?_
    rintro e w9 ⟨rfl, h⟩
    have HT4 : Hid (Tws w sp sb sp2 sb2 k (B : Nat) n1 n2 F T ks (.slice ka kn kc) (.slice ta tn tc) bn 2 2 (2060 + 17 + 17 + 17 + 17) w9) := h.swap
    clear h HT3
    go_wp2_with fail
    go_loopw [17] (fun kv wr => ∃ i : Nat, kv = .int .u64 i ∧ i ≤ 40 ∧ Tws w sp sb sp2 sb2 k (B : Nat) n1 n2 F T ks (.slice ka kn kc) (.slice ta tn tc) bn 2 2 (3000 + 24 * i) wr) (fun kv _ => 40 - (intOf kv).toNat)
    case atStart => exact ⟨0, rfl, by omega, HT4.out.mono (by omega)⟩
    case round =>
     obtain ⟨i, rfl, hi, htw⟩ := hrel
     have HT := hidH htw
     clear htw
     obtain ⟨wo, hwo⟩ : ∃ wo, wo = wr := ⟨_, rfl⟩
     subst hwo
     by_cases hlt : i < 40
     ·have hlti : (i : Int) < 40 := by omega
      go_wp2_with fail
      go_loopw [18] (fun nv wr => ∃ j : Nat, nv = .int .i64 ((B : Int) - 1 + j) ∧ j ≤ 2 ∧ Tws w sp sb sp2 sb2 k (B : Nat) n1 n2 F T ks (.slice ka kn kc) (.slice ta tn tc) bn 2 2 (3000 + 24 * i + 12 * j) wr) (fun nv _ => 2 - (intOf nv - ((B : Int) - 1)).toNat)
      case atStart => exact ⟨0, by simp, by omega, HT.out⟩
      case round =>
       obtain ⟨j, rfl, hj, htw⟩ := hrel
       have HTI := hidH htw
       clear htw
       by_cases hj2 : j < 2
       ·have hle : (B : Int) - 1 + (j : Int) ≤ (B : Int) := by omega
        have HNN : Hid ((B : Int) - 1 + (j : Int) = (B : Int) - 1 ∨ (B : Int) - 1 + (j : Int) = (B : Int)) := by show _ ∨ _; omega
        obtain ⟨v, hv⟩ : ∃ v, v = qA k (B : Nat) F T i ((B : Int) - 1 + j) := ⟨_, rfl⟩
        have HV : Hid (v = qA k (B : Nat) F T i ((B : Int) - 1 + j)) := hv
        clear hv
        go_wp2_with fail
        refine (tw_query HTI.out (Below.refl _ _) (by omega) i HNN.out).mono ?_
        rw [← HV.out]
        rintro e wa ⟨rfl, h, _⟩
        have HTa := hidH h
        clear h
        go_upto_region 25 with fail
        obtain ⟨T1, hT1⟩ : ∃ T1, T1 = wa.heap.size := ⟨_, rfl⟩
        have HVA : Hid ((wa.alloc (Obj.cells #[.bool v.h, .int .u64 v.b] 53)).cell? ⟨T1, 0, none⟩ = some (.bool v.h) ∧ (wa.alloc (Obj.cells #[.bool v.h, .int .u64 v.b] 53)).cell? ⟨T1, 1, none⟩ = some (.int .u64 v.b)) := by rw [hT1]; exact vb_newS wa v.h v.b
        have HBa : Hid (Below wa.heap.size wa (wa.alloc (Obj.cells #[.bool v.h, .int .u64 v.b] 53))) := below_alloc _ _
        have HT1 : Hid (T1 = wa.heap.size) := hT1
        rw [← hT1]
        generalize (wa.alloc (Obj.cells #[.bool v.h, .int .u64 v.b] 53)) = wb at HVA HBa ⊢
        clear hT1
        go_wp2_with fail
        refine (tw_query HTa.out.swap HBa.out (by omega) i HNN.out).mono ?_
        rw [← HV.out]
        rintro e wc ⟨rfl, h, hc⟩
        have HTc : Hid (Tws w sp sb sp2 sb2 k (B : Nat) n1 n2 F T ks (.slice ka kn kc) (.slice ta tn tc) bn 2 2 (3000 + 24 * i + 12 * j + 6 + 6) wc) := h.swap
        have HVC : Hid (wc.cell? ⟨T1, 0, none⟩ = some (.bool v.h) ∧ wc.cell? ⟨T1, 1, none⟩ = some (.int .u64 v.b)) := ⟨hc.cell HVA.out.1 (by show ¬ T1 < wa.heap.size; have := HT1.out; omega), hc.cell HVA.out.2 (by show ¬ T1 < wa.heap.size; have := HT1.out; omega)⟩
        clear h hc HTa
        go_upto_region 26 with fail
        obtain ⟨T2, hT2⟩ : ∃ T2, T2 = wc.heap.size := ⟨_, rfl⟩
        have HVD : Hid ((wc.alloc (Obj.cells #[.bool v.h, .int .u64 v.b] 53)).cell? ⟨T2, 0, none⟩ = some (.bool v.h) ∧ (wc.alloc (Obj.cells #[.bool v.h, .int .u64 v.b] 53)).cell? ⟨T2, 1, none⟩ = some (.int .u64 v.b)) := by rw [hT2]; exact vb_newS wc v.h v.b
        have HBc : Hid (Below wc.heap.size wc (wc.alloc (Obj.cells #[.bool v.h, .int .u64 v.b] 53))) := below_alloc _ _
        rw [← hT2]
        generalize (wc.alloc (Obj.cells #[.bool v.h, .int .u64 v.b] 53)) = wd at HVD HBc ⊢
        have f0 : wd.cell? ⟨T1, 0, none⟩ = some (.bool v.h) := by rw [HBc.out.cell (p := ⟨T1, 0, none⟩) (cell_lt HVC.out.1)]; exact HVC.out.1
        have f1 : wd.cell? ⟨T1, 1, none⟩ = some (.int .u64 v.b) := by rw [HBc.out.cell (p := ⟨T1, 1, none⟩) (cell_lt HVC.out.2)]; exact HVC.out.2
        have g0 := HVD.out.1
        have g1 := HVD.out.2
        have qv : ∀ wx, (binOp .neq 53 (.agg #[.bool v.h, .int .u64 v.b]) (.agg #[.bool v.h, .int .u64 v.b])).run Tryz.prog wx = .ok (.bool false) wx := neq_val v
        have hgv := guard_val
        have HTd : Hid (Tws w sp sb sp2 sb2 k (B : Nat) n1 n2 F T ks (.slice ka kn kc) (.slice ta tn tc) bn 2 2 (3000 + 24 * i + 12 * (j + 1)) wd) := (HTc.out.below HBc.out).mono (by omega)
        clear hT2 HVA HVC HVD HTc
        go_wp2_with fail
        go_roundw
        case rel => exact ⟨j + 1, by go_num, by omega, HTd.out⟩
        case measure => simp [intOf]; omega
       ·have hle : ¬ (B : Int) - 1 + (j : Int) ≤ (B : Int) := by omega
        have HTe : Hid (Tws w sp sb sp2 sb2 k (B : Nat) n1 n2 F T ks (.slice ka kn kc) (.slice ta tn tc) bn 2 2 (3000 + 24 * (i + 1)) wr) := HTI.out.mono (by omega)
        go_wp2_with fail
        go_roundw
        case rel => exact ⟨i + 1, by go_num, by omega, HTe.out⟩
        case measure => simp [intOf]; omega
     ·have hlti : ¬ (i : Int) < 40 := by omega
      go_wp2_with fail
      refine (tw_blocks HT.out).mono ?_
      rintro e wy ⟨rfl, hwy⟩
      replace hwy := hwy.symm
      subst hwy
      go_wp2_with fail
      refine (tw_blocks HT.out.swap).mono ?_
      rintro e wy ⟨rfl, hwy⟩
      replace hwy := hwy.symm
      subst hwy
      go_wp2_with fail
      go_ret
      exact ⟨rfl, HT.out.bw⟩
end
section
open Go.ChangeShapes Go.WideShapes Go.ChangeAt Go.RowKit

theorem lifted_storeRetries (os : Os) (started : os.Started) (H : Type) (enc : TypeId × Value → H) :
  ReturnsInHanded {} Tryz.checked os 8 .any (Rows.storeRetriesSpec.pre6 enc Tryz.prog Tryz.f8 Rows.storeRetriesRow.domain false) (Rows.storeRetriesSpec.post enc Tryz.prog Tryz.f8 false true false false) := by
 refine returnsInHanded_of_change (C := Tryz.checked) own_knob started (by kernel_rfl) Tryz.func8
  (ChangeSpec.witness6 (enc := enc) (C := Tryz.checked) false ⟨#[], #[.int .i64 0, .slice none 0 0, .agg #[.slice none 0 0, .slice none 0 0, .bool false, .bool false]], []⟩ 8 (by kernel_rfl) (by kernel_rfl) (by kernel_rfl) (by kernel_rfl)) ?_
 intro W base args ds gs before hval0 hW hcnd _
 have hval : ∀ (j : Nat) t v, Tryz.f8.params[j]? = some t → args[j]? = some v → Value.okWide Tryz.prog W .any base t v := hval0
 have hW' := hW
 obtain ⟨p, q, hA0, hV, rfl, hfz, hnd⟩ := hW
 have hA : DataW.TrodAll enc Tryz.prog W 0 (fun _ => true) true Tryz.f8.params.toList args.toList ds p := hA0
 rw [Tryz.params8] at hA hval
 obtain ⟨v0, vs0, d0, ds0, p0, q0, hargs, rfl, rfl, t0, r0⟩ := trodAll_cons hA
 obtain ⟨v1, vs1, d1, ds1, p1, q1, rfl, rfl, rfl, t1, r1⟩ := trodAll_cons r0
 obtain ⟨v2, vs2, d2, ds2, p2, q2, rfl, rfl, rfl, t2, r2⟩ := trodAll_cons r1
 obtain ⟨rfl, rfl, rfl⟩ := trodAll_nil r2
 obtain rfl : args = #[v0, v1, v2] := by cases args; simp_all
 obtain ⟨rfl, rfl⟩ := trodVars_none hV
 simp only [List.append_nil] at hW'
 have o0 := open_int Tryz.underlying3 (hval 0 3 v0 rfl rfl) t0
 obtain ⟨a0, e0, _, _, wf0⟩ := o0
 have w0 := i64_of_wf wf0
 subst e0
 obtain ⟨l1, b1⟩ := open_jobs (hval 1 57 v1 rfl rfl) t1
 obtain ⟨rv2, mv2, j2, e2, br2, bm2⟩ := open_job13 (hval 2 65 v2 rfl rfl) t2
 subst e2
 refine (retries_walk b1 br2 bm2 j2.f j2.s).mono fun e W' ⟨he, hB⟩ => ?_
 subst he
 exact ⟨_, rfl, post_of_below (pv := []) hW' (fun _ _ _ => (trodAll_cons_mk (shut_bool Tryz.underlying4 _) trodAll_mk0)) (fun sp hsp => (trodAll_cons_mk (again (by kernel_rfl) (of_decide_eq_true (by kernel_rfl)) t0 hB (fun x hx => by simpa using hW'.lt x (by simp [hx])) (fun x hx => hsp x (by simp [hx]))) (trodAll_cons_mk (again (by kernel_rfl) (of_decide_eq_true (by kernel_rfl)) t1 hB (fun x hx => by simpa using hW'.lt x (by simp [hx])) (fun x hx => hsp x (by simp [hx]))) (trodAll_cons_mk (again (by kernel_rfl) (of_decide_eq_true (by kernel_rfl)) t2 hB (fun x hx => by simpa using hW'.lt x (by simp [hx])) (fun x hx => hsp x (by simp [hx]))) trodAll_mk0)))) (fun _ _ => rfl) (by simp) hB⟩
theorem storeRetries_holds : Rows.StoreRetriesSaid :=
 OpenClaim.holds_of_wide 8 Tryz.f8 rfl rfl rfl rfl rfl rfl rfl ⟨rfl, rfl, rfl, rfl, rfl⟩ rfl rfl rfl rfl rfl (by kernel_rfl) Tryz.func8 (by kernel_rfl)
  (of_decide_eq_true (by kernel_rfl)) (by unfold Func.isWrapper; first | (rw [if_pos (by decide +kernel)]; kernel_rfl) | (rw [if_neg (by decide +kernel)]; exact ⟨rfl, rfl⟩))
  (fun os started H enc _ => lifted_storeRetries os started H enc)
#print axioms storeRetries_holds
end
end Go.Proofs.YtofkhgokfdpdiaaGreat
