/- Both workers and both sources, new. -/
import Derived.Test.YtombjgfajbhbbaaGreatB47
set_option maxRecDepth 100000
set_option maxHeartbeats 16000000
namespace Go.Proofs.YtombjgfajbhbbaaGreat
open Go.RowKit
section
open Ieee Go.RowKit

def newI (parts : Int) (l : List Stp) : Int := if parts < 1 ∨ 4 < parts then 1 else if checkB l then 0 else 30
def newOp (parts : Int) (l : List Stp) : Option Sc := if parts < 1 ∨ 4 < parts then none else if checkB l then some (newS parts.toNat l) else none
def So (D : Nat → Prop) (w : World) (v : Value) (o : Option Sc) : Prop := (o = none ∧ v = .pointer none ∧ ∀ x, ¬ D x) ∨ ∃ S, o = some S ∧ Src D w v S
def Ro (D : Nat → Prop) (w : World) (v : Value) (o : Option Sc) : Prop := (o = none ∧ v = .pointer none ∧ ∀ x, ¬ D x) ∨ ∃ S, o = some S ∧ Rs D w v S
theorem znewP {lv : Value} {parts : Int} {l : List Stp} {w : World} (ho : Ov w lv l) : Calls Tryz.prog 7 #[.int .i64 parts, lv] w fun e w' => ∃ v D, e = .returned (.tuple #[v, .int .i64 (newI parts l)]) ∧ So D w' v (newOp parts l) ∧ Below w.heap.size w w' ∧ ∀ b, D b → w.heap.size ≤ b := by
 by_cases hp : parts < 1 ∨ 4 < parts
 ·refine (new_arg hp).mono ?_;rintro e w1 ⟨rfl, rfl⟩;exact ⟨_, fun _ => False, by rw [newI, if_pos hp], .inl ⟨by rw [newOp, if_pos hp], rfl, fun _ h => h⟩, below_same _, fun _ h => h.elim⟩
 ·cases hc : checkB l
  ·refine (new_ops (by omega) (by omega) ho hc).mono ?_;rintro e w1 ⟨rfl, hB⟩;exact ⟨_, fun _ => False, by rw [newI, if_neg hp, hc]; rfl, .inl ⟨by rw [newOp, if_neg hp, hc]; rfl, rfl, fun _ h => h⟩, hB, fun _ h => h.elim⟩
  ·obtain ⟨n, rfl⟩ : ∃ n : Nat, parts = n := ⟨parts.toNat, by omega⟩;refine (new_ok (n := n) (by omega) (by omega) ho hc).mono ?_;rintro e w1 ⟨v, D, rfl, hS, hB, hD⟩;exact ⟨v, D, by rw [newI, if_neg hp, hc]; rfl, .inr ⟨newS n l, by rw [newOp, if_neg hp, hc]; rfl, hS⟩, hB, hD⟩
theorem znewR {lv : Value} {parts : Int} {l : List Stp} {w : World} (ho : Ov w lv l) : Calls Tryz.prog 8 #[.int .i64 parts, lv] w fun e w' => ∃ v D, e = .returned (.tuple #[v, .int .i64 (newI parts l)]) ∧ Ro D w' v (newOp parts l) ∧ Below w.heap.size w w' ∧ ∀ b, D b → w.heap.size ≤ b := by
 by_cases hp : parts < 1 ∨ 4 < parts
 ·refine (rnew_arg hp).mono ?_;rintro e w1 ⟨rfl, rfl⟩;exact ⟨_, fun _ => False, by rw [newI, if_pos hp], .inl ⟨by rw [newOp, if_pos hp], rfl, fun _ h => h⟩, below_same _, fun _ h => h.elim⟩
 ·cases hc : checkB l
  ·refine (rnew_ops (by omega) (by omega) ho hc).mono ?_;rintro e w1 ⟨rfl, hB⟩;exact ⟨_, fun _ => False, by rw [newI, if_neg hp, hc]; rfl, .inl ⟨by rw [newOp, if_neg hp, hc]; rfl, rfl, fun _ h => h⟩, hB, fun _ h => h.elim⟩
  ·obtain ⟨n, rfl⟩ : ∃ n : Nat, parts = n := ⟨parts.toNat, by omega⟩;refine (rnew_ok (n := n) (by omega) (by omega) ho hc).mono ?_;rintro e w1 ⟨v, D, rfl, hS, hB, hD⟩;exact ⟨v, D, by rw [newI, if_neg hp, hc]; rfl, .inr ⟨newS n l, by rw [newOp, if_neg hp, hc]; rfl, hS⟩, hB, hD⟩
theorem So.below {D : Nat → Prop} {w w' : World} {v : Value} {o : Option Sc} (h : So D w v o) (hb : Below w.heap.size w w') : So D w' v o := by
 rcases h with h | ⟨S, e, h⟩
 ·exact .inl h
 ·exact .inr ⟨S, e, h.below hb⟩
theorem So.lt {D : Nat → Prop} {w : World} {v : Value} {o : Option Sc} (h : So D w v o) {x : Nat} (hx : D x) : x < w.heap.size := by
 rcases h with ⟨_, _, h⟩ | ⟨S, e, h⟩
 ·exact absurd hx (h x)
 ·exact h.lt hx
theorem Ro.lt {D : Nat → Prop} {w : World} {v : Value} {o : Option Sc} (h : Ro D w v o) {x : Nat} (hx : D x) : x < w.heap.size := by
 rcases h with ⟨_, _, h⟩ | ⟨S, e, h⟩
 ·exact absurd hx (h x)
 ·exact h.lt hx
theorem pg_new {Ds Dt : Nat → Prop} {w : World} {sv tv : Value} {o : Option Sc} (h1 : So Ds w sv o) (h2 : Ro Dt w tv o) (hd : ∀ x, Ds x → ¬ Dt x) : Pg (fun x => Ds x ∨ Dt x) w sv tv o o := by
 refine ⟨fun x hx => hx.elim (fun h => h1.lt h) (fun h => h2.lt h), ?_⟩;rcases h1 with ⟨e1, v1, _⟩ | ⟨S1, e1, s1⟩
 ·rcases h2 with ⟨e2, v2, _⟩ | ⟨S2, e2, s2⟩
  ·exact .inl ⟨e1, e1, v1, v2⟩
  ·rw [e1] at e2; cases e2
 ·rcases h2 with ⟨e2, v2, _⟩ | ⟨S2, e2, s2⟩
  ·rw [e1] at e2; cases e2
  ·rw [e1] at e2; cases e2;exact .inr ⟨S1, S1, Ds, Dt, e1, e1, s1, s2, hd, fun x hx => .inl hx, fun x hx => .inr hx⟩
def nwC (p : Pn) (nd : Int) : Int := if p.chk ≠ 0 then p.chk else if p.kind nd = 2 then 0 else 170
def NwP (w : World) (p : Pn) (nd : Int) (v : Value) (w' : World) : Prop := Below w.heap.size w w' ∧ ((v = .pointer none ∧ ¬ (p.is = true ∧ p.kind nd = 2)) ∨ (p.is = true ∧ p.kind nd = 2 ∧ ∃ P b ov, v = .pointer (some ⟨P, 0, none⟩) ∧ Wm w' P b ov p nd [] ∧ ∀ x, Bk P b ov [] x → w.heap.size ≤ x))
def RwP (w : World) (p : Pn) (nd : Int) (v : Value) (w' : World) : Prop := Below w.heap.size w w' ∧ ((v = .pointer none ∧ ¬ (p.is = true ∧ p.kind nd = 2)) ∨ (p.is = true ∧ p.kind nd = 2 ∧ ∃ P ov, v = .pointer (some ⟨P, 0, none⟩) ∧ Rwk w' P (.slice none 0 0) ov p nd [] ∧ ∀ x, Rwb P (.slice none 0 0) ov [] x → w.heap.size ≤ x))
theorem is_chk {p : Pn} : p.is = true ↔ p.chk = 0 := by
 have h := p.chk_is;constructor
 ·exact Pn.chk_ok
 ·intro e;rw [e] at h;simpa using h.symm
theorem znewW {w : World} {p : Pn} {oa : Option Addr} {oc : Nat} {nd : Int} (ho : Ov w (.slice oa p.l.length oc) p.l) : Calls Tryz.prog 5 #[.agg #[.int .i64 p.P, .int .i64 p.S, .int .i64 p.W, .slice oa p.l.length oc, .int .i64 p.A, .int .i64 p.B, .int .i64 p.N, .int .i64 p.G], .int .i64 nd] w fun e w' => ∃ v, e = .returned (.tuple #[v, .int .i64 (nwC p nd)]) ∧ NwP w p nd v w' := by
 unfold nwC;by_cases hc : p.chk = 0
 ·rw [if_neg (fun q => q hc)];by_cases hk : p.kind nd = 2
  ·rw [if_pos hk];refine (wnew_ok ho (is_chk.2 hc) hk).mono ?_;rintro e w' ⟨P, b, ov, rfl, h1, h2, h3⟩;exact ⟨_, rfl, h3, .inr ⟨is_chk.2 hc, hk, P, b, ov, rfl, h1, h2⟩⟩
  ·rw [if_neg hk];refine (wnew_not ho hc hk).mono ?_;rintro e w' ⟨rfl, hb⟩;exact ⟨_, rfl, hb, .inl ⟨rfl, fun q => hk q.2⟩⟩
 ·rw [if_pos hc];refine (wnew_bad ho hc).mono ?_;rintro e w' ⟨rfl, hb⟩;exact ⟨_, rfl, hb, .inl ⟨rfl, fun q => hc (is_chk.1 q.1)⟩⟩
theorem znewU {w : World} {p : Pn} {oa : Option Addr} {oc : Nat} {nd : Int} (ho : Ov w (.slice oa p.l.length oc) p.l) : Calls Tryz.prog 6 #[.agg #[.int .i64 p.P, .int .i64 p.S, .int .i64 p.W, .slice oa p.l.length oc, .int .i64 p.A, .int .i64 p.B, .int .i64 p.N, .int .i64 p.G], .int .i64 nd] w fun e w' => ∃ v, e = .returned (.tuple #[v, .int .i64 (nwC p nd)]) ∧ RwP w p nd v w' := by
 unfold nwC;by_cases hc : p.chk = 0
 ·rw [if_neg (fun q => q hc)];by_cases hk : p.kind nd = 2
  ·rw [if_pos hk];refine (rnew17_ok ho (is_chk.2 hc) hk).mono ?_;rintro e w' ⟨P, ov, rfl, h1, h2, h3⟩;exact ⟨_, rfl, h3, .inr ⟨is_chk.2 hc, hk, P, ov, rfl, h1, h2⟩⟩
  ·rw [if_neg hk];refine (rnew17_not ho hc hk).mono ?_;rintro e w' ⟨rfl, hb⟩;exact ⟨_, rfl, hb, .inl ⟨rfl, fun q => hk q.2⟩⟩
 ·rw [if_pos hc];refine (rnew17_bad ho hc).mono ?_;rintro e w' ⟨rfl, hb⟩;exact ⟨_, rfl, hb, .inl ⟨rfl, fun q => hc (is_chk.1 q.1)⟩⟩
theorem newOp_some {p : Pn} (h : p.is = true) : newOp p.P p.l ≠ none := by
 have h1 := (Pn.is_num h).1;unfold newOp;rw [if_neg (by omega), if_pos (Pn.is_kn h).1];simp
section

variable {w0 : Nat} {K : Nat → Prop} {w w' w2 w3 w4 w5 w6 : World} {sv tv wv rv : Value} {p : Pn} {nd : Int} {o1 o2 : Option Sc} {h1 h2 : Option (List Hh)}

theorem Bz.more (h : Bz w0 K w sv tv wv rv p nd o1 o2 h1 h2) (hb : Below w.heap.size w w') : Bz w0 (fun x => K x ∨ (w.heap.size ≤ x ∧ x < w'.heap.size)) w' sv tv wv rv p nd o1 o2 h1 h2 := by
 obtain ⟨D, a1, a2, a3, a4, a5⟩ := h;refine ⟨D, a1.below hb, fun x hx => ⟨(a2 x hx).1, fun e => ?_⟩, fun x hx => ?_, Nat.le_trans a4 hb.size, ?_⟩
 ·rcases e with e | e
  ·exact (a2 x hx).2 e
  ·have := a1.1 x hx; omega
 ·rcases hx with e | e
  ·exact Nat.lt_of_lt_of_le (a3 x e) hb.size
  ·exact e.2
 ·rcases a5 with a5 | ⟨P, b, ov, L, Q, lv, ou, M, e1, e2, e3, e4, b1, b2, b3, b4, b5⟩
  ·exact .inl a5
  ·refine .inr ⟨P, b, ov, L, Q, lv, ou, M, e1, e2, e3, e4, b1.below hb, b2.below hb, fun x hx => ⟨(b3 x hx).1, fun e => ?_, (b3 x hx).2.2⟩, fun x hx => ⟨(b4 x hx).1, fun e => ?_, (b4 x hx).2.2⟩, b5⟩
   ·rcases e with e | e
    ·exact (b3 x hx).2.1 e
    ·have := b1.lt x hx; omega
   ·rcases e with e | e
    ·exact (b4 x hx).2.1 e
    ·have := b2.lt x hx; omega
theorem takQ {p : Pn} {nd : Int} {S : Sc} {m : Ms} {H : List Hh} (hT : ∀ h ∈ H, h.T.length ≤ 1024) : ∀ y ∈ (takA p nd S m H).1, y.Q.length ≤ 1024 := by
 have h0 : ∀ y ∈ ([] : List Ms), y.Q.length ≤ 1024 := by simp
 have hA : ∀ y ∈ (asgH p nd S m H).1, y.Q.length ≤ 1024 := by
  unfold asgH
  split
  ·exact h0
  ·split
   ·intro y hy;simp only [List.mem_singleton] at hy;subst hy;simp [sayM]
   ·exact h0
 have hG : ∀ y ∈ (goH p nd m H).1, y.Q.length ≤ 1024 := by
  unfold goH
  cases e : atK kH H m.B with
  | none => exact h0
  | some h =>
   simp only
   split
   ·intro y hy;simp only [List.mem_map, List.mem_range] at hy;obtain ⟨i, hi, rfl⟩ := hy;have h1 := hT h (atK_mem e).1;have h2 := deal_len p h.T i;simp only [sayM, List.length_map];omega
   ·exact h0
 have hS : ∀ y ∈ (ansH p nd m H).1, y.Q.length ≤ 1024 := by
  unfold ansH
  cases e : atK kH H m.B with
  | none => exact h0
  | some h =>
   simp only
   split
   ·split
    ·exact h0
    ·split
     ·intro y hy;simp only [List.mem_singleton] at hy;subst hy;simp [sayM]
     ·intro y hy
      split at hy
      ·simp at hy
      ·simp only [List.mem_singleton] at hy;subst hy;simp [sayM]
   ·exact h0
 unfold takA coH
 split
 ·split
  ·split
   ·exact hA
   ·split
    ·exact hG
    ·exact h0
  ·split
   ·exact hS
   ·exact h0
 ·exact h0
theorem bz_q (h : Bz w0 K w sv tv wv rv p nd o1 o2 h1 h2) (m : Ms) : ∀ y ∈ tkM p nd m o1 h1, y.Q.length ≤ 1048576 := by
 obtain ⟨D, a1, a2, a3, a4, ⟨e1, e2, e3, e4⟩ | ⟨P, b, ov, L, Q, lv, ou, M, e1, e2, e3, e4, b1, b2, b3, b4, b5, b6⟩⟩ := h
 ·subst e3
  cases o1 <;> simp [tkM]
 ·subst e3
  cases o1 with
  | none => simp [tkM]
  | some S =>
   intro y hy
   have := takQ (p := p) (nd := nd) (S := S) (m := m) (H := L.map (fun z : At => z.h)) (fun h hh => by
    obtain ⟨z, hz, rfl⟩ := List.mem_map.1 hh;exact (b1.ent z hz).tl) y hy
   omega
theorem bz_start (h0 : w0 ≤ w2.heap.size) (hw : NwP w2 p nd wv w3) (hr : RwP w3 p nd rv w4) {Ds Dt : Nat → Prop} (hs : So Ds w5 sv (newOp p.P p.l)) (hsb : Below w4.heap.size w4 w5) (hsd : ∀ x, Ds x → w4.heap.size ≤ x) (ht : Ro Dt w6 tv (newOp p.P p.l)) (htb : Below w5.heap.size w5 w6) (htd : ∀ x, Dt x → w5.heap.size ≤ x) :
  ∃ h, Bz w0 (fun _ => False) w6 sv tv wv rv p nd (newOp p.P p.l) (newOp p.P p.l) h h ∧ lnH h = 0 := by
 have s3 := hw.1.size;have s4 := hr.1.size;have s5 := hsb.size;have s6 := htb.size;have hD : ∀ x, Ds x ∨ Dt x → w4.heap.size ≤ x := fun x hx => hx.elim (hsd x) (fun e => Nat.le_trans s5 (htd x e));have hg : Pg (fun x => Ds x ∨ Dt x) w6 sv tv (newOp p.P p.l) (newOp p.P p.l) := pg_new (hs.below htb) ht (fun x h1 h2 => by have := hs.lt h1; have := htd x h2; omega);rcases hw.2 with ⟨e1, n1⟩ | ⟨i1, k1, P, b, ov, e1, m1, d1⟩
 ·rcases hr.2 with ⟨e2, _⟩ | ⟨i2, k2, _⟩
  ·exact ⟨none, ⟨_, hg, fun x hx => ⟨by have := hD x hx; omega, fun e => e⟩, fun _ e => e.elim, by omega, .inl ⟨e1, e2, rfl, rfl⟩⟩, rfl⟩
  ·exact absurd ⟨i2, k2⟩ n1
 ·rcases hr.2 with ⟨_, n2⟩ | ⟨i2, k2, Q, ou, e2, m2, d2⟩
  ·exact absurd ⟨i1, k1⟩ n2
  ·refine ⟨some [], ⟨_, hg, fun x hx => ⟨by have := hD x hx; omega, fun e => e⟩, fun _ e => e.elim, by omega, .inr ⟨P, b, ov, [], Q, _, ou, [], e1, e2, rfl, rfl, m1.below (below_trans hr.1 (below_trans hsb htb)), m2.below (below_trans hsb htb), fun x hx => ⟨Nat.le_trans h0 (d1 x hx), fun e => e, fun e => ?_, fun e => ?_⟩, fun x hx => ⟨by have := d2 x hx; omega, fun e => e, fun e => ?_⟩, newOp_some i1, newOp_some i1⟩⟩, rfl⟩
   ·have := hD x e; have := m1.lt x hx; omega
   ·have := d2 x e; have := m1.lt x hx; omega
   ·have := hD x e; have := m2.lt x hx; omega
end

theorem blk_cellE {w : World} {g : Nat} {cur : Array Value} {t : TypeId} (h : w.heap[g]? = some (.cells cur t (0, 0))) (i : Nat) : w.cell? ⟨g, i, none⟩ = cur[i]? := cell_of_row w g i cur t (0, 0) h
theorem blk_chE {D : Nat → Prop} {w w' : World} {g : Nat} {o : Obj} (h : w.heap[g]? = some o) (hc : Ch D w w') (hd : ¬ D g) : w'.heap[g]? = some o := by rw [hc.block g (Array.getElem?_eq_some_iff.1 h).1 hd]; exact h
end
end Go.Proofs.YtombjgfajbhbbaaGreat
