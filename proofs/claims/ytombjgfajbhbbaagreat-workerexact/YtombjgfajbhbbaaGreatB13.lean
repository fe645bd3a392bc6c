/- Produce, walked. -/
import Derived.Test.YtombjgfajbhbbaaGreatB12
set_option maxRecDepth 100000
set_option maxHeartbeats 16000000
namespace Go.Proofs.YtombjgfajbhbbaaGreat
open Go.RowKit
section
open Ieee Go.RowKit

section

variable {D : Nat → Prop} {w : World} {v : Value} {S : Sc}

theorem SM.setOn {sb gp gm : Nat} {lv : Value} {rv : Nat → Value} (h : SM D w sb gp gm lv rv S) {q : Nat} (hq : q < S.np) (on : Bool) : SM D (w.setCell ⟨gp, q * 2 + 1, none⟩ (.bool on)) sb gp gm lv rv { S with on := upd S.on q on } := by
 have hk : ∀ x, x ≠ gp → (w.setCell ⟨gp, q * 2 + 1, none⟩ (.bool on)).heap[x]? = w.heap[x]? := fun x hx => Below.heap_setCell w _ _ x hx;obtain ⟨cur, p1, p2, p3⟩ := h.part
 refine ⟨by rw [hk _ h.a1]; exact h.head, ⟨cur.setIfInBounds (q * 2 + 1) (.bool on), ?_, by simpa using p2, fun p hp => ⟨?_, ?_⟩⟩, h.keys.kept (hk _ h.a3.symm), h.list.keep (fun x hx => hk x (h.a5 x hx).2.1), fun p hp => row_keep (h.rows p hp) (fun x hx => hk x (h.a4 p x hp hx).2.1),
  h.a1, h.a2, h.a3, h.a4, h.a5, h.a6, h.d1, h.d2, h.d3, fun x hx => by have := h.dl x hx; simpa [go_sem] using this⟩
 ·rw [Sort.setCell_eq];simp [Sort.mapBlock, Array.getElem?_modify, p1, Sort.onCells]
 ·rw [Array.getElem?_setIfInBounds, if_neg (by omega)]; exact (p3 p hp).1
 ·by_cases e : p = q
  ·subst e;rw [Array.getElem?_setIfInBounds, if_pos rfl, if_pos (by rw [p2]; omega)];show _ = some (Value.bool (upd S.on p on p));rw [upd_same]
  ·rw [Array.getElem?_setIfInBounds, if_neg (by omega)];show _ = some (Value.bool (upd S.on q on p));rw [upd_other _ _ e]; exact (p3 p hp).2
theorem ok_on (h : S.ok) (f : Nat → Bool) : ({ S with on := f } : Sc).ok := ⟨h.np1, h.np4, h.chk, h.lok, h.len, h.rok, h.kl, h.kr, h.kb, h.mem⟩
theorem switch_walk (h : Src D w v S) (p : Int) (on : Bool) : Calls Tryz.prog 14 #[v, .int .i64 p, .bool on] w fun e w' => e = .returned (.int .i64 (switchI S p)) ∧ Src D w' v (switchS S p on) ∧ Ch D w w' := by
 have HW : Hid (Src D w v S) := h;obtain ⟨sb, gp, gm, lv, rv, rfl, h, hok⟩ := h;have HS := hidH h;have HK : Hid S.ok := hok;clear h hok;by_cases hh : hasS S p
 ·obtain ⟨q, rfl, hq⟩ := has_nat hh;have HL : Hid (switchI S q = 0) := by show _ = _; unfold switchI; rw [if_pos hh]
  have HT : Hid (switchS S q on = { S with on := upd S.on q on }) := by show _ = _; unfold switchS; rw [if_pos hh]; rfl
  rw [HL.out, HT.out];have p1 := HS.out.p1 hq;have f1 := HS.out.soft (q * 2 + 1);clear hh;go_in;go_wp2_with (go_at_call 37; refine (part_ok HS.out HK.out hq).mono ?_; rintro e w9 ⟨rfl, h9⟩; have h9 := h9.symm; subst h9);go_ret;exact ⟨rfl, ⟨sb, gp, gm, lv, rv, rfl, HS.out.setOn hq on, ok_on HK.out _⟩, Ch.of_grown (grown_set w gp _ _) (fun x hx => by cases hx; exact HS.out.d1.2.1)⟩
 ·have HL : Hid (switchI S p = 60) := by show _ = _; unfold switchI; rw [if_neg hh]
  have HT : Hid (switchS S p on = S) := by show _ = _; unfold switchS; rw [if_neg hh]
  rw [HL.out, HT.out];have HN : Hid (p < 0 ∨ (S.np : Int) ≤ p) := not_has hh;clear hh;go_in;go_wp2_with (go_at_call 37; refine (part_no HS.out HK.out HN.out).mono ?_; rintro e w9 ⟨rfl, h9⟩; have h9 := h9.symm; subst h9);go_ret;exact ⟨rfl, HW.out, Ch.refl _ _⟩
end
end
section
open Ieee Go.RowKit

def addS (S : Sc) (p : Nat) (r : Rcd) (ks : List Nat) : Sc := { S with logs := upd S.logs p (S.logs p ++ [r]), keys := ks }
def prodS (S : Sc) (p : Int) (r : Rcd) : Int × Sc :=
 if hasS S p then
  if 256 ≤ (S.logs p.toNat).length then (61, S)
  else if (runS S.list r).1 = 1 then
   if (runS S.list r).2.k ∈ S.keys ∨ S.keys.length < 64 then (0, addS S p.toNat r (insK (runS S.list r).2.k S.keys)) else (62, S)
  else (0, addS S p.toNat r S.keys)
 else (60, S)
section

variable {D : Nat → Prop} {w : World} {v : Value} {S : Sc}

theorem takes_walk {sb gp gm : Nat} {lv : Value} {rv : Nat → Value} (h : SM D w sb gp gm lv rv S) {k : Nat} (hk : k < 18446744073709551616) :
  Calls Tryz.prog 39 #[.pointer (some ⟨sb, 0, none⟩), .int .u64 k] w fun e w' => e = .returned (.bool (decide (k ∈ S.keys ∨ S.keys.length < 64))) ∧ Below w.heap.size w w' := by
 have c2 := h.c2;have c2' : ∀ o, (w.alloc o).cell? ⟨sb, 2, none⟩ = some (.map (some gm)) := fun o => (h.below (below_alloc w o)).c2;have hlk := ks_look h.keys hk;have hln : ∀ o, (Builtin.len_ #[82] 3 #[.map (some gm)]).run Tryz.prog (w.alloc o) = .ok (.int .i64 S.keys.length) (w.alloc o) := fun o => ks_len (h.keys.kept ((World.grownBy_alloc w o none).block gm h.keys.lt (by simp))) _;obtain ⟨n, hn⟩ : ∃ n, n = S.keys.length := ⟨_, rfl⟩;rw [← hn] at hln ⊢;clear h hk hn;by_cases hm : k ∈ S.keys
 ·rw [decide_eq_true hm] at hlk;rw [decide_eq_true (.inl hm)];clear hm;go_in;go_wp2_with fail;go_ret;exact ⟨rfl, below_alloc _ _⟩
 ·rw [decide_eq_false hm] at hlk
  have e : decide (k ∈ S.keys ∨ n < 64) = decide ((n : Int) < 64) := by
   by_cases h64 : n < 64
   ·rw [decide_eq_true (.inr h64), decide_eq_true (by omega)]
   ·rw [decide_eq_false (by rintro (h | h); exact hm h; exact h64 h), decide_eq_false (by omega)]
  rw [e];clear hm e;go_in;go_wp2_with fail;go_ret;exact ⟨rfl, below_alloc _ _⟩
theorem SM.addK {sb gp gm : Nat} {lv : Value} {rv : Nat → Value} {w' : World} {ks : List Nat} (h : SM D w sb gp gm lv rv S) (hg : w.grownBy w' (some gm)) (hk : Ks w' gm ks) : SM D w' sb gp gm lv rv { S with keys := ks } := by
 have hb : ∀ x, D x → x ≠ gm → w'.heap[x]? = w.heap[x]? := fun x hx hne => hg.block x (h.dl x hx) (by simpa using hne);obtain ⟨cur, p1, p2, p3⟩ := h.part
 exact ⟨by rw [hb _ h.d1.1 h.a2]; exact h.head, ⟨cur, by rw [hb _ h.d1.2.1 h.a3]; exact p1, p2, p3⟩, hk, h.list.keep (fun x hx => hb x (h.d3 x hx) (h.a5 x hx).2.2), fun p hp => row_keep (h.rows p hp) (fun x hx => hb x (h.d2 p x hp hx) (h.a4 p x hp hx).2.2.1),
  h.a1, h.a2, h.a3, h.a4, h.a5, h.a6, h.d1, h.d2, h.d3, fun x hx => Nat.lt_of_lt_of_le (h.dl x hx) hg.size⟩
theorem SM.addR {sb gp gm : Nat} {lv : Value} {rv : Nat → Value} {w2 : World} {v' : Value} {q n : Nat} {l : List Rcd} (h : SM D w sb gp gm lv rv S) (hq : q < S.np) (hg : w.grownBy w2 (rv q).ownBlock)
  (ho : w2.ownsRow 0 43 2 v' n (flatR l)) (hat : v'.ownBlock = (rv q).ownBlock ∨ v'.ownBlock = some w.heap.size) :
  SM (fun x => D x ∨ v'.ownBlock = some x) (w2.setCell ⟨gp, q * 2, none⟩ v') sb gp gm lv (upd rv q v') { S with logs := upd S.logs q l } := by
 have hn : n = l.length := by have := ho.1; rw [flatR_len] at this; omega
 subst hn;have hb : ∀ x, D x → (rv q).ownBlock ≠ some x → w2.heap[x]? = w.heap[x]? := fun x hx hne => hg.block x (h.dl x hx) (fun e => hne e.symm);have hs : ∀ x, x ≠ gp → (w2.setCell ⟨gp, q * 2, none⟩ v').heap[x]? = w2.heap[x]? := fun x hx => Below.heap_setCell w2 _ _ x hx;have nsb : (rv q).ownBlock ≠ some sb := fun e => (h.a4 q _ hq e).1 rfl;have ngp : (rv q).ownBlock ≠ some gp := fun e => (h.a4 q _ hq e).2.1 rfl;have ngm : (rv q).ownBlock ≠ some gm := fun e => (h.a4 q _ hq e).2.2.1 rfl;have fresh : ∀ x, D x → x ≠ w.heap.size := fun x hx => by have := h.dl x hx; omega
 have vx : ∀ x, v'.ownBlock = some x → (x ≠ sb ∧ x ≠ gp ∧ x ≠ gm ∧ lv.ownBlock ≠ some x) ∧ (∀ p, p < S.np → p ≠ q → (rv p).ownBlock ≠ some x) := by
  intro x hx;rcases hat with e | e
  ·rw [e] at hx;exact ⟨h.a4 q x hq hx, fun p hp hpq => h.a6 q p x hq hp (fun e => hpq e.symm) hx⟩
  ·rw [hx] at e;have hxs : x = w.heap.size := by simpa using e
   exact ⟨⟨fun e => fresh sb h.d1.1 (by omega), fun e => fresh gp h.d1.2.1 (by omega), fun e => fresh gm h.d1.2.2 (by omega), fun e => fresh x (h.d3 x e) hxs⟩, fun p hp _ e => fresh x (h.d2 p x hp e) hxs⟩
 obtain ⟨cur, p1, p2, p3⟩ := h.part
 refine ⟨by rw [hs _ h.a1, hb _ h.d1.1 nsb]; exact h.head, ⟨cur.setIfInBounds (q * 2) v', ?_, by simpa using p2, fun p hp => ⟨?_, ?_⟩⟩, h.keys.kept (by rw [hs _ h.a3.symm, hb _ h.d1.2.2 ngm]), h.list.keep (fun x hx => by rw [hs x (h.a5 x hx).2.1, hb x (h.d3 x hx) (fun e => (h.a4 q x hq e).2.2.2 hx)]), fun p hp => ?_,
  h.a1, h.a2, h.a3, fun p x hp hx => ?_, h.a5, fun p p' x hp hp' hne hx => ?_, ⟨.inl h.d1.1, .inl h.d1.2.1, .inl h.d1.2.2⟩, fun p x hp hx => ?_, fun x hx => .inl (h.d3 x hx), fun x hx => ?_⟩
 ·rw [Sort.setCell_eq];have : w2.heap[gp]? = some (.cells cur 87 (0, 0)) := by rw [hb _ h.d1.2.1 ngp]; exact p1
  simp [Sort.mapBlock, Array.getElem?_modify, this, Sort.onCells]
 ·show _ = some (upd rv q v' p);by_cases e : p = q
  ·subst e;rw [Array.getElem?_setIfInBounds, if_pos rfl, if_pos (by rw [p2]; omega), upd_same]
  ·rw [Array.getElem?_setIfInBounds, if_neg (by omega), upd_other _ _ e]; exact (p3 p hp).1
 ·rw [Array.getElem?_setIfInBounds, if_neg (by omega)]; exact (p3 p hp).2
 ·show (w2.setCell ⟨gp, q * 2, none⟩ v').ownsRow 0 _ 2 (upd rv q v' p) (upd S.logs q l p).length (flatR (upd S.logs q l p));by_cases e : p = q
  ·subst e;rw [upd_same, upd_same];exact row_keep ho (fun x hx => hs x (vx x hx).1.2.1)
  ·rw [upd_other _ _ e, upd_other _ _ e];exact row_keep (h.rows p hp) (fun x hx => by rw [hs x (h.a4 p x hp hx).2.1, hb x (h.d2 p x hp hx) (h.a6 p q x hp hq e hx)])
 ·change (upd rv q v' p).ownBlock = some x at hx;by_cases e : p = q
  ·subst e; rw [upd_same] at hx; exact (vx x hx).1
  ·rw [upd_other _ _ e] at hx; exact h.a4 p x hp hx
 ·change (upd rv q v' p).ownBlock = some x at hx;show (upd rv q v' p').ownBlock ≠ some x;by_cases e : p = q
  ·subst e;rw [upd_same] at hx;rw [upd_other _ _ (fun e => hne e.symm)];exact (vx x hx).2 p' hp' (fun e => hne e.symm)
  ·rw [upd_other _ _ e] at hx;by_cases e' : p' = q
   ·subst e';rw [upd_same];exact fun e2 => (vx x e2).2 p hp e hx
   ·rw [upd_other _ _ e']; exact h.a6 p p' x hp hp' hne hx
 ·change (upd rv q v' p).ownBlock = some x at hx;by_cases e : p = q
  ·subst e; rw [upd_same] at hx; exact .inr hx
  ·rw [upd_other _ _ e] at hx; exact .inl (h.d2 p x hp hx)
 ·have h2 := hg.size
  have : x < w2.heap.size := by
   rcases hx with hx | hx
   ·have := h.dl x hx; omega
   ·exact (ho.lt x hx).2
  simpa [go_sem] using this
theorem ok_add (h : S.ok) {q : Nat} {r : Rcd} (hq : q < S.np) (hl : ¬ 256 ≤ (S.logs q).length) (hr : r.ok) {ks : List Nat}
  (hk : ((runS S.list r).1 = 1 ∧ ks = insK (runS S.list r).2.k S.keys ∧ ((runS S.list r).2.k ∈ S.keys ∨ S.keys.length < 64)) ∨ ((runS S.list r).1 ≠ 1 ∧ ks = S.keys)) : (addS S q r ks).ok := by
 have hkb := (runS_ok S.list hr).1;refine ⟨h.np1, h.np4, h.chk, h.lok, fun p => ?_, fun p x hx => ?_, ?_, ?_, ?_, fun k => ?_⟩
 ·show (upd S.logs q (S.logs q ++ [r]) p).length ≤ 256;by_cases e : p = q
  ·subst e; rw [upd_same]; simp; omega
  ·rw [upd_other _ _ e]; exact h.len p
 ·change x ∈ upd S.logs q (S.logs q ++ [r]) p at hx;by_cases e : p = q
  ·subst e;rw [upd_same] at hx;rcases List.mem_append.1 hx with hx | hx
   ·exact h.rok p x hx
   ·simp at hx; subst hx; exact hr
  ·rw [upd_other _ _ e] at hx; exact h.rok p x hx
 ·show ks.length ≤ 64;rcases hk with ⟨_, rfl, hm⟩ | ⟨_, rfl⟩
  ·by_cases hm' : (runS S.list r).2.k ∈ S.keys
   ·rw [insK_old h.kr hm']; exact h.kl
   ·rw [insK_len hm'];rcases hm with hm | hm
    ·exact absurd hm hm'
    ·omega
  ·exact h.kl
 ·show RiseK ks;rcases hk with ⟨_, rfl, _⟩ | ⟨_, rfl⟩
  ·exact rise_insK h.kr
  ·exact h.kr
 ·show ∀ k ∈ ks, k < 18446744073709551616;rcases hk with ⟨_, rfl, _⟩ | ⟨_, rfl⟩
  ·intro k hk;rcases mem_insK.1 hk with rfl | hk
   ·exact hkb
   ·exact h.kb k hk
  ·exact h.kb
 ·show k ∈ ks ↔ ∃ p, p < S.np ∧ ∃ x ∈ upd S.logs q (S.logs q ++ [r]) p, (runS S.list x).1 = 1 ∧ (runS S.list x).2.k = k
  have key : (∃ p, p < S.np ∧ ∃ x ∈ upd S.logs q (S.logs q ++ [r]) p, (runS S.list x).1 = 1 ∧ (runS S.list x).2.k = k) ↔ ((runS S.list r).1 = 1 ∧ (runS S.list r).2.k = k) ∨ k ∈ S.keys := by
   rw [h.mem k];constructor
   ·rintro ⟨p, hp, x, hx, h1, h2⟩;by_cases e : p = q
    ·subst e;rw [upd_same] at hx;rcases List.mem_append.1 hx with hx | hx
     ·exact .inr ⟨p, hp, x, hx, h1, h2⟩
     ·simp at hx; subst hx; exact .inl ⟨h1, h2⟩
    ·rw [upd_other _ _ e] at hx; exact .inr ⟨p, hp, x, hx, h1, h2⟩
   ·rintro (⟨h1, h2⟩ | ⟨p, hp, x, hx, h1, h2⟩)
    ·exact ⟨q, hq, r, by rw [upd_same]; simp, h1, h2⟩
    ·refine ⟨p, hp, x, ?_, h1, h2⟩;by_cases e : p = q
     ·subst e; rw [upd_same]; exact List.mem_append_left _ hx
     ·rw [upd_other _ _ e]; exact hx
  rw [key];rcases hk with ⟨h1, rfl, _⟩ | ⟨h1, rfl⟩
  ·rw [mem_insK];constructor
   ·rintro (h | h)
    ·exact .inl ⟨h1, h.symm⟩
    ·exact .inr h
   ·rintro (⟨_, h⟩ | h)
    ·exact .inl h.symm
    ·exact .inr h
  ·constructor
   ·exact .inr
   ·rintro (⟨h, _⟩ | h)
    ·exact absurd h h1
    ·exact h
theorem step_app_own {P : Program} {ops : Array Oper} {o : Oper} {a : Act} {w : World} {K : Act → World → Prop} {Q : Exit → Act → World → Prop} {E : Prop}
  (hg : o.guard = none) (s x : Operand) (t : TypeId) (hop : o.op = Op.call { callee := Callee.builtin Builtin.append, args := #[s, x], argTypes := #[t, t] })
  (e : TypeId) (h1 : P.underlying t = some (.slice e)) (hinf : (P.info? e).map (fun i => (i.zero, i.size, i.bytes)) = some (some (.agg #[.int .u64 0, .float .f64 0]), 2, 16))
  (v : Value) (n : Nat) (m : List Rcd) (hs : a.eval s = v) (hown : w.ownsRow 0 e 2 v n (flatR m))
  (q : Nat) (r : Rcd) (hx : a.eval x = .slice (some ⟨q, 0, none⟩) 1 1) (h0 : w.cell? ⟨q, 0, none⟩ = some (.int .u64 r.k)) (h2 : w.cell? ⟨q, 1, none⟩ = some (.float .f64 r.x)) (hn : n ≤ 1000000)
  (hK : ∀ v' w', w'.ownsRow 0 e 2 v' (n + 1) (flatR (m ++ [r])) → w.grownBy w' v.ownBlock → (v'.ownBlock = v.ownBlock ∨ v'.ownBlock = some w.heap.size) → K (a.put o.dst v') w') :
  if Region.wanted o (yielded ops a.tmps) = true then Oper.wp P o a w K Q else E := by
 have hw : Region.wanted o (yielded ops a.tmps) = true := by simp [Region.wanted, hg]
 rw [if_pos hw];obtain ⟨i0, hi, hz0, hz1, hz2⟩ := info_partsV hinf;obtain ⟨v', w', hrun, r1, r2, _, r4⟩ := run_append_own_at (P := P) w 0 t o.type e i0 (.agg #[.int .u64 0, .float .f64 0]) 2 16 h1 hi hz0 hz1 hz2 rfl (by decide) v n (flatR m) hown ⟨q, 0, none⟩ 1 1 [.int .u64 r.k, .float .f64 r.x] rfl (one_cells h0 h2) (fun u hu => by simp at hu; rcases hu with rfl | rfl <;> rfl) (by simp only [maxLen]; omega) (by omega) (Nat.zero_le _);unfold Oper.wp;simp [execOp, hop, resolve, invoke, builtin, hs, hx, hrun, Result.andThen];exact hK v' w' (by rw [flatR_snoc]; exact r1) r2 r4
end
end
section
open Ieee Go.RowKit

attribute [local go_sem] run_store_float
section

variable {D : Nat → Prop} {w : World} {v : Value} {S : Sc}

def Pr6 (D : Nat → Prop) (w : World) (v : Value) (S : Sc) (p : Int) (r : Rcd) (e : Ending) (w' : World) : Prop :=
 e = .returned (.int .i64 (prodS S p r).1) ∧ (∃ D', Src D' w' v (prodS S p r).2 ∧ Ch D w w' ∧ ∀ b, D' b → D b ∨ w.heap.size ≤ b) ∧ ((prodS S p r).1 ≠ 0 → Below w.heap.size w w')
theorem pr6_same {p : Int} {r : Rcd} {w' : World} {c : Int} (h : Src D w v S) (hp : prodS S p r = (c, S)) (hb : Below w.heap.size w w') : Pr6 D w v S p r (.returned (.int .i64 c)) w' := by
 unfold Pr6;rw [hp];exact ⟨rfl, ⟨D, h.below hb, Ch.of_below hb, fun b hb => .inl hb⟩, fun _ => hb⟩
theorem pr6_add {q : Nat} {r : Rcd} {w1 w2 : World} {v' : Value} {sb gp gm : Nat} {lv : Value} {rv : Nat → Value} {ks : List Nat} (hq : q < S.np) (hl : ¬ 256 ≤ (S.logs q).length) (hr : r.ok) (hok : S.ok) (hv : v = .pointer (some ⟨sb, 0, none⟩))
  (hk : ((runS S.list r).1 = 1 ∧ ks = insK (runS S.list r).2.k S.keys ∧ ((runS S.list r).2.k ∈ S.keys ∨ S.keys.length < 64)) ∨ ((runS S.list r).1 ≠ 1 ∧ ks = S.keys))
  (hc : Ch D w w1) (hs : SM D w1 sb gp gm lv rv { S with keys := ks }) (ho : w2.ownsRow 0 43 2 v' ((S.logs q).length + 1) (flatR (S.logs q ++ [r]))) (hg : w1.grownBy w2 (rv q).ownBlock) (hat : v'.ownBlock = (rv q).ownBlock ∨ v'.ownBlock = some w1.heap.size) :
  Pr6 D w v S q r (.returned (.int .i64 0)) (w2.setCell ⟨gp, q * 2, none⟩ v') := by
 have hh : hasS S q := ⟨by omega, by omega⟩
 have hp : prodS S q r = (0, addS S q r ks) := by
  unfold prodS;rw [if_pos hh, if_neg (by simpa using hl)];rcases hk with ⟨h1, rfl, h2⟩ | ⟨h1, rfl⟩
  ·rw [if_pos h1, if_pos h2]; rfl
  ·rw [if_neg h1]; rfl
 have hm := hs.addR hq hg ho hat;unfold Pr6;rw [hp];refine ⟨rfl, ⟨_, ⟨sb, gp, gm, lv, _, hv, hm, ok_add hok hq hl hr hk⟩, ?_, ?_⟩, fun h => absurd rfl h⟩
 ·have h1 : Ch (fun x => D x) w1 w2 := Ch.of_grown hg (fun x hx => hs.d2 q x hq hx);have h2 : Ch (fun x => D x) w2 (w2.setCell ⟨gp, q * 2, none⟩ v') := Ch.of_grown (grown_set w2 gp _ _) (fun x hx => by cases hx; exact hs.d1.2.1);exact (hc.trans h1 (fun x hx => .inl hx)).trans h2 (fun x hx => .inl hx)
 ·rintro b (hb | hb)
  ·exact .inl hb
  ·rcases hat with e | e
   ·rw [e] at hb; exact .inl (hs.d2 q b hq hb)
   ·rw [hb] at e; simp at e; have := hc.size; right; omega
theorem below_alloc_drew1 (w : World) (o : Obj) : Below w.heap.size w (w.alloc o).drew := (below_alloc w o).drew
theorem after_app {w w7 : World} {o : Obj} {x : Option Nat} {g i : Nat} {u : Value} (h : (w.alloc o).drew.grownBy w7 x) (hl : g < w.heap.size) (hx : x ≠ some g) (hc : w.cell? ⟨g, i, none⟩ = some u) : w7.cell? ⟨g, i, none⟩ = some u := by
 have hb : w7.heap[g]? = w.heap[g]? := by
  rw [h.block g (Nat.lt_of_lt_of_le hl (below_alloc_drew1 w o).size) (fun e => hx e.symm)];exact (below_alloc_drew1 w o).block g hl
 rw [World.cell?_of_block (w := w) (a := ⟨g, i, none⟩) hb]; exact hc
theorem after_app' {w w7 : World} {o : Obj} {x : Option Nat} {g i : Nat} (h : (w.alloc o).drew.grownBy w7 x) (hl : g < w.heap.size) (hx : x ≠ some g) (hc : w.frozen? ⟨g, i, none⟩ = false) : w7.frozen? ⟨g, i, none⟩ = false := by
 have hb : w7.heap[g]? = w.heap[g]? := by
  rw [h.block g (Nat.lt_of_lt_of_le hl (below_alloc_drew1 w o).size) (fun e => hx e.symm)];exact (below_alloc_drew1 w o).block g hl
 rw [World.frozen?_of_block (w := w) (a := ⟨g, i, none⟩) hb]; exact hc
def KsOk (S : Sc) (r : Rcd) (ks : List Nat) : Prop := ((runS S.list r).1 = 1 ∧ ks = insK (runS S.list r).2.k S.keys ∧ ((runS S.list r).2.k ∈ S.keys ∨ S.keys.length < 64)) ∨ ((runS S.list r).1 ≠ 1 ∧ ks = S.keys)
theorem pr6_app {q : Nat} {r : Rcd} {w1 w2 : World} {v' : Value} {sb gp gm : Nat} {lv : Value} {rv : Nat → Value} {ks : List Nat} {o : Obj} (hq : q < S.np) (hl : ¬ 256 ≤ (S.logs q).length) (hr : r.ok) (hok : S.ok) (hv : v = .pointer (some ⟨sb, 0, none⟩))
  (hk : KsOk S r ks)
  (hc : Ch D w w1) (hs : SM D w1 sb gp gm lv rv { S with keys := ks }) (ho : w2.ownsRow 0 43 2 v' ((S.logs q).length + 1) (flatR (S.logs q ++ [r]))) (hg : (w1.alloc o).drew.grownBy w2 (rv q).ownBlock) (hat : v'.ownBlock = (rv q).ownBlock ∨ v'.ownBlock = some (w1.alloc o).drew.heap.size) :
  Pr6 D w v S q r (.returned (.int .i64 0)) (w2.setCell ⟨gp, q * 2, none⟩ v') := by
 have hb : Below w1.heap.size w1 (w1.alloc o).drew := below_alloc_drew1 w1 o;exact pr6_add hq hl hr hok hv hk (hc.trans (Ch.of_below (D := D) hb) (fun x hx => .inl hx)) (hs.below hb) ho hg hat
theorem produce_walk (h : Src D w v S) (p : Int) {r : Rcd} (hr : r.ok) : Calls Tryz.prog 12 #[v, .int .i64 p, .agg #[.int .u64 r.k, .float .f64 r.x]] w fun e w' => Pr6 D w v S p r e w' := by
 have HW : Hid (Src D w v S) := h;obtain ⟨sb, gp, gm, lv, rv, rfl, h, hok⟩ := h;have HS := hidH h;have HK : Hid S.ok := hok;have HRK : Hid r.ok := hr;clear h hok hr;by_cases hh : hasS S p
 ·obtain ⟨q, rfl, hq⟩ := has_nat hh;obtain ⟨n, hn⟩ : ∃ n, n = (S.logs q).length := ⟨_, rfl⟩;have HN : Hid (n = (S.logs q).length) := hn;obtain ⟨ao, cap, hrv, _⟩ := row_form (HS.out.rows q hq);rw [← hn] at hrv;have HRV : Hid (rv q = .slice ao n cap) := hrv;have hn256 : n ≤ 256 := by rw [hn]; exact HK.out.len q
  obtain ⟨w0, hw0⟩ : ∃ w0, w0 = w.alloc (Obj.cells #[.int .u64 r.k, .float .f64 r.x] 43) := ⟨_, rfl⟩;have HB0 : Hid (Below w.heap.size w w0) := by show Below _ _ _; rw [hw0]; exact below_alloc _ _
  have HS0 := hidH (HS.out.below HB0.out);have k0 : w0.cell? ⟨w.heap.size, 0, none⟩ = some (.int .u64 r.k) := by rw [hw0]; simp [go_sem]
  have k1 : w0.cell? ⟨w.heap.size, 1, none⟩ = some (.float .f64 r.x) := by rw [hw0]; simp [go_sem]
  have p0 : w0.cell? ⟨gp, q * 2, none⟩ = some (.slice ao n cap) := by rw [HS0.out.p0 hq, hrv]
  have c0 := HS0.out.c0;have HZ : Hid (w.heap.size < w0.heap.size) := by show _ < _; rw [hw0]; simp
  have HW0 : Hid (w0 = w.alloc (Obj.cells #[.int .u64 r.k, .float .f64 r.x] 43)) := hw0;clear hn hrv hh hw0;by_cases hfull : 256 ≤ n
  ·have HP : Hid (prodS S q r = (61, S)) := by
    show _ = _;unfold prodS;rw [if_pos ⟨by omega, by omega⟩, if_pos (by rw [HN.out] at hfull; simpa using hfull)]
   go_in;go_wp2_with fail;rw [← HW0.out];refine (part_ok HS0.out HK.out hq).mono ?_;rintro e w9 ⟨rfl, h9⟩;replace h9 := h9.symm;subst h9;go_wp2_with fail;go_ret;exact pr6_same HW.out HP.out HB0.out
  ·obtain ⟨R, hR⟩ : ∃ R, R = runS S.list r := ⟨_, rfl⟩;have HR : Hid (R = runS S.list r) := hR;have HKO : Hid (R.2.k < 18446744073709551616) := by show _ < _; rw [hR]; exact (runS_ok S.list HRK.out).1
   have HF : Hid (¬ 256 ≤ (S.logs q).length) := by show ¬ _; rw [← HN.out]; exact hfull
   clear hR;go_in;go_wp2_with fail;rw [← HW0.out];refine (part_ok HS0.out HK.out hq).mono ?_;rintro e w9 ⟨rfl, h9⟩;replace h9 := h9.symm;subst h9;have j0 : ∀ wx, Below w0.heap.size w0 wx → wx.cell? ⟨w.heap.size, 0, none⟩ = some (.int .u64 r.k) := fun wx hb => by rw [hb.cell (p := ⟨w.heap.size, 0, none⟩) HZ.out]; exact k0
   have j1 : ∀ wx, Below w0.heap.size w0 wx → wx.cell? ⟨w.heap.size, 1, none⟩ = some (.float .f64 r.x) := fun wx hb => by rw [hb.cell (p := ⟨w.heap.size, 1, none⟩) HZ.out]; exact k1
   have j2 : ∀ wx, Below w0.heap.size w0 wx → wx.cell? ⟨sb, 0, none⟩ = some lv := fun wx hb => (HS0.out.below hb).c0;go_wp2_with fail;go_cut [9, 10] (fun kv bv wx => kv = .int .u64 R.2.k ∧ bv = .bool (R.1 == 1) ∧ Below w0.heap.size w0 wx)
   case first =>
    go_region_held3 (fun wx => Below w0.heap.size w0 wx) (first | assumption | exact (Below.refl _ _).drew)
     (first | (go_at_call 38; refine (key_walk r HRK.out ((HS0.out.below (by assumption)).list)).mono ?_; rw [← HR.out]; rintro e w5 ⟨rfl, hB3⟩; have hS3 : Below w0.heap.size w0 w5 := below_trans (by assumption) hB3))
    all_goals go_wp2_with fail
    all_goals go_meet
    all_goals exact ⟨rfl, rfl, by assumption⟩
   case rest =>
    obtain ⟨rfl, rfl, hBc⟩ := hcut;have HB1 := hidH (below_trans HB0.out hBc);have HS1 := hidH (HS0.out.below hBc);have x0 := j0 wc hBc;have x1 := j1 wc hBc;have HXL : Hid (w.heap.size < wc.heap.size) := Nat.lt_of_lt_of_le HZ.out hBc.size;clear j0 j1 j2 k0 k1 p0 c0 hBc;by_cases hf : R.1 = 1
    ·have hfb : (R.1 == 1) = true := by simp [hf]
     have HFR : Hid ((runS S.list r).1 = 1) := by show _ = _; rw [← HR.out]; exact hf
     rw [hfb];clear hf hfb;go_wp2_with fail;refine (takes_walk HS1.out HKO.out).mono ?_;rintro e w2 ⟨rfl, hB2⟩;by_cases ht : R.2.k ∈ S.keys ∨ S.keys.length < 64
     ·rw [decide_eq_true ht];have HS2 := hidH (HS1.out.below hB2);have y0 : w2.cell? ⟨w.heap.size, 0, none⟩ = some (.int .u64 r.k) := by rw [hB2.cell (p := ⟨w.heap.size, 0, none⟩) HXL.out]; exact x0
      have y1 : w2.cell? ⟨w.heap.size, 1, none⟩ = some (.float .f64 r.x) := by rw [hB2.cell (p := ⟨w.heap.size, 1, none⟩) HXL.out]; exact x1
      have HB2 := hidH (below_trans HB1.out hB2);have c2 := HS2.out.c2;have HKT := hidH ht;have HL2 : Hid (w.heap.size < w2.heap.size) := Nat.lt_of_lt_of_le HXL.out hB2.size;clear x0 x1 hB2 ht;go_wp2_with (at_mapUpdate; refine wpList_mapUpdate_own _ rfl _ _ _ 82 rfl 40 105 law_k Tryz.underlying82 unitElem gm S.keys.length (dK S.keys) rfl HS2.out.keys (by have := HK.out.kl; simp only [maxLen]; omega) _ _ (kK R.2.k) rfl rfl (key_k HKO.out) (.agg []) [] unitElem_mk ?_; intro w3 hown3 hg3; go_frame);rw [put_K HK.out.kr] at hown3;have HX : Hid (SM D w3 sb gp gm lv rv { S with keys := insK R.2.k S.keys }) := HS2.out.addK hg3 (ks_tight hown3);have HCH : Hid (Ch D w w3) := (Ch.of_below HB2.out).trans (Ch.of_grown (D := D) hg3 (fun x hx => by cases hx; exact HS2.out.d1.2.2)) (fun x hx => .inl hx);have hgmn : w.heap.size ≠ gm := by have := HS.out.dl gm HS.out.d1.2.2; omega
      have x0 : w3.cell? ⟨w.heap.size, 0, none⟩ = some (.int .u64 r.k) := hg3.cell y0 (by simpa using hgmn);have x1 : w3.cell? ⟨w.heap.size, 1, none⟩ = some (.float .f64 r.x) := hg3.cell y1 (by simpa using hgmn)
      have HKS : Hid (KsOk S r (insK R.2.k S.keys)) := by
       refine .inl ⟨HFR.out, ?_, ?_⟩
       ·rw [HR.out]
       ·rw [← HR.out]; exact HKT.out
      clear hown3 hg3 y0 y1 c2 hgmn;have xp : w3.cell? ⟨gp, q * 2, none⟩ = some (.slice ao n cap) := by rw [HX.out.p0 hq, HRV.out]
      have xf := HX.out.soft (q * 2);have xp' : ∀ o, (w3.alloc o).cell? ⟨gp, q * 2, none⟩ = some (.slice ao n cap) := fun o => by rw [(HX.out.below (below_alloc w3 o)).p0 hq, HRV.out]
      have y0' : ∀ o, (w3.alloc o).cell? ⟨w.heap.size, 0, none⟩ = some (.int .u64 r.k) := fun o => by rw [(below_alloc w3 o).cell (p := ⟨w.heap.size, 0, none⟩) (cell_lt x0)]; exact x0
      have y1' : ∀ o, (w3.alloc o).cell? ⟨w.heap.size, 1, none⟩ = some (.float .f64 r.x) := fun o => by rw [(below_alloc w3 o).cell (p := ⟨w.heap.size, 1, none⟩) (cell_lt x1)]; exact x1
      have HOW : Hid (w3.ownsRow 0 43 2 (.slice ao n cap) n (flatR (S.logs q))) := by have := HX.out.rows q hq; rw [HRV.out, ← HN.out] at this; exact this
      have HGL : Hid (gp < w3.heap.size) := HX.out.dl gp HX.out.d1.2.1;have HNG : Hid ((Value.slice ao n cap).ownBlock ≠ some gp) := by show _ ≠ _; rw [← HRV.out]; exact fun e => (HX.out.a4 q gp hq e).2.1 rfl
      go_wp2_with fail;go_region_law (refine step_app_own rfl (.tmp 50) (.tmp 52) 85 rfl 43 Tryz.underlying85 info_rec (.slice ao n cap) n (S.logs q) (by simp [Act.eval]) (show World.ownsRow (w3.alloc (Obj.cells #[.int .u64 r.k, .float .f64 r.x] 43)) 0 _ 2 _ n _ from HOW.out.alloc _) w3.heap.size r (by simp [Act.eval]) (by simp [go_sem]) (by simp [go_sem]) (by omega) ?_; intro v' w7 g1 g2 g3; obtain ⟨ao', cap', hv', _⟩ := row_form g1; subst hv'; have z0 : w7.cell? ⟨gp, q * 2, none⟩ = some (.slice ao n cap) := after_app g2 HGL.out HNG.out xp; have z1 : w7.frozen? ⟨gp, q * 2, none⟩ = false := after_app' g2 HGL.out HNG.out xf);all_goals go_wp2_with fail
      all_goals go_ret
      all_goals exact pr6_app (ks := insK R.2.k S.keys) hq HF.out HRK.out HK.out rfl HKS.out HCH.out HX.out (by rw [← HN.out]; exact g1) (by rw [HRV.out]; exact g2) (by rw [HRV.out]; exact g3)
     ·rw [decide_eq_false ht]
      have HP : Hid (prodS S q r = (62, S)) := by
       show _ = _;unfold prodS;rw [if_pos ⟨by omega, by omega⟩, if_neg (by simpa using HF.out), if_pos HFR.out, if_neg (by rw [← HR.out]; exact ht)]
      have HB2 := hidH (below_trans HB1.out hB2);clear ht hB2;go_wp2_with fail;go_ret;exact pr6_same HW.out HP.out HB2.out
    ·have hfb : (R.1 == 1) = false := by simpa using hf
     have HX : Hid (SM D wc sb gp gm lv rv { S with keys := S.keys }) := HS1.out;have HCH : Hid (Ch D w wc) := Ch.of_below HB1.out;have HKS : Hid (KsOk S r S.keys) := .inr ⟨by rw [← HR.out]; exact hf, rfl⟩;rw [hfb];clear hf hfb;have xp : wc.cell? ⟨gp, q * 2, none⟩ = some (.slice ao n cap) := by rw [HX.out.p0 hq, HRV.out]
     have xf := HX.out.soft (q * 2);have xp' : ∀ o, (wc.alloc o).cell? ⟨gp, q * 2, none⟩ = some (.slice ao n cap) := fun o => by rw [(HX.out.below (below_alloc wc o)).p0 hq, HRV.out]
     have y0' : ∀ o, (wc.alloc o).cell? ⟨w.heap.size, 0, none⟩ = some (.int .u64 r.k) := fun o => by rw [(below_alloc wc o).cell (p := ⟨w.heap.size, 0, none⟩) (cell_lt x0)]; exact x0
     have y1' : ∀ o, (wc.alloc o).cell? ⟨w.heap.size, 1, none⟩ = some (.float .f64 r.x) := fun o => by rw [(below_alloc wc o).cell (p := ⟨w.heap.size, 1, none⟩) (cell_lt x1)]; exact x1
     have HOW : Hid (wc.ownsRow 0 43 2 (.slice ao n cap) n (flatR (S.logs q))) := by have := HX.out.rows q hq; rw [HRV.out, ← HN.out] at this; exact this
     have HGL : Hid (gp < wc.heap.size) := HX.out.dl gp HX.out.d1.2.1;have HNG : Hid ((Value.slice ao n cap).ownBlock ≠ some gp) := by show _ ≠ _; rw [← HRV.out]; exact fun e => (HX.out.a4 q gp hq e).2.1 rfl
     go_wp2_with fail;go_region_law (refine step_app_own rfl (.tmp 50) (.tmp 52) 85 rfl 43 Tryz.underlying85 info_rec (.slice ao n cap) n (S.logs q) (by simp [Act.eval]) (show World.ownsRow (wc.alloc (Obj.cells #[.int .u64 r.k, .float .f64 r.x] 43)) 0 _ 2 _ n _ from HOW.out.alloc _) wc.heap.size r (by simp [Act.eval]) (by simp [go_sem]) (by simp [go_sem]) (by omega) ?_; intro v' w7 g1 g2 g3; obtain ⟨ao', cap', hv', _⟩ := row_form g1; subst hv'; have z0 : w7.cell? ⟨gp, q * 2, none⟩ = some (.slice ao n cap) := after_app g2 HGL.out HNG.out xp; have z1 : w7.frozen? ⟨gp, q * 2, none⟩ = false := after_app' g2 HGL.out HNG.out xf);all_goals go_wp2_with fail
     all_goals go_ret
     all_goals exact pr6_app (ks := S.keys) hq HF.out HRK.out HK.out rfl HKS.out HCH.out HX.out (by rw [← HN.out]; exact g1) (by rw [HRV.out]; exact g2) (by rw [HRV.out]; exact g3)
 ·have HP : Hid (prodS S p r = (60, S)) := by show _ = _; unfold prodS; rw [if_neg hh]
  have HN : Hid (p < 0 ∨ (S.np : Int) ≤ p) := not_has hh;have HB0 : Hid (Below w.heap.size w (w.alloc (Obj.cells #[.int .u64 r.k, .float .f64 r.x] 43))) := below_alloc _ _;clear hh;go_in;go_wp2_with (go_at_call 37; refine (part_no (HS.out.below HB0.out) HK.out HN.out).mono ?_; rintro e w9 ⟨rfl, h9⟩; have h9 := h9.symm; subst h9);go_ret;exact pr6_same HW.out HP.out HB0.out
end
end
end Go.Proofs.YtombjgfajbhbbaaGreat
