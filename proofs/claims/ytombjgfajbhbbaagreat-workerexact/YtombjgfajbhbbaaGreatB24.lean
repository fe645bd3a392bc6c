/- Messages in memory, rows of messages. -/
import Derived.Test.YtombjgfajbhbbaaGreatB23
set_option maxRecDepth 100000
set_option maxHeartbeats 16000000
namespace Go.Proofs.YtombjgfajbhbbaaGreat
open Go.RowKit
section
open Go.RowKit Go.ChangeMaps

theorem own_belowC {w w' : World} {base e size n : Nat} {v : Value} {xs : List Value} (h : w.ownsRow base e size v n xs) (hb : Below w.heap.size w w') : w'.ownsRow base e size v n xs := by
 refine ⟨h.1, ?_⟩;rcases h.2 with h' | ⟨g, cap, cur, hv, hg, hh, r⟩
 ·exact .inl h'
 ·exact .inr ⟨g, cap, cur, hv, hg, by rw [hb.block g ((Array.getElem?_eq_some_iff.1 hh).1)]; exact hh, r⟩
theorem own_baseC {w : World} {base base' e size n : Nat} {v : Value} {xs : List Value} (h : w.ownsRow base e size v n xs) (hb : base' ≤ base) : w.ownsRow base' e size v n xs := by
 refine ⟨h.1, ?_⟩;rcases h.2 with h' | ⟨g, cap, cur, hv, hg, hh, r⟩
 ·exact .inl h'
 ·exact .inr ⟨g, cap, cur, hv, Nat.le_trans hb hg, hh, r⟩
theorem size_allocC (w : World) (o : Obj) : (w.alloc o).heap.size = w.heap.size + 1 := by simp [go_sem]
theorem Ch.self {D : Nat → Prop} {a b c : World} (h : Ch D a b) (k : Ch D b c) : Ch D a c := h.trans k (fun _ hx => .inl hx)
theorem grown_setK (w : World) (g i : Nat) (u : Value) : w.grownBy (w.setCell ⟨g, i, none⟩ u) (some g) :=
 ⟨rfl, rfl, rfl, by simp [go_sem], fun k hk hne => by rw [Below.heap_setCell w _ _ k (by rintro rfl; exact hne rfl)]⟩
theorem ch_set (w : World) (g i : Nat) (u : Value) : Ch (fun x => x = g) w (w.setCell ⟨g, i, none⟩ u) := Ch.of_grown (grown_setK w g i u) (fun x hx => by cases hx; rfl)
theorem Ch.cell {D : Nat → Prop} {w w' : World} {p : Addr} {u : Value} (h : Ch D w w') (hp : w.cell? p = some u) (hd : ¬ D p.block) : w'.cell? p = some u := by
 have := h.block p.block (cell_lt hp) hd;have e : w'.cell? p = w.cell? p := by simp only [World.cell?, this]
 rw [e, hp]
theorem Ch.frozen {D : Nat → Prop} {w w' : World} {x j : Nat} (h : Ch D w w') (hx : x < w.heap.size) (hd : ¬ D x) : w'.frozen? ⟨x, j, none⟩ = w.frozen? ⟨x, j, none⟩ := by
 have := h.block x hx hd;simp only [World.frozen?, this]
theorem Ch.mono {D E : Nat → Prop} {w w' : World} (h : Ch D w w') (k : ∀ x, D x → E x) : Ch E w w' := ⟨h.os, h.tape, h.output, h.size, fun x hx he => h.block x hx (fun hd => he (k x hd))⟩
theorem own_ch {D : Nat → Prop} {w w' : World} {base e s n : Nat} {v : Value} {xs : List Value} (h : w.ownsRow base e s v n xs) (hc : Ch D w w') (hd : ∀ x, v.ownBlock = some x → ¬ D x) : w'.ownsRow base e s v n xs := by
 refine ⟨h.1, ?_⟩;rcases h.2 with h' | ⟨g, cap, cur, hv, hg, hh, r⟩
 ·exact .inl h'
 ·exact .inr ⟨g, cap, cur, hv, hg, by rw [hc.block g ((Array.getElem?_eq_some_iff.1 hh).1) (hd g (by rw [hv]; rfl))]; exact hh, r⟩
theorem own_mapC {D : Nat → Prop} {w w' : World} {b n : Nat} {d : DataW Value} (h : w.ownsMap Tryz.prog 3 heldE b n d) (hc : Ch D w w') (hd : ¬ D b) : w'.ownsMap Tryz.prog 3 heldE b n d := by
 have hl := World.ownsMap.lt h;obtain ⟨es, clock, hb, r⟩ := h;exact ⟨es, clock, by rw [hc.block b hl hd]; exact hb, r⟩
theorem own_mapB {w w' : World} {b n : Nat} {d : DataW Value} (h : w.ownsMap Tryz.prog 3 heldE b n d) (hb : Below w.heap.size w w') : w'.ownsMap Tryz.prog 3 heldE b n d := own_mapC (D := fun _ => False) h (Ch.of_below hb) (fun e => e)
structure Ao (w : World) (p : Pn) (a : At) : Prop where
 blk : w.heap[a.x]? = some (.cells #[.int .i64 a.h.a, a.ev, a.pv, a.av, .bool a.h.g] 116 (0, 0))
 ends : w.ownsRow a.lo 3 1 a.ev a.h.E.length (cellsN a.h.E)
 eok : In64 a.h.E
 prt : ∃ vs, Dl a.lo w a.pv p.n vs (dealF p a.h.T) ∧ ∀ i y, i < p.n → (vs i).ownBlock = some y → y < a.hi
 tok : okT a.h.T
 tl : a.h.T.length ≤ 1024
 el : a.h.E.length ≤ 4
 app : w.ownsRow a.lo 4 1 a.av a.h.A.length (a.h.A.map Value.bool)
 al : a.h.A.length = p.n
 lx : a.lo ≤ a.x ∧ a.x < a.hi
 he : ∀ y, a.ev.ownBlock = some y → y < a.hi
 hp : ∀ y, a.pv.ownBlock = some y → y < a.hi
 ha : ∀ y, a.av.ownBlock = some y → y < a.hi
 hi : a.hi ≤ w.heap.size
 ar : in64 a.h.a
 nr : in64 a.h.n
theorem Ao.ch {D : Nat → Prop} {w w' : World} {p : Pn} {a : At} (h : Ao w p a) (hc : Ch D w w') (hd : ∀ y, a.lo ≤ y → y < a.hi → ¬ D y) : Ao w' p a := by
 obtain ⟨vs, hv, hvy⟩ := h.prt;have hx := hd a.x h.lx.1 h.lx.2;refine ⟨by rw [hc.block a.x (Array.getElem?_eq_some_iff.1 h.blk).1 hx]; exact h.blk, own_ch h.ends hc (fun y hy => hd y (h.ends.lt y hy).1 (h.he y hy)), h.eok, ⟨vs, ⟨own_ch hv.row hc (fun y hy => hd y (hv.row.lt y hy).1 (h.hp y hy)), fun i hi => own_ch (hv.own i hi) hc (fun y hy => hd y ((hv.own i hi).lt y hy).1 (hvy i y hi hy))⟩, hvy⟩, h.tok, h.tl, h.el, own_ch h.app hc (fun y hy => hd y (h.app.lt y hy).1 (h.ha y hy)), h.al, h.lx, h.he, h.hp, h.ha, Nat.le_trans h.hi hc.size, h.ar, h.nr⟩
theorem Ao.below {w w' : World} {p : Pn} {a : At} (h : Ao w p a) (hb : Below w.heap.size w w') : Ao w' p a := h.ch (D := fun _ => False) (Ch.of_below hb) (fun _ _ _ e => e)
def apartA (x y : At) : Prop := x.hi ≤ y.lo ∨ y.hi ≤ x.lo
structure Wm (w : World) (P b : Nat) (ov : Value) (p : Pn) (nd : Int) (L : List At) : Prop where
 blk : w.heap[P]? = some (.cells #[.int .i64 p.P, .int .i64 p.S, .int .i64 p.W, ov, .int .i64 p.A, .int .i64 p.B, .int .i64 p.N, .int .i64 p.G, .int .i64 nd, .map (some b)] 73 (0, 0))
 ops : w.ownsRow 0 80 3 ov p.l.length (flat p.l)
 lok : ∀ o ∈ p.l, o.ok
 is : p.is = true
 nd : 1 ≤ nd ∧ nd ≤ 4
 own : w.ownsMap Tryz.prog 3 heldE b L.length (dA L)
 rise : RiseL kA L
 apart : L.Pairwise apartA
 ent : ∀ x ∈ L, Ao w p x
 off : ∀ x ∈ L, P < x.lo ∧ b < x.lo ∧ ∀ y, ov.ownBlock = some y → y < x.lo
def Bk (P b : Nat) (ov : Value) (L : List At) (x : Nat) : Prop := x = P ∨ x = b ∨ ov.ownBlock = some x ∨ ∃ y ∈ L, y.lo ≤ x ∧ x < y.hi
section

variable {w w' : World} {P b : Nat} {ov : Value} {p : Pn} {nd : Int} {L : List At}

theorem Wm.ltP (h : Wm w P b ov p nd L) : P < w.heap.size := (Array.getElem?_eq_some_iff.1 h.blk).1
theorem Wm.ltb (h : Wm w P b ov p nd L) : b < w.heap.size := World.ownsMap.lt h.own
theorem Wm.pb (h : Wm w P b ov p nd L) : P ≠ b := by
 rintro rfl;obtain ⟨es, clock, hb, r⟩ := h.own;rw [h.blk] at hb
 cases hb
theorem Wm.ob (h : Wm w P b ov p nd L) : ov.ownBlock ≠ some b := by
 intro e;obtain ⟨es, clock, hb, r⟩ := h.own;rcases h.ops.2 with ⟨h1, _⟩ | ⟨g, cap, cur, hv, hg, hh, q⟩
 ·rw [h1] at e; cases e
 ·rw [hv] at e; cases e; rw [hh] at hb; cases hb
theorem Wm.lt (h : Wm w P b ov p nd L) : ∀ x, Bk P b ov L x → x < w.heap.size := by
 rintro x (rfl | rfl | e | ⟨y, hy, h1, h2⟩)
 ·exact h.ltP
 ·exact h.ltb
 ·exact (h.ops.lt x e).2
 ·exact Nat.lt_of_lt_of_le h2 (h.ent y hy).hi
theorem Wm.ch {D : Nat → Prop} (h : Wm w P b ov p nd L) (hc : Ch D w w') (hd : ∀ x, D x → ¬ Bk P b ov L x) : Wm w' P b ov p nd L := by
 have hP : ¬ D P := fun e => hd P e (.inl rfl);have hb : ¬ D b := fun e => hd b e (.inr (.inl rfl))
 exact ⟨by rw [hc.block P h.ltP hP]; exact h.blk, own_ch h.ops hc (fun x hx e => hd x e (.inr (.inr (.inl hx)))), h.lok, h.is, h.nd, own_mapC h.own hc hb, h.rise, h.apart,
  fun x hx => (h.ent x hx).ch hc (fun y h1 h2 e => hd y e (.inr (.inr (.inr ⟨x, hx, h1, h2⟩)))), h.off⟩
theorem Wm.below (h : Wm w P b ov p nd L) (hb : Below w.heap.size w w') : Wm w' P b ov p nd L := h.ch (D := fun _ => False) (Ch.of_below hb) (fun _ e => e.elim)
theorem Wm.cells (h : Wm w P b ov p nd L) : w.cell? ⟨P, 0, none⟩ = some (.int .i64 p.P) ∧ w.cell? ⟨P, 1, none⟩ = some (.int .i64 p.S) ∧ w.cell? ⟨P, 2, none⟩ = some (.int .i64 p.W) ∧ w.cell? ⟨P, 3, none⟩ = some ov ∧ w.cell? ⟨P, 4, none⟩ = some (.int .i64 p.A) ∧ w.cell? ⟨P, 5, none⟩ = some (.int .i64 p.B) ∧ w.cell? ⟨P, 6, none⟩ = some (.int .i64 p.N) ∧ w.cell? ⟨P, 7, none⟩ = some (.int .i64 p.G) ∧ w.cell? ⟨P, 8, none⟩ = some (.int .i64 nd) ∧ w.cell? ⟨P, 9, none⟩ = some (.map (some b)) := by
 refine ⟨?_, ?_, ?_, ?_, ?_, ?_, ?_, ?_, ?_, ?_⟩ <;> (rw [cell_of_row w P _ _ _ (0, 0) h.blk]; rfl)
theorem Ao.cells {a : At} (h : Ao w p a) : w.cell? ⟨a.x, 0, none⟩ = some (.int .i64 a.h.a) ∧ w.cell? ⟨a.x, 1, none⟩ = some a.ev ∧ w.cell? ⟨a.x, 2, none⟩ = some a.pv ∧ w.cell? ⟨a.x, 3, none⟩ = some a.av ∧ w.cell? ⟨a.x, 4, none⟩ = some (.bool a.h.g) := by
 refine ⟨?_, ?_, ?_, ?_, ?_⟩ <;> (rw [cell_of_row w a.x _ _ _ (0, 0) h.blk]; rfl)
theorem Ao.soft {a : At} (h : Ao w p a) (j : Nat) : w.frozen? ⟨a.x, j, none⟩ = false := by simp [World.frozen?, h.blk]
end

theorem own_tight {w : World} {b n : Nat} {L : List At} (h : w.ownsMap Tryz.prog 3 heldE b n (dA L)) : w.ownsMap Tryz.prog 3 heldE b L.length (dA L) := by
 obtain ⟨es, clock, hb, F, hs, hD⟩ := h;refine ⟨es, clock, hb, F, ?_, hD⟩;have h1 := length_read (P := Tryz.prog) (k := 3) (R0 := heldE) es
 have h2 : (L.map entA).length = es.size := by
  unfold dA at hD
  injection hD with e
  rw [e, h1]
 simp at h2;omega
theorem law_i : Maps.Keyed Tryz.prog 3 := Maps.int_keyed Tryz.underlying3
theorem key_i {k : Int} (hk : in64 k) : keyOf Tryz.prog 3 (.int .i64 k) = some (kI k) := by
 refine Maps.keyOf_int_mk Tryz.underlying3 ?_;have := hk.1;have := hk.2;simp [Lit.wf, IntKind.min, IntKind.max, IntKind.signed, IntKind.bits];omega
def lkA (L : List At) (k : Int) : Value := match atK kA L k with | some x => ptA x | none => .pointer none
theorem look_A {w : World} {b n : Nat} {L : List At} (h : w.ownsMap Tryz.prog 3 heldE b n (dA L)) {k : Int} (hk : in64 k) :
  (Instr.lookup 71 (.map (some b)) (.int .i64 k) false).run Tryz.prog w = .ok (lkA L k) w := by
 have hz : (zeroValue 113).run Tryz.prog w = .ok (.pointer none) w := Tryz.zeroValue113 w;obtain ⟨v, ps, hrun, hv⟩ := World.ownsMap.lookup h law_i Tryz.underlying71 hz (show heldE (.pointer none) = some (.held (.pointer none), []) from rfl) (key_i hk);rw [atKey_A] at hv;unfold lkA
 cases hx : atK kA L k <;> rw [hx] at hv <;> simp only [heldE, Option.some.injEq, Prod.mk.injEq, DataW.held.injEq] at hv <;> rw [hv.1] at hrun <;> exact hrun
theorem Wm.turn {w w' : World} {P b : Nat} {ov : Value} {p : Pn} {nd : Int} {L : List At} (h : Wm w P b ov p nd L) {k : Int} {y : At} (hy : atK kA L k = some y) {g : At → At} (hn : ∀ a, kA (g a) = kA a) (hl : ∀ a, (g a).lo = a.lo ∧ (g a).hi = a.hi ∧ (g a).x = a.x) (ho : Ao w' p (g y)) (hc : Ch (fun x => y.lo ≤ x ∧ x < y.hi) w w') : Wm w' P b ov p nd (updK kA L k g) := by
 obtain ⟨hm, hk⟩ := atK_mem hy;have hoff := h.off y hm;have hP : ¬ (y.lo ≤ P ∧ P < y.hi) := by omega
 have hb : ¬ (y.lo ≤ b ∧ b < y.hi) := by omega
 have hd : dA (updK kA L k g) = dA L := by
  unfold dA updK;rw [List.map_map];congr 1;refine List.map_congr_left fun x _ => ?_;simp only [Function.comp]
  split
  ·show (kI (kA (g x)), DataW.held (ptA (g x))) = (kI (kA x), DataW.held (ptA x));rw [hn]; unfold ptA; rw [(hl x).2.2]
  ·rfl
 have hap : ∀ x ∈ L, kA x ≠ k → apartA y x := by
  intro x hx hne;have hne' : x ≠ y := by rintro rfl; exact hne hk
  rcases List.mem_iff_getElem.1 hx with ⟨i, hi, ei⟩;rcases List.mem_iff_getElem.1 hm with ⟨j, hj, ej⟩;have hij : i ≠ j := by rintro rfl; exact hne' (ei.symm.trans ej)
  have hp := List.pairwise_iff_getElem.1 h.apart;rcases Nat.lt_or_gt_of_ne hij with q | q
  ·have := hp i j hi hj q; rw [ei, ej] at this; exact this.symm
  ·have := hp j i hj hi q; rw [ei, ej] at this; exact this
 have huni : ∀ x ∈ L, kA x = k → x = y := by
  intro x hx hxk;rcases List.mem_iff_getElem.1 hx with ⟨i, hi, ei⟩;rcases List.mem_iff_getElem.1 hm with ⟨j, hj, ej⟩;have hp := List.pairwise_iff_getElem.1 h.rise;rcases Nat.lt_trichotomy i j with q | q | q
  ·have := hp i j hi hj q; rw [ei, ej] at this; omega
  ·subst q; exact ei.symm.trans ej
  ·have := hp j i hj hi q; rw [ei, ej] at this; omega
 refine ⟨by rw [hc.block P h.ltP hP]; exact h.blk, own_ch h.ops hc (fun x hx e => by have := hoff.2.2 x hx; omega), h.lok, h.is, h.nd, ?_, ?_, ?_, ?_, ?_⟩
 ·rw [hd, upd_len]; exact own_mapC h.own hc hb
 ·unfold updK RiseL;refine List.pairwise_map.2 (h.rise.imp fun {a c} hac => ?_);have e1 : ∀ a : At, kA (if kA a = k then g a else a) = kA a := fun a => by split; exact hn a; rfl
  rw [e1, e1]; exact hac
 ·unfold updK;refine List.pairwise_map.2 (h.apart.imp fun {a c} hac => ?_);have e1 : ∀ a : At, (if kA a = k then g a else a).lo = a.lo := fun a => by split; exact (hl a).1; rfl
  have e2 : ∀ a : At, (if kA a = k then g a else a).hi = a.hi := fun a => by split; exact (hl a).2.1; rfl
  unfold apartA; rw [e1, e1, e2, e2]; exact hac
 ·intro x hx;obtain ⟨a, ha, rfl⟩ := List.mem_map.1 hx
  split
  ·rename_i q; rw [huni a ha q]; exact ho
  ·rename_i q
   refine (h.ent a ha).ch hc (fun z h1 h2 e => ?_);rcases hap a ha q with r | r <;> omega
 ·intro x hx;obtain ⟨a, ha, rfl⟩ := List.mem_map.1 hx;have := h.off a ha
  split
  ·rw [(hl a).1]; exact this
  ·exact this
theorem bw_turn {P b : Nat} {ov : Value} {L : List At} {k : Int} {g : At → At} (hl : ∀ a, (g a).lo = a.lo ∧ (g a).hi = a.hi ∧ (g a).x = a.x) {x : Nat} (h : Bk P b ov (updK kA L k g) x) : Bk P b ov L x := by
 rcases h with h | h | h | ⟨y, hy, h1, h2⟩
 ·exact .inl h
 ·exact .inr (.inl h)
 ·exact .inr (.inr (.inl h))
 ·obtain ⟨a, ha, rfl⟩ := List.mem_map.1 hy;refine .inr (.inr (.inr ⟨a, ha, ?_⟩))
  split at h1
  ·rename_i q; rw [if_pos q] at h2; rw [(hl a).1] at h1; rw [(hl a).2.1] at h2; exact ⟨h1, h2⟩
  ·rename_i q; rw [if_neg q] at h2; exact ⟨h1, h2⟩
theorem Wm.del {w w' : World} {P b : Nat} {ov : Value} {p : Pn} {nd : Int} {L : List At} (h : Wm w P b ov p nd L) {k : Int} {n : Nat} (ho : w'.ownsMap Tryz.prog 3 heldE b n ((dA L).del (kI k))) (hg : w.grownBy w' (some b)) : Wm w' P b ov p nd (outL kA L k) := by
 have hc : Ch (fun x => x = b) w w' := Ch.of_grown hg (fun x hx => by cases hx; rfl);rw [del_A] at ho;refine ⟨by rw [hc.block P h.ltP h.pb]; exact h.blk, own_ch h.ops hc (fun x hx e => by subst e; exact h.ob hx), h.lok, h.is, h.nd, own_tight ho, out_rise h.rise, List.Pairwise.sublist List.filter_sublist h.apart, fun x hx => ?_, fun x hx => h.off x (out_mem.1 hx).1⟩;have hm := (out_mem.1 hx).1;exact (h.ent x hm).ch hc (fun y h1 h2 e => by have := h.off x hm; omega)
theorem bw_out {P b : Nat} {ov : Value} {L : List At} {k : Int} {x : Nat} (h : Bk P b ov (outL kA L k) x) : Bk P b ov L x := by
 rcases h with h | h | h | ⟨y, hy, h1, h2⟩
 ·exact .inl h
 ·exact .inr (.inl h)
 ·exact .inr (.inr (.inl h))
 ·exact .inr (.inr (.inr ⟨y, (out_mem.1 hy).1, h1, h2⟩))
theorem Wm.put {w w1 w' : World} {P b : Nat} {ov : Value} {p : Pn} {nd : Int} {L : List At} {y : At} {n : Nat} (h : Wm w P b ov p nd L) (hb : Below w.heap.size w w1) (hy : Ao w1 p y) (hlo : w.heap.size ≤ y.lo)
  (ho : w'.ownsMap Tryz.prog 3 heldE b n ((dA L).put (kI y.h.n) (.held (ptA y)))) (hg : w1.grownBy w' (some b)) : Wm w' P b ov p nd (insL kA y (outL kA L y.h.n)) := by
 have hc : Ch (fun x => x = b) w1 w' := Ch.of_grown hg (fun x hx => by cases hx; rfl);have h1 := h.below hb;have hP := h.ltP;have hbl := h.ltb;rw [put_A] at ho;have hr : RiseL kA (outL kA L y.h.n) := out_rise h.rise;refine ⟨by rw [hc.block P h1.ltP h1.pb]; exact h1.blk, own_ch h1.ops hc (fun x hx e => by subst e; exact h.ob hx), h.lok, h.is, h.nd, own_tight ho, ins_rise hr (fun x hx => (out_mem.1 hx).2), ins_any (fun a c hac => hac.symm) (List.Pairwise.sublist List.filter_sublist h.apart) (fun x hx => .inr (Nat.le_trans (h.ent x (out_mem.1 hx).1).hi hlo)), fun x hx => ?_, fun x hx => ?_⟩
 ·rcases ins_mem.1 hx with rfl | hx
  ·exact hy.ch hc (fun z h2 h3 e => by omega)
  ·have hm := (out_mem.1 hx).1;exact (h1.ent x hm).ch hc (fun z h2 h3 e => by have := h.off x hm; omega)
 ·rcases ins_mem.1 hx with rfl | hx
  ·exact ⟨by omega, by omega, fun z hz => by have := (h.ops.lt z hz).2; omega⟩
  ·exact h.off x (out_mem.1 hx).1
theorem bw_put {P b : Nat} {ov : Value} {L : List At} {k : Int} {y : At} {x : Nat} (h : Bk P b ov (insL kA y (outL kA L k)) x) : Bk P b ov L x ∨ (y.lo ≤ x ∧ x < y.hi) := by
 rcases h with h | h | h | ⟨z, hz, h1, h2⟩
 ·exact .inl (.inl h)
 ·exact .inl (.inr (.inl h))
 ·exact .inl (.inr (.inr (.inl h)))
 ·rcases ins_mem.1 hz with rfl | hz
  ·exact .inr ⟨h1, h2⟩
  ·exact .inl (.inr (.inr (.inr ⟨z, (out_mem.1 hz).1, h1, h2⟩)))
end
theorem cell_oth {w : World} {g p q : Nat} {v u : Value} (h : ¬ p = q) (hu : w.cell? ⟨g, q, none⟩ = some u) : (w.setCell ⟨g, p, none⟩ v).cell? ⟨g, q, none⟩ = some u := by
 rw [World.cell?_setCell_other w _ _ v (by rintro ⟨⟩; exact h rfl)]; exact hu
theorem cell_own1 {w : World} {g p : Nat} {v u : Value} (hu : w.cell? ⟨g, p, none⟩ = some u) : (w.setCell ⟨g, p, none⟩ v).cell? ⟨g, p, none⟩ = some v := by simp [go_sem, hu]
theorem Ch.froz {D : Nat → Prop} {w w' : World} {b j : Nat} {u : Value} (hc : Ch D w w') (h0 : w.cell? ⟨b, j, none⟩ = some u) (hd : ¬ D b) (k : Nat) : w'.frozen? ⟨b, k, none⟩ = w.frozen? ⟨b, k, none⟩ := by
 have e := hc.block b (cell_lt h0) hd;unfold World.frozen?;rw [e]
theorem MX.ch {D : Nat → Prop} {w w' : World} {P : Nat} {m : Ms} {ev qv pv : Value} (h : MX w P m ev qv pv) (hc : Ch D w w') (hd : ¬ D P) : MX w' P m ev qv pv :=
 ⟨hc.cell h.c0 hd, hc.cell h.c1 hd, hc.cell h.c2 hd, hc.cell h.c3 hd, hc.cell h.c4 hd, hc.cell h.c5 hd, hc.cell h.c6 hd, hc.cell h.c7 hd, hc.cell h.c8 hd, fun j => by rw [hc.froz h.c0 hd j]; exact h.z j⟩
theorem MX.s0 {w : World} {P : Nat} {m : Ms} {ev qv pv : Value} (h : MX w P m ev qv pv) (x : Int) : MX (w.setCell ⟨P, 0, none⟩ (.int .i64 x)) P { m with K := x } ev qv pv :=
 ⟨cell_own1 h.c0, cell_oth (by decide) h.c1, cell_oth (by decide) h.c2, cell_oth (by decide) h.c3, cell_oth (by decide) h.c4, cell_oth (by decide) h.c5, cell_oth (by decide) h.c6, cell_oth (by decide) h.c7, cell_oth (by decide) h.c8, fun k => by simpa [go_sem] using h.z k⟩
theorem MX.s1 {w : World} {P : Nat} {m : Ms} {ev qv pv : Value} (h : MX w P m ev qv pv) (x : Int) : MX (w.setCell ⟨P, 1, none⟩ (.int .i64 x)) P { m with F := x } ev qv pv :=
 ⟨cell_oth (by decide) h.c0, cell_own1 h.c1, cell_oth (by decide) h.c2, cell_oth (by decide) h.c3, cell_oth (by decide) h.c4, cell_oth (by decide) h.c5, cell_oth (by decide) h.c6, cell_oth (by decide) h.c7, cell_oth (by decide) h.c8, fun k => by simpa [go_sem] using h.z k⟩
theorem MX.s2 {w : World} {P : Nat} {m : Ms} {ev qv pv : Value} (h : MX w P m ev qv pv) (x : Int) : MX (w.setCell ⟨P, 2, none⟩ (.int .i64 x)) P { m with T := x } ev qv pv :=
 ⟨cell_oth (by decide) h.c0, cell_oth (by decide) h.c1, cell_own1 h.c2, cell_oth (by decide) h.c3, cell_oth (by decide) h.c4, cell_oth (by decide) h.c5, cell_oth (by decide) h.c6, cell_oth (by decide) h.c7, cell_oth (by decide) h.c8, fun k => by simpa [go_sem] using h.z k⟩
theorem MX.s3 {w : World} {P : Nat} {m : Ms} {ev qv pv : Value} (h : MX w P m ev qv pv) (x : Int) : MX (w.setCell ⟨P, 3, none⟩ (.int .i64 x)) P { m with B := x } ev qv pv :=
 ⟨cell_oth (by decide) h.c0, cell_oth (by decide) h.c1, cell_oth (by decide) h.c2, cell_own1 h.c3, cell_oth (by decide) h.c4, cell_oth (by decide) h.c5, cell_oth (by decide) h.c6, cell_oth (by decide) h.c7, cell_oth (by decide) h.c8, fun k => by simpa [go_sem] using h.z k⟩
theorem MX.s4 {w : World} {P : Nat} {m : Ms} {ev qv pv : Value} (h : MX w P m ev qv pv) (x : Int) : MX (w.setCell ⟨P, 4, none⟩ (.int .i64 x)) P { m with A := x } ev qv pv :=
 ⟨cell_oth (by decide) h.c0, cell_oth (by decide) h.c1, cell_oth (by decide) h.c2, cell_oth (by decide) h.c3, cell_own1 h.c4, cell_oth (by decide) h.c5, cell_oth (by decide) h.c6, cell_oth (by decide) h.c7, cell_oth (by decide) h.c8, fun k => by simpa [go_sem] using h.z k⟩
theorem MX.s5 {w : World} {P : Nat} {m : Ms} {ev qv pv : Value} (h : MX w P m ev qv pv) (x : Int) : MX (w.setCell ⟨P, 5, none⟩ (.int .i64 x)) P { m with C := x } ev qv pv :=
 ⟨cell_oth (by decide) h.c0, cell_oth (by decide) h.c1, cell_oth (by decide) h.c2, cell_oth (by decide) h.c3, cell_oth (by decide) h.c4, cell_own1 h.c5, cell_oth (by decide) h.c6, cell_oth (by decide) h.c7, cell_oth (by decide) h.c8, fun k => by simpa [go_sem] using h.z k⟩
theorem MX.s6 {w : World} {P : Nat} {m : Ms} {ev qv pv : Value} (h : MX w P m ev qv pv) (x : Value) : MX (w.setCell ⟨P, 6, none⟩ (x)) P m x qv pv :=
 ⟨cell_oth (by decide) h.c0, cell_oth (by decide) h.c1, cell_oth (by decide) h.c2, cell_oth (by decide) h.c3, cell_oth (by decide) h.c4, cell_oth (by decide) h.c5, cell_own1 h.c6, cell_oth (by decide) h.c7, cell_oth (by decide) h.c8, fun k => by simpa [go_sem] using h.z k⟩
theorem MX.s7 {w : World} {P : Nat} {m : Ms} {ev qv pv : Value} (h : MX w P m ev qv pv) (x : Value) : MX (w.setCell ⟨P, 7, none⟩ (x)) P m ev x pv :=
 ⟨cell_oth (by decide) h.c0, cell_oth (by decide) h.c1, cell_oth (by decide) h.c2, cell_oth (by decide) h.c3, cell_oth (by decide) h.c4, cell_oth (by decide) h.c5, cell_oth (by decide) h.c6, cell_own1 h.c7, cell_oth (by decide) h.c8, fun k => by simpa [go_sem] using h.z k⟩
theorem MX.s8 {w : World} {P : Nat} {m : Ms} {ev qv pv : Value} (h : MX w P m ev qv pv) (x : Value) : MX (w.setCell ⟨P, 8, none⟩ (x)) P m ev qv x :=
 ⟨cell_oth (by decide) h.c0, cell_oth (by decide) h.c1, cell_oth (by decide) h.c2, cell_oth (by decide) h.c3, cell_oth (by decide) h.c4, cell_oth (by decide) h.c5, cell_oth (by decide) h.c6, cell_oth (by decide) h.c7, cell_own1 h.c8, fun k => by simpa [go_sem] using h.z k⟩
def setM (w : World) (P : Nat) (m : Ms) (ev qv pv : Value) : World := ((((((((w.setCell ⟨P, 0, none⟩ (.int .i64 m.K)).setCell ⟨P, 1, none⟩ (.int .i64 m.F)).setCell ⟨P, 2, none⟩ (.int .i64 m.T)).setCell ⟨P, 3, none⟩ (.int .i64 m.B)).setCell ⟨P, 4, none⟩ (.int .i64 m.A)).setCell ⟨P, 5, none⟩ (.int .i64 m.C)).setCell ⟨P, 6, none⟩ (ev)).setCell ⟨P, 7, none⟩ (qv)).setCell ⟨P, 8, none⟩ (pv)
theorem MX.over {w : World} {P : Nat} {m0 : Ms} {e0 q0 p0 : Value} (h : MX w P m0 e0 q0 p0) (m : Ms) (ev qv pv : Value) : MX (setM w P m ev qv pv) P m ev qv pv := by
 have x := ((((((((h.s0 m.K).s1 m.F).s2 m.T).s3 m.B).s4 m.A).s5 m.C).s6 ev).s7 qv).s8 pv;exact ⟨x.c0, x.c1, x.c2, x.c3, x.c4, x.c5, x.c6, x.c7, x.c8, x.z⟩
theorem ch_setM (w : World) (P : Nat) (m : Ms) (ev qv pv : Value) : Ch (fun x => x = P) w (setM w P m ev qv pv) := ((((((((ch_set _ _ _ _).self (ch_set _ _ _ _)).self (ch_set _ _ _ _)).self (ch_set _ _ _ _)).self (ch_set _ _ _ _)).self (ch_set _ _ _ _)).self (ch_set _ _ _ _)).self (ch_set _ _ _ _)).self (ch_set _ _ _ _)
theorem mx_zero (w : World) : MX (w.alloc (Obj.cells #[.int .i64 0, .int .i64 0, .int .i64 0, .int .i64 0, .int .i64 0, .int .i64 0, .slice none 0 0, .slice none 0 0, .slice none 0 0] 48)) w.heap.size zeroMs (.slice none 0 0) (.slice none 0 0) (.slice none 0 0) := mx_new w zeroMs (.slice none 0 0) (.slice none 0 0) (.slice none 0 0)
theorem ch_below {w w1 w2 : World} {Q : Nat} (hb : Below w.heap.size w w1) (hc : Ch (fun x => x = Q) w1 w2) (hQ : w.heap.size ≤ Q) : Below w.heap.size w w2 :=
 hb.trans (hc.to_below hb.size (fun x hx => by rw [hx]; exact hQ))
theorem own_formN {w : World} {base e s n : Nat} {v : Value} {xs : List Value} (h : w.ownsRow base e s v n xs) : ∃ a c, v = .slice a n c := by
 rcases h.2 with ⟨h3, h0⟩ | ⟨g, cap, cur, rfl, _⟩
 ·exact ⟨_, _, by rw [h3, h0]⟩
 ·exact ⟨_, _, rfl⟩
theorem ml_form {w : World} {m : Ms} {e q p : Value} (h : ML w m e q p) : ∃ ea en ec qa qn qc pa pn pc, e = .slice ea en ec ∧ q = .slice qa qn qc ∧ p = .slice pa pn pc := by
 obtain ⟨ea, en, ec, e1, _⟩ := sv_le h.e;obtain ⟨qa, qn, qc, e2, _⟩ := sv_le h.q;obtain ⟨pa, pn, pc, e3, _⟩ := qv_le h.p;exact ⟨_, _, _, _, _, _, _, _, _, e1, e2, e3⟩
structure Tq where
 m : Ms
 e : Value
 q : Value
 p : Value
def cellsT (x : Tq) : List Value := [.int .i64 x.m.K, .int .i64 x.m.F, .int .i64 x.m.T, .int .i64 x.m.B, .int .i64 x.m.A, .int .i64 x.m.C, x.e, x.q, x.p]
def flatT (F : List Tq) : List Value := F.flatMap cellsT
theorem flatT_app (F : List Tq) (x : Tq) : flatT (F ++ [x]) = flatT F ++ cellsT x := by simp [flatT]
theorem flatT_get : ∀ (F : List Tq) (i j : Nat) (h : i < F.length), j < 9 → (flatT F)[i * 9 + j]? = (cellsT F[i])[j]?
 | [], i, j, h, _ => by simp at h
 | a :: t, 0, j, h, hj => by
  have e : (cellsT a).length = 9 := rfl;simp only [flatT, List.flatMap_cons, Nat.zero_mul, Nat.zero_add, List.getElem_cons_zero];rw [List.getElem?_append_left (by omega)]
 | a :: t, i + 1, j, h, hj => by
  have e : (cellsT a).length = 9 := rfl;have ih := flatT_get t i j (by simpa using h) hj;simp only [flatT, List.flatMap_cons, List.getElem_cons_succ] at ih ⊢;rw [List.getElem?_append_right (by omega), e, show (i + 1) * 9 + j - 9 = i * 9 + j by omega];exact ih
theorem cellsT_one {w : World} {x : Tq} (h : ML w x.m x.e x.q x.p) : ∀ u ∈ cellsT x, u.oneCell' = true := by
 obtain ⟨ea, en, ec, qa, qn, qc, pa, pn, pc, e1, e2, e3⟩ := ml_form h;intro u hu;unfold cellsT at hu;rw [e1, e2, e3] at hu;simp only [List.mem_cons, List.not_mem_nil, or_false] at hu;rcases hu with rfl | rfl | rfl | rfl | rfl | rfl | rfl | rfl | rfl <;> rfl
theorem info_msN : (Tryz.prog.info? 48).map (fun i => (i.zero, i.size, i.bytes)) = some (some (.agg #[.int .i64 0, .int .i64 0, .int .i64 0, .int .i64 0, .int .i64 0, .int .i64 0, .slice none 0 0, .slice none 0 0, .slice none 0 0]), 9, 120) := by kernel_rfl
theorem info_blN : (Tryz.prog.info? 4).map (fun i => (i.zero, i.size, i.bytes)) = some (some (.bool false), 1, 1) := by kernel_rfl
theorem wpList_append_ms {w : World} {ops : Array Oper} {rest : List Oper} {o : Oper} {a : Act} {Q : Exit → Act → World → Prop} (hgd : o.guard = none) (s x : Operand)
  (ho : o.op = .call { callee := .builtin .append, args := #[s, x], argTypes := #[51, 51] })
  (base : Nat) (v : Value) (n : Nat) (xs : List Value) (hs : a.eval s = v) (hown : w.ownsRow base 48 9 v n xs)
  (g c : Nat) (en : Tq) (hx : a.eval x = .slice (some ⟨g, 0, none⟩) 1 c) (hnews : ∀ j u, (cellsT en)[j]? = some u → w.cell? ⟨g, j, none⟩ = some u) (h1 : ∀ u ∈ cellsT en, u.oneCell' = true)
  (h63 : n ≤ 5000) (hbase : base ≤ w.heap.size)
  (h : ∀ v' w', w'.ownsRow base 48 9 v' (n + 1) (xs ++ cellsT en) → w.grownBy w' v.ownBlock → (v'.ownBlock = v.ownBlock ∨ v'.ownBlock = some w.heap.size) → wpList Tryz.prog ops Q rest (a.put o.dst v') w') : wpList Tryz.prog ops Q (o :: rest) a w := by
 obtain ⟨i0, hi0, hz0, hz1, hz2⟩ := info_partsQ info_msN;refine wpList_append_own_at w hgd s x 51 ho base 48 i0 _ 9 120 Tryz.underlying51 hi0 hz0 hz1 hz2 rfl (by decide) v n xs hs hown ⟨g, 0, none⟩ 1 c (cellsT en) hx rfl ?_ h1 (by unfold maxLen; omega) (by omega) hbase (fun v' w' h2 h3 _ h5 => h v' w' h2 h3 h5);intro j u hj;rw [WideShapes.add_plain, Nat.zero_add];exact hnews j u hj
theorem cells_litT {w : World} {x : Tq} {t : TypeId} : ∀ j u, (cellsT x)[j]? = some u → (w.alloc (Obj.cells #[.int .i64 x.m.K, .int .i64 x.m.F, .int .i64 x.m.T, .int .i64 x.m.B, .int .i64 x.m.A, .int .i64 x.m.C, x.e, x.q, x.p] t)).cell? ⟨w.heap.size, j, none⟩ = some u := by
 intro j u hj;unfold cellsT at hj
 have hj9 : j < 9 := by
  rcases Nat.lt_or_ge j 9 with q | q
  ·exact q
  ·rw [List.getElem?_eq_none (by simpa using q)] at hj; cases hj
 have hc : j = 0 ∨ j = 1 ∨ j = 2 ∨ j = 3 ∨ j = 4 ∨ j = 5 ∨ j = 6 ∨ j = 7 ∨ j = 8 := by omega
 rcases hc with rfl | rfl | rfl | rfl | rfl | rfl | rfl | rfl | rfl <;> simp at hj <;> subst hj <;> simp [go_sem]
theorem own_cellN {w : World} {base e s n g cap j : Nat} {xs : List Value} {u : Value} (h : w.ownsRow base e s (.slice (some ⟨g, 0, none⟩) n cap) n xs) (hj : xs[j]? = some u) : w.cell? ⟨g, j, none⟩ = some u ∧ w.frozen? ⟨g, j, none⟩ = false := by
 obtain ⟨h1, h2⟩ := h;rcases h2 with ⟨h3, _⟩ | ⟨g', cap', cur, e1, hg, hh, hnc, hcm, hcs, htk⟩
 ·cases h3
 ·cases e1
  refine ⟨?_, by simp [World.frozen?, hh]⟩;rw [cell_of_row w g j cur e (0, 0) hh];rw [← htk, List.getElem?_take] at hj
  split at hj
  ·simpa using hj
  ·cases hj
theorem row_formN {w : World} {base e s n : Nat} {v : Value} {xs : List Value} (h : w.ownsRow base e s v n xs) (hn : 0 < n) : ∃ g cap, v = .slice (some ⟨g, 0, none⟩) n cap ∧ n ≤ cap ∧ cap ≤ maxLen ∧ base ≤ g ∧ g < w.heap.size := by
 rcases h.2 with ⟨_, h0⟩ | ⟨g, cap, cur, rfl, hg, hh, hnc, hcm, hcs, htk⟩
 ·omega
 ·exact ⟨g, cap, rfl, hnc, hcm, hg, (Array.getElem?_eq_some_iff.1 hh).1⟩
theorem own_setRN {w : World} {B e s g n cap o : Nat} {xs : List Value} (u : Value) (h : w.ownsRow B e s (.slice (some ⟨g, 0, none⟩) n cap) n xs) : (w.setCell ⟨g, o, none⟩ u).ownsRow B e s (.slice (some ⟨g, 0, none⟩) n cap) n (xs.set o u) := by
 obtain ⟨h1, h2⟩ := h;rcases h2 with ⟨h3, _⟩ | ⟨g', cap', cur, e1, hg, hh, hnc, hcm, hcs, htk⟩
 ·cases h3
 ·cases e1
  refine ⟨by rw [List.length_set]; exact h1, .inr ⟨g, cap, cur.setIfInBounds o u, rfl, hg, ?_, hnc, hcm, by rw [Array.size_setIfInBounds]; exact hcs, ?_⟩⟩
  ·rw [Sort.setCell_eq];simp [Sort.mapBlock, Array.getElem?_modify, hh, Sort.onCells]
  ·rw [Array.toList_setIfInBounds, List.take_set, htk]
theorem wpList_append_qs {P : Program} {w : World} {ops : Array Oper} {rest : List Oper} {o : Oper} {a : Act} {Q : Exit → Act → World → Prop} (hgd : o.guard = none) (s x : Operand) (t : TypeId)
  (ho : o.op = .call { callee := .builtin .append, args := #[s, x], argTypes := #[t, t] })
  (base : Nat) (e : TypeId) (i0 : TypeInfo) (ht : P.underlying t = some (.slice e)) (hi : P.info? e = some i0) (hz0 : i0.zero = some (.agg #[.int .u64 0, .bool false, .int .u64 0])) (hz1 : i0.size = 3) (hz2 : i0.bytes = 24)
  (v : Value) (n : Nat) (m : List Pr) (hs : a.eval s = v) (hown : w.ownsRow base e 3 v n (flatQ m))
  (y : Value) (l : List Pr) (hx : a.eval x = y) (hy : Qv w y l) (h63 : n + l.length ≤ maxLen) (hb : (n + l.length) * 24 ≤ 140737488355328) (hbase : base ≤ w.heap.size)
  (h : ∀ v' w', w'.ownsRow base e 3 v' (n + l.length) (flatQ (m ++ l)) → w.grownBy w' v.ownBlock → wpList P ops Q rest (a.put o.dst v') w') : wpList P ops Q (o :: rest) a w := by
 obtain ⟨⟨ao, c, rfl, hc1, hc2, hnone, hcells⟩, _⟩ := hy
 cases ao with
 | none =>
  obtain rfl := hnone rfl;have hl0 : l.length = 0 := by omega
  have hl : l = [] := List.eq_nil_of_length_eq_zero hl0;subst hl;refine wpList_append_own_none hgd s x t ho base e i0 3 ht hi _ n (flatQ m) hs hown hx ?_;exact h v w (by simpa using hown) ⟨rfl, rfl, rfl, Nat.le_refl _, fun _ _ _ => rfl⟩
 | some p =>
  refine wpList_append_own w hgd s x t ho base e i0 (.agg #[.int .u64 0, .bool false, .int .u64 0]) 3 24 ht hi hz0 hz1 hz2 rfl (by decide) v n (flatQ m) hs hown p l.length c (flatQ l) hx (flatQ_len l) ?_ (fun u hu => flatQ_mem hu) h63 hb hbase (fun v' w' h1 h2 _ => h v' w' (by rw [flatQ_append]; exact h1) h2);intro j u hj
  have hjl : j < l.length * 3 := by
   rcases Nat.lt_or_ge j (l.length * 3) with h | h
   ·exact h
   ·rw [List.getElem?_eq_none (by rw [flatQ_len]; exact h)] at hj; cases hj
  obtain ⟨b, off, e1, g0, g1, g2⟩ := hcells (j / 3) (by omega)
  cases e1
  obtain ⟨f0, f1, f2⟩ := flatQ_get l (j / 3) (by omega);rw [WideShapes.add_plain];have hmod : j % 3 = 0 ∨ j % 3 = 1 ∨ j % 3 = 2 := by omega
  rcases hmod with hm | hm | hm
  ·have e2 : j / 3 * 3 = j := by omega
   rw [e2] at f0 g0;rw [f0] at hj; rw [g0, hj]
  ·have e2 : j / 3 * 3 + 1 = j := by omega
   rw [Nat.add_assoc, e2] at g1;rw [e2] at f1;rw [f1] at hj; rw [g1, hj]
  ·have e2 : j / 3 * 3 + 2 = j := by omega
   rw [Nat.add_assoc, e2] at g2;rw [e2] at f2;rw [f2] at hj; rw [g2, hj]
structure To (w : World) (lo : Nat) (x : Tq) : Prop where
 e : w.ownsRow lo 3 1 x.e x.m.E.length (cellsN x.m.E)
 q : w.ownsRow lo 40 1 x.q x.m.Q.length (x.m.Q.map fun k : Nat => Value.int .u64 (k : Int))
 p : w.ownsRow lo 66 3 x.p x.m.P.length (flatQ x.m.P)
 ok : x.m.ok
theorem To.below {w w' : World} {lo : Nat} {x : Tq} (h : To w lo x) (hb : Below w.heap.size w w') : To w' lo x := ⟨own_belowC h.e hb, own_belowC h.q hb, own_belowC h.p hb, h.ok⟩
theorem To.ml {w : World} {lo : Nat} {x : Tq} (h : To w lo x) : ML w x.m x.e x.q x.p := ⟨own_sv h.e, own_sv (k := .u64) (l := x.m.Q.map fun k : Nat => (k : Int)) (by rw [List.map_map]; exact h.q), own_qv h.p h.ok.P⟩
theorem To.nv {w : World} {lo : Nat} {x : Tq} (h : To w lo x) : Nv w x.e x.m.E := own_nv h.e (fun y hy => h.ok.E y hy)
structure Mr (w : World) (lo : Nat) (v : Value) (M : List Tq) : Prop where
 own : w.ownsRow lo 48 9 v M.length (flatT M)
 ent : ∀ x ∈ M, To w lo x
theorem Mr.below {w w' : World} {lo : Nat} {v : Value} {M : List Tq} (h : Mr w lo v M) (hb : Below w.heap.size w w') : Mr w' lo v M := ⟨own_belowC h.own hb, fun x hx => (h.ent x hx).below hb⟩
theorem mr_nil (w : World) (lo : Nat) : Mr w lo (.slice none 0 0) [] := ⟨World.ownsRow_nil _ _ _ _, by simp⟩
theorem mr_one {w : World} {lo : Nat} {x : Tq} (h : To w lo x) (hlo : lo ≤ w.heap.size) : Mr (w.alloc (Obj.cells #[.int .i64 x.m.K, .int .i64 x.m.F, .int .i64 x.m.T, .int .i64 x.m.B, .int .i64 x.m.A, .int .i64 x.m.C, x.e, x.q, x.p] 48)) lo (.slice (some ⟨w.heap.size, 0, none⟩) 1 1) [x] :=
 ⟨⟨rfl, .inr ⟨w.heap.size, 1, _, rfl, hlo, heap_alloc_new w _, Nat.le_refl _, by simp [maxLen], rfl, rfl⟩⟩, fun y hy => by rw [List.mem_singleton] at hy; subst hy; exact h.below (below_alloc _ _)⟩
end Go.Proofs.YtombjgfajbhbbaaGreat
