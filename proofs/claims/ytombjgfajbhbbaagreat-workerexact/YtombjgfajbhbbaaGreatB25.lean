/- The reference's worker: find. -/
import Derived.Test.YtombjgfajbhbbaaGreatB24
set_option maxRecDepth 100000
set_option maxHeartbeats 16000000
namespace Go.Proofs.YtombjgfajbhbbaaGreat
open Go.RowKit
section
section

variable {α : Type}

def plF (f : α → Int) (L : List α) (b : Int) : Nat := (L.takeWhile fun x => decide (f x < b)).length
theorem plF_lt {f : α → Int} {a : α} {t : List α} {b : Int} (h : f a < b) : plF f (a :: t) b = plF f t b + 1 := by
 unfold plF; rw [List.takeWhile_cons, if_pos (by simpa using h)]; rfl
theorem plF_ge {f : α → Int} {a : α} {t : List α} {b : Int} (h : ¬ f a < b) : plF f (a :: t) b = 0 := by
 unfold plF; rw [List.takeWhile_cons, if_neg (by simpa using h)]; rfl
theorem plF_le (f : α → Int) (L : List α) (b : Int) : plF f L b ≤ L.length := by
 induction L with
 | nil => exact Nat.le_refl _
 | cons a t ih =>
  by_cases h : f a < b
  ·rw [plF_lt h]; simp; exact ih
  ·rw [plF_ge h]; omega
theorem plF_is {f : α → Int} {b : Int} : ∀ {L : List α} {k : Nat} (_ : k ≤ L.length) (_ : ∀ i (hi : i < L.length), i < k → f L[i] < b) (_ : ∀ h : k < L.length, ¬ f L[k] < b), plF f L b = k
 | [], k, h1, _, _ => by
  have : k = 0 := by simpa using h1
  rw [this]; rfl
 | a :: t, 0, _, _, h3 => plF_ge (h3 (by simp))
 | a :: t, k + 1, h1, h2, h3 => by
  have h0 : f a < b := h2 0 (by simp) (by omega);rw [plF_lt h0, plF_is (L := t) (k := k) (by simpa using h1) (fun i hi hk => by have := h2 (i + 1) (by simpa using hi) (by omega); simpa using this) (fun h => by have := h3 (by simpa using h); simpa using this)]
theorem atK_pl {f : α → Int} {L : List α} {b : Int} (h : RiseL f L) : atK f L b = match L[plF f L b]? with | some x => if f x = b then some x else none | none => none := by
 induction L with
 | nil => rfl
 | cons a t ih =>
  have h1 := List.pairwise_cons.1 h;have ih := ih h1.2;unfold atK at ih ⊢;by_cases hl : f a < b
  ·rw [plF_lt hl, List.find?_cons_of_neg (by simp; omega), ih];simp
  ·rw [plF_ge hl];simp only [List.getElem?_cons_zero];by_cases he : f a = b
   ·rw [List.find?_cons_of_pos (by simpa using he), if_pos he]
   ·rw [List.find?_cons_of_neg (by simpa using he), if_neg he];refine List.find?_eq_none.2 fun x hx => ?_;have := h1.1 x hx;simp;omega
theorem out_pl {f : α → Int} {L : List α} {b : Int} {x : α} (h : RiseL f L) (hx : L[plF f L b]? = some x) (hb : f x = b) : outL f L b = L.take (plF f L b) ++ L.drop (plF f L b + 1) := by
 induction L with
 | nil => simp at hx
 | cons a t ih =>
  have h1 := List.pairwise_cons.1 h;unfold outL at ih ⊢;by_cases hl : f a < b
  ·rw [plF_lt hl] at hx ⊢;simp only [List.getElem?_cons_succ] at hx;rw [List.filter_cons, if_pos (by simp; omega), ih h1.2 hx];simp
  ·rw [plF_ge hl] at hx ⊢;simp only [List.getElem?_cons_zero, Option.some.injEq] at hx;subst hx;rw [List.filter_cons, if_neg (by simpa using hb)];simp only [List.take_zero, List.nil_append, Nat.zero_add, List.drop_succ_cons, List.drop_zero];refine List.filter_eq_self.2 fun y hy => ?_;have := h1.1 y hy;simp;omega
theorem ins_pl {f : α → Int} {L : List α} {x : α} (h : RiseL f L) (hn : ∀ y ∈ L, f y ≠ f x) : insL f x L = L.take (plF f L (f x)) ++ x :: L.drop (plF f L (f x)) := by
 induction L with
 | nil => rfl
 | cons a t ih =>
  have h1 := List.pairwise_cons.1 h;have ha := hn a (by simp);rw [insL];by_cases hl : f a < f x
  ·rw [plF_lt hl, if_neg (by omega), ih h1.2 (fun y hy => hn y (by simp [hy]))];simp
  ·rw [plF_ge hl, if_pos (by omega)];simp
theorem pl_not {f : α → Int} {L : List α} {b : Int} (h : RiseL f L) (hx : ∀ x, L[plF f L b]? = some x → f x ≠ b) : ∀ y ∈ L, f y ≠ b := by
 refine atK_none (f := f) ?_;rw [atK_pl h]
 cases hq : L[plF f L b]? with
 | none => rfl
 | some x => simp only; rw [if_neg (hx x hq)]
theorem pl_set {f : α → Int} {L : List α} {x y : α} (h : RiseL f L) (hx : L[plF f L (f y)]? = some x) (hb : f x = f y) : insL f y (outL f L (f y)) = L.set (plF f L (f y)) y := by
 induction L with
 | nil => simp at hx
 | cons a t ih =>
  have h1 := List.pairwise_cons.1 h;unfold outL at ih ⊢;by_cases hl : f a < f y
  ·rw [plF_lt hl] at hx ⊢;simp only [List.getElem?_cons_succ] at hx;rw [List.filter_cons, if_pos (by simp; omega), insL, if_neg (by omega), ih h1.2 hx];simp
  ·rw [plF_ge hl] at hx ⊢;simp only [List.getElem?_cons_zero, Option.some.injEq] at hx;subst hx;rw [List.filter_cons, if_neg (by simpa using hb)];simp only [List.set_cons_zero]
   have e : t.filter (fun x => !decide (f x = f y)) = t := List.filter_eq_self.2 fun z hz => by
    have := h1.1 z hz;simp;omega
   rw [e]
   cases t with
   | nil => rfl
   | cons c u =>
    rw [insL, if_pos (by have := h1.1 c (by simp); omega)]
theorem upd_pl {f : α → Int} {L : List α} {b : Int} {x : α} {g : α → α} (h : RiseL f L) (hx : L[plF f L b]? = some x) (hb : f x = b) : updK f L b g = L.set (plF f L b) (g x) := by
 induction L with
 | nil => simp at hx
 | cons a t ih =>
  have h1 := List.pairwise_cons.1 h;unfold updK at ih ⊢;by_cases hl : f a < b
  ·rw [plF_lt hl] at hx ⊢;simp only [List.getElem?_cons_succ] at hx;rw [List.map_cons, if_neg (by omega), ih h1.2 hx];simp
  ·rw [plF_ge hl] at hx ⊢;simp only [List.getElem?_cons_zero, Option.some.injEq] at hx;subst hx;rw [List.map_cons, if_pos hb];simp only [List.set_cons_zero];congr 1;refine (List.map_congr_left fun z hz => ?_).trans (List.map_id _);have := h1.1 z hz;rw [if_neg (by omega)];rfl
end
end
section
structure Rwt where
 h : Hh
 ev : Value
 dv : Value
 av : Value
 lo : Nat
 hi : Nat
def kR (x : Rwt) : Int := x.h.n
def cellsR (x : Rwt) : List Value := [.int .i64 x.h.n, .int .i64 x.h.a, x.ev, x.dv, .bool x.h.g, x.av]
def flatRt (L : List Rwt) : List Value := L.flatMap cellsR
theorem flatRt_len (L : List Rwt) : (flatRt L).length = L.length * 6 := by
 induction L with
 | nil => rfl
 | cons a t ih => simp only [flatRt, List.flatMap_cons, List.length_append] at ih ⊢; rw [ih]; simp [cellsR]; omega
theorem flatRt_app (L M : List Rwt) : flatRt (L ++ M) = flatRt L ++ flatRt M := by simp [flatRt]
theorem flatRt_get : ∀ (L : List Rwt) (i j : Nat) (h : i < L.length), j < 6 → (flatRt L)[i * 6 + j]? = (cellsR L[i])[j]?
 | [], i, j, h, _ => by simp at h
 | a :: t, 0, j, h, hj => by
  have e : (cellsR a).length = 6 := rfl;simp only [flatRt, List.flatMap_cons, Nat.zero_mul, Nat.zero_add, List.getElem_cons_zero];rw [List.getElem?_append_left (by omega)]
 | a :: t, i + 1, j, h, hj => by
  have e : (cellsR a).length = 6 := rfl;have ih := flatRt_get t i j (by simpa using h) hj;simp only [flatRt, List.flatMap_cons, List.getElem_cons_succ] at ih ⊢;rw [List.getElem?_append_right (by omega), e, show (i + 1) * 6 + j - 6 = i * 6 + j by omega];exact ih
theorem flatRt_take (L : List Rwt) (k : Nat) : (flatRt L).take (k * 6) = flatRt (L.take k) := by
 induction L generalizing k with
 | nil => simp [flatRt]
 | cons a t ih =>
  cases k with
  | zero => simp [flatRt]
  | succ k =>
   have e : (cellsR a).length = 6 := rfl;have := ih k;simp only [flatRt, List.flatMap_cons, List.take_succ_cons] at this ⊢;rw [show (k + 1) * 6 = (cellsR a).length + k * 6 by omega, List.take_append];simp only [Nat.le_add_right, List.take_of_length_le, Nat.add_sub_cancel_left];rw [this]
theorem flatRt_drop (L : List Rwt) (k : Nat) : (flatRt L).drop (k * 6) = flatRt (L.drop k) := by
 induction L generalizing k with
 | nil => simp [flatRt]
 | cons a t ih =>
  cases k with
  | zero => simp [flatRt]
  | succ k =>
   have e : (cellsR a).length = 6 := rfl;have := ih k;simp only [flatRt, List.flatMap_cons, List.drop_succ_cons] at this ⊢;rw [show (k + 1) * 6 = (cellsR a).length + k * 6 by omega, List.drop_append];simp only [Nat.le_add_right, List.drop_eq_nil_of_le, Nat.add_sub_cancel_left, List.nil_append];rw [this]
structure Rwo (w : World) (p : Pn) (x : Rwt) : Prop where
 ends : w.ownsRow x.lo 3 1 x.ev x.h.E.length (cellsN x.h.E)
 eok : In64 x.h.E
 prt : ∃ vs, Dl x.lo w x.dv p.n vs (dealF p x.h.T) ∧ ∀ i y, i < p.n → (vs i).ownBlock = some y → y < x.hi
 tok : okT x.h.T
 tl : x.h.T.length ≤ 1024
 el : x.h.E.length ≤ 4
 app : w.ownsRow x.lo 4 1 x.av x.h.A.length (x.h.A.map Value.bool)
 al : x.h.A.length = p.n
 he : ∀ y, x.ev.ownBlock = some y → y < x.hi
 hp : ∀ y, x.dv.ownBlock = some y → y < x.hi
 ha : ∀ y, x.av.ownBlock = some y → y < x.hi
 lh : x.lo ≤ x.hi
 hi : x.hi ≤ w.heap.size
 ar : in64 x.h.a
 nr : in64 x.h.n
def apartR (x y : Rwt) : Prop := x.hi ≤ y.lo ∨ y.hi ≤ x.lo
def inR (x : Rwt) (y : Nat) : Prop := x.lo ≤ y ∧ y < x.hi
structure Rwk (w : World) (P : Nat) (lv ov : Value) (p : Pn) (nd : Int) (L : List Rwt) : Prop where
 blk : w.heap[P]? = some (.cells #[.int .i64 p.P, .int .i64 p.S, .int .i64 p.W, ov, .int .i64 p.A, .int .i64 p.B, .int .i64 p.N, .int .i64 p.G, .int .i64 nd, lv] 76 (0, 0))
 ops : w.ownsRow 0 80 3 ov p.l.length (flat p.l)
 lok : ∀ o ∈ p.l, o.ok
 is : p.is = true
 nd : 1 ≤ nd ∧ nd ≤ 4
 row : w.ownsRow 0 120 6 lv L.length (flatRt L)
 rise : RiseL kR L
 apart : L.Pairwise apartR
 ent : ∀ x ∈ L, Rwo w p x
 off : ∀ x ∈ L, ¬ inR x P ∧ (∀ y, ov.ownBlock = some y → ¬ inR x y) ∧ ∀ y, lv.ownBlock = some y → ¬ inR x y
def Rwb (P : Nat) (lv ov : Value) (L : List Rwt) (x : Nat) : Prop := x = P ∨ lv.ownBlock = some x ∨ ov.ownBlock = some x ∨ ∃ y ∈ L, inR y x
theorem Rwo.ch {D : Nat → Prop} {w w' : World} {p : Pn} {a : Rwt} (h : Rwo w p a) (hc : Ch D w w') (hd : ∀ y, a.lo ≤ y → y < a.hi → ¬ D y) : Rwo w' p a := by
 obtain ⟨vs, hv, hvy⟩ := h.prt;exact ⟨own_ch h.ends hc (fun y hy => hd y (h.ends.lt y hy).1 (h.he y hy)), h.eok, ⟨vs, ⟨own_ch hv.row hc (fun y hy => hd y (hv.row.lt y hy).1 (h.hp y hy)), fun i hi => own_ch (hv.own i hi) hc (fun y hy => hd y ((hv.own i hi).lt y hy).1 (hvy i y hi hy))⟩, hvy⟩, h.tok, h.tl, h.el, own_ch h.app hc (fun y hy => hd y (h.app.lt y hy).1 (h.ha y hy)), h.al, h.he, h.hp, h.ha, h.lh, Nat.le_trans h.hi hc.size, h.ar, h.nr⟩
section

variable {w w' : World} {P : Nat} {lv ov : Value} {p : Pn} {nd : Int} {L : List Rwt}

theorem Rwk.ltP (h : Rwk w P lv ov p nd L) : P < w.heap.size := (Array.getElem?_eq_some_iff.1 h.blk).1
theorem Rwk.lP (h : Rwk w P lv ov p nd L) : lv.ownBlock ≠ some P := by
 intro e;rcases h.row.2 with ⟨h1, _⟩ | ⟨g, cap, cur, hv, hg, hh, q⟩
 ·rw [h1] at e; cases e
 ·rw [hv] at e; cases e; have := h.blk; rw [hh] at this; cases this
theorem Rwk.oP (h : Rwk w P lv ov p nd L) : ov.ownBlock ≠ some P := by
 intro e;rcases h.ops.2 with ⟨h1, _⟩ | ⟨g, cap, cur, hv, hg, hh, q⟩
 ·rw [h1] at e; cases e
 ·rw [hv] at e; cases e; have := h.blk; rw [hh] at this; cases this
theorem Rwk.lt (h : Rwk w P lv ov p nd L) : ∀ x, Rwb P lv ov L x → x < w.heap.size := by
 rintro x (rfl | e | e | ⟨y, hy, h1, h2⟩)
 ·exact h.ltP
 ·exact (h.row.lt x e).2
 ·exact (h.ops.lt x e).2
 ·exact Nat.lt_of_lt_of_le h2 (h.ent y hy).hi
theorem Rwk.ch {D : Nat → Prop} (h : Rwk w P lv ov p nd L) (hc : Ch D w w') (hd : ∀ x, D x → ¬ Rwb P lv ov L x) : Rwk w' P lv ov p nd L := by
 have hP : ¬ D P := fun e => hd P e (.inl rfl)
 exact ⟨by rw [hc.block P h.ltP hP]; exact h.blk, own_ch h.ops hc (fun x hx e => hd x e (.inr (.inr (.inl hx)))), h.lok, h.is, h.nd, own_ch h.row hc (fun x hx e => hd x e (.inr (.inl hx))), h.rise, h.apart,
  fun x hx => (h.ent x hx).ch hc (fun y h1 h2 e => hd y e (.inr (.inr (.inr ⟨x, hx, h1, h2⟩)))), h.off⟩
theorem Rwk.below (h : Rwk w P lv ov p nd L) (hb : Below w.heap.size w w') : Rwk w' P lv ov p nd L := h.ch (D := fun _ => False) (Ch.of_below hb) (fun _ e => e.elim)
theorem Rwk.cell (h : Rwk w P lv ov p nd L) (i : Nat) : w.cell? ⟨P, i, none⟩ = (#[.int .i64 p.P, .int .i64 p.S, .int .i64 p.W, ov, .int .i64 p.A, .int .i64 p.B, .int .i64 p.N, .int .i64 p.G, .int .i64 nd, lv] : Array Value)[i]? := cell_of_row w P i _ _ (0, 0) h.blk
theorem Rwk.soft (h : Rwk w P lv ov p nd L) (j : Nat) : w.frozen? ⟨P, j, none⟩ = false := by simp [World.frozen?, h.blk]
theorem Rwk.stp (h : Rwk w P lv ov p nd L) : Ov w ov p.l := own_ovS h.ops h.lok
end

section

variable {w w' : World} {P : Nat} {lv ov : Value} {p : Pn} {nd : Int} {L : List Rwt}

theorem Rwk.at (h : Rwk w P lv ov p nd L) {i : Nat} (hi : i < L.length) : ∃ g c, lv = .slice (some ⟨g, 0, none⟩) L.length c ∧ L.length ≤ c ∧ ∀ j u, j < 6 → (cellsR L[i])[j]? = some u → w.cell? ⟨g, i * 6 + j, none⟩ = some u ∧ w.frozen? ⟨g, i * 6 + j, none⟩ = false := by
 have hrow := h.row;rcases h.row.2 with ⟨_, h0⟩ | ⟨g, cap, cur, hv, hg, hh, hnc, q⟩
 ·omega
 ·subst hv;refine ⟨g, cap, rfl, hnc, fun j u hj hu => ?_⟩;exact own_cellN hrow (by rw [flatRt_get L i j hi hj]; exact hu)
end
end
theorem rplace17_walk {w : World} {P : Nat} {lv ov : Value} {p : Pn} {nd : Int} {L : List Rwt} (h : Rwk w P lv ov p nd L) (hL : L.length ≤ 4096) (b : Int) : Calls Tryz.prog 75 #[.pointer (some ⟨P, 0, none⟩), .int .i64 b] w fun e w' => e = .returned (.int .i64 (plF kR L b)) ∧ w' = w := by
 have H := hidH h;have HL : Hid (L.length ≤ 4096) := hL;obtain ⟨la, lc, e⟩ := own_formN h.row;subst e;have c9 : w.cell? ⟨P, 9, none⟩ = some (.slice la L.length lc) := by rw [h.cell]; rfl
 have hli : (L.length : Int) ≤ 4096 := by omega
 clear h hL;go_in;go_wp2_with fail;go_loop [5] (fun iv => ∃ i : Nat, iv = .int .i64 i ∧ i ≤ L.length ∧ ∀ j (hj : j < L.length), j < i → kR L[j] < b) (fun iv => L.length - (intOf iv).toNat)
 case atStart => exact ⟨0, rfl, Nat.zero_le _, fun j _ h => by omega⟩
 case round =>
  obtain ⟨i, rfl, hil, hbe⟩ := hrel;have HBE := hidH hbe;have HIL : Hid (i ≤ L.length) := hil;clear hbe;by_cases hlt : i < L.length
  ·have hlti : (i : Int) < (L.length : Int) := by omega
   obtain ⟨g, c, e, _, hcel⟩ := H.out.at hlt;simp only [Value.slice.injEq] at e;obtain ⟨rfl, _⟩ := e;have x0 := (hcel 0 _ (by omega) rfl).1;have HLT : Hid (i < L.length) := hlt;obtain ⟨y, hy⟩ : ∃ y, y = kR L[i] := ⟨_, rfl⟩;have HY : Hid (y = kR L[i]) := hy;rw [show L[i].h.n = kR L[i] from rfl, ← hy, Nat.add_zero] at x0;clear hcel hy;by_cases hq : y < b
   ·have HQ : Hid (y < b) := hq;go_wp2_with fail;go_round
    case rel => exact ⟨i + 1, by go_num, HLT.out, fun j hj hji => by
     rcases Nat.lt_or_ge j i with h | h
     ·exact HBE.out j hj h
     ·obtain rfl : j = i := by omega
      have h1 := HQ.out; rw [HY.out] at h1; exact h1⟩
    case measure => have := HLT.out; simp [intOf]; omega
   ·have HPL : Hid (plF kR L b = i) := plF_is (k := i) HIL.out HBE.out (fun _ h2 => hq (by rw [HY.out]; exact h2));go_wp2_with fail;go_ret;exact ⟨by rw [HPL.out]; rfl, rfl⟩
  ·have hlti : ¬ (i : Int) < (L.length : Int) := by omega
   have HLT : Hid (¬ i < L.length) := hlt;go_wp2_with fail;go_ret;exact ⟨by rw [plF_is HIL.out HBE.out (fun h => absurd h HLT.out)]; rfl, rfl⟩
theorem rcount_walk {w : World} {B : Nat} {v : Value} {A : List Bool} (h : w.ownsRow B 4 1 v A.length (A.map Value.bool)) (hA : A.length ≤ 4) : Calls Tryz.prog 49 #[v] w fun e w' => e = .returned (.int .i64 (A.countP id : Nat)) ∧ w' = w := by
 have H := hidH h;have HL : Hid (A.length ≤ 4) := hA;obtain ⟨la, lc, e⟩ := own_formN h;subst e;have hli : (A.length : Int) ≤ 4 := by omega
 clear h hA;go_in;go_wp2_with fail;go_loop [3, 4] (fun nv iv => ∃ i : Nat, iv = .int .i64 i ∧ nv = .int .i64 ((A.take i).countP id : Nat) ∧ i ≤ A.length) (fun _ iv => A.length - (intOf iv).toNat)
 case atStart => exact ⟨0, rfl, rfl, Nat.zero_le _⟩
 case round =>
  obtain ⟨i, rfl, rfl, hil⟩ := hrel;have HIL : Hid (i ≤ A.length) := hil;by_cases hlt : i < A.length
  ·have hlti : (i : Int) < (A.length : Int) := by omega
   have HLT : Hid (i < A.length) := hlt
   have hx : ∃ g, la = some ⟨g, 0, none⟩ ∧ w.cell? ⟨g, i, none⟩ = some (.bool A[i]) := by
    have hrow := H.out;rcases H.out.2 with ⟨_, h0⟩ | ⟨g, cap, cur, hv, _⟩
    ·omega
    ·simp only [Value.slice.injEq] at hv;obtain ⟨rfl, _⟩ := hv;exact ⟨g, rfl, (own_cellN hrow (by rw [List.getElem?_map, List.getElem?_eq_getElem hlt]; rfl)).1⟩
   obtain ⟨g, rfl, x0⟩ := hx
   have HT : Hid (((A.take (i + 1)).countP id : Nat) = (A.take i).countP id + (if A[i] = true then 1 else 0)) := by
    show _ = _;rw [List.take_add_one, List.getElem?_eq_getElem hlt, List.countP_append]
    cases A[i] <;> rfl
   have HC : Hid ((A.take i).countP id ≤ 4) := by
    have h1 := List.countP_le_length (p := id) (l := A.take i);have h2 := HL.out;rw [List.length_take] at h1;show _ ≤ _;omega
   obtain ⟨n, hn⟩ : ∃ n, n = (A.take i).countP id := ⟨_, rfl⟩;rw [← hn] at HT HC ⊢;have hn4 : (n : Int) ≤ 4 := by have := HC.out; omega
   cases hb : A[i] with
   | true =>
    rw [hb] at x0 HT;clear hb hn;go_wp2_with fail;go_round
    case rel => exact ⟨i + 1, by go_num, by rw [HT.out]; go_num, HLT.out⟩
    case measure => have := HLT.out; simp [intOf]; omega
   | false =>
    rw [hb] at x0 HT;clear hb hn;go_wp2_with fail;go_round
    case rel => exact ⟨i + 1, by go_num, by rw [HT.out]; simp, HLT.out⟩
    case measure => have := HLT.out; simp [intOf]; omega
  ·have hlti : ¬ (i : Int) < (A.length : Int) := by omega
   obtain rfl : i = A.length := by omega
   rw [List.take_length];go_wp2_with fail;go_ret;exact ⟨rfl, rfl⟩
def fnR (L : List Rwt) (m : Ms) : Int := match L[plF kR L m.B]? with
 | some x => if x.h.n = m.B then (if x.h.a = m.A then ((plF kR L m.B : Nat) : Int) else -1) else -1
 | none => -1
theorem rfind17_walk {w : World} {P : Nat} {lv ov : Value} {p : Pn} {nd : Int} {L : List Rwt} {m : Ms} {ea qa pa : Option Addr} {en ec qn qc pn pc : Nat} (h : Rwk w P lv ov p nd L) (hL : L.length ≤ 4096) : Calls Tryz.prog 80 #[.pointer (some ⟨P, 0, none⟩), .agg #[.int .i64 m.K, .int .i64 m.F, .int .i64 m.T, .int .i64 m.B, .int .i64 m.A, .int .i64 m.C, .slice ea en ec, .slice qa qn qc, .slice pa pn pc]] w fun e w' => e = .returned (.int .i64 (fnR L m)) ∧ Below w.heap.size w w' := by
 have HX0 : Hid _ := mx_new w m (.slice ea en ec) (.slice qa qn qc) (.slice pa pn pc);have HB0 : Hid _ := below_alloc w (Obj.cells #[.int .i64 m.K, .int .i64 m.F, .int .i64 m.T, .int .i64 m.B, .int .i64 m.A, .int .i64 m.C, .slice ea en ec, .slice qa qn qc, .slice pa pn pc] 48);have H0 := hidH h;have HL : Hid (L.length ≤ 4096) := hL;obtain ⟨la, lc, e⟩ := own_formN h.row;subst e;clear h hL;go_in;go_upto_region 1 with fail
 obtain ⟨Q, hQ⟩ : ∃ Q, Q = w.heap.size := ⟨_, rfl⟩;rw [← hQ] at HX0 ⊢;have HQ : Hid (Q = w.heap.size) := hQ;clear hQ;have H : Hid _ := H0.out.below HB0.out;generalize w.alloc (Obj.cells #[.int .i64 m.K, .int .i64 m.F, .int .i64 m.T, .int .i64 m.B, .int .i64 m.A, .int .i64 m.C, .slice ea en ec, .slice qa qn qc, .slice pa pn pc] 48) = wx at HX0 HB0 H ⊢;have x3 := HX0.out.c3;have x4 := HX0.out.c4;go_wp2_with fail;refine (rplace17_walk H.out HL.out m.B).mono ?_;rintro e w3 ⟨rfl, h3⟩;replace h3 := h3.symm;subst h3;have z3 : ∀ wz, Below wx.heap.size wx wz → wz.cell? ⟨Q, 3, none⟩ = some (.int .i64 m.B) := fun wz hb => (HX0.out.keep hb).c3;have z4 : ∀ wz, Below wx.heap.size wx wz → wz.cell? ⟨Q, 4, none⟩ = some (.int .i64 m.A) := fun wz hb => (HX0.out.keep hb).c4;have y9 : ∀ wz, Below wx.heap.size wx wz → wz.cell? ⟨P, 9, none⟩ = some (.slice la L.length lc) := fun wz hb => by rw [(H.out.below hb).cell]; rfl
 obtain ⟨a, ha⟩ : ∃ a, a = plF kR L m.B := ⟨_, rfl⟩;have HA : Hid (a = plF kR L m.B) := ha
 have HF : Hid (fnR L m = match L[a]? with
  | some x => if x.h.n = m.B then (if x.h.a = m.A then (a : Int) else -1) else -1
  | none => -1) := by show _ = _; rw [ha]; rfl
 rw [← ha];clear x3 x4 ha;have hli : (L.length : Int) ≤ 4096 := by have := HL.out; omega
 by_cases hal : a < L.length
 ·have hai : (a : Int) < (L.length : Int) := by omega
  have hab : decide ((a : Int) < (L.length : Int)) = true := decide_eq_true hai;obtain ⟨g, c, e, _, hcel⟩ := H.out.at hal;simp only [Value.slice.injEq] at e;obtain ⟨rfl, _⟩ := e;have u0' := (hcel 0 _ (by omega) rfl).1;have u1' := (hcel 1 _ (by omega) rfl).1;rw [List.getElem?_eq_getElem hal] at HF;simp only at HF;generalize L[a] = x at HF u0' u1';rw [Nat.add_zero] at u0';have u0 : ∀ wz, Below wx.heap.size wx wz → wz.cell? ⟨g, a * 6, none⟩ = some (.int .i64 x.h.n) := fun wz hb => (hb.cell (p := ⟨g, a * 6, none⟩) (cell_lt u0')).trans u0';have u1 : ∀ wz, Below wx.heap.size wx wz → wz.cell? ⟨g, a * 6 + 1, none⟩ = some (.int .i64 x.h.a) := fun wz hb => (hb.cell (p := ⟨g, a * 6 + 1, none⟩) (cell_lt u1')).trans u1';clear hcel u0' u1';by_cases h1 : x.h.n = m.B
  ·have hb1 : (x.h.n == m.B) = true := by simp [h1]
   by_cases h2 : x.h.a = m.A
   ·have hb2 : (x.h.a == m.A) = true := by simp [h2]
    have HR : Hid (fnR L m = (a : Int)) := by show _ = _; rw [HF.out, if_pos h1, if_pos h2]
    clear h1 h2;go_upto_region 2 with fail
    refine wp_region_noPanic ?_;refine wp_region_held_drew (S := fun wz => Below wx.heap.size wx wz) (by kernel_rfl) ?_ fun hHeld => ?_
    ·exact below_drewN wx 1
    refine tkS 0 10 rfl hHeld ?_;refine tkS 1 11 rfl hHeld ?_;refine tkS 2 12 rfl hHeld ?_;refine tkS 3 13 rfl hHeld ?_;refine tkS 4 14 rfl hHeld ?_;refine tkS 5 15 rfl hHeld ?_;refine tkS 6 16 rfl hHeld ?_;refine tkS 7 17 rfl hHeld ?_;refine tkS 8 18 rfl hHeld ?_;refine tkS 9 19 rfl hHeld ?_;refine tkS 10 20 rfl hHeld ?_;refine tkS 11 21 rfl hHeld ?_;refine tkS 12 22 rfl hHeld ?_;refine tkS 13 23 rfl hHeld ?_;refine tkS 14 24 rfl hHeld ?_;refine tkS 15 25 rfl hHeld ?_;refine tkS 16 26 rfl hHeld ?_;refine tkS 17 27 rfl hHeld ?_;refine tkS 18 28 rfl hHeld ?_;refine tkS 19 29 rfl hHeld ?_;refine tkS 20 30 rfl hHeld ?_;refine tkS 21 31 rfl hHeld ?_;refine tkS 22 32 rfl hHeld ?_;refine tkS 23 33 rfl hHeld ?_;refine tkS 24 34 rfl hHeld ?_;refine tkS 25 35 rfl hHeld ?_;refine tkS 26 36 rfl hHeld ?_;refine tkS 27 37 rfl hHeld ?_;refine tkS 28 38 rfl hHeld ?_;refine tkS 29 39 rfl hHeld ?_;refine tkS 30 40 rfl hHeld ?_;refine tkS 31 41 rfl hHeld ?_;refine tkS 32 42 rfl hHeld ?_;refine wpAnyH_done (by kernel_rfl) ?_ _;refine NoPanic.normal ?_;go_wp2_with fail;go_ret;exact ⟨by rw [HR.out]; rfl, below_trans HB0.out (below_drewN _ 1)⟩
   ·have hb2 : (x.h.a == m.A) = false := by simp [h2]
    have HR : Hid (fnR L m = -1) := by show _ = _; rw [HF.out, if_pos h1, if_neg h2]
    clear h1 h2;go_upto_region 2 with fail
    refine wp_region_noPanic ?_;refine wp_region_held_drew (S := fun wz => Below wx.heap.size wx wz) (by kernel_rfl) ?_ fun hHeld => ?_
    ·exact below_drewN wx 1
    refine tkS 0 10 rfl hHeld ?_;refine tkS 1 11 rfl hHeld ?_;refine tkS 2 12 rfl hHeld ?_;refine tkS 3 13 rfl hHeld ?_;refine tkS 4 14 rfl hHeld ?_;refine tkS 5 15 rfl hHeld ?_;refine tkS 6 16 rfl hHeld ?_;refine tkS 7 17 rfl hHeld ?_;refine tkS 8 18 rfl hHeld ?_;refine tkS 9 19 rfl hHeld ?_;refine tkS 10 20 rfl hHeld ?_;refine tkS 11 21 rfl hHeld ?_;refine tkS 12 22 rfl hHeld ?_;refine tkS 13 23 rfl hHeld ?_;refine tkS 14 24 rfl hHeld ?_;refine tkS 15 25 rfl hHeld ?_;refine tkS 16 26 rfl hHeld ?_;refine tkS 17 27 rfl hHeld ?_;refine tkS 18 28 rfl hHeld ?_;refine tkS 19 29 rfl hHeld ?_;refine tkS 20 30 rfl hHeld ?_;refine tkS 21 31 rfl hHeld ?_;refine tkS 22 32 rfl hHeld ?_;refine tkS 23 33 rfl hHeld ?_;refine tkS 24 34 rfl hHeld ?_;refine tkS 25 35 rfl hHeld ?_;refine tkS 26 36 rfl hHeld ?_;refine tkS 27 37 rfl hHeld ?_;refine tkS 28 38 rfl hHeld ?_;refine tkS 29 39 rfl hHeld ?_;refine tkS 30 40 rfl hHeld ?_;refine tkS 31 41 rfl hHeld ?_;refine tkS 32 42 rfl hHeld ?_;refine wpAnyH_done (by kernel_rfl) ?_ _;refine NoPanic.normal ?_;go_wp2_with fail;go_ret;exact ⟨by rw [HR.out]; rfl, below_trans HB0.out (below_drewN _ 1)⟩
  ·have hb1 : (x.h.n == m.B) = false := by simp [h1]
   have HR : Hid (fnR L m = -1) := by show _ = _; rw [HF.out, if_neg h1]
   clear h1;go_upto_region 2 with fail
   refine wp_region_noPanic ?_;refine wp_region_held_drew (S := fun wz => Below wx.heap.size wx wz) (by kernel_rfl) ?_ fun hHeld => ?_
   ·exact below_drewN wx 1
   refine tkS 0 10 rfl hHeld ?_;refine tkS 1 11 rfl hHeld ?_;refine tkS 2 12 rfl hHeld ?_;refine tkS 3 13 rfl hHeld ?_;refine tkS 4 14 rfl hHeld ?_;refine tkS 5 15 rfl hHeld ?_;refine tkS 6 16 rfl hHeld ?_;refine tkS 7 17 rfl hHeld ?_;refine tkS 8 18 rfl hHeld ?_;refine tkS 9 19 rfl hHeld ?_;refine tkS 10 20 rfl hHeld ?_;refine tkS 11 21 rfl hHeld ?_;refine tkS 12 22 rfl hHeld ?_;refine tkS 13 23 rfl hHeld ?_;refine tkS 14 24 rfl hHeld ?_;refine tkS 15 25 rfl hHeld ?_;refine tkS 16 26 rfl hHeld ?_;refine tkS 17 27 rfl hHeld ?_;refine tkS 18 28 rfl hHeld ?_;refine tkS 19 29 rfl hHeld ?_;refine tkS 20 30 rfl hHeld ?_;refine tuH 21 31 rfl hHeld ?_;try simp only [Act.put, zz]
   refine tuH 22 32 rfl hHeld ?_;try simp only [Act.put, zz]
   refine tuH 23 33 rfl hHeld ?_;try simp only [Act.put, zz]
   refine tuH 24 34 rfl hHeld ?_;try simp only [Act.put, zz]
   refine tuH 25 35 rfl hHeld ?_;try simp only [Act.put, zz]
   refine tuH 26 36 rfl hHeld ?_;try simp only [Act.put, zz]
   refine tuH 27 37 rfl hHeld ?_;try simp only [Act.put, zz]
   refine tuH 28 38 rfl hHeld ?_;try simp only [Act.put, zz]
   refine tuH 29 39 rfl hHeld ?_;try simp only [Act.put, zz]
   refine tuH 30 40 rfl hHeld ?_;try simp only [Act.put, zz]
   refine tuH 31 41 rfl hHeld ?_;try simp only [Act.put, zz]
   refine tkS 32 42 rfl hHeld ?_;refine wpAnyH_done (by kernel_rfl) ?_ _;refine NoPanic.normal ?_;go_wp2_with fail;go_ret;exact ⟨by rw [HR.out]; rfl, below_trans HB0.out (below_drewN _ 1)⟩
 ·have hai : ¬ (a : Int) < (L.length : Int) := by omega
  have hab : decide ((a : Int) < (L.length : Int)) = false := decide_eq_false hai;have HR : Hid (fnR L m = -1) := by show _ = _; rw [HF.out, List.getElem?_eq_none (by omega)]
  go_upto_region 2 with fail
  refine wp_region_noPanic ?_;refine wp_region_held_drew (S := fun wz => Below wx.heap.size wx wz) (by kernel_rfl) ?_ fun hHeld => ?_
  ·exact below_drewN wx 1
  refine tkS 0 10 rfl hHeld ?_;refine tkS 1 11 rfl hHeld ?_;refine tkS 2 12 rfl hHeld ?_;refine tkS 3 13 rfl hHeld ?_;refine tkS 4 14 rfl hHeld ?_;refine tkS 5 15 rfl hHeld ?_;refine tkS 6 16 rfl hHeld ?_;refine tkS 7 17 rfl hHeld ?_;refine tuH 8 18 rfl hHeld ?_;try simp only [Act.put, zz]
  refine tuH 9 19 rfl hHeld ?_;try simp only [Act.put, zz]
  refine tuH 10 20 rfl hHeld ?_;try simp only [Act.put, zz]
  refine tuH 11 21 rfl hHeld ?_;try simp only [Act.put, zz]
  refine tuH 12 22 rfl hHeld ?_;try simp only [Act.put, zz]
  refine tuH 13 23 rfl hHeld ?_;try simp only [Act.put, zz]
  refine tuH 14 24 rfl hHeld ?_;try simp only [Act.put, zz]
  refine tuH 15 25 rfl hHeld ?_;try simp only [Act.put, zz]
  refine tuH 16 26 rfl hHeld ?_;try simp only [Act.put, zz]
  refine tuH 17 27 rfl hHeld ?_;try simp only [Act.put, zz]
  refine tuH 18 28 rfl hHeld ?_;try simp only [Act.put, zz]
  refine tkS 19 29 rfl hHeld ?_;refine tkS 20 30 rfl hHeld ?_;refine tuH 21 31 rfl hHeld ?_;try simp only [Act.put, zz]
  refine tuH 22 32 rfl hHeld ?_;try simp only [Act.put, zz]
  refine tuH 23 33 rfl hHeld ?_;try simp only [Act.put, zz]
  refine tuH 24 34 rfl hHeld ?_;try simp only [Act.put, zz]
  refine tuH 25 35 rfl hHeld ?_;try simp only [Act.put, zz]
  refine tuH 26 36 rfl hHeld ?_;try simp only [Act.put, zz]
  refine tuH 27 37 rfl hHeld ?_;try simp only [Act.put, zz]
  refine tuH 28 38 rfl hHeld ?_;try simp only [Act.put, zz]
  refine tuH 29 39 rfl hHeld ?_;try simp only [Act.put, zz]
  refine tuH 30 40 rfl hHeld ?_;try simp only [Act.put, zz]
  refine tuH 31 41 rfl hHeld ?_;try simp only [Act.put, zz]
  refine tkS 32 42 rfl hHeld ?_;refine wpAnyH_done (by kernel_rfl) ?_ _;refine NoPanic.normal ?_;go_wp2_with fail;go_ret;exact ⟨by rw [HR.out]; rfl, below_trans HB0.out (below_drewN _ 1)⟩
end Go.Proofs.YtombjgfajbhbbaaGreat
