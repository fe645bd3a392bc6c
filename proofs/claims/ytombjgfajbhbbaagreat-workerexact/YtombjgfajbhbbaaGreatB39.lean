/- The reference's With: a table with a part more. -/
import Derived.Test.YtombjgfajbhbbaaGreatB28
set_option maxRecDepth 100000
set_option maxHeartbeats 16000000
namespace Go.Proofs.YtombjgfajbhbbaaGreat
open Go.RowKit
section
open Ieee Go.RowKit

def Ow (w : World) (g cap : Nat) (t : List Pr) : Prop := (∃ cur, w.heap[g]? = some (.cells cur 66 (0, 0)) ∧ cur.size = cap * 3) ∧ t.length ≤ cap ∧ cap ≤ maxLen ∧ Mq w g t
theorem ow_of_own {w : World} {base g n cap : Nat} {t : List Pr} (h : w.ownsRow base 66 3 (.slice (some ⟨g, 0, none⟩) n cap) n (flatQ t)) : Ow w g cap t ∧ base ≤ g ∧ n = t.length := by
 have hm := own_mq h;obtain ⟨h1, h2⟩ := h;rw [flatQ_len] at h1;rcases h2 with ⟨h, _⟩ | ⟨g', cap', cur, e1, hb, hg, hnc, hcm, hcs, _⟩
 ·cases h
 ·simp only [Value.slice.injEq, Option.some.injEq, Addr.mk.injEq] at e1;obtain ⟨⟨rfl, _⟩, _, rfl⟩ := e1;exact ⟨⟨⟨cur, hg, hcs⟩, by omega, hcm, hm⟩, hb, by omega⟩
theorem own_of_ow {w : World} {base g cap : Nat} {t : List Pr} (h : Ow w g cap t) (hb : base ≤ g) : w.ownsRow base 66 3 (.slice (some ⟨g, 0, none⟩) t.length cap) t.length (flatQ t) := by
 obtain ⟨⟨cur, hg, hcs⟩, hl, hm, hM⟩ := h;refine ⟨flatQ_len t, .inr ⟨g, cap, cur, rfl, hb, hg, hl, hm, hcs, ?_⟩⟩;apply List.ext_getElem?;intro j;by_cases hj : j < t.length * 3
 ·rw [List.getElem?_take, if_pos hj, Array.getElem?_toList];obtain ⟨f0, f1, f2⟩ := flatQ_get t (j / 3) (by omega);obtain ⟨⟨a, b, c⟩, _⟩ := hM (j / 3) (by omega);have key : ∀ o, w.cell? ⟨g, o, none⟩ = cur[o]? := fun o => cell_of_row w g o cur 66 (0, 0) hg;rw [key] at a b c;have hmod : j % 3 = 0 ∨ j % 3 = 1 ∨ j % 3 = 2 := by omega
  rcases hmod with h | h | h
  ·have e : j / 3 * 3 = j := by omega
   rw [e] at a f0; rw [a, f0]
  ·have e : j / 3 * 3 + 1 = j := by omega
   rw [e] at b f1; rw [b, f1]
  ·have e : j / 3 * 3 + 2 = j := by omega
   rw [e] at c f2; rw [c, f2]
 ·rw [List.getElem?_take, if_neg hj, List.getElem?_eq_none (by rw [flatQ_len]; omega)]
theorem row_set {w : World} {g n o : Nat} (u : Value) (h : ∃ cur, w.heap[g]? = some (.cells cur 66 (0, 0)) ∧ cur.size = n) : ∃ cur, (w.setCell ⟨g, o, none⟩ u).heap[g]? = some (.cells cur 66 (0, 0)) ∧ cur.size = n := by
 obtain ⟨cur, hg, hs⟩ := h;rw [Sort.setCell_eq];refine ⟨cur.setIfInBounds o u, ?_, by simpa using hs⟩;simp [Sort.mapBlock, Array.getElem?_modify, hg, Sort.onCells]
theorem Ow.set {w : World} {g cap : Nat} {t : List Pr} (h : Ow w g cap t) {j : Nat} (hj : j < t.length) (o : Pr) :
  Ow (((w.setCell ⟨g, j * 3, none⟩ (.int .u64 o.k)).setCell ⟨g, j * 3 + 1, none⟩ (.bool o.v.h)).setCell ⟨g, j * 3 + 2, none⟩ (.int .u64 o.v.b)) g cap (t.set j o) := by
 obtain ⟨h1, h2, h3, h4⟩ := h;exact ⟨row_set _ (row_set _ (row_set _ h1)), by simpa using h2, h3, h4.set hj o⟩
theorem Ow.below {w w' : World} {g cap : Nat} {t : List Pr} (h : Ow w g cap t) (hb : Below w.heap.size w w') : Ow w' g cap t := by
 obtain ⟨⟨cur, hg, hs⟩, h2, h3, h4⟩ := h;have hl : g < w.heap.size := (Array.getElem?_eq_some_iff.1 hg).1;exact ⟨⟨cur, by rw [hb.block g hl]; exact hg, hs⟩, h2, h3, h4.below hb hl⟩
theorem Ow.lt {w : World} {g cap : Nat} {t : List Pr} (h : Ow w g cap t) : g < w.heap.size := by
 obtain ⟨⟨cur, hg, _⟩, _⟩ := h;exact (Array.getElem?_eq_some_iff.1 hg).1
theorem Ow.setv {w : World} {g cap : Nat} {t : List Pr} (h : Ow w g cap t) {j : Nat} (hj : j < t.length) (v : Vl) :
  Ow ((w.setCell ⟨g, j * 3 + 1, none⟩ (.bool v.h)).setCell ⟨g, j * 3 + 2, none⟩ (.int .u64 v.b)) g cap (t.set j ⟨t[j].k, v⟩) := by
 obtain ⟨h1, h2, h3, h4⟩ := h;refine ⟨row_set _ (row_set _ h1), by simpa using h2, h3, ?_⟩;obtain ⟨⟨a, b, c⟩, d, e, f⟩ := h4 j hj;intro i hi;rw [List.length_set] at hi;obtain ⟨⟨a', b', c'⟩, d', e', f'⟩ := h4 i hi;by_cases hij : j = i
 ·subst hij;rw [List.getElem_set_self];refine ⟨⟨?_, ?_, ?_⟩, ?_, ?_, ?_⟩ <;> simp [go_sem, a, b, c, d, e, f]
 ·rw [List.getElem_set_ne hij];have k0 : ∀ (p q : Nat) (v : Value) (w : World), ¬ p = q → (w.setCell ⟨g, p, none⟩ v).cell? ⟨g, q, none⟩ = w.cell? ⟨g, q, none⟩ := fun p q v w hne => World.cell?_setCell_other w _ _ v (by rintro ⟨⟩; exact hne rfl);refine ⟨⟨?_, ?_, ?_⟩, ?_, ?_, ?_⟩
  ·rw [k0 _ _ _ _ (by omega), k0 _ _ _ _ (by omega)]; exact a'
  ·rw [k0 _ _ _ _ (by omega), k0 _ _ _ _ (by omega)]; exact b'
  ·rw [k0 _ _ _ _ (by omega), k0 _ _ _ _ (by omega)]; exact c'
  all_goals simp [go_sem, d', e', f']
def posT (k : Nat) : List Pr → Nat
 | [] => 0
 | p :: t => if p.k < k then posT k t + 1 else 0
theorem pos_le (k : Nat) (t : List Pr) : posT k t ≤ t.length := by
 induction t with
 | nil => exact Nat.le_refl _
 | cons p t ih => unfold posT; split <;> simp; exact ih
theorem pos_at {k : Nat} {t : List Pr} {i : Nat} (h : ∀ j, (hj : j < t.length) → j < i → t[j].k < k) (hi : i ≤ t.length) (hn : ∀ hl : i < t.length, ¬ t[i].k < k) : posT k t = i := by
 induction t generalizing i with
 | nil => simp at hi; subst hi; rfl
 | cons p t ih =>
  cases i with
  | zero => exact if_neg (hn (by simp))
  | succ i =>
   have e : posT k (p :: t) = posT k t + 1 := if_pos (h 0 (by simp) (by omega));rw [e];congr 1;exact ih (fun j hj hji => h (j + 1) (by simpa using hj) (by omega)) (by simpa using hi) (fun hl => hn (by simpa using hl))
theorem put_found {k : Nat} {t : List Pr} (v : Vl) (h : posT k t < t.length) (he : t[posT k t].k = k) : putT k v t = t.set (posT k t) ⟨k, v⟩ ∧ getT k t = t[posT k t].v := by
 induction t with
 | nil => simp at h
 | cons p t ih =>
  by_cases hp : p.k < k
  ·have e : posT k (p :: t) = posT k t + 1 := if_pos hp;have hl : posT k t < t.length := by rw [e] at h; simpa using h
   have he' : t[posT k t].k = k := by simpa [e] using he
   obtain ⟨i1, i2⟩ := ih hl he';constructor
   ·unfold putT;rw [if_neg (by omega), if_neg (by omega), i1];simp [e]
   ·show (if p.k = k then p.v else getT k t) = _;rw [if_neg (by omega), i2];simp [e]
  ·have e : posT k (p :: t) = 0 := if_neg hp;have he' : p.k = k := by simpa [e] using he
   constructor
   ·unfold putT;rw [if_neg (by omega), if_pos he'.symm];simp [e]
   ·show (if p.k = k then p.v else getT k t) = _;rw [if_pos he'];simp [e]
theorem put_new {k : Nat} {t : List Pr} (ht : Rise t) (v : Vl) (h : ∀ hl : posT k t < t.length, t[posT k t].k ≠ k) : putT k v t = t.take (posT k t) ++ ⟨k, v⟩ :: t.drop (posT k t) ∧ getT k t = noV := by
 induction t with
 | nil => exact ⟨rfl, rfl⟩
 | cons p t ih =>
  obtain ⟨h1, h2⟩ := List.pairwise_cons.1 ht;by_cases hp : p.k < k
  ·have e : posT k (p :: t) = posT k t + 1 := if_pos hp;obtain ⟨i1, i2⟩ := ih h2 (fun hl => by have := h (by rw [e]; simpa using hl); simpa [e] using this);constructor
   ·unfold putT;rw [if_neg (by omega), if_neg (by omega), i1, e];simp
   ·show (if p.k = k then p.v else getT k t) = _;rw [if_neg (by omega), i2]
  ·have e : posT k (p :: t) = 0 := if_neg hp;have hne : p.k ≠ k := by have := h (by rw [e]; simp); simpa [e] using this
   constructor
   ·unfold putT;rw [if_pos (by omega), e];simp
   ·refine get_none fun q hq => ?_;rcases List.mem_cons.1 hq with rfl | hq
    ·exact hne
    ·have := h1 q hq; omega
def Pl (w : World) (t : List Pr) (k : Nat) (iv : Value) (wr : World) : Prop := ∃ i : Nat, i ≤ t.length ∧ iv = .int .i64 i ∧ (∀ j, (hj : j < t.length) → j < i → t[j].k < k) ∧ Below w.heap.size w wr
theorem rplace_walk {ao : Option Addr} {ca : Nat} {t : List Pr} {w : World} (hl : t.length ≤ maxLen) (ha : Ql w ao t) (k : Nat) :
  Calls Tryz.prog 124 #[.slice ao t.length ca, .int .u64 k] w fun e w' => e = .returned (.int .i64 (posT k t)) ∧ Below w.heap.size w w' := by
 have hli : (t.length : Int) ≤ 9223372036854775807 := by simp only [maxLen] at hl; omega
 have HA : Hid (Ql w ao t) := ha;clear ha hl;go_in;go_wp2_with fail;go_loopw [5] (fun iv wr => Pl w t k iv wr) (fun iv _ => t.length - (intOf iv).toNat)
 case atStart => exact ⟨0, Nat.zero_le _, rfl, fun j hj h => by omega, below_same _⟩
 case round =>
  obtain ⟨i, hi, rfl, hall, hB⟩ := hrel;have HN := hidH hall;have HB := hidH hB;clear hall hB;by_cases hlt : i < t.length
  ·obtain ⟨b, off, rfl, c0, c1, c2⟩ := HA.out.below HB.out i hlt;obtain ⟨o, hoe⟩ : ∃ o, o = t[i] := ⟨_, rfl⟩;rw [← hoe] at c0 c1 c2;have HE : Hid (o = t[i]) := hoe;have hil : (i : Int) < (t.length : Int) := by omega
   clear hoe;by_cases hk : o.k < k
   ·have R' : Pl w t k (.int .i64 ((i : Int) + 1)) wr := ⟨i + 1, hlt, by simp, fun j hj hji => by
     rcases Nat.lt_or_ge j i with h2 | h2
     ·exact HN.out j hj h2
     ·obtain rfl : j = i := by omega
      rw [← HE.out]; exact hk, HB.out⟩
    have hkb : (o.k : Int) < (k : Int) := by omega
    clear hk;go_wp2_with fail;go_roundw
    case rel => exact R'
    case measure => simp [intOf]; omega
   ·have HP : Hid (posT k t = i) := pos_at HN.out hi (fun hl => by rw [← HE.out]; exact hk);have hkb : ¬ ((o.k : Int) < (k : Int)) := by omega
    clear hk;go_wp2_with fail;go_ret;exact ⟨by rw [HP.out]; rfl, HB.out⟩
  ·have HP : Hid (posT k t = i) := pos_at HN.out hi (fun hl => absurd hl hlt);have hil : ¬ ((i : Int) < (t.length : Int)) := by omega
   go_wp2_with fail;go_ret;exact ⟨by rw [HP.out]; rfl, HB.out⟩
end
section
open Ieee Go.RowKit

attribute [local go_sem] run_bits run_frombits
theorem rmerge_walk (k : Int) {a b : Vl} (ha : a.ok) (hb : b.ok) (w : World) :
  Calls Tryz.prog 125 #[.int .i64 k, .agg #[.bool a.h, .int .u64 a.b], .agg #[.bool b.h, .int .u64 b.b]] w fun e w' => e = .returned (.agg #[.bool (mergeV k a b).h, .int .u64 (mergeV k a b).b]) ∧ Below w.heap.size w w' := by
 unfold mergeV;obtain ⟨A, hA⟩ : ∃ A, A = fitV k a := ⟨_, rfl⟩;obtain ⟨B, hB⟩ : ∃ B, B = fitV k b := ⟨_, rfl⟩;have HA : Hid (A = fitV k a) := hA;have HB : Hid (B = fitV k b) := hB;have HAO : Hid A.ok := by rw [hA]; exact fitV_ok k ha
 have HBO : Hid B.ok := by rw [hB]; exact fitV_ok k hb
 rw [← hA, ← hB];clear hA hB;go_in;go_wp2_with fail;refine (rfit_walk k ha _).mono ?_;rw [← HA.out];rintro e w2 ⟨rfl, hB2⟩;obtain ⟨HSZ, HBW, HVA, HVB, HVC⟩ := merge_start (w := w) (a := a) (b := b) rfl;have GA2 := HVA.out.below hB2 (cell_lt HVA.out.c0);have GB2 := HVB.out.below hB2 (cell_lt HVB.out.c0);have GC2 := HVC.out.below hB2 (cell_lt HVC.out.c0);have GW2 := below_trans HBW.out hB2;have GA3 : Hid (VB ((w2.setCell ⟨w.heap.size, 0, none⟩ (.bool A.h)).setCell ⟨w.heap.size, 1, none⟩ (.int .u64 A.b)) w.heap.size A) := GA2.set _ _;have GB3 : Hid (VB ((w2.setCell ⟨w.heap.size, 0, none⟩ (.bool A.h)).setCell ⟨w.heap.size, 1, none⟩ (.int .u64 A.b)) (w.heap.size + 1) b) := (GB2.other (by simp) _).other (by simp) _;have GC3 : Hid (VB ((w2.setCell ⟨w.heap.size, 0, none⟩ (.bool A.h)).setCell ⟨w.heap.size, 1, none⟩ (.int .u64 A.b)) (w.heap.size + 1 + 1) noV) := (GC2.other (by simp; omega) _).other (by simp; omega) _;have GW3 : Hid (Below w.heap.size w ((w2.setCell ⟨w.heap.size, 0, none⟩ (.bool A.h)).setCell ⟨w.heap.size, 1, none⟩ (.int .u64 A.b))) := keep_store GW2 _ (Nat.le_refl _) _ _;obtain ⟨c0, c1, z0, z1⟩ := GA2;obtain ⟨d0, d1, y0, y1⟩ := GB2;clear hB2 GC2 GW2 HSZ HBW HVA HVB HVC;go_wp2_with fail;generalize hg : (w2.setCell ⟨w.heap.size, 0, none⟩ (.bool A.h)).setCell ⟨w.heap.size, 1, none⟩ (.int .u64 A.b) = w3 at GA3 GB3 GC3 GW3 ⊢;clear hg c0 c1 z0 z1 d0 d1 y0 y1;refine (rfit_walk k hb _).mono ?_;rw [← HB.out];rintro e w4 ⟨rfl, hB4⟩;have GA4 := GA3.out.below hB4 (cell_lt GA3.out.c0);have GB4 := GB3.out.below hB4 (cell_lt GB3.out.c0);have GC4 := GC3.out.below hB4 (cell_lt GC3.out.c0);have GW4 := below_trans GW3.out hB4;have GA : Hid (VB ((w4.setCell ⟨w.heap.size + 1, 0, none⟩ (.bool B.h)).setCell ⟨w.heap.size + 1, 1, none⟩ (.int .u64 B.b)) w.heap.size A) := (GA4.other (by simp) _).other (by simp) _;have GB : Hid (VB ((w4.setCell ⟨w.heap.size + 1, 0, none⟩ (.bool B.h)).setCell ⟨w.heap.size + 1, 1, none⟩ (.int .u64 B.b)) (w.heap.size + 1) B) := GB4.set _ _;have GC : Hid (VB ((w4.setCell ⟨w.heap.size + 1, 0, none⟩ (.bool B.h)).setCell ⟨w.heap.size + 1, 1, none⟩ (.int .u64 B.b)) (w.heap.size + 1 + 1) noV) := (GC4.other (by simp) _).other (by simp) _;have GW : Hid (Below w.heap.size w ((w4.setCell ⟨w.heap.size + 1, 0, none⟩ (.bool B.h)).setCell ⟨w.heap.size + 1, 1, none⟩ (.int .u64 B.b))) := keep_store GW4 _ (Nat.le_succ _) _ _;obtain ⟨d0, d1, y0, y1⟩ := GB4;clear hB4 GC4 GW4 GA3 GB3 GC3 GW3 GA4 HA HB;have HN2 : Hid (w.heap.size ≤ w.heap.size + 1 + 1) := by show _ ≤ _; omega
 generalize hg : (w4.setCell ⟨w.heap.size + 1, 0, none⟩ (.bool B.h)).setCell ⟨w.heap.size + 1, 1, none⟩ (.int .u64 B.b) = w5 at GA GB GC GW;obtain ⟨a0, a1, _, _⟩ := GA.out;obtain ⟨b0, b1, _, _⟩ := GB.out;obtain ⟨e0, e1, x0, x1⟩ := GC.out
 cases hAh : A.h
 ·rw [hAh] at a0;have EJ : Hid (joinV k A B = B) := by show _ = _; unfold joinV; rw [if_pos hAh]
  clear hAh;go_wp2_with fail;refine bodyPost_ret (v := .agg #[.bool B.h, .int .u64 B.b]) (by simp [results, Tryz.results125, go_sem, e0, e1]) rfl ⟨by rw [EJ.out], ?_⟩;exact keep_store GW.out _ HN2.out _ _
 cases hBh : B.h
 ·rw [hAh] at a0;rw [hBh] at b0;have EJ : Hid (joinV k A B = A) := by show _ = _; unfold joinV; rw [if_neg (by simp [hAh]), if_pos hBh]
  have HAh : Hid (A.h = true) := hAh;clear hAh;rw [hBh] at hg;clear hBh;go_wp2_with fail;refine bodyPost_ret (v := .agg #[.bool true, .int .u64 A.b]) (by simp [results, Tryz.results125, go_sem, e0, e1]) rfl ⟨by rw [EJ.out, HAh.out], ?_⟩;exact keep_store GW.out _ HN2.out _ _
 rw [hAh] at a0;rw [hBh] at b0;rw [hBh] at hg;by_cases h3 : k = 3
 ·subst h3;have EJ : Hid (joinV 3 A B = ⟨true, leastW A.b B.b⟩) := by show _ = _; unfold joinV; rw [if_neg (by simp [hAh]), if_neg (by simp [hBh]), if_pos rfl]
  have EO : Hid (ofV 3 (leastW A.b B.b) = ⟨true, leastW A.b B.b⟩) := by show _ = _; unfold ofV; rw [if_neg (by omega), if_neg (by omega), if_pos (by omega), canonW_leastW]
  have HL : Hid (leastW A.b B.b < 18446744073709551616) := leastW_lt HAO.out HBO.out;clear hAh hBh
  go_wp2_with (first
   | (go_at_call 136; refine (from_walk _ _).mono ?_; rintro e w' ⟨rfl, rfl⟩)
   | (go_at_call 163; refine (rleast_walk HAO.out HBO.out _).mono ?_; rintro e w' ⟨rfl, rfl⟩))
  refine (rof_walk 3 HL.out _).mono ?_;rw [EO.out];rintro e w6 ⟨rfl, hB6⟩;obtain ⟨e0, e1, x0, x1⟩ := GC.out.below hB6 (cell_lt GC.out.c0);have HB6 := Lib.hid hB6;clear hB6;go_wp2_with fail;refine bodyPost_ret (v := .agg #[.bool true, .int .u64 (leastW A.b B.b)]) (by simp [results, Tryz.results125, go_sem, e0, e1]) rfl ⟨by rw [EJ.out], ?_⟩;exact keep_store (below_trans GW.out HB6.out) _ HN2.out _ _
 by_cases h4 : k = 4
 ·subst h4;have EJ : Hid (joinV 4 A B = ⟨true, mostW A.b B.b⟩) := by show _ = _; unfold joinV; rw [if_neg (by simp [hAh]), if_neg (by simp [hBh]), if_neg (by omega), if_pos rfl]
  have EO : Hid (ofV 4 (mostW A.b B.b) = ⟨true, mostW A.b B.b⟩) := by show _ = _; unfold ofV; rw [if_neg (by omega), if_neg (by omega), if_pos (by omega), canonW_mostW]
  have HL : Hid (mostW A.b B.b < 18446744073709551616) := mostW_lt HAO.out HBO.out;clear hAh hBh
  go_wp2_with (first
   | (go_at_call 136; refine (from_walk _ _).mono ?_; rintro e w' ⟨rfl, rfl⟩)
   | (go_at_call 164; refine (rmost_walk HAO.out HBO.out _).mono ?_; rintro e w' ⟨rfl, rfl⟩))
  refine (rof_walk 4 HL.out _).mono ?_;rw [EO.out];rintro e w6 ⟨rfl, hB6⟩;obtain ⟨e0, e1, x0, x1⟩ := GC.out.below hB6 (cell_lt GC.out.c0);have HB6 := Lib.hid hB6;clear hB6;go_wp2_with fail;refine bodyPost_ret (v := .agg #[.bool true, .int .u64 (mostW A.b B.b)]) (by simp [results, Tryz.results125, go_sem, e0, e1]) rfl ⟨by rw [EJ.out], ?_⟩;exact keep_store (below_trans GW.out HB6.out) _ HN2.out _ _
 ·have EJ : Hid (joinV k A B = ⟨true, (A.b + B.b) % 18446744073709551616⟩) := by show _ = _; unfold joinV; rw [if_neg (by simp [hAh]), if_neg (by simp [hBh]), if_neg h3, if_neg h4]
  have es : IntKind.u64.wrap ((A.b : Int) + (B.b : Int)) = (((A.b + B.b) % 18446744073709551616 : Nat) : Int) := by rw [IntKind.wrap_u64]; omega
  obtain ⟨sm, hsm⟩ : ∃ sm, sm = (A.b + B.b) % 18446744073709551616 := ⟨_, rfl⟩;rw [← hsm] at es;have HS : Hid (sm = (A.b + B.b) % 18446744073709551616) := hsm;clear hsm;have b3 := neq_b h3;have b4 := neq_b h4;clear hAh hBh h3 h4;go_wp2_with (go_at_call 136; refine (from_walk _ _).mono ?_; rintro e w' ⟨rfl, rfl⟩);refine bodyPost_ret (v := .agg #[.bool true, .int .u64 sm]) (by simp [results, Tryz.results125, go_sem, e0, e1]) rfl ⟨by rw [EJ.out, HS.out], ?_⟩;exact keep_store GW.out _ HN2.out _ _
end
section
open Ieee Go.RowKit

theorem mq_ql {w : World} {g : Nat} {m : List Pr} (h : Mq w g m) : Ql w (some ⟨g, 0, none⟩) m := fun i hi => by
 obtain ⟨⟨a, b, c⟩, _⟩ := h i hi;exact ⟨g, 0, rfl, by simpa using a, by simpa using b, by simpa using c⟩
def zP : Pr := ⟨0, noV⟩
theorem wpList_append_qg {P : Program} {w : World} {ops : Array Oper} {rest : List Oper} {o : Oper} {a : Act} {Q : Exit → Act → World → Prop} (hgd : o.guard = none) (s x : Operand) (t : TypeId)
  (ho : o.op = .call { callee := .builtin .append, args := #[s, x], argTypes := #[t, t] })
  (base : Nat) (e : TypeId) (i0 : TypeInfo) (ht : P.underlying t = some (.slice e)) (hi : P.info? e = some i0) (hz0 : i0.zero = some (.agg #[.int .u64 0, .bool false, .int .u64 0])) (hz1 : i0.size = 3) (hz2 : i0.bytes = 24)
  (v : Value) (n : Nat) (m : List Pr) (hs : a.eval s = v) (hown : w.ownsRow base e 3 v n (flatQ m))
  (q : Nat) (r : Pr) (hx : a.eval x = .slice (some ⟨q, 0, none⟩) 1 1) (h0 : w.cell? ⟨q, 0, none⟩ = some (.int .u64 r.k)) (h1 : w.cell? ⟨q, 1, none⟩ = some (.bool r.v.h)) (h2 : w.cell? ⟨q, 2, none⟩ = some (.int .u64 r.v.b)) (h63 : n + 1 ≤ maxLen) (hb : (n + 1) * 24 ≤ 140737488355328) (hbase : base ≤ w.heap.size)
  (h : ∀ g cap w', w'.ownsRow base e 3 (.slice (some ⟨g, 0, none⟩) (n + 1) cap) (n + 1) (flatQ (m ++ [r])) → w.grownBy w' v.ownBlock → wpList P ops Q rest (a.put o.dst (.slice (some ⟨g, 0, none⟩) (n + 1) cap)) w') : wpList P ops Q (o :: rest) a w := by
 refine wpList_append_own w hgd s x t ho base e i0 (.agg #[.int .u64 0, .bool false, .int .u64 0]) 3 24 ht hi hz0 hz1 hz2 rfl (by decide) v n (flatQ m) hs hown ⟨q, 0, none⟩ 1 1 [.int .u64 r.k, .bool r.v.h, .int .u64 r.v.b] hx rfl (pair_cells h0 h1 h2) ?_ h63 hb hbase
  (fun v' w' h1 h2 _ => ?_)
 ·intro u hu;simp at hu;rcases hu with rfl | rfl | rfl <;> rfl
 ·rcases h1.2 with ⟨_, h⟩ | ⟨g, cap, cur, e1, _⟩
  ·omega
  ·subst e1;exact h g cap w' (by rw [flatQ_append]; exact h1) h2
def Wh (w : World) (B g cap vb : Nat) (v : Vl) (t : List Pr) (at_ : Nat) (iv : Value) (wr : World) : Prop :=
 ∃ (i : Nat) (x : Pr), at_ ≤ i ∧ i ≤ t.length ∧ iv = .int .i64 i ∧ Ow wr g cap (t.take i ++ x :: t.drop i) ∧ VB wr vb v ∧ Below B w wr
theorem shift_step {t : List Pr} {j : Nat} (hj : j < t.length) (x : Pr) : (t.take (j + 1) ++ x :: t.drop (j + 1)).set (j + 1) t[j] = t.take j ++ t[j] :: t.drop j := by
 have hl : (t.take (j + 1)).length = j + 1 := by simp; omega
 rw [List.set_append_right _ _ (by omega), hl, Nat.sub_self, List.set_cons_zero, List.take_succ_eq_append_getElem hj, List.append_assoc];rw [List.drop_eq_getElem_cons hj];rfl
theorem shift_get {t : List Pr} {j : Nat} (hj : j < t.length) (x : Pr) (h : j < (t.take (j + 1) ++ x :: t.drop (j + 1)).length) : (t.take (j + 1) ++ x :: t.drop (j + 1))[j] = t[j] := by
 rw [List.getElem_append_left (by simp; omega), List.getElem_take]
theorem shift_len {t : List Pr} {i : Nat} (hi : i ≤ t.length) (x : Pr) : (t.take i ++ x :: t.drop i).length = t.length + 1 := by simp; omega
theorem shift_end {t : List Pr} {i : Nat} (hi : i ≤ t.length) (x y : Pr) : (t.take i ++ x :: t.drop i).set i y = t.take i ++ y :: t.drop i := by
 have hl : (t.take i).length = i := by simp; omega
 rw [List.set_append_right _ _ (by omega), hl, Nat.sub_self, List.set_cons_zero]
theorem keep3 {B g : Nat} {w wr : World} (h : Below B w wr) (hg : B ≤ g) (o1 o2 o3 : Nat) (u1 u2 u3 : Value) : Below B w (((wr.setCell ⟨g, o1, none⟩ u1).setCell ⟨g, o2, none⟩ u2).setCell ⟨g, o3, none⟩ u3) := ((h.setCell hg u1).setCell hg u2).setCell hg u3
theorem below_both {B : Nat} {w w1 w2 : World} (h : Below B w w1) (hB : B ≤ w1.heap.size) (k : Below w1.heap.size w1 w2) : Below B w w2 := ⟨k.os.trans h.os, k.tape.trans h.tape, k.output.trans h.output, Nat.le_trans h.size k.size, fun i hi => (k.block i (Nat.lt_of_lt_of_le hi hB)).trans (h.block i hi)⟩
theorem with_found (kind : Int) {g cap B k : Nat} {t : List Pr} {v : Vl} (w : World) (hO : Ow w g cap t) (hB : B ≤ g) (ht : okT t) (hv : v.ok) (hat : posT k t < t.length) (hke : t[posT k t].k = k) :
  Calls Tryz.prog 105 #[.int .i64 kind, .slice (some ⟨g, 0, none⟩) t.length cap, .int .u64 k, .agg #[.bool v.h, .int .u64 v.b]] w fun e w' => ∃ g' cap', e = .returned (.slice (some ⟨g', 0, none⟩) (withT kind k v t).length cap') ∧ Ow w' g' cap' (withT kind k v t) ∧ B ≤ g' ∧ Below B w w' := by
 have HO : Hid (Ow w g cap t) := hO;have HBG : Hid (B ≤ g) := hB;have HV : Hid v.ok := hv;have HL : Hid (t.length ≤ maxLen) := Nat.le_trans hO.2.1 hO.2.2.1;have hli : (t.length : Int) ≤ 9223372036854775807 := by have := HL.out; simp only [maxLen] at this; omega
 obtain ⟨p, hpe⟩ : ∃ p, p = t[posT k t] := ⟨_, rfl⟩;have HPE : Hid (p = t[posT k t]) := hpe;have HPO : Hid p.ok := by show p.ok; rw [hpe]; exact ht _ (List.getElem_mem hat)
 have hpk : p.k = k := by rw [hpe]; exact hke
 obtain ⟨M, hM⟩ : ∃ M, M = mergeV kind p.v v := ⟨_, rfl⟩;have HM : Hid (mergeV kind p.v v = M) := hM.symm
 have HW : Hid (withT kind k v t = t.set (posT k t) ⟨t[posT k t].k, M⟩) := by
  show _ = _;unfold withT;rw [(put_found (mergeV kind (getT k t) v) hat hke).1, (put_found noV hat hke).2, ← hpe, ← hM, hpk]
 have HWL : Hid ((withT kind k v t).length = t.length) := by show _ = _; rw [HW.out]; simp
 clear hpe hM hke hO hv ht;have hai : ((posT k t : Nat) : Int) < (t.length : Int) := by omega
 go_in;go_wp2_with fail;have hv0 : VB (w.alloc (Obj.cells #[.bool v.h, .int .u64 v.b] 64)) w.heap.size v := by constructor <;> simp [go_sem]
 refine (rplace_walk HL.out (mq_ql (HO.out.below (below_alloc w (Obj.cells #[.bool v.h, .int .u64 v.b] 64))).2.2.2) k).mono ?_;rintro e w1 ⟨rfl, hB1⟩;have HB1 : Hid (Below w.heap.size w w1) := below_trans (below_alloc _ _) hB1;have HV1 : Hid (VB w1 w.heap.size v) := hv0.below hB1 (cell_lt hv0.c0);have HO1 : Hid (Ow w1 g cap t) := HO.out.below HB1.out;clear hB1 hv0
 have HSF : Hid (∀ wx, Below w1.heap.size w1 wx → wx.cell? ⟨w.heap.size, 0, none⟩ = some (.bool v.h) ∧ wx.cell? ⟨w.heap.size, 1, none⟩ = some (.int .u64 v.b)) := fun wx h => by
  have := HV1.out.below h (cell_lt HV1.out.c0);exact ⟨this.c0, this.c1⟩
 have HSS : Hid (∀ wx, Below w1.heap.size w1 wx → ((wx.setCell ⟨g, posT k t * 3 + 1, none⟩ (.bool M.h)).setCell ⟨g, posT k t * 3 + 2, none⟩ (.int .u64 M.b)).cell? ⟨w.heap.size, 0, none⟩ = some (.bool v.h) ∧ ((wx.setCell ⟨g, posT k t * 3 + 1, none⟩ (.bool M.h)).setCell ⟨g, posT k t * 3 + 2, none⟩ (.int .u64 M.b)).cell? ⟨w.heap.size, 1, none⟩ = some (.int .u64 v.b)) := fun wx h => by
  obtain ⟨s0, s1⟩ := HSF.out wx h;have n1 : w.heap.size ≠ g := by have := HO.out.lt; omega
  have e0 : ∀ (p : Addr) (u : Value) (wy : World), p.block ≠ g → ∀ o, (wy.setCell ⟨g, o, none⟩ u).cell? p = wy.cell? p := fun p u wy hp o => World.cell?_of_block (w := wy) (Below.heap_setCell wy ⟨g, o, none⟩ u p.block hp);exact ⟨by rw [e0 _ _ _ n1, e0 _ _ _ n1]; exact s0, by rw [e0 _ _ _ n1, e0 _ _ _ n1]; exact s1⟩
 obtain ⟨⟨m0, _, _⟩, _⟩ := HO1.out.2.2.2 (posT k t) hat;rw [← HPE.out] at m0;have hkb : ((p.k : Int) == (k : Int)) = true := by simp; omega
 clear hpk;go_wp2_with fail;clear m0 hkb;refine wp_region_noPanic ?_;have hSd : Below w1.heap.size w1 w1.drew := (Below.refl _ _).drew;refine wp_region_held_drew (S := fun wx => wx.cell? ⟨w.heap.size, 0, none⟩ = some (.bool v.h) ∧ wx.cell? ⟨w.heap.size, 1, none⟩ = some (.int .u64 v.b)) (by kernel_rfl) ?_ fun hHeld => ?_
 ·exact HSF.out _ hSd
 refine tvH 0 27 ?_ rfl ?_ (by assumption) ?_;rotate_left
 ·intro w hSw; (try dsimp only at hSw); obtain ⟨s0, s1⟩ := hSw; go_simp; all_goals (with_reducible rfl)
 try simp only [Act.put, zz]
 refine tvH 1 28 ?_ rfl ?_ (by assumption) ?_;rotate_left
 ·intro w hSw; (try dsimp only at hSw); obtain ⟨s0, s1⟩ := hSw; go_simp; all_goals (with_reducible rfl)
 try simp only [Act.put, zz]
 refine tvH 2 29 ?_ rfl ?_ (by assumption) ?_;rotate_left
 ·intro w hSw; (try dsimp only at hSw); obtain ⟨s0, s1⟩ := hSw; go_simp; all_goals (with_reducible rfl)
 try simp only [Act.put, zz]
 refine tvH 3 30 ?_ rfl ?_ (by assumption) ?_;rotate_left
 ·intro w hSw; (try dsimp only at hSw); obtain ⟨s0, s1⟩ := hSw; go_simp; all_goals (with_reducible rfl)
 try simp only [Act.put, zz]
 refine tvH 4 31 ?_ rfl ?_ (by assumption) ?_;rotate_left
 ·intro w hSw; (try dsimp only at hSw); obtain ⟨s0, s1⟩ := hSw; go_simp; all_goals (with_reducible rfl)
 try simp only [Act.put, zz]
 refine tvH 5 32 ?_ rfl ?_ (by assumption) ?_;rotate_left
 ·intro w hSw; (try dsimp only at hSw); obtain ⟨s0, s1⟩ := hSw; go_simp; all_goals (with_reducible rfl)
 try simp only [Act.put, zz]
 refine tvH 6 33 ?_ rfl ?_ (by assumption) ?_;rotate_left
 ·intro w hSw; (try dsimp only at hSw); obtain ⟨s0, s1⟩ := hSw; go_simp; all_goals (with_reducible rfl)
 try simp only [Act.put, zz]
 refine tvH 8 35 ?_ rfl ?_ (by assumption) ?_;rotate_left
 ·intro w hSw; (try dsimp only at hSw); obtain ⟨s0, s1⟩ := hSw; go_simp; all_goals (with_reducible rfl)
 try simp only [Act.put, zz]
 refine rdH 7 34 rfl fun K hK => ?_;obtain ⟨⟨_, x1, x2⟩, _⟩ := (HO1.out.below hSd).2.2.2 (posT k t) hat;rw [← HPE.out] at x1 x2;go_simp;refine hK.out _ _ ?_ fun hHeld => ?_
 ·exact HSF.out _ hSd
 clear hK K x1 x2;try simp only [Act.put, zz]
 refine rdH 9 36 rfl fun K hK => ?_;go_simp;refine (rmerge_walk kind HPO.out.2 HV.out _).mono ?_;rw [HM.out];rintro e w5 ⟨rfl, hB5⟩;have hS5 : Below w1.heap.size w1 w5 := below_trans hSd hB5;clear hB5;go_simp;refine hK.out _ _ ?_ fun hHeld => ?_
 ·exact HSF.out _ hS5
 clear hK K;try simp only [Act.put, zz]
 refine tvH 10 37 ?_ rfl ?_ (by assumption) ?_;rotate_left
 ·intro w hSw; (try dsimp only at hSw); obtain ⟨s0, s1⟩ := hSw; go_simp; all_goals (with_reducible rfl)
 try simp only [Act.put, zz]
 refine tvH 11 38 ?_ rfl ?_ (by assumption) ?_;rotate_left
 ·intro w hSw; (try dsimp only at hSw); obtain ⟨s0, s1⟩ := hSw; go_simp; all_goals (with_reducible rfl)
 try simp only [Act.put, zz]
 refine wpAnyH_ready (rs := [12]) (by kernel_rfl) (by simp) ?_;refine AllReadyH.cons (o := ⟨none, _, _, _, _, _⟩) rfl (fun K hK => ?_) AllReadyH.nil;obtain ⟨⟨_, x1, x2⟩, _, y1, y2⟩ := (HO1.out.below hS5).2.2.2 (posT k t) hat;go_simp;have R' := (HO1.out.below hS5).setv hat M;refine hK.out _ _ ?_ fun hHeld => ?_
 ·exact HSS.out _ hS5
 clear hK K x1 x2 y1 y2;try simp only [Act.put, zz]
 refine wpAnyH_done (by kernel_rfl) ?_ _;refine NoPanic.normal ?_;go_wp2_with fail;go_ret;refine ⟨g, cap, ?_, ?_, HBG.out, ?_⟩
 ·rw [HWL.out]; rfl
 ·rw [HW.out]; exact R'
 ·exact ((below_both ((HB1.out.mono (Nat.le_trans HBG.out (Nat.le_of_lt HO.out.lt)))) (Nat.le_trans HBG.out (Nat.le_of_lt HO1.out.lt)) hS5).setCell (p := ⟨g, posT k t * 3 + 1, none⟩) HBG.out _).setCell (p := ⟨g, posT k t * 3 + 2, none⟩) HBG.out _
end
end Go.Proofs.YtombjgfajbhbbaaGreat
