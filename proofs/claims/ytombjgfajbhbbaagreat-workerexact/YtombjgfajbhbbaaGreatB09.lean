/- A message in memory; contracts of what Sound leans on, and of Sound. -/
import Derived.Test.YtombjgfajbhbbaaGreatB08
set_option maxRecDepth 100000
set_option maxHeartbeats 16000000
namespace Go.Proofs.YtombjgfajbhbbaaGreat
open Go.RowKit
structure ML (w : World) (m : Ms) (ev qv pv : Value) : Prop where
 e : Sv .i64 w ev m.E
 q : Kv w qv m.Q
 p : Qv w pv m.P
theorem ML.below {w w' : World} {m : Ms} {ev qv pv : Value} (h : ML w m ev qv pv) (hb : Below w.heap.size w w') : ML w' m ev qv pv := ⟨h.e.below hb, h.q.below hb, h.p.below hb⟩
structure MX (w : World) (P : Nat) (m : Ms) (ev qv pv : Value) : Prop where
 c0 : w.cell? ⟨P, 0, none⟩ = some (.int .i64 m.K)
 c1 : w.cell? ⟨P, 1, none⟩ = some (.int .i64 m.F)
 c2 : w.cell? ⟨P, 2, none⟩ = some (.int .i64 m.T)
 c3 : w.cell? ⟨P, 3, none⟩ = some (.int .i64 m.B)
 c4 : w.cell? ⟨P, 4, none⟩ = some (.int .i64 m.A)
 c5 : w.cell? ⟨P, 5, none⟩ = some (.int .i64 m.C)
 c6 : w.cell? ⟨P, 6, none⟩ = some ev
 c7 : w.cell? ⟨P, 7, none⟩ = some qv
 c8 : w.cell? ⟨P, 8, none⟩ = some pv
 z : ∀ j, w.frozen? ⟨P, j, none⟩ = false
theorem MX.belowB {w w' : World} {B P : Nat} {m : Ms} {ev qv pv : Value} (h : MX w P m ev qv pv) (hb : Below B w w') (hl : P < B) : MX w' P m ev qv pv := by
 have k : ∀ j u, w.cell? ⟨P, j, none⟩ = some u → w'.cell? ⟨P, j, none⟩ = some u := fun j u hu => by rw [hb.cell (p := ⟨P, j, none⟩) hl]; exact hu
 exact ⟨k _ _ h.c0, k _ _ h.c1, k _ _ h.c2, k _ _ h.c3, k _ _ h.c4, k _ _ h.c5, k _ _ h.c6, k _ _ h.c7, k _ _ h.c8, fun j => by rw [hb.frozen (p := ⟨P, j, none⟩) hl]; exact h.z j⟩
theorem MX.keep {w w' : World} {P : Nat} {m : Ms} {ev qv pv : Value} (h : MX w P m ev qv pv) (hb : Below w.heap.size w w') : MX w' P m ev qv pv := h.belowB hb (cell_lt h.c0)
theorem mx_new (w : World) (m : Ms) (ev qv pv : Value) : MX (w.alloc (Obj.cells #[.int .i64 m.K, .int .i64 m.F, .int .i64 m.T, .int .i64 m.B, .int .i64 m.A, .int .i64 m.C, ev, qv, pv] 48)) w.heap.size m ev qv pv := by
 constructor <;> simp [go_sem]
theorem sv_le {k : IntKind} {w : World} {v : Value} {l : List Int} (h : Sv k w v l) : ∃ ao n cap, v = .slice ao n cap ∧ n = l.length ∧ l.length ≤ maxLen := by
 obtain ⟨ao, cap, e, h1, h2, _⟩ := h;exact ⟨ao, _, cap, e, rfl, by omega⟩
theorem qv_le {w : World} {v : Value} {l : List Pr} (h : Qv w v l) : ∃ ao n cap, v = .slice ao n cap ∧ n = l.length ∧ l.length ≤ maxLen := by
 obtain ⟨⟨ao, cap, e, h1, h2, _⟩, _⟩ := h;exact ⟨ao, _, cap, e, rfl, by omega⟩
theorem node_walk (x : Int) (w : World) : Calls Tryz.prog 60 #[.int .i64 x] w fun e w' => e = .returned (.bool (nodB x)) ∧ w' = w := by
 by_cases h1 : 0 ≤ x
 ·by_cases h2 : x < 9
  ·rw [show nodB x = true by simp [nodB, h1, h2]];go_in;go_wp2_with fail;go_ret;exact ⟨rfl, rfl⟩
  ·rw [show nodB x = false by simp [nodB]; omega];go_in;go_wp2_with fail;go_ret;exact ⟨rfl, rfl⟩
 ·rw [show nodB x = false by simp [nodB]; omega];go_in;go_wp2_with fail;go_ret;exact ⟨rfl, rfl⟩
theorem icount_walk (x : Int) (w : World) : Calls Tryz.prog 61 #[.int .i64 x] w fun e w' => e = .returned (.bool (ctB x)) ∧ w' = w := by
 by_cases h1 : 1 ≤ x
 ·by_cases h2 : x ≤ 1099511627776
  ·rw [show ctB x = true by simp [ctB, h1, h2]];go_in;go_wp2_with fail;go_ret;exact ⟨rfl, rfl⟩
  ·rw [show ctB x = false by simp [ctB]; omega];go_in;go_wp2_with fail;go_ret;exact ⟨rfl, rfl⟩
 ·rw [show ctB x = false by simp [ctB]; omega];go_in;go_wp2_with fail;go_ret;exact ⟨rfl, rfl⟩
theorem asks_walk (k : Int) (w : World) : Calls Tryz.prog 62 #[.int .i64 k] w fun e w' => e = .returned (.int .i64 (fld k : Nat)) ∧ w' = w := by
 by_cases h1 : k = 1
 ·subst h1;rw [show fld 1 = 1 by simp [fld]];go_in;go_wp2_with fail;go_ret;exact ⟨rfl, rfl⟩
 by_cases h2 : k = 2
 ·subst h2;rw [show fld 2 = 1 by simp [fld]];go_in;go_wp2_with fail;go_ret;exact ⟨rfl, rfl⟩
 by_cases h3 : k = 3
 ·subst h3;rw [show fld 3 = 1 by simp [fld]];go_in;go_wp2_with fail;go_ret;exact ⟨rfl, rfl⟩
 by_cases h8 : k = 8
 ·subst h8;rw [show fld 8 = 1 by simp [fld]];go_in;go_wp2_with fail;go_ret;exact ⟨rfl, rfl⟩
 by_cases h4 : k = 4
 ·subst h4;rw [show fld 4 = 2 by simp [fld]];go_in;go_wp2_with fail;go_ret;exact ⟨rfl, rfl⟩
 by_cases h6 : k = 6
 ·subst h6;rw [show fld 6 = 3 by simp [fld]];go_in;go_wp2_with fail;go_ret;exact ⟨rfl, rfl⟩
 by_cases h5 : k = 5
 ·subst h5;rw [show fld 5 = 4 by simp [fld]];go_in;go_wp2_with fail;go_ret;exact ⟨rfl, rfl⟩
 by_cases h7 : k = 7
 ·subst h7;rw [show fld 7 = 4 by simp [fld]];go_in;go_wp2_with fail;go_ret;exact ⟨rfl, rfl⟩
 rw [show fld k = 0 by simp [fld, h1, h2, h3, h8, h4, h6, h5, h7]];go_in;go_wp2_with fail;go_ret;exact ⟨rfl, rfl⟩
theorem len_beq {n : Nat} : ((n : Int) == 0) = decide (n = 0) := by
 by_cases h : n = 0
 ·subst h; rfl
 ·rw [decide_eq_false h, beq_eq_false_iff_ne]; omega
theorem bare_walk {w : World} {m : Ms} {ev qv pv : Value} (h : ML w m ev qv pv) (f : Nat) (hf : f ≤ 4) :
  Calls Tryz.prog 63 #[.int .i64 f, .agg #[.int .i64 m.K, .int .i64 m.F, .int .i64 m.T, .int .i64 m.B, .int .i64 m.A, .int .i64 m.C, ev, qv, pv]] w fun e w' => e = .returned (.bool (bareB f m)) ∧ Below w.heap.size w w' := by
 have HB : Hid (Below w.heap.size w (w.alloc (Obj.cells #[.int .i64 m.K, .int .i64 m.F, .int .i64 m.T, .int .i64 m.B, .int .i64 m.A, .int .i64 m.C, ev, qv, pv] 48))) := below_alloc _ _;obtain ⟨ea, en, ec, rfl, he, _⟩ := sv_le h.e;obtain ⟨qa, qn, qc, rfl, hq, _⟩ := sv_le h.q;obtain ⟨pa, pn, pc, rfl, hp, _⟩ := qv_le h.p;rw [ib_len] at hq;clear h;unfold bareB;rw [← he, ← hq, ← hp];clear he hq hp;obtain ⟨b1, h1⟩ : ∃ b, decide (en = 0) = b := ⟨_, rfl⟩;obtain ⟨b2, h2⟩ : ∃ b, decide (qn = 0) = b := ⟨_, rfl⟩;obtain ⟨b3, h3⟩ : ∃ b, decide (pn = 0) = b := ⟨_, rfl⟩;obtain ⟨b4, h4⟩ : ∃ b, decide (m.C = 0) = b := ⟨_, rfl⟩;have g1 : ((en : Int) == 0) = b1 := by rw [len_beq]; exact h1
 have g2 : ((qn : Int) == 0) = b2 := by rw [len_beq]; exact h2
 have g3 : ((pn : Int) == 0) = b3 := by rw [len_beq]; exact h3
 have g4 : (m.C == 0) = b4 := by rw [← h4]; rfl
 rw [h1, h2, h3, h4];clear h1 h2 h3 h4;have hf5 : f = 0 ∨ f = 1 ∨ f = 2 ∨ f = 3 ∨ f = 4 := by omega
 rcases hf5 with rfl | rfl | rfl | rfl | rfl
 ·clear hf
  cases b1
  ·go_in;go_wp2_with fail;go_ret;exact ⟨rfl, HB.out⟩
  ·cases b2
   ·go_in;go_wp2_with fail;go_ret;exact ⟨rfl, HB.out⟩
   ·cases b3
    ·go_in;go_wp2_with fail;go_ret;exact ⟨rfl, HB.out⟩
    ·cases b4
     ·go_in;go_wp2_with fail;go_ret;exact ⟨rfl, HB.out⟩
     ·go_in;go_wp2_with fail;go_ret;exact ⟨rfl, HB.out⟩
 ·clear hf
  cases b2
  ·go_in;go_wp2_with fail;go_ret;exact ⟨rfl, HB.out⟩
  ·cases b3
   ·go_in;go_wp2_with fail;go_ret;exact ⟨rfl, HB.out⟩
   ·cases b4
    ·go_in;go_wp2_with fail;go_ret;exact ⟨rfl, HB.out⟩
    ·go_in;go_wp2_with fail;go_ret;exact ⟨rfl, HB.out⟩
 ·clear hf
  cases b1
  ·go_in;go_wp2_with fail;go_ret;exact ⟨rfl, HB.out⟩
  ·cases b3
   ·go_in;go_wp2_with fail;go_ret;exact ⟨rfl, HB.out⟩
   ·cases b4
    ·go_in;go_wp2_with fail;go_ret;exact ⟨rfl, HB.out⟩
    ·go_in;go_wp2_with fail;go_ret;exact ⟨rfl, HB.out⟩
 ·clear hf
  cases b1
  ·go_in;go_wp2_with fail;go_ret;exact ⟨rfl, HB.out⟩
  ·cases b2
   ·go_in;go_wp2_with fail;go_ret;exact ⟨rfl, HB.out⟩
   ·cases b4
    ·go_in;go_wp2_with fail;go_ret;exact ⟨rfl, HB.out⟩
    ·go_in;go_wp2_with fail;go_ret;exact ⟨rfl, HB.out⟩
 ·clear hf
  cases b1
  ·go_in;go_wp2_with fail;go_ret;exact ⟨rfl, HB.out⟩
  ·cases b2
   ·go_in;go_wp2_with fail;go_ret;exact ⟨rfl, HB.out⟩
   ·cases b3
    ·go_in;go_wp2_with fail;go_ret;exact ⟨rfl, HB.out⟩
    ·go_in;go_wp2_with fail;go_ret;exact ⟨rfl, HB.out⟩
def AE (w : World) (l : List Int) (iv : Value) (wr : World) : Prop := ∃ i : Nat, i ≤ l.length ∧ iv = .int .i64 i ∧ (∀ j, (h : j < l.length) → j < i → 0 ≤ l[j] ∧ l[j] ≤ 256) ∧ wr = w
theorem ae_step {w : World} {l : List Int} {i : Nat} (hi : i < l.length) (h : ∀ j, (h : j < l.length) → j < i → 0 ≤ l[j] ∧ l[j] ≤ 256) (hg : 0 ≤ l[i] ∧ l[i] ≤ 256) : AE w l (.int .i64 ((i : Int) + 1)) w :=
 ⟨i + 1, hi, by simp, fun j hj hji => by
  rcases Nat.lt_or_ge j i with h2 | h2
  ·exact h j hj h2
  ·obtain rfl : j = i := by omega
   exact hg, rfl⟩
theorem end_yes {l : List Int} (h1 : 1 ≤ l.length) (h4 : l.length ≤ 4) (h : ∀ j, (h : j < l.length) → 0 ≤ l[j] ∧ l[j] ≤ 256) : endB l = true := by
 unfold endB;rw [decide_eq_true h1, decide_eq_true h4, Bool.true_and, Bool.true_and, List.all_eq_true];intro x hx;obtain ⟨i, hi, rfl⟩ := List.getElem_of_mem hx;have := h i hi;simp [this]
theorem end_no {l : List Int} {i : Nat} (hi : i < l.length) (h : l[i] < 0 ∨ 256 < l[i]) : endB l = false := by
 cases hb : endB l
 ·rfl
 ·simp only [endB, Bool.and_eq_true, List.all_eq_true] at hb;have := hb.2 l[i] (List.getElem_mem hi);simp at this;omega
theorem end_few {l : List Int} (h : l.length < 1 ∨ 4 < l.length) : endB l = false := by
 cases hb : endB l
 ·rfl
 ·simp [endB] at hb;omega
theorem sv_at {k : IntKind} {w : World} {ao : Option Addr} {n cap : Nat} {l : List Int} (h : Sv k w (.slice ao n cap) l) {i : Nat} (hi : i < l.length) : ∃ b off, ao = some ⟨b, off, none⟩ ∧ w.cell? ⟨b, off + i, none⟩ = some (.int k l[i]) := by
 obtain ⟨ao', cap', e, _, _, _, h4⟩ := h;simp only [Value.slice.injEq] at e;obtain ⟨b, off, e1, e2⟩ := h4 i hi;refine ⟨b, off, by rw [e.1]; exact e1, ?_⟩;rw [e2];simp [List.getD, List.getElem?_eq_getElem hi]
theorem areEnds_walk {w : World} {v : Value} {l : List Int} (h : Sv .i64 w v l) :
  Calls Tryz.prog 64 #[v] w fun e w' => e = .returned (.bool (endB l)) ∧ w' = w := by
 have HV : Hid (Sv .i64 w v l) := h;obtain ⟨ao, n, cap, rfl, hn, hm⟩ := sv_le h;have HN : Hid (n = l.length) := hn;clear h hm hn;by_cases h1 : n < 1
 ·have h1i : (n : Int) < 1 := by omega
  have HT : Hid (endB l = false) := end_few (.inl (by rw [← HN.out]; exact h1));clear h1;go_in;go_wp2_with fail;go_ret;exact ⟨ret_bool HT.out.symm, rfl⟩
 by_cases h4 : 4 < n
 ·have h4i : (4 : Int) < (n : Int) := by omega
  have HT : Hid (endB l = false) := end_few (.inr (by rw [← HN.out]; exact h4));have h1i : ¬ (n : Int) < 1 := by omega
  clear h4 h1;go_in;go_wp2_with fail;go_ret;exact ⟨ret_bool HT.out.symm, rfl⟩
 have h1i : ¬ (n : Int) < 1 := by omega
 have h4i : ¬ (4 : Int) < (n : Int) := by omega
 have H1 : Hid (1 ≤ l.length) := by have := HN.out; show _ ≤ _; omega
 have H4 : Hid (l.length ≤ 4) := by have := HN.out; show _ ≤ _; omega
 clear h1 h4;go_in;go_wp2_with fail;go_loopw [15] (fun iv wr => AE w l iv wr) (fun iv _ => l.length - (intOf iv).toNat)
 case atStart => exact ⟨0, Nat.zero_le _, rfl, fun j _ hj => by omega, rfl⟩
 case round =>
  obtain ⟨i, hi, rfl, hgood, rfl⟩ := hrel;have HG := hidH hgood;clear hgood;by_cases hlt : i < l.length
  ·have hlti : (i : Int) < (n : Int) := by have := HN.out; omega
   obtain ⟨b, off, rfl, hc⟩ := sv_at HV.out hlt;obtain ⟨x, hx⟩ : ∃ x, x = l[i] := ⟨_, rfl⟩;rw [← hx] at hc;have HX : Hid (x = l[i]) := hx;clear hx;by_cases hx0 : x < 0
   ·have HT : Hid (endB l = false) := end_no hlt (.inl (by rw [← HX.out]; exact hx0));go_wp2_with fail;go_ret;exact ⟨ret_bool HT.out.symm, rfl⟩
   by_cases hx1 : 256 < x
   ·have HT : Hid (endB l = false) := end_no hlt (.inr (by rw [← HX.out]; exact hx1));go_wp2_with fail;go_ret;exact ⟨ret_bool HT.out.symm, rfl⟩
   have R : Hid (AE wr l (.int .i64 ((i : Int) + 1)) wr) := ae_step hlt HG.out (by rw [← HX.out]; omega);go_wp2_with fail;go_roundw
   case rel => exact R.out
   case measure => simp [intOf]; omega
  ·have hlti : ¬ (i : Int) < (n : Int) := by have := HN.out; omega
   have HT : Hid (endB l = true) := end_yes H1.out H4.out fun j hj => HG.out j hj (by omega);go_wp2_with fail;go_ret;exact ⟨ret_bool HT.out.symm, rfl⟩
theorem snd_nf {m : Ms} (h : nodB m.F = false) : sndM m = false := by simp [sndM, h]
theorem snd_nt {m : Ms} (h : nodB m.T = false) : sndM m = false := by simp [sndM, h]
theorem snd_nb {m : Ms} (h : ctB m.B = false) : sndM m = false := by simp [sndM, h]
theorem snd_na {m : Ms} (h : ctB m.A = false) : sndM m = false := by simp [sndM, h]
theorem snd_bare {m : Ms} {f : Nat} (hf : fld m.K = f) (h : bareB f m = false) : sndM m = false := by subst hf; simp [sndM, h]
theorem snd_ask {m : Ms} {f : Nat} (hf : fld m.K = f) (h1 : nodB m.F = true) (h2 : nodB m.T = true) (h3 : ctB m.B = true) (h4 : ctB m.A = true) (h : bareB f m = true) : sndM m = askB f m := by subst hf; simp [sndM, h, h1, h2, h3, h4]
theorem sound_walkJ {w : World} {m : Ms} {ev qv pv : Value} (h : ML w m ev qv pv) :
  Calls Tryz.prog 27 #[.agg #[.int .i64 m.K, .int .i64 m.F, .int .i64 m.T, .int .i64 m.B, .int .i64 m.A, .int .i64 m.C, ev, qv, pv]] w fun e w' => e = .returned (.bool (sndM m)) ∧ Below w.heap.size w w' := by
 have HB : Hid (Below w.heap.size w (w.alloc (Obj.cells #[.int .i64 m.K, .int .i64 m.F, .int .i64 m.T, .int .i64 m.B, .int .i64 m.A, .int .i64 m.C, ev, qv, pv] 48))) := below_alloc _ _;have HV : Hid (ML (w.alloc (Obj.cells #[.int .i64 m.K, .int .i64 m.F, .int .i64 m.T, .int .i64 m.B, .int .i64 m.A, .int .i64 m.C, ev, qv, pv] 48)) m ev qv pv) := h.below (below_alloc _ _);obtain ⟨wx, hwx⟩ : ∃ wx, wx = w.alloc (Obj.cells #[.int .i64 m.K, .int .i64 m.F, .int .i64 m.T, .int .i64 m.B, .int .i64 m.A, .int .i64 m.C, ev, qv, pv] 48) := ⟨_, rfl⟩;have HMX : Hid (MX wx w.heap.size m ev qv pv) := by rw [hwx]; exact mx_new w m ev qv pv
 have HWX : Hid (wx = w.alloc (Obj.cells #[.int .i64 m.K, .int .i64 m.F, .int .i64 m.T, .int .i64 m.B, .int .i64 m.A, .int .i64 m.C, ev, qv, pv] 48)) := hwx;clear hwx;obtain ⟨ea, en, ec, rfl, he, _⟩ := sv_le h.e;obtain ⟨qa, qn, qc, rfl, hq, _⟩ := sv_le h.q;obtain ⟨pa, pn, pc, rfl, hp, hpm⟩ := qv_le h.p;rw [ib_len] at hq;have HEN : Hid (en = m.E.length) := he;have HQN : Hid (qn = m.Q.length) := hq;have HPN : Hid (pn = m.P.length) := hp;have HPM := hidH hpm;clear h he hq hp hpm
 cases hF : nodB m.F
 ·rw [snd_nf hF];go_in;go_wp2_with fail;refine (node_walk m.F _).mono ?_;rw [hF];rintro e w2 ⟨rfl, hw2⟩;replace hw2 := hw2.symm;subst hw2;go_wp2_with fail;go_ret;exact ⟨rfl, HB.out⟩
 cases hT : nodB m.T
 ·rw [snd_nt hT];go_in;go_wp2_with fail;refine (node_walk m.F _).mono ?_;rw [hF];rintro e w2 ⟨rfl, hw2⟩;replace hw2 := hw2.symm;subst hw2;go_wp2_with fail;refine (node_walk m.T _).mono ?_;rw [hT];rintro e w2 ⟨rfl, hw2⟩;replace hw2 := hw2.symm;subst hw2;go_wp2_with fail;go_ret;exact ⟨rfl, HB.out⟩
 cases hB : ctB m.B
 ·rw [snd_nb hB];go_in;go_wp2_with fail;refine (node_walk m.F _).mono ?_;rw [hF];rintro e w2 ⟨rfl, hw2⟩;replace hw2 := hw2.symm;subst hw2;go_wp2_with fail;refine (node_walk m.T _).mono ?_;rw [hT];rintro e w2 ⟨rfl, hw2⟩;replace hw2 := hw2.symm;subst hw2;go_wp2_with fail;refine (icount_walk m.B _).mono ?_;rw [hB];rintro e w2 ⟨rfl, hw2⟩;replace hw2 := hw2.symm;subst hw2;go_wp2_with fail;go_ret;exact ⟨rfl, HB.out⟩
 cases hA : ctB m.A
 ·rw [snd_na hA];go_in;go_wp2_with fail;refine (node_walk m.F _).mono ?_;rw [hF];rintro e w2 ⟨rfl, hw2⟩;replace hw2 := hw2.symm;subst hw2;go_wp2_with fail;refine (node_walk m.T _).mono ?_;rw [hT];rintro e w2 ⟨rfl, hw2⟩;replace hw2 := hw2.symm;subst hw2;go_wp2_with fail;refine (icount_walk m.B _).mono ?_;rw [hB];rintro e w2 ⟨rfl, hw2⟩;replace hw2 := hw2.symm;subst hw2;go_wp2_with fail;refine (icount_walk m.A _).mono ?_;rw [hA];rintro e w2 ⟨rfl, hw2⟩;replace hw2 := hw2.symm;subst hw2;go_wp2_with fail;go_ret;exact ⟨rfl, HB.out⟩
 rcases fld_cases m.K with hf | hf | hf | hf | hf
 ·cases hb : bareB 0 m
  ·rw [snd_bare hf hb];go_in;go_wp2_with fail;refine (node_walk m.F _).mono ?_;rw [hF];rintro e w2 ⟨rfl, hw2⟩;replace hw2 := hw2.symm;subst hw2;go_wp2_with fail;refine (node_walk m.T _).mono ?_;rw [hT];rintro e w2 ⟨rfl, hw2⟩;replace hw2 := hw2.symm;subst hw2;go_wp2_with fail;refine (icount_walk m.B _).mono ?_;rw [hB];rintro e w2 ⟨rfl, hw2⟩;replace hw2 := hw2.symm;subst hw2;go_wp2_with fail;refine (icount_walk m.A _).mono ?_;rw [hA];rintro e w2 ⟨rfl, hw2⟩;replace hw2 := hw2.symm;subst hw2;go_wp2_with fail;refine (asks_walk m.K _).mono ?_;rw [hf];rintro e w2 ⟨rfl, hw2⟩;replace hw2 := hw2.symm;subst hw2;go_wp2_with fail;refine (bare_walk HV.out 0 (by decide)).mono ?_;rw [hb];rintro e w3 ⟨rfl, hB3⟩;go_wp2_with fail;go_ret;exact ⟨rfl, below_trans HB.out hB3⟩
  ·rw [snd_ask hf hF hT hB hA hb];rw [ask_zero];go_in;go_wp2_with fail;refine (node_walk m.F _).mono ?_;rw [hF];rintro e w2 ⟨rfl, hw2⟩;replace hw2 := hw2.symm;subst hw2;go_wp2_with fail;refine (node_walk m.T _).mono ?_;rw [hT];rintro e w2 ⟨rfl, hw2⟩;replace hw2 := hw2.symm;subst hw2;go_wp2_with fail;refine (icount_walk m.B _).mono ?_;rw [hB];rintro e w2 ⟨rfl, hw2⟩;replace hw2 := hw2.symm;subst hw2;go_wp2_with fail;refine (icount_walk m.A _).mono ?_;rw [hA];rintro e w2 ⟨rfl, hw2⟩;replace hw2 := hw2.symm;subst hw2;go_wp2_with fail;refine (asks_walk m.K _).mono ?_;rw [hf];rintro e w2 ⟨rfl, hw2⟩;replace hw2 := hw2.symm;subst hw2;go_wp2_with fail;refine (bare_walk HV.out 0 (by decide)).mono ?_;rw [hb];rintro e w3 ⟨rfl, hB3⟩;go_wp2_with fail;go_ret;exact ⟨rfl, below_trans HB.out hB3⟩
 ·cases hb : bareB 1 m
  ·rw [snd_bare hf hb];go_in;go_wp2_with fail;refine (node_walk m.F _).mono ?_;rw [hF];rintro e w2 ⟨rfl, hw2⟩;replace hw2 := hw2.symm;subst hw2;go_wp2_with fail;refine (node_walk m.T _).mono ?_;rw [hT];rintro e w2 ⟨rfl, hw2⟩;replace hw2 := hw2.symm;subst hw2;go_wp2_with fail;refine (icount_walk m.B _).mono ?_;rw [hB];rintro e w2 ⟨rfl, hw2⟩;replace hw2 := hw2.symm;subst hw2;go_wp2_with fail;refine (icount_walk m.A _).mono ?_;rw [hA];rintro e w2 ⟨rfl, hw2⟩;replace hw2 := hw2.symm;subst hw2;go_wp2_with fail;refine (asks_walk m.K _).mono ?_;rw [hf];rintro e w2 ⟨rfl, hw2⟩;replace hw2 := hw2.symm;subst hw2;go_wp2_with fail;refine (bare_walk HV.out 1 (by decide)).mono ?_;rw [hb];rintro e w3 ⟨rfl, hB3⟩;go_wp2_with fail;go_ret;exact ⟨rfl, below_trans HB.out hB3⟩
  ·rw [snd_ask hf hF hT hB hA hb];rw [show askB 1 m = endB m.E by simp [askB]];go_in;go_wp2_with fail;refine (node_walk m.F _).mono ?_;rw [hF];rintro e w2 ⟨rfl, hw2⟩;replace hw2 := hw2.symm;subst hw2;go_wp2_with fail;refine (node_walk m.T _).mono ?_;rw [hT];rintro e w2 ⟨rfl, hw2⟩;replace hw2 := hw2.symm;subst hw2;go_wp2_with fail;refine (icount_walk m.B _).mono ?_;rw [hB];rintro e w2 ⟨rfl, hw2⟩;replace hw2 := hw2.symm;subst hw2;go_wp2_with fail;refine (icount_walk m.A _).mono ?_;rw [hA];rintro e w2 ⟨rfl, hw2⟩;replace hw2 := hw2.symm;subst hw2;go_wp2_with fail;refine (asks_walk m.K _).mono ?_;rw [hf];rintro e w2 ⟨rfl, hw2⟩;replace hw2 := hw2.symm;subst hw2;go_wp2_with fail;refine (bare_walk HV.out 1 (by decide)).mono ?_;rw [hb];rintro e w3 ⟨rfl, hB3⟩;have hM := HMX.out.keep (by rw [HWX.out]; exact hB3);have HV3 := hidH (HV.out.below hB3);have HB3 := hidH (below_trans HB.out hB3);have x6 := hM.c6;clear hM hB3;go_wp2_with fail;refine (areEnds_walk HV3.out.e).mono ?_;rintro e w4 ⟨rfl, rfl⟩;go_wp2_with fail;go_ret;exact ⟨rfl, HB3.out⟩
 ·cases hb : bareB 2 m
  ·rw [snd_bare hf hb];go_in;go_wp2_with fail;refine (node_walk m.F _).mono ?_;rw [hF];rintro e w2 ⟨rfl, hw2⟩;replace hw2 := hw2.symm;subst hw2;go_wp2_with fail;refine (node_walk m.T _).mono ?_;rw [hT];rintro e w2 ⟨rfl, hw2⟩;replace hw2 := hw2.symm;subst hw2;go_wp2_with fail;refine (icount_walk m.B _).mono ?_;rw [hB];rintro e w2 ⟨rfl, hw2⟩;replace hw2 := hw2.symm;subst hw2;go_wp2_with fail;refine (icount_walk m.A _).mono ?_;rw [hA];rintro e w2 ⟨rfl, hw2⟩;replace hw2 := hw2.symm;subst hw2;go_wp2_with fail;refine (asks_walk m.K _).mono ?_;rw [hf];rintro e w2 ⟨rfl, hw2⟩;replace hw2 := hw2.symm;subst hw2;go_wp2_with fail;refine (bare_walk HV.out 2 (by decide)).mono ?_;rw [hb];rintro e w3 ⟨rfl, hB3⟩;go_wp2_with fail;go_ret;exact ⟨rfl, below_trans HB.out hB3⟩
  ·rw [snd_ask hf hF hT hB hA hb];rw [show askB 2 m = (decide (m.Q.length ≤ 64) && risB m.Q) by simp [askB]];by_cases h64 : qn ≤ 64
   ·have h64i : (qn : Int) ≤ 64 := by omega
    rw [← HQN.out, decide_eq_true h64, Bool.true_and];clear h64;go_in;go_wp2_with fail;refine (node_walk m.F _).mono ?_;rw [hF];rintro e w2 ⟨rfl, hw2⟩;replace hw2 := hw2.symm;subst hw2;go_wp2_with fail;refine (node_walk m.T _).mono ?_;rw [hT];rintro e w2 ⟨rfl, hw2⟩;replace hw2 := hw2.symm;subst hw2;go_wp2_with fail;refine (icount_walk m.B _).mono ?_;rw [hB];rintro e w2 ⟨rfl, hw2⟩;replace hw2 := hw2.symm;subst hw2;go_wp2_with fail;refine (icount_walk m.A _).mono ?_;rw [hA];rintro e w2 ⟨rfl, hw2⟩;replace hw2 := hw2.symm;subst hw2;go_wp2_with fail;refine (asks_walk m.K _).mono ?_;rw [hf];rintro e w2 ⟨rfl, hw2⟩;replace hw2 := hw2.symm;subst hw2;go_wp2_with fail;refine (bare_walk HV.out 2 (by decide)).mono ?_;rw [hb];rintro e w3 ⟨rfl, hB3⟩;have hM := HMX.out.keep (by rw [HWX.out]; exact hB3);have HV3 := hidH (HV.out.below hB3);have HB3 := hidH (below_trans HB.out hB3);have x7 := hM.c7;clear hM hB3;go_wp2_with fail;refine (ris_walk HV3.out.q).mono ?_;rintro e w4 ⟨rfl, hB4⟩;go_wp2_with fail;go_ret;exact ⟨rfl, below_trans HB3.out hB4⟩
   ·have h64i : ¬ (qn : Int) ≤ 64 := by omega
    rw [← HQN.out, decide_eq_false h64, Bool.false_and];clear h64;go_in;go_wp2_with fail;refine (node_walk m.F _).mono ?_;rw [hF];rintro e w2 ⟨rfl, hw2⟩;replace hw2 := hw2.symm;subst hw2;go_wp2_with fail;refine (node_walk m.T _).mono ?_;rw [hT];rintro e w2 ⟨rfl, hw2⟩;replace hw2 := hw2.symm;subst hw2;go_wp2_with fail;refine (icount_walk m.B _).mono ?_;rw [hB];rintro e w2 ⟨rfl, hw2⟩;replace hw2 := hw2.symm;subst hw2;go_wp2_with fail;refine (icount_walk m.A _).mono ?_;rw [hA];rintro e w2 ⟨rfl, hw2⟩;replace hw2 := hw2.symm;subst hw2;go_wp2_with fail;refine (asks_walk m.K _).mono ?_;rw [hf];rintro e w2 ⟨rfl, hw2⟩;replace hw2 := hw2.symm;subst hw2;go_wp2_with fail;refine (bare_walk HV.out 2 (by decide)).mono ?_;rw [hb];rintro e w3 ⟨rfl, hB3⟩;have hM := HMX.out.keep (by rw [HWX.out]; exact hB3);have HV3 := hidH (HV.out.below hB3);have HB3 := hidH (below_trans HB.out hB3);have x7 := hM.c7;clear hM hB3;go_wp2_with fail;go_ret;exact ⟨rfl, HB3.out⟩
 ·cases hb : bareB 3 m
  ·rw [snd_bare hf hb];go_in;go_wp2_with fail;refine (node_walk m.F _).mono ?_;rw [hF];rintro e w2 ⟨rfl, hw2⟩;replace hw2 := hw2.symm;subst hw2;go_wp2_with fail;refine (node_walk m.T _).mono ?_;rw [hT];rintro e w2 ⟨rfl, hw2⟩;replace hw2 := hw2.symm;subst hw2;go_wp2_with fail;refine (icount_walk m.B _).mono ?_;rw [hB];rintro e w2 ⟨rfl, hw2⟩;replace hw2 := hw2.symm;subst hw2;go_wp2_with fail;refine (icount_walk m.A _).mono ?_;rw [hA];rintro e w2 ⟨rfl, hw2⟩;replace hw2 := hw2.symm;subst hw2;go_wp2_with fail;refine (asks_walk m.K _).mono ?_;rw [hf];rintro e w2 ⟨rfl, hw2⟩;replace hw2 := hw2.symm;subst hw2;go_wp2_with fail;refine (bare_walk HV.out 3 (by decide)).mono ?_;rw [hb];rintro e w3 ⟨rfl, hB3⟩;go_wp2_with fail;go_ret;exact ⟨rfl, below_trans HB.out hB3⟩
  ·rw [snd_ask hf hF hT hB hA hb];rw [show askB 3 m = (decide (m.P.length ≤ 64) && tabB m.P) by simp [askB]];by_cases h64 : pn ≤ 64
   ·have h64i : (pn : Int) ≤ 64 := by omega
    rw [← HPN.out, decide_eq_true h64, Bool.true_and];clear h64;go_in;go_wp2_with fail;refine (node_walk m.F _).mono ?_;rw [hF];rintro e w2 ⟨rfl, hw2⟩;replace hw2 := hw2.symm;subst hw2;go_wp2_with fail;refine (node_walk m.T _).mono ?_;rw [hT];rintro e w2 ⟨rfl, hw2⟩;replace hw2 := hw2.symm;subst hw2;go_wp2_with fail;refine (icount_walk m.B _).mono ?_;rw [hB];rintro e w2 ⟨rfl, hw2⟩;replace hw2 := hw2.symm;subst hw2;go_wp2_with fail;refine (icount_walk m.A _).mono ?_;rw [hA];rintro e w2 ⟨rfl, hw2⟩;replace hw2 := hw2.symm;subst hw2;go_wp2_with fail;refine (asks_walk m.K _).mono ?_;rw [hf];rintro e w2 ⟨rfl, hw2⟩;replace hw2 := hw2.symm;subst hw2;go_wp2_with fail;refine (bare_walk HV.out 3 (by decide)).mono ?_;rw [hb];rintro e w3 ⟨rfl, hB3⟩;have hM := HMX.out.keep (by rw [HWX.out]; exact hB3);have HV3 := hidH (HV.out.below hB3);have HB3 := hidH (below_trans HB.out hB3);have x8 := hM.c8;clear hM hB3;go_wp2_with fail;rw [HPN.out];refine (fsound_walk (ao := pa) (ca := pc) HPM.out HV3.out.p.ql).mono ?_;rintro e w4 ⟨rfl, hB4⟩;go_wp2_with fail;go_ret;exact ⟨rfl, below_trans HB3.out hB4⟩
   ·have h64i : ¬ (pn : Int) ≤ 64 := by omega
    rw [← HPN.out, decide_eq_false h64, Bool.false_and];clear h64;go_in;go_wp2_with fail;refine (node_walk m.F _).mono ?_;rw [hF];rintro e w2 ⟨rfl, hw2⟩;replace hw2 := hw2.symm;subst hw2;go_wp2_with fail;refine (node_walk m.T _).mono ?_;rw [hT];rintro e w2 ⟨rfl, hw2⟩;replace hw2 := hw2.symm;subst hw2;go_wp2_with fail;refine (icount_walk m.B _).mono ?_;rw [hB];rintro e w2 ⟨rfl, hw2⟩;replace hw2 := hw2.symm;subst hw2;go_wp2_with fail;refine (icount_walk m.A _).mono ?_;rw [hA];rintro e w2 ⟨rfl, hw2⟩;replace hw2 := hw2.symm;subst hw2;go_wp2_with fail;refine (asks_walk m.K _).mono ?_;rw [hf];rintro e w2 ⟨rfl, hw2⟩;replace hw2 := hw2.symm;subst hw2;go_wp2_with fail;refine (bare_walk HV.out 3 (by decide)).mono ?_;rw [hb];rintro e w3 ⟨rfl, hB3⟩;have hM := HMX.out.keep (by rw [HWX.out]; exact hB3);have HV3 := hidH (HV.out.below hB3);have HB3 := hidH (below_trans HB.out hB3);have x8 := hM.c8;clear hM hB3;go_wp2_with fail;go_ret;exact ⟨rfl, HB3.out⟩
 ·cases hb : bareB 4 m
  ·rw [snd_bare hf hb];go_in;go_wp2_with fail;refine (node_walk m.F _).mono ?_;rw [hF];rintro e w2 ⟨rfl, hw2⟩;replace hw2 := hw2.symm;subst hw2;go_wp2_with fail;refine (node_walk m.T _).mono ?_;rw [hT];rintro e w2 ⟨rfl, hw2⟩;replace hw2 := hw2.symm;subst hw2;go_wp2_with fail;refine (icount_walk m.B _).mono ?_;rw [hB];rintro e w2 ⟨rfl, hw2⟩;replace hw2 := hw2.symm;subst hw2;go_wp2_with fail;refine (icount_walk m.A _).mono ?_;rw [hA];rintro e w2 ⟨rfl, hw2⟩;replace hw2 := hw2.symm;subst hw2;go_wp2_with fail;refine (asks_walk m.K _).mono ?_;rw [hf];rintro e w2 ⟨rfl, hw2⟩;replace hw2 := hw2.symm;subst hw2;go_wp2_with fail;refine (bare_walk HV.out 4 (by decide)).mono ?_;rw [hb];rintro e w3 ⟨rfl, hB3⟩;go_wp2_with fail;go_ret;exact ⟨rfl, below_trans HB.out hB3⟩
  ·rw [snd_ask hf hF hT hB hA hb];rw [show askB 4 m = (decide (0 ≤ m.C) && decide (m.C ≤ 1000)) by simp [askB]];by_cases h0 : 0 ≤ m.C
   ·rw [decide_eq_true h0, Bool.true_and];go_in;go_wp2_with fail;refine (node_walk m.F _).mono ?_;rw [hF];rintro e w2 ⟨rfl, hw2⟩;replace hw2 := hw2.symm;subst hw2;go_wp2_with fail;refine (node_walk m.T _).mono ?_;rw [hT];rintro e w2 ⟨rfl, hw2⟩;replace hw2 := hw2.symm;subst hw2;go_wp2_with fail;refine (icount_walk m.B _).mono ?_;rw [hB];rintro e w2 ⟨rfl, hw2⟩;replace hw2 := hw2.symm;subst hw2;go_wp2_with fail;refine (icount_walk m.A _).mono ?_;rw [hA];rintro e w2 ⟨rfl, hw2⟩;replace hw2 := hw2.symm;subst hw2;go_wp2_with fail;refine (asks_walk m.K _).mono ?_;rw [hf];rintro e w2 ⟨rfl, hw2⟩;replace hw2 := hw2.symm;subst hw2;go_wp2_with fail;refine (bare_walk HV.out 4 (by decide)).mono ?_;rw [hb];rintro e w3 ⟨rfl, hB3⟩;have hM := HMX.out.keep (by rw [HWX.out]; exact hB3);have HV3 := hidH (HV.out.below hB3);have HB3 := hidH (below_trans HB.out hB3);have x5 := hM.c5;clear hM hB3;go_wp2_with fail;go_ret;exact ⟨rfl, HB3.out⟩
   ·rw [decide_eq_false h0, Bool.false_and];go_in;go_wp2_with fail;refine (node_walk m.F _).mono ?_;rw [hF];rintro e w2 ⟨rfl, hw2⟩;replace hw2 := hw2.symm;subst hw2;go_wp2_with fail;refine (node_walk m.T _).mono ?_;rw [hT];rintro e w2 ⟨rfl, hw2⟩;replace hw2 := hw2.symm;subst hw2;go_wp2_with fail;refine (icount_walk m.B _).mono ?_;rw [hB];rintro e w2 ⟨rfl, hw2⟩;replace hw2 := hw2.symm;subst hw2;go_wp2_with fail;refine (icount_walk m.A _).mono ?_;rw [hA];rintro e w2 ⟨rfl, hw2⟩;replace hw2 := hw2.symm;subst hw2;go_wp2_with fail;refine (asks_walk m.K _).mono ?_;rw [hf];rintro e w2 ⟨rfl, hw2⟩;replace hw2 := hw2.symm;subst hw2;go_wp2_with fail;refine (bare_walk HV.out 4 (by decide)).mono ?_;rw [hb];rintro e w3 ⟨rfl, hB3⟩;have hM := HMX.out.keep (by rw [HWX.out]; exact hB3);have HV3 := hidH (HV.out.below hB3);have HB3 := hidH (below_trans HB.out hB3);have x5 := hM.c5;clear hM hB3;go_wp2_with fail;go_ret;exact ⟨rfl, HB3.out⟩
end Go.Proofs.YtombjgfajbhbbaaGreat
