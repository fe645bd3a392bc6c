/- Contracts of the reference's Field and Sound. -/
import Derived.Test.YtombjgfajbhbbaaGreatB09
set_option maxRecDepth 100000
set_option maxHeartbeats 16000000
namespace Go.Proofs.YtombjgfajbhbbaaGreat
open Go.RowKit
theorem field_walk (k : Int) (w : World) : Calls Tryz.prog 72 #[.int .i64 k] w fun e w' => e = .returned (.int .i64 (fld k : Nat)) ∧ w' = w := by
 by_cases h1 : k = 1
 ·subst h1;rw [show fld 1 = 1 by simp [fld]];go_in;go_wp2_with fail;go_ret;exact ⟨rfl, rfl⟩
 by_cases h2 : k = 2
 ·subst h2;rw [show fld 2 = 1 by simp [fld]];go_in;go_wp2_with fail;go_ret;exact ⟨rfl, rfl⟩
 by_cases h3 : k = 3
 ·subst h3;rw [show fld 3 = 1 by simp [fld]];go_in;go_wp2_with fail;go_ret;exact ⟨rfl, rfl⟩
 by_cases h8 : k = 8
 ·subst h8;rw [show fld 8 = 1 by simp [fld]];go_in;go_wp2_with fail;go_ret;exact ⟨rfl, rfl⟩
 by_cases h4 : k = 4
 ·subst h4;rw [show fld 4 = 2 by simp [fld]];go_in;go_wp2_with fail;go_ret;exact ⟨rfl, rfl⟩
 by_cases h6 : k = 6
 ·subst h6;rw [show fld 6 = 3 by simp [fld]];go_in;go_wp2_with fail;go_ret;exact ⟨rfl, rfl⟩
 by_cases h5 : k = 5
 ·subst h5;rw [show fld 5 = 4 by simp [fld]];go_in;go_wp2_with fail;go_ret;exact ⟨rfl, rfl⟩
 by_cases h7 : k = 7
 ·subst h7;rw [show fld 7 = 4 by simp [fld]];go_in;go_wp2_with fail;go_ret;exact ⟨rfl, rfl⟩
 rw [show fld k = 0 by simp [fld, h1, h2, h3, h8, h4, h6, h5, h7]];go_in;go_wp2_with fail;go_ret;exact ⟨rfl, rfl⟩
theorem snd_f0 {m : Ms} (h : fld m.K = 0) : sndM m = false := by unfold sndM; rw [h, ask_zero]; simp
theorem nod_of {x : Int} (h0 : ¬ x < 0) (h1 : ¬ 8 < x) : nodB x = true := by simp [nodB]; omega
theorem ct_of {x : Int} (h0 : ¬ x < 1) (h1 : ¬ 1099511627776 < x) : ctB x = true := by simp [ctB]; omega
theorem nod_no {x : Int} (h : x < 0 ∨ 8 < x) : nodB x = false := by simp [nodB]; omega
theorem ct_no {x : Int} (h : x < 1 ∨ 1099511627776 < x) : ctB x = false := by simp [ctB]; omega
def lastB (m : Ms) : Bool := decide (m.Q.length ≤ 64) && (risB m.Q && (decide (m.P.length ≤ 64) && (tabB m.P && (decide (0 ≤ m.C) && decide (m.C ≤ 1000)))))
theorem snd_last {m : Ms} {f : Nat} (hf : fld m.K = f) (h0 : f ≠ 0) (h1 : nodB m.F = true) (h2 : nodB m.T = true) (h3 : ctB m.B = true) (h4 : ctB m.A = true) (h : bareB f m = true) : sndM m = ((decide (f ≠ 1) || endB m.E) && lastB m) := by
 rw [snd_ask hf h1 h2 h3 h4 h];obtain ⟨b1, b2, b3, b4⟩ := bare_parts h;rcases fld_cases m.K with q | q | q | q | q <;> rw [hf] at q
 ·exact absurd q h0
 ·subst q;have e2 : m.Q = [] := by rcases b2 with e | e; omega; exact e
  have e3 : m.P = [] := by rcases b3 with e | e; omega; exact e
  have e4 : m.C = 0 := by rcases b4 with e | e; omega; exact e
  simp [askB, lastB, e2, e3, e4, risB, risE, tabB]
 ·subst q;have e3 : m.P = [] := by rcases b3 with e | e; omega; exact e
  have e4 : m.C = 0 := by rcases b4 with e | e; omega; exact e
  simp [askB, lastB, e3, e4, tabB]
 ·subst q;have e2 : m.Q = [] := by rcases b2 with e | e; omega; exact e
  have e4 : m.C = 0 := by rcases b4 with e | e; omega; exact e
  simp [askB, lastB, e2, e4, risB, risE]
 ·subst q;have e2 : m.Q = [] := by rcases b2 with e | e; omega; exact e
  have e3 : m.P = [] := by rcases b3 with e | e; omega; exact e
  simp [askB, lastB, e2, e3, risB, risE, tabB]
theorem bare_no1 {f : Nat} {m : Ms} (h : f ≠ 1) (he : 0 < m.E.length) : bareB f m = false := by
 cases hb : bareB f m
 ·rfl
 ·rcases (bare_parts hb).1 with e | e; exact absurd e h; rw [e] at he; simp at he
theorem bare_no2 {f : Nat} {m : Ms} (h : f ≠ 2) (he : 0 < m.Q.length) : bareB f m = false := by
 cases hb : bareB f m
 ·rfl
 ·rcases (bare_parts hb).2.1 with e | e; exact absurd e h; rw [e] at he; simp at he
theorem bare_no3 {f : Nat} {m : Ms} (h : f ≠ 3) (he : 0 < m.P.length) : bareB f m = false := by
 cases hb : bareB f m
 ·rfl
 ·rcases (bare_parts hb).2.2.1 with e | e; exact absurd e h; rw [e] at he; simp at he
theorem bare_no4 {f : Nat} {m : Ms} (h : f ≠ 4) (he : m.C ≠ 0) : bareB f m = false := by
 cases hb : bareB f m
 ·rfl
 ·rcases (bare_parts hb).2.2.2 with e | e; exact absurd e h; exact absurd e he
theorem bare_yes {f : Nat} {m : Ms} (h1 : f = 1 ∨ m.E.length = 0) (h2 : f = 2 ∨ m.Q.length = 0) (h3 : f = 3 ∨ m.P.length = 0) (h4 : f = 4 ∨ m.C = 0) : bareB f m = true := by
 simp only [bareB, Bool.and_eq_true, Bool.or_eq_true, decide_eq_true_eq];exact ⟨h1, h2, h3, h4⟩
def RE (w1 : World) (l : List Int) (iv : Value) (wr : World) : Prop := ∃ i : Nat, i ≤ l.length ∧ iv = .int .i64 i ∧ (∀ j, (h : j < l.length) → j < i → 0 ≤ l[j] ∧ l[j] ≤ 256) ∧ Below w1.heap.size w1 wr
theorem rmsound_walk {w : World} {m : Ms} {ev qv pv : Value} (h : ML w m ev qv pv) :
  Calls Tryz.prog 30 #[.agg #[.int .i64 m.K, .int .i64 m.F, .int .i64 m.T, .int .i64 m.B, .int .i64 m.A, .int .i64 m.C, ev, qv, pv]] w fun e w' => e = .returned (.bool (sndM m)) ∧ Below w.heap.size w w' := by
 have HB := below_alloc w (Obj.cells #[.int .i64 m.K, .int .i64 m.F, .int .i64 m.T, .int .i64 m.B, .int .i64 m.A, .int .i64 m.C, ev, qv, pv] 48);have HX := mx_new w m ev qv pv;have HV : Hid (ML w m ev qv pv) := h;obtain ⟨ea, en, ec, rfl, he, hem⟩ := sv_le h.e;obtain ⟨qa, qn, qc, rfl, hq, hqm⟩ := sv_le h.q;obtain ⟨pa, pn, pc, rfl, hp, hpm⟩ := qv_le h.p;rw [ib_len] at hq;have HEL : Hid (en = m.E.length) := he;have HQL : Hid (qn = m.Q.length) := hq;have HPL : Hid (pn = m.P.length) := hp;have HPM := hidH hpm;have hei : (en : Int) ≤ 9223372036854775807 := by unfold maxLen at hem; omega
 replace HB : Hid _ := HB;replace HX : Hid _ := HX;clear h he hq hp hem hqm hpm;go_in;go_upto_region 1 with fail
 obtain ⟨P, hP⟩ : ∃ P, P = w.heap.size := ⟨_, rfl⟩;rw [← hP] at HX ⊢;have HP : Hid (P = w.heap.size) := hP;clear hP;generalize w.alloc (Obj.cells #[.int .i64 m.K, .int .i64 m.F, .int .i64 m.T, .int .i64 m.B, .int .i64 m.A, .int .i64 m.C, .slice ea en ec, .slice qa qn qc, .slice pa pn pc] 48) = w1 at HX HB ⊢;have c0 := HX.out.c0; have c1 := HX.out.c1; have c2 := HX.out.c2; have c3 := HX.out.c3; have c4 := HX.out.c4; have c5 := HX.out.c5; have c6 := HX.out.c6; have c7 := HX.out.c7; have c8 := HX.out.c8;go_wp2_with fail;refine (field_walk m.K _).mono ?_;obtain ⟨f, hf⟩ : ∃ f, fld m.K = f := ⟨_, rfl⟩;rw [hf];rintro e w2 ⟨rfl, hw2⟩;replace hw2 := hw2.symm;subst hw2;have HF : Hid (fld m.K = f) := hf;have hf5 : f = 0 ∨ f = 1 ∨ f = 2 ∨ f = 3 ∨ f = 4 := by rw [← hf]; exact fld_cases m.K
 clear hf;by_cases h0 : f = 0
 ·subst h0;have HT : Hid (sndM m = false) := snd_f0 HF.out;go_wp2_with fail;go_ret;exact ⟨ret_bool HT.out.symm, HB.out⟩
 have H0 : Hid (f ≠ 0) := h0;have h0b : ((f : Int) == 0) = false := by rw [beq_eq_false_iff_ne]; omega
 by_cases a1 : m.F < 0
 ·have HT : Hid (sndM m = false) := snd_nf (nod_no (.inl a1));clear hf5 h0;go_wp2_with fail;go_ret;exact ⟨ret_bool HT.out.symm, HB.out⟩
 by_cases a2 : 8 < m.F
 ·have HT : Hid (sndM m = false) := snd_nf (nod_no (.inr a2));clear hf5 h0;go_wp2_with fail;go_ret;exact ⟨ret_bool HT.out.symm, HB.out⟩
 by_cases a3 : m.T < 0
 ·have HT : Hid (sndM m = false) := snd_nt (nod_no (.inl a3));clear hf5 h0;go_wp2_with fail;go_ret;exact ⟨ret_bool HT.out.symm, HB.out⟩
 by_cases a4 : 8 < m.T
 ·have HT : Hid (sndM m = false) := snd_nt (nod_no (.inr a4));clear hf5 h0;go_wp2_with fail;go_ret;exact ⟨ret_bool HT.out.symm, HB.out⟩
 by_cases a5 : m.B < 1
 ·have HT : Hid (sndM m = false) := snd_nb (ct_no (.inl a5));clear hf5 h0;go_wp2_with fail;go_ret;exact ⟨ret_bool HT.out.symm, HB.out⟩
 by_cases a6 : 1099511627776 < m.B
 ·have HT : Hid (sndM m = false) := snd_nb (ct_no (.inr a6));clear hf5 h0;go_wp2_with fail;go_ret;exact ⟨ret_bool HT.out.symm, HB.out⟩
 by_cases a7 : m.A < 1
 ·have HT : Hid (sndM m = false) := snd_na (ct_no (.inl a7));clear hf5 h0;go_wp2_with fail;go_ret;exact ⟨ret_bool HT.out.symm, HB.out⟩
 by_cases a8 : 1099511627776 < m.A
 ·have HT : Hid (sndM m = false) := snd_na (ct_no (.inr a8));clear hf5 h0;go_wp2_with fail;go_ret;exact ⟨ret_bool HT.out.symm, HB.out⟩
 have HN1 : Hid (nodB m.F = true) := nod_of a1 a2;have HN2 : Hid (nodB m.T = true) := nod_of a3 a4;have HN3 : Hid (ctB m.B = true) := ct_of a5 a6;have HN4 : Hid (ctB m.A = true) := ct_of a7 a8;have HF5 : Hid (f = 1 ∨ f = 2 ∨ f = 3 ∨ f = 4) := by rcases hf5 with e | e | e | e | e; exact absurd e h0; exact .inl e; exact .inr (.inl e); exact .inr (.inr (.inl e)); exact .inr (.inr (.inr e))
 clear hf5 h0;go_upto_region 2 with fail
 go_cut [49] (fun c wx => c = .bool false ∧ wx = w1)
 case first =>
  have a8b : decide (1099511627776 < m.A) = false := decide_eq_false (by omega);go_wp2_with fail;go_meet;exact ⟨congrArg Value.bool (by simp; omega), rfl⟩
 case rest =>
  obtain ⟨rfl, hwc⟩ := hcut;replace hwc := hwc.symm;subst hwc;clear a1 a2 a3 a4 a5 a6 a7 a8 h0b;have HSL : Hid (bareB f m = true → sndM m = ((decide (f ≠ 1) || endB m.E) && lastB m)) := fun hb => snd_last HF.out H0.out HN1.out HN2.out HN3.out HN4.out hb;go_upto_region 4 with fail
  go_cut [86] (fun c wx => wx = w1 ∧ ((c = .bool true ∧ sndM m = false) ∨ (c = .bool false ∧ bareB f m = true)))
  case first =>
   have hE : m.E.length = 0 ∨ 0 < m.E.length := by omega
   have hQ : m.Q.length = 0 ∨ 0 < m.Q.length := by omega
   have hPP : m.P.length = 0 ∨ 0 < m.P.length := by omega
   rcases HF5.out with e | e | e | e
   ·subst e;rcases hQ with z2 | z2;rotate_left
    ·have HT : Hid (sndM m = false) := snd_bare HF.out (bare_no2 (by decide) z2);have zi : (0 : Int) < (qn : Int) := by have := HQL.out; omega
     have zn : 0 < qn := by omega
     clear z2;go_wp2_with fail;go_meet;exact ⟨rfl, .inl ⟨rfl, HT.out⟩⟩
    have zz2 : qn = 0 := by have := HQL.out; omega
    have zi2 : ¬ (0 : Int) < (qn : Int) := by omega
    have zn2 : ¬ 0 < qn := by omega
    clear zz2;rcases hPP with z3 | z3;rotate_left
    ·have HT : Hid (sndM m = false) := snd_bare HF.out (bare_no3 (by decide) z3);have zi : (0 : Int) < (pn : Int) := by have := HPL.out; omega
     have zn : 0 < pn := by omega
     clear z3;go_wp2_with fail;go_meet;exact ⟨rfl, .inl ⟨rfl, HT.out⟩⟩
    have zz3 : pn = 0 := by have := HPL.out; omega
    have zi3 : ¬ (0 : Int) < (pn : Int) := by omega
    have zn3 : ¬ 0 < pn := by omega
    clear zz3;by_cases z4 : m.C = 0;rotate_left
    ·have HT : Hid (sndM m = false) := snd_bare HF.out (bare_no4 (by decide) z4);have zb : (m.C != 0) = true := by simpa using z4
     go_wp2_with fail;go_meet;exact ⟨rfl, .inl ⟨rfl, HT.out⟩⟩
    have zb4 : (m.C != 0) = false := by simpa using z4
    have HBA : Hid (bareB 1 m = true) := bare_yes (.inl rfl) (.inr z2) (.inr z3) (.inr z4);clear z2;clear z3;clear z4;go_wp2_with fail;go_meet;exact ⟨rfl, .inr ⟨rfl, HBA.out⟩⟩
   ·subst e;rcases hE with z1 | z1;rotate_left
    ·have HT : Hid (sndM m = false) := snd_bare HF.out (bare_no1 (by decide) z1);have zi : (0 : Int) < (en : Int) := by have := HEL.out; omega
     have zn : 0 < en := by omega
     clear z1;go_wp2_with fail;go_meet;exact ⟨rfl, .inl ⟨rfl, HT.out⟩⟩
    have zz1 : en = 0 := by have := HEL.out; omega
    have zi1 : ¬ (0 : Int) < (en : Int) := by omega
    have zn1 : ¬ 0 < en := by omega
    clear zz1;rcases hPP with z3 | z3;rotate_left
    ·have HT : Hid (sndM m = false) := snd_bare HF.out (bare_no3 (by decide) z3);have zi : (0 : Int) < (pn : Int) := by have := HPL.out; omega
     have zn : 0 < pn := by omega
     clear z3;go_wp2_with fail;go_meet;exact ⟨rfl, .inl ⟨rfl, HT.out⟩⟩
    have zz3 : pn = 0 := by have := HPL.out; omega
    have zi3 : ¬ (0 : Int) < (pn : Int) := by omega
    have zn3 : ¬ 0 < pn := by omega
    clear zz3;by_cases z4 : m.C = 0;rotate_left
    ·have HT : Hid (sndM m = false) := snd_bare HF.out (bare_no4 (by decide) z4);have zb : (m.C != 0) = true := by simpa using z4
     go_wp2_with fail;go_meet;exact ⟨rfl, .inl ⟨rfl, HT.out⟩⟩
    have zb4 : (m.C != 0) = false := by simpa using z4
    have HBA : Hid (bareB 2 m = true) := bare_yes (.inr z1) (.inl rfl) (.inr z3) (.inr z4);clear z1;clear z3;clear z4;go_wp2_with fail;go_meet;exact ⟨rfl, .inr ⟨rfl, HBA.out⟩⟩
   ·subst e;rcases hE with z1 | z1;rotate_left
    ·have HT : Hid (sndM m = false) := snd_bare HF.out (bare_no1 (by decide) z1);have zi : (0 : Int) < (en : Int) := by have := HEL.out; omega
     have zn : 0 < en := by omega
     clear z1;go_wp2_with fail;go_meet;exact ⟨rfl, .inl ⟨rfl, HT.out⟩⟩
    have zz1 : en = 0 := by have := HEL.out; omega
    have zi1 : ¬ (0 : Int) < (en : Int) := by omega
    have zn1 : ¬ 0 < en := by omega
    clear zz1;rcases hQ with z2 | z2;rotate_left
    ·have HT : Hid (sndM m = false) := snd_bare HF.out (bare_no2 (by decide) z2);have zi : (0 : Int) < (qn : Int) := by have := HQL.out; omega
     have zn : 0 < qn := by omega
     clear z2;go_wp2_with fail;go_meet;exact ⟨rfl, .inl ⟨rfl, HT.out⟩⟩
    have zz2 : qn = 0 := by have := HQL.out; omega
    have zi2 : ¬ (0 : Int) < (qn : Int) := by omega
    have zn2 : ¬ 0 < qn := by omega
    clear zz2;by_cases z4 : m.C = 0;rotate_left
    ·have HT : Hid (sndM m = false) := snd_bare HF.out (bare_no4 (by decide) z4);have zb : (m.C != 0) = true := by simpa using z4
     go_wp2_with fail;go_meet;exact ⟨rfl, .inl ⟨rfl, HT.out⟩⟩
    have zb4 : (m.C != 0) = false := by simpa using z4
    have HBA : Hid (bareB 3 m = true) := bare_yes (.inr z1) (.inr z2) (.inl rfl) (.inr z4);clear z1;clear z2;clear z4;go_wp2_with fail;go_meet;exact ⟨rfl, .inr ⟨rfl, HBA.out⟩⟩
   ·subst e;rcases hE with z1 | z1;rotate_left
    ·have HT : Hid (sndM m = false) := snd_bare HF.out (bare_no1 (by decide) z1);have zi : (0 : Int) < (en : Int) := by have := HEL.out; omega
     have zn : 0 < en := by omega
     clear z1;go_wp2_with fail;go_meet;exact ⟨rfl, .inl ⟨rfl, HT.out⟩⟩
    have zz1 : en = 0 := by have := HEL.out; omega
    have zi1 : ¬ (0 : Int) < (en : Int) := by omega
    have zn1 : ¬ 0 < en := by omega
    clear zz1;rcases hQ with z2 | z2;rotate_left
    ·have HT : Hid (sndM m = false) := snd_bare HF.out (bare_no2 (by decide) z2);have zi : (0 : Int) < (qn : Int) := by have := HQL.out; omega
     have zn : 0 < qn := by omega
     clear z2;go_wp2_with fail;go_meet;exact ⟨rfl, .inl ⟨rfl, HT.out⟩⟩
    have zz2 : qn = 0 := by have := HQL.out; omega
    have zi2 : ¬ (0 : Int) < (qn : Int) := by omega
    have zn2 : ¬ 0 < qn := by omega
    clear zz2;rcases hPP with z3 | z3;rotate_left
    ·have HT : Hid (sndM m = false) := snd_bare HF.out (bare_no3 (by decide) z3);have zi : (0 : Int) < (pn : Int) := by have := HPL.out; omega
     have zn : 0 < pn := by omega
     clear z3;go_wp2_with fail;go_meet;exact ⟨rfl, .inl ⟨rfl, HT.out⟩⟩
    have zz3 : pn = 0 := by have := HPL.out; omega
    have zi3 : ¬ (0 : Int) < (pn : Int) := by omega
    have zn3 : ¬ 0 < pn := by omega
    clear zz3;have HBA : Hid (bareB 4 m = true) := bare_yes (.inr z1) (.inr z2) (.inr z3) (.inl rfl);clear z1;clear z2;clear z3;go_wp2_with fail;go_meet;exact ⟨rfl, .inr ⟨rfl, HBA.out⟩⟩
  case rest =>
   obtain ⟨hwc, hrest⟩ := hcut;replace hwc := hwc.symm;subst hwc;rcases hrest with ⟨rfl, hT⟩ | ⟨rfl, hba⟩
   ·have HT : Hid (sndM m = false) := hT;clear hT;go_wp2_with fail;go_ret;exact ⟨ret_bool HT.out.symm, HB.out⟩
   have HS2 : Hid (sndM m = ((decide (f ≠ 1) || endB m.E) && lastB m)) := HSL.out hba;have HEE : Hid (f = 1 ∨ m.E.length = 0) := by rcases (bare_parts hba).1 with e | e; exact .inl e; exact .inr (by rw [e]; rfl)
   clear hba HSL;go_upto_region 6 with fail
   go_cut [100] (fun c wx => wx = w1 ∧ ((c = .bool true ∧ sndM m = false) ∨ (c = .bool false ∧ (f = 1 → 1 ≤ m.E.length ∧ m.E.length ≤ 4))))
   case first =>
    by_cases hf1 : f = 1
    ·subst hf1;by_cases l1 : en < 1
     ·have l1i : (en : Int) < 1 := by omega
      have HT : Hid (sndM m = false) := by show _ = _; rw [HS2.out, end_few (.inl (by rw [← HEL.out]; exact l1))]; simp
      clear l1;go_wp2_with fail;go_meet;exact ⟨rfl, .inl ⟨rfl, HT.out⟩⟩
     by_cases l4 : 4 < en
     ·have l4i : (4 : Int) < (en : Int) := by omega
      have l1i : ¬ (en : Int) < 1 := by omega
      have HT : Hid (sndM m = false) := by show _ = _; rw [HS2.out, end_few (.inr (by rw [← HEL.out]; exact l4))]; simp
      clear l1 l4;go_wp2_with fail;go_meet;exact ⟨rfl, .inl ⟨rfl, HT.out⟩⟩
     have l1i : ¬ (en : Int) < 1 := by omega
     have l4i : ¬ (4 : Int) < (en : Int) := by omega
     have H14 : Hid (1 ≤ m.E.length ∧ m.E.length ≤ 4) := by have := HEL.out; exact ⟨by omega, by omega⟩
     clear l1 l4;have l4d : decide ((4 : Int) < (en : Int)) = false := decide_eq_false l4i;go_wp2_with fail;go_meet;exact ⟨rfl, .inr ⟨rfl, fun _ => H14.out⟩⟩
    ·have hfb : ((f : Int) == 1) = false := by rw [beq_eq_false_iff_ne]; omega
     have HF1 : Hid (f ≠ 1) := hf1;clear hf1;go_wp2_with fail;go_meet;exact ⟨rfl, .inr ⟨rfl, fun e => absurd e HF1.out⟩⟩
   case rest =>
    obtain ⟨hwc, hrest⟩ := hcut;replace hwc := hwc.symm;subst hwc;rcases hrest with ⟨rfl, hT⟩ | ⟨rfl, hlen⟩
    ·have HT : Hid (sndM m = false) := hT;clear hT;go_wp2_with fail;go_ret;exact ⟨ret_bool HT.out.symm, HB.out⟩
    have HLEN : Hid (f = 1 → 1 ≤ m.E.length ∧ m.E.length ≤ 4) := hlen;clear hlen;go_wp2_with fail;go_loopw [4] (fun iv wr => RE w1 m.E iv wr) (fun iv _ => m.E.length - (intOf iv).toNat)
    case atStart => exact ⟨0, Nat.zero_le _, rfl, fun j _ hj => by omega, Below.refl _ _⟩
    case round =>
     clear c0 c1 c2 c3 c4 c5 c6 c7 c8;obtain ⟨i, hi, rfl, hgood, hbel⟩ := hrel;have HG := hidH hgood;have HR := hidH hbel;have HXR : Hid _ := HX.out.keep hbel;have HBR := hidH (below_trans HB.out hbel);have HVR : Hid _ := HV.out.below HBR.out;clear hgood hbel;have c6 := HXR.out.c6; have c7 := HXR.out.c7; have c8 := HXR.out.c8; have c5 := HXR.out.c5;by_cases hlt : i < m.E.length
     ·have hlti : (i : Int) < (en : Int) := by have := HEL.out; omega
      have HF1 : Hid (f = 1) := by rcases HEE.out with e | e; exact e; omega
      obtain ⟨b, off, rfl, hc⟩ := sv_at HVR.out.e hlt;obtain ⟨x, hx⟩ : ∃ x, x = m.E[i] := ⟨_, rfl⟩;rw [← hx] at hc;have HX9 : Hid (x = m.E[i]) := hx;clear hx;by_cases hx0 : x < 0
      ·have HT : Hid (sndM m = false) := by show _ = _; rw [HS2.out, end_no hlt (.inl (by rw [← HX9.out]; exact hx0)), HF1.out]; simp
       go_wp2_with fail;go_ret;exact ⟨ret_bool HT.out.symm, HBR.out⟩
      by_cases hx1 : 256 < x
      ·have HT : Hid (sndM m = false) := by show _ = _; rw [HS2.out, end_no hlt (.inr (by rw [← HX9.out]; exact hx1)), HF1.out]; simp
       go_wp2_with fail;go_ret;exact ⟨ret_bool HT.out.symm, HBR.out⟩
      have R : Hid (RE w1 m.E (.int .i64 ((i : Int) + 1)) wr) := ⟨i + 1, hlt, by simp, fun j hj hji => (by rcases Nat.lt_or_ge j i with h2 | h2; exact HG.out j hj h2; obtain rfl : j = i := (by omega); exact ⟨by rw [← HX9.out]; omega, by rw [← HX9.out]; omega⟩), HR.out⟩;go_wp2_with fail;go_roundw
      case rel => exact R.out
      case measure => simp [intOf]; omega
     ·have hlti : ¬ (i : Int) < (en : Int) := by have := HEL.out; omega
      have HALL : Hid (∀ j, (h : j < m.E.length) → 0 ≤ m.E[j] ∧ m.E[j] ≤ 256) := fun j hj => HG.out j hj (by omega)
      have HSE : Hid (sndM m = lastB m) := by
       show _ = _;rw [HS2.out];by_cases e : f = 1
       ·rw [end_yes (HLEN.out e).1 (HLEN.out e).2 HALL.out]; simp
       ·simp [e]
      unfold lastB at HSE;by_cases q1 : qn ≤ 64
      ·have q1i : (qn : Int) ≤ 64 := by omega
       replace HSE : Hid _ := (by have q := HSE.out; rw [← HQL.out, decide_eq_true q1, Bool.true_and] at q; exact q);clear q1;go_wp2_with fail;refine (rris_walk HVR.out.q).mono ?_
       cases hr : risB m.Q
       ·replace HSE : Hid _ := (by have q := HSE.out; rw [hr, Bool.false_and] at q; exact q);rintro e w3 ⟨rfl, hB3⟩;have HX3 := HXR.out.keep hB3;have c8 := HX3.c8; have c5 := HX3.c5;clear HX3;go_wp2_with fail;go_ret;exact ⟨ret_bool HSE.out.symm, below_trans HBR.out hB3⟩
       ·replace HSE : Hid _ := (by have q := HSE.out; rw [hr, Bool.true_and] at q; exact q);rintro e w3 ⟨rfl, hB3⟩;have HX3 : Hid _ := HXR.out.keep hB3;have HB3 := hidH (below_trans HBR.out hB3);have HV3 : Hid _ := HV.out.below HB3.out;clear hB3 c6 c7 c8 c5;have c8 := HX3.out.c8; have c5 := HX3.out.c5;by_cases q3 : pn ≤ 64
        ·have q3i : (pn : Int) ≤ 64 := by omega
         replace HSE : Hid _ := (by have q := HSE.out; rw [← HPL.out, decide_eq_true q3, Bool.true_and] at q; exact q);clear q3;go_wp2_with fail;rw [HPL.out];refine (rfsound_walk (ao := pa) (ca := pc) HPM.out HV3.out.p.ql).mono ?_
         cases ht : tabB m.P
         ·replace HSE : Hid _ := (by have q := HSE.out; rw [ht, Bool.false_and] at q; exact q);rintro e w4 ⟨rfl, hB4⟩;go_wp2_with fail;go_ret;exact ⟨ret_bool HSE.out.symm, below_trans HB3.out hB4⟩
         ·replace HSE : Hid _ := (by have q := HSE.out; rw [ht, Bool.true_and] at q; exact q);rintro e w4 ⟨rfl, hB4⟩;have HX4 := HX3.out.keep hB4;have c5 := HX4.c5;have HB4 := hidH (below_trans HB3.out hB4);clear HX4 hB4;by_cases q5 : 0 ≤ m.C
          ·replace HSE : Hid _ := (by have q := HSE.out; rw [decide_eq_true q5, Bool.true_and] at q; exact q);go_wp2_with fail;go_ret;exact ⟨ret_bool HSE.out.symm, HB4.out⟩
          ·replace HSE : Hid _ := (by have q := HSE.out; rw [decide_eq_false q5, Bool.false_and] at q; exact q);go_wp2_with fail;go_ret;exact ⟨ret_bool HSE.out.symm, HB4.out⟩
        ·have q3i : ¬ (pn : Int) ≤ 64 := by omega
         replace HSE : Hid _ := (by have q := HSE.out; rw [← HPL.out, decide_eq_false q3, Bool.false_and] at q; exact q);clear q3;go_wp2_with fail;go_ret;exact ⟨ret_bool HSE.out.symm, HB3.out⟩
      ·have q1i : ¬ (qn : Int) ≤ 64 := by omega
       replace HSE : Hid _ := (by have q := HSE.out; rw [← HQL.out, decide_eq_false q1, Bool.false_and] at q; exact q);clear q1;go_wp2_with fail;go_ret;exact ⟨ret_bool HSE.out.symm, HBR.out⟩
end Go.Proofs.YtombjgfajbhbbaaGreat
