/- Contract of Format. -/
import Derived.Test.YtcmklbibehnloaaGreatB29
set_option maxRecDepth 100000
set_option maxHeartbeats 16000000
namespace Go.Proofs.YtcmklbibehnloaaGreat
open Go.RowKit
section
theorem step_app_wl {ops : Array Oper} {o : Oper} {a : Act} {w : World} {K : Act → World → Prop} {Q : Exit → Act → World → Prop} {X : Prop}
  (hg : o.guard = none) (s x : Operand) (hop : o.op = Op.call { callee := Callee.builtin Builtin.append, args := #[s, x], argTypes := #[82, 82] })
  {base : Nat} (v : Value) (ps : List (Int × List Nat)) (hs : a.eval s = v) (hw : WL base w v ps)
  (q : Nat) (p : Int) (u : Value) (d : List Nat) (hx : a.eval x = .slice (some ⟨q, 0, none⟩) 1 1) (h0 : w.cell? ⟨q, 0, none⟩ = some (.int .i64 p)) (h1 : w.cell? ⟨q, 1, none⟩ = some u) (hu : w.ownsRow base 5 1 u d.length (cb d)) (hd : ∀ c ∈ d, c < 256) (hp : 0 ≤ p ∧ p < 8) (hn : ps.length ≤ 16) (hbase : base ≤ w.heap.size)
  (hK : ∀ v' w', WL base w' v' (ps ++ [(p, d)]) → Below base w w' → K (a.put o.dst v') w') :
  if Region.wanted o (yielded ops a.tmps) = true then Oper.wp Tryz.prog o a w K Q else X := by
 have hw9 : Region.wanted o (yielded ops a.tmps) = true := by simp [Region.wanted, hg]
 rw [if_pos hw9];obtain ⟨i0, hi, hz0, hz1, hz2⟩ := info_partsVB info_pwS
 have hu1 : u.oneCell' = true := by
  rcases hu.2 with ⟨rfl, _⟩ | ⟨g, cap, cur, rfl, _⟩ <;> rfl
 obtain ⟨qs, k1, k2, k3, k4⟩ := id hw
 obtain ⟨v', w', hrun, r1, r2, _, _⟩ := run_append_own_at (P := Tryz.prog) w base 82 o.type 80 i0 (.agg #[.int .i64 0, .slice none 0 0]) 2 32 Tryz.underlying82 hi hz0 hz1 hz2 rfl (by decide) v ps.length (flatW qs) k2 ⟨q, 0, none⟩ 1 1 [.int .i64 p, u] rfl (fun j y hj => by
  match j, hj with
  | 0, hj => simp at hj; subst hj; simpa [Addr.add] using h0
  | 1, hj => simp at hj; subst hj; simpa [Addr.add] using h1) (fun y hy => by simp at hy; rcases hy with rfl | rfl; rfl; exact hu1) (by simp only [maxLen]; omega) (by omega) hbase
 unfold Oper.wp;simp [execOp, hop, resolve, invoke, builtin, hs, hx, hrun, Result.andThen];obtain ⟨g1, g2⟩ := wl_app hw k1 k2 k3 k4 hu hd hp hbase r1 r2;exact hK v' w' g1 g2
theorem wl_form {base : Nat} {w : World} {v : Value} {ps : List (Int × List Nat)} (h : WL base w v ps) : ∃ x y z, v = .slice x y z := by
 obtain ⟨qs, h1, h2, _⟩ := h;rcases h2.2 with ⟨rfl, _⟩ | ⟨g, cap, cur, rfl, _⟩
 ·exact ⟨_, _, _, rfl⟩
 ·exact ⟨_, _, _, rfl⟩
theorem tb_len (Ls : List (List Cl)) (ks : List Nat) (mb b : Int) : (tbL Ls ks mb b).length ≤ 6 := by
 unfold tbL
 split
 ·exact chg_len _ _ 6
 ·simp
theorem ch_high {w w6 w8 w9 : World} (h : Below w6.heap.size w6 w8) (h' : Below w.heap.size w8 w9) : Ch (fun x => w.heap.size ≤ x) w6 w9 :=
 (Ch.of_below h).self ⟨h'.os, h'.tape, h'.output, h'.size, fun k hk hn => h'.block k (by omega)⟩
theorem lay_tab {P : Bo} {S S' : Dk} {ps : List (Int × List Nat)} {t : List Nat} {B : Nat} (hk : P.ok B) (hB : B ≤ 64) (hf : faultI P.tab.length ps = 0) (hl : layS P.tab ps 1 P.tab S = (some t, S')) : t.length = P.tab.length :=
 (lay_ok hk hB (fault_ok ps [] hf).1 hl).2
theorem putO_tab {P : Bo} {S : Dk} {ps : List (Int × List Nat)} {B : Nat} (hk : P.ok B) (hB : B ≤ 64) : (putO P S ps).2.1.tab.length = P.tab.length := by
 unfold putO
 split
 ·rfl
 ·split
  ·rfl
  ·rename_i hf
   split
   ·rfl
   ·split
    ·rfl
    ·split
     ·rfl
     ·rename_i t S' hl
      split
      ·exact lay_tab hk hB (Classical.not_not.1 hf) hl
      ·rfl
def begE (m : Mk) (b a : Int) (ks : List Nat) : Option Int :=
 if cntdB b a = false ∨ 64 < ks.length ∨ risB ks = false then some 1
 else if judI m.b m.a b a = 130 then some 130
 else if judI m.b m.a b a = 0 then some (if ks = m.k then 0 else 93)
 else if m.b + 1 < b then some 131 else none
theorem beg_arg {m : Mk} {b a : Int} {ks : List Nat} (h : cntdB b a = false ∨ 64 < ks.length ∨ risB ks = false) : begE m b a ks = some 1 := by unfold begE; rw [if_pos h]
theorem beg_fen {m : Mk} {b a : Int} {ks : List Nat} (h : ¬ (cntdB b a = false ∨ 64 < ks.length ∨ risB ks = false)) (hj : judI m.b m.a b a = 130) : begE m b a ks = some 130 := by unfold begE; rw [if_neg h, if_pos hj]
theorem beg_same {m : Mk} {b a : Int} {ks : List Nat} (h : ¬ (cntdB b a = false ∨ 64 < ks.length ∨ risB ks = false)) (hj : judI m.b m.a b a = 0) : begE m b a ks = some (if ks = m.k then 0 else 93) := by unfold begE; rw [if_neg h, if_neg (by omega), if_pos hj]
theorem beg_ahead {m : Mk} {b a : Int} {ks : List Nat} (h : ¬ (cntdB b a = false ∨ 64 < ks.length ∨ risB ks = false)) (hj : judI m.b m.a b a ≠ 130) (hj0 : judI m.b m.a b a ≠ 0) (hb : m.b + 1 < b) : begE m b a ks = some 131 := by unfold begE; rw [if_neg h, if_neg hj, if_neg hj0, if_pos hb]
theorem beg_open {m : Mk} {b a : Int} {ks : List Nat} (h : ¬ (cntdB b a = false ∨ 64 < ks.length ∨ risB ks = false)) (hj : judI m.b m.a b a ≠ 130) (hj0 : judI m.b m.a b a ≠ 0) (hb : ¬ m.b + 1 < b) : begE m b a ks = none := by unfold begE; rw [if_neg h, if_neg hj, if_neg hj0, if_neg hb]
def begL (Ls : List (List Cl)) (m : Mk) (b a : Int) (ks : List Nat) : List (Int × List Nat) := tbL Ls m.k m.b b ++ [(0, (encM ⟨b, a, ks⟩).1)]
section

variable {A : Nat → Prop} {w w1 : World} {sv dv : Value} {k : Int} {P : Bo} {S : Dk} {sp : Nat}

theorem ST.high (h : ST A w (.pointer (some ⟨sp, 0, none⟩)) dv k P S) {E : Nat → Prop} (hc : Ch E w w1) (hA : ∀ x, A x → ¬ E x) (hs : ¬ E sp) : ST A w1 (.pointer (some ⟨sp, 0, none⟩)) dv k P S := by
 obtain ⟨sp', bv, e, h1, h2, h3, h4⟩ := h
 cases e
 have hl := (Array.getElem?_eq_some_iff.1 h1).1;exact ⟨sp, bv, rfl, by rw [hc.block sp hl hs]; exact h1, h2, h3.ch hc hA, h4⟩
theorem ST.b64 (h : ST A w sv dv k P S) : S.bl.length ≤ 64 := by
 obtain ⟨sp, bv, e, h1, h2, ⟨D, pb, tv, e2, hb⟩, h4⟩ := h;exact hb.dsk.good.n64
def BgGot (A : Nat → Prop) (w : World) (sv dv : Value) (k : Int) (P : Bo) (S : Dk) (m : Mk) (Ls : List (List Cl)) (b a : Int) (ks : List Nat) (e : Ending) (w' : World) : Prop :=
 (shutB P S = true ∧ ∃ S', e = .returned (.int .i64 80) ∧ ST A w' sv dv k (endB P) S' ∧ Rdd 8 S S' ∧ Ch A w w') ∨
 (shutB P S = false ∧ ∃ c S', begE m b a ks = some c ∧ e = .returned (.int .i64 c) ∧ ST A w' sv dv k P S' ∧ Rdd 8 S S' ∧ Ch A w w') ∨
 (shutB P S = false ∧ begE m b a ks = none ∧ ∃ S' A', Rdd 8 S S' ∧ e = .returned (.int .i64 (putO P S' (begL Ls m b a ks)).1) ∧ ST A' w' sv dv k (putO P S' (begL Ls m b a ks)).2.1 (putO P S' (begL Ls m b a ks)).2.2 ∧ (∀ x, A' x → A x ∨ w.heap.size ≤ x) ∧ Ch A w w')
theorem begin_walk (h : ST A w sv dv k P S) {m : Mk} {Ls : List (List Cl)} (hM : shutB P S = false → decM (getL P S 0) = (m, 0)) (hD : shutB P S = false → decP P S 6 = some Ls) (hrd : S.rd < 4611686018427387000) (hwr : S.wr < 4611686018427387000) {kv : Value} {ks : List Nat} (hk : Kv w kv ks) (hok : keysOk ks) (hkA : ∀ x, kv.ownBlock = some x → ¬ A x) (b a : Int) :
  Calls Tryz.prog 30 #[sv, .int .i64 b, .int .i64 a, kv] w (BgGot A w sv dv k P S m Ls b a ks) := by
 have HM : Hid (shutB P S = false → decM (getL P S 0) = (m, 0)) := hM;have HD : Hid (shutB P S = false → decP P S 6 = some Ls) := hD;have HRD := hidH hrd;have HWR := hidH hwr;have HPO : Hid (P.ok S.bl.length) := h.ok.1;have H64 : Hid (S.bl.length ≤ 64) := h.b64;have HBY : Hid (∀ p, ∀ c ∈ getL P S p, c < 256) := getL_byt h;obtain ⟨sp, hsp, hsl, hsA⟩ := h.ptr;subst hsp;have HALW : Hid (∀ x, A x → x < w.heap.size) := fun x hx => h.lt hx;have HSPW : Hid (sp < w.heap.size) := hsl;have HT0 := hidH h;have HOK : Hid (keysOk ks) := hok;have HKW : Hid (Kv w kv ks) := hk;have HKA : Hid (∀ x, kv.ownBlock = some x → ¬ A x) := hkA;obtain ⟨ka, kc, hkv, _, _⟩ := kv_form hk;obtain ⟨kn, hkn⟩ : ∃ kn, kn = ks.length := ⟨_, rfl⟩;rw [← hkn] at hkv;subst hkv;have HKN : Hid (kn = ks.length) := hkn;clear h hM hD hrd hwr hk hok hkA hsl hsA hkn;go_in;go_wp2_with fail;refine (smark_walk HT0.out (by have := HRD.out; omega)).mono ?_;rintro e w1 ⟨c, m', ov, S1, rfl, ho1, hcase, hst1, hrdd1, hch1⟩
 cases hs : shutB P S
 rotate_left
 ·have hc : c = 80 ∧ m' = zeroM := by
   rcases hcase with ⟨h1, _, h3⟩ | ⟨_, h2, _⟩ | ⟨_, h2, _⟩
   ·exact ⟨h1, h3⟩
   ·rw [hs] at h2; cases h2
   ·rw [hs] at h2; cases h2
  obtain ⟨rfl, rfl⟩ := hc;have HS : Hid (shutB P S = true) := hs;have HT1 : Hid (ST A w1 (.pointer (some ⟨sp, 0, none⟩)) dv k (endB P) S1) := by have h := hst1; unfold getB at h; rw [if_pos hs] at h; exact h
  have HR1 : Hid (Rdd 1 S S1) := hrdd1;have HC1 : Hid (Ch A w w1) := hch1;obtain ⟨oa, on, oc, hov⟩ : ∃ x y z, ov = .slice x y z := by obtain ⟨x, z, e⟩ := own_form8 ho1; exact ⟨x, _, z, e⟩
  subst hov;clear ho1 hcase hst1 hrdd1 hch1 hs;go_wp2_with fail;go_ret;exact .inl ⟨HS.out, S1, rfl, HT1.out.below (below_alloc _ _), HR1.out.mono (by omega), HC1.out.self (Ch.of_below (below_alloc _ _))⟩
 have HS : Hid (shutB P S = false) := hs
 have hc : c = 0 ∧ m' = m := by
  rcases hcase with ⟨_, h2, _⟩ | ⟨_, _, h2, _⟩ | ⟨h1, _, h2⟩
  ·rw [hs] at h2; cases h2
  ·rw [HM.out hs] at h2; exact absurd rfl h2
  ·rw [HM.out hs] at h2; cases h2; exact ⟨h1, rfl⟩
 obtain ⟨rfl, rfl⟩ := hc;rw [getB_ok hs] at hst1;have HT1 := hidH hst1;have HR1 : Hid (Rdd 1 S S1) := hrdd1;have HC1 : Hid (Ch A w w1) := hch1;have HO1 : Hid (Kv w1 ov m'.k) := own_sv ho1;have HOA : Hid (∀ x, ov.ownBlock = some x → ¬ A x) := fun x hx e => by have h1 := (ho1.lt x hx).1; have h2 := HALW.out x e; omega
 have HK1 : Hid (Kv w1 (.slice ka kn kc) ks) := kv_ch HKW.out hch1 HKA.out;have hsnd := (formM_back (HBY.out 0) (by rw [HM.out hs])).1;rw [HM.out hs] at hsnd;have hmb : 0 ≤ m'.b ∧ m'.b ≤ 1099511627776 := by have h := sound_parts hsnd; exact ⟨h.1, h.2.1⟩
 have HMB := hidH hmb;obtain ⟨oa, on, oc, hov⟩ : ∃ x y z, ov = .slice x y z := by obtain ⟨x, z, e⟩ := own_form8 ho1; exact ⟨x, _, z, e⟩
 subst hov;clear ho1 hcase hst1 hrdd1 hch1 hs hsnd hmb;go_upto_region 2 with fail
 have HB2 : Hid (Below w1.heap.size w1 (w1.alloc (Obj.cells #[.int .i64 m'.b, .int .i64 m'.a, .slice oa on oc] 65))) := below_alloc _ _;have HM2 : Hid _ := mb_new w1 m'.b m'.a (.slice oa on oc);generalize w1.heap.size = T9 at HM2 ⊢;generalize w1.alloc (Obj.cells #[.int .i64 m'.b, .int .i64 m'.a, .slice oa on oc] 65) = w2 at HB2 HM2 ⊢;have HT2 := hidH (HT1.out.below HB2.out);have HC2 : Hid (Ch A w w2) := HC1.out.self (Ch.of_below HB2.out);have HO2 := hidH (HO1.out.below HB2.out);have HK2 := hidH (HK1.out.below HB2.out);clear HT1 HC1 HO1 HK1 HB2;obtain ⟨C, hC⟩ : ∃ C, C = cntdB b a := ⟨_, rfl⟩;have HCC : Hid (C = cntdB b a) := hC;clear hC;go_wp2_with fail;refine (cntd_walk b a _).mono ?_;rw [← HCC.out];rintro e w3 ⟨rfl, hw3⟩;replace hw3 := hw3.symm;subst hw3
 cases C
 ·have HBE : Hid (begE m' b a ks = some 1) := beg_arg (.inl HCC.out.symm);go_wp2_with fail;go_ret;exact .inr (.inl ⟨HS.out, 1, S1, HBE.out, rfl, HT2.out, HR1.out.mono (by omega), HC2.out⟩)
 by_cases h64 : 64 < kn
 ·have h64i : (64 : Int) < (kn : Int) := by omega
  have HBE : Hid (begE m' b a ks = some 1) := beg_arg (.inr (.inl (by rw [← HKN.out]; exact h64)));clear h64;go_wp2_with fail;go_ret;exact .inr (.inl ⟨HS.out, 1, S1, HBE.out, rfl, HT2.out, HR1.out.mono (by omega), HC2.out⟩)
 have h64i : ¬ (64 : Int) < (kn : Int) := by omega
 have H64n : Hid (¬ 64 < ks.length) := by show ¬ _; rw [← HKN.out]; exact h64
 clear h64;obtain ⟨R, hR⟩ : ∃ R, R = risB ks := ⟨_, rfl⟩;have HRR : Hid (R = risB ks) := hR;clear hR;go_wp2_with fail;refine (ris_walk HK2.out).mono ?_;rw [← HRR.out];rintro e w3 ⟨rfl, hB3⟩;have HT3 := hidH (HT2.out.below hB3);have HC3 : Hid (Ch A w w3) := HC2.out.self (Ch.of_below hB3);have HO3 := hidH (HO2.out.below hB3);have HK3 := hidH (HK2.out.below hB3);have HM3 : Hid _ := HM2.out.keep hB3;clear hB3 HT2 HC2 HO2 HK2 HM2
 cases R
 ·have HBE : Hid (begE m' b a ks = some 1) := beg_arg (.inr (.inr HRR.out.symm));go_wp2_with fail;go_ret;exact .inr (.inl ⟨HS.out, 1, S1, HBE.out, rfl, HT3.out, HR1.out.mono (by omega), HC3.out⟩)
 have HGO : Hid (¬ (cntdB b a = false ∨ 64 < ks.length ∨ risB ks = false)) := by
  rintro (h | h | h)
  ·rw [← HCC.out] at h; cases h
  ·exact H64n.out h
  ·rw [← HRR.out] at h; cases h
 obtain ⟨J, hJ⟩ : ∃ J, J = judI m'.b m'.a b a := ⟨_, rfl⟩;have HJ : Hid (J = judI m'.b m'.a b a) := hJ;clear hJ;have y0 := HM3.out.c0;have y1 := HM3.out.c1;have y2 := HM3.out.c2;go_wp2_with fail;refine (judge_walk m'.b m'.a b a _).mono ?_;rw [← HJ.out];rintro e w4 ⟨rfl, hB4⟩;have HT4 := hidH (HT3.out.below hB4);have HC4 : Hid (Ch A w w4) := HC3.out.self (Ch.of_below hB4);have HO4 := hidH (HO3.out.below hB4);have HK4 := hidH (HK3.out.below hB4);have HM4 : Hid _ := HM3.out.keep hB4;clear hB4 HT3 HC3 HO3 HK3 HM3 y0 y1 y2;by_cases hj1 : J = 130
 ·subst hj1;have HBE : Hid (begE m' b a ks = some 130) := beg_fen HGO.out HJ.out.symm;go_wp2_with fail;go_ret;exact .inr (.inl ⟨HS.out, 130, S1, HBE.out, rfl, HT4.out, HR1.out.mono (by omega), HC4.out⟩)
 have hj1i : ((J : Int) == 130) = false := by rw [beq_eq_false_iff_ne]; omega
 have HJ1 : Hid (J ≠ 130) := hj1;by_cases hj2 : J = 0
 ·subst hj2;have HBE : Hid (begE m' b a ks = some (if ks = m'.k then 0 else 93)) := beg_same HGO.out HJ.out.symm;have y2 := HM4.out.c2;clear hj1 hj1i;go_wp2_with fail;refine (kequal_walk HK4.out HO4.out).mono ?_;rintro e w5 ⟨⟨t, rfl, ht⟩, hB5⟩;have HT5 := hidH (HT4.out.below hB5);have HC5 : Hid (Ch A w w5) := HC4.out.self (Ch.of_below hB5);have HTT : Hid (t = true ↔ ks = m'.k) := ht;clear hB5 ht y2
  cases t
  ·have HBE2 : Hid (begE m' b a ks = some 93) := by show _ = _; rw [HBE.out, if_neg (fun e => by have := HTT.out.2 e; cases this)]
   go_wp2_with fail;go_ret;exact .inr (.inl ⟨HS.out, 93, S1, HBE2.out, rfl, HT5.out, HR1.out.mono (by omega), HC5.out⟩)
  ·have HBE2 : Hid (begE m' b a ks = some 0) := by show _ = _; rw [HBE.out, if_pos (HTT.out.1 rfl)]
   go_wp2_with fail;go_ret;exact .inr (.inl ⟨HS.out, 0, S1, HBE2.out, rfl, HT5.out, HR1.out.mono (by omega), HC5.out⟩)
 have hj2i : ((J : Int) == 0) = false := by rw [beq_eq_false_iff_ne]; omega
 have HJ2 : Hid (J ≠ 0) := hj2;clear hj1 hj2;have y0 := HM4.out.c0;have hwm : IntKind.i64.wrap (m'.b + 1) = m'.b + 1 := by have := HMB.out; rw [IntKind.wrap_i64]; omega
 by_cases hb1 : m'.b + 1 < b
 ·have HBE : Hid (begE m' b a ks = some 131) := beg_ahead HGO.out (by rw [← HJ.out]; exact HJ1.out) (by rw [← HJ.out]; exact HJ2.out) hb1;go_wp2_with fail;go_ret;exact .inr (.inl ⟨HS.out, 131, S1, HBE.out, rfl, HT4.out, HR1.out.mono (by omega), HC4.out⟩)
 ·have HBE : Hid (begE m' b a ks = none) := beg_open HGO.out (by rw [← HJ.out]; exact HJ1.out) (by rw [← HJ.out]; exact HJ2.out) hb1;have y1 := HM4.out.c1;have y2 := HM4.out.c2;have HS1 : Hid (shutB P S1 = false) := by show _ = _; rw [rdd_shut HR1.out]; exact HS.out
  have HD1 : Hid (decP P S1 6 = some Ls) := by show _ = _; rw [rdd_decP HR1.out]; exact HD.out HS.out
  go_wp2_with fail;refine (takenback_walk HT4.out HS1.out HD1.out (by have h1 := HR1.out.rd; have h2 := HRD.out; omega) HO4.out HOA.out m'.b m'.a b (by have := HMB.out; omega)).mono ?_;rintro e w6 ⟨lv, S6, rfl, hwl6, hst6, hrdd6, hch6⟩;have HWL6' : Hid (WL w.heap.size w6 lv (tbL Ls m'.k m'.b b)) := hwl6.low HC4.out.size;have HT6 := hidH hst6;have HR6 : Hid (Rdd 8 S S6) := (HR1.out.trans hrdd6).mono (by omega);have HC6 : Hid (Ch A w w6) := HC4.out.self hch6;have HK6d : Hid (Kv w6.drew (.slice ka kn kc) ks) := (kv_ch HK4.out hch6 HKA.out).below (below_drewN w6 1);have HS6 : Hid (w.heap.size ≤ w6.heap.size) := HC6.out.size;have HSL6 : Hid (sp < w6.heap.size) := by have h1 := HSPW.out; have h2 := HS6.out; show _ < _; omega
  have HWR6 : Hid (S6.wr < 4611686018427387904) := by have h1 := HR6.out.wr; have h2 := HWR.out; show _ < _; omega
  obtain ⟨bv, hbv0⟩ : ∃ bv, w6.cell? ⟨sp, 0, none⟩ = some bv ∧ ∃ pb, bv = .pointer (some ⟨pb, 0, none⟩) := by
   obtain ⟨sp', bv, e', h1', h2', ⟨D, pb, tv, e2, _⟩, h4'⟩ := hst6
   cases e'
   exact ⟨bv, by rw [cell_of_row w6 sp 0 _ _ (0, 0) h1']; rfl, pb, e2⟩
  obtain ⟨hb0, pb, rfl⟩ := hbv0;have HB0c : Hid (w6.cell? ⟨sp, 0, none⟩ = some (.pointer (some ⟨pb, 0, none⟩))) := hb0;obtain ⟨la0, ln0, lc0, hlv0⟩ := wl_form hwl6;subst hlv0;clear hwl6 hst6 hrdd6 hch6 y0 y1 y2 hb1 hb0 HT4 HC4 HO4 HK4 HM4;obtain ⟨m, hm⟩ : ∃ m, m = m' := ⟨_, rfl⟩;subst hm;have HWL6 : Hid (WL w.heap.size w6 (.slice la0 ln0 lc0) (tbL Ls m.k m.b b)) := HWL6'.out;go_wp2_with fail;refine wp_region_noPanic ?_;refine wp_region_held_drew (S := fun wx => wx.cell? ⟨sp, 0, none⟩ = some (.pointer (some ⟨pb, 0, none⟩))) (by kernel_rfl) ?_ fun hHeld => ?_
  ·exact HB0c.out
  refine tkS 0 62 rfl hHeld ?_;refine tkS 1 63 rfl hHeld ?_;refine tkS 2 64 rfl hHeld ?_;refine tkS 3 65 rfl hHeld ?_;refine tkS 4 66 rfl hHeld ?_;refine tkS 5 67 rfl hHeld ?_;refine tkS 6 68 rfl hHeld ?_;refine tkS 7 69 rfl hHeld ?_;refine tkS 8 70 rfl hHeld ?_;refine rdH 9 71 rfl fun K hK => ?_;go_simp;refine (markwrite_walk (w := w6.drew) HK6d.out HOK.out b a).mono ?_;rintro e9 w7 ⟨v7, rfl, ho7, hB7⟩;obtain ⟨E, hE⟩ : ∃ E, E = encM ⟨b, a, ks⟩ := ⟨_, rfl⟩;rw [← hE] at ho7;have HE : Hid (E = encM ⟨b, a, ks⟩) := hE;have HE256 : Hid (∀ c ∈ E.1, c < 256) := by rw [hE]; exact encM_ltS HOK.out
  have HB7 := hidH (below_trans (below_drewN w6 1) hB7);have HO7 : Hid (w7.ownsRow w.heap.size 5 1 v7 E.1.length (cb E.1)) := own_baseC ho7 HS6.out;obtain ⟨va, vn, vc, hvv⟩ : ∃ x y z, v7 = .slice x y z := by obtain ⟨x, z, e⟩ := own_form8 ho7; exact ⟨x, _, z, e⟩
  subst hvv;clear ho7 hB7 hE;refine hK.out _ _ ?_ fun hHeld => ?_
  ·exact (by show World.cell? _ _ = _; rw [HB7.out.cell (p := ⟨sp, 0, none⟩) HSL6.out]; exact HB0c.out)
  clear hK K;try simp only [Act.put, zz]
  refine rdH 10 72 rfl fun K hK => ?_;go_simp;have HB8 : Hid (Below w6.heap.size w6 (w7.alloc (Obj.cells #[.int .i64 0, .slice va vn vc] 80))) := below_trans HB7.out (below_alloc _ _);have HWL8 := hidH (HWL6.out.below HB8.out);have HO8 : Hid ((w7.alloc (Obj.cells #[.int .i64 0, .slice va vn vc] 80)).ownsRow w.heap.size 5 1 (.slice va vn vc) E.1.length (cb E.1)) := own_belowC HO7.out (below_alloc _ _);refine hK.out _ _ ?_ fun hHeld => ?_
  ·exact (by show World.cell? _ _ = _; rw [HB8.out.cell (p := ⟨sp, 0, none⟩) HSL6.out]; exact HB0c.out)
  clear hK K;try simp only [Act.put, zz]
  refine rdH 11 73 rfl fun K hK => ?_;refine step_app_wl rfl (.tmp 66) (.tmp 72) rfl (base := w.heap.size) (.slice la0 ln0 lc0) (tbL Ls m.k m.b b) (by simp [Act.eval]) HWL8.out w7.heap.size 0 (.slice va vn vc) E.1 (by simp [Act.eval]) (by simp [go_sem]) (by simp [go_sem]) HO8.out HE256.out (by omega) (by have := tb_len Ls m.k m.b b; omega) (by have h1 := HB8.out.size; have h2 := HS6.out; omega) ?_;intro v9 w9 hwl9 hb9;have HWL9 := hidH hwl9;have HC9 : Hid (Ch (fun x => w.heap.size ≤ x) w6 w9) := ch_high HB8.out hb9;have HT9 : Hid (ST A w9 (.pointer (some ⟨sp, 0, none⟩)) dv k P S6) := HT6.out.high HC9.out (fun x hx e => by have := HALW.out x hx; omega) (by have := HSPW.out; omega);obtain ⟨la, ln, lc, hlv⟩ := wl_form hwl9;subst hlv;have HM9 : Hid (w9.cell? ⟨sp, 0, none⟩ = some (.pointer (some ⟨pb, 0, none⟩))) := HC9.out.cell HB0c.out (by have := HSPW.out; simp only; omega);clear hwl9 hb9;refine hK.out _ _ ?_ fun hHeld => ?_
  ·exact HM9.out
  clear hK K;try simp only [Act.put, zz]
  refine rdH 12 74 rfl fun K hK => ?_;go_simp;obtain ⟨sp', bv', e', h1', h2', h3', h4'⟩ := HT9.out
  cases e'
  have hbv : bv' = .pointer (some ⟨pb, 0, none⟩) := by have h9 := HM9.out; rw [cell_of_row w9 sp 0 _ _ (0, 0) h1'] at h9; simpa using h9
  subst hbv;have HH1 : Hid _ := h1';have HH2 : Hid _ := h2';refine (put_walk9 h3' (HWL9.out.tx HALW.out) HWR6.out).mono ?_;rintro e9 w10 ⟨rfl, ⟨A', hbk, hA'⟩, hc10⟩;have HBK : Hid _ := hbk;have HA' := hidH hA';have HC10 : Hid (Ch A w9 w10) := hc10;have HM10 : Hid (w10.cell? ⟨sp, 0, none⟩ = some (.pointer (some ⟨pb, 0, none⟩))) := hc10.cell HM9.out HH2.out;clear hbk hA' hc10 h1' h2' h3' h4';refine hK.out _ _ ?_ fun hHeld => ?_
  ·exact HM10.out
  clear hK K;try simp only [Act.put, zz]
  refine tkS 13 8 rfl hHeld ?_;refine wpAnyH_done (by kernel_rfl) ?_ _;refine NoPanic.normal ?_;go_wp2_with fail;go_ret;have HBL : begL Ls m b a ks = tbL Ls m.k m.b b ++ [(0, E.1)] := by unfold begL; rw [HE.out]
  refine .inr (.inr ⟨HS.out, HBE.out, S6, A', HR6.out, by rw [HBL]; rfl, ?_, fun x hx => ?_, ?_⟩)
  ·rw [HBL];have hl := (Array.getElem?_eq_some_iff.1 HH1.out).1
   exact ⟨sp, _, rfl, by rw [HC10.out.block sp hl HH2.out]; exact HH1.out, fun e => by
    rcases HA'.out sp e with q | q
    ·exact HH2.out q
    ·omega, HBK.out, by
    rw [putO_tab (B := S.bl.length) HPO.out H64.out];exact HT6.out.ok.2⟩
  ·rcases HA'.out x hx with q | q
   ·exact .inl q
   ·have h1 := HC9.out.size; have h2 := HS6.out; right; omega
  ·exact (HC6.out.trans HC9.out (fun x hx => .inr hx)).self HC10.out
end
end
section
def fmtO (k : Int) (S : Dk) : Int × Option Bo × Dk :=
 if knownB k = false then (1, none, S) else match formO S 7 with
 | (c, none, S') => (c, none, S')
 | (_, some P, S') => if (putO P S' [(0, (encM zeroM).1)]).1 ≠ 0 then ((putO P S' [(0, (encM zeroM).1)]).1, none, (putO P S' [(0, (encM zeroM).1)]).2.2) else (0, some (putO P S' [(0, (encM zeroM).1)]).2.1, (putO P S' [(0, (encM zeroM).1)]).2.2)
theorem form_some {S S' : Dk} {c : Int} {P : Bo} (h : formO S 7 = (c, some P, S')) : c = 0 ∧ P = ⟨1, zer 7, 0, false⟩ := by
 unfold formO at h
 split at h
 ·cases h
 ·split at h
  ·cases h
  ·split at h
   ·cases h
   ·split at h
    ·cases h
    ·cases h; exact ⟨rfl, rfl⟩
theorem form_wr (S : Dk) : (formO S 7).2.2.wr ≤ S.wr + 2 := by
 have h1 := @write_wr S 1 [];have h2 := @write_wr (writeS S 1 []) 0 (rootB 1 (zer (7 : Int).toNat));unfold formO
 split
 ·show S.wr ≤ _; omega
 ·split
  ·show S.wr ≤ _; omega
  ·split
   ·show (writeS S 1 []).wr ≤ _; omega
   ·split
    ·show (writeS _ _ _).wr ≤ _; omega
    ·show (writeS _ _ _).wr ≤ _; omega
theorem form_none {S S' : Dk} {c : Int} (h : formO S 7 = (c, none, S')) : c ≠ 0 := by
 unfold formO at h
 split at h
 ·cases h; decide
 ·split at h
  ·cases h; decide
  ·split at h
   ·cases h; decide
   ·split at h
    ·cases h; decide
    ·cases h
theorem wl_one {base : Nat} {w : World} {p : Int} {v : Value} {d : List Nat} (hv : w.ownsRow base 5 1 v d.length (cb d)) (hd : ∀ c ∈ d, c < 256) (hp : 0 ≤ p ∧ p < 8) (hb : base ≤ w.heap.size) :
  WL base (w.alloc (Obj.cells #[.int .i64 p, v] 80)) (.slice (some ⟨w.heap.size, 0, none⟩) 1 1) [(p, d)] := by
 refine ⟨[(p, v)], rfl, ⟨rfl, .inr ⟨w.heap.size, 1, #[.int .i64 p, v], rfl, hb, heap_alloc_new w _, Nat.le_refl _, by simp [maxLen], rfl, rfl⟩⟩, fun i hi hi' => ?_, fun q hq => ?_⟩
 ·have h0 : i = 0 := by simp at hi; omega
  subst h0;exact ⟨rfl, own_belowC hv (below_alloc _ _), hd⟩
 ·simp at hq; subst hq; exact hp
theorem zero_ok : keysOk zeroM.k := by intro x hx; simp [zeroM] at hx
section

variable {D : Nat → Prop} {w : World} {dv : Value} {S : Dk}

def FtGot (D : Nat → Prop) (w : World) (dv : Value) (k : Int) (S : Dk) (e : Ending) (w' : World) : Prop :=
 ∃ v, e = .returned (.tuple #[v, .int .i64 (fmtO k S).1]) ∧ ((fmtO k S).2.1 = none → v = .pointer none ∧ ∃ D', Dsk 92 D' w' dv (fmtO k S).2.2 ∧ ∀ x, D' x → D x ∨ w.heap.size ≤ x) ∧
  (∀ P, (fmtO k S).2.1 = some P → ∃ A' sp, v = .pointer (some ⟨sp, 0, none⟩) ∧ w.heap.size ≤ sp ∧ ST A' w' v dv k P (fmtO k S).2.2 ∧ ∀ x, A' x → D x ∨ w.heap.size ≤ x) ∧ Ch D w w'
theorem ft_no {k c : Int} {S' : Dk} {w' : World} {D' : Nat → Prop} (h : fmtO k S = (c, none, S')) (hd : Dsk 92 D' w' dv S') (hD : ∀ x, D' x → D x ∨ w.heap.size ≤ x) (hc : Ch D w w') : FtGot D w dv k S (.returned (.tuple #[.pointer none, .int .i64 c])) w' := by
 unfold FtGot;rw [h];exact ⟨_, rfl, fun _ => ⟨rfl, D', hd, hD⟩, fun P e => (by cases e), hc⟩
theorem Bk.dsk {A : Nat → Prop} {v : Value} {P : Bo} (h : BP A w v dv P S) : ∃ D', Dsk 92 D' w dv S ∧ ∀ x, D' x → A x := by
 obtain ⟨D', h1, h2, _⟩ := h.disk;exact ⟨D', h1, h2⟩
theorem sformat_walk (h : Dsk 92 D w dv S) (k : Int) (hwr : S.wr < 4611686018427387000) : Calls Tryz.prog 6 #[dv, .int .i64 k] w (FtGot D w dv k S) := by
 have HD := hidH h;have HWR := hidH hwr;have H64 : Hid (S.bl.length ≤ 64) := h.good.n64;have HDL : Hid (∀ x, D x → x < w.heap.size) := fun x hx => h.lt hx;obtain ⟨sb, hsb⟩ : ∃ sb, dv = .pointer (some ⟨sb, 0, none⟩) := by obtain ⟨sb, gp, cap, e, _⟩ := h; exact ⟨sb, e⟩
 subst hsb;obtain ⟨K, hK⟩ : ∃ K, K = knownB k := ⟨_, rfl⟩;have HK : Hid (K = knownB k) := hK;clear h hwr hK;go_in;go_wp2_with fail;refine (srefuses_walk sb k _).mono ?_;unfold refK;rw [← HK.out];rintro e w1 ⟨rfl, hw1⟩;replace hw1 := hw1.symm;subst hw1
 cases K
 ·have HF : Hid (fmtO k S = (1, none, S)) := by show _ = _; unfold fmtO; rw [if_pos HK.out.symm]
  go_wp2_with fail;go_ret2;exact ft_no HF.out HD.out (fun x hx => .inl hx) (Ch.refl _ _)
 ·go_wp2_with fail;refine (format_walk HD.out 7 (by have := HWR.out; omega)).mono ?_;obtain ⟨c, o, S1, hO⟩ : ∃ c o S1, formO S 7 = (c, o, S1) := ⟨_, _, _, rfl⟩;have HO : Hid (formO S 7 = (c, o, S1)) := hO;unfold Fm Ob;rw [hO];rintro e w1 ⟨v1, rfl, hno, hyes, hc1⟩;clear hO
  cases o with
  | none =>
   obtain ⟨rfl, D', hd', hD'⟩ := hno rfl;have hc0 : (c != 0) = true := by rw [bne_iff_ne]; exact form_none HO.out
   have HF : Hid (fmtO k S = (c, none, S1)) := by show _ = _; unfold fmtO; rw [if_neg (by rw [← HK.out]; simp), HO.out]
   have HD1 := hidH hd';have HX := hidH hD';have HC1 : Hid (Ch D w w1) := hc1;clear hno hyes hd' hD' hc1;go_wp2_with fail;go_ret2;exact ft_no HF.out HD1.out HX.out HC1.out
  | some P =>
   obtain ⟨rfl, hP⟩ := form_some HO.out;obtain ⟨A, hbk, hA⟩ := hyes P rfl;have HBK := hidH hbk;have HA := hidH hA;have HC1 : Hid (Ch D w w1) := hc1;have HP7 : Hid (P.tab.length = 7) := by rw [hP]; rfl
   have HPK : Hid (P.ok S1.bl.length) := hbk.good
   have HW1 : Hid (S1.wr < 4611686018427387904) := by
    have h1 := HO.out;have h2 := HWR.out;have h3 := form_wr S;rw [h1] at h3;show _ < _;simp only at h3;omega
   have HAL : Hid (∀ x, A x → x < w1.heap.size) := fun x hx => hbk.lt hx;have HS1 : Hid (S1.bl.length ≤ 64) := by obtain ⟨D', h1, _⟩ := hbk.dsk; exact h1.good.n64
   obtain ⟨pb, hpb⟩ : ∃ pb, v1 = .pointer (some ⟨pb, 0, none⟩) := by obtain ⟨D', pb, tv, e, _⟩ := hbk; exact ⟨pb, e⟩
   subst hpb;clear hno hyes hbk hA hc1 hP;go_wp2_with fail;refine (markwrite_walk (Sv.nil .u64 w1 : Kv w1 (.slice none 0 0) []) zero_ok 0 0).mono ?_;rintro e w2 ⟨v2, rfl, ho2, hB2⟩;obtain ⟨E, hE⟩ : ∃ E, E = encM zeroM := ⟨_, rfl⟩;have HE : Hid (E = encM zeroM) := hE;have HE256 : Hid (∀ c ∈ E.1, c < 256) := by rw [hE]; exact encM_ltS zero_ok
   have HO2 : Hid (w2.ownsRow w1.heap.size 5 1 v2 E.1.length (cb E.1)) := by rw [hE]; exact ho2
   have HB2 := hidH hB2;obtain ⟨va, vn, vc, hvv⟩ : ∃ x y z, v2 = .slice x y z := by obtain ⟨x, z, e⟩ := own_form8 ho2; exact ⟨x, _, z, e⟩
   subst hvv;have HWL : Hid (WL w1.heap.size (w2.alloc (Obj.cells #[.int .i64 0, .slice va vn vc] 80)) (.slice (some ⟨w2.heap.size, 0, none⟩) 1 1) [(0, E.1)]) := wl_one HO2.out HE256.out (by omega) hB2.size;have HB3 : Hid (Below w1.heap.size w1 (w2.alloc (Obj.cells #[.int .i64 0, .slice va vn vc] 80))) := below_trans hB2 (below_alloc _ _);clear ho2 hB2 hE;go_wp2_with fail;refine (put_walk9 (HBK.out.below HB3.out) (HWL.out.tx HAL.out) HW1.out).mono ?_;rintro e w3 ⟨rfl, ⟨A', hbk', hA'⟩, hc3⟩;obtain ⟨c, P', S', hput⟩ : ∃ c P' S', putO P S1 [(0, E.1)] = (c, P', S') := ⟨_, _, _, rfl⟩;have HPT : Hid (putO P S1 [(0, (encM zeroM).1)] = (c, P', S')) := by rw [← HE.out]; exact hput
   rw [hput] at hbk' ⊢;have HBK' := hidH hbk'
   have HA' : Hid (∀ x, A' x → D x ∨ w.heap.size ≤ x) := fun x hx => by
    rcases hA' x hx with q | q
    ·exact HA.out x q
    ·have h1 := HB3.out.size; have h2 := HC1.out.size; right; omega
   have HC3 : Hid (Ch D w w3) := (HC1.out.self (Ch.of_below HB3.out)).trans hc3 (fun x hx => HA.out x hx);clear hbk' hA' hc3;by_cases hc : c = 0;rotate_left
   ·have hci : (c != 0) = true := by rw [bne_iff_ne]; exact hc
    have HF : Hid (fmtO k S = (c, none, S')) := by show _ = _; unfold fmtO; rw [if_neg (by rw [← HK.out]; simp), HO.out]; simp only [HPT.out]; rw [if_pos hc]
    clear hc hput;go_wp2_with fail;go_ret2;obtain ⟨D', h1, h2⟩ := HBK'.out.dsk;exact ft_no HF.out h1 (fun x hx => HA'.out x (h2 x hx)) HC3.out
   ·subst hc;have HF : Hid (fmtO k S = (0, some P', S')) := by show _ = _; unfold fmtO; rw [if_neg (by rw [← HK.out]; simp), HO.out]; simp only [HPT.out]; rw [if_neg (by simp)]
    have HP' : Hid (P'.tab.length = 7) := by have h := putO_tab (P := P) (S := S1) (ps := [(0, E.1)]) HPK.out HS1.out; rw [hput] at h; exact h.trans HP7.out
    clear hput;go_wp2_with fail;go_ret2;unfold FtGot;rw [HF.out];refine ⟨_, rfl, fun e => (by cases e), fun Q e => ?_, HC3.out.self (Ch.of_below (below_alloc _ _))⟩
    cases e
    exact ⟨A', w3.heap.size, rfl, HC3.out.size, ⟨w3.heap.size, _, rfl, heap_alloc_new w3 _, fun e => by have := HBK'.out.lt e; omega, HBK'.out.below (below_alloc _ _), HP'.out⟩, HA'.out⟩
end
end
end Go.Proofs.YtcmklbibehnloaaGreat
