/- Contract of the store's takenBack. -/
import Derived.Test.YtcmklbibehnloaaGreatB28
import Derived.Test.YtcmklbibehnloaaGreatB27
set_option maxRecDepth 100000
set_option maxHeartbeats 16000000
namespace Go.Proofs.YtcmklbibehnloaaGreat
open Go.RowKit
def cntdB (b a : Int) : Bool := decide (1 ≤ b) && (decide (b ≤ 1099511627776) && (decide (1 ≤ a) && decide (a ≤ 1099511627776)))
theorem cntd_walk (b a : Int) (w : World) : Calls Tryz.prog 68 #[.int .i64 b, .int .i64 a] w fun e w' => e = .returned (.bool (cntdB b a)) ∧ w' = w := by
 by_cases h1 : (1 : Int) ≤ b
 ·by_cases h2 : b ≤ 1099511627776
  ·by_cases h3 : (1 : Int) ≤ a
   ·by_cases h4 : a ≤ 1099511627776
    ·have HR : Hid (cntdB b a = true) := by show _ = _; simp [cntdB, h1, h2, h3, h4]
     go_in;go_wp2_with fail;go_ret;rw [HR.out];exact ⟨rfl, rfl⟩
    ·have HR : Hid (cntdB b a = false) := by show _ = _; unfold cntdB; rw [decide_eq_false h4]; simp
     go_in;go_wp2_with fail;go_ret;rw [HR.out];exact ⟨rfl, rfl⟩
   ·have HR : Hid (cntdB b a = false) := by show _ = _; unfold cntdB; rw [decide_eq_false h3]; simp
    go_in;go_wp2_with fail;go_ret;rw [HR.out];exact ⟨rfl, rfl⟩
  ·have HR : Hid (cntdB b a = false) := by show _ = _; unfold cntdB; rw [decide_eq_false h2]; simp
   go_in;go_wp2_with fail;go_ret;rw [HR.out];exact ⟨rfl, rfl⟩
 ·have HR : Hid (cntdB b a = false) := by show _ = _; unfold cntdB; rw [decide_eq_false h1]; simp
  go_in;go_wp2_with fail;go_ret;rw [HR.out];exact ⟨rfl, rfl⟩
def refK (k : Int) : Int := if knownB k = true then 0 else 1
theorem srefuses_walk (d : Nat) (k : Int) (w : World) : Calls Tryz.prog 39 #[.pointer (some ⟨d, 0, none⟩), .int .i64 k] w fun e w' => e = .returned (.int .i64 (refK k)) ∧ w' = w := by
 unfold refK;obtain ⟨K, hK⟩ : ∃ K, K = knownB k := ⟨_, rfl⟩;rw [← hK];go_in;go_wp2_with fail;refine (known_walk k _).mono ?_;rw [← hK];rintro e w2 ⟨rfl, hw2⟩;replace hw2 := hw2.symm;subst hw2;clear hK
 cases K
 ·go_wp2_with fail;go_ret;exact ⟨rfl, rfl⟩
 ·go_wp2_with fail;go_ret;exact ⟨rfl, rfl⟩
theorem encM_ltS {m : Mk} (hk : keysOk m.k) : ∀ x ∈ (encM m).1, x < 256 := by
 unfold encM
 cases h : soundBM m
 ·simp
 ·rw [if_pos rfl]; exact bytesM_lt h hk
theorem markwrite_walk {w : World} {kv : Value} {ks : List Nat} (hk : Kv w kv ks) (hok : keysOk ks) (b a : Int) :
  Calls Tryz.prog 42 #[.agg #[.int .i64 b, .int .i64 a, kv]] w fun e w' => ∃ v, e = .returned (.agg #[.int .i64 0, v]) ∧ w'.ownsRow w.heap.size 5 1 v (encM ⟨b, a, ks⟩).1.length (cb (encM ⟨b, a, ks⟩).1) ∧ Below w.heap.size w w' := by
 have HOK : Hid _ := hok;have HB0 : Hid (Below w.heap.size w ((w.alloc (Obj.cells #[.int .i64 b, .int .i64 a, kv] 65)).alloc (Obj.cells #[.int .i64 0, .slice none 0 0] 80))) := below_trans (below_alloc _ _) (below_alloc _ _);have HK0 : Hid _ := hk.below HB0.out;have HM0 : Hid _ := (mb_new w b a kv).keep (below_alloc _ (Obj.cells #[.int .i64 0, .slice none 0 0] 80));have r0 : ((w.alloc (Obj.cells #[.int .i64 b, .int .i64 a, kv] 65)).alloc (Obj.cells #[.int .i64 0, .slice none 0 0] 80)).cell? ⟨w.heap.size + 1, 0, none⟩ = some (.int .i64 0) := by simp [go_sem]
 have r1 : ((w.alloc (Obj.cells #[.int .i64 b, .int .i64 a, kv] 65)).alloc (Obj.cells #[.int .i64 0, .slice none 0 0] 80)).cell? ⟨w.heap.size + 1, 1, none⟩ = some (.slice none 0 0) := by simp [go_sem]
 have rz : ∀ j, ((w.alloc (Obj.cells #[.int .i64 b, .int .i64 a, kv] 65)).alloc (Obj.cells #[.int .i64 0, .slice none 0 0] 80)).frozen? ⟨w.heap.size + 1, j, none⟩ = false := by intro j; simp [go_sem]
 have HR0 : Hid _ := r0;have HR1 : Hid _ := r1;have HRZ : Hid _ := rz;obtain ⟨ka, kn, kc, hkv⟩ := sv_any hk;subst hkv;clear hk hok r0 r1 rz;go_in;go_upto_region 1 with fail
 obtain ⟨N, hN⟩ : ∃ N, N = w.heap.size := ⟨_, rfl⟩;rw [← hN] at HM0 HR0 HR1 HRZ ⊢;have HN : Hid (N = w.heap.size) := hN;clear hN;generalize (w.alloc (Obj.cells #[.int .i64 b, .int .i64 a, .slice ka kn kc] 65)).alloc (Obj.cells #[.int .i64 0, .slice none 0 0] 80) = w0 at HB0 HK0 HM0 HR0 HR1 HRZ ⊢;have c0 := HM0.out.c0;have c1 := HM0.out.c1;have c2 := HM0.out.c2;have HL0 : Hid (N + 1 < w0.heap.size) := cell_lt HR0.out;obtain ⟨R, hR⟩ : ∃ R, R = N + 1 := ⟨_, rfl⟩;rw [← hR] at HR0 HR1 HRZ HL0 ⊢;have HRN : Hid (R = N + 1) := hR;clear hR;go_wp2_with fail;refine (menc_walk HK0.out HOK.out b a).mono ?_;rintro e w1 ⟨v, rfl, ho1, hB1⟩;obtain ⟨E, hE⟩ : ∃ E, E = encM ⟨b, a, ks⟩ := ⟨_, rfl⟩;rw [← hE] at ho1;have HE : Hid (E = encM ⟨b, a, ks⟩) := hE;have r0 : w1.cell? ⟨R, 0, none⟩ = some (.int .i64 0) := by rw [hB1.cell (p := ⟨R, 0, none⟩) HL0.out]; exact HR0.out
 have r1 : w1.cell? ⟨R, 1, none⟩ = some (.slice none 0 0) := by rw [hB1.cell (p := ⟨R, 1, none⟩) HL0.out]; exact HR1.out
 have z0 : w1.frozen? ⟨R, 0, none⟩ = false := by rw [hB1.frozen (p := ⟨R, 0, none⟩) HL0.out]; exact HRZ.out 0
 have z1 : w1.frozen? ⟨R, 1, none⟩ = false := by rw [hB1.frozen (p := ⟨R, 1, none⟩) HL0.out]; exact HRZ.out 1
 have HB1 := hidH (below_trans HB0.out hB1);have HO1 : Hid (w1.ownsRow (R + 1) 5 1 v E.1.length ((ib E.1).map (Value.int .u8))) := own_baseC ho1 HL0.out;have hRw : w.heap.size ≤ R := by have h1 := HN.out; have h2 := HRN.out; omega
 have HOF : Hid (((w1.setCell ⟨R, 0, none⟩ (.int .i64 0)).setCell ⟨R, 1, none⟩ v).ownsRow w.heap.size 5 1 v E.1.length (cb E.1)) := own_baseC (own_ch HO1.out ((ch_set w1 R 0 _).self (ch_set _ R 1 _)) (fun x hx => by omega)) (by omega);have HBF : Hid (Below w.heap.size w ((w1.setCell ⟨R, 0, none⟩ (.int .i64 0)).setCell ⟨R, 1, none⟩ v)) := (HB1.out.setCell hRw _).setCell hRw _;obtain ⟨va, vn, vc, hvv⟩ : ∃ x y z, v = .slice x y z := by obtain ⟨x, z, e⟩ := own_form8 ho1; exact ⟨x, _, z, e⟩
 subst hvv;clear ho1 hB1 c0 c1 c2 HR0 HR1 HRZ hE hRw;go_wp2_with fail;refine bodyPost_ret (v := .agg #[.int .i64 0, .slice va vn vc]) (by simp [results, Tryz.results42, go_sem, r0, r1]) rfl ?_;rw [← HE.out];exact ⟨_, rfl, HOF.out, HBF.out⟩
def fitL (k : Int) (l : List Pr) : Bool := l.all fun p => eqV (fitV k p.v) p.v
def fitsB (k : Int) (l : List Pr) : Bool := fitL k l && tabB l
theorem fitL_no {k : Int} {l : List Pr} {i : Nat} (hi : i < l.length) (h : fitV k l[i].v ≠ l[i].v) : fitsB k l = false := by
 have : fitL k l = false := by
  unfold fitL;rw [List.all_eq_false];exact ⟨l[i], List.getElem_mem _, by rw [eqV_iff]; exact h⟩
 rw [fitsB, this]; rfl
theorem fitL_yes {k : Int} {l : List Pr} (h : ∀ i, (hi : i < l.length) → fitV k l[i].v = l[i].v) : fitsB k l = tabB l := by
 have : fitL k l = true := by
  unfold fitL;rw [List.all_eq_true];intro p hp;obtain ⟨i, hi, rfl⟩ := List.mem_iff_getElem.1 hp;exact eqV_iff.2 (h i hi)
 rw [fitsB, this]; rfl
theorem fits_walk {w : World} {tv : Value} {l : List Pr} (h : Qv w tv l) (k : Int) : Calls Tryz.prog 73 #[.int .i64 k, tv] w fun e w' => e = .returned (.bool (fitsB k l)) ∧ Below w.heap.size w w' := by
 have HQ : Hid (Qv w tv l) := h;obtain ⟨⟨ta, tc, htv, htl, htm, _, _⟩, hok⟩ := h;obtain ⟨n, hn⟩ : ∃ n, n = l.length := ⟨_, rfl⟩;rw [← hn] at htv;subst htv;have HN : Hid (n = l.length) := hn;have HOK : Hid (∀ o ∈ l, o.ok) := hok;have hni : (n : Int) ≤ 9223372036854775807 := by unfold maxLen at htm; omega
 have HLM : Hid (l.length ≤ maxLen) := Nat.le_trans htl htm;clear hok hn htl htm;go_in;go_wp2_with fail;go_loopw [9] (fun iv wr => ∃ i : Nat, iv = .int .i64 i ∧ i ≤ n ∧ (∀ j, (hj : j < l.length) → j < i → fitV k l[j].v = l[j].v) ∧ Below w.heap.size w wr) (fun iv _ => n - (intOf iv).toNat)
 case atStart => exact ⟨0, rfl, by omega, fun j _ h => by omega, Below.refl _ _⟩
 case round =>
  obtain ⟨i, rfl, hi, hall, hB⟩ := hrel;have HA : Hid (∀ j, (hj : j < l.length) → j < i → fitV k l[j].v = l[j].v) := hall;have HB := hidH hB;clear hall hB;by_cases hlt : i < n;rotate_left
  ·have hlti : ¬ (i : Int) < (n : Int) := by omega
   have HE : Hid (fitsB k l = tabB l) := fitL_yes (fun j hj => HA.out j hj (by have := HN.out; omega));have HQL : Hid (Ql wr ta l) := ((HQ.out.below HB.out)).ql;go_wp2_with fail;rw [HN.out];refine (sound_walk HLM.out HQL.out).mono ?_;rw [← HE.out];rintro e w2 ⟨rfl, hB2⟩;have HB2 := hidH (below_trans HB.out hB2);clear hB2;go_wp2_with fail;go_ret;exact ⟨rfl, HB2.out⟩
  ·have hlti : (i : Int) < (n : Int) := by omega
   have hltd : decide (i < n) = true := decide_eq_true hlt;have hil : i < l.length := by have := HN.out; omega
   obtain ⟨b0, off, e0, m0, m1, m2⟩ := (HQ.out.below HB.out).ql i hil;subst e0;obtain ⟨p, hp⟩ : ∃ p, p = l[i] := ⟨_, rfl⟩;rw [← hp] at m0 m1 m2;have HP : Hid (p = l[i]) := hp;have HPV : Hid p.v.ok := by rw [hp]; exact (HOK.out _ (List.getElem_mem _)).2
   clear hp;go_upto_region 4 with fail
   clear m0 m1 m2;have HQB : Hid _ := qb_new wr p.k p.v;have HB2 : Hid (Below w.heap.size w (wr.alloc (Obj.cells #[.int .u64 p.k, .bool p.v.h, .int .u64 p.v.b] 62))) := below_trans HB.out (below_alloc _ _);generalize wr.heap.size = X at HQB ⊢;generalize wr.alloc (Obj.cells #[.int .u64 p.k, .bool p.v.h, .int .u64 p.v.b] 62) = w2 at HQB HB2 ⊢;have q1 : ∀ wx, Below w2.heap.size w2 wx → wx.cell? ⟨X, 1, none⟩ = some (.bool p.v.h) := fun wx h => (HQB.out.keep h).c1;have q2 : ∀ wx, Below w2.heap.size w2 wx → wx.cell? ⟨X, 2, none⟩ = some (.int .u64 p.v.b) := fun wx h => (HQB.out.keep h).c2;obtain ⟨F, hF⟩ : ∃ F, F = fitV k p.v := ⟨_, rfl⟩;have HF : Hid (F = fitV k p.v) := hF;have hgv := guard_val;clear hF;by_cases hfp : F = p.v
   ·have hq : ∀ w, (binOp .neq 53 (.agg #[.bool F.h, .int .u64 F.b]) (.agg #[.bool p.v.h, .int .u64 p.v.b])).run Tryz.prog w = .ok (.bool false) w := by rw [hfp]; exact neq_val p.v
    have HNX : Hid (∀ j, (hj : j < l.length) → j < i + 1 → fitV k l[j].v = l[j].v) := fun j hj hji => by
     rcases Nat.lt_or_ge j i with q | q
     ·exact HA.out j hj q
     ·obtain rfl : j = i := by omega
      rw [← HP.out, ← HF.out]; exact hfp
    clear hfp;go_wp2_with fail
    go_region_held3 (fun wx => Below w2.heap.size w2 wx) (first | assumption | exact (Below.refl _ _).drew)
     (first | (go_at_call 138; refine (fit_walk k HPV.out _).mono ?_; rw [← HF.out]; rintro e w3 ⟨rfl, hB3⟩; have hS3 := below_trans (by assumption) hB3))
    have HB3 : Hid (Below w.heap.size w w3) := below_trans HB2.out (by assumption);clear hB3 hS3;go_wp2_with fail;go_roundw
    case rel => exact ⟨i + 1, by go_num, hlt, HNX.out, HB3.out⟩
    case measure => simp [intOf]; omega
   ·have hq : ∀ w, (binOp .neq 53 (.agg #[.bool F.h, .int .u64 F.b]) (.agg #[.bool p.v.h, .int .u64 p.v.b])).run Tryz.prog w = .ok (.bool true) w := neq_valX F p.v hfp;have HNO : Hid (fitsB k l = false) := fitL_no hil (by rw [← HP.out, ← HF.out]; exact hfp);clear hfp;go_wp2_with fail
    go_region_held3 (fun wx => Below w2.heap.size w2 wx) (first | assumption | exact (Below.refl _ _).drew)
     (first | (go_at_call 138; refine (fit_walk k HPV.out _).mono ?_; rw [← HF.out]; rintro e w3 ⟨rfl, hB3⟩; have hS3 := below_trans (by assumption) hB3))
    have HB3 : Hid (Below w.heap.size w w3) := below_trans HB2.out (by assumption);clear hB3 hS3;go_wp2_with fail;go_ret;exact ⟨by rw [HNO.out]; rfl, HB3.out⟩
def toucB (ks : List Nat) (l : List Pr) : Bool := l.all fun p => decide (p.k ∈ ks)
theorem touches_walk {w : World} {tv kv : Value} {l : List Pr} {ks : List Nat} (h : Qv w tv l) (hk : Kv w kv ks) (mb ma : Int) : Calls Tryz.prog 74 #[.agg #[.int .i64 mb, .int .i64 ma, kv], tv] w fun e w' => e = .returned (.bool (toucB ks l)) ∧ Below w.heap.size w w' := by
 have HQ : Hid (Qv w tv l) := h;have HK : Hid (Kv w kv ks) := hk;obtain ⟨⟨ta, tc, htv, htl, htm, _, _⟩, hok⟩ := h;obtain ⟨n, hn⟩ : ∃ n, n = l.length := ⟨_, rfl⟩;rw [← hn] at htv;subst htv;have HN : Hid (n = l.length) := hn;have hni : (n : Int) ≤ 9223372036854775807 := by unfold maxLen at htm; omega
 obtain ⟨ka, kn, kc, hkv⟩ := sv_any hk;subst hkv;have HB0 : Hid _ := below_alloc w (Obj.cells #[.int .i64 mb, .int .i64 ma, .slice ka kn kc] 65);have HM0 : Hid _ := mb_new w mb ma (.slice ka kn kc);clear hok hn htl htm hk;go_in;go_upto_region 1 with fail
 generalize hN0 : w.heap.size = N at HM0 ⊢;have HN0 : Hid (w.heap.size = N) := hN0;clear hN0;generalize w.alloc (Obj.cells #[.int .i64 mb, .int .i64 ma, .slice ka kn kc] 65) = w0 at HB0 HM0 ⊢;go_wp2_with fail;go_loopw [9] (fun iv wr => ∃ i : Nat, iv = .int .i64 i ∧ i ≤ n ∧ (∀ j, (hj : j < l.length) → j < i → l[j].k ∈ ks) ∧ Below w0.heap.size w0 wr) (fun iv _ => n - (intOf iv).toNat)
 case atStart => exact ⟨0, rfl, by omega, fun j _ h => by omega, Below.refl _ _⟩
 case round =>
  obtain ⟨i, rfl, hi, hall, hB⟩ := hrel;have HA := hidH hall;have HB := hidH hB;have HBW := hidH (below_trans HB0.out hB);clear hall hB;by_cases hlt : i < n;rotate_left
  ·have hlti : ¬ (i : Int) < (n : Int) := by omega
   have HE : Hid (toucB ks l = true) := by
    show _ = _;unfold toucB;rw [List.all_eq_true];intro p hp;obtain ⟨j, hj, rfl⟩ := List.mem_iff_getElem.1 hp;exact decide_eq_true (HA.out j hj (by have := HN.out; omega))
   go_wp2_with fail;go_ret;exact ⟨by rw [HE.out]; rfl, HBW.out⟩
  ·have hlti : (i : Int) < (n : Int) := by omega
   have hltd : decide (i < n) = true := decide_eq_true hlt;have hil : i < l.length := by have := HN.out; omega
   obtain ⟨b0, off, e0, m0, m1, m2⟩ := (HQ.out.below HBW.out).ql i hil;subst e0;obtain ⟨p, hp⟩ : ∃ p, p = l[i] := ⟨_, rfl⟩;rw [← hp] at m0 m1 m2;have HP : Hid (p = l[i]) := hp;clear hp;go_upto_region 4 with fail
   clear m0 m1 m2;have HQB : Hid _ := qb_new wr p.k p.v;have HB2 : Hid (Below w0.heap.size w0 (wr.alloc (Obj.cells #[.int .u64 p.k, .bool p.v.h, .int .u64 p.v.b] 62))) := below_trans HB.out (below_alloc _ _);generalize wr.heap.size = X at HQB ⊢;generalize wr.alloc (Obj.cells #[.int .u64 p.k, .bool p.v.h, .int .u64 p.v.b] 62) = w2 at HQB HB2 ⊢;have HM2 : Hid _ := HM0.out.keep HB2.out;have HK2 : Hid (Kv w2 (.slice ka kn kc) ks) := HK.out.below (below_trans HB0.out HB2.out);have y0 := HM2.out.c0;have y1 := HM2.out.c1;have y2 := HM2.out.c2;have q0 := HQB.out.c0;obtain ⟨H, hH⟩ : ∃ H, H = decide (p.k ∈ ks) := ⟨_, rfl⟩;go_wp2_with fail;refine (has_walkM HK2.out mb ma p.k).mono ?_;rw [← hH];rintro e w3 ⟨rfl, hB3⟩;have HB3 := hidH (below_trans HB2.out hB3);clear hB3 y0 y1 y2 q0
   cases H
   ·have HE : Hid (toucB ks l = false) := by
     show _ = _;unfold toucB;rw [List.all_eq_false];exact ⟨l[i], List.getElem_mem _, by rw [← HP.out, ← hH]; simp⟩
    clear hH;go_wp2_with fail;go_ret;exact ⟨by rw [HE.out]; rfl, below_trans HB0.out HB3.out⟩
   ·have HNX : Hid (∀ j, (hj : j < l.length) → j < i + 1 → l[j].k ∈ ks) := fun j hj hji => by
     rcases Nat.lt_or_ge j i with q | q
     ·exact HA.out j hj q
     ·obtain rfl : j = i := by omega
      rw [← HP.out]; exact of_decide_eq_true hH.symm
    clear hH;go_wp2_with fail;go_roundw
    case rel => exact ⟨i + 1, by go_num, hlt, HNX.out, HB3.out⟩
    case measure => simp [intOf]; omega
section
theorem decP_at {P : Bo} {S : Dk} : ∀ {k : Nat} {l : List (List Cl)}, decP P S k = some l → ∀ j, j < k → (decode (getL P S (1 + (j : Int)))).2 = 0 ∧ pgc l j = (decode (getL P S (1 + (j : Int)))).1 := by
 intro k
 induction k with
 | zero => intro l _ j hj; omega
 | succ k ih =>
  intro l h j hj;have hl := decP_len h;unfold decP at h
  split at h
  ·cases h
  ·rename_i l' hl'
   have hll := decP_len hl'
   split at h
   ·rename_i hd
    cases h
    by_cases e : j = k
    ·subst e;refine ⟨hd, ?_⟩;unfold pgc;rw [List.getD_eq_getElem?_getD, List.getElem?_append_right (by omega), hll, Nat.sub_self];rfl
    ·obtain ⟨a, b⟩ := ih hl' j (by omega);refine ⟨a, ?_⟩;rw [← b];unfold pgc;rw [List.getD_eq_getElem?_getD, List.getElem?_append_left (by omega), List.getD_eq_getElem?_getD]
   ·cases h
theorem rdd_decP {P : Bo} {S S' : Dk} {j : Nat} (h : Rdd j S S') : ∀ k, decP P S' k = decP P S k := by
 intro k
 induction k with
 | zero => rfl
 | succ k ih => unfold decP; rw [ih, rdd_getL h]
theorem encode_le {l : List Cl} (h : (encode l).2 = 0) : l.length ≤ 16 := by
 unfold encode at h
 split at h
 ·simp at h
 ·omega
def Pok (Ls : List (List Cl)) : Prop := Ls.length = 6 ∧ (∀ i, i < 6 → ∀ c ∈ pgc Ls i, c.okB) ∧ ∀ i, i < 6 → (pgc Ls i).length ≤ 16
theorem decP_ok6 {P : Bo} {S : Dk} {Ls : List (List Cl)} (h : decP P S 6 = some Ls) (hb : ∀ p, ∀ c ∈ getL P S p, c < 256) : Pok Ls := by
 refine ⟨decP_len h, fun i hi => ?_, fun i hi => ?_⟩
 ·obtain ⟨a, b⟩ := decP_at h i hi;rw [b]; exact (form_back (hb _) a).2
 ·obtain ⟨a, b⟩ := decP_at h i hi;rw [b]; exact encode_le (by rw [(form_back (hb _) a).1])
theorem rev_okB {ks : List Nat} {b : Int} {c : Cl} (h : c.okB) : (revP ks b c).okB := by
 unfold revP
 split
 ·unfold revC
  split
  ·exact h
  ·rename_i q
   obtain ⟨h1, h2, h3, h4, h5⟩ := h;exact ⟨h1, h2, h2, by show _ ≤ c.n - 1; omega, by show c.n - 1 < _; omega⟩
 ·exact h
theorem revL_okB {ks : List Nat} {b : Int} {l : List Cl} (h : ∀ c ∈ l, c.okB) : ∀ c ∈ revL ks b l, c.okB := by
 intro c hc;unfold revL at hc;rw [List.mem_filter, List.mem_map] at hc;obtain ⟨⟨d, hd, rfl⟩, _⟩ := hc;exact rev_okB (h d hd)
theorem pgc_map {g : List Cl → List Cl} {Ls : List (List Cl)} {i : Nat} (hi : i < Ls.length) : pgc (Ls.map g) i = g (pgc Ls i) := by
 rw [pgc_get (by simpa using hi), pgc_get hi]; simp
theorem map_pok {ks : List Nat} {b : Int} {Ls : List (List Cl)} (h : Pok Ls) : Pok (Ls.map (revL ks b)) := by
 refine ⟨by simp [h.1], fun i hi => ?_, fun i hi => ?_⟩
 ·rw [pgc_map (by rw [h.1]; exact hi)]; exact revL_okB (h.2.1 i hi)
 ·rw [pgc_map (by rw [h.1]; exact hi)]; exact Nat.le_trans (revL_len _ _ _) (h.2.2 i hi)
theorem kv_ch {D : Nat → Prop} {w w' : World} {v : Value} {l : List Nat} (h : Kv w v l) (hc : Ch D w w') (hd : ∀ x, v.ownBlock = some x → ¬ D x) : Kv w' v l := by
 obtain ⟨ao, cap, e, h1, h2, h3, h4⟩ := h;refine ⟨ao, cap, e, h1, h2, h3, fun i hi => ?_⟩;obtain ⟨b, off, e1, e2⟩ := h4 i hi;exact ⟨b, off, e1, hc.cell e2 (hd b (by rw [e, e1]; rfl))⟩
def tbL (Ls : List (List Cl)) (ks : List Nat) (mb b : Int) : List (Int × List Nat) := if b = mb then chgL Ls (Ls.map (revL ks mb)) 6 else []
section

variable {A : Nat → Prop} {w w' : World} {sv dv : Value} {k : Int} {P : Bo} {S : Dk} {sp : Nat}

theorem getL_byt (h : ST A w sv dv k P S) : ∀ p, ∀ c ∈ getL P S p, c < 256 := fun p => (getL_lt h p).2
theorem takenback_walk (h : ST A w sv dv k P S) (hs : shutB P S = false) {Ls : List (List Cl)} (hD : decP P S 6 = some Ls) (hrd : S.rd < 4611686018427387904) {kv : Value} {ks : List Nat} (hk : Kv w kv ks) (hkA : ∀ x, kv.ownBlock = some x → ¬ A x) (mb ma b : Int) (hmb : mb ≤ 9223372036854775807) :
  Calls Tryz.prog 72 #[sv, .agg #[.int .i64 mb, .int .i64 ma, kv], .int .i64 b] w fun e w' => ∃ lv S', e = .returned (.tuple #[lv, .int .i64 0]) ∧ WL w.heap.size w' lv (tbL Ls ks mb b) ∧ ST A w' sv dv k P S' ∧ Rdd 6 S S' ∧ Ch A w w' := by
 have HS : Hid (shutB P S = false) := hs;have HRD := hidH hrd;have HD : Hid (decP P S 6 = some Ls) := hD;have HPK : Hid (Pok Ls) := decP_ok6 hD (getL_byt h);have HMB := hidH hmb;obtain ⟨sp, hsp, hsl, _⟩ := h.ptr;subst hsp;have HAL : Hid (∀ x, A x → x < w.heap.size) := fun x hx => h.lt hx;have HB0 : Hid (Below w.heap.size w (w.alloc (Obj.cells #[.int .i64 mb, .int .i64 ma, kv] 65))) := below_alloc _ _;have HM0 : Hid _ := mb_new w mb ma kv;have HT0 : Hid (ST A (w.alloc (Obj.cells #[.int .i64 mb, .int .i64 ma, kv] 65)) (.pointer (some ⟨sp, 0, none⟩)) dv k P S) := h.below HB0.out;have HK0 : Hid (Kv (w.alloc (Obj.cells #[.int .i64 mb, .int .i64 ma, kv] 65)) kv ks) := hk.below HB0.out;have HKA : Hid (∀ x, kv.ownBlock = some x → ¬ A x) := hkA;obtain ⟨ka, kn, kc, hkv⟩ := sv_any hk;subst hkv;clear h hs hD hrd hk hmb hkA hsl;go_in;go_upto_region 1 with fail
 obtain ⟨N, hN⟩ : ∃ N, N = w.heap.size := ⟨_, rfl⟩;rw [← hN] at HM0 ⊢;have HN : Hid (N = w.heap.size) := hN;clear hN;generalize w.alloc (Obj.cells #[.int .i64 mb, .int .i64 ma, .slice ka kn kc] 65) = w0 at HB0 HM0 HT0 HK0 ⊢;have HNA : Hid (¬ A N) := fun e => by have h1 := HAL.out _ e; have h2 := HN.out; omega
 have c0 := HM0.out.c0;by_cases hb : b = mb;rotate_left
 ·have hbi : (b != mb) = true := by rw [bne_iff_ne]; exact hb
  have HTB : Hid (tbL Ls ks mb b = []) := by show _ = _; unfold tbL; rw [if_neg hb]
  clear hb;go_wp2_with fail;go_ret2;exact ⟨_, S, rfl, by rw [HTB.out]; exact WL.nil _ _, HT0.out, Rdd.refl _, Ch.of_below HB0.out⟩
 ·have hbi : (b != mb) = false := by rw [bne_eq_false_iff_eq]; exact hb
  have HTB : Hid (tbL Ls ks mb b = chgL Ls (Ls.map (revL ks mb)) 6) := by show _ = _; unfold tbL; rw [if_pos hb]
  clear hb;go_wp2_with fail;refine (cells_walk HT0.out HRD.out).mono ?_;rintro e w1 ⟨c, f, S1, rfl, hform, hfr, hcase, hst1, hrdd1, hch1⟩;rw [getB_ok HS.out] at hst1
  have hc0 : c = 0 ∧ ∀ j, j < 6 → Cv w1 (f j) (pgc Ls j) := by
   rcases hcase with ⟨_, h2⟩ | ⟨_, _, h2⟩ | ⟨h1, _, L', h2, h3⟩
   ·rw [HS.out] at h2; cases h2
   ·rw [HD.out] at h2; cases h2
   ·rw [HD.out] at h2; cases h2; exact ⟨h1, h3⟩
  obtain ⟨rfl, hcv⟩ := hc0;have HT1 := hidH hst1;have HR1 : Hid (Rdd 6 S S1) := hrdd1;have HC1 : Hid (Ch A w w1) := (Ch.of_below HB0.out).self hch1;have HM1 : Hid (MB w1 N mb ma (.slice ka kn kc)) := HM0.out.ch hch1 HNA.out;have HK1 : Hid (Kv w1 (.slice ka kn kc) ks) := kv_ch HK0.out hch1 HKA.out;have HV1 := hidH hcv;have HFR : Hid (∀ j, j < 6 → ∀ x, (f j).ownBlock = some x → w.heap.size ≤ x) := fun j hj x hx => by have h1 := hfr j hj x hx; have h2 := HB0.out.size; omega
  obtain ⟨a0, n0, p0, e0⟩ := hform 0 (by omega);obtain ⟨a1, n1, p1, e1⟩ := hform 1 (by omega);obtain ⟨a2, n2, p2, e2⟩ := hform 2 (by omega);obtain ⟨a3, n3, p3, e3⟩ := hform 3 (by omega);obtain ⟨a4, n4, p4, e4⟩ := hform 4 (by omega);obtain ⟨a5, n5, p5, e5⟩ := hform 5 (by omega);have HE : Hid (f 0 = .slice a0 n0 p0 ∧ f 1 = .slice a1 n1 p1 ∧ f 2 = .slice a2 n2 p2 ∧ f 3 = .slice a3 n3 p3 ∧ f 4 = .slice a4 n4 p4 ∧ f 5 = .slice a5 n5 p5) := ⟨e0, e1, e2, e3, e4, e5⟩;rw [e0, e1, e2, e3, e4, e5];clear hform hfr hcase hst1 hrdd1 hch1 hcv c0 e0 e1 e2 e3 e4 e5;go_upto_region 4 with fail
  have HB2 : Hid (Below w1.heap.size w1 (w1.alloc (Obj.cells #[.slice a0 n0 p0, .slice a1 n1 p1, .slice a2 n2 p2, .slice a3 n3 p3, .slice a4 n4 p4, .slice a5 n5 p5] 87))) := below_alloc _ _;have HS2 : Hid (SH (w1.alloc (Obj.cells #[.slice a0 n0 p0, .slice a1 n1 p1, .slice a2 n2 p2, .slice a3 n3 p3, .slice a4 n4 p4, .slice a5 n5 p5] 87)) w1.heap.size f Ls) := by have h := sh_lit w1 f HPK.out.1 HV1.out; obtain ⟨e0, e1, e2, e3, e4, e5⟩ := HE.out; rw [e0, e1, e2, e3, e4, e5] at h; exact h
  obtain ⟨T8, hT8⟩ : ∃ T8, T8 = w1.heap.size := ⟨_, rfl⟩;rw [← hT8] at HS2 ⊢;have HT8 : Hid (T8 = w1.heap.size) := hT8;clear hT8;generalize w1.alloc (Obj.cells #[.slice a0 n0 p0, .slice a1 n1 p1, .slice a2 n2 p2, .slice a3 n3 p3, .slice a4 n4 p4, .slice a5 n5 p5] 87) = w2 at HB2 HS2 ⊢;have s0 := HS2.out.c 0 (by omega);rw [HE.out.1] at s0;have s1 := HS2.out.c 1 (by omega);rw [HE.out.2.1] at s1;have s2 := HS2.out.c 2 (by omega);rw [HE.out.2.2.1] at s2;have s3 := HS2.out.c 3 (by omega);rw [HE.out.2.2.2.1] at s3;have s4 := HS2.out.c 4 (by omega);rw [HE.out.2.2.2.2.1] at s4;have s5 := HS2.out.c 5 (by omega);rw [HE.out.2.2.2.2.2] at s5;go_upto_region 7 with fail
  clear s0 s1 s2 s3 s4 s5;have HB3 : Hid (Below w2.heap.size w2 (w2.alloc (Obj.cells #[.slice a0 n0 p0, .slice a1 n1 p1, .slice a2 n2 p2, .slice a3 n3 p3, .slice a4 n4 p4, .slice a5 n5 p5] 87))) := below_alloc _ _;have HS3 : Hid (SH (w2.alloc (Obj.cells #[.slice a0 n0 p0, .slice a1 n1 p1, .slice a2 n2 p2, .slice a3 n3 p3, .slice a4 n4 p4, .slice a5 n5 p5] 87)) w2.heap.size f Ls) := by have h := sh_lit w2 f HPK.out.1 (fun j hj => (HV1.out j hj).below HB2.out); obtain ⟨e0, e1, e2, e3, e4, e5⟩ := HE.out; rw [e0, e1, e2, e3, e4, e5] at h; exact h
  obtain ⟨T10, hT10⟩ : ∃ T10, T10 = w2.heap.size := ⟨_, rfl⟩;rw [← hT10] at HS3 ⊢;have HT10 : Hid (T10 = w2.heap.size) := hT10;clear hT10;generalize w2.alloc (Obj.cells #[.slice a0 n0 p0, .slice a1 n1 p1, .slice a2 n2 p2, .slice a3 n3 p3, .slice a4 n4 p4, .slice a5 n5 p5] 87) = w3 at HB3 HS3 ⊢;have HB13 := hidH (below_trans HB2.out HB3.out);have HM3 := hidH (HM1.out.keep HB13.out);have HK3 := hidH (HK1.out.below HB13.out);have y0 := HM3.out.c0;have y1 := HM3.out.c1;have y2 := HM3.out.c2;go_wp2_with fail;refine (srevert_walk HS3.out HPK.out.2.2 HK3.out mb ma HMB.out).mono ?_;rintro e w4 ⟨rfl, ⟨g, hg, hfg⟩, hch4⟩;have HS4 := hidH hg;have HC4 : Hid (Ch (fun x => x = T10) w3 w4) := hch4;have HW1 : Hid (w1.heap.size ≤ T10) := by have h1 := HT10.out; have h2 := HB2.out.size; show _ ≤ _; omega
  have HB14 : Hid (Below w1.heap.size w1 w4) := HB13.out.trans (hch4.to_below HB13.out.size (fun x hx => by have := HW1.out; omega));have HS24 : Hid (SH w4 T8 f Ls) := HS2.out.below (HB3.out.trans (hch4.to_below HB3.out.size (fun x hx => by have := HT10.out; omega)));clear hg hfg hch4 y0 y1 y2 HM3 HK3 HS3;have s0 := HS24.out.c 0 (by omega);rw [HE.out.1] at s0;have s1 := HS24.out.c 1 (by omega);rw [HE.out.2.1] at s1;have s2 := HS24.out.c 2 (by omega);rw [HE.out.2.2.1] at s2;have s3 := HS24.out.c 3 (by omega);rw [HE.out.2.2.2.1] at s3;have s4 := HS24.out.c 4 (by omega);rw [HE.out.2.2.2.2.1] at s4;have s5 := HS24.out.c 5 (by omega);rw [HE.out.2.2.2.2.2] at s5;go_wp2_with fail;have hcw := changes_walk (g := f) HS4.out HPK.out.1 HS24.out.cv (map_pok HPK.out).2.1;rw [HE.out.1, HE.out.2.1, HE.out.2.2.1, HE.out.2.2.2.1, HE.out.2.2.2.2.1, HE.out.2.2.2.2.2] at hcw;refine hcw.mono ?_;clear hcw;rintro e w5 ⟨lv, rfl, hwl5, hB5⟩;have HB15 := hidH (below_trans HB14.out hB5);have HWL5 : Hid (WL w.heap.size w5 lv (tbL Ls ks mb b)) := by rw [HTB.out]; exact hwl5.low (by have h1 := HB14.out.size; have h2 := HC1.out.size; omega)
  have HT5 := hidH (HT1.out.below HB15.out);have HC5 : Hid (Ch A w w5) := HC1.out.self (Ch.of_below HB15.out);clear hwl5 hB5 s0 s1 s2 s3 s4 s5;go_wp2_with fail;go_ret2;exact ⟨lv, S1, rfl, HWL5.out, HT5.out, HR1.out, HC5.out⟩
end
end
end Go.Proofs.YtcmklbibehnloaaGreat
