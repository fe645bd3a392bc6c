/- The reference's store: writes. -/
import Derived.Test.YtcmklbibehnloaaGreatB39
set_option maxRecDepth 100000
set_option maxHeartbeats 16000000
namespace Go.Proofs.YtcmklbibehnloaaGreat
open Go.RowKit
section
theorem shG7_yes {p : Nat → Bool} {i : Nat} {o : Option Nat} (hi : i < 7) (h : o = shG p i (7 - i)) (hp : p i = true) : o = some i := by
 rw [h, show 7 - i = (7 - (i + 1)) + 1 by omega, shG, if_pos hp]
theorem shG7_no {p : Nat → Bool} {i : Nat} {o : Option Nat} (hi : i < 7) (h : o = shG p i (7 - i)) (hp : p i = false) : o = shG p (i + 1) (7 - (i + 1)) := by
 rw [h, show 7 - i = (7 - (i + 1)) + 1 by omega, shG, if_neg (by simp [hp])]
def at7 (g : Nat → List Cl) (k : Nat) : Option Nat := shG (fun i => findB (g i) k) 1 6
section

variable {w : World} {f : Nat → Value} {g : Nat → List Cl}

theorem s7_box (h : ∀ j, j < 7 → Cv w (f j) (g j)) : S7 (w.alloc (Obj.cells #[f 0, f 1, f 2, f 3, f 4, f 5, f 6] 108)) w.heap.size f g := by
 refine ⟨fun i hi => ?_, fun j => by simp [go_sem], fun i hi => (h i hi).below (below_alloc _ _)⟩;have : i = 0 ∨ i = 1 ∨ i = 2 ∨ i = 3 ∨ i = 4 ∨ i = 5 ∨ i = 6 := by omega
 rcases this with rfl | rfl | rfl | rfl | rfl | rfl | rfl <;> simp [go_sem]
end
end
section
def res7 (g : Nat → List Cl) (k : Nat) (m : Int) : Vl := match at7 g k with
 | none => noV
 | some i => resC ((g i).getD (findI (g i) k) zeroC) m
section

variable {A : Nat → Prop} {w w1 : World} {sv dv : Value} {k : Int} {P : Bo} {S : Dk} {sp : Nat}

def VZ (w : World) (R : Nat) : Prop := w.cell? ⟨R, 0, none⟩ = some (.bool false) ∧ w.cell? ⟨R, 1, none⟩ = some (.int .u64 0) ∧ ∀ j, w.frozen? ⟨R, j, none⟩ = false
theorem vz_new (w : World) : VZ (w.alloc (Obj.cells #[.bool false, .int .u64 0] 53)) w.heap.size := ⟨by simp [go_sem], by simp [go_sem], fun j => by simp [go_sem]⟩
theorem VZ.ch {D : Nat → Prop} {R : Nat} (h : VZ w R) (hc : Ch D w w1) (hR : ¬ D R) : VZ w1 R := ⟨hc.cell h.1 hR, hc.cell h.2.1 hR, fun j => by
  have e := hc.block R (cell_lt h.1) hR;have hz := h.2.2 j;unfold World.frozen? at hz ⊢;rw [e]; exact hz⟩
theorem VZ.below {R : Nat} (h : VZ w R) (hb : Below w.heap.size w w1) : VZ w1 R := h.ch (D := fun _ => False) (Ch.of_below hb) (fun h => h)
theorem RT.two (h : RT A w (.pointer (some ⟨sp, 0, none⟩)) dv k P S) {g : Nat} (hg : ¬ A g) (hp : sp ≠ g) (a b : Value) : RT A ((w.setCell ⟨g, 0, none⟩ a).setCell ⟨g, 1, none⟩ b) (.pointer (some ⟨sp, 0, none⟩)) dv k P S := by
 have s : ∀ {x : World} (i : Nat) (u : Value), RT A x (.pointer (some ⟨sp, 0, none⟩)) dv k P S → RT A (x.setCell ⟨g, i, none⟩ u) (.pointer (some ⟨sp, 0, none⟩)) dv k P S := fun i u hx => hx.setB (fun y _ hA e => by subst e; exact hg hA) (fun s e => by cases e; exact hp);exact s _ _ (s _ _ h)
theorem rquery_nil (w : World) (key : Nat) (n : Int) : Calls Tryz.prog 28 #[.pointer none, .int .u64 key, .int .i64 n] w fun e w' => e = .returned (.tuple #[.agg #[.bool false, .int .u64 0], .int .i64 2]) ∧ Below w.heap.size w w' := by
 have HB : Hid (Below w.heap.size w (w.alloc (Obj.cells #[.bool false, .int .u64 0] 53))) := below_alloc _ _;have HR0 : Hid (VZ (w.alloc (Obj.cells #[.bool false, .int .u64 0] 53)) w.heap.size) := vz_new w;go_in;go_upto_region 1 with fail
 obtain ⟨R, hR⟩ : ∃ R, R = w.heap.size := ⟨_, rfl⟩;rw [← hR] at HR0 ⊢;have HR : Hid (R = w.heap.size) := hR;clear hR;generalize (w.alloc (Obj.cells #[.bool false, .int .u64 0] 53)) = w0 at HR0 HB ⊢;go_wp2_with fail;refine rcheck_nil.mono ?_;rintro e w2 ⟨rfl, hw2⟩;replace hw2 := hw2.symm;subst hw2;obtain ⟨r0, r1, rz⟩ := HR0.out;have z0 := rz 0;have z1 := rz 1;clear rz;go_wp2_with fail
 (try simp only [Exit.inBlock, Exit.then])
 refine bodyPost_ret (v := .tuple #[.agg #[.bool false, .int .u64 0], .int .i64 2]) (by rw [results_cell_tmp rfl]; go_simp) rfl ?_;have hN : w.heap.size ≤ R := by rw [HR.out]; exact Nat.le_refl _
 exact ⟨rfl, (HB.out.setCell hN _).setCell hN _⟩
theorem rquery_shut (h : RT A w sv dv k P S) (hs : shutB P S = true) (key : Nat) (n : Int) : Calls Tryz.prog 28 #[sv, .int .u64 key, .int .i64 n] w fun e w' => e = .returned (.tuple #[.agg #[.bool false, .int .u64 0], .int .i64 80]) ∧ RT A w' sv dv k (endB P) S ∧ Ch A w w' := by
 have HS : Hid (shutB P S = true) := hs;obtain ⟨sp, hsp, hsl, _⟩ := h.ptr;have HSP : Hid (sp < w.heap.size) := hsl;have HAL : Hid (∀ x, A x → x < w.heap.size) := fun x hx => h.lt hx;subst hsp;have HB : Hid (Below w.heap.size w (w.alloc (Obj.cells #[.bool false, .int .u64 0] 53))) := below_alloc _ _;have HR0 : Hid (VZ (w.alloc (Obj.cells #[.bool false, .int .u64 0] 53)) w.heap.size) := vz_new w;have HT0 : Hid (RT A (w.alloc (Obj.cells #[.bool false, .int .u64 0] 53)) (.pointer (some ⟨sp, 0, none⟩)) dv k P S) := h.below HB.out;clear h hs hsl;go_in;go_upto_region 1 with fail
 obtain ⟨R, hR⟩ : ∃ R, R = w.heap.size := ⟨_, rfl⟩;rw [← hR] at HR0 ⊢;have HR : Hid (R = w.heap.size) := hR;clear hR;generalize (w.alloc (Obj.cells #[.bool false, .int .u64 0] 53)) = w0 at HR0 HT0 HB ⊢;have HNA : Hid (¬ A R) := fun e => by have h1 := HAL.out _ e; have h2 := HR.out; omega
 go_wp2_with fail;refine (rcheck_shut HT0.out HS.out).mono ?_;rintro e w2 ⟨rfl, hst2, hc2⟩;have HC2 : Hid (Ch A w w2) := (Ch.of_below HB.out).self hc2;obtain ⟨r0, r1, rz⟩ := HR0.out.ch hc2 HNA.out;have z0 := rz 0;have z1 := rz 1;have HFIN : Hid _ := ch_two HC2.out (.inr (by rw [HR.out]; exact Nat.le_refl _)) (g := R) (.bool false) (.int .u64 0);have HTF : Hid _ := hst2.two HNA.out (by have h1 := HSP.out; have h2 := HR.out; omega) (.bool false) (.int .u64 0);clear hst2 hc2 rz;go_wp2_with fail
 (try simp only [Exit.inBlock, Exit.then])
 refine bodyPost_ret (v := .tuple #[.agg #[.bool false, .int .u64 0], .int .i64 80]) (by rw [results_cell_tmp rfl]; go_simp) rfl ?_;exact ⟨rfl, HTF.out, HFIN.out⟩
def RqGot (A : Nat → Prop) (w : World) (sv dv : Value) (k : Int) (P : Bo) (S : Dk) (key : Nat) (n : Int) (e : Ending) (w' : World) : Prop :=
 ∃ S', e = .returned (.tuple #[.agg #[.bool (res7 (gP P S 7) key n).h, .int .u64 (res7 (gP P S 7) key n).b], .int .i64 0]) ∧ RT A w' sv dv k P S' ∧ Rdd 6 S S' ∧ Ch A w w'
theorem rquery_ok (h : RT A w sv dv k P S) (hs : shutB P S = false) (hrd : S.rd < 4611686018427387904) (key : Nat) (m : Int) : Calls Tryz.prog 28 #[sv, .int .u64 key, .int .i64 m] w (RqGot A w sv dv k P S key m) := by
 have HS : Hid (shutB P S = false) := hs;have HRD := hidH hrd;obtain ⟨sp, hsp, hsl, _⟩ := h.ptr;have HSP : Hid (sp < w.heap.size) := hsl;have HAL : Hid (∀ x, A x → x < w.heap.size) := fun x hx => h.lt hx;subst hsp;have HB : Hid (Below w.heap.size w (w.alloc (Obj.cells #[.bool false, .int .u64 0] 53))) := below_alloc _ _;have HR0 : Hid (VZ (w.alloc (Obj.cells #[.bool false, .int .u64 0] 53)) w.heap.size) := vz_new w;have HT0 : Hid (RT A (w.alloc (Obj.cells #[.bool false, .int .u64 0] 53)) (.pointer (some ⟨sp, 0, none⟩)) dv k P S) := h.below HB.out;clear h hs hsl hrd;go_in;go_upto_region 1 with fail
 obtain ⟨R, hR⟩ : ∃ R, R = w.heap.size := ⟨_, rfl⟩;rw [← hR] at HR0 ⊢;have HR : Hid (R = w.heap.size) := hR;clear hR;generalize (w.alloc (Obj.cells #[.bool false, .int .u64 0] 53)) = w0 at HR0 HT0 HB ⊢;have HNA : Hid (¬ A R) := fun e => by have h1 := HAL.out _ e; have h2 := HR.out; omega
 have HSR : Hid (sp ≠ R) := by have h1 := HSP.out; have h2 := HR.out; show _ ≠ _; omega
 have HWR : Hid (w.heap.size ≤ R) := by show _ ≤ _; rw [HR.out]; exact Nat.le_refl _
 go_wp2_with fail;refine (rcheck_ok HT0.out HS.out).mono ?_;rintro e w2 ⟨rfl, hw2⟩;replace hw2 := hw2.symm;subst hw2;go_wp2_with fail;refine (rpages7_walk HT0.out HS.out HRD.out).mono ?_;rintro e w1 ⟨f, S1, rfl, hform, hfr, hcv, hst1, hrdd1, hch1⟩;have HT1 := hidH hst1;have HR1 : Hid (Rdd 6 S S1) := hrdd1;have HC1 : Hid (Ch A w w1) := (Ch.of_below HB.out).self hch1;have HZ1 : Hid (VZ w1 R) := HR0.out.ch hch1 HNA.out;have HBX : Hid _ := s7_box hcv;obtain ⟨a0, n0, p0, e0⟩ := hform 0 (by omega);obtain ⟨a1, n1, p1, e1⟩ := hform 1 (by omega);obtain ⟨a2, n2, p2, e2⟩ := hform 2 (by omega);obtain ⟨a3, n3, p3, e3⟩ := hform 3 (by omega);obtain ⟨a4, n4, p4, e4⟩ := hform 4 (by omega);obtain ⟨a5, n5, p5, e5⟩ := hform 5 (by omega);obtain ⟨a6, n6, p6, e6⟩ := hform 6 (by omega);rw [e0, e1, e2, e3, e4, e5, e6] at HBX ⊢;clear hform hfr hcv hst1 hrdd1 hch1 e0 e1 e2 e3 e4 e5 e6;go_upto_region 5 with fail
 have HB2 : Hid (Below w1.heap.size w1 (w1.alloc (Obj.cells #[.slice a0 n0 p0, .slice a1 n1 p1, .slice a2 n2 p2, .slice a3 n3 p3, .slice a4 n4 p4, .slice a5 n5 p5, .slice a6 n6 p6] 108))) := below_alloc _ _;obtain ⟨Q, hQ⟩ : ∃ Q, Q = w1.heap.size := ⟨_, rfl⟩;rw [← hQ] at HBX ⊢;clear hQ;generalize w1.alloc (Obj.cells #[.slice a0 n0 p0, .slice a1 n1 p1, .slice a2 n2 p2, .slice a3 n3 p3, .slice a4 n4 p4, .slice a5 n5 p5, .slice a6 n6 p6] 108) = w2 at HB2 HBX ⊢;have HZ2 : Hid (VZ w2 R) := HZ1.out.below HB2.out;have HT2 := hidH (HT1.out.below HB2.out);have HC2 : Hid (Ch A w w2) := HC1.out.self (Ch.of_below HB2.out);obtain ⟨g, hg⟩ : ∃ g, g = gP P S 7 := ⟨_, rfl⟩;rw [← hg] at HBX;have HG : Hid (gP P S 7 = g) := hg.symm;obtain ⟨o, ho⟩ : ∃ o, o = at7 g key := ⟨_, rfl⟩;have HO : Hid (o = shG (fun i => findB (g i) key) 1 (7 - 1)) := ho;have HOO : Hid (at7 g key = o) := ho.symm;clear hg ho HB2;have H0 : Hid (S7 w2 Q f g) := HBX.out;clear HBX;go_wp2_with fail;go_loopw [10] (fun iv wr => ∃ i : Nat, iv = .int .i64 i ∧ 1 ≤ i ∧ i ≤ 7 ∧ o = shG (fun i => findB (g i) key) i (7 - i) ∧ Below w2.heap.size w2 wr) (fun iv _ => 7 - (intOf iv).toNat)
 case atStart => exact ⟨1, rfl, by omega, by omega, HO.out, Below.refl _ _⟩
 case round =>
  obtain ⟨i, rfl, hi1, hi, hs, hb⟩ := hrel;have HI : Hid (o = shG (fun i => findB (g i) key) i (7 - i)) := hs;have HBW := hidH hb;have HSH : Hid (S7 wr Q f g) := H0.out.below hb;clear hs hb;by_cases hlt : i < 7
  ·have hle : (i : Int) ≤ 6 := by omega
   have hlti : (i : Int) < 7 := by omega
   have hge : (0 : Int) ≤ (i : Int) := by omega
   obtain ⟨ao, cap, e⟩ := HSH.out.form hlt;have m0 := HSH.out.c i hlt;rw [e] at m0;have HCV : Hid (Cv wr (.slice ao (g i).length cap) (g i)) := by have := HSH.out.cv i hlt; rw [e] at this; exact this
   obtain ⟨l, hl⟩ : ∃ l, l = g i := ⟨_, rfl⟩;rw [← hl] at m0 HCV;have HL : Hid (l = g i) := hl;obtain ⟨n, hn⟩ : ∃ n, n = l.length := ⟨_, rfl⟩;rw [← hn] at m0 HCV;have HLN : Hid (n = l.length) := hn;clear e hl hn;obtain ⟨t, ht⟩ : ∃ t, t = findB l key := ⟨_, rfl⟩;obtain ⟨a, ha⟩ : ∃ a, a = findI l key := ⟨_, rfl⟩;have HT : Hid (t = findB l key) := ht;have HA : Hid (a = findI l key) := ha;clear ht ha;go_wp2_with fail;refine (rfind_walkB HCV.out key).mono ?_;rw [← HT.out, ← HA.out];rintro e w3 ⟨rfl, hB3⟩;have HB3 := hidH (below_trans HBW.out hB3);have HCV3 := hidH (HCV.out.below hB3);have m1 : w3.cell? ⟨Q, i, none⟩ = some (.slice ao n cap) := by rw [hB3.cell (p := ⟨Q, i, none⟩) (cell_lt m0)]; exact m0
   clear hB3 m0
   cases t
   ·have HNX : Hid (o = shG (fun i => findB (g i) key) (i + 1) (7 - (i + 1))) := shG7_no hlt HI.out (by rw [← HL.out]; exact HT.out.symm);clear m1;go_wp2_with fail;go_roundw
    case rel => exact ⟨i + 1, by go_num, by omega, hlt, HNX.out, HB3.out⟩
    case measure => simp [intOf]; omega
   ·have HYS : Hid (o = some i) := shG7_yes hlt HI.out (by rw [← HL.out]; exact HT.out.symm);obtain ⟨hal, hak⟩ := find_at HT.out.symm;obtain ⟨c, hc⟩ : ∃ c, c = l[findI l key] := ⟨_, rfl⟩
    have HC : Hid (res7 g key m = resC c m) := by
     show _ = _;unfold res7;rw [HOO.out, HYS.out];show resC ((g i).getD (findI (g i) key) zeroC) m = _;rw [← HL.out, hc]; simp [hal]
    have han : a < n := by have := HA.out; have := HLN.out; omega
    have hani : (a : Int) < (n : Int) := by omega
    have hanb : decide (a < n) = true := decide_eq_true han
    obtain ⟨b, off, cp, e, _, _, _, hca⟩ : ∃ b off cp, Value.slice ao n cap = .slice (some ⟨b, off, none⟩) l.length cp ∧ 0 < l.length ∧ l.length ≤ cp ∧ cp ≤ maxLen ∧ ∀ i, (hi : i < l.length) → CA w3 b (off + i * 6) l[i] := by
     rcases cv_cases HCV3.out with ⟨h0, _⟩ | h
     ·rw [h0] at hal; simp at hal
     ·exact h
    simp only [Value.slice.injEq] at e;have e1 := e.1;subst e1;have HCA : Hid (CA w3 b (off + a * 6) c) := by have := hca (findI l key) hal; rw [← hc, ← HA.out] at this; exact this
    have hnm : (n : Int) ≤ 9223372036854775807 := by have h1 := HCV3.out.len_le; have h2 := HLN.out; unfold maxLen at h1; omega
    obtain ⟨y0, y1, y2, y3, y4, y5⟩ := HCA.out;clear hca hc hal hak e han;go_wp2_with fail;refine (rresolve_walk c m _).mono ?_;obtain ⟨v, hv⟩ : ∃ v, v = resC c m := ⟨_, rfl⟩;rw [← hv];have HVV : Hid (res7 g key m = v) := HC.out.trans hv.symm;rintro e w4 ⟨rfl, hB4⟩;have HB4 := hidH (below_trans HB3.out hB4);obtain ⟨r0, r1, rz⟩ := HZ2.out.below HB4.out;have z0 := rz 0;have z1 := rz 1;have HFIN : Hid _ := ch_two (HC2.out.self (Ch.of_below HB4.out)) (.inr HWR.out) (g := R) (.bool v.h) (.int .u64 v.b);have HTF : Hid _ := (HT2.out.below HB4.out).two HNA.out HSR.out (.bool v.h) (.int .u64 v.b);clear hB4 hv m1 y0 y1 y2 y3 y4 y5 rz;go_wp2_with fail
    (try simp only [Exit.inBlock, Exit.then])
    refine bodyPost_ret (v := .tuple #[.agg #[.bool v.h, .int .u64 v.b], .int .i64 0]) (by rw [results_cell_tmp rfl]; go_simp) rfl ?_;unfold RqGot;rw [HG.out, HVV.out];exact ⟨S1, rfl, HTF.out, HR1.out, HFIN.out⟩
  ·have hle : ¬ (i : Int) ≤ 6 := by omega
   obtain rfl : i = 7 := by omega
   have HNO : Hid (o = none) := HI.out;have HVV : Hid (res7 g key m = noV) := by show _ = _; unfold res7; rw [HOO.out, HNO.out]
   obtain ⟨r0, r1, rz⟩ := HZ2.out.below HBW.out;have z0 := rz 0;have z1 := rz 1;have HFIN : Hid _ := ch_two (HC2.out.self (Ch.of_below HBW.out)) (.inr HWR.out) (g := R) (.bool false) (.int .u64 0);have HTF : Hid _ := (HT2.out.below HBW.out).two HNA.out HSR.out (.bool false) (.int .u64 0);clear rz;go_wp2_with fail
   (try simp only [Exit.inBlock, Exit.then])
   refine bodyPost_ret (v := .tuple #[.agg #[.bool false, .int .u64 0], .int .i64 0]) (by rw [results_cell_tmp rfl]; go_simp) rfl ?_;unfold RqGot;rw [HG.out, HVV.out];exact ⟨S1, rfl, HTF.out, HR1.out, HFIN.out⟩
end
end


section
section

variable {w : World} {f h : Nat → Value} {a b : Nat → List Cl}

end
end
end Go.Proofs.YtcmklbibehnloaaGreat
