/- Lists of writes that a call makes itself; contract of the shelf's changes. -/
import Derived.Test.YtcmklbibehnloaaGreatB26
import Derived.Test.YtcmklbibehnloaaGreatB25
import Derived.Deep.CutBlock
set_option maxRecDepth 100000
set_option maxHeartbeats 16000000
namespace Go.Proofs.YtcmklbibehnloaaGreat
open Go.RowKit
section
def revP (ks : List Nat) (b : Int) (c : Cl) : Cl := if c.k ∈ ks then revC c b else c
def revL (ks : List Nat) (b : Int) (l : List Cl) : List Cl := (l.map (revP ks b)).filter (fun c => !empC c)
theorem revL_len (ks : List Nat) (b : Int) (l : List Cl) : (revL ks b l).length ≤ l.length := by
 unfold revL;have := List.length_filter_le (fun c => !empC c) (l.map (revP ks b));simpa using this
theorem revL_yes {ks : List Nat} {b : Int} {l : List Cl} {j : Nat} (hj : j < l.length) (h : empC (revP ks b l[j]) = false) : revL ks b (l.take (j + 1)) = revL ks b (l.take j) ++ [revP ks b l[j]] := by
 unfold revL;rw [List.take_succ_eq_append_getElem hj, List.map_append, List.filter_append];simp [h]
theorem revL_no {ks : List Nat} {b : Int} {l : List Cl} {j : Nat} (hj : j < l.length) (h : empC (revP ks b l[j]) = true) : revL ks b (l.take (j + 1)) = revL ks b (l.take j) := by
 unfold revL;rw [List.take_succ_eq_append_getElem hj, List.map_append, List.filter_append];simp [h]
def mix (g : List Cl → List Cl) (Ls : List (List Cl)) (i : Nat) : List (List Cl) := (Ls.take i).map g ++ Ls.drop i
theorem mix_zero (g : List Cl → List Cl) (Ls : List (List Cl)) : mix g Ls 0 = Ls := by simp [mix]
theorem mix_all {g : List Cl → List Cl} {Ls : List (List Cl)} {n : Nat} (h : Ls.length = n) : mix g Ls n = Ls.map g := by
 subst h; simp [mix]
theorem pgc_get {Ls : List (List Cl)} {i : Nat} (hi : i < Ls.length) : pgc Ls i = Ls[i] := by unfold pgc; simp [hi]
theorem mix_at {g : List Cl → List Cl} {Ls : List (List Cl)} {i : Nat} (hi : i < Ls.length) : pgc (mix g Ls i) i = pgc Ls i := by
 unfold pgc mix;rw [List.getD_eq_getElem?_getD, List.getElem?_append_right (by simp; omega)];simp [List.getD_eq_getElem?_getD, Nat.min_eq_left (Nat.le_of_lt hi)]
theorem mix_set {g : List Cl → List Cl} {Ls : List (List Cl)} {i : Nat} (hi : i < Ls.length) : (mix g Ls i).set i (g (pgc Ls i)) = mix g Ls (i + 1) := by
 unfold mix;have hl : ((Ls.take i).map g).length = i := by simp; omega
 rw [List.set_append_right _ _ (by omega), hl, Nat.sub_self, List.drop_eq_getElem_cons hi, List.set_cons_zero, List.take_succ_eq_append_getElem hi, List.map_append, pgc_get hi];simp
theorem kv_setS {w : World} {v : Value} {l : List Nat} (h : Kv w v l) {p : Addr} {ao : Option Addr} {n c : Nat} (hp : w.cell? p = some (.slice ao n c)) (u' : Value) : Kv (w.setCell p u') v l := by
 obtain ⟨ao', cap, e, h1, h2, h3, h4⟩ := h;refine ⟨ao', cap, e, h1, h2, h3, fun i hi => ?_⟩;obtain ⟨b, off, e1, e2⟩ := h4 i hi;refine ⟨b, off, e1, ?_⟩;rw [World.cell?_setCell_other _ _ _ _ (by rintro rfl; rw [hp] at e2; cases e2)];exact e2
section

variable {w : World} {Q : Nat} {f : Nat → Value} {Ls : List (List Cl)}

theorem own_apart {D : Nat → Prop} {w w' : World} {base e size n : Nat} {v : Value} {xs : List Value} (h : w.ownsRow base e size v n xs) (hc : Ch D w w') (hd : ∀ x, v.ownBlock = some x → ¬ D x) : w'.ownsRow base e size v n xs := by
 refine ⟨h.1, ?_⟩;rcases h.2 with h' | ⟨g, cap, cur, hv, hg, hh, r⟩
 ·exact .inl h'
 ·exact .inr ⟨g, cap, cur, hv, hg, by rw [hc.block g ((Array.getElem?_eq_some_iff.1 hh).1) (hd g (by rw [hv]; rfl))]; exact hh, r⟩
def RvR (w : World) (Q N : Nat) (f : Nat → Value) (Ls : List (List Cl)) (ks : List Nat) (mb ma : Int) (kv iv : Value) (wr : World) : Prop :=
 ∃ (i : Nat) (g : Nat → Value), iv = .int .i64 i ∧ i ≤ 6 ∧ SH wr Q g (mix (revL ks mb) Ls i) ∧ Fresh w f g ∧ MB wr N mb ma kv ∧ Kv wr kv ks ∧ Ch (fun x => x = Q) w wr
theorem srevert_walk (h : SH w Q f Ls) (hle : ∀ i, i < 6 → (pgc Ls i).length ≤ 16) {kv : Value} {ks : List Nat} (hk : Kv w kv ks) (mb ma : Int) (hmb : mb ≤ 9223372036854775807) :
  Calls Tryz.prog 137 #[.pointer (some ⟨Q, 0, none⟩), .agg #[.int .i64 mb, .int .i64 ma, kv]] w fun e w' => e = .returned (.tuple #[]) ∧ (∃ g, SH w' Q g (Ls.map (revL ks mb)) ∧ Fresh w f g) ∧ Ch (fun x => x = Q) w w' := by
 have HLE := hidH hle;have HMB := hidH hmb;have HLN : Hid (Ls.length = 6) := h.len;have HQW : Hid (Q < w.heap.size) := h.lt;have HB0 : Hid _ := below_alloc w (Obj.cells #[.int .i64 mb, .int .i64 ma, kv] 65)
 have H0 : Hid (RvR w Q w.heap.size f Ls ks mb ma kv (.int .i64 0) (w.alloc (Obj.cells #[.int .i64 mb, .int .i64 ma, kv] 65))) :=
  ⟨0, f, rfl, by omega, by rw [mix_zero]; exact h.below HB0.out, Fresh.refl _ _, mb_new w mb ma kv, hk.below HB0.out, Ch.of_below HB0.out⟩
 obtain ⟨ka, kn, kc, hkv⟩ := sv_any hk;subst hkv;clear h hle hk hmb HB0;go_in;go_upto_region 1 with fail
 obtain ⟨N, hN⟩ : ∃ N, N = w.heap.size := ⟨_, rfl⟩;rw [← hN] at H0 ⊢;have HN : Hid (N = w.heap.size) := hN;clear hN;generalize w.alloc (Obj.cells #[.int .i64 mb, .int .i64 ma, .slice ka kn kc] 65) = w0 at H0 ⊢;go_wp2_with fail;go_loopw [8] (fun iv wr => RvR w Q N f Ls ks mb ma (.slice ka kn kc) iv wr) (fun iv _ => 6 - (intOf iv).toNat)
 case atStart => exact H0.out
 case round =>
  clear H0;obtain ⟨i, g, rfl, hi, hsh, hfr, hmbk, hkv, hch⟩ := hrel;obtain ⟨wo, hwo⟩ : ∃ wo, wo = wr := ⟨_, rfl⟩;rw [← hwo] at hsh hmbk hkv hch ⊢;clear hwo;have HSH := hidH hsh;have HFR : Hid (Fresh w f g) := hfr;have HM := hidH hmbk;have HK := hidH hkv;have HC : Hid (Ch (fun x => x = Q) w wo) := hch;clear hsh hfr hmbk hkv hch;by_cases hlt : i < 6;rotate_left
  ·have hlti : ¬ (i : Int) < 6 := by omega
   obtain rfl : i = 6 := by omega
   have HF : Hid (SH wo Q g (Ls.map (revL ks mb))) := by have h := HSH.out; rw [mix_all HLN.out] at h; exact h
   go_wp2_with fail;go_end0;exact ⟨rfl, ⟨g, HF.out, HFR.out⟩, HC.out⟩
  ·have hlti : (i : Int) < 6 := by omega
   obtain ⟨l, hl⟩ : ∃ l, l = pgc Ls i := ⟨_, rfl⟩;have HL : Hid (l = pgc Ls i) := hl;have hcv := HSH.out.cv i hlt;rw [mix_at (by rw [HLN.out]; exact hlt), ← hl] at hcv;obtain ⟨pa, pc, hpv⟩ := hcv.form;obtain ⟨pn, hpn⟩ : ∃ pn, pn = l.length := ⟨_, rfl⟩;rw [← hpn] at hpv;rw [hpv] at hcv;have HCV := hidH hcv;have HPN : Hid (pn = l.length) := hpn;have m0 := HSH.out.c i hlt;rw [hpv] at m0;have H16 : Hid (pn ≤ 16) := by show _ ≤ _; rw [hpn, hl]; exact HLE.out i hlt
   have h16 : (pn : Int) ≤ 16 := by have := H16.out; omega
   have HGP : Hid (g i = .slice pa pn pc) := hpv;have HQO : Hid (Q < wo.heap.size) := HSH.out.lt;have HO0 : Hid ((wo.alloc (Obj.cells #[] 114)).ownsRow wo.heap.size 114 6 (.slice (some ⟨wo.heap.size, 0, none⟩) 0 0) 0 []) := World.ownsRow_made wo #[] 0 (Nat.le_refl _) (by simp [maxLen]) rfl;have HBA : Hid (Below wo.heap.size wo (wo.alloc (Obj.cells #[] 114))) := below_alloc _ _;have m1 : (wo.alloc (Obj.cells #[] 114)).cell? ⟨Q, i, none⟩ = some (.slice pa pn pc) := by rw [HBA.out.cell (p := ⟨Q, i, none⟩) HQO.out]; exact m0
   clear hl hcv hpv hpn m0;go_upto_region 5 with fail
   generalize wo.alloc (Obj.cells #[] 114) = wa at HO0 HBA m1 ⊢;obtain ⟨E0, hE0⟩ : ∃ E0, E0 = wo.heap.size := ⟨_, rfl⟩;rw [← hE0] at HO0 ⊢;have HE0 : Hid (E0 = wo.heap.size) := hE0;clear hE0;go_upto_block 2 with fail;go_cut [5, 7] (fun lv _ wx => wx.ownsRow wo.heap.size 114 6 lv (revL ks mb l).length (flatC (revL ks mb l)) ∧ Below wo.heap.size wo wx)
   case first =>
    clear m1;go_wp2_with fail;go_loopw [5, 18] (fun lv jv wx => ∃ j : Nat, jv = .int .i64 j ∧ j ≤ pn ∧ wx.ownsRow wo.heap.size 114 6 lv (revL ks mb (l.take j)).length (flatC (revL ks mb (l.take j))) ∧ Below wo.heap.size wo wx) (fun _ jv _ => pn - (intOf jv).toNat)
    case atStart => exact ⟨0, rfl, by omega, by rw [← HE0.out]; simpa [revL, flatC] using HO0.out, HBA.out⟩
    case round =>
     obtain ⟨j, rfl, hj, hown, hbel⟩ := hrel;have HO := hidH hown;have HB := hidH hbel;clear hown hbel;by_cases hjl : j < pn;rotate_left
     ·have hjli : ¬ (j : Int) < (pn : Int) := by omega
      have HE : Hid (revL ks mb (l.take j) = revL ks mb l) := by show _ = _; rw [List.take_of_length_le (by have := HPN.out; omega)]
      go_wp2_with fail;go_meet;exact ⟨by rw [← HE.out]; exact HO.out, HB.out⟩
     ·have hjli : (j : Int) < (pn : Int) := by omega
      have hjd : decide (j < pn) = true := decide_eq_true hjl;have hjl2 : j < l.length := by have := HPN.out; omega
      rcases cv_cases (HCV.out.below HB.out) with ⟨h0, _⟩ | ⟨b1, o1, c1, e1, _, _, _, k1⟩
      ·rw [h0] at hjl2; simp at hjl2
      simp only [Value.slice.injEq] at e1;have e11 := e1.1;clear e1;subst e11;obtain ⟨x0, x1, x2, x3, x4, x5⟩ := k1 j hjl2;obtain ⟨c, hc⟩ : ∃ c, c = l[j] := ⟨_, rfl⟩;rw [← hc] at x0 x1 x2 x3 x4 x5;have HC1 : Hid (c = l[j]) := hc;clear k1 hc;go_upto_region 8 with fail
      clear x0 x1 x2 x3 x4 x5;have HB2 : Hid (Below wo.heap.size wo (wr.alloc (Obj.cells #[.int .u64 c.k, .bool c.p.h, .int .u64 c.p.b, .bool c.c.h, .int .u64 c.c.b, .int .i64 c.n] 114))) := below_trans HB.out (below_alloc _ _);have HCB : Hid _ := cb_new wr c;have HO2 : Hid ((wr.alloc (Obj.cells #[.int .u64 c.k, .bool c.p.h, .int .u64 c.p.b, .bool c.c.h, .int .u64 c.c.b, .int .i64 c.n] 114)).ownsRow wo.heap.size 114 6 u5 (revL ks mb (l.take j)).length (flatC (revL ks mb (l.take j)))) := HO.out.alloc _;have HPX : Hid (∀ x, u5.ownBlock = some x → x < wr.heap.size) := fun x hx => (HO.out.lt x hx).2;obtain ⟨X, hX⟩ : ∃ X, X = wr.heap.size := ⟨_, rfl⟩;rw [← hX] at HCB HPX ⊢;have HXW : Hid (wo.heap.size ≤ X) := by show _ ≤ _; rw [hX]; exact HB.out.size
      clear hX;generalize wr.alloc (Obj.cells #[.int .u64 c.k, .bool c.p.h, .int .u64 c.p.b, .bool c.c.h, .int .u64 c.c.b, .int .i64 c.n] 114) = w2 at HB2 HCB HO2 ⊢;clear HB HO;have HM2 := hidH (HM.out.keep HB2.out);have HK2 := hidH (HK.out.below HB2.out);have y0 := HM2.out.c0;have y1 := HM2.out.c1;have y2 := HM2.out.c2;have c0 := HCB.out.c0;obtain ⟨H, hH⟩ : ∃ H, H = decide (c.k ∈ ks) := ⟨_, rfl⟩;go_wp2_with fail;refine (has_walkM HK2.out mb ma c.k).mono ?_;rw [← hH];rintro e w3 ⟨rfl, hB3⟩;have HB3 := hidH (below_trans HB2.out hB3);have HCB3 : Hid (CB w3 X c) := HCB.out.keep hB3;have HO3 : Hid (w3.ownsRow wo.heap.size 114 6 u5 (revL ks mb (l.take j)).length (flatC (revL ks mb (l.take j)))) := own_belowC HO2.out hB3;have HHH : Hid (H = decide (c.k ∈ ks)) := hH;clear hB3 hH HB2 HCB HO2 HM2 HK2 y0 y1 y2 c0
      cases H
      ·obtain ⟨D, hD⟩ : ∃ D, D = revP ks mb c := ⟨_, rfl⟩;have hDc : D = c := by rw [hD]; unfold revP; rw [if_neg (of_decide_eq_false HHH.out.symm)]
       have HDD : Hid (D = revP ks mb c) := hD;have HB4 : Hid (Below wo.heap.size wo w3) := HB3.out;have HX4 : Hid (CB w3 X D) := by rw [hDc]; exact HCB3.out
       have HO4 : Hid (w3.ownsRow wo.heap.size 114 6 u5 (revL ks mb (l.take j)).length (flatC (revL ks mb (l.take j)))) := HO3.out;clear hD hDc HB3 HCB3 HO3;have c0 := HX4.out.c0;have c1 := HX4.out.c1;have c2 := HX4.out.c2;have c3 := HX4.out.c3;have c4 := HX4.out.c4;have c5 := HX4.out.c5;go_wp2_with fail;refine (empty_walk D _).mono ?_;obtain ⟨EM, hEM⟩ : ∃ EM, EM = empC D := ⟨_, rfl⟩;rw [← hEM];rintro e w5 ⟨rfl, hB5⟩;have HB5 := hidH (below_trans HB4.out hB5);have HX5 : Hid (CB w5 X D) := HX4.out.keep hB5;have HO5 : Hid (w5.ownsRow wo.heap.size 114 6 u5 (revL ks mb (l.take j)).length (flatC (revL ks mb (l.take j)))) := own_belowC HO4.out hB5;clear hB5 c0 c1 c2 c3 c4 c5 HB4 HX4 HO4
       cases EM
       rotate_left
       ·have HNX : Hid (revL ks mb (l.take (j + 1)) = revL ks mb (l.take j)) := revL_no hjl2 (by rw [← HC1.out, ← HDD.out]; exact hEM.symm);clear hEM;go_wp2_with fail;go_roundw
        case rel => exact ⟨j + 1, by go_num, hjl, by rw [HNX.out]; exact HO5.out, HB5.out⟩
        case measure => simp [intOf]; omega
       ·have HNX : Hid (revL ks mb (l.take (j + 1)) = revL ks mb (l.take j) ++ [D]) := by have h := revL_yes (ks := ks) (b := mb) hjl2 (by rw [← HC1.out, ← HDD.out]; exact hEM.symm); rw [← HC1.out, ← HDD.out] at h; exact h
        clear hEM;have c0 := HX5.out.c0;have c1 := HX5.out.c1;have c2 := HX5.out.c2;have c3 := HX5.out.c3;have c4 := HX5.out.c4;have c5 := HX5.out.c5;have HLB : Hid ((revL ks mb (l.take j)).length + 1 ≤ 17) := by show _ ≤ _; have h1 := revL_len ks mb (l.take j); have h2 := H16.out; have h3 := HPN.out; rw [List.length_take] at h1; omega
        go_upto_region 12 with (at_builtin; refine wpList_append_cv (by rfl) (.tmp 33) (.tmp 35) (by rfl) wo.heap.size _ _ _ (by rfl) (HO5.out.alloc _) _ [D] (by rfl) (cv_one w5 D) (by have := HLB.out; simp only [maxLen, List.length_singleton]; omega) (by have := HLB.out; simp only [List.length_singleton]; omega) (by rw [size_allocC]; have := HB5.out.size; omega) ?_; intro v6 w6 hown hgrow)
        have HB6 : Hid (Below wo.heap.size wo w6) := (below_trans HB5.out (below_alloc _ _)).trans (grown_belowC (HO5.out.alloc _) hgrow (by rw [size_allocC]; have := HB5.out.size; omega));have HO6 : Hid (w6.ownsRow wo.heap.size 114 6 v6 (revL ks mb (l.take (j + 1))).length (flatC (revL ks mb (l.take (j + 1))))) := by show World.ownsRow _ _ _ _ _ _ _; rw [HNX.out, List.length_append, flatC_append]; exact hown
        clear hown hgrow c0 c1 c2 c3 c4 c5;go_wp2_with fail;go_roundw
        case rel => exact ⟨j + 1, by go_num, hjl, HO6.out, HB6.out⟩
        case measure => simp [intOf]; omega
      ·obtain ⟨D, hD⟩ : ∃ D, D = revP ks mb c := ⟨_, rfl⟩;have hDc : revC c mb = D := by rw [hD]; unfold revP; rw [if_pos (of_decide_eq_true HHH.out.symm)]
       have HDD : Hid (D = revP ks mb c) := hD;obtain ⟨c0, c1, c2, c3, c4, c5, zz⟩ := HCB3.out;have y0 := (HM.out.keep HB3.out).c0;clear hD zz;go_wp2_with fail;refine (revert_walk c HMB.out _).mono ?_;rw [hDc];rintro e w4 ⟨rfl, hB4⟩;have HB4' := hidH (below_trans HB3.out hB4);have HCB4 : Hid (CB w4 X c) := HCB3.out.keep hB4;have HO4' : Hid (w4.ownsRow wo.heap.size 114 6 u5 (revL ks mb (l.take j)).length (flatC (revL ks mb (l.take j)))) := own_belowC HO3.out hB4;clear c0 c1 c2 c3 c4 c5 y0 hB4 hDc HB3 HCB3 HO3;obtain ⟨c0, c1, c2, c3, c4, c5, zz⟩ := HCB4.out;have z0 := zz 0;have z1 := zz 1;have z2 := zz 2;have z3 := zz 3;have z4 := zz 4;have z5 := zz 5;clear zz;have HX4 : Hid (CB _ X D) := HCB4.out.set D;have HB4 : Hid _ := below_six HB4'.out HXW.out (.int .u64 D.k) (.bool D.p.h) (.int .u64 D.p.b) (.bool D.c.h) (.int .u64 D.c.b) (.int .i64 D.n);have HO4 : Hid (((((((w4.setCell ⟨X, 0, none⟩ (.int .u64 D.k)).setCell ⟨X, 1, none⟩ (.bool D.p.h)).setCell ⟨X, 2, none⟩ (.int .u64 D.p.b)).setCell ⟨X, 3, none⟩ (.bool D.c.h)).setCell ⟨X, 4, none⟩ (.int .u64 D.c.b)).setCell ⟨X, 5, none⟩ (.int .i64 D.n)).ownsRow wo.heap.size 114 6 u5 (revL ks mb (l.take j)).length (flatC (revL ks mb (l.take j)))) := own_apart HO4'.out (ch_six (D := fun x => x = X) (Ch.refl _ w4) (.inl rfl) _ _ _ _ _ _) (fun x hx e => by have := HPX.out x hx; omega);go_upto_region 10 with fail
       clear c0 c1 c2 c3 c4 c5 z0 z1 z2 z3 z4 z5 HB4' HCB4 HO4';generalize ((((((w4.setCell ⟨X, 0, none⟩ (.int .u64 D.k)).setCell ⟨X, 1, none⟩ (.bool D.p.h)).setCell ⟨X, 2, none⟩ (.int .u64 D.p.b)).setCell ⟨X, 3, none⟩ (.bool D.c.h)).setCell ⟨X, 4, none⟩ (.int .u64 D.c.b)).setCell ⟨X, 5, none⟩ (.int .i64 D.n)) = w7 at HX4 HB4 HO4 ⊢;have c0 := HX4.out.c0;have c1 := HX4.out.c1;have c2 := HX4.out.c2;have c3 := HX4.out.c3;have c4 := HX4.out.c4;have c5 := HX4.out.c5;go_wp2_with fail;refine (empty_walk D _).mono ?_;obtain ⟨EM, hEM⟩ : ∃ EM, EM = empC D := ⟨_, rfl⟩;rw [← hEM];rintro e w5 ⟨rfl, hB5⟩;have HB5 := hidH (below_trans HB4.out hB5);have HX5 : Hid (CB w5 X D) := HX4.out.keep hB5;have HO5 : Hid (w5.ownsRow wo.heap.size 114 6 u5 (revL ks mb (l.take j)).length (flatC (revL ks mb (l.take j)))) := own_belowC HO4.out hB5;clear hB5 c0 c1 c2 c3 c4 c5 HB4 HX4 HO4
       cases EM
       rotate_left
       ·have HNX : Hid (revL ks mb (l.take (j + 1)) = revL ks mb (l.take j)) := revL_no hjl2 (by rw [← HC1.out, ← HDD.out]; exact hEM.symm);clear hEM;go_wp2_with fail;go_roundw
        case rel => exact ⟨j + 1, by go_num, hjl, by rw [HNX.out]; exact HO5.out, HB5.out⟩
        case measure => simp [intOf]; omega
       ·have HNX : Hid (revL ks mb (l.take (j + 1)) = revL ks mb (l.take j) ++ [D]) := by have h := revL_yes (ks := ks) (b := mb) hjl2 (by rw [← HC1.out, ← HDD.out]; exact hEM.symm); rw [← HC1.out, ← HDD.out] at h; exact h
        clear hEM;have c0 := HX5.out.c0;have c1 := HX5.out.c1;have c2 := HX5.out.c2;have c3 := HX5.out.c3;have c4 := HX5.out.c4;have c5 := HX5.out.c5;have HLB : Hid ((revL ks mb (l.take j)).length + 1 ≤ 17) := by show _ ≤ _; have h1 := revL_len ks mb (l.take j); have h2 := H16.out; have h3 := HPN.out; rw [List.length_take] at h1; omega
        go_upto_region 12 with (at_builtin; refine wpList_append_cv (by rfl) (.tmp 33) (.tmp 35) (by rfl) wo.heap.size _ _ _ (by rfl) (HO5.out.alloc _) _ [D] (by rfl) (cv_one w5 D) (by have := HLB.out; simp only [maxLen, List.length_singleton]; omega) (by have := HLB.out; simp only [List.length_singleton]; omega) (by rw [size_allocC]; have := HB5.out.size; omega) ?_; intro v6 w6 hown hgrow)
        have HB6 : Hid (Below wo.heap.size wo w6) := (below_trans HB5.out (below_alloc _ _)).trans (grown_belowC (HO5.out.alloc _) hgrow (by rw [size_allocC]; have := HB5.out.size; omega));have HO6 : Hid (w6.ownsRow wo.heap.size 114 6 v6 (revL ks mb (l.take (j + 1))).length (flatC (revL ks mb (l.take (j + 1))))) := by show World.ownsRow _ _ _ _ _ _ _; rw [HNX.out, List.length_append, flatC_append]; exact hown
        clear hown hgrow c0 c1 c2 c3 c4 c5;go_wp2_with fail;go_roundw
        case rel => exact ⟨j + 1, by go_num, hjl, HO6.out, HB6.out⟩
        case measure => simp [intOf]; omega
   case rest =>
    obtain ⟨hown, hbel⟩ := hcut;have HV5 : Hid (Cv wc u5 (revL ks mb l)) := (own_cv hown).1;have HP5 : Hid (∀ x, u5.ownBlock = some x → wo.heap.size ≤ x) := fun x hx => (hown.lt x hx).1;have HB5 := hidH hbel;have HS5 := hidH (HSH.out.below hbel);obtain ⟨va, vn, vc, hvv⟩ : ∃ x y z, u5 = .slice x y z := by obtain ⟨x, y, z⟩ := HV5.out.form; exact ⟨x, _, y, z⟩
    subst hvv;have q0 := HS5.out.c i hlt;rw [HGP.out] at q0;have q1 := HS5.out.z i
    have HREL : Hid (RvR w Q N f Ls ks mb ma (.slice ka kn kc) (.int .i64 ((i : Int) + 1)) (wc.setCell ⟨Q, i, none⟩ (.slice va vn vc))) := by
     refine ⟨i + 1, upd g i (.slice va vn vc), rfl, hlt, ?_, ?_, ?_, ?_, ?_⟩
     ·have h := HS5.out.set hlt HV5.out;rw [HL.out, mix_set (by rw [HLN.out]; exact hlt)] at h;exact h
     ·intro j hj x hx;unfold upd at hx;by_cases q : i = j
      ·rw [if_pos q] at hx; have h1 := HP5.out x hx; have h2 := HC.out.size; right; omega
      ·rw [if_neg q] at hx; exact HFR.out j hj x hx
     ·exact (HM.out.keep HB5.out).ch (ch_set wc Q i _) (by have h1 := HQW.out; have h2 := HN.out; omega)
     ·exact kv_setS (HK.out.below HB5.out) q0 _
     ·exact (HC.out.self (Ch.of_below HB5.out)).self (ch_set wc Q i _)
    clear hown hbel m1;go_wp2_with fail;go_roundw
    case rel => exact HREL.out
    case measure => simp [intOf]; omega
end
end
theorem enc_cons {o : Option Nat} {c : Cl} {r : List Cl} (h : encE o (c :: r) = 0) : folB o c.k = true ∧ writB c = true ∧ encE (some c.k) r = 0 := by
 simp only [encE] at h
 split at h
 ·omega
 ·rename_i h1
  split at h
  ·omega
  ·rename_i h2
   exact ⟨by simpa using h1, by simpa using h2, h⟩
theorem dec_of {cs : List Cl} : ∀ {o : Option Nat} {r : List Nat}, encE o cs = 0 → (∀ c ∈ cs, c.okB) → decS cs.length o (allB cs ++ r) = (0, cs, r) := by
 induction cs with
 | nil => intro o r _ _; rfl
 | cons c t ih =>
  intro o r h hok;obtain ⟨h1, h2, h3⟩ := enc_cons h;have e : allB (c :: t) ++ r = cellBB c ++ (allB t ++ r) := by simp [allB]
  rw [e];simp only [List.length_cons, decS, oneC_of (hok c (by simp)) h2 h1, ih h3 (fun d hd => hok d (by simp [hd]))];simp
theorem dec_back {n : Nat} : ∀ {o : Option Nat} {l r : List Nat} {cs : List Cl}, (∀ c ∈ l, c < 256) → decS n o l = (0, cs, r) → l = allB cs ++ r ∧ encE o cs = 0 ∧ cs.length = n ∧ ∀ c ∈ cs, c.okB := by
 induction n with
 | zero =>
  intro o l r cs _ h;simp only [decS, Prod.mk.injEq, true_and] at h;obtain ⟨rfl, rfl⟩ := h;exact ⟨rfl, rfl, rfl, by simp⟩
 | succ n ih =>
  intro o l r cs hl h;obtain ⟨e, c, m, ho⟩ : ∃ a b c, oneC o l = (a, b, c) := ⟨_, _, _, rfl⟩;simp only [decS, ho] at h
  split at h
  ·simp at h; omega
  ·rename_i q
   have q : e = 0 := by omega
   subst q;obtain ⟨h1, h2, h3, h4⟩ := oneC_back hl ho;have hm : ∀ x ∈ m, x < 256 := fun x hx => hl x (by rw [h1]; simp [hx]);obtain ⟨e2, c2, m2, hd⟩ : ∃ a1 a2 a3, decS n (some c.k) m = (a1, a2, a3) := ⟨_, _, _, rfl⟩;rw [hd] at h
   split at h
   ·simp at h; omega
   ·rename_i q2
    have q2 : e2 = 0 := by simp only at q2; omega
    subst q2;simp only [Prod.mk.injEq, true_and] at h;obtain ⟨rfl, rfl⟩ := h;obtain ⟨i1, i2, i3, i4⟩ := ih hm hd;refine ⟨by rw [h1, i1]; simp [allB], ?_, by simp [i3], fun d hd => ?_⟩
    ·simp [encE, h2, h3, i2]
    ·simp at hd;rcases hd with rfl | hd
     ·exact h4
     ·exact i4 d hd
theorem encode_zero {l : List Cl} (h : (encode l).2 = 0) : (l = [] ∧ encode l = ([], 0)) ∨ (0 < l.length ∧ l.length ≤ 16 ∧ encE none l = 0 ∧ encode l = (Wm.enc l.length ++ allB l, 0)) := by
 unfold encode at h ⊢
 split at h
 ·simp at h
 ·rename_i h1
  split at h
  ·rename_i h2
   have : l = [] := List.eq_nil_of_length_eq_zero h2;subst this;exact .inl ⟨rfl, rfl⟩
  ·rename_i h2
   split at h
   ·rename_i h3
    rw [if_neg h1, if_neg h2, if_pos h3];exact .inr ⟨by omega, by omega, h3, rfl⟩
   ·rename_i h3; exact absurd h h3
theorem form_len {l : List Cl} (h : (encode l).2 = 0) : (encode l).1.length ≤ 1024 ∧ ((encode l).1.length = 0 ↔ l.length = 0) := by
 rcases encode_zero h with ⟨rfl, e⟩ | ⟨h1, h2, _, e⟩
 ·rw [e]; simp
 ·rw [e];have a := Wm.enc_len l.length;have b := allB_len l;simp only [List.length_append];omega
theorem form_bytes {l : List Cl} (h : (encode l).2 = 0) (hok : ∀ c ∈ l, c.okB) : ∀ x ∈ (encode l).1, x < 256 := by
 rcases encode_zero h with ⟨rfl, e⟩ | ⟨h1, h2, h3, e⟩
 ·rw [e]; simp
 ·rw [e];intro x hx;simp only [List.mem_append] at hx;rcases hx with hx | hx
  ·exact Wm.enc_lt _ (by omega) x hx
  ·have : ∀ (cs : List Cl) (o : Option Nat), encE o cs = 0 → (∀ c ∈ cs, c.okB) → ∀ x ∈ allB cs, x < 256 := by
    intro cs
    induction cs with
    | nil => intro o _ _ x hx; simp [allB] at hx
    | cons c t ih =>
     intro o he hk x hx;obtain ⟨_, q2, q3⟩ := enc_cons he;simp only [allB, List.mem_append] at hx;rcases hx with hx | hx
     ·exact cellB_lt (hk c (by simp)) q2 x hx
     ·exact ih _ q3 (fun d hd => hk d (by simp [hd])) x hx
   exact this l none h3 hok x hx
theorem form_there {l : List Cl} (h : (encode l).2 = 0) (hok : ∀ c ∈ l, c.okB) : decode (encode l).1 = (l, 0) := by
 rcases encode_zero h with ⟨rfl, e⟩ | ⟨h1, h2, h3, e⟩
 ·rw [e]; rfl
 ·rw [e];have ht := Wm.take_enc l.length (allB l) (by omega);rw [decode_go ht (by have := Wm.enc_len l.length; simp only [List.length_append]; omega) (by omega) h2];rw [List.drop_append_of_le_length (Nat.le_refl _), List.drop_length, List.nil_append];have hd := dec_of (r := []) h3 hok;rw [List.append_nil] at hd;simp [decT, hd]
theorem form_back {b : List Nat} (hb : ∀ c ∈ b, c < 256) (h : (decode b).2 = 0) : encode (decode b).1 = (b, 0) ∧ ∀ c ∈ (decode b).1, c.okB := by
 by_cases h0 : b.length = 0
 ·have : b = [] := List.eq_nil_of_length_eq_zero h0;subst this;exact ⟨rfl, by simp [decode]⟩
 ·rcases Wm.take_form b hb with ⟨e, ht, h34⟩ | ⟨x, n, ht, hx, hn1, hn2, hn3⟩
  ·rw [decode_err ht h0 (by omega)] at h; simp at h; omega
  ·by_cases hx0 : x = 0
   ·subst hx0; rw [decode_none ht h0] at h; simp at h
   ·by_cases h16 : 16 < x
    ·rw [decode_far ht h0 h16] at h; simp at h
    ·have hg := decode_go ht h0 hx0 (by omega);rw [hg] at h ⊢;by_cases q1 : (decS x none (b.drop n)).1 = 0
     ·by_cases q2 : (decS x none (b.drop n)).2.2.length = 0
      ·rw [decT_ok q1 q2];obtain ⟨e, cs, r, hd⟩ : ∃ a b' c, decS x none (b.drop n) = (a, b', c) := ⟨_, _, _, rfl⟩;rw [hd] at q1 q2 ⊢;simp only at q1 q2 ⊢;subst q1;have hr : r = [] := List.eq_nil_of_length_eq_zero q2;subst hr;obtain ⟨i1, i2, i3, i4⟩ := dec_back (fun c hc => hb c (List.mem_of_mem_drop hc)) hd;refine ⟨?_, i4⟩;rw [encode_ok (by omega) (by omega) i2, pre_all, i3];rw [List.append_nil] at i1;rw [← i1, hn3, List.take_append_drop]
      ·rw [decT_tail q1 q2] at h; simp at h
     ·rw [decT_fault rfl q1] at h; exact absurd h q1
section
/-! Cells that are the same. -/
def eqCb (c d : Cl) : Bool := decide (c.k = d.k) && (eqV c.p d.p && (eqV c.c d.c && decide (c.n = d.n)))
def eqLb : List Cl → List Cl → Bool
 | [], [] => true
 | c :: l, d :: m => eqCb c d && eqLb l m
 | _, _ => false
theorem eqV_iff {v u : Vl} : eqV v u = true ↔ v = u := by
 obtain ⟨a, b⟩ := v;obtain ⟨c, d⟩ := u;simp [eqV]
theorem eqCb_iff {c d : Cl} : eqCb c d = true ↔ c = d := by
 obtain ⟨a, p, q, n⟩ := c;obtain ⟨b, r, s, m⟩ := d;simp only [eqCb, Bool.and_eq_true, decide_eq_true_eq, eqV_iff, Cl.mk.injEq]
theorem eqLb_iff {l : List Cl} : ∀ {m : List Cl}, eqLb l m = true ↔ l = m := by
 induction l with
 | nil => intro m; cases m <;> simp [eqLb]
 | cons c l ih => intro m; cases m with
  | nil => simp [eqLb]
  | cons d m => simp only [eqLb, Bool.and_eq_true, eqCb_iff, ih, List.cons.injEq]
def chgL (old new : List (List Cl)) : Nat → List (Int × List Nat)
 | 0 => []
 | i + 1 => chgL old new i ++ (if eqLb (pgc new i) (pgc old i) = true then [] else [(1 + (i : Int), (encode (pgc new i)).1)])
theorem chg_same {old new : List (List Cl)} {i : Nat} (h : pgc new i = pgc old i) : chgL old new (i + 1) = chgL old new i := by
 rw [chgL, if_pos (eqLb_iff.2 h), List.append_nil]
theorem chg_other {old new : List (List Cl)} {i : Nat} (h : pgc new i ≠ pgc old i) : chgL old new (i + 1) = chgL old new i ++ [(1 + (i : Int), (encode (pgc new i)).1)] := by
 rw [chgL, if_neg (fun e => h (eqLb_iff.1 e))]
theorem chg_len (old new : List (List Cl)) : ∀ i, (chgL old new i).length ≤ i := by
 intro i
 induction i with
 | zero => simp [chgL]
 | succ i ih => rw [chgL, List.length_append]; split <;> simp <;> omega
/-! A list of writes, all of it new memory. -/
theorem info_pwS : (Tryz.prog.info? 80).map (fun i => (i.zero, i.size, i.bytes)) = some (some (.agg #[.int .i64 0, .slice none 0 0]), 2, 32) := by kernel_rfl
def flatW (qs : List (Int × Value)) : List Value := qs.flatMap fun q => [.int .i64 q.1, q.2]
theorem flatW_append (a b : List (Int × Value)) : flatW (a ++ b) = flatW a ++ flatW b := by simp [flatW]
theorem flatW_get (qs : List (Int × Value)) (i : Nat) (hi : i < qs.length) : (flatW qs)[i * 2]? = some (.int .i64 qs[i].1) ∧ (flatW qs)[i * 2 + 1]? = some qs[i].2 := by
 induction qs generalizing i with
 | nil => simp at hi
 | cons q r ih =>
  have e : flatW (q :: r) = [.int .i64 q.1, q.2] ++ flatW r := rfl;rw [e]
  cases i with
  | zero => simp
  | succ i =>
   have h := ih i (by simpa using hi);rw [show (i + 1) * 2 = i * 2 + 2 by omega, List.getElem?_append_right (by simp), List.getElem?_append_right (by simp)];simpa using h
def WL (base : Nat) (w : World) (v : Value) (ps : List (Int × List Nat)) : Prop :=
 ∃ qs : List (Int × Value), qs.length = ps.length ∧ w.ownsRow base 80 2 v ps.length (flatW qs) ∧
  (∀ i, (h : i < ps.length) → (h' : i < qs.length) → qs[i].1 = ps[i].1 ∧ w.ownsRow base 5 1 qs[i].2 ps[i].2.length (cb ps[i].2) ∧ ∀ c ∈ ps[i].2, c < 256) ∧ ∀ p ∈ ps, 0 ≤ p.1 ∧ p.1 < 8
theorem WL.nil (base : Nat) (w : World) : WL base w (.slice none 0 0) [] := ⟨[], rfl, ⟨rfl, .inl ⟨rfl, rfl⟩⟩, fun i hi => by simp at hi, by simp⟩
theorem WL.below {base : Nat} {w w' : World} {v : Value} {ps : List (Int × List Nat)} (h : WL base w v ps) (hb : Below w.heap.size w w') : WL base w' v ps := by
 obtain ⟨qs, h1, h2, h3, h4⟩ := h;exact ⟨qs, h1, own_belowC h2 hb, fun i hi hi' => ⟨(h3 i hi hi').1, own_belowC (h3 i hi hi').2.1 hb, (h3 i hi hi').2.2⟩, h4⟩
theorem WL.low {base b2 : Nat} {w : World} {v : Value} {ps : List (Int × List Nat)} (h : WL base w v ps) (hb : b2 ≤ base) : WL b2 w v ps := by
 obtain ⟨qs, h1, h2, h3, h4⟩ := h;exact ⟨qs, h1, own_baseC h2 hb, fun i hi hi' => ⟨(h3 i hi hi').1, own_baseC (h3 i hi hi').2.1 hb, (h3 i hi hi').2.2⟩, h4⟩
theorem own_cells2 {w : World} {base e : Nat} {v : Value} {n : Nat} {xs : List Value} (h : w.ownsRow base e 2 v n xs) (hn : 0 < n) : ∃ g cap cur, v = .slice (some ⟨g, 0, none⟩) n cap ∧ base ≤ g ∧ n ≤ cap ∧ cap ≤ maxLen ∧ w.heap[g]? = some (.cells cur e (0, 0)) ∧ ∀ j, j < n * 2 → w.cell? ⟨g, j, none⟩ = xs[j]? := by
 obtain ⟨h1, h2⟩ := h;rcases h2 with ⟨_, h0⟩ | ⟨g, cap, cur, hv, hb, hg, hnc, hcm, hcs, htk⟩
 ·omega
 ·refine ⟨g, cap, cur, hv, hb, hnc, hcm, hg, fun j hj => ?_⟩;rw [cell_of_row w g j cur _ (0, 0) hg, ← Array.getElem?_toList];have e := congrArg (fun l => l[j]?) htk;simp only [List.getElem?_take] at e;rw [if_pos (by omega)] at e;exact e
theorem WL.tx {A : Nat → Prop} {base : Nat} {w : World} {v : Value} {ps : List (Int × List Nat)} (h : WL base w v ps) (hA : ∀ x, A x → x < base) : Tx A w v ps := by
 obtain ⟨qs, h1, h2, h3, h4⟩ := h;refine ⟨?_, fun p hp => by have := h4 p hp; omega⟩;by_cases hn : 0 < ps.length
 ·obtain ⟨g, cap, cur, e, hb, hnc, hcm, hg, hc⟩ := own_cells2 h2 hn;refine ⟨some ⟨g, 0, none⟩, cap, e, hnc, hcm, by simp, fun i hi => ⟨g, 0, qs[i].2, rfl, fun e => by have := hA g e; omega, ?_, ?_, ?_⟩⟩
  ·rw [Nat.zero_add, hc (i * 2) (by omega), (flatW_get qs i (by omega)).1, (h3 i hi (by omega)).1]
  ·rw [Nat.zero_add, hc (i * 2 + 1) (by omega), (flatW_get qs i (by omega)).2]
  ·obtain ⟨_, k2, k3⟩ := h3 i hi (by omega);exact ⟨own_bv k2 k3, .inr fun x hx e => by have h5 := (k2.lt x hx).1; have h6 := hA x e; omega⟩
 ·have hp : ps = [] := List.eq_nil_of_length_eq_zero (by omega);subst hp;rcases h2.2 with ⟨rfl, _⟩ | ⟨g, cap, cur, hv, hb, hg, hnc, hcm, hcs, htk⟩
  ·exact ⟨none, 0, rfl, by simp, by simp [maxLen], by simp, fun i hi => by simp at hi⟩
  ·exact ⟨_, cap, hv, hnc, hcm, by simp, fun i hi => by simp at hi⟩
theorem sh_lit (w : World) (g : Nat → Value) {Ls : List (List Cl)} (hl : Ls.length = 6) (hg : ∀ j, j < 6 → Cv w (g j) (pgc Ls j)) : SH (w.alloc (Obj.cells #[g 0, g 1, g 2, g 3, g 4, g 5] 87)) w.heap.size g Ls := by
 refine ⟨hl, fun i hi => ?_, fun j => by simp [go_sem], fun i hi => (hg i hi).below (below_alloc _ _)⟩;have : i = 0 ∨ i = 1 ∨ i = 2 ∨ i = 3 ∨ i = 4 ∨ i = 5 := by omega
 rcases this with rfl | rfl | rfl | rfl | rfl | rfl <;> simp [go_sem]
theorem encode_lt {l : List Cl} (hok : ∀ c ∈ l, c.okB) : ∀ x ∈ (encode l).1, x < 256 := by
 by_cases h : (encode l).2 = 0
 ·exact form_bytes h hok
 ·have : (encode l).1 = [] := by
   unfold encode at h ⊢
   split
   ·rfl
   ·split
    ·rfl
    ·split
     ·rename_i h1 h2 h3; rw [if_neg h1, if_neg h2, if_pos h3] at h; exact absurd rfl h
     ·rfl
  rw [this]; simp
theorem pw_types : (80 : Nat) ≠ 5 := by decide
theorem wl_app {base : Nat} {w w' : World} {v v' u : Value} {ps : List (Int × List Nat)} {qs : List (Int × Value)} {p : Int} {d : List Nat} (_hw : WL base w v ps) (k1 : qs.length = ps.length) (k2 : w.ownsRow base 80 2 v ps.length (flatW qs))
  (k3 : ∀ i, (h : i < ps.length) → (h' : i < qs.length) → qs[i].1 = ps[i].1 ∧ w.ownsRow base 5 1 qs[i].2 ps[i].2.length (cb ps[i].2) ∧ ∀ c ∈ ps[i].2, c < 256) (k4 : ∀ p ∈ ps, 0 ≤ p.1 ∧ p.1 < 8)
  (hu : w.ownsRow base 5 1 u d.length (cb d)) (hd : ∀ c ∈ d, c < 256) (hp : 0 ≤ p ∧ p < 8) (hbase : base ≤ w.heap.size) (g1 : w'.ownsRow base 80 2 v' (ps.length + 1) (flatW qs ++ [.int .i64 p, u])) (g2 : w.grownBy w' v.ownBlock) :
  WL base w' v' (ps ++ [(p, d)]) ∧ Below base w w' := by
 have hbl : Below base w w' := grown_belowC k2 g2 hbase
 have keep : ∀ {y : Value} {n : Nat} {ys : List Value}, w.ownsRow base 5 1 y n ys → w'.ownsRow base 5 1 y n ys := fun {y n ys} hy => by
  refine own_apart hy (Ch.of_grown (D := fun x => v.ownBlock = some x) g2 (fun x hx => hx)) (fun z hz e => ?_);rcases hy.2 with ⟨rfl, _⟩ | ⟨g, cap, cur, rfl, _, hg, _⟩
  ·cases hz
  ·rcases k2.2 with ⟨rfl, _⟩ | ⟨g', cap', cur', rfl, _, hg', _⟩
   ·cases e
   ·simp [Value.ownBlock] at hz e;subst hz;subst e;rw [hg] at hg';simp only [Option.some.injEq, Obj.cells.injEq] at hg';exact pw_types hg'.2.1.symm
 refine ⟨⟨qs ++ [(p, u)], by simp [k1], ?_, fun i hi hi' => ?_, fun r hr => ?_⟩, hbl⟩
 ·rw [List.length_append, flatW_append]; exact g1
 ·by_cases hl : i < ps.length
  ·have hl' : i < qs.length := by omega
   simp only [List.getElem_append_left hl, List.getElem_append_left hl'];obtain ⟨a1, a2, a3⟩ := k3 i hl hl';exact ⟨a1, keep a2, a3⟩
  ·have hie : i = ps.length := by simp at hi; omega
   subst hie;simp only [List.getElem_append_right (Nat.le_refl _), Nat.sub_self, List.getElem_singleton];have e : (qs ++ [(p, u)])[ps.length] = (p, u) := by rw [List.getElem_append_right (by omega)]; simp [k1]
   rw [e];exact ⟨rfl, keep hu, hd⟩
 ·rcases List.mem_append.1 hr with hr | hr
  ·exact k4 r hr
  ·simp at hr; subst hr; exact hp
theorem wpList_append_wl {w : World} {ops : Array Oper} {rest : List Oper} {o : Oper} {a : Act} {Q : Exit → Act → World → Prop} (hgd : o.guard = none) (s x : Operand)
  (ho : o.op = .call { callee := .builtin .append, args := #[s, x], argTypes := #[82, 82] })
  (base : Nat) (v : Value) (ps : List (Int × List Nat)) (hs : a.eval s = v) (hw : WL base w v ps)
  (q : Nat) (p : Int) (u : Value) (d : List Nat) (hx : a.eval x = .slice (some ⟨q, 0, none⟩) 1 1) (h0 : w.cell? ⟨q, 0, none⟩ = some (.int .i64 p)) (h1 : w.cell? ⟨q, 1, none⟩ = some u) (hu : w.ownsRow base 5 1 u d.length (cb d)) (hd : ∀ c ∈ d, c < 256) (hp : 0 ≤ p ∧ p < 8) (hn : ps.length ≤ 16) (hbase : base ≤ w.heap.size)
  (h : ∀ v' w', WL base w' v' (ps ++ [(p, d)]) → Below base w w' → wpList Tryz.prog ops Q rest (a.put o.dst v') w') : wpList Tryz.prog ops Q (o :: rest) a w := by
 obtain ⟨i0, hi, hz0, hz1, hz2⟩ := info_partsVB info_pwS;obtain ⟨qs, k1, k2, k3, k4⟩ := hw
 have hu1 : u.oneCell' = true := by
  rcases hu.2 with ⟨rfl, _⟩ | ⟨g, cap, cur, rfl, _⟩ <;> rfl
 refine wpList_append_own w hgd s x 82 ho base 80 i0 (.agg #[.int .i64 0, .slice none 0 0]) 2 32 Tryz.underlying82 hi hz0 hz1 hz2 rfl (by decide) v ps.length (flatW qs) hs k2 ⟨q, 0, none⟩ 1 1 [.int .i64 p, u] hx rfl ?_ (fun y hy => by simp at hy; rcases hy with rfl | rfl; rfl; exact hu1) (by simp only [maxLen]; omega) (by omega) hbase (fun v' w' g1 g2 g3 => ?_)
 ·intro j y hj
  cases j with
  | zero => simp at hj; subst hj; exact h0
  | succ j => cases j with
   | zero => simp at hj; subst hj; exact h1
   | succ j => simp at hj
 ·obtain ⟨a1, a2⟩ := wl_app ⟨qs, k1, k2, k3, k4⟩ k1 k2 k3 k4 hu hd hp hbase g1 g2;exact h v' w' a1 a2
section

variable {w : World} {Q : Nat} {f g : Nat → Value} {old new : List (List Cl)}

def CgR (w0 : World) (old new : List (List Cl)) (lv iv : Value) (wr : World) : Prop :=
 ∃ i : Nat, iv = .int .i64 i ∧ i ≤ 6 ∧ WL w0.heap.size wr lv (chgL old new i) ∧ Below w0.heap.size w0 wr
theorem changes_walk (h : SH w Q f new) (ho : old.length = 6) (hg : ∀ j, j < 6 → Cv w (g j) (pgc old j)) (hok : ∀ i, i < 6 → ∀ c ∈ pgc new i, c.okB) :
  Calls Tryz.prog 76 #[.pointer (some ⟨Q, 0, none⟩), .agg #[g 0, g 1, g 2, g 3, g 4, g 5]] w fun e w' => ∃ lv, e = .returned lv ∧ WL w.heap.size w' lv (chgL old new 6) ∧ Below w.heap.size w w' := by
 have HOK := hidH hok;have HB0 : Hid _ := below_alloc w (Obj.cells #[g 0, g 1, g 2, g 3, g 4, g 5] 87);have H0 : Hid (SH (w.alloc (Obj.cells #[g 0, g 1, g 2, g 3, g 4, g 5] 87)) Q f new) := h.below HB0.out;have HG0 : Hid (SH (w.alloc (Obj.cells #[g 0, g 1, g 2, g 3, g 4, g 5] 87)) w.heap.size g old) := sh_lit w g ho hg;obtain ⟨F, hF⟩ : ∃ F : Array Value, F = #[g 0, g 1, g 2, g 3, g 4, g 5] := ⟨_, rfl⟩;clear h hg hok;go_in;go_upto_region 1 with fail
 obtain ⟨N, hN⟩ : ∃ N, N = w.heap.size := ⟨_, rfl⟩;rw [← hN] at HG0 ⊢;have HN : Hid (N = w.heap.size) := hN;clear hN hF F;generalize w.alloc (Obj.cells #[g 0, g 1, g 2, g 3, g 4, g 5] 87) = w0 at H0 HG0 HB0 ⊢;go_wp2_with fail;go_loopw [5, 9] (fun lv iv wr => CgR w0 old new lv iv wr) (fun _ iv _ => 6 - (intOf iv).toNat)
 case atStart => exact ⟨0, rfl, by omega, WL.nil _ _, Below.refl _ _⟩
 case round =>
  obtain ⟨i, rfl, hi, hwl, hbel⟩ := hrel;have HWL := hidH hwl;have HB := hidH hbel;have HBW := hidH (below_trans HB0.out hbel);clear hwl hbel;by_cases hlt : i < 6;rotate_left
  ·have hlti : ¬ (i : Int) < 6 := by omega
   obtain rfl : i = 6 := by omega
   go_wp2_with fail;go_ret;exact ⟨_, rfl, HWL.out.low HB0.out.size, HBW.out⟩
  ·have hlti : (i : Int) < 6 := by omega
   have HS1 : Hid (SH wr Q f new) := H0.out.below HB.out;have HS2 : Hid (SH wr N g old) := HG0.out.below HB.out;obtain ⟨fa, fc, hf⟩ := HS1.out.form hlt;obtain ⟨ga, gc, hg⟩ := HS2.out.form hlt;obtain ⟨fn, hfn⟩ : ∃ n, n = (pgc new i).length := ⟨_, rfl⟩;obtain ⟨gn, hgn⟩ : ∃ n, n = (pgc old i).length := ⟨_, rfl⟩;rw [← hfn] at hf;rw [← hgn] at hg;have HF : Hid (Cv wr (.slice fa fn fc) (pgc new i)) := by have := HS1.out.cv i hlt; rw [hf] at this; exact this
   have HG : Hid (Cv wr (.slice ga gn gc) (pgc old i)) := by have := HS2.out.cv i hlt; rw [hg] at this; exact this
   have m0 : ∀ wx, Below wr.heap.size wr wx → wx.cell? ⟨Q, i, none⟩ = some (.slice fa fn fc) := fun wx h => by have := (HS1.out.below h).c i hlt; rw [hf] at this; exact this
   have m1 : ∀ wx, Below wr.heap.size wr wx → wx.cell? ⟨N, i, none⟩ = some (.slice ga gn gc) := fun wx h => by have := (HS2.out.below h).c i hlt; rw [hg] at this; exact this
   have HM : Hid _ := m0;clear hf hg hfn hgn;go_upto_region 5 with fail
   go_region_held3 (fun wx => Below wr.heap.size wr wx) (first | assumption | exact (Below.refl _ _).drew)
    (first | (go_at_call 144; refine (sequal_walk (HF.out.below (by assumption)) (HG.out.below (by assumption))).mono ?_; rintro e w2 ⟨⟨t, rfl, ht⟩, hB2⟩; have hS2 := below_trans (by assumption) hB2))
   have HB2 : Hid (Below wr.heap.size wr w2) := by assumption
   have HT : Hid (t = true ↔ pgc new i = pgc old i) := ht;clear ht
   cases t
   rotate_left
   ·have HREL : Hid (CgR w0 old new u5 (.int .i64 ((i : Int) + 1)) w2) := ⟨i + 1, rfl, hlt, by rw [chg_same (HT.out.1 rfl)]; exact HWL.out.below HB2.out, below_trans HB.out HB2.out⟩;clear hB2 hS2;go_wp2_with fail;go_roundw
    case rel => exact HREL.out
    case measure => simp [intOf]; omega
   ·have HNE : Hid (pgc new i ≠ pgc old i) := fun e => by have := HT.out.2 e; cases this
    have HWL2 := hidH (HWL.out.below HB2.out);have HBW2 := hidH (below_trans HBW.out HB2.out);have HF2 := hidH (HF.out.below HB2.out);have q0 := HM.out w2 HB2.out;have HB02 := hidH (below_trans HB.out HB2.out);clear hB2 hS2 m0 m1 HWL HBW HF HG HB HB2;go_wp2_with fail;refine (encode_walk HF2.out (HOK.out i hlt)).mono ?_;unfold EncGot;obtain ⟨E, hE⟩ : ∃ E, E = encode (pgc new i) := ⟨_, rfl⟩;rw [← hE];rintro e w3 ⟨v3, rfl, ho3, hB3⟩;have HE : Hid (E = encode (pgc new i)) := hE;have HE256 : Hid (∀ c ∈ E.1, c < 256) := by rw [hE]; exact encode_lt (HOK.out i hlt)
    have HWL3 := hidH (HWL2.out.below hB3);have HBW3 := hidH (below_trans HBW2.out hB3);have HO3 : Hid (w3.ownsRow w0.heap.size 5 1 v3 E.1.length (cb E.1)) := own_baseC ho3 HB02.out.size;have HB03 := hidH (below_trans HB02.out hB3);have HW0 : Hid (w0.heap.size ≤ w3.heap.size) := HB03.out.size;obtain ⟨va, vn, vc, hvv⟩ : ∃ x y z, v3 = .slice x y z := by obtain ⟨x, z, e⟩ := own_form8 ho3; exact ⟨x, _, z, e⟩
    subst hvv;have hw1 : IntKind.i64.wrap (1 + (i : Int)) = 1 + (i : Int) := by rw [IntKind.wrap_i64]; omega
    clear ho3 hB3 hE q0 HWL2 HBW2 HF2 HB02;have HWA : Hid (WL w0.heap.size (w3.alloc (Obj.cells #[.int .i64 (1 + (i : Int)), .slice va vn vc] 80)) u5 (chgL old new i)) := HWL3.out.below (below_alloc _ _);have HOA : Hid ((w3.alloc (Obj.cells #[.int .i64 (1 + (i : Int)), .slice va vn vc] 80)).ownsRow w0.heap.size 5 1 (.slice va vn vc) E.1.length (cb E.1)) := own_belowC HO3.out (below_alloc _ _);have HBA : Hid (Below w0.heap.size w0 (w3.alloc (Obj.cells #[.int .i64 (1 + (i : Int)), .slice va vn vc] 80))) := below_trans HB03.out (below_alloc _ _);go_upto_region 8 with (at_builtin; refine wpList_append_wl (by rfl) (.tmp 30) (.tmp 35) (by rfl) w0.heap.size _ (chgL old new i) (by rfl) HWA.out _ (1 + (i : Int)) (.slice va vn vc) E.1 (by rfl) (by simp [go_sem]) (by simp [go_sem]) HOA.out HE256.out (by omega) (by have := chg_len old new i; omega) HBA.out.size ?_; intro v5 w5 hwl5 hb5)
    have HREL : Hid (CgR w0 old new v5 (.int .i64 ((i : Int) + 1)) w5) := ⟨i + 1, rfl, hlt, by rw [chg_other HNE.out, ← HE.out]; exact hwl5, HBA.out.trans hb5⟩;clear hwl5 hb5;go_wp2_with fail;go_roundw
    case rel => exact HREL.out
    case measure => simp [intOf]; omega
end
end
end Go.Proofs.YtcmklbibehnloaaGreat
