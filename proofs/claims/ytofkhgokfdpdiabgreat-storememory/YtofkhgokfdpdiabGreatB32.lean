/- The mathematics of BucketForm: decode of encode, encode of decode, cuts, a byte behind. -/
import Derived.Test.YtofkhgokfdpdiabGreatB02
import Derived.Test.YtofkhgokfdpdiabGreatB31
import Derived.Test.YtofkhgokfdpdiabGreatB30
import Derived.Deep.CutBlock
import Derived.Test.YtofkhgokfdpdiabGreatB16
set_option maxRecDepth 100000
set_option maxHeartbeats 16000000
namespace Go.Proofs.YtofkhgokfdpdiabGreat
section
open Go.RowKit

def revP (ks : List Nat) (b : Int) (c : Cl) : Cl := if c.k ∈ ks then revC c b else c
def revL (ks : List Nat) (b : Int) (l : List Cl) : List Cl := (l.map (revP ks b)).filter (fun c => !empC c)
theorem revL_len (ks : List Nat) (b : Int) (l : List Cl) : (revL ks b l).length ≤ l.length := by
 unfold revL
 have := List.length_filter_le (fun c => !empC c) (l.map (revP ks b))
 simpa using this
theorem revL_yes {ks : List Nat} {b : Int} {l : List Cl} {j : Nat} (hj : j < l.length) (h : empC (revP ks b l[j]) = false) : revL ks b (l.take (j + 1)) = revL ks b (l.take j) ++ [revP ks b l[j]] := by
 unfold revL
 rw [List.take_succ_eq_append_getElem hj, List.map_append, List.filter_append]
 simp [h]
theorem revL_no {ks : List Nat} {b : Int} {l : List Cl} {j : Nat} (hj : j < l.length) (h : empC (revP ks b l[j]) = true) : revL ks b (l.take (j + 1)) = revL ks b (l.take j) := by
 unfold revL
 rw [List.take_succ_eq_append_getElem hj, List.map_append, List.filter_append]
 simp [h]
def mix (g : List Cl → List Cl) (Ls : List (List Cl)) (i : Nat) : List (List Cl) := (Ls.take i).map g ++ Ls.drop i
theorem mix_zero (g : List Cl → List Cl) (Ls : List (List Cl)) : mix g Ls 0 = Ls := by simp [mix]
theorem mix_all {g : List Cl → List Cl} {Ls : List (List Cl)} {n : Nat} (h : Ls.length = n) : mix g Ls n = Ls.map g := by
 subst h; simp [mix]
theorem pgc_get {Ls : List (List Cl)} {i : Nat} (hi : i < Ls.length) : pgc Ls i = Ls[i] := by unfold pgc; simp [hi]
theorem mix_at {g : List Cl → List Cl} {Ls : List (List Cl)} {i : Nat} (hi : i < Ls.length) : pgc (mix g Ls i) i = pgc Ls i := by
 unfold pgc mix
 rw [List.getD_eq_getElem?_getD, List.getElem?_append_right (by simp; omega)]
 simp [List.getD_eq_getElem?_getD, Nat.min_eq_left (Nat.le_of_lt hi)]
theorem mix_set {g : List Cl → List Cl} {Ls : List (List Cl)} {i : Nat} (hi : i < Ls.length) : (mix g Ls i).set i (g (pgc Ls i)) = mix g Ls (i + 1) := by
 unfold mix
 have hl : ((Ls.take i).map g).length = i := by simp; omega
 rw [List.set_append_right _ _ (by omega), hl, Nat.sub_self, List.drop_eq_getElem_cons hi, List.set_cons_zero, List.take_succ_eq_append_getElem hi, List.map_append, pgc_get hi]
 simp
theorem kv_setS {w : World} {v : Value} {l : List Nat} (h : Kv w v l) {p : Addr} {ao : Option Addr} {n c : Nat} (hp : w.cell? p = some (.slice ao n c)) (u' : Value) : Kv (w.setCell p u') v l := by
 obtain ⟨ao', cap, e, h1, h2, h3, h4⟩ := h
 refine ⟨ao', cap, e, h1, h2, h3, fun i hi => ?_⟩
 obtain ⟨b, off, e1, e2⟩ := h4 i hi
 refine ⟨b, off, e1, ?_⟩
 rw [World.cell?_setCell_other _ _ _ _ (by rintro rfl; rw [hp] at e2; cases e2)]
 exact e2
section

variable {w : World} {Q : Nat} {f : Nat → Value} {Ls : List (List Cl)}

theorem own_apart {D : Nat → Prop} {w w' : World} {base e size n : Nat} {v : Value} {xs : List Value} (h : w.ownsRow base e size v n xs) (hc : Ch D w w') (hd : ∀ x, v.ownBlock = some x → ¬ D x) : w'.ownsRow base e size v n xs := by
 refine ⟨h.1, ?_⟩
 rcases h.2 with h' | ⟨g, cap, cur, hv, hg, hh, r⟩
 ·exact .inl h'
 ·exact .inr ⟨g, cap, cur, hv, hg, by rw [hc.block g ((Array.getElem?_eq_some_iff.1 hh).1) (hd g (by rw [hv]; rfl))]; exact hh, r⟩
def RvR (w : World) (Q N : Nat) (f : Nat → Value) (Ls : List (List Cl)) (ks : List Nat) (mb ma : Int) (kv iv : Value) (wr : World) : Prop :=
 ∃ (i : Nat) (g : Nat → Value), iv = .int .i64 i ∧ i ≤ 6 ∧ SH wr Q g (mix (revL ks mb) Ls i) ∧ Fresh w f g ∧ MB wr N mb ma kv ∧ Kv wr kv ks ∧ Ch (fun x => x = Q) w wr
theorem srevert_walk (h : SH w Q f Ls) (hle : ∀ i, i < 6 → (pgc Ls i).length ≤ 16) {kv : Value} {ks : List Nat} (hk : Kv w kv ks) (mb ma : Int) (hmb : mb ≤ 9223372036854775807) :
  Calls Tryz.prog 70 #[.pointer (some ⟨Q, 0, none⟩), .agg #[.int .i64 mb, .int .i64 ma, kv]] w fun e w' => e = .returned (.tuple #[]) ∧ (∃ g, SH w' Q g (Ls.map (revL ks mb)) ∧ Fresh w f g) ∧ Ch (fun x => x = Q) w w' := by
 have HLE := hidH hle
 have HMB := hidH hmb
 have HLN : Hid (Ls.length = 6) := h.len
 have HQW : Hid (Q < w.heap.size) := h.lt
 have HB0 : Hid _ := below_alloc w (Obj.cells #[.int .i64 mb, .int .i64 ma, kv] 42)
 have H0 : Hid (RvR w Q w.heap.size f Ls ks mb ma kv (.int .i64 0) (w.alloc (Obj.cells #[.int .i64 mb, .int .i64 ma, kv] 42))) :=
  ⟨0, f, rfl, by omega, by rw [mix_zero]; exact h.below HB0.out, Fresh.refl _ _, mb_new w mb ma kv, hk.below HB0.out, Ch.of_below HB0.out⟩
 obtain ⟨ka, kn, kc, hkv⟩ := sv_any hk
 subst hkv
 clear h hle hk hmb HB0
 go_in
 go_upto_region 1 with fail
 obtain ⟨N, hN⟩ : ∃ N, N = w.heap.size := ⟨_, rfl⟩
 rw [← hN] at H0 ⊢
 have HN : Hid (N = w.heap.size) := hN
 clear hN
 generalize w.alloc (Obj.cells #[.int .i64 mb, .int .i64 ma, .slice ka kn kc] 42) = w0 at H0 ⊢
 go_wp2_with fail
 go_loopw [8] (fun iv wr => RvR w Q N f Ls ks mb ma (.slice ka kn kc) iv wr) (fun iv _ => 6 - (intOf iv).toNat)
 case atStart => exact H0.out
 case round =>
  clear H0
  obtain ⟨i, g, rfl, hi, hsh, hfr, hmbk, hkv, hch⟩ := hrel
  obtain ⟨wo, hwo⟩ : ∃ wo, wo = wr := ⟨_, rfl⟩
  rw [← hwo] at hsh hmbk hkv hch ⊢
  clear hwo
  have HSH := hidH hsh
  have HFR : Hid (Fresh w f g) := hfr
  have HM := hidH hmbk
  have HK := hidH hkv
  have HC : Hid (Ch (fun x => x = Q) w wo) := hch
  clear hsh hfr hmbk hkv hch
  by_cases hlt : i < 6
  rotate_left
  ·have hlti : ¬ (i : Int) < 6 := by omega
   obtain rfl : i = 6 := by omega
   have HF : Hid (SH wo Q g (Ls.map (revL ks mb))) := by have h := HSH.out; rw [mix_all HLN.out] at h; exact h
   go_wp2_with fail
   go_end0
   exact ⟨rfl, ⟨g, HF.out, HFR.out⟩, HC.out⟩
  ·have hlti : (i : Int) < 6 := by omega
   obtain ⟨l, hl⟩ : ∃ l, l = pgc Ls i := ⟨_, rfl⟩
   have HL : Hid (l = pgc Ls i) := hl
   have hcv := HSH.out.cv i hlt
   rw [mix_at (by rw [HLN.out]; exact hlt), ← hl] at hcv
   obtain ⟨pa, pc, hpv⟩ := hcv.form
   obtain ⟨pn, hpn⟩ : ∃ pn, pn = l.length := ⟨_, rfl⟩
   rw [← hpn] at hpv
   rw [hpv] at hcv
   have HCV := hidH hcv
   have HPN : Hid (pn = l.length) := hpn
   have m0 := HSH.out.c i hlt
   rw [hpv] at m0
   have H16 : Hid (pn ≤ 16) := by show _ ≤ _; rw [hpn, hl]; exact HLE.out i hlt
   have h16 : (pn : Int) ≤ 16 := by have := H16.out; omega
   have HGP : Hid (g i = .slice pa pn pc) := hpv
   have HQO : Hid (Q < wo.heap.size) := HSH.out.lt
   have HO0 : Hid ((wo.alloc (Obj.cells #[] 63)).ownsRow wo.heap.size 63 6 (.slice (some ⟨wo.heap.size, 0, none⟩) 0 0) 0 []) := World.ownsRow_made wo #[] 0 (Nat.le_refl _) (by simp [maxLen]) rfl
   have HBA : Hid (Below wo.heap.size wo (wo.alloc (Obj.cells #[] 63))) := below_alloc _ _
   have m1 : (wo.alloc (Obj.cells #[] 63)).cell? ⟨Q, i, none⟩ = some (.slice pa pn pc) := by rw [HBA.out.cell (p := ⟨Q, i, none⟩) HQO.out]; exact m0
   clear hl hcv hpv hpn m0
   go_upto_region 5 with fail
   generalize wo.alloc (Obj.cells #[] 63) = wa at HO0 HBA m1 ⊢
   obtain ⟨E0, hE0⟩ : ∃ E0, E0 = wo.heap.size := ⟨_, rfl⟩
   rw [← hE0] at HO0 ⊢
   have HE0 : Hid (E0 = wo.heap.size) := hE0
   clear hE0
   go_upto_block 2 with fail
   go_cut [5, 7] (fun lv _ wx => wx.ownsRow wo.heap.size 63 6 lv (revL ks mb l).length (flatC (revL ks mb l)) ∧ Below wo.heap.size wo wx)
   case first =>
    clear m1
    go_wp2_with fail
    go_loopw [5, 18] (fun lv jv wx => ∃ j : Nat, jv = .int .i64 j ∧ j ≤ pn ∧ wx.ownsRow wo.heap.size 63 6 lv (revL ks mb (l.take j)).length (flatC (revL ks mb (l.take j))) ∧ Below wo.heap.size wo wx) (fun _ jv _ => pn - (intOf jv).toNat)
    case atStart => exact ⟨0, rfl, by omega, by rw [← HE0.out]; simpa [revL, flatC] using HO0.out, HBA.out⟩
    case round =>
     obtain ⟨j, rfl, hj, hown, hbel⟩ := hrel
     have HO := hidH hown
     have HB := hidH hbel
     clear hown hbel
     by_cases hjl : j < pn
     rotate_left
     ·have hjli : ¬ (j : Int) < (pn : Int) := by omega
      have HE : Hid (revL ks mb (l.take j) = revL ks mb l) := by show _ = _; rw [List.take_of_length_le (by have := HPN.out; omega)]
      go_wp2_with fail
      go_meet
      exact ⟨by rw [← HE.out]; exact HO.out, HB.out⟩
     ·have hjli : (j : Int) < (pn : Int) := by omega
      have hjd : decide (j < pn) = true := decide_eq_true hjl
      have hjl2 : j < l.length := by have := HPN.out; omega
      rcases cv_cases (HCV.out.below HB.out) with ⟨h0, _⟩ | ⟨b1, o1, c1, e1, _, _, _, k1⟩
      ·rw [h0] at hjl2; simp at hjl2
      simp only [Value.slice.injEq] at e1
      have e11 := e1.1
      clear e1
      subst e11
      obtain ⟨x0, x1, x2, x3, x4, x5⟩ := k1 j hjl2
      obtain ⟨c, hc⟩ : ∃ c, c = l[j] := ⟨_, rfl⟩
      rw [← hc] at x0 x1 x2 x3 x4 x5
      have HC1 : Hid (c = l[j]) := hc
      clear k1 hc
      go_upto_region 8 with fail
      clear x0 x1 x2 x3 x4 x5
      have HB2 : Hid (Below wo.heap.size wo (wr.alloc (Obj.cells #[.int .u64 c.k, .bool c.p.h, .int .u64 c.p.b, .bool c.c.h, .int .u64 c.c.b, .int .i64 c.n] 63))) := below_trans HB.out (below_alloc _ _)
      have HCB : Hid _ := cb_new wr c
      have HO2 : Hid ((wr.alloc (Obj.cells #[.int .u64 c.k, .bool c.p.h, .int .u64 c.p.b, .bool c.c.h, .int .u64 c.c.b, .int .i64 c.n] 63)).ownsRow wo.heap.size 63 6 u5 (revL ks mb (l.take j)).length (flatC (revL ks mb (l.take j)))) := HO.out.alloc _
      have HPX : Hid (∀ x, u5.ownBlock = some x → x < wr.heap.size) := fun x hx => (HO.out.lt x hx).2
      obtain ⟨X, hX⟩ : ∃ X, X = wr.heap.size := ⟨_, rfl⟩
      rw [← hX] at HCB HPX ⊢
      have HXW : Hid (wo.heap.size ≤ X) := by show _ ≤ _; rw [hX]; exact HB.out.size
      clear hX
      generalize wr.alloc (Obj.cells #[.int .u64 c.k, .bool c.p.h, .int .u64 c.p.b, .bool c.c.h, .int .u64 c.c.b, .int .i64 c.n] 63) = w2 at HB2 HCB HO2 ⊢
      clear HB HO
      have HM2 := hidH (HM.out.keep HB2.out)
      have HK2 := hidH (HK.out.below HB2.out)
      have y0 := HM2.out.c0
      have y1 := HM2.out.c1
      have y2 := HM2.out.c2
      have c0 := HCB.out.c0
      obtain ⟨H, hH⟩ : ∃ H, H = decide (c.k ∈ ks) := ⟨_, rfl⟩
      go_wp2_with fail
      refine (has_walkM HK2.out mb ma c.k).mono ?_
      rw [← hH]
      rintro e w3 ⟨rfl, hB3⟩
      have HB3 := hidH (below_trans HB2.out hB3)
      have HCB3 : Hid (CB w3 X c) := HCB.out.keep hB3
      have HO3 : Hid (w3.ownsRow wo.heap.size 63 6 u5 (revL ks mb (l.take j)).length (flatC (revL ks mb (l.take j)))) := own_belowC HO2.out hB3
      have HHH : Hid (H = decide (c.k ∈ ks)) := hH
      clear hB3 hH HB2 HCB HO2 HM2 HK2 y0 y1 y2 c0
      cases H
      ·obtain ⟨D, hD⟩ : ∃ D, D = revP ks mb c := ⟨_, rfl⟩
       have hDc : D = c := by rw [hD]; unfold revP; rw [if_neg (of_decide_eq_false HHH.out.symm)]
       have HDD : Hid (D = revP ks mb c) := hD
       have HB4 : Hid (Below wo.heap.size wo w3) := HB3.out
       have HX4 : Hid (CB w3 X D) := by rw [hDc]; exact HCB3.out
       have HO4 : Hid (w3.ownsRow wo.heap.size 63 6 u5 (revL ks mb (l.take j)).length (flatC (revL ks mb (l.take j)))) := HO3.out
       clear hD hDc HB3 HCB3 HO3
       have c0 := HX4.out.c0
       have c1 := HX4.out.c1
       have c2 := HX4.out.c2
       have c3 := HX4.out.c3
       have c4 := HX4.out.c4
       have c5 := HX4.out.c5
       go_wp2_with fail
       refine (empty_walk D _).mono ?_
       obtain ⟨EM, hEM⟩ : ∃ EM, EM = empC D := ⟨_, rfl⟩
       rw [← hEM]
       rintro e w5 ⟨rfl, hB5⟩
       have HB5 := hidH (below_trans HB4.out hB5)
       have HX5 : Hid (CB w5 X D) := HX4.out.keep hB5
       have HO5 : Hid (w5.ownsRow wo.heap.size 63 6 u5 (revL ks mb (l.take j)).length (flatC (revL ks mb (l.take j)))) := own_belowC HO4.out hB5
       clear hB5 c0 c1 c2 c3 c4 c5 HB4 HX4 HO4
       cases EM
       rotate_left
       ·have HNX : Hid (revL ks mb (l.take (j + 1)) = revL ks mb (l.take j)) := revL_no hjl2 (by rw [← HC1.out, ← HDD.out]; exact hEM.symm)
        clear hEM
        go_wp2_with fail
        go_roundw
        case rel => exact ⟨j + 1, by go_num, hjl, by rw [HNX.out]; exact HO5.out, HB5.out⟩
        case measure => simp [intOf]; omega
       ·have HNX : Hid (revL ks mb (l.take (j + 1)) = revL ks mb (l.take j) ++ [D]) := by have h := revL_yes (ks := ks) (b := mb) hjl2 (by rw [← HC1.out, ← HDD.out]; exact hEM.symm); rw [← HC1.out, ← HDD.out] at h; exact h
        clear hEM
        have c0 := HX5.out.c0
        have c1 := HX5.out.c1
        have c2 := HX5.out.c2
        have c3 := HX5.out.c3
        have c4 := HX5.out.c4
        have c5 := HX5.out.c5
        have HLB : Hid ((revL ks mb (l.take j)).length + 1 ≤ 17) := by show _ ≤ _; have h1 := revL_len ks mb (l.take j); have h2 := H16.out; have h3 := HPN.out; rw [List.length_take] at h1; omega
        go_upto_region 12 with (at_builtin; refine wpList_append_cv (by rfl) (.tmp 33) (.tmp 35) (by rfl) wo.heap.size _ _ _ (by rfl) (HO5.out.alloc _) _ [D] (by rfl) (cv_one w5 D) (by have := HLB.out; simp only [maxLen, List.length_singleton]; omega) (by have := HLB.out; simp only [List.length_singleton]; omega) (by rw [size_allocC]; have := HB5.out.size; omega) ?_; intro v6 w6 hown hgrow)
        have HB6 : Hid (Below wo.heap.size wo w6) := (below_trans HB5.out (below_alloc _ _)).trans (grown_belowC (HO5.out.alloc _) hgrow (by rw [size_allocC]; have := HB5.out.size; omega))
        have HO6 : Hid (w6.ownsRow wo.heap.size 63 6 v6 (revL ks mb (l.take (j + 1))).length (flatC (revL ks mb (l.take (j + 1))))) := by show World.ownsRow _ _ _ _ _ _ _; rw [HNX.out, List.length_append, flatC_append]; exact hown
        clear hown hgrow c0 c1 c2 c3 c4 c5
        go_wp2_with fail
        go_roundw
        case rel => exact ⟨j + 1, by go_num, hjl, HO6.out, HB6.out⟩
        case measure => simp [intOf]; omega
      ·obtain ⟨D, hD⟩ : ∃ D, D = revP ks mb c := ⟨_, rfl⟩
       have hDc : revC c mb = D := by rw [hD]; unfold revP; rw [if_pos (of_decide_eq_true HHH.out.symm)]
       have HDD : Hid (D = revP ks mb c) := hD
       obtain ⟨c0, c1, c2, c3, c4, c5, zz⟩ := HCB3.out
       have y0 := (HM.out.keep HB3.out).c0
       clear hD zz
       go_wp2_with fail
       refine (revert_walk c HMB.out _).mono ?_
       rw [hDc]
       rintro e w4 ⟨rfl, hB4⟩
       have HB4' := hidH (below_trans HB3.out hB4)
       have HCB4 : Hid (CB w4 X c) := HCB3.out.keep hB4
       have HO4' : Hid (w4.ownsRow wo.heap.size 63 6 u5 (revL ks mb (l.take j)).length (flatC (revL ks mb (l.take j)))) := own_belowC HO3.out hB4
       clear c0 c1 c2 c3 c4 c5 y0 hB4 hDc HB3 HCB3 HO3
       obtain ⟨c0, c1, c2, c3, c4, c5, zz⟩ := HCB4.out
       have z0 := zz 0
       have z1 := zz 1
       have z2 := zz 2
       have z3 := zz 3
       have z4 := zz 4
       have z5 := zz 5
       clear zz
       have HX4 : Hid (CB _ X D) := HCB4.out.set D
       have HB4 : Hid _ := below_six HB4'.out HXW.out (.int .u64 D.k) (.bool D.p.h) (.int .u64 D.p.b) (.bool D.c.h) (.int .u64 D.c.b) (.int .i64 D.n)
       have HO4 : Hid (((((((w4.setCell ⟨X, 0, none⟩ (.int .u64 D.k)).setCell ⟨X, 1, none⟩ (.bool D.p.h)).setCell ⟨X, 2, none⟩ (.int .u64 D.p.b)).setCell ⟨X, 3, none⟩ (.bool D.c.h)).setCell ⟨X, 4, none⟩ (.int .u64 D.c.b)).setCell ⟨X, 5, none⟩ (.int .i64 D.n)).ownsRow wo.heap.size 63 6 u5 (revL ks mb (l.take j)).length (flatC (revL ks mb (l.take j)))) := own_apart HO4'.out (ch_six (D := fun x => x = X) (Ch.refl _ w4) (.inl rfl) _ _ _ _ _ _) (fun x hx e => by have := HPX.out x hx; omega)
       go_upto_region 10 with fail
       clear c0 c1 c2 c3 c4 c5 z0 z1 z2 z3 z4 z5 HB4' HCB4 HO4'
       generalize ((((((w4.setCell ⟨X, 0, none⟩ (.int .u64 D.k)).setCell ⟨X, 1, none⟩ (.bool D.p.h)).setCell ⟨X, 2, none⟩ (.int .u64 D.p.b)).setCell ⟨X, 3, none⟩ (.bool D.c.h)).setCell ⟨X, 4, none⟩ (.int .u64 D.c.b)).setCell ⟨X, 5, none⟩ (.int .i64 D.n)) = w7 at HX4 HB4 HO4 ⊢
       have c0 := HX4.out.c0
       have c1 := HX4.out.c1
       have c2 := HX4.out.c2
       have c3 := HX4.out.c3
       have c4 := HX4.out.c4
       have c5 := HX4.out.c5
       go_wp2_with fail
       refine (empty_walk D _).mono ?_
       obtain ⟨EM, hEM⟩ : ∃ EM, EM = empC D := ⟨_, rfl⟩
       rw [← hEM]
       rintro e w5 ⟨rfl, hB5⟩
       have HB5 := hidH (below_trans HB4.out hB5)
       have HX5 : Hid (CB w5 X D) := HX4.out.keep hB5
       have HO5 : Hid (w5.ownsRow wo.heap.size 63 6 u5 (revL ks mb (l.take j)).length (flatC (revL ks mb (l.take j)))) := own_belowC HO4.out hB5
       clear hB5 c0 c1 c2 c3 c4 c5 HB4 HX4 HO4
       cases EM
       rotate_left
       ·have HNX : Hid (revL ks mb (l.take (j + 1)) = revL ks mb (l.take j)) := revL_no hjl2 (by rw [← HC1.out, ← HDD.out]; exact hEM.symm)
        clear hEM
        go_wp2_with fail
        go_roundw
        case rel => exact ⟨j + 1, by go_num, hjl, by rw [HNX.out]; exact HO5.out, HB5.out⟩
        case measure => simp [intOf]; omega
       ·have HNX : Hid (revL ks mb (l.take (j + 1)) = revL ks mb (l.take j) ++ [D]) := by have h := revL_yes (ks := ks) (b := mb) hjl2 (by rw [← HC1.out, ← HDD.out]; exact hEM.symm); rw [← HC1.out, ← HDD.out] at h; exact h
        clear hEM
        have c0 := HX5.out.c0
        have c1 := HX5.out.c1
        have c2 := HX5.out.c2
        have c3 := HX5.out.c3
        have c4 := HX5.out.c4
        have c5 := HX5.out.c5
        have HLB : Hid ((revL ks mb (l.take j)).length + 1 ≤ 17) := by show _ ≤ _; have h1 := revL_len ks mb (l.take j); have h2 := H16.out; have h3 := HPN.out; rw [List.length_take] at h1; omega
        go_upto_region 12 with (at_builtin; refine wpList_append_cv (by rfl) (.tmp 33) (.tmp 35) (by rfl) wo.heap.size _ _ _ (by rfl) (HO5.out.alloc _) _ [D] (by rfl) (cv_one w5 D) (by have := HLB.out; simp only [maxLen, List.length_singleton]; omega) (by have := HLB.out; simp only [List.length_singleton]; omega) (by rw [size_allocC]; have := HB5.out.size; omega) ?_; intro v6 w6 hown hgrow)
        have HB6 : Hid (Below wo.heap.size wo w6) := (below_trans HB5.out (below_alloc _ _)).trans (grown_belowC (HO5.out.alloc _) hgrow (by rw [size_allocC]; have := HB5.out.size; omega))
        have HO6 : Hid (w6.ownsRow wo.heap.size 63 6 v6 (revL ks mb (l.take (j + 1))).length (flatC (revL ks mb (l.take (j + 1))))) := by show World.ownsRow _ _ _ _ _ _ _; rw [HNX.out, List.length_append, flatC_append]; exact hown
        clear hown hgrow c0 c1 c2 c3 c4 c5
        go_wp2_with fail
        go_roundw
        case rel => exact ⟨j + 1, by go_num, hjl, HO6.out, HB6.out⟩
        case measure => simp [intOf]; omega
   case rest =>
    obtain ⟨hown, hbel⟩ := hcut
    have HV5 : Hid (Cv wc u5 (revL ks mb l)) := (own_cv hown).1
    have HP5 : Hid (∀ x, u5.ownBlock = some x → wo.heap.size ≤ x) := fun x hx => (hown.lt x hx).1
    have HB5 := hidH hbel
    have HS5 := hidH (HSH.out.below hbel)
    obtain ⟨va, vn, vc, hvv⟩ : ∃ x y z, u5 = .slice x y z := by obtain ⟨x, y, z⟩ := HV5.out.form; exact ⟨x, _, y, z⟩
    subst hvv
    have q0 := HS5.out.c i hlt
    rw [HGP.out] at q0
    have q1 := HS5.out.z i
    have HREL : Hid (RvR w Q N f Ls ks mb ma (.slice ka kn kc) (.int .i64 ((i : Int) + 1)) (wc.setCell ⟨Q, i, none⟩ (.slice va vn vc))) := by
     refine ⟨i + 1, upd g i (.slice va vn vc), rfl, hlt, ?_, ?_, ?_, ?_, ?_⟩
     ·have h := HS5.out.set hlt HV5.out
      rw [HL.out, mix_set (by rw [HLN.out]; exact hlt)] at h
      exact h
     ·intro j hj x hx
      unfold upd at hx
      by_cases q : i = j
      ·rw [if_pos q] at hx; have h1 := HP5.out x hx; have h2 := HC.out.size; right; omega
      ·rw [if_neg q] at hx; exact HFR.out j hj x hx
     ·exact (HM.out.keep HB5.out).ch (ch_set wc Q i _) (by have h1 := HQW.out; have h2 := HN.out; omega)
     ·exact kv_setS (HK.out.below HB5.out) q0 _
     ·exact (HC.out.self (Ch.of_below HB5.out)).self (ch_set wc Q i _)
    clear hown hbel m1
    go_wp2_with fail
    go_roundw
    case rel => exact HREL.out
    case measure => simp [intOf]; omega
end
end
section
theorem enc_cons {o : Option Nat} {c : Cl} {r : List Cl} (h : encE o (c :: r) = 0) : folB o c.k = true ∧ writB c = true ∧ encE (some c.k) r = 0 := by
 simp only [encE] at h
 split at h
 ·omega
 ·rename_i h1
  split at h
  ·omega
  ·rename_i h2
   exact ⟨by simpa using h1, by simpa using h2, h⟩
theorem dec_of {cs : List Cl} : ∀ {o : Option Nat} {r : List Nat}, encE o cs = 0 → (∀ c ∈ cs, c.okB) → decS cs.length o (allB cs ++ r) = (0, cs, r) := by
 induction cs with
 | nil => intro o r _ _; rfl
 | cons c t ih =>
  intro o r h hok
  obtain ⟨h1, h2, h3⟩ := enc_cons h
  have e : allB (c :: t) ++ r = cellBB c ++ (allB t ++ r) := by simp [allB]
  rw [e]
  simp only [List.length_cons, decS, oneC_of (hok c (by simp)) h2 h1, ih h3 (fun d hd => hok d (by simp [hd]))]
  simp
theorem dec_back {n : Nat} : ∀ {o : Option Nat} {l r : List Nat} {cs : List Cl}, (∀ c ∈ l, c < 256) → decS n o l = (0, cs, r) → l = allB cs ++ r ∧ encE o cs = 0 ∧ cs.length = n ∧ ∀ c ∈ cs, c.okB := by
 induction n with
 | zero =>
  intro o l r cs _ h
  simp only [decS, Prod.mk.injEq, true_and] at h
  obtain ⟨rfl, rfl⟩ := h
  exact ⟨rfl, rfl, rfl, by simp⟩
 | succ n ih =>
  intro o l r cs hl h
  obtain ⟨e, c, m, ho⟩ : ∃ a b c, oneC o l = (a, b, c) := ⟨_, _, _, rfl⟩
  simp only [decS, ho] at h
  split at h
  ·simp at h; omega
  ·rename_i q
   have q : e = 0 := by omega
   subst q
   obtain ⟨h1, h2, h3, h4⟩ := oneC_back hl ho
   have hm : ∀ x ∈ m, x < 256 := fun x hx => hl x (by rw [h1]; simp [hx])
   obtain ⟨e2, c2, m2, hd⟩ : ∃ a1 a2 a3, decS n (some c.k) m = (a1, a2, a3) := ⟨_, _, _, rfl⟩
   rw [hd] at h
   split at h
   ·simp at h; omega
   ·rename_i q2
    have q2 : e2 = 0 := by simp only at q2; omega
    subst q2
    simp only [Prod.mk.injEq, true_and] at h
    obtain ⟨rfl, rfl⟩ := h
    obtain ⟨i1, i2, i3, i4⟩ := ih hm hd
    refine ⟨by rw [h1, i1]; simp [allB], ?_, by simp [i3], fun d hd => ?_⟩
    ·simp [encE, h2, h3, i2]
    ·simp at hd
     rcases hd with rfl | hd
     ·exact h4
     ·exact i4 d hd
theorem encode_zero {l : List Cl} (h : (encode l).2 = 0) : (l = [] ∧ encode l = ([], 0)) ∨ (0 < l.length ∧ l.length ≤ 16 ∧ encE none l = 0 ∧ encode l = (Wm.enc l.length ++ allB l, 0)) := by
 unfold encode at h ⊢
 split at h
 ·simp at h
 ·rename_i h1
  split at h
  ·rename_i h2
   have : l = [] := List.eq_nil_of_length_eq_zero h2
   subst this
   exact .inl ⟨rfl, rfl⟩
  ·rename_i h2
   split at h
   ·rename_i h3
    rw [if_neg h1, if_neg h2, if_pos h3]
    exact .inr ⟨by omega, by omega, h3, rfl⟩
   ·rename_i h3; exact absurd h h3
theorem form_len {l : List Cl} (h : (encode l).2 = 0) : (encode l).1.length ≤ 1024 ∧ ((encode l).1.length = 0 ↔ l.length = 0) := by
 rcases encode_zero h with ⟨rfl, e⟩ | ⟨h1, h2, _, e⟩
 ·rw [e]; simp
 ·rw [e]
  have a := Wm.enc_len l.length
  have b := allB_len l
  simp only [List.length_append]
  omega
theorem form_bytes {l : List Cl} (h : (encode l).2 = 0) (hok : ∀ c ∈ l, c.okB) : ∀ x ∈ (encode l).1, x < 256 := by
 rcases encode_zero h with ⟨rfl, e⟩ | ⟨h1, h2, h3, e⟩
 ·rw [e]; simp
 ·rw [e]
  intro x hx
  simp only [List.mem_append] at hx
  rcases hx with hx | hx
  ·exact Wm.enc_lt _ (by omega) x hx
  ·have : ∀ (cs : List Cl) (o : Option Nat), encE o cs = 0 → (∀ c ∈ cs, c.okB) → ∀ x ∈ allB cs, x < 256 := by
    intro cs
    induction cs with
    | nil => intro o _ _ x hx; simp [allB] at hx
    | cons c t ih =>
     intro o he hk x hx
     obtain ⟨_, q2, q3⟩ := enc_cons he
     simp only [allB, List.mem_append] at hx
     rcases hx with hx | hx
     ·exact cellB_lt (hk c (by simp)) q2 x hx
     ·exact ih _ q3 (fun d hd => hk d (by simp [hd])) x hx
   exact this l none h3 hok x hx
theorem form_there {l : List Cl} (h : (encode l).2 = 0) (hok : ∀ c ∈ l, c.okB) : decode (encode l).1 = (l, 0) := by
 rcases encode_zero h with ⟨rfl, e⟩ | ⟨h1, h2, h3, e⟩
 ·rw [e]; rfl
 ·rw [e]
  have ht := Wm.take_enc l.length (allB l) (by omega)
  rw [decode_go ht (by have := Wm.enc_len l.length; simp only [List.length_append]; omega) (by omega) h2]
  rw [List.drop_append_of_le_length (Nat.le_refl _), List.drop_length, List.nil_append]
  have hd := dec_of (r := []) h3 hok
  rw [List.append_nil] at hd
  simp [decT, hd]
theorem form_back {b : List Nat} (hb : ∀ c ∈ b, c < 256) (h : (decode b).2 = 0) : encode (decode b).1 = (b, 0) ∧ ∀ c ∈ (decode b).1, c.okB := by
 by_cases h0 : b.length = 0
 ·have : b = [] := List.eq_nil_of_length_eq_zero h0
  subst this
  exact ⟨rfl, by simp [decode]⟩
 ·rcases Wm.take_form b hb with ⟨e, ht, h34⟩ | ⟨x, n, ht, hx, hn1, hn2, hn3⟩
  ·rw [decode_err ht h0 (by omega)] at h; simp at h; omega
  ·by_cases hx0 : x = 0
   ·subst hx0; rw [decode_none ht h0] at h; simp at h
   ·by_cases h16 : 16 < x
    ·rw [decode_far ht h0 h16] at h; simp at h
    ·have hg := decode_go ht h0 hx0 (by omega)
     rw [hg] at h ⊢
     by_cases q1 : (decS x none (b.drop n)).1 = 0
     ·by_cases q2 : (decS x none (b.drop n)).2.2.length = 0
      ·rw [decT_ok q1 q2]
       obtain ⟨e, cs, r, hd⟩ : ∃ a b' c, decS x none (b.drop n) = (a, b', c) := ⟨_, _, _, rfl⟩
       rw [hd] at q1 q2 ⊢
       simp only at q1 q2 ⊢
       subst q1
       have hr : r = [] := List.eq_nil_of_length_eq_zero q2
       subst hr
       obtain ⟨i1, i2, i3, i4⟩ := dec_back (fun c hc => hb c (List.mem_of_mem_drop hc)) hd
       refine ⟨?_, i4⟩
       rw [encode_ok (by omega) (by omega) i2, pre_all, i3]
       rw [List.append_nil] at i1
       rw [← i1, hn3, List.take_append_drop]
      ·rw [decT_tail q1 q2] at h; simp at h
     ·rw [decT_fault rfl q1] at h; exact absurd h q1
end
end Go.Proofs.YtofkhgokfdpdiabGreat
