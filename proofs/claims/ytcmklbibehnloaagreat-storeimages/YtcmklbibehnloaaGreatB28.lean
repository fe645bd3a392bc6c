/- Sound: the program's. -/
import Derived.Test.YtcmklbibehnloaaGreatB25
import Derived.Shelf.SlSortCmp.WholeK
import Derived.Shelf.SlSortCmp.NoneTotal
import Derived.Test.YtcmklbibehnloaaGreatProg
set_option maxRecDepth 100000
set_option maxHeartbeats 16000000
namespace Go.Proofs.YtcmklbibehnloaaGreat
open Go.RowKit
section
section

variable {A : Nat → Prop} {w w' : World} {sv dv : Value} {k : Int} {P : Bo} {S : Dk} {sp : Nat}

theorem ST.ptr (h : ST A w sv dv k P S) : ∃ sp, sv = .pointer (some ⟨sp, 0, none⟩) ∧ sp < w.heap.size ∧ ¬ A sp := by
 obtain ⟨sp, bv, e, h1, h2, _⟩ := h;exact ⟨sp, e, (Array.getElem?_eq_some_iff.1 h1).1, h2⟩
theorem cells_shut (h : ST A w sv dv k P S) (hs : shutB P S = true) (hrd : S.rd < 4611686018427387904) : Calls Tryz.prog 45 #[sv] w (ShGot A w sv dv k P S) := by
 have HS : Hid (shutB P S = true) := hs;have HRD := hidH hrd;obtain ⟨sp, hsp, hsl, _⟩ := h.ptr;have HSP : Hid (sp < w.heap.size) := hsl;have HAL : Hid (∀ x, A x → x < w.heap.size) := fun x hx => h.lt hx;subst hsp;have R1 := sh_new w;have HB : Hid (Below w.heap.size w ((w.alloc (Obj.cells #[.slice none 0 0, .slice none 0 0, .slice none 0 0, .slice none 0 0, .slice none 0 0, .slice none 0 0] 87)).alloc (Obj.cells #[.slice none 0 0, .slice none 0 0, .slice none 0 0, .slice none 0 0, .slice none 0 0, .slice none 0 0] 87))) := below_trans (below_alloc _ _) (below_alloc _ _);have HR0 : Hid _ := R1.below (below_alloc _ (Obj.cells #[.slice none 0 0, .slice none 0 0, .slice none 0 0, .slice none 0 0, .slice none 0 0, .slice none 0 0] 87));have HT0 : Hid _ := h.below HB.out;clear h hs hrd R1 hsl;go_in;go_upto_region 2 with fail
 obtain ⟨R, hR⟩ : ∃ R, R = w.heap.size := ⟨_, rfl⟩;rw [← hR] at HR0 ⊢;have HR : Hid (R = w.heap.size) := hR;clear hR;generalize (w.alloc (Obj.cells #[.slice none 0 0, .slice none 0 0, .slice none 0 0, .slice none 0 0, .slice none 0 0, .slice none 0 0] 87)).alloc (Obj.cells #[.slice none 0 0, .slice none 0 0, .slice none 0 0, .slice none 0 0, .slice none 0 0, .slice none 0 0] 87) = w0 at HR0 HT0 HB ⊢;have HNA : Hid (¬ A R) := fun e => by have h1 := HAL.out _ e; have h2 := HR.out; omega
 go_wp2_with fail;refine wp_loop_rounds 1 ?_;rw [rounds_succ];go_wp2_with fail;refine (page_walk HT0.out 1 (by have h2 := HRD.out; omega)).mono ?_;unfold PgGot;rw [getI_shut HS.out];rintro e w2 ⟨r, rfl, ho, hst2, hc2⟩;have HT2 := hidH hst2;have HC2 : Hid (Ch A w w2) := (Ch.of_below HB.out).self hc2;have HSR3 : Hid (SH w2 R nilS (List.replicate 6 [])) := HR0.out.chA hc2 HNA.out (fun j hj x hx e => (by cases hx));have HFIN : Hid (Ch A w ((((((w2.setCell ⟨R, 0, none⟩ (.slice none 0 0)).setCell ⟨R, 1, none⟩ (.slice none 0 0)).setCell ⟨R, 2, none⟩ (.slice none 0 0)).setCell ⟨R, 3, none⟩ (.slice none 0 0)).setCell ⟨R, 4, none⟩ (.slice none 0 0)).setCell ⟨R, 5, none⟩ (.slice none 0 0))) := ch_six HC2.out (.inr (by rw [HR.out]; exact Nat.le_refl _)) _ _ _ _ _ _;have HTF : Hid _ := HT2.out.six HNA.out (by have h1 := HSP.out; have h2 := HR.out; omega) (.slice none 0 0) (.slice none 0 0) (.slice none 0 0) (.slice none 0 0) (.slice none 0 0) (.slice none 0 0);have r0 := HSR3.out.c 0 (by omega);have r1 := HSR3.out.c 1 (by omega);have r2 := HSR3.out.c 2 (by omega);have r3 := HSR3.out.c 3 (by omega);have r4 := HSR3.out.c 4 (by omega);have r5 := HSR3.out.c 5 (by omega);have z0 := HSR3.out.z 0;have z1 := HSR3.out.z 1;have z2 := HSR3.out.z 2;have z3 := HSR3.out.z 3;have z4 := HSR3.out.z 4;have z5 := HSR3.out.z 5;unfold nilS at r0 r1 r2 r3 r4 r5;clear ho hst2 hc2;go_wp2_with fail
 (try simp only [Exit.inBlock, Exit.then])
 refine bodyPost_ret (v := .tuple #[.agg #[.slice none 0 0, .slice none 0 0, .slice none 0 0, .slice none 0 0, .slice none 0 0, .slice none 0 0], .int .i64 80]) (by rw [results_cell_tmp rfl]; go_simp) rfl ?_;exact ⟨80, nilS, _, rfl, fun j _ => ⟨_, _, _, rfl⟩, fun j _ x hx => (by cases hx), .inl ⟨rfl, HS.out⟩, HTF.out, getS_rdd.mono (by omega), HFIN.out⟩
theorem cells_walk (h : ST A w sv dv k P S) (hrd : S.rd < 4611686018427387904) : Calls Tryz.prog 45 #[sv] w (ShGot A w sv dv k P S) := by
 cases hs : shutB P S
 ·exact cells_open h hs hrd
 ·exact cells_shut h hs hrd
theorem cells_nil (w : World) : Calls Tryz.prog 45 #[.pointer none] w fun e w' => e = .returned (.tuple #[.agg #[.slice none 0 0, .slice none 0 0, .slice none 0 0, .slice none 0 0, .slice none 0 0, .slice none 0 0], .int .i64 2]) ∧ Below w.heap.size w w' := by
 have HB : Hid (Below w.heap.size w ((w.alloc (Obj.cells #[.slice none 0 0, .slice none 0 0, .slice none 0 0, .slice none 0 0, .slice none 0 0, .slice none 0 0] 87)).alloc (Obj.cells #[.slice none 0 0, .slice none 0 0, .slice none 0 0, .slice none 0 0, .slice none 0 0, .slice none 0 0] 87))) := below_trans (below_alloc _ _) (below_alloc _ _);have HR0 : Hid _ := (sh_new w).below (below_alloc _ (Obj.cells #[.slice none 0 0, .slice none 0 0, .slice none 0 0, .slice none 0 0, .slice none 0 0, .slice none 0 0] 87));go_in;go_upto_region 2 with fail
 obtain ⟨R, hR⟩ : ∃ R, R = w.heap.size := ⟨_, rfl⟩;rw [← hR] at HR0 ⊢;have HR : Hid (R = w.heap.size) := hR;clear hR;generalize (w.alloc (Obj.cells #[.slice none 0 0, .slice none 0 0, .slice none 0 0, .slice none 0 0, .slice none 0 0, .slice none 0 0] 87)).alloc (Obj.cells #[.slice none 0 0, .slice none 0 0, .slice none 0 0, .slice none 0 0, .slice none 0 0, .slice none 0 0] 87) = w0 at HR0 HB ⊢;go_wp2_with fail;refine wp_loop_rounds 1 ?_;rw [rounds_succ];go_wp2_with fail;refine (page_nil 1 _).mono ?_;rintro e w2 ⟨rfl, hw2⟩;replace hw2 := hw2.symm;subst hw2;have r0 := HR0.out.c 0 (by omega);have r1 := HR0.out.c 1 (by omega);have r2 := HR0.out.c 2 (by omega);have r3 := HR0.out.c 3 (by omega);have r4 := HR0.out.c 4 (by omega);have r5 := HR0.out.c 5 (by omega);have z0 := HR0.out.z 0;have z1 := HR0.out.z 1;have z2 := HR0.out.z 2;have z3 := HR0.out.z 3;have z4 := HR0.out.z 4;have z5 := HR0.out.z 5;unfold nilS at r0 r1 r2 r3 r4 r5;go_wp2_with fail
 (try simp only [Exit.inBlock, Exit.then])
 refine bodyPost_ret (v := .tuple #[.agg #[.slice none 0 0, .slice none 0 0, .slice none 0 0, .slice none 0 0, .slice none 0 0, .slice none 0 0], .int .i64 2]) (by rw [results_cell_tmp rfl]; go_simp) rfl ?_;exact ⟨rfl, below_six HB.out (by rw [HR.out]; exact Nat.le_refl _) _ _ _ _ _ _⟩
def MkGot (A : Nat → Prop) (w : World) (sv dv : Value) (k : Int) (P : Bo) (S : Dk) (e : Ending) (w' : World) : Prop :=
 ∃ (c : Nat) (m : Mk) (v : Value) (S' : Dk), e = .returned (.tuple #[.agg #[.int .i64 m.b, .int .i64 m.a, v], .int .i64 c]) ∧ w'.ownsRow w.heap.size 37 1 v m.k.length ((ib m.k).map (Value.int .u64)) ∧
  ((c = 80 ∧ shutB P S = true ∧ m = zeroM) ∨ (c = 133 ∧ shutB P S = false ∧ (decM (getL P S 0)).2 ≠ 0 ∧ m = zeroM) ∨ (c = 0 ∧ shutB P S = false ∧ decM (getL P S 0) = (m, 0))) ∧ ST A w' sv dv k (getB P S) S' ∧ Rdd 1 S S' ∧ Ch A w w'
theorem ch_three {D : Nat → Prop} {w0 w1 : World} {g : Nat} (h : Ch D w0 w1) (hg : D g ∨ w0.heap.size ≤ g) (a b c : Value) : Ch D w0 (((w1.setCell ⟨g, 0, none⟩ a).setCell ⟨g, 1, none⟩ b).setCell ⟨g, 2, none⟩ c) := by
 have s : ∀ {x : World} (i : Nat) (u : Value), Ch D w0 x → Ch D w0 (x.setCell ⟨g, i, none⟩ u) := fun i u hx => hx.trans (ch_set _ g i u) (fun y hy => by subst hy; exact hg);exact s _ _ (s _ _ (s _ _ h))
theorem ST.three (h : ST A w (.pointer (some ⟨sp, 0, none⟩)) dv k P S) {g : Nat} (hg : ¬ A g) (hp : sp ≠ g) (a b c : Value) : ST A (((w.setCell ⟨g, 0, none⟩ a).setCell ⟨g, 1, none⟩ b).setCell ⟨g, 2, none⟩ c) (.pointer (some ⟨sp, 0, none⟩)) dv k P S := by
 have s : ∀ {x : World} (i : Nat) (u : Value), ST A x (.pointer (some ⟨sp, 0, none⟩)) dv k P S → ST A (x.setCell ⟨g, i, none⟩ u) (.pointer (some ⟨sp, 0, none⟩)) dv k P S := fun i u hx => hx.setB (fun y _ hA e => by subst e; exact hg hA) (fun s e => by cases e; exact hp);exact s _ _ (s _ _ (s _ _ h))
theorem smark_walk (h : ST A w sv dv k P S) (hrd : S.rd < 4611686018427387904) : Calls Tryz.prog 33 #[sv] w (MkGot A w sv dv k P S) := by
 have HRD := hidH hrd;have HOK : Hid (P.ok S.bl.length ∧ P.tab.length = 7) := h.ok;obtain ⟨sp, hsp, hsl, _⟩ := h.ptr;have HSP : Hid (sp < w.heap.size) := hsl;have HAL : Hid (∀ x, A x → x < w.heap.size) := fun x hx => h.lt hx;subst hsp;have HB : Hid (Below w.heap.size w (w.alloc (Obj.cells #[.int .i64 0, .int .i64 0, .slice none 0 0] 65))) := below_alloc _ _;have HR0 : Hid _ := mb_new w 0 0 (.slice none 0 0);have HT0 : Hid _ := h.below HB.out;clear h hrd hsl;go_in;go_upto_region 1 with fail
 obtain ⟨R, hR⟩ : ∃ R, R = w.heap.size := ⟨_, rfl⟩;rw [← hR] at HR0 ⊢;have HR : Hid (R = w.heap.size) := hR;clear hR;generalize w.alloc (Obj.cells #[.int .i64 0, .int .i64 0, .slice none 0 0] 65) = w0 at HR0 HT0 HB ⊢;have HNA : Hid (¬ A R) := fun e => by have h1 := HAL.out _ e; have h2 := HR.out; omega
 go_wp2_with fail;refine (page_walk HT0.out 0 (by have h2 := HRD.out; omega)).mono ?_
 cases hs : shutB P S
 rotate_left
 ·have HS : Hid (shutB P S = true) := hs;unfold PgGot;rw [getI_shut hs];rintro e w2 ⟨r, rfl, ho, hst2, hc2⟩;have HC2 : Hid (Ch A w w2) := (Ch.of_below HB.out).self hc2;have HR2 : Hid _ := HR0.out.ch hc2 HNA.out;have HFIN : Hid _ := ch_three HC2.out (.inr (by rw [HR.out]; exact Nat.le_refl _)) (g := R) (.int .i64 0) (.int .i64 0) (.slice none 0 0);have HTF : Hid _ := hst2.three HNA.out (by have h1 := HSP.out; have h2 := HR.out; omega) (.int .i64 0) (.int .i64 0) (.slice none 0 0);have r0 := HR2.out.c0;have r1 := HR2.out.c1;have r2 := HR2.out.c2;have z0 := HR2.out.z 0;have z1 := HR2.out.z 1;have z2 := HR2.out.z 2;clear ho hst2 hc2 hs;go_wp2_with fail
  (try simp only [Exit.inBlock, Exit.then])
  refine bodyPost_ret (v := .tuple #[.agg #[.int .i64 0, .int .i64 0, .slice none 0 0], .int .i64 80]) (by rw [results_cell_tmp rfl]; go_simp) rfl ?_;exact ⟨80, zeroM, _, _, rfl, ⟨rfl, .inl ⟨rfl, rfl⟩⟩, .inl ⟨rfl, HS.out, rfl⟩, HTF.out, getS_rdd, HFIN.out⟩
 ·have HS : Hid (shutB P S = false) := hs;unfold PgGot;rw [getI_ok hs HOK.out.2 HOK.out.1 (by omega) (by omega), getB_ok hs];rintro e w2 ⟨r, rfl, ho, hst2, hc2⟩;have hL := (getL_lt hst2 0).2;rw [rdd_getL getS_rdd] at hL;have HV2 : Hid (Bv w2 r (getL P S 0)) := own_bv ho hL;obtain ⟨⟨⟨B, M, K⟩, E⟩, hD⟩ : ∃ D, decM (getL P S 0) = D := ⟨_, rfl⟩;have HD : Hid (decM (getL P S 0) = (⟨B, M, K⟩, E)) := hD;have HT2 := hidH hst2;have HC2 : Hid (Ch A w w2) := (Ch.of_below HB.out).self hc2;have HR2 : Hid _ := HR0.out.ch hc2 HNA.out;clear ho hst2 hc2 hL hD hs;go_wp2_with fail;refine (mdec_walk HV2.out).mono ?_;unfold DGot;rw [HD.out];rintro e w3 ⟨v3, rfl, ho3, hB3⟩;have HT3 := hidH (HT2.out.below hB3);have HC3 : Hid (Ch A w w3) := HC2.out.self (Ch.of_below hB3);have HR3 : Hid _ := HR2.out.keep hB3;have HO3 : Hid (w3.ownsRow w.heap.size 37 1 v3 K.length ((ib K).map (Value.int .u64))) := own_baseC ho3 HC2.out.size;have HRL : Hid (R < w2.heap.size) := cell_lt HR2.out.c0;have HOR : Hid (w3.ownsRow (R + 1) 37 1 v3 K.length ((ib K).map (Value.int .u64))) := own_baseC ho3 HRL.out;obtain ⟨va, vn, vc, hvv⟩ : ∃ x y z, v3 = .slice x y z := by obtain ⟨x, z, e⟩ := own_form8 ho3; exact ⟨x, _, z, e⟩
  subst hvv;clear ho3 hB3 HT2 HC2 HR2 HV2;go_upto_region 5 with fail
  have HT4 : Hid (ST A (w3.alloc (Obj.cells #[.int .i64 B, .int .i64 M, .slice va vn vc] 65)) (.pointer (some ⟨sp, 0, none⟩)) dv k P (getS P S 0)) := HT3.out.below (below_alloc w3 (Obj.cells #[.int .i64 B, .int .i64 M, .slice va vn vc] 65));have HC4 : Hid _ := HC3.out.self (Ch.of_below (below_alloc w3 (Obj.cells #[.int .i64 B, .int .i64 M, .slice va vn vc] 65)));have HR4 : Hid _ := HR3.out.keep (below_alloc w3 (Obj.cells #[.int .i64 B, .int .i64 M, .slice va vn vc] 65));have HO4 : Hid _ := own_belowC HOR.out (below_alloc w3 (Obj.cells #[.int .i64 B, .int .i64 M, .slice va vn vc] 65));have HM4 : Hid _ := mb_new w3 B M (.slice va vn vc);generalize w3.heap.size = X at HM4 ⊢;generalize w3.alloc (Obj.cells #[.int .i64 B, .int .i64 M, .slice va vn vc] 65) = w4 at HT4 HC4 HR4 HO4 HM4 ⊢;have r0 := HR4.out.c0;have r1 := HR4.out.c1;have r2 := HR4.out.c2;have z0 := HR4.out.z 0;have z1 := HR4.out.z 1;have z2 := HR4.out.z 2;clear HT3 HC3 HR3 HO3 HOR HRL;by_cases hE : E = 0;rotate_left
  ·have hei : ((E : Int) != 0) = true := by rw [bne_iff_ne]; omega
   have HNE : Hid ((decM (getL P S 0)).2 ≠ 0) := by rw [HD.out]; exact hE
   have HFIN : Hid _ := ch_three HC4.out (.inr (by rw [HR.out]; exact Nat.le_refl _)) (g := R) (.int .i64 0) (.int .i64 0) (.slice none 0 0);have HTF : Hid _ := HT4.out.three HNA.out (by have h1 := HSP.out; have h2 := HR.out; omega) (.int .i64 0) (.int .i64 0) (.slice none 0 0);clear hE;go_wp2_with fail
   (try simp only [Exit.inBlock, Exit.then])
   refine bodyPost_ret (v := .tuple #[.agg #[.int .i64 0, .int .i64 0, .slice none 0 0], .int .i64 133]) (by rw [results_cell_tmp rfl]; go_simp) rfl ?_;exact ⟨133, zeroM, _, _, rfl, ⟨rfl, .inl ⟨rfl, rfl⟩⟩, .inr (.inl ⟨rfl, HS.out, HNE.out, rfl⟩), by rw [getB_ok HS.out]; exact HTF.out, getS_rdd, HFIN.out⟩
  ·subst hE;have x0 := HM4.out.c0;have x1 := HM4.out.c1;have x2 := HM4.out.c2;have HFIN : Hid _ := ch_three HC4.out (.inr (by rw [HR.out]; exact Nat.le_refl _)) (g := R) (.int .i64 B) (.int .i64 M) (.slice va vn vc);have HTF : Hid _ := HT4.out.three HNA.out (by have h1 := HSP.out; have h2 := HR.out; omega) (.int .i64 B) (.int .i64 M) (.slice va vn vc);have HOF : Hid _ := own_ch HO4.out (ch_three (D := fun x => x = R) (Ch.refl _ w4) (.inl rfl) (g := R) (.int .i64 B) (.int .i64 M) (.slice va vn vc)) (fun x hx => by omega);go_wp2_with fail
   (try simp only [Exit.inBlock, Exit.then])
   refine bodyPost_ret (v := .tuple #[.agg #[.int .i64 B, .int .i64 M, .slice va vn vc], .int .i64 0]) (by rw [results_cell_tmp rfl]; go_simp) rfl ?_;exact ⟨0, ⟨B, M, K⟩, _, _, rfl, own_baseC HOF.out (by rw [← HR.out]; omega), .inr (.inr ⟨rfl, HS.out, HD.out⟩), by rw [getB_ok HS.out]; exact HTF.out, getS_rdd, HFIN.out⟩
theorem smark_nil (w : World) : Calls Tryz.prog 33 #[.pointer none] w fun e w' => e = .returned (.tuple #[.agg #[.int .i64 0, .int .i64 0, .slice none 0 0], .int .i64 2]) ∧ Below w.heap.size w w' := by
 have HB : Hid (Below w.heap.size w (w.alloc (Obj.cells #[.int .i64 0, .int .i64 0, .slice none 0 0] 65))) := below_alloc _ _;have HR0 : Hid _ := mb_new w 0 0 (.slice none 0 0);go_in;go_upto_region 1 with fail
 obtain ⟨R, hR⟩ : ∃ R, R = w.heap.size := ⟨_, rfl⟩;rw [← hR] at HR0 ⊢;have HR : Hid (R = w.heap.size) := hR;clear hR;generalize w.alloc (Obj.cells #[.int .i64 0, .int .i64 0, .slice none 0 0] 65) = w0 at HR0 HB ⊢;go_wp2_with fail;refine (page_nil 0 _).mono ?_;rintro e w2 ⟨rfl, hw2⟩;replace hw2 := hw2.symm;subst hw2;have r0 := HR0.out.c0;have r1 := HR0.out.c1;have r2 := HR0.out.c2;have z0 := HR0.out.z 0;have z1 := HR0.out.z 1;have z2 := HR0.out.z 2;go_wp2_with fail
 (try simp only [Exit.inBlock, Exit.then])
 refine bodyPost_ret (v := .tuple #[.agg #[.int .i64 0, .int .i64 0, .slice none 0 0], .int .i64 2]) (by rw [results_cell_tmp rfl]; go_simp) rfl ?_;have hN : w.heap.size ≤ R := by rw [HR.out]; exact Nat.le_refl _
 exact ⟨rfl, ((HB.out.setCell hN _).setCell hN _).setCell hN _⟩
theorem sused_nil (w : World) : Calls Tryz.prog 37 #[.pointer none] w fun e w' => e = .returned (.int .i64 0) ∧ w' = w := by
 go_in;go_wp2_with fail;go_ret;exact ⟨rfl, rfl⟩
theorem sused_walk (h : ST A w sv dv k P S) : Calls Tryz.prog 37 #[sv] w fun e w' => e = .returned (.int .i64 (usedN P.tab)) ∧ w' = w := by
 obtain ⟨sp, bv, rfl, h1, h2, h3, h4⟩ := h;have HB : Hid (BP A w bv dv P S) := h3;have m0 : w.cell? ⟨sp, 0, none⟩ = some bv := by rw [cell_of_row w sp 0 _ _ (0, 0) h1]; rfl
 obtain ⟨D, pb, tv, hbv, _⟩ := h3;subst hbv;clear h1 h2 h4;go_in;go_wp2_with fail;refine (used_walk HB.out).mono ?_;rintro e w2 ⟨rfl, hw2⟩;replace hw2 := hw2.symm;subst hw2;go_wp2_with fail;go_ret;exact ⟨rfl, rfl⟩
theorem sended_nil (w : World) : Calls Tryz.prog 38 #[.pointer none] w fun e w' => e = .returned (.bool false) ∧ w' = w := by
 go_in;go_wp2_with fail;go_ret;exact ⟨rfl, rfl⟩
theorem sended_walk (h : ST A w sv dv k P S) : Calls Tryz.prog 38 #[sv] w fun e w' => e = .returned (.bool P.over) ∧ w' = w := by
 obtain ⟨sp, bv, rfl, h1, h2, h3, h4⟩ := h;have HB : Hid (BP A w bv dv P S) := h3;have m0 : w.cell? ⟨sp, 0, none⟩ = some bv := by rw [cell_of_row w sp 0 _ _ (0, 0) h1]; rfl
 obtain ⟨D, pb, tv, hbv, _⟩ := h3;subst hbv;clear h1 h2 h4;go_in;go_wp2_with fail;refine (ended_walk HB.out).mono ?_;rintro e w2 ⟨rfl, hw2⟩;replace hw2 := hw2.symm;subst hw2;go_wp2_with fail;go_ret;exact ⟨rfl, rfl⟩
end
end
section
open Ieee Go.RowKit

def cmpN (a b : Nat) : Int := if a < b then -1 else if b < a then 1 else 0
end
section
open Go.Shelf

def lays6c_ren : Go.Shelf.Ren := ⟨fun | 6 => 151 | 15 => 196 | 14 => 195 | 28 => 227 | 29 => 228 | 20 => 219 | 21 => 220 | 22 => 221 | 23 => 222 | 24 => 223 | 25 => 224 | 26 => 225 | 27 => 226 | 46 => 237 | 47 => 238 | 48 => 239 | 49 => 240 | 50 => 241 | 57 => 245 | n => n, fun | 22 => 68 | 24 => 114 | 25 => 178 | 3 => 3 | 39 => 213 | 0 => 0 | 53 => 237 | 55 => 37 | 4 => 4 | 46 => 231 | 45 => 230 | 50 => 110 | 5 => 5 | 9 => 9 | 66 => 246 | 70 => 249 | 76 => 252 | 77 => 253 | n => n, fun | n => n⟩

theorem lays6c : Go.Proofs.SlLaysF0.n6 Tryz.prog lays6c_ren := {
  mixed := by kernel_rfl
  f6 := ⟨Tryz.f151.name, by decide, Tryz.func151.trans (congrArg some (by kernel_rfl))⟩
  f14 := ⟨Tryz.f195.name, by decide, Tryz.func195.trans (congrArg some (by kernel_rfl))⟩
  f15 := Tryz.func196.trans (congrArg some (by kernel_rfl))
  f20 := ⟨Tryz.f219.name, by decide, Tryz.func219.trans (congrArg some (by kernel_rfl))⟩
  f21 := ⟨Tryz.f220.name, by decide, Tryz.func220.trans (congrArg some (by kernel_rfl))⟩
  f22 := ⟨Tryz.f221.name, by decide, Tryz.func221.trans (congrArg some (by kernel_rfl))⟩
  f23 := ⟨Tryz.f222.name, by decide, Tryz.func222.trans (congrArg some (by kernel_rfl))⟩
  f24 := ⟨Tryz.f223.name, by decide, Tryz.func223.trans (congrArg some (by kernel_rfl))⟩
  f25 := ⟨Tryz.f224.name, by decide, Tryz.func224.trans (congrArg some (by kernel_rfl))⟩
  f26 := ⟨Tryz.f225.name, by decide, Tryz.func225.trans (congrArg some (by kernel_rfl))⟩
  f27 := ⟨Tryz.f226.name, by decide, Tryz.func226.trans (congrArg some (by kernel_rfl))⟩
  f28 := Tryz.func227.trans (congrArg some (by kernel_rfl))
  f29 := Tryz.func228.trans (congrArg some (by kernel_rfl))
  f46 := ⟨Tryz.f237.name, by decide, Tryz.func237.trans (congrArg some (by kernel_rfl))⟩
  f47 := Tryz.func238.trans (congrArg some (by kernel_rfl))
  f48 := Tryz.func239.trans (congrArg some (by kernel_rfl))
  f49 := ⟨Tryz.f240.name, by decide, Tryz.func240.trans (congrArg some (by kernel_rfl))⟩
  f50 := ⟨Tryz.f241.name, by decide, Tryz.func241.trans (congrArg some (by kernel_rfl))⟩
  f57 := ⟨Tryz.f245.name, by decide, Tryz.func245.trans (congrArg some (by kernel_rfl))⟩
  t0 := Tryz.underlying0
  a0 := Tryz.isAgg0
  z0 := Tryz.sizeOf0
  v0 := Tryz.zeroValue0
  t3 := Tryz.underlying3
  a3 := Tryz.isAgg3
  z3 := Tryz.sizeOf3
  v3 := Tryz.zeroValue3
  t4 := Tryz.underlying4
  a4 := Tryz.isAgg4
  z4 := Tryz.sizeOf4
  v4 := Tryz.zeroValue4
  t5 := Tryz.underlying5
  a5 := Tryz.isAgg5
  z5 := Tryz.sizeOf5
  v5 := Tryz.zeroValue5
  t9 := Tryz.underlying9
  a9 := Tryz.isAgg9
  z9 := Tryz.sizeOf9
  v9 := Tryz.zeroValue9
  t22 := Tryz.underlying68
  a22 := Tryz.isAgg68
  z22 := Tryz.sizeOf68
  v22 := Tryz.zeroValue68
  t25 := Tryz.underlying178
  a25 := Tryz.isAgg178
  z25 := Tryz.sizeOf178
  v25 := Tryz.zeroValue178
  t39 := Tryz.underlying213
  a39 := Tryz.isAgg213
  z39 := Tryz.sizeOf213
  v39 := Tryz.zeroValue213
  t45 := Tryz.underlying230
  a45 := Tryz.isAgg230
  z45 := Tryz.sizeOf230
  v45 := Tryz.zeroValue230
  t46 := Tryz.underlying231
  a46 := Tryz.isAgg231
  z46 := Tryz.sizeOf231
  v46 := Tryz.zeroValue231
  t50 := Tryz.underlying110
  a50 := Tryz.isAgg110
  z50 := Tryz.sizeOf110
  v50 := Tryz.zeroValue110
  t53 := Tryz.underlying237
  a53 := Tryz.isAgg237
  z53 := Tryz.sizeOf237
  v53 := Tryz.zeroValue237
  t55 := Tryz.underlying37
  a55 := Tryz.isAgg37
  z55 := Tryz.sizeOf37
  v55 := Tryz.zeroValue37
  t66 := Tryz.underlying246
  a66 := Tryz.isAgg246
  z66 := Tryz.sizeOf246
  v66 := Tryz.zeroValue246
  t70 := Tryz.underlying249
  a70 := Tryz.isAgg249
  z70 := Tryz.sizeOf249
  v70 := Tryz.zeroValue249
  t76 := Tryz.underlying252
  a76 := Tryz.isAgg252
  z76 := Tryz.sizeOf252
  v76 := Tryz.zeroValue252
  t77 := Tryz.underlying253
  a77 := Tryz.isAgg253
  z77 := Tryz.sizeOf253
  v77 := Tryz.zeroValue253 }
end
section
open Ieee Go.RowKit

theorem nan_u64 (a : Nat) (w : World) :
  Calls Tryz.prog 197 #[.int .u64 a] w fun e w' => e = .returned (.bool false) ∧ w' = w := by
 go_in;go_wp2;go_ret;exact ⟨ret_bool (by simp), rfl⟩
theorem compare_walk (a b : Nat) (w : World) :
  Calls Tryz.prog 153 #[.int .u64 a, .int .u64 b] w fun e w' => e = .returned (.int .i64 (cmpN a b)) ∧ w' = w := by
 by_cases h1 : a < b
 ·have e : cmpN a b = -1 := if_pos h1;rw [e];have h1' : (a : Int) < b := by omega
  go_in;go_wp2_with (go_at_call 197; refine (nan_u64 _ _).mono ?_; rintro e w' ⟨rfl, rfl⟩);go_ret;exact ⟨rfl, rfl⟩
 by_cases h2 : b < a
 ·have e : cmpN a b = 1 := by unfold cmpN; rw [if_neg h1, if_pos h2]
  rw [e];have h1' : ¬ ((a : Int) < b) := by omega
  have h2' : (b : Int) < a := by omega
  go_in;go_wp2_with (go_at_call 197; refine (nan_u64 _ _).mono ?_; rintro e w' ⟨rfl, rfl⟩);go_ret;exact ⟨rfl, rfl⟩
 ·have e : cmpN a b = 0 := by unfold cmpN; rw [if_neg h1, if_neg h2]
  rw [e];have h1' : ¬ ((a : Int) < b) := by omega
  have h2' : ¬ ((b : Int) < a) := by omega
  go_in;go_wp2_with (go_at_call 197; refine (nan_u64 _ _).mono ?_; rintro e w' ⟨rfl, rfl⟩);go_ret;exact ⟨rfl, rfl⟩
end
section
open Ieee Go.RowKit
end
section
open Ieee Go.RowKit

def goodAt (t : List Pr) (i : Nat) : Prop := (∀ h : i < t.length, t[i].v.h = true) ∧ (∀ (h : i < t.length) (_ : 0 < i), t[i - 1].k < t[i].k)
theorem rise_of_good {t : List Pr} (h : ∀ i, i < t.length → goodAt t i) : Rise t := by
 unfold Rise;rw [List.pairwise_iff_getElem];intro i j hi hj hij
 induction j with
 | zero => omega
 | succ j ih =>
  have h1 := (h (j + 1) hj).2 hj (by omega);simp only [Nat.add_sub_cancel] at h1;rcases Nat.lt_or_ge i j with h2 | h2
  ·exact Nat.lt_trans (ih (by omega) h2) h1
  ·obtain rfl : i = j := by omega
   exact h1
def tabB : List Pr → Bool
 | [] => true
 | p :: t => p.v.h && (t.all fun q => decide (p.k < q.k)) && tabB t
theorem tab_iff {t : List Pr} : tabB t = true ↔ Rise t ∧ hasT t := by
 induction t with
 | nil => exact ⟨fun _ => ⟨List.Pairwise.nil, fun p hp => by simp at hp⟩, fun _ => rfl⟩
 | cons p t ih =>
  have e : tabB (p :: t) = (p.v.h && (t.all fun q => decide (p.k < q.k)) && tabB t) := rfl;rw [e, Bool.and_eq_true, Bool.and_eq_true, ih, List.all_eq_true];unfold Rise hasT;rw [List.pairwise_cons];constructor
  ·rintro ⟨⟨h1, h2⟩, h3, h4⟩
   exact ⟨⟨fun q hq => by simpa using h2 q hq, h3⟩, fun q hq => by
    rcases List.mem_cons.1 hq with h | h
    ·rw [h]; exact h1
    ·exact h4 q h⟩
  ·rintro ⟨⟨h2, h3⟩, h4⟩;exact ⟨⟨h4 p (List.mem_cons_self), fun q hq => by simpa using h2 q hq⟩, h3, fun q hq => h4 q (List.mem_cons_of_mem _ hq)⟩
theorem tab_good {t : List Pr} (h : ∀ i, i < t.length → goodAt t i) : tabB t = true := by
 rw [tab_iff];refine ⟨rise_of_good h, fun p hp => ?_⟩;obtain ⟨i, hi, rfl⟩ := List.getElem_of_mem hp;exact (h i hi).1 hi
theorem tab_none {t : List Pr} {i : Nat} (hi : i < t.length) (h : t[i].v.h = false) : tabB t = false := by
 cases hb : tabB t
 ·rfl
 ·have := (tab_iff.1 hb).2 t[i] (List.getElem_mem hi); rw [h] at this; cases this
theorem tab_falls {t : List Pr} {i : Nat} (hi : i < t.length) (h0 : 0 < i) (h : ¬ t[i - 1].k < t[i].k) : tabB t = false := by
 cases hb : tabB t
 ·rfl
 ·exact absurd ((List.pairwise_iff_getElem.1 (tab_iff.1 hb).1) (i - 1) i (by omega) hi (by omega)) h
def Sd (w : World) (t : List Pr) (iv : Value) (wr : World) : Prop := ∃ i : Nat, i ≤ t.length ∧ iv = .int .i64 i ∧ (∀ j, j < i → goodAt t j) ∧ Below w.heap.size w wr
theorem sd_step {w wr w1 : World} {t : List Pr} {i : Nat} (hi : i < t.length) (h : ∀ j, j < i → goodAt t j) (hg : goodAt t i) (hB : Below w.heap.size w wr) (h1 : Below wr.heap.size wr w1) : Sd w t (.int .i64 ((i : Int) + 1)) w1 :=
 ⟨i + 1, hi, by simp, fun j hj => by
  rcases Nat.lt_or_ge j i with h2 | h2
  ·exact h j h2
  ·obtain rfl : j = i := by omega
   exact hg, below_trans hB h1⟩
theorem good_zero {t : List Pr} (hi : 0 < t.length) {o : Pr} (ho : o = t[0]) (h : o.v.h = true) : goodAt t 0 := ⟨fun _ => by rw [← ho]; exact h, fun _ h0 => by omega⟩
theorem good_more {t : List Pr} {i : Nat} (hi : i < t.length) {o q : Pr} (ho : o = t[i]) (hq : q = t[i - 1]) (h : o.v.h = true) (hk : q.k < o.k) : goodAt t i := ⟨fun _ => by rw [← ho]; exact h, fun _ _ => by rw [← ho, ← hq]; exact hk⟩
theorem wrap_small {x : Int} (h0 : 0 ≤ x) (h1 : x < 9223372036854775808) : IntKind.i64.wrap x = x := by
 rw [IntKind.wrap_i64]; omega
theorem below_alloc_drew (w : World) (o : Obj) (n : Nat) : Below w.heap.size w ((w.alloc o).drewN n) := below_trans (below_alloc _ _) (below_drewN _ _)
theorem sound_walk {ao : Option Addr} {ca : Nat} {l : List Pr} {w : World} (hl : l.length ≤ maxLen) (ha : Ql w ao l) :
  Calls Tryz.prog 139 #[.slice ao l.length ca] w fun e w' => e = .returned (.bool (tabB l)) ∧ Below w.heap.size w w' := by
 have hli : (l.length : Int) ≤ 9223372036854775807 := by simp only [maxLen] at hl; omega
 have HA : Hid (Ql w ao l) := ha;clear ha hl;go_in;go_wp2_with fail;go_loopw [7] (fun iv wr => Sd w l iv wr) (fun iv _ => l.length - (intOf iv).toNat)
 case atStart => exact ⟨0, Nat.zero_le _, rfl, fun j hj => by omega, below_same _⟩
 case round =>
  obtain ⟨i, hi, rfl, hgood, hB⟩ := hrel;have HG := hidH hgood;have HB := hidH hB;clear hgood hB;by_cases hlt : i < l.length
  ·obtain ⟨b, off, rfl, c0, c1, c2⟩ := HA.out.below HB.out i hlt;obtain ⟨o, hoe⟩ : ∃ o, o = l[i] := ⟨_, rfl⟩;rw [← hoe] at c0 c1 c2;have HE : Hid (o = l[i]) := hoe;clear hoe
   cases hh : o.v.h
   ·have HT : Hid (tabB l = false) := tab_none hlt (by rw [← HE.out]; exact hh);go_wp2_with fail;go_ret;exact ⟨ret_bool HT.out.symm, below_trans HB.out (below_alloc _ _)⟩
   ·have HH : Hid (o.v.h = true) := hh;rw [hh] at c1;clear hh;by_cases h0 : i = 0
    ·subst h0;simp only [Nat.zero_mul, Nat.add_zero] at c0 c1 c2;have R' : ∀ n, Sd w l (.int .i64 (((0 : Nat) : Int) + 1)) ((wr.alloc (Obj.cells #[.int .u64 o.k, .bool true, .int .u64 o.v.b] 62)).drewN n) := fun n => sd_step hlt HG.out (good_zero hlt HE.out HH.out) HB.out (below_alloc_drew _ _ _);go_wp2_with fail;go_quiet (fail);go_wp2_with fail;go_roundw
     case rel => exact R' _
     case measure => simp [intOf]; omega
    ·obtain ⟨b2, off2, e2, g0, g1, g2⟩ := HA.out.below HB.out (i - 1) (by omega)
     cases e2
     obtain ⟨q, hqe⟩ : ∃ q, q = l[i - 1] := ⟨_, rfl⟩;rw [← hqe] at g0 g1 g2;have HQ : Hid (q = l[i - 1]) := hqe;clear hqe g1 g2;have hi0 : (0 : Int) < (i : Int) := by omega
     obtain ⟨j, hj⟩ : ∃ j, i = j + 1 := ⟨i - 1, by omega⟩;subst hj;simp only [Nat.add_sub_cancel] at g0;have hwj : IntKind.i64.wrap (j : Int) = j := wrap_small (by omega) (by omega);have hjl : j < l.length := by omega
     have g0' : ∀ x : Obj, (wr.alloc x).cell? ⟨b, off + j * 3, none⟩ = some (.int .u64 q.k) := fun x => by rw [(below_alloc wr x).cell (p := ⟨b, off + j * 3, none⟩) (cell_lt g0)]; exact g0
     by_cases hk : q.k < o.k
     ·have R' : ∀ n, Sd w l (.int .i64 (((j + 1 : Nat) : Int) + 1)) ((wr.alloc (Obj.cells #[.int .u64 o.k, .bool true, .int .u64 o.v.b] 62)).drewN n) := fun n => sd_step hlt HG.out (good_more hlt HE.out HQ.out HH.out hk) HB.out (below_alloc_drew _ _ _);have hkb : ¬ ((o.k : Int) ≤ (q.k : Int)) := by omega
      clear hk;go_wp2_with fail;go_quiet (fail);go_wp2_with fail;go_roundw
      case rel => exact R' _
      case measure => simp [intOf]; omega
     ·have HT : Hid (tabB l = false) := tab_falls hlt (by omega) (by rw [← HE.out, ← HQ.out]; exact hk);have hkb : (o.k : Int) ≤ (q.k : Int) := by omega
      clear hk;go_wp2_with fail;go_quiet (fail);go_wp2_with fail;go_ret;exact ⟨ret_bool HT.out.symm, below_trans HB.out (below_alloc_drew _ _ _)⟩
  ·have HT : Hid (tabB l = true) := tab_good fun j hj => HG.out j (by omega);go_wp2_with fail;go_ret;exact ⟨ret_bool HT.out.symm, HB.out⟩
end
end Go.Proofs.YtcmklbibehnloaaGreat
