/- Contracts of the reference's Rising, Find over cells. -/
import Derived.Test.YtcmklbibehnloaaGreatB38
set_option maxRecDepth 100000
set_option maxHeartbeats 16000000
namespace Go.Proofs.YtcmklbibehnloaaGreat
open Go.RowKit
section
section

variable {A : Nat → Prop} {w w' : World} {sv dv : Value} {k : Int} {P : Bo} {S : Dk} {sp : Nat}

theorem rmark_nil (w : World) : Calls Tryz.prog 60 #[.pointer none] w fun e w' => e = .returned (.tuple #[.agg #[.int .i64 0, .int .i64 0, .slice none 0 0], .int .i64 2]) ∧ Below w.heap.size w w' := by
 have HB : Hid (Below w.heap.size w (w.alloc (Obj.cells #[.int .i64 0, .int .i64 0, .slice none 0 0] 65))) := below_alloc _ _;have HR0 : Hid _ := mb_new w 0 0 (.slice none 0 0);go_in;go_upto_region 1 with fail
 obtain ⟨R, hR⟩ : ∃ R, R = w.heap.size := ⟨_, rfl⟩;rw [← hR] at HR0 ⊢;have HR : Hid (R = w.heap.size) := hR;clear hR;generalize w.alloc (Obj.cells #[.int .i64 0, .int .i64 0, .slice none 0 0] 65) = w0 at HR0 HB ⊢;go_wp2_with fail;refine rcheck_nil.mono ?_;rintro e w2 ⟨rfl, hw2⟩;replace hw2 := hw2.symm;subst hw2;have r0 := HR0.out.c0;have r1 := HR0.out.c1;have r2 := HR0.out.c2;have z0 := HR0.out.z 0;have z1 := HR0.out.z 1;have z2 := HR0.out.z 2;go_wp2_with fail
 (try simp only [Exit.inBlock, Exit.then])
 refine bodyPost_ret (v := .tuple #[.agg #[.int .i64 0, .int .i64 0, .slice none 0 0], .int .i64 2]) (by rw [results_cell_tmp rfl]; go_simp) rfl ?_;have hN : w.heap.size ≤ R := by rw [HR.out]; exact Nat.le_refl _
 exact ⟨rfl, ((HB.out.setCell hN _).setCell hN _).setCell hN _⟩
theorem rmark_shut (h : RT A w sv dv k P S) (hs : shutB P S = true) : Calls Tryz.prog 60 #[sv] w fun e w' => e = .returned (.tuple #[.agg #[.int .i64 0, .int .i64 0, .slice none 0 0], .int .i64 80]) ∧ RT A w' sv dv k (endB P) S ∧ Ch A w w' := by
 have HS : Hid (shutB P S = true) := hs;obtain ⟨sp, hsp, hsl, _⟩ := h.ptr;have HSP : Hid (sp < w.heap.size) := hsl;have HAL : Hid (∀ x, A x → x < w.heap.size) := fun x hx => h.lt hx;subst hsp;have HB : Hid (Below w.heap.size w (w.alloc (Obj.cells #[.int .i64 0, .int .i64 0, .slice none 0 0] 65))) := below_alloc _ _;have HR0 : Hid _ := mb_new w 0 0 (.slice none 0 0);have HT0 : Hid (RT A (w.alloc (Obj.cells #[.int .i64 0, .int .i64 0, .slice none 0 0] 65)) (.pointer (some ⟨sp, 0, none⟩)) dv k P S) := h.below HB.out;clear h hs hsl;go_in;go_upto_region 1 with fail
 obtain ⟨R, hR⟩ : ∃ R, R = w.heap.size := ⟨_, rfl⟩;rw [← hR] at HR0 ⊢;have HR : Hid (R = w.heap.size) := hR;clear hR;generalize w.alloc (Obj.cells #[.int .i64 0, .int .i64 0, .slice none 0 0] 65) = w0 at HR0 HT0 HB ⊢;have HNA : Hid (¬ A R) := fun e => by have h1 := HAL.out _ e; have h2 := HR.out; omega
 go_wp2_with fail;refine (rcheck_shut HT0.out HS.out).mono ?_;rintro e w2 ⟨rfl, hst2, hc2⟩;have HC2 : Hid (Ch A w w2) := (Ch.of_below HB.out).self hc2;have HR2 : Hid _ := HR0.out.ch hc2 HNA.out;have HFIN : Hid _ := ch_three HC2.out (.inr (by rw [HR.out]; exact Nat.le_refl _)) (g := R) (.int .i64 0) (.int .i64 0) (.slice none 0 0);have HTF : Hid _ := hst2.three HNA.out (by have h1 := HSP.out; have h2 := HR.out; omega) (.int .i64 0) (.int .i64 0) (.slice none 0 0);have r0 := HR2.out.c0;have r1 := HR2.out.c1;have r2 := HR2.out.c2;have z0 := HR2.out.z 0;have z1 := HR2.out.z 1;have z2 := HR2.out.z 2;clear hst2 hc2;go_wp2_with fail
 (try simp only [Exit.inBlock, Exit.then])
 refine bodyPost_ret (v := .tuple #[.agg #[.int .i64 0, .int .i64 0, .slice none 0 0], .int .i64 80]) (by rw [results_cell_tmp rfl]; go_simp) rfl ?_;exact ⟨rfl, HTF.out, HFIN.out⟩
def RnGot (A : Nat → Prop) (w : World) (sv dv : Value) (k : Int) (P : Bo) (S : Dk) (e : Ending) (w' : World) : Prop :=
 ∃ (v : Value), e = .returned (.tuple #[.agg #[.int .i64 (decM (getL P S 0)).1.b, .int .i64 (decM (getL P S 0)).1.a, v], .int .i64 0]) ∧ w'.ownsRow w.heap.size 37 1 v (decM (getL P S 0)).1.k.length ((ib (decM (getL P S 0)).1.k).map (Value.int .u64)) ∧
  RT A w' sv dv k P (getS P S 0) ∧ Ch A w w'
theorem rmark_ok (h : RT A w sv dv k P S) (hs : shutB P S = false) (hrd : S.rd < 4611686018427387904) : Calls Tryz.prog 60 #[sv] w (RnGot A w sv dv k P S) := by
 have HS : Hid (shutB P S = false) := hs;have HRD := hidH hrd;obtain ⟨sp, hsp, hsl, _⟩ := h.ptr;have HSP : Hid (sp < w.heap.size) := hsl;have HAL : Hid (∀ x, A x → x < w.heap.size) := fun x hx => h.lt hx;subst hsp;have HB : Hid (Below w.heap.size w (w.alloc (Obj.cells #[.int .i64 0, .int .i64 0, .slice none 0 0] 65))) := below_alloc _ _;have HR0 : Hid _ := mb_new w 0 0 (.slice none 0 0);have HT0 : Hid (RT A (w.alloc (Obj.cells #[.int .i64 0, .int .i64 0, .slice none 0 0] 65)) (.pointer (some ⟨sp, 0, none⟩)) dv k P S) := h.below HB.out;clear h hs hsl hrd;go_in;go_upto_region 1 with fail
 obtain ⟨R, hR⟩ : ∃ R, R = w.heap.size := ⟨_, rfl⟩;rw [← hR] at HR0 ⊢;have HR : Hid (R = w.heap.size) := hR;clear hR;generalize w.alloc (Obj.cells #[.int .i64 0, .int .i64 0, .slice none 0 0] 65) = w0 at HR0 HT0 HB ⊢;have HNA : Hid (¬ A R) := fun e => by have h1 := HAL.out _ e; have h2 := HR.out; omega
 go_wp2_with fail;refine (rcheck_ok HT0.out HS.out).mono ?_;rintro e w2 ⟨rfl, hw2⟩;replace hw2 := hw2.symm;subst hw2;go_wp2_with fail;refine (rsmark_walk HT0.out HS.out HRD.out).mono ?_;obtain ⟨⟨⟨B, M, K⟩, E⟩, hD⟩ : ∃ D, decM (getL P S 0) = D := ⟨_, rfl⟩;have HD : Hid (decM (getL P S 0) = (⟨B, M, K⟩, E)) := hD;clear hD;unfold RmGot;rw [HD.out];rintro e w3 ⟨v3, rfl, ho3, hst3, hc3⟩;have HC3 : Hid (Ch A w w3) := (Ch.of_below HB.out).self hc3;have HR3 : Hid _ := HR0.out.ch hc3 HNA.out;have HRL : Hid (R < w0.heap.size) := cell_lt HR0.out.c0;have HO3 : Hid (w3.ownsRow (R + 1) 37 1 v3 K.length ((ib K).map (Value.int .u64))) := own_baseC ho3 HRL.out;obtain ⟨va, vn, vc, hvv⟩ : ∃ x y z, v3 = .slice x y z := by obtain ⟨x, z, e⟩ := own_form8 ho3; exact ⟨x, _, z, e⟩
 subst hvv;have HFIN : Hid _ := ch_three HC3.out (.inr (by rw [HR.out]; exact Nat.le_refl _)) (g := R) (.int .i64 B) (.int .i64 M) (.slice va vn vc);have HTF : Hid _ := hst3.three HNA.out (by have h1 := HSP.out; have h2 := HR.out; omega) (.int .i64 B) (.int .i64 M) (.slice va vn vc);have HOF : Hid _ := own_ch HO3.out (ch_three (D := fun x => x = R) (Ch.refl _ w3) (.inl rfl) (g := R) (.int .i64 B) (.int .i64 M) (.slice va vn vc)) (fun x hx => by omega);have r0 := HR3.out.c0;have r1 := HR3.out.c1;have r2 := HR3.out.c2;have z0 := HR3.out.z 0;have z1 := HR3.out.z 1;have z2 := HR3.out.z 2;clear ho3 hst3 hc3 HO3 HRL;go_wp2_with fail
 (try simp only [Exit.inBlock, Exit.then])
 refine bodyPost_ret (v := .tuple #[.agg #[.int .i64 B, .int .i64 M, .slice va vn vc], .int .i64 0]) (by rw [results_cell_tmp rfl]; go_simp) rfl ?_;unfold RnGot;rw [HD.out];exact ⟨_, rfl, own_baseC HOF.out (by rw [← HR.out]; omega), HTF.out, HFIN.out⟩
end
end
section
structure S7 (w : World) (Q : Nat) (f : Nat → Value) (g : Nat → List Cl) : Prop where
 c : ∀ i, i < 7 → w.cell? ⟨Q, i, none⟩ = some (f i)
 z : ∀ j, w.frozen? ⟨Q, j, none⟩ = false
 cv : ∀ i, i < 7 → Cv w (f i) (g i)
section

variable {w w' : World} {Q : Nat} {f : Nat → Value} {g : Nat → List Cl}

theorem S7.lt (h : S7 w Q f g) : Q < w.heap.size := cell_lt (h.c 0 (by omega))
theorem S7.below (h : S7 w Q f g) (hb : Below w.heap.size w w') : S7 w' Q f g :=
 ⟨fun i hi => by rw [hb.cell (p := ⟨Q, i, none⟩) h.lt]; exact h.c i hi, fun j => by rw [hb.frozen (p := ⟨Q, j, none⟩) h.lt]; exact h.z j, fun i hi => (h.cv i hi).below hb⟩
theorem S7.form (h : S7 w Q f g) {i : Nat} (hi : i < 7) : ∃ ao cap, f i = .slice ao (g i).length cap := (h.cv i hi).form
theorem S7.set (h : S7 w Q f g) {i : Nat} (hi : i < 7) {v : Value} {g' : Nat → List Cl} (hv : Cv w v (g' i)) (hg : ∀ j, j < 7 → j ≠ i → g' j = g j) : S7 (w.setCell ⟨Q, i, none⟩ v) Q (upd f i v) g' := by
 obtain ⟨ao, cap, e⟩ := h.form hi;have hn : ∀ c : Cl, f i ∉ clF c := fun c => by rw [e]; exact slice_noCl c
 refine ⟨fun j hj => ?_, fun j => by simpa [go_sem] using h.z j, fun j hj => ?_⟩
 ·unfold upd;by_cases q : i = j
  ·subst q; rw [if_pos rfl]; simp [go_sem, h.c i hi]
  ·rw [if_neg q, World.cell?_setCell_other _ _ _ _ (by rintro ⟨⟩; exact q rfl)]; exact h.c j hj
 ·unfold upd;by_cases q : i = j
  ·subst q; rw [if_pos rfl]; exact hv.set (h.c i hi) hn v
  ·rw [if_neg q, hg j hj (fun e => q e.symm)]; exact (h.cv j hj).set (h.c i hi) hn v
theorem S7.chA {D : Nat → Prop} (h : S7 w Q f g) (hc : Ch D w w') (hq : ¬ D Q) (hf : ∀ j, j < 7 → ∀ x, (f j).ownBlock = some x → ¬ D x) : S7 w' Q f g :=
 ⟨fun i hi => hc.cell (h.c i hi) hq, fun j => by
  have e := hc.block Q h.lt hq;have hz := h.z j;unfold World.frozen? at hz ⊢;rw [e]; exact hz, fun i hi => (h.cv i hi).ch hc (hf i hi)⟩
theorem s7_new (w : World) : S7 (w.alloc (Obj.cells #[.slice none 0 0, .slice none 0 0, .slice none 0 0, .slice none 0 0, .slice none 0 0, .slice none 0 0, .slice none 0 0] 108)) w.heap.size nilS (fun _ => []) := by
 refine ⟨fun i hi => ?_, fun j => by simp [go_sem], fun i hi => Cv.nil _⟩;have : i = 0 ∨ i = 1 ∨ i = 2 ∨ i = 3 ∨ i = 4 ∨ i = 5 ∨ i = 6 := by omega
 rcases this with rfl | rfl | rfl | rfl | rfl | rfl | rfl <;> simp [go_sem, nilS]
theorem Cv.seven {v : Value} {l : List Cl} (h : Cv w v l) (hR : S7 w Q f g) (u0 u1 u2 u3 u4 u5 u6 : Value) : Cv (((((((w.setCell ⟨Q, 0, none⟩ u0).setCell ⟨Q, 1, none⟩ u1).setCell ⟨Q, 2, none⟩ u2).setCell ⟨Q, 3, none⟩ u3).setCell ⟨Q, 4, none⟩ u4).setCell ⟨Q, 5, none⟩ u5).setCell ⟨Q, 6, none⟩ u6) v l := by
 have n : ∀ i, i < 7 → ∀ c : Cl, f i ∉ clF c := fun i hi c => by obtain ⟨ao, cap, e⟩ := hR.form hi; rw [e]; exact slice_noCl c
 have o : ∀ {x : World} {i j : Nat} (u : Value), i ≠ j → x.cell? ⟨Q, j, none⟩ = some (f j) → (x.setCell ⟨Q, i, none⟩ u).cell? ⟨Q, j, none⟩ = some (f j) := fun u hij h => by rw [World.cell?_setCell_other _ _ _ _ (by rintro ⟨⟩; exact hij rfl)]; exact h
 have h1 := h.set (hR.c 0 (by omega)) (n 0 (by omega)) u0;have h2 := h1.set (o u0 (by omega) (hR.c 1 (by omega))) (n 1 (by omega)) u1;have h3 := h2.set (o u1 (by omega) (o u0 (by omega) (hR.c 2 (by omega)))) (n 2 (by omega)) u2;have h4 := h3.set (o u2 (by omega) (o u1 (by omega) (o u0 (by omega) (hR.c 3 (by omega))))) (n 3 (by omega)) u3;have h5 := h4.set (o u3 (by omega) (o u2 (by omega) (o u1 (by omega) (o u0 (by omega) (hR.c 4 (by omega)))))) (n 4 (by omega)) u4;have h6 := h5.set (o u4 (by omega) (o u3 (by omega) (o u2 (by omega) (o u1 (by omega) (o u0 (by omega) (hR.c 5 (by omega))))))) (n 5 (by omega)) u5;exact h6.set (o u5 (by omega) (o u4 (by omega) (o u3 (by omega) (o u2 (by omega) (o u1 (by omega) (o u0 (by omega) (hR.c 6 (by omega)))))))) (n 6 (by omega)) u6
end

def gP (P : Bo) (S : Dk) (n j : Nat) : List Cl := if 1 ≤ j ∧ j < n then (decode (getL P S (j : Int))).1 else []
theorem gP_one {P : Bo} {S : Dk} : gP P S 1 = fun _ => [] := by funext j; unfold gP; rw [if_neg (by omega)]
theorem gP_same {P : Bo} {S : Dk} {n j : Nat} (h : j ≠ n) : gP P S (n + 1) j = gP P S n j := by
 unfold gP;by_cases q : 1 ≤ j ∧ j < n
 ·rw [if_pos q, if_pos (by omega)]
 ·rw [if_neg q, if_neg (by omega)]
theorem gP_at {P : Bo} {S : Dk} {n : Nat} (h : 1 ≤ n) : gP P S (n + 1) n = (decode (getL P S (n : Int))).1 := by unfold gP; rw [if_pos (by omega)]
section

variable {A : Nat → Prop} {w w' : World} {sv dv : Value} {k : Int} {P : Bo} {S : Dk} {sp : Nat}

theorem ch_seven {D : Nat → Prop} {w0 w1 : World} {g : Nat} (h : Ch D w0 w1) (hg : D g ∨ w0.heap.size ≤ g) (a b c d e f i : Value) : Ch D w0 (((((((w1.setCell ⟨g, 0, none⟩ a).setCell ⟨g, 1, none⟩ b).setCell ⟨g, 2, none⟩ c).setCell ⟨g, 3, none⟩ d).setCell ⟨g, 4, none⟩ e).setCell ⟨g, 5, none⟩ f).setCell ⟨g, 6, none⟩ i) := by
 have s : ∀ {x : World} (i : Nat) (u : Value), Ch D w0 x → Ch D w0 (x.setCell ⟨g, i, none⟩ u) := fun i u hx => hx.trans (ch_set _ g i u) (fun y hy => by subst hy; exact hg);exact s _ _ (s _ _ (s _ _ (s _ _ (s _ _ (s _ _ (s _ _ h))))))
theorem RT.seven (h : RT A w (.pointer (some ⟨sp, 0, none⟩)) dv k P S) {g : Nat} (hg : ¬ A g) (hp : sp ≠ g) (a b c d e f i : Value) : RT A (((((((w.setCell ⟨g, 0, none⟩ a).setCell ⟨g, 1, none⟩ b).setCell ⟨g, 2, none⟩ c).setCell ⟨g, 3, none⟩ d).setCell ⟨g, 4, none⟩ e).setCell ⟨g, 5, none⟩ f).setCell ⟨g, 6, none⟩ i) (.pointer (some ⟨sp, 0, none⟩)) dv k P S := by
 have s : ∀ {x : World} (i : Nat) (u : Value), RT A x (.pointer (some ⟨sp, 0, none⟩)) dv k P S → RT A (x.setCell ⟨g, i, none⟩ u) (.pointer (some ⟨sp, 0, none⟩)) dv k P S := fun i u hx => hx.setB (fun y _ hA e => by subst e; exact hg hA) (fun s e => by cases e; exact hp);exact s _ _ (s _ _ (s _ _ (s _ _ (s _ _ (s _ _ (s _ _ h))))))
def R7Got (A : Nat → Prop) (w : World) (sv dv : Value) (k : Int) (P : Bo) (S : Dk) (e : Ending) (w' : World) : Prop :=
 ∃ (f : Nat → Value) (S' : Dk), e = .returned (.agg #[f 0, f 1, f 2, f 3, f 4, f 5, f 6]) ∧ (∀ j, j < 7 → ∃ a n q, f j = .slice a n q) ∧ (∀ j, j < 7 → ∀ x, (f j).ownBlock = some x → w.heap.size ≤ x) ∧
  (∀ j, j < 7 → Cv w' (f j) (gP P S 7 j)) ∧ RT A w' sv dv k P S' ∧ Rdd 6 S S' ∧ Ch A w w'
def R7Rel (A : Nat → Prop) (w : World) (sv dv : Value) (k : Int) (P : Bo) (S : Dk) (R Q : Nat) (iv : Value) (wr : World) : Prop :=
 ∃ (i : Nat) (f : Nat → Value) (S' : Dk), iv = .int .i64 i ∧ 1 ≤ i ∧ i ≤ 7 ∧ S7 wr Q f (gP P S i) ∧ (∀ j, j < 7 → ∀ x, (f j).ownBlock = some x → w.heap.size ≤ x) ∧ S7 wr R nilS (fun _ => []) ∧ RT A wr sv dv k P S' ∧ Rdd (i - 1) S S' ∧ Ch A w wr
theorem rpages7_walk (h : RT A w sv dv k P S) (hs : shutB P S = false) (hrd : S.rd < 4611686018427387904) : Calls Tryz.prog 65 #[sv] w (R7Got A w sv dv k P S) := by
 have HS : Hid (shutB P S = false) := hs;have HRD := hidH hrd;obtain ⟨sp, hsp, hsl, _⟩ := h.ptr;have HSP : Hid (sp < w.heap.size) := hsl;have HAL : Hid (∀ x, A x → x < w.heap.size) := fun x hx => h.lt hx;subst hsp;have R1 := s7_new w;have Q1 := s7_new (w.alloc (Obj.cells #[.slice none 0 0, .slice none 0 0, .slice none 0 0, .slice none 0 0, .slice none 0 0, .slice none 0 0, .slice none 0 0] 108));rw [size_allocC] at Q1;have HB : Hid (Below w.heap.size w ((w.alloc (Obj.cells #[.slice none 0 0, .slice none 0 0, .slice none 0 0, .slice none 0 0, .slice none 0 0, .slice none 0 0, .slice none 0 0] 108)).alloc (Obj.cells #[.slice none 0 0, .slice none 0 0, .slice none 0 0, .slice none 0 0, .slice none 0 0, .slice none 0 0, .slice none 0 0] 108))) := below_trans (below_alloc _ _) (below_alloc _ _)
 have H0 : Hid (R7Rel A w (.pointer (some ⟨sp, 0, none⟩)) dv k P S w.heap.size (w.heap.size + 1) (.int .i64 1) ((w.alloc (Obj.cells #[.slice none 0 0, .slice none 0 0, .slice none 0 0, .slice none 0 0, .slice none 0 0, .slice none 0 0, .slice none 0 0] 108)).alloc (Obj.cells #[.slice none 0 0, .slice none 0 0, .slice none 0 0, .slice none 0 0, .slice none 0 0, .slice none 0 0, .slice none 0 0] 108))) :=
  ⟨1, nilS, S, rfl, by omega, by omega, by rw [gP_one]; exact Q1, fun j _ x hx => (by cases hx), R1.below (below_alloc _ _), h.below HB.out, Rdd.refl _, Ch.of_below HB.out⟩
 clear h hs hrd R1 Q1 hsl;go_in;go_upto_region 2 with fail
 obtain ⟨R, hR⟩ : ∃ R, R = w.heap.size := ⟨_, rfl⟩;rw [← hR] at H0 ⊢;have HR : Hid (R = w.heap.size) := hR;clear hR;generalize ((w.alloc (Obj.cells #[.slice none 0 0, .slice none 0 0, .slice none 0 0, .slice none 0 0, .slice none 0 0, .slice none 0 0, .slice none 0 0] 108)).alloc (Obj.cells #[.slice none 0 0, .slice none 0 0, .slice none 0 0, .slice none 0 0, .slice none 0 0, .slice none 0 0, .slice none 0 0] 108)) = w0 at H0 HB ⊢;obtain ⟨Q, hQ⟩ : ∃ Q, Q = R + 1 := ⟨_, rfl⟩;rw [← hQ] at H0 ⊢;have HQ : Hid (Q = R + 1) := hQ;clear hQ;go_wp2_with fail;go_loopw [4] (fun iv wr => R7Rel A w (.pointer (some ⟨sp, 0, none⟩)) dv k P S R Q iv wr) (fun iv _ => 7 - (intOf iv).toNat)
 case atStart => exact H0.out
 case round =>
  clear H0;obtain ⟨i, f, S', rfl, hi1, hi, hq, hfr, hr, hst, hrdd, hch⟩ := hrel;have HSQ := hidH hq;have HFR : Hid (∀ j, j < 7 → ∀ x, (f j).ownBlock = some x → w.heap.size ≤ x) := hfr;have HSR := hidH hr;have HT := hidH hst;have HRD' : Hid (Rdd (i - 1) S S') := hrdd;have HC : Hid (Ch A w wr) := hch;have HRQ : Hid (w.heap.size ≤ R ∧ w.heap.size ≤ Q) := by have h1 := HR.out; have h2 := HQ.out; exact ⟨by omega, by omega⟩
  have HNA : Hid (¬ A R ∧ ¬ A Q) := ⟨fun e => by have := HAL.out _ e; have := HRQ.out.1; omega, fun e => by have := HAL.out _ e; have := HRQ.out.2; omega⟩;clear hq hfr hr hrdd hch;by_cases hlt : i < 7
  ·have hle : (i : Int) ≤ 6 := by omega
   have hlti : (i : Int) < 7 := by omega
   have hge : (0 : Int) ≤ (i : Int) := by omega
   obtain ⟨sp', bv, hee, h1, h2, h3, h4⟩ := hst
   cases hee
   have HBQ : Hid (BQ A wr bv dv P S') := h3;have H1 : Hid (wr.heap[sp]? = some (.cells #[bv, .int .i64 k] 102 (0, 0))) := h1;have H2 : Hid (¬ A sp) := h2;have H4 : Hid (P.tab.length = 7) := h4;have m0 : wr.cell? ⟨sp, 0, none⟩ = some bv := by rw [cell_of_row wr sp 0 _ _ (0, 0) h1]; rfl
   obtain ⟨D0, pb, tv, hbv, _⟩ := h3;subst hbv;clear h1 h2 h4;go_wp2_with fail;refine (rget_walk HBQ.out (i : Int) (by have h1 := HRD'.out.rd; have h2 := HRD.out; omega)).mono ?_;unfold Gt;rw [getB_ok (by rw [rdd_shut HRD'.out]; exact HS.out), rdd_getL HRD'.out];rintro e w2 ⟨r, rfl, ho, hb2, hc2⟩;have hst2 : RT A w2 (.pointer (some ⟨sp, 0, none⟩)) dv k P (getS P S' (i : Int)) := ⟨sp, _, rfl, by rw [hc2.block sp (Array.getElem?_eq_some_iff.1 H1.out).1 H2.out]; exact H1.out, H2.out, hb2, H4.out⟩;have hL := (rgetL_lt hst2 (i : Int)).2;rw [rdd_getL (HRD'.out.trans getS_rdd)] at hL;have HV2 : Hid (Bv w2 r (getL P S (i : Int))) := own_bv ho hL;have HT2 := hidH hst2;have HRD2 : Hid (Rdd (i + 1 - 1) S (getS P S' (i : Int))) := by have h := HRD'.out.trans (getS_rdd (P := P) (p := (i : Int))); rw [show i - 1 + 1 = i + 1 - 1 by omega] at h; exact h
   have HSQ2 : Hid (S7 w2 Q f (gP P S i)) := HSQ.out.chA hc2 HNA.out.2 (fun j hj x hx e => by have h1 := HFR.out j hj x hx; have h2 := HAL.out x e; omega);have HSR2 : Hid (S7 w2 R nilS (fun _ => [])) := HSR.out.chA hc2 HNA.out.1 (fun j hj x hx e => (by cases hx));have HC2 : Hid (Ch A w w2) := HC.out.self hc2;generalize getS P S' (i : Int) = S2 at HT2 HRD2;clear ho hst2 hb2 hc2 hL m0 HT HRD' HSQ HSR HC HBQ H1 H2 H4;go_wp2_with fail;refine (rdecode_walk HV2.out).mono ?_;obtain ⟨D, hD⟩ : ∃ D, D = decode (getL P S (i : Int)) := ⟨_, rfl⟩;have HD : Hid (D = decode (getL P S (i : Int))) := hD;clear hD;unfold DecGot;rw [← HD.out];rintro e w3 ⟨v3, rfl, ho3, hB3⟩;have HT3 := hidH (HT2.out.below hB3);have HSQ3 := hidH (HSQ2.out.below hB3);have HSR3 := hidH (HSR2.out.below hB3);have HC3 : Hid (Ch A w w3) := HC2.out.self (Ch.of_below hB3);have HV3 : Hid (Cv w3 v3 D.1) := (own_cv ho3).1;have HF3 : Hid (∀ x, v3.ownBlock = some x → w.heap.size ≤ x) := fun x hx => by have h1 := (ho3.lt x hx).1; have h2 := HC2.out.size; omega
   clear ho3 hB3 HT2 HSQ2 HSR2 HC2 HV2;obtain ⟨va, vc, hvv⟩ := HV3.out.form;obtain ⟨vn, hvn⟩ : ∃ vn, vn = D.1.length := ⟨_, rfl⟩;rw [← hvn] at hvv;subst hvv;have q0 := HSQ3.out.c i hlt;have q1 := HSQ3.out.z i
   have HREL : Hid (R7Rel A w (.pointer (some ⟨sp, 0, none⟩)) dv k P S R Q (.int .i64 ((i : Int) + 1)) (w3.setCell ⟨Q, i, none⟩ (.slice va vn vc))) := by
    refine ⟨i + 1, upd f i (.slice va vn vc), S2, rfl, by omega, hlt, ?_, ?_, ?_, ?_, HRD2.out, HC3.out.trans (ch_set w3 Q i _) (fun x hx => by subst hx; exact .inr HRQ.out.2)⟩
    ·exact HSQ3.out.set hlt (by rw [gP_at hi1, ← HD.out]; exact HV3.out) (fun j _ hj => gP_same hj)
    ·intro j hj x hx;unfold upd at hx;by_cases q : i = j
     ·rw [if_pos q] at hx; exact HF3.out x hx
     ·rw [if_neg q] at hx; exact HFR.out j hj x hx
    ·exact HSR3.out.chA (ch_set w3 Q i _) (by have := HQ.out; omega) (fun j hj x hx e => (by cases hx))
    ·exact HT3.out.setB (fun x hx hA e => by subst e; exact HNA.out.2 hA) (fun s e => by cases e; have h1 := HSP.out; have h2 := HRQ.out.2; omega)
   clear hvn;go_wp2_with fail;go_roundw
   case rel => exact HREL.out
   case measure => simp [intOf]; omega
  ·have hle : ¬ (i : Int) ≤ 6 := by omega
   obtain rfl : i = 7 := by omega
   clear hst;have r0 := HSR.out.c 0 (by omega);have r1 := HSR.out.c 1 (by omega);have r2 := HSR.out.c 2 (by omega);have r3 := HSR.out.c 3 (by omega);have r4 := HSR.out.c 4 (by omega);have r5 := HSR.out.c 5 (by omega);have r6 := HSR.out.c 6 (by omega);have z0 := HSR.out.z 0;have z1 := HSR.out.z 1;have z2 := HSR.out.z 2;have z3 := HSR.out.z 3;have z4 := HSR.out.z 4;have z5 := HSR.out.z 5;have z6 := HSR.out.z 6;unfold nilS at r0 r1 r2 r3 r4 r5 r6;have HFORM : Hid (∀ j, j < 7 → ∃ a n q, f j = .slice a n q) := fun j hj => by obtain ⟨a, q, e⟩ := HSQ.out.form hj; exact ⟨a, _, q, e⟩
   obtain ⟨a0, n0, p0, e0⟩ := HFORM.out 0 (by omega);obtain ⟨a1, n1, p1, e1⟩ := HFORM.out 1 (by omega);obtain ⟨a2, n2, p2, e2⟩ := HFORM.out 2 (by omega);obtain ⟨a3, n3, p3, e3⟩ := HFORM.out 3 (by omega);obtain ⟨a4, n4, p4, e4⟩ := HFORM.out 4 (by omega);obtain ⟨a5, n5, p5, e5⟩ := HFORM.out 5 (by omega);obtain ⟨a6, n6, p6, e6⟩ := HFORM.out 6 (by omega);have q0 := HSQ.out.c 0 (by omega);have q1 := HSQ.out.c 1 (by omega);have q2 := HSQ.out.c 2 (by omega);have q3 := HSQ.out.c 3 (by omega);have q4 := HSQ.out.c 4 (by omega);have q5 := HSQ.out.c 5 (by omega);have q6 := HSQ.out.c 6 (by omega);rw [e0] at q0;rw [e1] at q1;rw [e2] at q2;rw [e3] at q3;rw [e4] at q4;rw [e5] at q5;rw [e6] at q6;have HE : Hid (f 0 = .slice a0 n0 p0 ∧ f 1 = .slice a1 n1 p1 ∧ f 2 = .slice a2 n2 p2 ∧ f 3 = .slice a3 n3 p3 ∧ f 4 = .slice a4 n4 p4 ∧ f 5 = .slice a5 n5 p5 ∧ f 6 = .slice a6 n6 p6) := ⟨e0, e1, e2, e3, e4, e5, e6⟩;have HFIN : Hid (Ch A w (((((((wr.setCell ⟨R, 0, none⟩ (.slice a0 n0 p0)).setCell ⟨R, 1, none⟩ (.slice a1 n1 p1)).setCell ⟨R, 2, none⟩ (.slice a2 n2 p2)).setCell ⟨R, 3, none⟩ (.slice a3 n3 p3)).setCell ⟨R, 4, none⟩ (.slice a4 n4 p4)).setCell ⟨R, 5, none⟩ (.slice a5 n5 p5)).setCell ⟨R, 6, none⟩ (.slice a6 n6 p6))) := ch_seven HC.out (.inr HRQ.out.1) _ _ _ _ _ _ _;have HTF : Hid (RT A (((((((wr.setCell ⟨R, 0, none⟩ (.slice a0 n0 p0)).setCell ⟨R, 1, none⟩ (.slice a1 n1 p1)).setCell ⟨R, 2, none⟩ (.slice a2 n2 p2)).setCell ⟨R, 3, none⟩ (.slice a3 n3 p3)).setCell ⟨R, 4, none⟩ (.slice a4 n4 p4)).setCell ⟨R, 5, none⟩ (.slice a5 n5 p5)).setCell ⟨R, 6, none⟩ (.slice a6 n6 p6)) (.pointer (some ⟨sp, 0, none⟩)) dv k P S') := HT.out.seven HNA.out.1 (by have h1 := HSP.out; have h2 := HRQ.out.1; omega) _ _ _ _ _ _ _;have HCV : Hid (∀ j, j < 7 → Cv (((((((wr.setCell ⟨R, 0, none⟩ (.slice a0 n0 p0)).setCell ⟨R, 1, none⟩ (.slice a1 n1 p1)).setCell ⟨R, 2, none⟩ (.slice a2 n2 p2)).setCell ⟨R, 3, none⟩ (.slice a3 n3 p3)).setCell ⟨R, 4, none⟩ (.slice a4 n4 p4)).setCell ⟨R, 5, none⟩ (.slice a5 n5 p5)).setCell ⟨R, 6, none⟩ (.slice a6 n6 p6)) (f j) (gP P S 7 j)) := fun j hj => (HSQ.out.cv j hj).seven HSR.out _ _ _ _ _ _ _;clear e0 e1 e2 e3 e4 e5 e6;go_wp2_with fail
   (try simp only [Exit.inBlock, Exit.then])
   refine bodyPost_ret (v := .agg #[.slice a0 n0 p0, .slice a1 n1 p1, .slice a2 n2 p2, .slice a3 n3 p3, .slice a4 n4 p4, .slice a5 n5 p5, .slice a6 n6 p6]) (by rw [results_cell1 rfl]; go_simp) rfl ?_;obtain ⟨e0, e1, e2, e3, e4, e5, e6⟩ := HE.out;exact ⟨f, S', by rw [e0, e1, e2, e3, e4, e5, e6], HFORM.out, HFR.out, HCV.out, HTF.out, HRD'.out, HFIN.out⟩
end
end

theorem ord_start {l : List Cl} (hp : 0 < l.length) : ordE (lastK (l.take 1)) (l.drop 1) = ordB l := by
 cases l with
 | nil => simp at hp
 | cons c r => simp [ordB, ordE, folB, lastK]
theorem rrising_some (l : List Cl) (b off cap : Nat) (w : World) (hl : l.length ≤ cap) (hcap : cap ≤ maxLen) (hp : 0 < l.length) (hc : ∀ i, (hi : i < l.length) → CA w b (off + i * 6) l[i]) :
  Calls Tryz.prog 135 #[.slice (some ⟨b, off, none⟩) l.length cap] w fun e w' => e = .returned (.bool (ordB l)) ∧ Below w.heap.size w w' := by
 unfold maxLen at hcap;have hli : (l.length : Int) ≤ 9223372036854775807 := by omega
 have HC := hidH hc;have HP : Hid (0 < l.length) := hp;clear hc hcap hl hp;go_in;go_wp2_with fail;go_loopw [3] (fun iv wr => ∃ i : Nat, iv = .int .i64 i ∧ 1 ≤ i ∧ i ≤ l.length ∧ ordE (lastK (l.take i)) (l.drop i) = ordB l ∧ Below w.heap.size w wr) (fun iv _ => l.length - (intOf iv).toNat)
 case atStart => exact ⟨1, rfl, by omega, HP.out, ord_start HP.out, Below.refl _ _⟩
 case round =>
  obtain ⟨i, rfl, hi1, hil, hord, hbel⟩ := hrel;have HO : Hid (ordE (lastK (l.take i)) (l.drop i) = ordB l) := hord;have HB := hidH hbel;clear hord hbel;by_cases hlt : i < l.length
  ·obtain ⟨j, rfl⟩ : ∃ j, i = j + 1 := ⟨i - 1, by omega⟩;have hA := ((HC.out (j + 1) hlt).keep HB.out).c0;have hD := ((HC.out j (by omega)).keep HB.out).c0;have HLK : Hid (lastK (l.take (j + 1)) = some l[j].k) := lastK_take (by omega);obtain ⟨c, hcd⟩ : ∃ c, l[j + 1].k = c := ⟨_, rfl⟩;obtain ⟨d, hdd⟩ : ∃ d, l[j].k = d := ⟨_, rfl⟩;rw [hcd] at hA;rw [hdd] at hD HLK;have HCD : Hid (l[j + 1].k = c) := hcd;clear hcd hdd;have hlti : ((j + 1 : Nat) : Int) < (l.length : Int) := by omega
   have hltj : (j : Int) < (l.length : Int) := by omega
   have hjj : ((j + 1 : Nat) : Int) - 1 = (j : Int) := by omega
   have hD2 : ∀ n, (wr.drewN n).cell? ⟨b, off + j * 6, none⟩ = some (.int .u64 d) := fun _ => hD;have hA2 : ∀ n, (wr.drewN n).cell? ⟨b, off + (j + 1) * 6, none⟩ = some (.int .u64 c) := fun _ => hA;by_cases hk : c ≤ d
   ·have hki : (c : Int) ≤ (d : Int) := by omega
    have HR : Hid (ordB l = false) := ord_stop hlt HO.out (by rw [HLK.out, HCD.out]; simp [folB]; omega);go_wp2_with fail;go_quiet (fail);go_wp2_with fail;go_ret;exact ⟨by rw [HR.out]; rfl, below_trans HB.out (below_drewN _ _)⟩
   ·have hki : ¬ (c : Int) ≤ (d : Int) := by omega
    have HR : Hid (ordE (lastK (l.take (j + 1 + 1))) (l.drop (j + 1 + 1)) = ordB l) := ord_step hlt HO.out (by rw [HLK.out, HCD.out]; simp [folB]; omega);go_wp2_with fail;go_quiet (fail);have HB2 : Hid (Below w.heap.size w (wr.drewN nq)) := below_trans HB.out (below_drewN _ _);go_wp2_with fail;go_roundw
    case rel => exact ⟨j + 1 + 1, by go_num, by omega, by omega, HR.out, HB2.out⟩
    case measure => simp [intOf]; omega
  ·have hlti : ¬ (i : Int) < (l.length : Int) := by omega
   have HR : Hid (ordB l = true) := ord_end (by omega) HO.out;go_wp2_with fail;go_ret;exact ⟨by rw [HR.out]; rfl, HB.out⟩
theorem rrising_none (ao : Option Addr) (cap : Nat) (w : World) :
  Calls Tryz.prog 135 #[.slice ao 0 cap] w fun e w' => e = .returned (.bool true) ∧ Below w.heap.size w w' := by
 go_in;go_wp2;refine wp_loop_rounds 1 ?_;rw [rounds_succ];go_wp2;go_ret;exact ⟨rfl, Below.refl _ _⟩
theorem rrising_walk {w : World} {v : Value} {l : List Cl} (h : Cv w v l) :
  Calls Tryz.prog 135 #[v] w fun e w' => e = .returned (.bool (ordB l)) ∧ Below w.heap.size w w' := by
 rcases cv_cases h with ⟨rfl, ao, cap, rfl⟩ | ⟨b, off, cap, rfl, hp, h1, h2, h3⟩
 ·exact rrising_none ao cap w
 ·exact rrising_some l b off cap w h1 h2 hp h3
theorem rfind_some (l : List Cl) (b off cap k : Nat) (w : World) (hl : l.length ≤ cap) (hcap : cap ≤ maxLen) (hc : ∀ i, (hi : i < l.length) → CA w b (off + i * 6) l[i]) :
  Calls Tryz.prog 66 #[.slice (some ⟨b, off, none⟩) l.length cap, .int .u64 k] w fun e w' => e = .returned (.tuple #[.int .i64 (findI l k), .bool (findB l k)]) ∧ Below w.heap.size w w' := by
 have HV : Hid (Cv w (.slice (some ⟨b, off, none⟩) l.length cap) l) := cv_of hl hcap hc;unfold maxLen at hcap;have hli : (l.length : Int) ≤ 9223372036854775807 := by omega
 have HC := hidH hc;clear hc hcap hl
 cases ho : ordB l
 ·have e1 : findI l k = 0 := by simp [findI, ho]
  have e2 : findB l k = false := by simp [findB, ho]
  rw [e1, e2];go_in;go_wp2_with fail;refine (rrising_walk HV.out).mono ?_;rw [ho];rintro e w1 ⟨rfl, hB1⟩;go_wp2_with fail;go_ret2;exact ⟨rfl, hB1⟩
 ·have e1 : findI l k = fndF l k := by simp [findI, ho]
  have e2 : findB l k = isK l (fndF l k) k := by simp [findB, ho]
  rw [e1, e2];clear e1 e2;go_in;go_wp2_with fail;refine (rrising_walk HV.out).mono ?_;rw [ho];rintro e w1 ⟨rfl, hB1⟩;have HB := hidH hB1;clear hB1 ho HV;go_wp2_with fail;go_loop [6] (fun iv => ∃ i : Nat, iv = .int .i64 i ∧ i ≤ l.length ∧ i + fndF (l.drop i) k = fndF l k) (fun iv => l.length - (intOf iv).toNat)
  case atStart => exact ⟨0, rfl, by omega, by simp⟩
  case round =>
   obtain ⟨i, rfl, hil, hfn⟩ := hrel;have HF : Hid (i + fndF (l.drop i) k = fndF l k) := hfn;clear hfn;by_cases hlt : i < l.length
   ·have hA := (HC.out i hlt).keep HB.out;obtain ⟨c, hcd⟩ : ∃ c, l[i] = c := ⟨_, rfl⟩;rw [hcd] at hA;have HCD : Hid (l[i] = c) := hcd;clear hcd;have hlti : (i : Int) < (l.length : Int) := by omega
    have c0 := hA.c0;have hcw : ∀ n, (w1.drewN n).cell? ⟨b, off + i * 6, none⟩ = some (.int .u64 c.k) := fun _ => c0;clear hA;by_cases hk : c.k < k
    ·have hki : (c.k : Int) < (k : Int) := by omega
     have HR : Hid (i + 1 + fndF (l.drop (i + 1)) k = fndF l k) := fnd_step hlt HF.out (by rw [HCD.out]; exact hk);go_wp2_with fail;go_round
     case rel => exact ⟨i + 1, by go_num, by omega, HR.out⟩
     case measure => simp [intOf]; omega
    ·have hki : ¬ (c.k : Int) < (k : Int) := by omega
     have HR : Hid (i = fndF l k) := fnd_stop hlt HF.out (by rw [HCD.out]; exact hk);have HK : Hid (isK l (fndF l k) k = decide (c.k = k)) := by show _ = _; rw [← HR.out]; simp [isK, hlt, HCD.out]
     have hB0 := HB.out;by_cases he : c.k = k
     ·have hke : ((c.k : Int) == (k : Int)) = true := by simp [he]
      go_wp2_with fail;go_quiet (fail);go_wp2_with fail;go_ret2;exact ⟨by rw [HK.out, ← HR.out]; simp [he], below_trans HB.out (below_drewN _ _)⟩
     ·have hke : ((c.k : Int) == (k : Int)) = false := by simp; omega
      go_wp2_with fail;go_quiet (fail);go_wp2_with fail;go_ret2;exact ⟨by rw [HK.out, ← HR.out]; simp [he], below_trans HB.out (below_drewN _ _)⟩
   ·have hlti : ¬ (i : Int) < (l.length : Int) := by omega
    have HR : Hid (i = fndF l k) := fnd_end (by omega) HF.out;have HK : Hid (isK l (fndF l k) k = false) := by show _ = _; rw [← HR.out]; simp [isK, List.getElem?_eq_none (Nat.le_of_not_lt hlt)]
    go_wp2_with fail;go_quiet (fail);go_wp2_with fail;go_ret2;exact ⟨by rw [HK.out, ← HR.out]; rfl, below_trans HB.out (below_drewN _ _)⟩
theorem rfind_none (ao : Option Addr) (cap k : Nat) (w : World) :
  Calls Tryz.prog 66 #[.slice ao 0 cap, .int .u64 k] w fun e w' => e = .returned (.tuple #[.int .i64 0, .bool false]) ∧ Below w.heap.size w w' := by
 go_in;go_wp2_with fail;refine (rrising_none ao cap _).mono ?_;rintro e w1 ⟨rfl, hB1⟩;go_wp2_with fail;refine wp_loop_rounds 1 ?_;rw [rounds_succ];go_wp2_with fail;go_quiet (fail);go_wp2_with fail;go_ret2;exact ⟨rfl, below_trans hB1 (below_drewN _ _)⟩
theorem rfind_walkB {w : World} {v : Value} {l : List Cl} (h : Cv w v l) (k : Nat) :
  Calls Tryz.prog 66 #[v, .int .u64 k] w fun e w' => e = .returned (.tuple #[.int .i64 (findI l k), .bool (findB l k)]) ∧ Below w.heap.size w w' := by
 rcases cv_cases h with ⟨rfl, ao, cap, rfl⟩ | ⟨b, off, cap, rfl, hp, h1, h2, h3⟩
 ·exact rfind_none ao cap k w
 ·exact rfind_some l b off cap k w h1 h2 h3
end Go.Proofs.YtcmklbibehnloaaGreat
