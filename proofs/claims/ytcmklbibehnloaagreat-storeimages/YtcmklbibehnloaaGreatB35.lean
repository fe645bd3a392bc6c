/- The reference's book: Get, Root, Right. -/
import Derived.Test.YtcmklbibehnloaaGreatB34
set_option maxRecDepth 100000
set_option maxHeartbeats 16000000
namespace Go.Proofs.YtcmklbibehnloaaGreat
open Go.RowKit
def SoYes (k : Int) (S : Dk) (P : Bo) (m : Mk) (Ls : List (List Cl)) : Prop := knownB k = true ∧ opI S = 0 ∧ opB S = some P ∧ P.tab.length = 7 ∧ decM (getL P S 0) = (m, 0) ∧ decP P S 6 = some Ls ∧ OkS k m Ls
def SoNo (k : Int) (S : Dk) (c : Int) : Prop := (knownB k = false ∧ c = 1) ∨ (knownB k = true ∧ opI S ≠ 0 ∧ c = opI S) ∨ (knownB k = true ∧ opI S = 0 ∧ c = 133 ∧ ∀ P m Ls, ¬ SoYes k S P m Ls)
def SoGot (D : Nat → Prop) (w : World) (dv : Value) (k : Int) (S : Dk) (e : Ending) (w' : World) : Prop :=
 ∃ S', Rdd 9 S S' ∧ Ch D w w' ∧
  ((∃ c D', e = .returned (.tuple #[.pointer none, .int .i64 c]) ∧ SoNo k S c ∧ Dsk 92 D' w' dv S' ∧ ∀ x, D' x → D x ∨ w.heap.size ≤ x) ∨
   (∃ A' sp P m Ls, e = .returned (.tuple #[.pointer (some ⟨sp, 0, none⟩), .int .i64 0]) ∧ SoYes k S P m Ls ∧ w.heap.size ≤ sp ∧ ST A' w' (.pointer (some ⟨sp, 0, none⟩)) dv k P S' ∧ ∀ x, A' x → D x ∨ w.heap.size ≤ x))
theorem held_ov (S : Dk) : ∀ n P, heldK S n = some P → P.over = false := by
 intro n
 induction n with
 | zero => intro P h; cases h
 | succ n ih =>
  intro P h;unfold heldK pickB at h
  split at h
  ·exact ih P h
  ·split at h
   ·cases h; rfl
   ·split at h
    ·cases h; rfl
    ·cases h; exact ih _ (by assumption)
theorem op_shut {S S' : Dk} {P : Bo} {j : Nat} (h : opI S = 0) (hp : opB S = some P) (hr : Rdd j S S') : shutB P S' = false := by
 cases hd : S.down
 ·unfold opB at hp;rw [hd] at hp;have := held_ov S 2 P (by simpa using hp);unfold shutB;rw [this, hr.dn, hd];rfl
 ·unfold opI at h;rw [hd] at h;simp at h
theorem op_some {S : Dk} (h : opI S = 0) : ∃ P, opB S = some P ∧ opS S = rdS S 2 := by
 cases hd : S.down
 ·unfold opI at h;rw [hd] at h;unfold opB opS;rw [hd];simp at h ⊢
  cases hh : heldK S 2
  ·rw [hh] at h; simp at h
  ·exact ⟨_, rfl⟩
 ·unfold opI at h;rw [hd] at h;simp at h
theorem op_none {S : Dk} (h : opI S ≠ 0) : opB S = none ∧ Rdd 2 S (opS S) := by
 cases hd : S.down
 ·unfold opI at h;rw [hd] at h;unfold opB opS;rw [hd];simp at h ⊢;exact ⟨h, rdS_rdd S 2⟩
 ·unfold opB opS;rw [hd];exact ⟨rfl, Rdd.refl _⟩
theorem so_one {k : Int} {S : Dk} {P P' : Bo} {m m' : Mk} {Ls Ls' : List (List Cl)} (h : SoYes k S P m Ls) (h' : SoYes k S P' m' Ls') : P' = P ∧ m' = m ∧ Ls' = Ls := by
 obtain ⟨_, _, a, _, b, c, _⟩ := h;obtain ⟨_, _, a', _, b', c', _⟩ := h';rw [a] at a'
 cases a'
 rw [b] at b';rw [c] at c'
 cases b'
 cases c'
 exact ⟨rfl, rfl, rfl⟩
theorem sopen_any {D : Nat → Prop} {w : World} {dv : Value} {S : Dk} (hd : Dsk 92 D w dv S) (hrd : S.rd < 1000000000) (k : Int) :
  Calls Tryz.prog 7 #[dv, .int .i64 k] w (SoGot D w dv k S) := by
 have HD := hidH hd;have HRD : Hid (S.rd < 1000000000) := hrd;obtain ⟨sb, hsb⟩ : ∃ sb, dv = .pointer (some ⟨sb, 0, none⟩) := by obtain ⟨sb, gp, cap, e, _⟩ := hd; exact ⟨sb, e⟩
 subst hsb;clear hd hrd
 cases hkn : knownB k
 ·go_in;go_wp2_with fail;refine (srefuses_walk sb k _).mono ?_;unfold refK;rw [hkn, if_neg (by simp)];rintro e w1 ⟨rfl, hw1⟩;replace hw1 := hw1.symm;subst hw1;go_wp2_with fail;go_ret2;exact ⟨S, Rdd.refl _, Ch.refl _ _, .inl ⟨1, D, rfl, .inl ⟨hkn, rfl⟩, HD.out, fun x hx => .inl hx⟩⟩
 by_cases hop : opI S = 0;rotate_left
 ·have hon := op_none hop;have HON : Hid (opB S = none ∧ Rdd 2 S (opS S)) := hon;obtain ⟨OI, hOI⟩ : ∃ OI, OI = opI S := ⟨_, rfl⟩;have HOI : Hid (OI = opI S) := hOI;have hoi0 : ¬ OI = 0 := by rw [hOI]; exact hop
  have HOP : Hid (opI S ≠ 0) := hop;clear hon hop hOI;go_in;go_wp2_with fail;refine (srefuses_walk sb k _).mono ?_;unfold refK;rw [if_pos hkn];rintro e w1 ⟨rfl, hw1⟩;replace hw1 := hw1.symm;subst hw1;go_wp2_with fail;refine (open_walk HD.out (by have := HRD.out; omega)).mono ?_;rw [← HOI.out];rintro e w1 ⟨v1, rfl, hno, _, hc1⟩;obtain ⟨rfl, D', hD', hx⟩ := hno HON.out.1
  have HF : Hid (SoGot D w (.pointer (some ⟨sb, 0, none⟩)) k S (.returned (.tuple #[.pointer none, .int .i64 OI])) w1) :=
   ⟨opS S, HON.out.2.mono (by omega), hc1, .inl ⟨OI, D', rfl, .inr (.inl ⟨hkn, HOP.out, HOI.out⟩), hD', hx⟩⟩
  clear hno hc1 hD' hx;go_wp2_with fail;go_ret2;exact HF.out
 obtain ⟨P, hP, hS⟩ := op_some hop;have HOP : Hid (opI S = 0) := hop;have HP : Hid (opB S = some P) := hP;have HSS : Hid (opS S = rdS S 2) := hS;have HKN : Hid (knownB k = true) := hkn;clear hop hP hS;go_in;go_wp2_with fail;refine (srefuses_walk sb k _).mono ?_;unfold refK;rw [if_pos hkn];rintro e w1 ⟨rfl, hw1⟩;replace hw1 := hw1.symm;subst hw1;clear hkn;go_wp2_with fail;refine (open_walk HD.out (by have := HRD.out; omega)).mono ?_;rw [HOP.out, HP.out, HSS.out];rintro e w1 ⟨v1, rfl, _, hyes, hc1⟩;obtain ⟨A, hbk, hA⟩ := hyes P rfl;obtain ⟨S1, hS1⟩ : ∃ S1, S1 = rdS S 2 := ⟨_, rfl⟩;rw [← hS1] at hbk;have HR1 : Hid (Rdd 2 S S1) := by rw [hS1]; exact rdS_rdd S 2
 have HBK := hidH hbk;have HA := hidH hA;have HC1 : Hid (Ch D w w1) := hc1;have HAL : Hid (∀ x, A x → x < w1.heap.size) := fun x hx => hbk.lt hx;obtain ⟨pb, hpb⟩ : ∃ pb, v1 = .pointer (some ⟨pb, 0, none⟩) := by obtain ⟨D', pb, tv, e, _⟩ := hbk; exact ⟨pb, e⟩
 subst hpb;clear hyes hbk hA hc1 hS1;by_cases h7 : P.tab.length = 7;rotate_left
 ·have h7i : ¬ (P.tab.length : Int) = 7 := by omega
  have HNO : Hid (SoNo k S 133) := .inr (.inr ⟨HKN.out, HOP.out, rfl, fun P' m Ls h => by
   have e := h.2.2.1;rw [HP.out] at e
   cases e
   exact h7 h.2.2.2.1⟩)
  go_wp2_with fail;refine (pages_walk HBK.out).mono ?_;rintro e wz ⟨rfl, hwz⟩;replace hwz := hwz.symm;subst hwz;go_wp2_with fail;go_ret2;obtain ⟨D', hD', hDA⟩ := Bk.dsk HBK.out;exact ⟨S1, HR1.out.mono (by omega), HC1.out, .inl ⟨133, D', rfl, HNO.out, hD', fun x hx => HA.out x (hDA x hx)⟩⟩
 have H7 : Hid (P.tab.length = 7) := h7;clear h7;go_wp2_with fail;refine (pages_walk HBK.out).mono ?_;rw [H7.out];rintro e wz ⟨rfl, hwz⟩;replace hwz := hwz.symm;subst hwz
 have HST : Hid (ST A (w1.alloc (Obj.cells #[.pointer (some ⟨pb, 0, none⟩), .int .i64 k] 84)) (.pointer (some ⟨w1.heap.size, 0, none⟩)) (.pointer (some ⟨sb, 0, none⟩)) k P S1) :=
  ⟨w1.heap.size, _, rfl, heap_alloc_new w1 _, fun e => by have := HAL.out _ e; omega, HBK.out.below (below_alloc _ _), H7.out⟩
 have HCa : Hid (Ch D w (w1.alloc (Obj.cells #[.pointer (some ⟨pb, 0, none⟩), .int .i64 k] 84))) := HC1.out.self (Ch.of_below (below_alloc _ _));have HSP : Hid (w.heap.size ≤ w1.heap.size) := HC1.out.size;go_upto_region 10 with fail
 generalize w1.heap.size = sp at HST HSP ⊢;generalize w1.alloc (Obj.cells #[.pointer (some ⟨pb, 0, none⟩), .int .i64 k] 84) = w2 at HST HCa ⊢;clear HBK HC1;go_wp2_with fail;refine (smark_walk HST.out (by have h1 := HR1.out.rd; have h2 := HRD.out; omega)).mono ?_;rintro e w3 ⟨cc, m, kv, S3, rfl, ho, hcase, hst3, hr3, hc3⟩;have HR3 : Hid (Rdd 3 S S3) := (HR1.out.trans hr3).mono (by omega);have HSH1 : Hid (shutB P S1 = false) := op_shut HOP.out HP.out HR1.out;rw [getB_ok HSH1.out] at hst3;have HST3 := hidH hst3;have HC3 : Hid (Ch D w w3) := HCa.out.trans hc3 HA.out;have HW23 : Hid (w2.heap.size ≤ w3.heap.size) := hc3.size;have HKV : Hid (Kv w3 kv m.k) := own_sv ho;have HKB : Hid (∀ x, kv.ownBlock = some x → w2.heap.size ≤ x ∧ x < w3.heap.size) := fun x hx => ho.lt x hx;have HAL2 : Hid (∀ x, A x → x < w2.heap.size) := fun x hx => HST.out.lt hx;obtain ⟨ka, kn, kc, rfl⟩ := sv_any HKV.out;clear ho hst3 hr3 hc3 HCa
 have HMC : Hid ((cc = 133 ∧ (decM (getL P S 0)).2 ≠ 0) ∨ (cc = 0 ∧ decM (getL P S 0) = (m, 0))) := by
  rw [rdd_getL HR1.out] at hcase;rcases hcase with ⟨_, h, _⟩ | ⟨h1, _, h2, _⟩ | ⟨h1, _, h2⟩
  ·rw [HSH1.out] at h; cases h
  ·exact .inl ⟨h1, h2⟩
  ·exact .inr ⟨h1, h2⟩
 clear hcase;by_cases hcc : cc = 133
 ·subst hcc
  have HNO : Hid (SoNo k S 133) := .inr (.inr ⟨HKN.out, HOP.out, rfl, fun P' m' Ls h => by
   have e := h.2.2.1;rw [HP.out] at e
   cases e
   have e2 := h.2.2.2.2.1;rcases HMC.out with ⟨_, q⟩ | ⟨q, _⟩
   ·rw [e2] at q; exact q rfl
   ·omega⟩)
  go_wp2_with fail;go_ret2;obtain ⟨D', hD', hDA⟩ := (HST3.out.below (below_alloc _ _)).dsk;exact ⟨S3, HR3.out.mono (by omega), HC3.out.self (Ch.of_below (below_alloc _ _)), .inl ⟨133, D', rfl, HNO.out, hD', fun x hx => HA.out x (hDA x hx)⟩⟩
 have hc0 : cc = 0 ∧ decM (getL P S 0) = (m, 0) := by
  rcases HMC.out with ⟨q, _⟩ | q
  ·exact absurd q hcc
  ·exact q
 obtain ⟨rfl, hmk⟩ := hc0;have HMK : Hid (decM (getL P S 0) = (m, 0)) := hmk;clear hmk HMC hcc;go_upto_region 11 with fail
 have HM3 : Hid (MB (w3.alloc (Obj.cells #[.int .i64 m.b, .int .i64 m.a, .slice ka kn kc] 65)) w3.heap.size m.b m.a (.slice ka kn kc)) := mb_new w3 m.b m.a (.slice ka kn kc);have HB3 : Hid (Below w3.heap.size w3 (w3.alloc (Obj.cells #[.int .i64 m.b, .int .i64 m.a, .slice ka kn kc] 65))) := below_alloc _ _;obtain ⟨MX, hMX⟩ : ∃ MX, MX = w3.heap.size := ⟨_, rfl⟩;have HMX : Hid (MX = w3.heap.size) := hMX;rw [← hMX] at HM3 ⊢;clear hMX;generalize w3.alloc (Obj.cells #[.int .i64 m.b, .int .i64 m.a, .slice ka kn kc] 65) = w4 at HM3 HB3 ⊢;have HST4 := hidH (HST3.out.below HB3.out);have HC4 : Hid (Ch D w w4) := HC3.out.self (Ch.of_below HB3.out);have HKV4 := hidH (HKV.out.below HB3.out);clear HST3 HC3 HKV;go_wp2_with fail;refine (cells_walk HST4.out (by have h1 := HR3.out.rd; have h2 := HRD.out; omega)).mono ?_;rintro e w5 ⟨c, f, S5, rfl, hform, hfr, hcase, hst5, hr5, hc5⟩;have HSH5 : Hid (shutB P S3 = false) := op_shut HOP.out HP.out HR3.out;rw [getB_ok HSH5.out] at hst5;have HST5 := hidH hst5;have HR5 : Hid (Rdd 9 S S5) := (HR3.out.trans hr5).mono (by omega);have HC5 : Hid (Ch D w w5) := HC4.out.trans hc5 HA.out;have HNA : Hid (∀ x, w2.heap.size ≤ x → ¬ A x) := fun x hx e => by have := HAL2.out x e; omega
 have HMXW : Hid (w2.heap.size ≤ MX) := by
  have := HMX.out;show _ ≤ _;rw [this];exact HW23.out
 have HM5 : Hid (MB w5 MX m.b m.a (.slice ka kn kc)) := ⟨hc5.cell HM3.out.c0 (HNA.out _ HMXW.out), hc5.cell HM3.out.c1 (HNA.out _ HMXW.out), hc5.cell HM3.out.c2 (HNA.out _ HMXW.out), fun j => by rw [frozen_ch (p := ⟨MX, j, none⟩) hc5 (show MX < _ from cell_lt HM3.out.c0) (HNA.out _ HMXW.out)]; exact HM3.out.z j⟩;have HKV5 : Hid (Kv w5 (.slice ka kn kc) m.k) := kv_ch HKV4.out hc5 (fun x hx => HNA.out x (HKB.out x hx).1);obtain ⟨a0, n0, p0, e0⟩ := hform 0 (by omega);obtain ⟨a1, n1, p1, e1⟩ := hform 1 (by omega);obtain ⟨a2, n2, p2, e2⟩ := hform 2 (by omega);obtain ⟨a3, n3, p3, e3⟩ := hform 3 (by omega);obtain ⟨a4, n4, p4, e4⟩ := hform 4 (by omega);obtain ⟨a5, n5, p5, e5⟩ := hform 5 (by omega)
 have HCS : Hid ((c = 133 ∧ decP P S 6 = none) ∨ (c = 0 ∧ ∃ Ls, decP P S 6 = some Ls ∧ ∀ j, j < 6 → Cv w5 (f j) (pgc Ls j))) := by
  rw [rdd_decP HR3.out] at hcase;rcases hcase with ⟨_, h⟩ | ⟨h1, _, h⟩ | ⟨h1, h2, L', h3, h4⟩
  ·rw [HSH5.out] at h; cases h
  ·exact .inl ⟨h1, h⟩
  ·exact .inr ⟨h1, L', h3, h4⟩
 rw [e0, e1, e2, e3, e4, e5];by_cases hcc : c = 133
 ·subst hcc
  have HNO : Hid (SoNo k S 133) := .inr (.inr ⟨HKN.out, HOP.out, rfl, fun P' m' Ls h => by
   have e := h.2.2.1;rw [HP.out] at e
   cases e
   have e2 := h.2.2.2.2.2.1;rcases HCS.out with ⟨_, q⟩ | ⟨q, _⟩
   ·rw [e2] at q; cases q
   ·omega⟩)
  clear hform hfr hcase hst5 hr5 hc5 e0 e1 e2 e3 e4 e5;go_wp2_with fail;go_ret2;obtain ⟨D', hD', hDA⟩ := (HST5.out.below (below_alloc _ _)).dsk;exact ⟨S5, HR5.out, HC5.out.self (Ch.of_below (below_alloc _ _)), .inl ⟨133, D', rfl, HNO.out, hD', fun x hx => HA.out x (hDA x hx)⟩⟩
 have hc0 : c = 0 ∧ ∃ Ls, decP P S 6 = some Ls ∧ ∀ j, j < 6 → Cv w5 (f j) (pgc Ls j) := by
  rcases HCS.out with ⟨q, _⟩ | q
  ·exact absurd q hcc
  ·exact q
 obtain ⟨rfl, Ls, hdp, hcv⟩ := hc0;have HDP : Hid (decP P S 6 = some Ls) := hdp;have HPK : Hid (Pok Ls) := decP_ok6 hdp (fun p => by rw [← rdd_getL HR3.out]; exact (getL_lt HST4.out p).2)
 have HSL : Hid (SH (w5.alloc (Obj.cells #[.slice a0 n0 p0, .slice a1 n1 p1, .slice a2 n2 p2, .slice a3 n3 p3, .slice a4 n4 p4, .slice a5 n5 p5] 87)) w5.heap.size f Ls) := by
  have h := sh_lit w5 f HPK.out.1 hcv;rw [e0, e1, e2, e3, e4, e5] at h;exact h
 have HB6 : Hid (Below w5.heap.size w5 (w5.alloc (Obj.cells #[.slice a0 n0 p0, .slice a1 n1 p1, .slice a2 n2 p2, .slice a3 n3 p3, .slice a4 n4 p4, .slice a5 n5 p5] 87))) := below_alloc _ _;clear hform hfr hcase hst5 hr5 hc5 e0 e1 e2 e3 e4 e5 hdp hcv hcc HCS;go_upto_region 14 with fail
 obtain ⟨TX, hTX⟩ : ∃ TX, TX = w5.heap.size := ⟨_, rfl⟩;rw [← hTX] at HSL ⊢;clear hTX;generalize (w5.alloc (Obj.cells #[.slice a0 n0 p0, .slice a1 n1 p1, .slice a2 n2 p2, .slice a3 n3 p3, .slice a4 n4 p4, .slice a5 n5 p5] 87)) = w6 at HSL HB6 ⊢;obtain ⟨c0, c1, c2, _⟩ := HM5.out.keep HB6.out;have HKV6 := hidH (HKV5.out.below HB6.out)
 have HFOK : Hid (∀ c ∈ Ls.flatten, c.okB) := fun c hc => by
  obtain ⟨i, hi, h⟩ := ins_flat HPK.out.1 hc;exact HPK.out.2.1 i hi c h
 go_wp2_with fail;refine (right_any HSL.out HKV6.out HPK.out.2.2 HFOK.out).mono ?_;rintro e w7 ⟨b, rfl, hbi, hb7⟩;have HB7 := hidH (below_trans HB6.out hb7);have HBI : Hid (b = true ↔ OkS k m Ls) := hbi;clear hb7 c0 c1 c2 hbi
 cases b
 ·have HNO : Hid (SoNo k S 133) := .inr (.inr ⟨HKN.out, HOP.out, rfl, fun P' m' Ls' h => by
   have e := h.2.2.1;rw [HP.out] at e
   cases e
   have e2 := h.2.2.2.2.1;rw [HMK.out] at e2
   cases e2
   have e3 := h.2.2.2.2.2.1;rw [HDP.out] at e3
   cases e3
   have := HBI.out.2 h.2.2.2.2.2.2
   cases this⟩)
  go_wp2_with fail;go_ret2;obtain ⟨D', hD', hDA⟩ := (HST5.out.below HB7.out).dsk;exact ⟨S5, HR5.out, HC5.out.self (Ch.of_below HB7.out), .inl ⟨133, D', rfl, HNO.out, hD', fun x hx => HA.out x (hDA x hx)⟩⟩
 ·have HYE : Hid (SoYes k S P m Ls) := ⟨HKN.out, HOP.out, HP.out, H7.out, HMK.out, HDP.out, HBI.out.1 rfl⟩;go_wp2_with fail;go_ret2;exact ⟨S5, HR5.out, HC5.out.self (Ch.of_below HB7.out), .inr ⟨A, sp, P, m, Ls, rfl, HYE.out, HSP.out, HST5.out.below HB7.out, HA.out⟩⟩
section
section

variable {T : TypeId} {D : Nat → Prop} {w w' : World} {v : Value} {sb gp cap : Nat} {S : Dk}

theorem rdown_walk (h : Dsk T D w v S) : Calls Tryz.prog 108 #[v] w fun e w' => e = .returned (.bool S.down) ∧ w' = w := by
 obtain ⟨sb, gp, cap, rfl, h, hok⟩ := h;have c1 := h.c1;clear h hok;go_in;go_wp2_with fail;go_ret;exact ⟨rfl, rfl⟩
theorem rblocks_walk (h : Dsk T D w v S) : Calls Tryz.prog 100 #[v] w fun e w' => e = .returned (.int .i64 S.bl.length) ∧ w' = w := by
 obtain ⟨sb, gp, cap, rfl, h, hok⟩ := h;have c0 := h.c0;clear h hok;go_in;go_wp2_with fail;go_ret;exact ⟨rfl, rfl⟩
end
end
section
section

variable {T : TypeId} {D : Nat → Prop} {w w' : World} {v bv : Value} {sb gp cap : Nat} {S : Dk} {b : List Nat}

theorem ref_cases (S : Dk) (i : Int) : (S.down = true ∧ refI S i = 80) ∨ (S.down = false ∧ i < 0 ∧ refI S i = 81) ∨ (S.down = false ∧ 0 ≤ i ∧ (S.bl.length : Int) ≤ i ∧ refI S i = 81) ∨ (refI S i = 0) := by
 unfold refI
 cases S.down
 ·rw [if_neg (by simp)];by_cases h0 : i < 0
  ·exact .inr (.inl ⟨rfl, h0, by rw [if_pos (.inl h0)]⟩)
  ·by_cases h1 : (S.bl.length : Int) ≤ i
   ·exact .inr (.inr (.inl ⟨rfl, by omega, h1, by rw [if_pos (.inr h1)]⟩))
   ·exact .inr (.inr (.inr (by rw [if_neg (by omega)])))
 ·exact .inl ⟨rfl, by rw [if_pos rfl]⟩
theorem rread_walk (h : Dsk T D w v S) (i : Int) (hrd : S.rd < 9223372036854775807) : Calls Tryz.prog 109 #[v, .int .i64 i] w fun e w' => Rd T D w v S i e w' := by
 have HW : Hid (Dsk T D w v S) := h;obtain ⟨sb, gp, cap, rfl, h, hok⟩ := h;have HM := hidH h;have HK : Hid S.ok := hok;clear h hok;by_cases hr : refI S i = 0
 ·obtain ⟨hdn, k, rfl, hk⟩ := ref_ok hr;have HR : Hid (refI S k = 0) := hr;have c1 := HM.out.c1;rw [hdn] at c1;have hk0 : (k : Int) < (S.bl.length : Int) := by omega
  clear hr hdn;have c3 := HM.out.c3;have f3 := HM.out.soft 3;have c0 := HM.out.c0;have HM2 : Hid (DM T D (w.setCell ⟨sb, 3, none⟩ (.int .i64 ((S.rd : Int) + 1))) sb gp cap { S with rd := S.rd + 1 }) := HM.out.put 3 _ rfl rfl;obtain ⟨u, hu, hoc, _⟩ := HM2.out.row.at (i := k) hk;have HBv : Hid (Bv (w.setCell ⟨sb, 3, none⟩ (.int .i64 ((S.rd : Int) + 1))) u (bk S.bl k)) := hoc.bv (HK.out.byt _ (bk_mem hk));have HL : Hid ((bk S.bl k).length ≤ 140737488355328) := Nat.le_trans (HK.out.len _ (bk_mem hk)) (by omega)
  have hu0 : w.cell? ⟨gp, k, none⟩ = some u := by
   rw [← hu]; exact (World.cell?_of_block (w := w) (a := ⟨gp, k, none⟩) (set_other 3 _ HM.out.a1)).symm
  obtain ⟨p, hp⟩ : ∃ p, p = bk S.bl k := ⟨_, rfl⟩;rw [← hp] at HBv HL;have HP : Hid (p = bk S.bl k) := hp;obtain ⟨ao, cp, rfl, _, _⟩ := bv_formD HBv.out;have r1 : IntKind.i64.wrap ((S.rd : Int) + 1) = (S.rd : Int) + 1 := wrapU (by omega) (by omega);have h64 := HK.out.n64;have hne1 : ¬ gp = sb := HM.out.a1;have hne2 : ¬ sb = gp := fun e => HM.out.a1 e.symm;clear hoc hp hu hrd;go_in;go_wp2_with fail;refine (rclone_walk HBv.out HL.out).mono ?_;rintro e w2 ⟨r, rfl, ho, hB⟩;go_wp2_with fail;go_ret2;exact rd_ok HR.out rfl ⟨sb, gp, cap, rfl, HM2.out, ok_rd HK.out _⟩ (ch_put _ _ HM.out.d1) (by rw [← HP.out]; exact ho) hB
 ·have HA : Hid (Rd T D w (.pointer (some ⟨sb, 0, none⟩)) S i (.returned (.tuple #[.slice none 0 0, .int .i64 (refI S i)])) w) := rd_bad HW.out hr;have c0 := HM.out.c0;have c1 := HM.out.c1;have h64 := HK.out.n64;rcases ref_cases S i with ⟨hd, hq⟩ | ⟨hd, h0, hq⟩ | ⟨hd, h0, h1, hq⟩ | hq
  ·rw [hq] at HA;rw [hd] at c1;clear hd hq hr hrd;go_in;go_wp2_with fail;go_ret2;exact HA.out
  ·rw [hq] at HA;rw [hd] at c1;clear hd hq hr hrd;go_in;go_wp2_with fail;go_ret2;exact HA.out
  ·rw [hq] at HA;rw [hd] at c1;clear hd hq hr hrd;go_in;go_wp2_with fail;go_ret2;exact HA.out
  ·exact absurd hq hr
end
end
section
theorem mem_tn {t : List Nat} {x : Nat} : x ∈ t ↔ ∃ i, i < t.length ∧ tn t i = x := by
 constructor
 ·intro h;obtain ⟨i, hi, e⟩ := List.getElem_of_mem h;exact ⟨i, hi, by rw [tn_at hi]; exact e⟩
 ·rintro ⟨i, hi, rfl⟩; exact tn_mem hi
theorem rhas_walkP {w : World} {v : Value} {t : List Nat} (h : Tw w v t) (hl : t.length ≤ 64) (x : Nat) :
  Calls Tryz.prog 170 #[v, .int .i64 x] w fun e w' => e = .returned (.bool (decide (x ∈ t))) ∧ w' = w := by
 have HT : Hid (Tw w v t) := h;obtain ⟨ao, cap, rfl, h1, h2⟩ := h.form;have hli : (t.length : Int) ≤ 64 := by omega
 obtain ⟨B, hB⟩ : ∃ B, B = decide (x ∈ t) := ⟨_, rfl⟩;rw [← hB];have HB : Hid (B = decide (x ∈ t)) := hB;clear h h1 h2 hl hB;go_in;go_wp2_with fail;go_loop [5] (fun iv => ∃ k : Nat, k ≤ t.length ∧ iv = .int .i64 k ∧ ∀ i, i < k → tn t i ≠ x) (fun iv => t.length - (intOf iv).toNat)
 case atStart => exact ⟨0, Nat.zero_le _, rfl, fun i hi => by omega⟩
 case round =>
  obtain ⟨k, hk, rfl, hno⟩ := hrel;have HN := hidH hno;clear hno;by_cases hlt : k < t.length
  ·obtain ⟨b, off, rfl, hc⟩ := HT.out.at hlt;obtain ⟨y, hy⟩ : ∃ y, y = tn t k := ⟨_, rfl⟩;rw [← hy] at hc;have HY : Hid (y = tn t k) := hy;clear hy;have hki : (k : Int) < (t.length : Int) := by omega
   by_cases hxy : y = x
   ·have HE : Hid (B = true) := by show _ = _; rw [HB.out]; exact decide_eq_true (mem_tn.2 ⟨k, hlt, by rw [← HY.out]; exact hxy⟩)
    have hyb : ((y : Int) == (x : Int)) = true := by simp [hxy]
    clear hxy;go_wp2_with fail
    (try simp only [Exit.inBlock, Exit.then])
    go_ret;exact ⟨by rw [HE.out]; rfl, rfl⟩
   ·have HE : Hid (∀ i, i < k + 1 → tn t i ≠ x) := fun i hi => by
     by_cases e : i = k
     ·rw [e, ← HY.out]; exact hxy
     ·exact HN.out i (by omega)
    have hyb : ((y : Int) == (x : Int)) = false := by simp; omega
    clear hxy;go_wp2_with fail;go_round
    case rel => exact ⟨k + 1, hlt, by simp, HE.out⟩
    case measure => simp [intOf]; omega
  ·have HE : Hid (B = false) := by
    show _ = _; rw [HB.out]; exact decide_eq_false (fun m => by obtain ⟨i, hi, e⟩ := mem_tn.1 m; exact HN.out i (by omega) e)
   have hki : ¬ (k : Int) < (t.length : Int) := by omega
   go_wp2_with fail;go_ret;exact ⟨by rw [HE.out]; rfl, rfl⟩
section

variable {A D : Nat → Prop} {w w' : World} {v dv tv lv : Value} {P P' : Bo} {S S' : Dk} {pb : Nat} {ps : List (Int × List Nat)}

theorem rbdown_ok (h : MQ A D w pb tv dv P S) (hs : shutB P S = false) : Calls Tryz.prog 105 #[.pointer (some ⟨pb, 0, none⟩)] w fun e w' => e = .returned (.bool false) ∧ w' = w := by
 have HD : Hid (Dsk 94 D w dv S) := h.dsk;unfold shutB at hs;rw [Bool.or_eq_false_iff] at hs;have HDN : Hid (S.down = false) := hs.2;have c0 := mq0 h;have c4 := mq4 h;rw [hs.1] at c4;clear h hs;go_in;go_wp2_with fail;refine (rdown_walk HD.out).mono ?_;rw [HDN.out];rintro e w9 ⟨rfl, h9⟩;have h9 := h9.symm;subst h9;go_wp2_with fail;go_ret;exact ⟨rfl, rfl⟩
theorem rbdown_shut (h : MQ A D w pb tv dv P S) (hs : shutB P S = true) : Calls Tryz.prog 105 #[.pointer (some ⟨pb, 0, none⟩)] w fun e w' => e = .returned (.bool true) ∧ MQ A D w' pb tv dv (endB P) S ∧ Ch A w w' := by
 have HD : Hid (Dsk 94 D w dv S) := h.dsk;have HE : Hid (MQ A D (w.setCell ⟨pb, 4, none⟩ (.bool true)) pb tv dv (endB P) S) := mq_end h;have HC : Hid (Ch A w (w.setCell ⟨pb, 4, none⟩ (.bool true))) := h.chput _ _;have HM := hidH h;have c0 := mq0 h;have c4 := mq4 h;have f4 := h.soft 4
 cases hd : S.down
 ·have HDN : Hid (S.down = false) := hd;have ho : P.over = true := by unfold shutB at hs; rw [hd, Bool.or_false] at hs; exact hs
  have HPE : Hid (endB P = P) := by show _ = _; obtain ⟨a, b, c, d⟩ := P; simp only at ho; subst ho; rfl
  rw [ho] at c4;clear h hs ho hd;go_in;go_wp2_with fail;refine (rdown_walk HD.out).mono ?_;rw [HDN.out];rintro e w9 ⟨rfl, h9⟩;have h9 := h9.symm;subst h9;go_wp2_with fail;go_ret;exact ⟨rfl, by rw [HPE.out]; exact HM.out, Ch.refl _ _⟩
 ·have HDN : Hid (S.down = true) := hd;clear h hs hd;go_in;go_wp2_with fail;refine (rdown_walk HD.out).mono ?_;rw [HDN.out];rintro e w9 ⟨rfl, h9⟩;have h9 := h9.symm;subst h9;go_wp2_with fail;go_ret;exact ⟨rfl, HE.out, HC.out⟩
theorem rpages_walk (h : BQ A w v dv P S) : Calls Tryz.prog 52 #[v] w fun e w' => e = .returned (.int .i64 P.tab.length) ∧ w' = w := by
 obtain ⟨D, pb, tv, rfl, h⟩ := h;have c1 := mq1 h;obtain ⟨ao, cap, rfl, h1, h2⟩ := h.tab.form;clear h h1 h2;go_in;go_wp2_with fail;go_ret;exact ⟨rfl, rfl⟩
theorem rended_walk (h : BQ A w v dv P S) : Calls Tryz.prog 130 #[v] w fun e w' => e = .returned (.bool P.over) ∧ w' = w := by
 obtain ⟨D, pb, tv, rfl, h⟩ := h;have c4 := mq4 h;clear h;go_in;go_wp2_with fail;go_ret;exact ⟨rfl, rfl⟩
theorem rused_walk (h : BQ A w v dv P S) : Calls Tryz.prog 129 #[v] w fun e w' => e = .returned (.int .i64 (usedN P.tab)) ∧ w' = w := by
 obtain ⟨D, pb, tv, rfl, h⟩ := h;have c1 := mq1 h;have HT : Hid (Tw w tv P.tab) := h.tab;obtain ⟨t, ht⟩ : ∃ t, t = P.tab := ⟨_, rfl⟩;have h8 := h.ok.n8;rw [← ht] at HT h8 ⊢;obtain ⟨ao, cap, rfl, h1, h2⟩ := HT.out.form;have hli : (t.length : Int) ≤ 8 := by omega
 clear h h1 h2 ht;go_in;go_wp2_with fail;go_loop [3, 4] (fun uv iv => ∃ k : Nat, k ≤ t.length ∧ iv = .int .i64 k ∧ uv = .int .i64 (usedN (t.take k))) (fun _ iv => t.length - (intOf iv).toNat)
 case atStart => exact ⟨0, Nat.zero_le _, rfl, rfl⟩
 case round =>
  obtain ⟨k, hk, rfl, rfl⟩ := hrel;by_cases hlt : k < t.length
  ·obtain ⟨b, off, rfl, hc⟩ := HT.out.at hlt;have HU : Hid (usedN (t.take (k + 1)) = usedN (t.take k) + (if tn t k = 0 then 0 else 1)) := used_take hlt;obtain ⟨y, hy⟩ : ∃ y, y = tn t k := ⟨_, rfl⟩;rw [← hy] at hc HU;have hul : usedN (t.take k) ≤ 8 := Nat.le_trans (used_le _) (by rw [List.length_take]; omega);obtain ⟨q, hq⟩ : ∃ q, q = usedN (t.take k) := ⟨_, rfl⟩;rw [← hq] at HU hul ⊢;clear hy hq;by_cases h0 : y = 0
   ·rw [if_pos h0] at HU;subst h0;go_wp2_with fail;go_round
    case rel => exact ⟨k + 1, hlt, by simp, by rw [HU.out]; rfl⟩
    case measure => simp [intOf]; omega
   ·rw [if_neg h0] at HU;have hyb : ((y : Int) != 0) = true := by simp; omega
    clear h0;go_wp2_with fail;go_round
    case rel => exact ⟨k + 1, hlt, by simp, by rw [HU.out]; simp⟩
    case measure => simp [intOf]; omega
  ·have hkt : t.take k = t := List.take_of_length_le (by omega);have HK : Hid (t.take k = t) := hkt;have hlti : ¬ (k : Int) < (t.length : Int) := by omega
   clear hkt;go_wp2_with fail;go_ret;exact ⟨by rw [HK.out]; rfl, rfl⟩
end
end
section
section

variable {A D : Nat → Prop} {w w' : World} {v dv tv lv : Value} {P P' : Bo} {S S' : Dk} {pb : Nat} {ps : List (Int × List Nat)}

theorem rget_walk (h : BQ A w v dv P S) (p : Int) (hrd : S.rd < 9223372036854775807) : Calls Tryz.prog 111 #[v, .int .i64 p] w fun e w' => Gt hdR 147 94 A w v dv P S p e w' := by
 obtain ⟨D, pb, tv, rfl, h⟩ := h;have HM := hidH h;have HRD := hidH hrd
 cases hs : shutB P S
 ·have HS : Hid (shutB P S = false) := hs;have c0 := mq0 h;have c1 := mq1 h;obtain ⟨t, ht⟩ : ∃ t, t = P.tab := ⟨_, rfl⟩;have hT := h.tab;have h8 := h.ok.n8;rw [← ht] at hT h8;obtain ⟨ao, cap, rfl, hc1, hc2⟩ := hT.form;have hti : (t.length : Int) ≤ 8 := by omega
  cases hp : hasB P.tab.length p
  ·have HP : Hid (hasB P.tab.length p = false) := hp
   have hpo : p < 0 ∨ (t.length : Int) ≤ p := by
    rw [← ht] at hp;have := of_decide_eq_false hp;omega
   clear h hs hp hrd ht hT h8 hc1 hc2;rcases hpo with hpo | hpo
   ·go_in;go_wp2_with fail;refine (rbdown_ok HM.out HS.out).mono ?_;rintro e w9 ⟨rfl, h9⟩;have h9 := h9.symm;subst h9;go_wp2_with fail;go_ret2;exact gt_page HS.out HP.out HM.out (Ch.refl _ _)
   ·have hp0 : (0 : Int) ≤ p := by omega
    have hpd : decide (p < (0 : Int)) = false := decide_eq_false (by omega);go_in;go_wp2_with fail;refine (rbdown_ok HM.out HS.out).mono ?_;rintro e w9 ⟨rfl, h9⟩;have h9 := h9.symm;subst h9;go_wp2_with fail;go_ret2;exact gt_page HS.out HP.out HM.out (Ch.refl _ _)
  ·have HP : Hid (hasB P.tab.length p = true) := hp;obtain ⟨hp0, hp1⟩ := has_of hp;rw [← ht] at hp1;obtain ⟨n, rfl⟩ : ∃ n : Nat, p = n := ⟨p.toNat, by omega⟩;obtain ⟨b, off, rfl, hc⟩ := hT.at (i := n) (by omega);have HTP : Hid (t = P.tab) := ht;obtain ⟨y, hy⟩ : ∃ y, y = tn t n := ⟨_, rfl⟩;rw [← hy] at hc;have HY : Hid (y = tn t n) := hy;have hni : (n : Int) < (t.length : Int) := by omega
   have hnd : decide ((t.length : Int) ≤ (n : Int)) = false := decide_eq_false (by omega);have HND : Hid (¬ D pb ∧ ¬ D b) := ⟨h.nb, (h.at' b (by simp [Value.ownBlock])).2.1⟩;have HD : Hid (Dsk 94 D w dv S) := h.dsk;clear h hs hp hp0 hc1 hc2 ht hy hrd h8 hT;by_cases hy0 : y = 0
   ·have HY0 : Hid (y = 0) := hy0;have hyb : ((y : Int) == 0) = true := by simp [hy0]
    clear hy0;go_in;go_wp2_with fail;refine (rbdown_ok HM.out HS.out).mono ?_;rintro e w9 ⟨rfl, h9⟩;have h9 := h9.symm;subst h9;go_wp2_with fail;go_ret2;exact gt_none HS.out HP.out (by rw [← HTP.out, Int.toNat_natCast, ← HY.out]; exact HY0.out) HM.out (Ch.refl _ _)
   ·have HY0 : Hid (y ≠ 0) := hy0;have hyb : ((y : Int) == 0) = false := by simp; omega
    have j0 : ∀ wx, Ch D w wx → wx.cell? ⟨pb, 0, none⟩ = some dv := fun wx hx => by rw [World.cell?_of_block (w := w) (a := ⟨pb, 0, none⟩) (hx.block pb (cell_lt c0) HND.out.1)]; exact c0
    have j1 : ∀ wx, Ch D w wx → wx.cell? ⟨pb, 1, none⟩ = some (.slice (some ⟨b, off, none⟩) t.length cap) := fun wx hx => by rw [World.cell?_of_block (w := w) (a := ⟨pb, 1, none⟩) (hx.block pb (cell_lt c1) HND.out.1)]; exact c1
    have j2 : ∀ wx, Ch D w wx → wx.cell? ⟨b, off + n, none⟩ = some (.int .i64 y) := fun wx hx => by rw [World.cell?_of_block (w := w) (a := ⟨b, off + n, none⟩) (hx.block b (cell_lt hc) HND.out.2)]; exact hc
    have hSd : Ch D w w.drew := Ch.of_below (below_drewN _ _);clear hy0;go_in;go_wp2_with fail;refine (rbdown_ok HM.out HS.out).mono ?_;rintro e w9 ⟨rfl, h9⟩;have h9 := h9.symm;subst h9;go_wp2_with fail
    go_region_held3 (fun wx => Ch D w wx) (first | assumption)
     (first
      | (go_at_call 109; refine (rread_walk (HD.out.below (below_drewN _ _)) y HRD.out).mono ?_; rintro e w3 ⟨r, rfl, ho, hD3, hC3⟩; have hS3 : Ch D w w3 := Ch.self (by assumption) hC3))
    all_goals go_wp2_with fail
    all_goals go_ret2
    all_goals exact gt_read HS.out HP.out (by rw [← HTP.out, Int.toNat_natCast]; exact HY.out) HY0.out HM.out (below_same _) ho hD3 hS3
 ·have HS : Hid (shutB P S = true) := hs;clear h hs hrd;go_in;go_wp2_with fail;refine (rbdown_shut HM.out HS.out).mono ?_;rintro e w1 ⟨rfl, hM1, hC1⟩;go_wp2_with fail;go_ret2;exact gt_shut HS.out hM1 hC1
end

def Rk (w : World) (b : List Nat) (B : Nat) (e : Ending) (w' : World) : Prop :=
 (rootOf b B = none → e = .returned (.tuple #[.int .i64 0, .slice none 0 0])) ∧ (∀ g t, rootOf b B = some (g, t) → ∃ ao cap, e = .returned (.tuple #[.int .i64 g, .slice ao t.length cap]) ∧ Tw w' (.slice ao t.length cap) t ∧ ∀ x, (Value.slice ao t.length cap).ownBlock = some x → w.heap.size ≤ x) ∧ Below w.heap.size w w'
theorem rk_no {w w' : World} {b : List Nat} {B : Nat} (h : rootOf b B = none) (hB : Below w.heap.size w w') : Rk w b B (.returned (.tuple #[.int .i64 0, .slice none 0 0])) w' :=
 ⟨fun _ => rfl, (fun g t e => by rw [h] at e; cases e), hB⟩
theorem rk_yes {w w' : World} {b t : List Nat} {B g : Nat} {ao : Option Addr} {cap : Nat} (h : rootOf b B = some (g, t)) (hT : Tw w' (.slice ao t.length cap) t) (hn : ∀ x, (Value.slice ao t.length cap).ownBlock = some x → w.heap.size ≤ x) (hB : Below w.heap.size w w') :
  Rk w b B (.returned (.tuple #[.int .i64 g, .slice ao t.length cap])) w' :=
 ⟨(fun e => by rw [h] at e; cases e), (fun g' t' e => by rw [h] at e; cases e; exact ⟨ao, cap, rfl, hT, hn⟩), hB⟩
theorem mem_take {t : List Nat} {i x : Nat} (hi : i ≤ t.length) : x ∈ t.take i ↔ ∃ k, k < i ∧ tn t k = x := by
 rw [mem_tn, List.length_take];constructor
 ·rintro ⟨k, h1, e⟩;exact ⟨k, by omega, by rw [← e, tn_at (by omega), tn_at (by rw [List.length_take]; omega), List.getElem_take]⟩
 ·rintro ⟨k, h1, e⟩;exact ⟨k, by omega, by rw [← e, tn_at (by rw [List.length_take]; omega), tn_at (by omega), List.getElem_take]⟩
end
end Go.Proofs.YtcmklbibehnloaaGreat
