/- PagesImages' walk. -/
import Derived.Test.YtfjgpkpkhccliaaTa
import Derived.Test.YtfjgpkpkhccliaaEb
namespace Go.Proofs.Ytfjgpkpkhccliaa
open Go.RowKit

theorem op_bl (S : Dk) : (opS S).bl = S.bl := by
  unfold opS
  split
  · rfl
  · show (readS (readS S _) _).bl = _; rw [read_bl, read_bl]
theorem op_rd (S : Dk) : (opS S).rd ≤ S.rd + 2 := by
  unfold opS
  split
  · omega
  · exact rd_rd S 2
theorem op_wr (S : Dk) : (opS S).wr = S.wr := by
  unfold opS
  split
  · rfl
  · show (readS (readS S _) _).wr = _
    unfold readS; split <;> split <;> rfl
theorem zl_bytes {o : Option Bo} {S : Dk} (h : S.ok) (p : Int) : ∀ c ∈ zL o S p, c < 256 := by
  unfold zL
  split
  · intro c hc; simp at hc
  · unfold getL
    split
    · intro c hc; simp at hc
    · split
      · intro c hc; simp at hc
      · split
        · intro c hc; simp at hc
        · exact (read_fit h _).2
theorem zs_same (o : Option Bo) (S : Dk) (p : Int) : (zS o S p).bl = S.bl ∧ (zS o S p).rd ≤ S.rd + 1 ∧ (zS o S p).wr = S.wr := by
  unfold zS
  split
  · exact ⟨rfl, by omega, rfl⟩
  · unfold getS
    split
    · exact ⟨rfl, by omega, rfl⟩
    · split
      · exact ⟨rfl, by omega, rfl⟩
      · split
        · exact ⟨rfl, by omega, rfl⟩
        · refine ⟨read_bl, ?_, ?_⟩ <;> (unfold readS; split)
          · show S.rd + 1 ≤ _; omega
          · omega
          · rfl
          · rfl
theorem BO.good {F : Value → Value → Bo → Array Value} {TB TD : TypeId} {A : Nat → Prop} {w : World} {v dv : Value} {o : Option Bo} {S : Dk} (h : BO F TB TD A w v dv o S) : S.ok := by
  obtain ⟨D, hD, _⟩ := h.disk; exact hD.good

def PiRel (w : World) (A1 A2 : Nat → Prop) (b y dv xv : Value) (iv : Value) (wr : World) : Prop :=
  ∃ (k : Nat) (o : Option Bo) (S : Dk), k ≤ 10 ∧ iv = .int .i64 ((k : Int) - 1) ∧ OP A1 wr b dv o S ∧ OQ A2 wr y xv o S ∧ Below w.heap.size w wr ∧ S.rd ≤ 2 + k ∧ S.wr = 0

set_option maxRecDepth 100000 in
set_option maxHeartbeats 8000000 in
theorem pimages_good {w : World} {v : Value} {ls : List (List Nat)} (h : Pv w v ls) (h1 : 1 ≤ ls.length) (h64 : ls.length ≤ 64) (hlong : longB ls = false) :
    Calls Try.prog 4 #[v] w fun e w' => e = .returned (.bool true) ∧ Below w.heap.size w w' := by
  have HP : Hid (Pv w v ls) := h
  have H1 : Hid (1 ≤ ls.length ∧ ls.length ≤ 64 ∧ longB ls = false) := ⟨h1, h64, hlong⟩
  have hcv := conv_lit
  clear h h1 h64 hlong
  go_enter Try.func4, Try.ntmps4
  go_wp2_with fail
  refine (awake_walk w).mono ?_
  rintro e w0 ⟨rfl, hB0⟩
  have HB0 : Hid (Below w.heap.size w w0) := hB0
  have HP0 : Hid (Pv w0 v ls) := HP.out.below hB0
  clear hB0
  go_wp2_with fail
  refine (load_walk HP0.out H1.out.1 H1.out.2.1).mono ?_
  intro e w1 hld
  unfold Ld at hld
  rw [if_neg (by rw [H1.out.2.2]; simp)] at hld
  obtain ⟨dv, D1, rfl, hD1, hB1, hx1⟩ := hld
  obtain ⟨sb, hsb⟩ : ∃ sb, dv = .pointer (some ⟨sb, 0, none⟩) := by obtain ⟨sb, _, _, e, _⟩ := hD1; exact ⟨sb, e⟩
  subst hsb
  have HD1 : Hid (Dsk 81 D1 w1 (.pointer (some ⟨sb, 0, none⟩)) (loadS ls)) := hD1
  have HX1 : Hid (∀ x, D1 x → w.heap.size ≤ x) := fun x hx => Nat.le_trans HB0.out.size (hx1 x hx)
  have HB1 : Hid (Below w.heap.size w w1) := below_trans HB0.out hB1
  have HP1 : Hid (Pv w1 v ls) := HP0.out.below hB1
  clear hD1 hB1 hx1
  go_wp2_with fail
  refine (rload_walk HP1.out H1.out.1 H1.out.2.1).mono ?_
  intro e w2 hld
  unfold Ld at hld
  rw [if_neg (by rw [H1.out.2.2]; simp)] at hld
  obtain ⟨xv, D2, rfl, hD2, hB2, hx2⟩ := hld
  obtain ⟨xb, hxb⟩ : ∃ xb, xv = .pointer (some ⟨xb, 0, none⟩) := by obtain ⟨xb, _, _, e, _⟩ := hD2; exact ⟨xb, e⟩
  subst hxb
  have HD2 : Hid (Dsk 83 D2 w2 (.pointer (some ⟨xb, 0, none⟩)) (loadS ls)) := hD2
  have HX2 : Hid (∀ x, D2 x → w.heap.size ≤ x ∧ ¬ D1 x) := fun x hx => ⟨Nat.le_trans HB1.out.size (hx2 x hx), fun e => by have h1 := HD1.out.lt e; have h2 := hx2 x hx; omega⟩
  have HD12 : Hid (Dsk 81 D1 w2 (.pointer (some ⟨sb, 0, none⟩)) (loadS ls)) := HD1.out.below hB2
  have HB2 : Hid (Below w.heap.size w w2) := below_trans HB1.out hB2
  have HP2 : Hid (Pv w2 v ls) := HP1.out.below hB2
  obtain ⟨c, hc⟩ : ∃ c, c = opI (loadS ls) := ⟨_, rfl⟩
  obtain ⟨o, ho⟩ : ∃ o, o = opB (loadS ls) := ⟨_, rfl⟩
  obtain ⟨S1, hS1⟩ : ∃ S1, S1 = opS (loadS ls) := ⟨_, rfl⟩
  have HS1 : Hid (S1.bl = ls ∧ S1.rd ≤ 2 ∧ S1.wr = 0) := by rw [hS1]; exact ⟨op_bl _, op_rd (loadS ls), op_wr _⟩
  have HCO : Hid (opI (loadS ls) = c ∧ opB (loadS ls) = o ∧ opS (loadS ls) = S1) := ⟨hc.symm, ho.symm, hS1.symm⟩
  clear hD2 hB2 hx2 hc ho hS1
  go_wp2_with fail
  refine (open_walk HD12.out (by show (0 : Nat) < _; omega)).mono ?_
  rw [HCO.out.1, HCO.out.2.1, HCO.out.2.2]
  intro e w3 hob
  obtain ⟨b, A1, rfl, hO1, hx1, hC1⟩ := ob_bo hob
  have HO1 : Hid (OP A1 w3 b (.pointer (some ⟨sb, 0, none⟩)) o S1) := hO1
  have HXA : Hid (∀ x, A1 x → w.heap.size ≤ x ∧ (D1 x ∨ w2.heap.size ≤ x)) := fun x hx => by
    rcases hx1 x hx with q | q
    · exact ⟨HX1.out x q, .inl q⟩
    · exact ⟨Nat.le_trans HB2.out.size q, .inr q⟩
  have HB3 : Hid (Below w.heap.size w w3) := HB2.out.trans (hC1.to_below HB2.out.size HX1.out)
  have HD3 : Hid (Dsk 83 D2 w3 (.pointer (some ⟨xb, 0, none⟩)) (loadS ls)) := HD2.out.ch hC1 (fun x hx => (HX2.out x hx).2)
  have HS3 : Hid (w2.heap.size ≤ w3.heap.size) := hC1.size
  clear hob hO1 hx1 hC1
  go_wp2_with fail
  refine (ropen_walk HD3.out (by show (0 : Nat) < _; omega)).mono ?_
  rw [HCO.out.1, HCO.out.2.1, HCO.out.2.2]
  intro e w4 hob
  obtain ⟨y, A2, rfl, hO2, hx2, hC2⟩ := ob_bo hob
  have HO2 : Hid (OQ A2 w4 y (.pointer (some ⟨xb, 0, none⟩)) o S1) := hO2
  have HDJ : Hid (∀ x, A1 x → ¬ A2 x) := fun x h1 h2 => by
    have h3 := HO1.out.lt h1
    rcases hx2 x h2 with q | q
    · rcases (HXA.out x h1).2 with r | r
      · exact (HX2.out x q).2 r
      · have := HD2.out.lt q; omega
    · omega
  have HXB : Hid (∀ x, A2 x → w.heap.size ≤ x) := fun x hx => by
    rcases hx2 x hx with q | q
    · exact (HX2.out x q).1
    · exact Nat.le_trans HB3.out.size q
  have HO14 : Hid (OP A1 w4 b (.pointer (some ⟨sb, 0, none⟩)) o S1) := HO1.out.ch hC2 (fun x h1 e => by
    have h3 := HO1.out.lt h1
    rcases (HXA.out x h1).2 with r | r
    · exact (HX2.out x e).2 r
    · have := HD2.out.lt e; omega)
  have HB4 : Hid (Below w.heap.size w w4) := HB3.out.trans (hC2.to_below HB3.out.size (fun x hx => (HX2.out x hx).1))
  have HP4 : Hid (Pv w4 v ls) := HP.out.below HB4.out
  have hcc : (c != c) = false := by simp
  obtain ⟨U, hU⟩ : ∃ U, U = zU o := ⟨_, rfl⟩
  obtain ⟨N, hN⟩ : ∃ N, N = zN o := ⟨_, rfl⟩
  have HUN : Hid (zU o = U ∧ zN o = N) := ⟨hU.symm, hN.symm⟩
  have huu : ((U : Int) != (U : Int)) = false := by simp
  have hnn : ((N : Int) != (N : Int)) = false := by simp
  have hform : (b = .pointer none ∧ y = .pointer none) ∨ ∃ pb yb, b = .pointer (some ⟨pb, 0, none⟩) ∧ y = .pointer (some ⟨yb, 0, none⟩) := by
    rcases HO1.out.form with ⟨e1, e2⟩ | ⟨⟨P, e1⟩, pb, e2⟩
    · rcases hO2.form with ⟨_, e4⟩ | ⟨⟨P, e3⟩, _⟩
      · exact .inl ⟨e2, e4⟩
      · rw [e1] at e3; cases e3
    · rcases hO2.form with ⟨e3, _⟩ | ⟨_, yb, e4⟩
      · rw [e1] at e3; cases e3
      · exact .inr ⟨pb, yb, e2, e4⟩
  clear hob hO2 hx2 hC2 hU hN
  rcases hform with ⟨rfl, rfl⟩ | ⟨pb, yb, rfl, rfl⟩
  · go_wp2_with fail
    refine (zused_walk HO14.out).mono ?_
    rw [HUN.out.1]
    rintro e w9 ⟨rfl, h9⟩
    have h9 := h9.symm
    subst h9
    go_wp2_with fail
    refine (yused_walk HO2.out).mono ?_
    rw [HUN.out.1]
    rintro e w9 ⟨rfl, h9⟩
    have h9 := h9.symm
    subst h9
    go_wp2_with fail
    refine (zpages_walk HO14.out).mono ?_
    rw [HUN.out.2]
    rintro e w9 ⟨rfl, h9⟩
    have h9 := h9.symm
    subst h9
    go_wp2_with fail
    refine (ypages_walk HO2.out).mono ?_
    rw [HUN.out.2]
    rintro e w9 ⟨rfl, h9⟩
    have h9 := h9.symm
    subst h9
    obtain ⟨D4, hD4, _, _⟩ := HO14.out.disk
    go_wp2_with fail
    refine (image_walk hD4).mono ?_
    rintro e w5 ⟨gi, ci, rfl, hG, hgi, hB5⟩
    have HPI : Hid (Pv w5 (.slice (some ⟨gi, 0, none⟩) S1.bl.length ci) S1.bl) := hG.pv hD4.good.byt
    have HB5 : Hid (Below w4.heap.size w4 w5) := hB5
    clear hD4 hG hgi hB5
    go_wp2_with fail
    refine (images_walk HPI.out (HP4.out.below HB5.out)).mono ?_
    rw [decide_eq_true HS1.out.1]
    rintro e w6 ⟨rfl, hB6⟩
    have HB46 : Hid (Below w4.heap.size w4 w6) := below_trans HB5.out hB6
    clear hB6
    go_wp2_with fail
    have HST : Hid (PiRel w A1 A2 (.pointer none) (.pointer none) (.pointer (some ⟨sb, 0, none⟩)) (.pointer (some ⟨xb, 0, none⟩)) (.int .i64 (-1)) w6) := ⟨0, o, S1, Nat.zero_le _, by simp, HO14.out.below HB46.out, HO2.out.below HB46.out, below_trans HB4.out HB46.out, HS1.out.2.1, HS1.out.2.2⟩
    go_loopw [9] (fun iv wr => PiRel w A1 A2 (.pointer none) (.pointer none) (.pointer (some ⟨sb, 0, none⟩)) (.pointer (some ⟨xb, 0, none⟩)) iv wr) (fun iv _ => (9 - intOf iv).toNat)
    case atStart => exact HST.out
    case round =>
      obtain ⟨k, ok, Sk, hk, rfl, hP, hQ, hbe, hrd, hwr⟩ := hrel
      have HPk : Hid (OP A1 wr (.pointer none) (.pointer (some ⟨sb, 0, none⟩)) ok Sk) := hP
      have HQk : Hid (OQ A2 wr (.pointer none) (.pointer (some ⟨xb, 0, none⟩)) ok Sk) := hQ
      have HBk : Hid (Below w.heap.size w wr) := hbe
      have HRW : Hid (Sk.rd ≤ 2 + k ∧ Sk.wr = 0 ∧ k ≤ 10) := ⟨hrd, hwr, hk⟩
      have HGD : Hid Sk.ok := hP.good
      clear hP hQ hbe hrd hwr HST
      by_cases hlt : k < 10
      · obtain ⟨p, hp⟩ : ∃ p : Int, p = (k : Int) - 1 := ⟨_, rfl⟩
        rw [← hp]
        have hp1 : (-1 : Int) ≤ p := by omega
        have hp9 : p < (9 : Int) := by omega
        obtain ⟨L, hL⟩ : ∃ L, L = zL ok Sk p := ⟨_, rfl⟩
        obtain ⟨I, hI⟩ : ∃ I, I = zI ok Sk p := ⟨_, rfl⟩
        have HLI : Hid (zL ok Sk p = L ∧ zI ok Sk p = I) := ⟨hL.symm, hI.symm⟩
        have HLB : Hid (∀ c ∈ L, c < 256) := by rw [hL]; exact zl_bytes HGD.out p
        have hLL : ((str L).toList == (str L).toList) = true := by simp
        have hII : (I != I) = false := by simp
        have HK : Hid (p = (k : Int) - 1) := hp
        clear hL hI hp
        go_wp2_with fail
        refine (zget_walk HPk.out p (by have := HRW.out; omega)).mono ?_
        rintro e wa ⟨r1, rfl, ho1, hP1, hC1⟩
        rw [HLI.out.1] at ho1
        rw [HLI.out.2]
        obtain ⟨ro, rc, rfl, _, _⟩ := row_form ho1
        have HV1 : Hid (Bx A2 wa (.slice ro L.length rc) L) := ⟨own_bv ho1 HLB.out, .inr (fun x hx e => by have h1 := (ho1.lt x hx).1; have h2 := HQk.out.lt e; omega)⟩
        have HP1 : Hid (OP A1 wa (.pointer none) (.pointer (some ⟨sb, 0, none⟩)) (zB ok Sk) (zS ok Sk p)) := hP1
        have HQ1 : Hid (OQ A2 wa (.pointer none) (.pointer (some ⟨xb, 0, none⟩)) ok Sk) := HQk.out.ch hC1 (fun x h1 h2 => HDJ.out x h2 h1)
        have HBa : Hid (Below w.heap.size w wa) := HBk.out.trans (hC1.to_below HBk.out.size (fun x hx => (HXA.out x hx).1))
        clear ho1 hP1 hC1
        go_wp2_with fail
        refine (yget_walk HQ1.out p (by have := HRW.out; omega)).mono ?_
        rintro e wc ⟨r2, rfl, ho2, hQ2, hC2⟩
        rw [HLI.out.1] at ho2
        rw [HLI.out.2]
        obtain ⟨qo, qc, rfl, _, _⟩ := row_form ho2
        have s1 : (convert 43 9 (.slice ro L.length rc)).run Try.prog wc = .ok (.string (str L)) wc := str_of (HV1.out.ch hC2 (D' := A2) (fun x hx => .inl hx)).1
        have s2 : (convert 43 9 (.slice qo L.length qc)).run Try.prog wc = .ok (.string (str L)) wc := str_of (own_bv ho2 HLB.out)
        have HR : Hid (PiRel w A1 A2 (.pointer none) (.pointer none) (.pointer (some ⟨sb, 0, none⟩)) (.pointer (some ⟨xb, 0, none⟩)) (.int .i64 (p + 1)) wc) := by
          obtain ⟨z1, z2, z3⟩ := zs_same ok Sk p
          have h1 := HRW.out
          refine ⟨k + 1, zB ok Sk, zS ok Sk p, by omega, by rw [HK.out]; simp, HP1.out.ch hC2 (fun x h1 h2 => HDJ.out x h1 h2), hQ2, HBa.out.trans (hC2.to_below HBa.out.size HXB.out), by omega, by omega⟩
        clear ho2 hQ2 hC2
        go_wp2_with fail
        go_roundw
        case rel => exact HR.out
        case measure => simp [intOf]; omega
      · obtain rfl : k = 10 := by omega
        obtain ⟨C, hC⟩ : ∃ C, C = (zO ok Sk [(0, [109, 111, 114, 101])]).1 := ⟨_, rfl⟩
        have HCC : Hid ((zO ok Sk [(0, [109, 111, 114, 101])]).1 = C) := hC.symm
        have hCC : (C == C) = true := by simp
        clear hC
        go_wp2_with fail
        refine (zput_walk (HPk.out.below (below_trans (below_alloc _ _) (below_alloc _ _))) (more_tx (fun x hx => HPk.out.lt hx)) (by have := HRW.out; omega)).mono ?_
        rintro e wa ⟨rfl, ⟨A1', hP1, hx1⟩, hC1⟩
        rw [HCC.out]
        have HP1 : Hid (OP A1' wa (.pointer none) (.pointer (some ⟨sb, 0, none⟩)) (zO ok Sk [(0, [109, 111, 114, 101])]).2.1 (zO ok Sk [(0, [109, 111, 114, 101])]).2.2) := hP1
        have HCh : Hid (Ch A1 wr wa) := ((Ch.of_below (below_alloc _ _)).self (Ch.of_below (below_alloc _ _))).self hC1
        have HX1' : Hid (∀ x, A1' x → A1 x ∨ wr.heap.size ≤ x) := fun x hx => by
          rcases hx1 x hx with q | q
          · exact .inl q
          · exact .inr (by simp at q; omega)
        have HQ1 : Hid (OQ A2 wa (.pointer none) (.pointer (some ⟨xb, 0, none⟩)) ok Sk) := HQk.out.ch HCh.out (fun x h1 h2 => HDJ.out x h2 h1)
        have HDJ1 : Hid (∀ x, A1' x → ¬ A2 x) := fun x h1 h2 => by
          rcases HX1'.out x h1 with q | q
          · exact HDJ.out x q h2
          · have := HQk.out.lt h2; omega
        have HBa : Hid (Below w.heap.size w wa) := HBk.out.trans (HCh.out.to_below HBk.out.size (fun x hx => (HXA.out x hx).1))
        clear hP1 hx1 hC1
        go_wp2_with fail
        refine (yput_walk (HQ1.out.below (below_trans (below_alloc _ _) (below_alloc _ _))) (more_tx (fun x hx => HQ1.out.lt hx)) (by have := HRW.out; omega)).mono ?_
        rintro e wc ⟨rfl, ⟨A2', hQ2, hx2⟩, hC2⟩
        rw [HCC.out]
        have HQ2 : Hid (OQ A2' wc (.pointer none) (.pointer (some ⟨xb, 0, none⟩)) (zO ok Sk [(0, [109, 111, 114, 101])]).2.1 (zO ok Sk [(0, [109, 111, 114, 101])]).2.2) := hQ2
        have HC2 : Hid (Ch A2 wa wc) := ((Ch.of_below (below_alloc _ _)).self (Ch.of_below (below_alloc _ _))).self hC2
        have HP2 : Hid (OP A1' wc (.pointer none) (.pointer (some ⟨sb, 0, none⟩)) (zO ok Sk [(0, [109, 111, 114, 101])]).2.1 (zO ok Sk [(0, [109, 111, 114, 101])]).2.2) := HP1.out.ch HC2.out (fun x h1 h2 => HDJ1.out x h1 h2)
        have HBc : Hid (Below w.heap.size w wc) := HBa.out.trans (HC2.out.to_below HBa.out.size HXB.out)
        obtain ⟨Sz, hSz⟩ : ∃ Sz, Sz = (zO ok Sk [(0, [109, 111, 114, 101])]).2.2 := ⟨_, rfl⟩
        rw [← hSz] at HP2 HQ2
        clear hQ2 hx2 hC2 hSz
        obtain ⟨Dp, hDp, _, _⟩ := HP2.out.disk
        obtain ⟨Dq, hDq, _, _⟩ := HQ2.out.disk
        have HDq : Hid (Dsk 83 Dq wc (.pointer (some ⟨xb, 0, none⟩)) Sz) := hDq
        go_wp2_with fail
        refine (image_walk hDp).mono ?_
        rintro e wd ⟨g1, k1, rfl, hG1, _, hBd⟩
        have HV1 : Hid (Pv wd (.slice (some ⟨g1, 0, none⟩) Sz.bl.length k1) Sz.bl) := hG1.pv hDp.good.byt
        have HBd : Hid (Below wc.heap.size wc wd) := hBd
        clear hDp hDq hG1 hBd
        go_wp2_with fail
        refine (rimage_walk (HDq.out.below HBd.out)).mono ?_
        rintro e we ⟨g2, k2, rfl, hG2, _, hBe⟩
        have HV2 : Hid (Pv we (.slice (some ⟨g2, 0, none⟩) Sz.bl.length k2) Sz.bl) := hG2.pv HDq.out.good.byt
        have HBe : Hid (Below wd.heap.size wd we) := hBe
        clear hG2 hBe
        go_wp2_with fail
        refine (images_walk (HV1.out.below HBe.out) HV2.out).mono ?_
        rw [decide_eq_true (rfl : Sz.bl = Sz.bl)]
        rintro e wf ⟨rfl, hBf⟩
        have HBf : Hid (Below w.heap.size w wf) := below_trans (below_trans (below_trans HBc.out HBd.out) HBe.out) hBf
        clear hBf
        go_wp2_with fail
        go_ret
        exact ⟨rfl, HBf.out⟩
  · go_wp2_with fail
    refine (zused_walk HO14.out).mono ?_
    rw [HUN.out.1]
    rintro e w9 ⟨rfl, h9⟩
    have h9 := h9.symm
    subst h9
    go_wp2_with fail
    refine (yused_walk HO2.out).mono ?_
    rw [HUN.out.1]
    rintro e w9 ⟨rfl, h9⟩
    have h9 := h9.symm
    subst h9
    go_wp2_with fail
    refine (zpages_walk HO14.out).mono ?_
    rw [HUN.out.2]
    rintro e w9 ⟨rfl, h9⟩
    have h9 := h9.symm
    subst h9
    go_wp2_with fail
    refine (ypages_walk HO2.out).mono ?_
    rw [HUN.out.2]
    rintro e w9 ⟨rfl, h9⟩
    have h9 := h9.symm
    subst h9
    obtain ⟨D4, hD4, _, _⟩ := HO14.out.disk
    go_wp2_with fail
    refine (image_walk hD4).mono ?_
    rintro e w5 ⟨gi, ci, rfl, hG, hgi, hB5⟩
    have HPI : Hid (Pv w5 (.slice (some ⟨gi, 0, none⟩) S1.bl.length ci) S1.bl) := hG.pv hD4.good.byt
    have HB5 : Hid (Below w4.heap.size w4 w5) := hB5
    clear hD4 hG hgi hB5
    go_wp2_with fail
    refine (images_walk HPI.out (HP4.out.below HB5.out)).mono ?_
    rw [decide_eq_true HS1.out.1]
    rintro e w6 ⟨rfl, hB6⟩
    have HB46 : Hid (Below w4.heap.size w4 w6) := below_trans HB5.out hB6
    clear hB6
    go_wp2_with fail
    have HST : Hid (PiRel w A1 A2 (.pointer (some ⟨pb, 0, none⟩)) (.pointer (some ⟨yb, 0, none⟩)) (.pointer (some ⟨sb, 0, none⟩)) (.pointer (some ⟨xb, 0, none⟩)) (.int .i64 (-1)) w6) := ⟨0, o, S1, Nat.zero_le _, by simp, HO14.out.below HB46.out, HO2.out.below HB46.out, below_trans HB4.out HB46.out, HS1.out.2.1, HS1.out.2.2⟩
    go_loopw [9] (fun iv wr => PiRel w A1 A2 (.pointer (some ⟨pb, 0, none⟩)) (.pointer (some ⟨yb, 0, none⟩)) (.pointer (some ⟨sb, 0, none⟩)) (.pointer (some ⟨xb, 0, none⟩)) iv wr) (fun iv _ => (9 - intOf iv).toNat)
    case atStart => exact HST.out
    case round =>
      obtain ⟨k, ok, Sk, hk, rfl, hP, hQ, hbe, hrd, hwr⟩ := hrel
      have HPk : Hid (OP A1 wr (.pointer (some ⟨pb, 0, none⟩)) (.pointer (some ⟨sb, 0, none⟩)) ok Sk) := hP
      have HQk : Hid (OQ A2 wr (.pointer (some ⟨yb, 0, none⟩)) (.pointer (some ⟨xb, 0, none⟩)) ok Sk) := hQ
      have HBk : Hid (Below w.heap.size w wr) := hbe
      have HRW : Hid (Sk.rd ≤ 2 + k ∧ Sk.wr = 0 ∧ k ≤ 10) := ⟨hrd, hwr, hk⟩
      have HGD : Hid Sk.ok := hP.good
      clear hP hQ hbe hrd hwr HST
      by_cases hlt : k < 10
      · obtain ⟨p, hp⟩ : ∃ p : Int, p = (k : Int) - 1 := ⟨_, rfl⟩
        rw [← hp]
        have hp1 : (-1 : Int) ≤ p := by omega
        have hp9 : p < (9 : Int) := by omega
        obtain ⟨L, hL⟩ : ∃ L, L = zL ok Sk p := ⟨_, rfl⟩
        obtain ⟨I, hI⟩ : ∃ I, I = zI ok Sk p := ⟨_, rfl⟩
        have HLI : Hid (zL ok Sk p = L ∧ zI ok Sk p = I) := ⟨hL.symm, hI.symm⟩
        have HLB : Hid (∀ c ∈ L, c < 256) := by rw [hL]; exact zl_bytes HGD.out p
        have hLL : ((str L).toList == (str L).toList) = true := by simp
        have hII : (I != I) = false := by simp
        have HK : Hid (p = (k : Int) - 1) := hp
        clear hL hI hp
        go_wp2_with fail
        refine (zget_walk HPk.out p (by have := HRW.out; omega)).mono ?_
        rintro e wa ⟨r1, rfl, ho1, hP1, hC1⟩
        rw [HLI.out.1] at ho1
        rw [HLI.out.2]
        obtain ⟨ro, rc, rfl, _, _⟩ := row_form ho1
        have HV1 : Hid (Bx A2 wa (.slice ro L.length rc) L) := ⟨own_bv ho1 HLB.out, .inr (fun x hx e => by have h1 := (ho1.lt x hx).1; have h2 := HQk.out.lt e; omega)⟩
        have HP1 : Hid (OP A1 wa (.pointer (some ⟨pb, 0, none⟩)) (.pointer (some ⟨sb, 0, none⟩)) (zB ok Sk) (zS ok Sk p)) := hP1
        have HQ1 : Hid (OQ A2 wa (.pointer (some ⟨yb, 0, none⟩)) (.pointer (some ⟨xb, 0, none⟩)) ok Sk) := HQk.out.ch hC1 (fun x h1 h2 => HDJ.out x h2 h1)
        have HBa : Hid (Below w.heap.size w wa) := HBk.out.trans (hC1.to_below HBk.out.size (fun x hx => (HXA.out x hx).1))
        clear ho1 hP1 hC1
        go_wp2_with fail
        refine (yget_walk HQ1.out p (by have := HRW.out; omega)).mono ?_
        rintro e wc ⟨r2, rfl, ho2, hQ2, hC2⟩
        rw [HLI.out.1] at ho2
        rw [HLI.out.2]
        obtain ⟨qo, qc, rfl, _, _⟩ := row_form ho2
        have s1 : (convert 43 9 (.slice ro L.length rc)).run Try.prog wc = .ok (.string (str L)) wc := str_of (HV1.out.ch hC2 (D' := A2) (fun x hx => .inl hx)).1
        have s2 : (convert 43 9 (.slice qo L.length qc)).run Try.prog wc = .ok (.string (str L)) wc := str_of (own_bv ho2 HLB.out)
        have HR : Hid (PiRel w A1 A2 (.pointer (some ⟨pb, 0, none⟩)) (.pointer (some ⟨yb, 0, none⟩)) (.pointer (some ⟨sb, 0, none⟩)) (.pointer (some ⟨xb, 0, none⟩)) (.int .i64 (p + 1)) wc) := by
          obtain ⟨z1, z2, z3⟩ := zs_same ok Sk p
          have h1 := HRW.out
          refine ⟨k + 1, zB ok Sk, zS ok Sk p, by omega, by rw [HK.out]; simp, HP1.out.ch hC2 (fun x h1 h2 => HDJ.out x h1 h2), hQ2, HBa.out.trans (hC2.to_below HBa.out.size HXB.out), by omega, by omega⟩
        clear ho2 hQ2 hC2
        go_wp2_with fail
        go_roundw
        case rel => exact HR.out
        case measure => simp [intOf]; omega
      · obtain rfl : k = 10 := by omega
        obtain ⟨C, hC⟩ : ∃ C, C = (zO ok Sk [(0, [109, 111, 114, 101])]).1 := ⟨_, rfl⟩
        have HCC : Hid ((zO ok Sk [(0, [109, 111, 114, 101])]).1 = C) := hC.symm
        have hCC : (C == C) = true := by simp
        clear hC
        go_wp2_with fail
        refine (zput_walk (HPk.out.below (below_trans (below_alloc _ _) (below_alloc _ _))) (more_tx (fun x hx => HPk.out.lt hx)) (by have := HRW.out; omega)).mono ?_
        rintro e wa ⟨rfl, ⟨A1', hP1, hx1⟩, hC1⟩
        rw [HCC.out]
        have HP1 : Hid (OP A1' wa (.pointer (some ⟨pb, 0, none⟩)) (.pointer (some ⟨sb, 0, none⟩)) (zO ok Sk [(0, [109, 111, 114, 101])]).2.1 (zO ok Sk [(0, [109, 111, 114, 101])]).2.2) := hP1
        have HCh : Hid (Ch A1 wr wa) := ((Ch.of_below (below_alloc _ _)).self (Ch.of_below (below_alloc _ _))).self hC1
        have HX1' : Hid (∀ x, A1' x → A1 x ∨ wr.heap.size ≤ x) := fun x hx => by
          rcases hx1 x hx with q | q
          · exact .inl q
          · exact .inr (by simp at q; omega)
        have HQ1 : Hid (OQ A2 wa (.pointer (some ⟨yb, 0, none⟩)) (.pointer (some ⟨xb, 0, none⟩)) ok Sk) := HQk.out.ch HCh.out (fun x h1 h2 => HDJ.out x h2 h1)
        have HDJ1 : Hid (∀ x, A1' x → ¬ A2 x) := fun x h1 h2 => by
          rcases HX1'.out x h1 with q | q
          · exact HDJ.out x q h2
          · have := HQk.out.lt h2; omega
        have HBa : Hid (Below w.heap.size w wa) := HBk.out.trans (HCh.out.to_below HBk.out.size (fun x hx => (HXA.out x hx).1))
        clear hP1 hx1 hC1
        go_wp2_with fail
        refine (yput_walk (HQ1.out.below (below_trans (below_alloc _ _) (below_alloc _ _))) (more_tx (fun x hx => HQ1.out.lt hx)) (by have := HRW.out; omega)).mono ?_
        rintro e wc ⟨rfl, ⟨A2', hQ2, hx2⟩, hC2⟩
        rw [HCC.out]
        have HQ2 : Hid (OQ A2' wc (.pointer (some ⟨yb, 0, none⟩)) (.pointer (some ⟨xb, 0, none⟩)) (zO ok Sk [(0, [109, 111, 114, 101])]).2.1 (zO ok Sk [(0, [109, 111, 114, 101])]).2.2) := hQ2
        have HC2 : Hid (Ch A2 wa wc) := ((Ch.of_below (below_alloc _ _)).self (Ch.of_below (below_alloc _ _))).self hC2
        have HP2 : Hid (OP A1' wc (.pointer (some ⟨pb, 0, none⟩)) (.pointer (some ⟨sb, 0, none⟩)) (zO ok Sk [(0, [109, 111, 114, 101])]).2.1 (zO ok Sk [(0, [109, 111, 114, 101])]).2.2) := HP1.out.ch HC2.out (fun x h1 h2 => HDJ1.out x h1 h2)
        have HBc : Hid (Below w.heap.size w wc) := HBa.out.trans (HC2.out.to_below HBa.out.size HXB.out)
        obtain ⟨Sz, hSz⟩ : ∃ Sz, Sz = (zO ok Sk [(0, [109, 111, 114, 101])]).2.2 := ⟨_, rfl⟩
        rw [← hSz] at HP2 HQ2
        clear hQ2 hx2 hC2 hSz
        obtain ⟨Dp, hDp, _, _⟩ := HP2.out.disk
        obtain ⟨Dq, hDq, _, _⟩ := HQ2.out.disk
        have HDq : Hid (Dsk 83 Dq wc (.pointer (some ⟨xb, 0, none⟩)) Sz) := hDq
        go_wp2_with fail
        refine (image_walk hDp).mono ?_
        rintro e wd ⟨g1, k1, rfl, hG1, _, hBd⟩
        have HV1 : Hid (Pv wd (.slice (some ⟨g1, 0, none⟩) Sz.bl.length k1) Sz.bl) := hG1.pv hDp.good.byt
        have HBd : Hid (Below wc.heap.size wc wd) := hBd
        clear hDp hDq hG1 hBd
        go_wp2_with fail
        refine (rimage_walk (HDq.out.below HBd.out)).mono ?_
        rintro e we ⟨g2, k2, rfl, hG2, _, hBe⟩
        have HV2 : Hid (Pv we (.slice (some ⟨g2, 0, none⟩) Sz.bl.length k2) Sz.bl) := hG2.pv HDq.out.good.byt
        have HBe : Hid (Below wd.heap.size wd we) := hBe
        clear hG2 hBe
        go_wp2_with fail
        refine (images_walk (HV1.out.below HBe.out) HV2.out).mono ?_
        rw [decide_eq_true (rfl : Sz.bl = Sz.bl)]
        rintro e wf ⟨rfl, hBf⟩
        have HBf : Hid (Below w.heap.size w wf) := below_trans (below_trans (below_trans HBc.out HBd.out) HBe.out) hBf
        clear hBf
        go_wp2_with fail
        go_ret
        exact ⟨rfl, HBf.out⟩

set_option maxRecDepth 100000 in
theorem pimages_walk9 {w : World} {v : Value} {ls : List (List Nat)} (h : Pv w v ls) :
    Calls Try.prog 4 #[v] w fun e w' => e = .returned (.bool true) ∧ Below w.heap.size w w' := by
  by_cases hp : ls.length < 1 ∨ 64 < ls.length
  · have HP : Hid (Pv w v ls) := h
    have HPP : Hid (ls.length < 1 ∨ 64 < ls.length) := hp
    clear h hp
    go_enter Try.func4, Try.ntmps4
    go_wp2_with fail
    refine (awake_walk w).mono ?_
    rintro e w0 ⟨rfl, hB0⟩
    have HB0 : Hid (Below w.heap.size w w0) := hB0
    have HP0 : Hid (Pv w0 v ls) := HP.out.below hB0
    clear hB0
    go_wp2_with fail
    refine (load_bad HP0.out HPP.out).mono ?_
    rintro e w9 ⟨rfl, h9⟩
    have h9 := h9.symm
    subst h9
    go_wp2_with fail
    refine (rload_bad HP0.out HPP.out).mono ?_
    rintro e w9 ⟨rfl, h9⟩
    have h9 := h9.symm
    subst h9
    go_wp2_with fail
    go_ret
    exact ⟨rfl, HB0.out⟩
  · cases hlo : longB ls
    · exact pimages_good h (by omega) (by omega) hlo
    · have HP : Hid (Pv w v ls) := h
      have H1 : Hid (1 ≤ ls.length ∧ ls.length ≤ 64 ∧ longB ls = true) := ⟨by omega, by omega, hlo⟩
      clear h hp hlo
      go_enter Try.func4, Try.ntmps4
      go_wp2_with fail
      refine (awake_walk w).mono ?_
      rintro e w0 ⟨rfl, hB0⟩
      have HB0 : Hid (Below w.heap.size w w0) := hB0
      have HP0 : Hid (Pv w0 v ls) := HP.out.below hB0
      clear hB0
      go_wp2_with fail
      refine (load_walk HP0.out H1.out.1 H1.out.2.1).mono ?_
      intro e w1 hld
      unfold Ld at hld
      rw [if_pos H1.out.2.2] at hld
      obtain ⟨rfl, h9⟩ := hld
      have h9 := h9.symm
      subst h9
      go_wp2_with fail
      refine (rload_walk HP0.out H1.out.1 H1.out.2.1).mono ?_
      intro e w1 hld
      unfold Ld at hld
      rw [if_pos H1.out.2.2] at hld
      obtain ⟨rfl, h9⟩ := hld
      have h9 := h9.symm
      subst h9
      go_wp2_with fail
      go_ret
      exact ⟨rfl, HB0.out⟩
end Go.Proofs.Ytfjgpkpkhccliaa
