/- The reference's Open. -/
import Derived.Test.YtakijnclllmkfaaSc
namespace Go.Proofs.Ytakijnclllmkfaa
open Go.RowKit

theorem ob_new {F : Value → Value → Bo → Array Value} {TB TD : TypeId} {D : Nat → Prop} {w wx : World} {dv tv : Value} {P : Bo} {S' : Dk} (hD : Dsk TD D wx dv S') (hDl : ∀ x, D x → x < w.heap.size) (hT : Tw wx tv P.tab) (htn : ∀ x, tv.ownBlock = some x → w.heap.size ≤ x ∧ x < wx.heap.size) (hok : P.ok S'.bl.length) (hC : Ch D w wx) :
    Ob F TB TD D w dv 0 (some P) S' (.returned (.tuple #[.pointer (some ⟨wx.heap.size, 0, none⟩), .int .i64 0])) (wx.alloc (.cells (F tv dv P) TB)) := by
  have hs := hC.size
  refine ⟨_, rfl, (fun e => by cases e), (fun P' e => ?_), hC.self (Ch.of_below (below_alloc _ _))⟩
  cases e
  refine ⟨fun x => D x ∨ x = wx.heap.size ∨ tv.ownBlock = some x, ⟨D, wx.heap.size, tv, rfl, ⟨heap_alloc_new wx _, hT.below (below_alloc _ _), hD.below (below_alloc _ _), fun x hx => .inl hx, .inr (.inl rfl), fun e => by have := hDl _ e; omega, fun x hx => ⟨.inr (.inr hx), fun e => by have h1 := hDl _ e; have h2 := (htn x hx).1; omega, by have := (htn x hx).2; omega⟩, fun x hx => ?_, hok⟩⟩, fun x hx => ?_⟩
  · rcases hx with q | q | q
    · have := hDl x q; simp; omega
    · subst q; simp
    · have := (htn x q).2; simp; omega
  · rcases hx with q | q | q
    · exact .inl q
    · exact .inr (by omega)
    · exact .inr (htn x q).1
theorem ob_none {F : Value → Value → Bo → Array Value} {TB TD : TypeId} {D : Nat → Prop} {w wx : World} {dv : Value} {S' : Dk} {c : Int} (hD : Dsk TD D wx dv S') (hC : Ch D w wx) :
    Ob F TB TD D w dv c none S' (.returned (.tuple #[.pointer none, .int .i64 c])) wx :=
  ⟨_, rfl, (fun _ => ⟨rfl, D, hD, fun x hx => .inl hx⟩), (fun P e => by cases e), hC⟩

theorem rd_short {S : Dk} (hd : S.down = false) (hb : S.bl.length ≤ 1) : readL (rdS S 1) ((1 : Nat) : Int) = [] ∧ rdS S 2 = rdS S 1 := by
  have h1 := rd_dn hd 1
  have hr : refI (rdS S 1) ((1 : Nat) : Int) = 81 := by unfold refI; rw [if_neg (by rw [h1.1]; simp), if_pos (by rw [h1.2]; right; show (S.bl.length : Int) ≤ ((1 : Nat) : Int); omega)]
  refine ⟨by unfold readL; rw [if_neg (by rw [hr]; decide)], ?_⟩
  show readS (rdS S 1) ((1 : Nat) : Int) = _
  unfold readS; rw [if_neg (by rw [hr]; decide)]
theorem tw_lt {w : World} {ao : Option Addr} {cap x : Nat} {t : List Nat} (h : Tw w (.slice ao t.length cap) t) (h1 : 1 ≤ t.length) (hx : (Value.slice ao t.length cap).ownBlock = some x) : x < w.heap.size := by
  obtain ⟨bb, off, e, hcell⟩ := h.at (i := 0) h1
  subst e
  simp [Value.ownBlock] at hx
  subst hx
  exact cell_lt hcell

section
variable {D : Nat → Prop} {w : World} {dv : Value} {S : Dk}
theorem ropen_nil : Calls Try.prog 26 #[.pointer none] w fun e w' => e = .returned (.tuple #[.pointer none, .int .i64 2]) ∧ w' = w := by
  go_enter Try.func26, Try.ntmps26
  go_wp2_with fail
  go_ret2
  exact ⟨rfl, rfl⟩
theorem ropen_down (h : Dsk 83 D w dv S) (hd : S.down = true) : Calls Try.prog 26 #[dv] w fun e w' => Ob hdR 87 83 D w dv (opI S) (opB S) (opS S) e w' := by
  have HD : Hid (Dsk 83 D w dv S) := h
  have HDN : Hid (S.down = true) := hd
  have HO : Hid (opI S = 80 ∧ opB S = none ∧ opS S = S) := by unfold opI opB opS; rw [if_pos hd, if_pos hd, if_pos hd]; exact ⟨rfl, rfl, rfl⟩
  obtain ⟨sb, hsb⟩ : ∃ sb, dv = .pointer (some ⟨sb, 0, none⟩) := by obtain ⟨sb, _, _, e, _⟩ := h; exact ⟨sb, e⟩
  rw [HO.out.1, HO.out.2.1, HO.out.2.2]
  subst hsb
  clear h hd
  go_enter Try.func26, Try.ntmps26
  go_wp2_with fail
  refine (rdown_walk HD.out).mono ?_
  rw [HDN.out]
  rintro e w9 ⟨rfl, h9⟩
  have h9 := h9.symm
  subst h9
  go_wp2_with fail
  go_ret2
  exact ob_none HD.out (Ch.refl _ _)

set_option maxRecDepth 100000 in
set_option maxHeartbeats 4000000 in
theorem ropen_up (h : Dsk 83 D w dv S) (hd : S.down = false) (hrd : S.rd < 4611686018427387904) : Calls Try.prog 26 #[dv] w fun e w' => Ob hdR 87 83 D w dv (opI S) (opB S) (opS S) e w' := by
  have HD : Hid (Dsk 83 D w dv S) := h
  have HDN : Hid (S.down = false) := hd
  have hnd : ¬ S.down = true := by rw [hd]; simp
  have HO : Hid (opI S = (if heldK S 2 = none then 90 else 0) ∧ opB S = heldK S 2 ∧ opS S = rdS S 2) := by unfold opI opB opS; rw [if_neg hnd, if_neg hnd, if_neg hnd]; exact ⟨rfl, rfl, rfl⟩
  obtain ⟨sb, hsb⟩ : ∃ sb, dv = .pointer (some ⟨sb, 0, none⟩) := by obtain ⟨sb, _, _, e, _⟩ := h; exact ⟨sb, e⟩
  have HG : Hid S.ok := h.good
  have HRD : Hid (S.rd < 4611686018427387904) := hrd
  have HDL : Hid (∀ x, D x → x < w.heap.size) := fun x hx => h.lt hx
  rw [HO.out.1, HO.out.2.1, HO.out.2.2]
  obtain ⟨o, ho⟩ : ∃ o, o = heldK S 2 := ⟨_, rfl⟩
  rw [← ho]
  have HOO : Hid (o = heldK S 2) := ho
  obtain ⟨c, hc⟩ : ∃ c : Int, c = if o = none then 90 else 0 := ⟨_, rfl⟩
  rw [← hc]
  have HCO : Hid (c = if o = none then 90 else 0) := hc
  clear ho hc
  subst hsb
  have hbi : (S.bl.length : Int) ≤ 64 := by have := h.good.n64; omega
  clear h hd hrd hnd
  go_enter Try.func26, Try.ntmps26
  go_wp2_with fail
  refine (rdown_walk HD.out).mono ?_
  rw [HDN.out]
  rintro e w9 ⟨rfl, h9⟩
  have h9 := h9.symm
  subst h9
  go_wp2_with fail
  refine (rread_walk HD.out ((0 : Nat) : Int) (by have := HRD.out; omega)).mono ?_
  rintro e w1 ⟨r0, rfl, ho1, hD1, hC1⟩
  obtain ⟨a, ha⟩ : ∃ a, a = readL S ((0 : Nat) : Int) := ⟨_, rfl⟩
  rw [← ha] at ho1
  have HFA : Hid (a.length ≤ 1024 ∧ ∀ c ∈ a, c < 256) := by rw [ha]; exact read_fit HG.out _
  have HA : Hid (a = readL (rdS S 0) ((0 : Nat) : Int)) := ha
  obtain ⟨ao, ac, rfl, _, _⟩ := row_form ho1
  have HV1 : Hid (Bv (w1.alloc (.cells #[] 5)) (.slice ao a.length ac) a) := (own_bv ho1 HFA.out.2).below (below_alloc _ _)
  have HVL : Hid (∀ x, (Value.slice ao a.length ac).ownBlock = some x → w.heap.size ≤ x) := fun x hx => (ho1.lt x hx).1
  have HD1 : Hid (Dsk 83 D (w1.alloc (.cells #[] 5)) (.pointer (some ⟨sb, 0, none⟩)) (rdS S 1)) := Dsk.below (by exact hD1) (below_alloc _ _)
  have HC1 : Hid (Ch D w (w1.alloc (.cells #[] 5))) := hC1.self (Ch.of_below (below_alloc _ _))
  have HE0 : Hid (Bv (w1.alloc (.cells #[] 5)) (.slice (some ⟨w1.heap.size, 0, none⟩) 0 0) []) := ⟨⟨_, 0, rfl, Nat.le_refl _, by simp [maxLen], fun e => rfl, fun i hi => by simp [ib] at hi⟩, by simp⟩
  have HL1 : Hid ((rdS S 1).bl.length = S.bl.length) := rd_len S 1
  have HR1 : Hid ((rdS S 1).rd < 9223372036854775807) := by show _ < _; have h1 := rd_rd S 1; have h2 := HRD.out; omega
  clear ha ho1 hD1 hC1
  go_wp2_with fail
  refine (rblocks_walk HD1.out).mono ?_
  rw [HL1.out]
  rintro e w9 ⟨rfl, h9⟩
  subst h9
  go_upto_if 23 with (fail)
  go_cut [6] (fun bv wx => ∃ uo uc bb, bv = .slice uo bb.length uc ∧ Bv wx (.slice uo bb.length uc) bb ∧ bb = readL (rdS S 1) ((1 : Nat) : Int) ∧ Dsk 83 D wx (.pointer (some ⟨sb, 0, none⟩)) (rdS S 2) ∧ Ch D (w1.alloc (.cells #[] 5)) wx)
  case first =>
    by_cases hB1 : 1 < S.bl.length
    · have hB1i : (1 : Int) < (S.bl.length : Int) := by omega
      go_wp2_with fail
      refine (rread_walk HD1.out ((1 : Nat) : Int) HR1.out).mono ?_
      rintro e w2 ⟨r1, rfl, ho2, hD2, hC2⟩
      obtain ⟨bb, hbb⟩ : ∃ bb, bb = readL (rdS S 1) ((1 : Nat) : Int) := ⟨_, rfl⟩
      rw [← hbb] at ho2
      have HFB : Hid (∀ c ∈ bb, c < 256) := by rw [hbb]; exact (read_fit (ok_read HG.out _) _).2
      obtain ⟨uo, uc, rfl, _, _⟩ := row_form ho2
      have HV2 : Hid (Bv w2 (.slice uo bb.length uc) bb) := own_bv ho2 HFB.out
      have HBB : Hid (bb = readL (rdS S 1) ((1 : Nat) : Int)) := hbb
      have HD2 : Hid (Dsk 83 D w2 (.pointer (some ⟨sb, 0, none⟩)) (rdS S 2)) := hD2
      have HC2 : Hid (Ch D (w1.alloc (.cells #[] 5)) w2) := hC2
      clear ho2 hD2 hC2 hbb
      go_wp2_with fail
      go_meet
      exact ⟨uo, uc, bb, rfl, HV2.out, HBB.out, HD2.out, HC2.out⟩
    · have hB1i : ¬ (1 : Int) < (S.bl.length : Int) := by omega
      have HSH : Hid (readL (rdS S 1) ((1 : Nat) : Int) = [] ∧ rdS S 2 = rdS S 1) := rd_short HDN.out (by omega)
      go_wp2_with fail
      go_meet
      exact ⟨_, 0, [], rfl, HE0.out, HSH.out.1.symm, by rw [HSH.out.2]; exact HD1.out, Ch.refl _ _⟩
  case rest =>
    obtain ⟨uo, uc, bb, rfl, hVb, hbb, hDc, hCc⟩ := hcut
    have HVB : Hid (Bv wc (.slice uo bb.length uc) bb) := hVb
    have HK : Hid (o = pickB (pickB none (rootOf a S.bl.length) 0) (rootOf bb S.bl.length) 1) := by show _ = _; rw [HOO.out, HA.out, hbb]; rfl
    have HFB : Hid (bb.length ≤ 1024 ∧ ∀ c ∈ bb, c < 256) := by rw [hbb]; exact read_fit (ok_read HG.out _) _
    have HDC : Hid (Dsk 83 D wc (.pointer (some ⟨sb, 0, none⟩)) (rdS S 2)) := hDc
    have HCC : Hid (Ch D w wc) := HC1.out.self hCc
    have HVA : Hid (Bv wc (.slice ao a.length ac) a) := (Bx.ch (D := D) (D' := D) ⟨HV1.out, .inr (fun x hx e => by have h1 := HDL.out x e; have h2 := HVL.out x hx; omega)⟩ hCc (fun x hx => .inl hx)).1
    have HL2 : Hid ((rdS S 2).bl.length = S.bl.length) := rd_len S 2
    have HB64 : Hid (S.bl.length ≤ 64) := HG.out.n64
    clear hVb hbb hDc hCc
    go_wp2_with fail
    refine (rblocks_walk HDC.out).mono ?_
    rw [HL2.out]
    rintro e w9 ⟨rfl, h9⟩
    have h9 := h9.symm
    subst h9
    go_wp2_with fail
    refine (rright_walk HVA.out HFA.out.1 HB64.out).mono ?_
    rintro e w3 ⟨hno, hye, hB3⟩
    have HC3 : Hid (Ch D w w3) := HCC.out.self (Ch.of_below hB3)
    have HD3 : Hid (Dsk 83 D w3 (.pointer (some ⟨sb, 0, none⟩)) (rdS S 2)) := HDC.out.below hB3
    have HV3 : Hid (Bv w3 (.slice uo bb.length uc) bb) := HVB.out.below hB3
    have HSC : Hid (w.heap.size ≤ wc.heap.size) := HCC.out.size
    clear hB3
    cases hr0 : rootOf a S.bl.length with
    | none =>
      have he := hno hr0
      subst he
      have HR0 : Hid (rootOf a S.bl.length = none) := hr0
      clear hno hye hr0
      go_wp2_with fail
      refine (rblocks_walk HD3.out).mono ?_
      rw [HL2.out]
      rintro e w9 ⟨rfl, h9⟩
      have h9 := h9.symm
      subst h9
      go_wp2_with fail
      refine (rright_walk HV3.out HFB.out.1 HB64.out).mono ?_
      rintro e w4 ⟨hno, hye, hB4⟩
      have HC4 : Hid (Ch D w w4) := HC3.out.self (Ch.of_below hB4)
      have HD4 : Hid (Dsk 83 D w4 (.pointer (some ⟨sb, 0, none⟩)) (rdS S 2)) := HD3.out.below hB4
      clear hB4
      cases hr1 : rootOf bb S.bl.length with
      | none =>
        have he := hno hr1
        subst he
        have HOE : Hid (o = none) := by show _ = _; rw [HK.out, HR0.out, hr1]; rfl
        clear hno hye hr1
        go_wp2_with fail
        go_ret2
        rw [HCO.out, HOE.out, if_pos rfl]
        exact ob_none HD4.out HC4.out
      | some q =>
        obtain ⟨g, t⟩ := q
        obtain ⟨to', tc, he, hTw, hTn⟩ := hye g t hr1
        subst he
        have HF : Hid (1 ≤ g ∧ g ≤ 1099511627776 ∧ t.length ≤ 8 ∧ Tok t S.bl.length) := root_fit HFB.out.2 hr1
        have hg1 : (1 : Int) ≤ (g : Int) := by have := HF.out.1; omega
        have hg2 : (g : Int) ≤ 1099511627776 := by have := HF.out.2.1; omega
        have hgz : ((g : Int) == 0) = false := by simp; omega
        have HTW : Hid (Tw w4 (.slice to' t.length tc) t) := hTw
        have HTN : Hid (∀ x, (Value.slice to' t.length tc).ownBlock = some x → w.heap.size ≤ x ∧ x < w4.heap.size) := fun x hx => ⟨Nat.le_trans HC3.out.size (hTn x hx), tw_lt hTw HF.out.2.2.2.1 hx⟩
        have HOE : Hid (o = some ⟨g, t, 1, false⟩) := by show _ = _; rw [HK.out, HR0.out, hr1]; rfl
        clear hno hye hr1 hTw hTn
        go_wp2_with fail
        go_ret2
        rw [HCO.out, HOE.out, if_neg (by simp)]
        exact ob_new (P := ⟨g, t, 1, false⟩) HD4.out HDL.out HTW.out HTN.out (by rw [HL2.out]; exact ⟨HF.out.1, HF.out.2.1, HF.out.2.2.1, HF.out.2.2.2, Nat.le_refl _⟩) HC4.out
    | some q =>
      obtain ⟨g, t⟩ := q
      obtain ⟨to', tc, he, hTw, hTn⟩ := hye g t hr0
      subst he
      have HF : Hid (1 ≤ g ∧ g ≤ 1099511627776 ∧ t.length ≤ 8 ∧ Tok t S.bl.length) := root_fit HFA.out.2 hr0
      have hg1 : (1 : Int) ≤ (g : Int) := by have := HF.out.1; omega
      have hg2 : (g : Int) ≤ 1099511627776 := by have := HF.out.2.1; omega
      have hgz : ((g : Int) == 0) = false := by simp; omega
      have HTW : Hid (Tw w3 (.slice to' t.length tc) t) := hTw
      have HTN : Hid (∀ x, (Value.slice to' t.length tc).ownBlock = some x → w.heap.size ≤ x ∧ x < w3.heap.size) := fun x hx => ⟨Nat.le_trans HSC.out (hTn x hx), tw_lt hTw HF.out.2.2.2.1 hx⟩
      have HR0 : Hid (rootOf a S.bl.length = some (g, t)) := hr0
      clear hno hye hr0 hTw hTn
      go_wp2_with fail
      refine (rblocks_walk HD3.out).mono ?_
      rw [HL2.out]
      rintro e w9 ⟨rfl, h9⟩
      have h9 := h9.symm
      subst h9
      go_wp2_with fail
      refine (rright_walk HV3.out HFB.out.1 HB64.out).mono ?_
      rintro e w4 ⟨hno, hye, hB4⟩
      have HC4 : Hid (Ch D w w4) := HC3.out.self (Ch.of_below hB4)
      have HD4 : Hid (Dsk 83 D w4 (.pointer (some ⟨sb, 0, none⟩)) (rdS S 2)) := HD3.out.below hB4
      have HT4 : Hid (Tw w4 (.slice to' t.length tc) t) := HTW.out.below hB4
      have HN4 : Hid (∀ x, (Value.slice to' t.length tc).ownBlock = some x → w.heap.size ≤ x ∧ x < w4.heap.size) := fun x hx => ⟨(HTN.out x hx).1, Nat.lt_of_lt_of_le (HTN.out x hx).2 hB4.size⟩
      clear hB4
      cases hr1 : rootOf bb S.bl.length with
      | none =>
        have he := hno hr1
        subst he
        have HOE : Hid (o = some ⟨g, t, 0, false⟩) := by show _ = _; rw [HK.out, HR0.out, hr1]; rfl
        clear hno hye hr1
        have hgn : ¬ (g : Int) < 0 := by omega
        go_wp2_with fail
        go_ret2
        rw [HCO.out, HOE.out, if_neg (by simp)]
        exact ob_new (P := ⟨g, t, 0, false⟩) HD4.out HDL.out HT4.out HN4.out (by rw [HL2.out]; exact ⟨HF.out.1, HF.out.2.1, HF.out.2.2.1, HF.out.2.2.2, Nat.zero_le _⟩) HC4.out
      | some q2 =>
        obtain ⟨g2, t2⟩ := q2
        obtain ⟨to2, tc2, he, hTw, hTn⟩ := hye g2 t2 hr1
        subst he
        have HF2 : Hid (1 ≤ g2 ∧ g2 ≤ 1099511627776 ∧ t2.length ≤ 8 ∧ Tok t2 S.bl.length) := root_fit HFB.out.2 hr1
        have hh1 : (1 : Int) ≤ (g2 : Int) := by have := HF2.out.1; omega
        have HTW2 : Hid (Tw w4 (.slice to2 t2.length tc2) t2) := hTw
        have HTN2 : Hid (∀ x, (Value.slice to2 t2.length tc2).ownBlock = some x → w.heap.size ≤ x ∧ x < w4.heap.size) := fun x hx => ⟨Nat.le_trans HC3.out.size (hTn x hx), tw_lt hTw HF2.out.2.2.2.1 hx⟩
        have HOK : Hid (o = pickB (pickB none (some (g, t)) 0) (some (g2, t2)) 1) := by show _ = _; rw [HK.out, HR0.out, hr1]
        clear hno hye hr1 hTw hTn
        by_cases hgg : g < g2
        · have hggi : (g : Int) < (g2 : Int) := by omega
          have HPK : Hid (pickB (pickB none (some (g, t)) 0) (some (g2, t2)) 1 = some ⟨g2, t2, 1, false⟩) := by show _ = _; unfold pickB; simp only; rw [if_pos hgg]
          have HOE : Hid _ := HOK.out.trans HPK.out
          clear hgg
          go_wp2_with fail
          go_ret2
          rw [HCO.out, HOE.out, if_neg (by simp)]
          exact ob_new (P := ⟨g2, t2, 1, false⟩) HD4.out HDL.out HTW2.out HTN2.out (by rw [HL2.out]; exact ⟨HF2.out.1, HF2.out.2.1, HF2.out.2.2.1, HF2.out.2.2.2, Nat.le_refl _⟩) HC4.out
        · have hggi : (g2 : Int) ≤ (g : Int) := by omega
          have HPK : Hid (pickB (pickB none (some (g, t)) 0) (some (g2, t2)) 1 = some ⟨g, t, 0, false⟩) := by show _ = _; unfold pickB; simp only; rw [if_neg hgg]
          have HOE : Hid _ := HOK.out.trans HPK.out
          clear hgg
          go_wp2_with fail
          go_ret2
          rw [HCO.out, HOE.out, if_neg (by simp)]
          exact ob_new (P := ⟨g, t, 0, false⟩) HD4.out HDL.out HT4.out HN4.out (by rw [HL2.out]; exact ⟨HF.out.1, HF.out.2.1, HF.out.2.2.1, HF.out.2.2.2, Nat.zero_le _⟩) HC4.out
theorem ropen_walk (h : Dsk 83 D w dv S) (hrd : S.rd < 4611686018427387904) : Calls Try.prog 26 #[dv] w fun e w' => Ob hdR 87 83 D w dv (opI S) (opB S) (opS S) e w' := by
  cases hd : S.down
  · exact ropen_up h hd hrd
  · exact ropen_down h hd
end
end Go.Proofs.Ytakijnclllmkfaa
