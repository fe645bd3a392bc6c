/- The walk of NetExact. -/
import Derived.Test.YtokfbnpjndlccaaEg

import Derived.Test.YtokfbnpjndlccaaNk

import Derived.Deep.DeepCutAuto

namespace Go.Proofs.Ytokfbnpjndlccaa

open Go.RowKit



theorem rem_even {y : Int} (h : y % 2 = 0) : ((y.tmod 2) != 0) = false := by
  have : y.tmod 2 = 0 := Int.tmod_eq_zero_of_dvd (Int.dvd_of_emod_eq_zero h)
  rw [this]; rfl
theorem rem_odd {y : Int} (h : ¬ y % 2 = 0) : ((y.tmod 2) != 0) = true := by
  have : ¬ y.tmod 2 = 0 := fun e => h (Int.emod_eq_zero_of_dvd (Int.dvd_of_tmod_eq_zero e))
  simpa using this
set_option maxRecDepth 100000 in
set_option maxHeartbeats 16000000 in
theorem netexact_bad {w : World} {mo : Int} {v : Value} {l : List Oq} (hs : Sc w v l) (hm : mo < 0 ∨ 4096 < mo) : Calls Try.prog 3 #[.int .i64 mo, v] w fun e w' => e = .returned (.bool true) ∧ Below w.heap.size w w' := by
  have HS : Hid (Sc w v l) := hs
  obtain ⟨so, sc, rfl, hsl, _⟩ := hs.form
  have hll : (l.length : Int) ≤ 9223372036854775807 := by unfold maxLen at hsl; omega
  clear hs hsl
  go_enter Try.func3, Try.ntmps3
  go_wp2_with fail
  refine (awake_walk _).mono ?_
  rintro e w1 ⟨rfl, hB⟩
  have HB1 : Hid (Below w.heap.size w w1) := hB
  clear hB
  go_wp2_with fail
  refine (new_bad hm _).mono ?_
  rintro e w2 ⟨rfl, hw2⟩
  rw [← hw2] at HB1
  clear hw2
  go_wp2_with fail
  refine (rnew_bad hm _).mono ?_
  rintro e w3 ⟨rfl, hw3⟩
  rw [← hw3] at HB1
  clear hw3 hm
  go_upto_region 8 with fail
  go_loopw [9] (fun iv wr => ∃ i : Nat, iv = .int .i64 i ∧ i ≤ l.length ∧ i ≤ 2000 ∧ Below w.heap.size w wr) (fun iv _ => l.length - (intOf iv).toNat)
  case atStart => exact ⟨0, rfl, Nat.zero_le _, Nat.zero_le _, HB1.out⟩
  case round =>
    obtain ⟨i, rfl, hil, hi2, hbel⟩ := hrel
    have HB : Hid (Below w.heap.size w wr) := hbel
    clear hbel
    by_cases hlt : i < l.length ∧ i < 2000
    · have hlti : (i : Int) < (l.length : Int) := by omega
      have hlt2 : (i : Int) < 2000 := by omega
      have HLT : Hid (i < l.length ∧ i < 2000) := hlt
      obtain ⟨sb, soff, rfl, hox⟩ := sc_at (HS.out.below HB.out) hlt.1
      have hml := HS.out.ml l[i] (List.getElem_mem _)
      have hok := HS.out.ok l[i] (List.getElem_mem _)
      obtain ⟨x, hx⟩ : ∃ x, x = l[i] := ⟨_, rfl⟩
      have hox' : Ox wr sb (soff + i * 12) x := by rw [hx]; exact hox
      have HML : Hid (ML w x.m x.e x.q x.p) := by rw [hx]; exact hml
      have HOK : Hid (x.ok) := by rw [hx]; exact hok
      clear hml hok hox hx hlt hil hi2
      obtain ⟨ea, en, ec, qa, qn, qc, pa, pn, pc, e1, e2, e3⟩ := ml_form HML.out
      obtain ⟨c0, c1, c2, m0, m1, m2, m3, m4, m5, m6, m7, m8⟩ := hox'
      have HEQ : Hid (x.e = .slice ea en ec ∧ x.q = .slice qa qn qc ∧ x.p = .slice pa pn pc) := ⟨e1, e2, e3⟩
      rw [e1] at m6
      rw [e2] at m7
      rw [e3] at m8
      clear e1 e2 e3
      have n1 : wr.cell? ⟨sb, soff + i * 12 + 4, none⟩ = _ := m1
      have n2 : wr.cell? ⟨sb, soff + i * 12 + 5, none⟩ = _ := m2
      have n3 : wr.cell? ⟨sb, soff + i * 12 + 6, none⟩ = _ := m3
      have n4 : wr.cell? ⟨sb, soff + i * 12 + 7, none⟩ = _ := m4
      have n5 : wr.cell? ⟨sb, soff + i * 12 + 8, none⟩ = _ := m5
      have n6 : wr.cell? ⟨sb, soff + i * 12 + 9, none⟩ = _ := m6
      have n7 : wr.cell? ⟨sb, soff + i * 12 + 10, none⟩ = _ := m7
      have n8 : wr.cell? ⟨sb, soff + i * 12 + 11, none⟩ = _ := m8
      have HR : Hid _ := @right_nil wr x (HML.out.below HB.out) HOK.out
      rw [HEQ.out.1, HEQ.out.2.1, HEQ.out.2.2] at HR
      by_cases ho : x.o % 2 = 0
      · have hoe := rem_even ho
        clear ho
        go_wp2_with fail
        refine Calls.mono HR.out ?_
        rintro e w4 ⟨rfl, hB⟩
        have HB4 : Hid (Below w.heap.size w w4) := below_trans HB.out hB
        clear hB
        go_wp2_with fail
        go_roundw
        case rel => exact ⟨i + 1, by go_num, HLT.out.1, HLT.out.2, HB4.out⟩
        case measure => have := HLT.out; simp [intOf]; omega
      · have hoe := rem_odd ho
        clear ho
        go_wp2_with fail
        refine Calls.mono HR.out ?_
        rintro e w4 ⟨rfl, hB⟩
        have HB4 : Hid (Below w.heap.size w w4) := below_trans HB.out hB
        clear hB
        go_wp2_with fail
        go_roundw
        case rel => exact ⟨i + 1, by go_num, HLT.out.1, HLT.out.2, HB4.out⟩
        case measure => have := HLT.out; simp [intOf]; omega
    · obtain ⟨wo, hwo⟩ : ∃ wo, wo = wr := ⟨_, rfl⟩
      rw [← hwo] at HB ⊢
      clear hwo
      by_cases hlt1 : i < l.length
      · have hlti : (i : Int) < (l.length : Int) := by omega
        have hlt2 : ¬ (i : Int) < 2000 := by omega
        go_upto_region 17 with fail
        go_wp2_with fail
        refine (flights_nilp _).mono ?_
        rintro e w2 ⟨rfl, hw2⟩
        rw [← hw2] at HB
        clear hw2
        go_wp2_with fail
        refine (rflights_nil _).mono ?_
        rintro e w3 ⟨v3, F, rfl, hfr, hnm, hB⟩
        have HFV : Hid _ := hfr.fv
        obtain ⟨fa, fc, hfa⟩ := own_formN hfr.own
        subst hfa
        have HB3 : Hid (Below w.heap.size w w3) := below_trans HB.out hB
        have HNM : Hid (([] : List En).map nmE = F.map nmE) := hnm.symm
        clear hfr hnm hB
        go_wp2_with fail
        refine (flights_same (fv_nil w3) HFV.out HNM.out).mono ?_
        rintro e w4 ⟨rfl, hB⟩
        have HB4 : Hid (Below w.heap.size w w4) := below_trans HB3.out hB
        clear hB
        go_wp2_with fail
        refine (next_nil _).mono ?_
        rintro e w5 ⟨rfl, hw5⟩
        rw [← hw5] at HB4
        clear hw5
        go_wp2_with fail
        refine (rnext_nil _).mono ?_
        rintro e w6 ⟨rfl, hw6⟩
        rw [← hw6] at HB4
        clear hw6
        go_wp2_with fail
        go_ret
        exact ⟨rfl, HB4.out⟩
      · have hlti : ¬ (i : Int) < (l.length : Int) := by omega
        go_upto_region 17 with fail
        go_wp2_with fail
        refine (flights_nilp _).mono ?_
        rintro e w2 ⟨rfl, hw2⟩
        rw [← hw2] at HB
        clear hw2
        go_wp2_with fail
        refine (rflights_nil _).mono ?_
        rintro e w3 ⟨v3, F, rfl, hfr, hnm, hB⟩
        have HFV : Hid _ := hfr.fv
        obtain ⟨fa, fc, hfa⟩ := own_formN hfr.own
        subst hfa
        have HB3 : Hid (Below w.heap.size w w3) := below_trans HB.out hB
        have HNM : Hid (([] : List En).map nmE = F.map nmE) := hnm.symm
        clear hfr hnm hB
        go_wp2_with fail
        refine (flights_same (fv_nil w3) HFV.out HNM.out).mono ?_
        rintro e w4 ⟨rfl, hB⟩
        have HB4 : Hid (Below w.heap.size w w4) := below_trans HB3.out hB
        clear hB
        go_wp2_with fail
        refine (next_nil _).mono ?_
        rintro e w5 ⟨rfl, hw5⟩
        rw [← hw5] at HB4
        clear hw5
        go_wp2_with fail
        refine (rnext_nil _).mono ?_
        rintro e w6 ⟨rfl, hw6⟩
        rw [← hw6] at HB4
        clear hw6
        go_wp2_with fail
        go_ret
        exact ⟨rfl, HB4.out⟩
set_option maxRecDepth 100000 in
set_option maxHeartbeats 16000000 in
theorem netexact_good {w : World} {mo : Int} {v : Value} {l : List Oq} (hs : Sc w v l) {r : Nat} (hmr : mo = (r : Int)) (hr : r ≤ 4096) : Calls Try.prog 3 #[.int .i64 mo, v] w fun e w' => e = .returned (.bool true) ∧ Below w.heap.size w w' := by
  have HS : Hid (Sc w v l) := hs
  obtain ⟨so, sc, rfl, hsl, _⟩ := hs.form
  have hll : (l.length : Int) ≤ 9223372036854775807 := by unfold maxLen at hsl; omega
  clear hs hsl
  go_enter Try.func3, Try.ntmps3
  go_wp2_with fail
  refine (awake_walk _).mono ?_
  rintro e w1 ⟨rfl, hB⟩
  have HB1 : Hid (Below w.heap.size w w1) := hB
  clear hB
  go_wp2_with fail
  subst hmr
  refine (new_walk hr w1).mono ?_
  rintro e w2 ⟨P, b, rfl, hn, hP, hb, hB⟩
  have HN2 : Hid (Nt w2 P b r 0 []) := hn
  have HPB : Hid (w1.heap.size ≤ P ∧ w1.heap.size ≤ b) := ⟨hP, hb⟩
  have HB2 : Hid (Below w.heap.size w w2) := below_trans HB1.out hB
  clear hn hP hb hB
  go_wp2_with fail
  refine (rnew_walk hr w2).mono ?_
  rintro e w3 ⟨rfl, hrt, hB⟩
  obtain ⟨R, hR⟩ : ∃ R, R = w2.heap.size := ⟨_, rfl⟩
  rw [← hR] at hrt ⊢
  have HI : Hid (Py w P b R R r 0 w3) := by
    have h1 := HB1.out.size
    have h2 := HB2.out.size
    have h3 := HPB.out
    have hlP := HN2.out.ltP
    have hlb := HN2.out.ltb
    refine ⟨_, [], [], ⟨HN2.out.below hB, hrt, fun x hx hk => ?_, below_trans HB2.out hB, ⟨by omega, by omega, by omega⟩⟩, rfl⟩
    have hxl : x < w2.heap.size := by
      rcases hx with e | e | ⟨y, hy, _⟩
      · omega
      · omega
      · simp at hy
    have := hrt.ge hk
    omega
  obtain ⟨B, hBR⟩ : ∃ B, B = R := ⟨_, rfl⟩
  have HI2 : Hid (Py w P b R B r 0 w3) := by rw [hBR]; exact HI.out
  clear hrt hB hR hBR HI HN2 HPB HB1 HB2
  have HI : Hid _ := HI2.out
  clear HI2
  go_upto_region 8 with fail
  go_loopw [9] (fun iv wr => ∃ (i nx : Nat), iv = .int .i64 i ∧ i ≤ l.length ∧ i ≤ 2000 ∧ nx ≤ i ∧ Py w P b R B r nx wr) (fun iv _ => l.length - (intOf iv).toNat)
  case atStart => exact ⟨0, 0, rfl, Nat.zero_le _, Nat.zero_le _, Nat.le_refl _, HI.out⟩
  case round =>
    obtain ⟨i, nx, rfl, hil, hi2, hnx, hpy⟩ := hrel
    have HP : Hid (Py w P b R B r nx wr) := hpy
    have HNX : Hid (nx ≤ i ∧ i ≤ 2000) := ⟨hnx, hi2⟩
    have HB : Hid (Below w.heap.size w wr) := by obtain ⟨_, _, _, hg, _⟩ := hpy; exact hg.w
    clear hpy HI hnx
    by_cases hlt : i < l.length ∧ i < 2000
    · have hlti : (i : Int) < (l.length : Int) := by omega
      have hlt2 : (i : Int) < 2000 := by omega
      have HLT : Hid (i < l.length ∧ i < 2000) := hlt
      obtain ⟨sb, soff, rfl, hox⟩ := sc_at (HS.out.below HB.out) hlt.1
      have hml := HS.out.ml l[i] (List.getElem_mem _)
      have hok := HS.out.ok l[i] (List.getElem_mem _)
      obtain ⟨x, hx⟩ : ∃ x, x = l[i] := ⟨_, rfl⟩
      have hox' : Ox wr sb (soff + i * 12) x := by rw [hx]; exact hox
      have HML : Hid (ML w x.m x.e x.q x.p) := by rw [hx]; exact hml
      have HOK : Hid (x.ok) := by rw [hx]; exact hok
      clear hml hok hox hx hlt hil hi2
      obtain ⟨ea, en, ec, qa, qn, qc, pa, pn, pc, e1, e2, e3⟩ := ml_form HML.out
      obtain ⟨c0, c1, c2, m0, m1, m2, m3, m4, m5, m6, m7, m8⟩ := hox'
      have HEQ : Hid (x.e = .slice ea en ec ∧ x.q = .slice qa qn qc ∧ x.p = .slice pa pn pc) := ⟨e1, e2, e3⟩
      rw [e1] at m6
      rw [e2] at m7
      rw [e3] at m8
      clear e1 e2 e3
      have n1 : wr.cell? ⟨sb, soff + i * 12 + 4, none⟩ = _ := m1
      have n2 : wr.cell? ⟨sb, soff + i * 12 + 5, none⟩ = _ := m2
      have n3 : wr.cell? ⟨sb, soff + i * 12 + 6, none⟩ = _ := m3
      have n4 : wr.cell? ⟨sb, soff + i * 12 + 7, none⟩ = _ := m4
      have n5 : wr.cell? ⟨sb, soff + i * 12 + 8, none⟩ = _ := m5
      have n6 : wr.cell? ⟨sb, soff + i * 12 + 9, none⟩ = _ := m6
      have n7 : wr.cell? ⟨sb, soff + i * 12 + 10, none⟩ = _ := m7
      have n8 : wr.cell? ⟨sb, soff + i * 12 + 11, none⟩ = _ := m8
      by_cases ho : x.o % 2 = 0
      · have hoe := rem_even ho
        clear ho
        have HR : Hid _ := @right_walk wr w P b R B r nx x HP.out HB.out.size HML.out HOK.out (by have := HNX.out; omega)
        rw [HEQ.out.1, HEQ.out.2.1, HEQ.out.2.2] at HR
        go_wp2_with fail
        refine Calls.mono HR.out ?_
        rintro e w4 ⟨rfl, hq⟩
        have HQ : Hid _ := hq
        clear hq
        go_wp2_with fail
        go_roundw
        case rel =>
          obtain ⟨nx', h1, h2⟩ := HQ.out
          exact ⟨i + 1, nx', by go_num, HLT.out.1, HLT.out.2, by have := HNX.out; omega, h2⟩
        case measure => have := HLT.out; simp [intOf]; omega
      · have hoe := rem_odd ho
        clear ho
        have HR : Hid _ := @right_nil wr x (HML.out.below HB.out) HOK.out
        rw [HEQ.out.1, HEQ.out.2.1, HEQ.out.2.2] at HR
        go_wp2_with fail
        refine Calls.mono HR.out ?_
        rintro e w4 ⟨rfl, hB⟩
        have HP4 : Hid _ := Py.below HP.out hB
        clear hB
        go_wp2_with fail
        go_roundw
        case rel => exact ⟨i + 1, nx, by go_num, HLT.out.1, HLT.out.2, by have := HNX.out; omega, HP4.out⟩
        case measure => have := HLT.out; simp [intOf]; omega
    · obtain ⟨wo, hwo⟩ : ∃ wo, wo = wr := ⟨_, rfl⟩
      rw [← hwo] at HP HB ⊢
      clear hwo
      by_cases hlt1 : i < l.length
      · have hlti : (i : Int) < (l.length : Int) := by omega
        have hlt2 : ¬ (i : Int) < 2000 := by omega
        go_upto_region 17 with fail
        obtain ⟨v0, L, M, hg, hnm⟩ := HP.out
        have HG : Hid _ := hg
        have HNM : Hid (M.map nmE = L.map nmE) := hnm
        have gnn : ((nx : Int) == (nx : Int)) = true := by simp
        clear hg hnm
        go_wp2_with fail
        refine (flights_walk HG.out.nt (by have := HNX.out; omega)).mono ?_
        rintro e w2 ⟨v2, F, rfl, hfr, hnf, hB⟩
        have HFV : Hid _ := hfr.fv
        obtain ⟨fa, fc, hfa⟩ := own_formN hfr.own
        subst hfa
        have HG2 : Hid _ := HG.out.below hB
        have HNF : Hid (F.map nmE = L.map nmE) := hnf
        clear hfr hnf hB
        go_wp2_with fail
        refine (rflights_walk HG2.out.rt).mono ?_
        rintro e w3 ⟨v3, F2, rfl, hfr, hnf, hB⟩
        have HFV2 : Hid _ := hfr.fv
        have HFV3 : Hid _ := HFV.out.below hB
        obtain ⟨ga, gc, hga⟩ := own_formN hfr.own
        subst hga
        have HG3 : Hid _ := HG2.out.below hB
        have HNF2 : Hid (F.map nmE = F2.map nmE) := by show _ = _; rw [HNF.out, hnf, HNM.out]
        clear hfr hnf hB
        go_wp2_with fail
        refine (flights_same HFV3.out HFV2.out HNF2.out).mono ?_
        rintro e w4 ⟨rfl, hB⟩
        have HG4 : Hid _ := HG3.out.below hB
        clear hB
        go_wp2_with fail
        refine (next_walk HG4.out.nt).mono ?_
        rintro e w5 ⟨rfl, hw5⟩
        rw [← hw5] at HG4
        clear hw5
        go_wp2_with fail
        refine (rnext_walk HG4.out.rt).mono ?_
        rintro e w6 ⟨rfl, hw6⟩
        rw [← hw6] at HG4
        clear hw6
        go_wp2_with fail
        go_ret
        exact ⟨rfl, HG4.out.w⟩
      · have hlti : ¬ (i : Int) < (l.length : Int) := by omega
        go_upto_region 17 with fail
        obtain ⟨v0, L, M, hg, hnm⟩ := HP.out
        have HG : Hid _ := hg
        have HNM : Hid (M.map nmE = L.map nmE) := hnm
        have gnn : ((nx : Int) == (nx : Int)) = true := by simp
        clear hg hnm
        go_wp2_with fail
        refine (flights_walk HG.out.nt (by have := HNX.out; omega)).mono ?_
        rintro e w2 ⟨v2, F, rfl, hfr, hnf, hB⟩
        have HFV : Hid _ := hfr.fv
        obtain ⟨fa, fc, hfa⟩ := own_formN hfr.own
        subst hfa
        have HG2 : Hid _ := HG.out.below hB
        have HNF : Hid (F.map nmE = L.map nmE) := hnf
        clear hfr hnf hB
        go_wp2_with fail
        refine (rflights_walk HG2.out.rt).mono ?_
        rintro e w3 ⟨v3, F2, rfl, hfr, hnf, hB⟩
        have HFV2 : Hid _ := hfr.fv
        have HFV3 : Hid _ := HFV.out.below hB
        obtain ⟨ga, gc, hga⟩ := own_formN hfr.own
        subst hga
        have HG3 : Hid _ := HG2.out.below hB
        have HNF2 : Hid (F.map nmE = F2.map nmE) := by show _ = _; rw [HNF.out, hnf, HNM.out]
        clear hfr hnf hB
        go_wp2_with fail
        refine (flights_same HFV3.out HFV2.out HNF2.out).mono ?_
        rintro e w4 ⟨rfl, hB⟩
        have HG4 : Hid _ := HG3.out.below hB
        clear hB
        go_wp2_with fail
        refine (next_walk HG4.out.nt).mono ?_
        rintro e w5 ⟨rfl, hw5⟩
        rw [← hw5] at HG4
        clear hw5
        go_wp2_with fail
        refine (rnext_walk HG4.out.rt).mono ?_
        rintro e w6 ⟨rfl, hw6⟩
        rw [← hw6] at HG4
        clear hw6
        go_wp2_with fail
        go_ret
        exact ⟨rfl, HG4.out.w⟩
theorem netexact_walk {w : World} {mo : Int} {v : Value} {l : List Oq} (hs : Sc w v l) : Calls Try.prog 3 #[.int .i64 mo, v] w fun e w' => e = .returned (.bool true) ∧ Below w.heap.size w w' := by
  by_cases h0 : mo < 0
  · exact netexact_bad hs (.inl h0)
  by_cases h1 : 4096 < mo
  · exact netexact_bad hs (.inr h1)
  exact netexact_good hs (r := mo.toNat) (by omega) (by omega)
end Go.Proofs.Ytokfbnpjndlccaa


