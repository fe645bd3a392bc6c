/- The reference's Right. -/
import Derived.Test.YtakijnclllmkfaaSb
namespace Go.Proofs.Ytakijnclllmkfaa
open Go.RowKit

set_option maxRecDepth 100000 in
set_option maxHeartbeats 4000000 in
theorem rright_walk {w : World} {v : Value} {b : List Nat} (h : Bv w v b) (hl : b.length ≤ 1024) {B : Nat} (hB : B ≤ 64) :
    Calls Try.prog 67 #[v, .int .i64 B] w fun e w' => Rk w b B e w' := by
  have HV : Hid (Bv w v b) := h
  have HL : Hid (b.length ≤ 1024) := hl
  have HBB : Hid (B ≤ 64) := hB
  have hBi : (B : Int) ≤ 64 := by omega
  obtain ⟨bo, bc, rfl, hb1, hb2⟩ := bv_form h
  have hbl : (b.length : Int) ≤ 1024 := by omega
  have hbc : (b.length : Int) ≤ (bc : Int) := by omega
  have HBC : Hid (b.length ≤ bc) := hb1
  have HBY : Hid (∀ c ∈ b, c < 256) := h.2
  rcases Wm.take_form b h.2 with ⟨er, her, h34⟩ | ⟨g, p, htx, hx, hn1, hn2, henc⟩
  · have HER : Hid (Wm.take b = (0, 0, er)) := her
    have HNO : Hid (rootOf b B = none) := root_take her h34
    clear h hl hB hb1 hb2 her
    rcases h34 with rfl | rfl
    all_goals
      go_enter Try.func67, Try.ntmps67
      go_wp2_with fail
      refine (rtake_walk HV.out).mono ?_
      rintro e w1 ⟨he, h9⟩
      have h9 := h9.symm
      subst h9
      rw [t3_lit HER.out] at he
      subst he
      go_wp2_with fail
      go_ret2
      exact rk_no HNO.out (below_same _)
  · have HT : Hid (Wm.take b = (g, p, 0)) := htx
    have HP : Hid (p ≤ b.length) := hn2
    have hpi : (p : Int) ≤ (b.length : Int) := by omega
    clear h hl hB hb1 hb2 htx henc hx hn1 hn2
    by_cases hg1 : (g : Int) < 1
    · have HNO : Hid (rootOf b B = none) := root_gen HT.out (.inl (by omega))
      go_enter Try.func67, Try.ntmps67
      go_wp2_with fail
      refine (rtake_walk HV.out).mono ?_
      rintro e w1 ⟨he, h9⟩
      have h9 := h9.symm
      subst h9
      rw [t3_lit HT.out] at he
      subst he
      go_wp2_with fail
      go_ret2
      exact rk_no HNO.out (below_same _)
    · have hg1i : 1 ≤ (g : Int) := by omega
      have hgd1 : decide ((g : Int) < 1) = false := decide_eq_false hg1
      clear hg1
      by_cases hg2 : (1099511627776 : Int) < (g : Int)
      · have HNO : Hid (rootOf b B = none) := root_gen HT.out (.inr (by omega))
        go_enter Try.func67, Try.ntmps67
        go_wp2_with fail
        refine (rtake_walk HV.out).mono ?_
        rintro e w1 ⟨he, h9⟩
        have h9 := h9.symm
        subst h9
        rw [t3_lit HT.out] at he
        subst he
        go_wp2_with fail
        go_ret2
        exact rk_no HNO.out (below_same _)
      · have HG : Hid (1 ≤ g ∧ g ≤ 1099511627776) := ⟨by omega, by omega⟩
        have hgd2 : decide ((1099511627776 : Int) < (g : Int)) = false := decide_eq_false hg2
        have hgl : (g : Int) ≤ 1099511627776 := by omega
        clear hg2
        obtain ⟨t, n, er, hnn⟩ : ∃ t n er, Wm.takeNums (b.drop p) 8 = (t, n, er) := ⟨_, _, _, rfl⟩
        have HN : Hid (Wm.takeNums (b.drop p) 8 = (t, n, er)) := hnn
        have HDL : Hid ((b.drop p).length * 8 ≤ 140737488355328) := by show _ ≤ _; rw [List.length_drop]; have := HL.out; omega
        clear hnn
        by_cases hcp : bc = p
        · have HLP : Hid (b.length ≤ p) := by show _ ≤ _; have := HBC.out; omega
          have HCP : Hid (bc = p) := hcp
          have h3 : er = 3 := by
            have hh := HN.out
            rw [List.drop_eq_nil_of_le HLP.out] at hh
            have : Wm.takeNums [] 8 = ([], 0, 3) := rfl
            rw [this] at hh
            simp only [Prod.mk.injEq] at hh
            exact hh.2.2.symm
          subst h3
          have HNO : Hid (rootOf b B = none) := root_nums HT.out HN.out (by omega)
          clear hcp
          go_enter Try.func67, Try.ntmps67
          go_wp2_with fail
          refine (rtake_walk HV.out).mono ?_
          rintro e w1 ⟨he, h9⟩
          have h9 := h9.symm
          subst h9
          rw [t3_lit HT.out] at he
          subst he
          have hcp := HCP.out
          have hbp : b.length = p := by have := HLP.out; omega
          clear HCP
          subst hcp
          go_wp2_with fail
          refine (rtakenums_walk 8 (Bv.cutEnd (ao := bo) HLP.out) HDL.out (by omega)).mono ?_
          rw [HN.out]
          rintro e w2 ⟨ao, cap, rfl, hS, hB2, hnw⟩
          simp only at hS hnw ⊢
          have HB2 : Hid (Below w.heap.size w w2) := hB2
          clear hS hnw hB2
          go_wp2_with fail
          go_ret2
          exact rk_no HNO.out HB2.out
        · by_cases he0 : er = 0
          · subst he0
            have HNF : Hid (n ≤ (b.drop p).length ∧ t.length ≤ 8) := nums_fit (fun c hc => HBY.out c (List.mem_of_mem_drop hc)) HN.out
            have hpn : (p : Int) + (n : Int) ≤ (b.length : Int) := by have h1 := HNF.out.1; rw [List.length_drop] at h1; omega
            have ht8 : (t.length : Int) ≤ 8 := by have := HNF.out.2; omega
            go_enter Try.func67, Try.ntmps67
            go_wp2_with fail
            refine (rtake_walk HV.out).mono ?_
            rintro e w1 ⟨he, h9⟩
            have h9 := h9.symm
            subst h9
            rw [t3_lit HT.out] at he
            subst he
            go_wp2_with fail
            refine (rtakenums_walk 8 (HV.out.cutFrom p HP.out hcp) HDL.out (by omega)).mono ?_
            rw [HN.out]
            rintro e w2 ⟨ao, cap, rfl, hS, hB2, hnw⟩
            simp only [ib_len] at hS hnw ⊢
            have HS : Hid (Tw w2 (.slice ao t.length cap) t) := hS
            have HNW : Hid (∀ x, (Value.slice ao t.length cap).ownBlock = some x → w.heap.size ≤ x) := hnw
            have HB2 : Hid (Below w.heap.size w w2) := hB2
            clear hS hnw hB2
            by_cases hln : p + n = b.length
            · have HLN : Hid (p + n = b.length) := hln
              have hlb : ((p : Int) + (n : Int) != (b.length : Int)) = false := by simp; omega
              clear hln
              by_cases ht1 : t.length < 1
              · have HNO : Hid (rootOf b B = none) := root_tab HT.out HN.out (tab_no (fun h => by have := h.1; omega))
                have ht1i : (t.length : Int) < 1 := by omega
                go_wp2_with fail
                go_ret2
                exact rk_no HNO.out HB2.out
              · have ht1i : (1 : Int) ≤ (t.length : Int) := by omega
                have ht1d : decide ((t.length : Int) < (1 : Int)) = false := decide_eq_false (by omega)
                by_cases hBt : B < 2 + 2 * t.length
                · have HNO : Hid (rootOf b B = none) := root_tab HT.out HN.out (tab_no (fun h => by have := h.2.1; omega))
                  have hBti : (B : Int) < 2 + 2 * (t.length : Int) := by omega
                  go_wp2_with fail
                  go_ret2
                  exact rk_no HNO.out HB2.out
                · have hBti : 2 + 2 * (t.length : Int) ≤ (B : Int) := by omega
                  have hBtd : decide ((B : Int) < 2 + 2 * (t.length : Int)) = false := decide_eq_false (by omega)
                  have HC12 : Hid (1 ≤ t.length ∧ 2 + 2 * t.length ≤ B) := ⟨by omega, by omega⟩
                  clear ht1 hBt
                  go_wp2_with fail
                  go_loopw [11] (fun iv wr => ∃ k : Nat, k ≤ t.length ∧ iv = .int .i64 k ∧ (∀ i, i < k → Cok t B i) ∧ Below w2.heap.size w2 wr) (fun iv _ => t.length - (intOf iv).toNat)
                  case atStart => exact ⟨0, Nat.zero_le _, rfl, fun i hi => by omega, below_same _⟩
                  case round =>
                    obtain ⟨k, hk, rfl, hcok, hbr⟩ := hrel
                    have HCK : Hid (∀ i, i < k → Cok t B i) := hcok
                    have HBR : Hid (Below w2.heap.size w2 wr) := hbr
                    clear hcok hbr
                    by_cases hlt : k < t.length
                    · obtain ⟨tb, off, rfl, hc⟩ := (HS.out.below HBR.out).at hlt
                      have HSR : Hid (Tw wr (.slice (some ⟨tb, off, none⟩) t.length cap) t) := HS.out.below HBR.out
                      obtain ⟨y, hy⟩ : ∃ y, y = tn t k := ⟨_, rfl⟩
                      rw [← hy] at hc
                      have HY : Hid (tn t k = y) := hy.symm
                      have hki : (k : Int) < (t.length : Int) := by omega
                      clear hy
                      by_cases hy0 : y = 0
                      · have HE : Hid (∀ i, i < k + 1 → Cok t B i) := fun i hi => by
                          by_cases e : i = k
                          · subst e; exact .inl (by rw [HY.out]; exact hy0)
                          · exact HCK.out i (by omega)
                        have hyb : ((y : Int) == 0) = true := by simp [hy0]
                        clear hy0
                        go_wp2_with fail
                        go_roundw
                        case rel => exact ⟨k + 1, hlt, by simp, HE.out, HBR.out⟩
                        case measure => simp [intOf]; omega
                      · have hyb : ((y : Int) == 0) = false := by simp; omega
                        have HY0 : Hid (y ≠ 0) := hy0
                        clear hy0
                        by_cases hy2 : y < 2
                        · have HNO : Hid (rootOf b B = none) := root_tab HT.out HN.out (tab_no (fun h => by rcases h.2.2 k hlt with e | e; rw [HY.out] at e; exact HY0.out e; rw [HY.out] at e; omega))
                          have hy2i : (y : Int) < 2 := by omega
                          have HBX : Hid (Below w.heap.size w wr) := below_trans HB2.out HBR.out
                          go_wp2_with fail
                          (try simp only [Exit.inBlock, Exit.then])
                          go_ret2
                          exact rk_no HNO.out HBX.out
                        · have hy2i : (2 : Int) ≤ (y : Int) := by omega
                          have hy2d : decide ((y : Int) < (2 : Int)) = false := decide_eq_false (by omega)
                          by_cases hyB : B ≤ y
                          · have HNO : Hid (rootOf b B = none) := root_tab HT.out HN.out (tab_no (fun h => by rcases h.2.2 k hlt with e | e; rw [HY.out] at e; exact HY0.out e; rw [HY.out] at e; omega))
                            have hyBi : (B : Int) ≤ (y : Int) := by omega
                            have HBX : Hid (Below w.heap.size w wr) := below_trans HB2.out HBR.out
                            go_wp2_with fail
                            (try simp only [Exit.inBlock, Exit.then])
                            go_ret2
                            exact rk_no HNO.out HBX.out
                          · have hyBi : (y : Int) < (B : Int) := by omega
                            have hyBd : decide ((B : Int) ≤ (y : Int)) = false := decide_eq_false (by omega)
                            have HYR : Hid (2 ≤ y ∧ y < B) := ⟨by omega, by omega⟩
                            clear hy2 hyB
                            go_wp2_with fail
                            go_loopw [12] (fun jv wx => ∃ j : Nat, j ≤ k ∧ jv = .int .i64 j ∧ (∀ i, i < j → tn t i ≠ y) ∧ Below w2.heap.size w2 wx) (fun jv _ => k - (intOf jv).toNat)
                            case atStart => exact ⟨0, Nat.zero_le _, rfl, fun i hi => by omega, HBR.out⟩
                            case round =>
                              obtain ⟨j, hj, rfl, hno, hbx⟩ := hrel
                              have HNX : Hid (∀ i, i < j → tn t i ≠ y) := hno
                              have HBX : Hid (Below w2.heap.size w2 wr) := hbx
                              clear hno hbx
                              by_cases hjk : j < k
                              · have hjl : j < t.length := by omega
                                obtain ⟨tb', off', e1, m0⟩ := (HS.out.below HBX.out).at hjl
                                cases e1
                                obtain ⟨_, _, e2, m1⟩ := (HS.out.below HBX.out).at hlt
                                cases e2
                                rw [HY.out] at m1
                                obtain ⟨z, hz⟩ : ∃ z, z = tn t j := ⟨_, rfl⟩
                                rw [← hz] at m0
                                have HZ : Hid (tn t j = z) := hz.symm
                                have hjki : (j : Int) < (k : Int) := by omega
                                have hjli : (j : Int) < (t.length : Int) := by omega
                                clear hz
                                by_cases hzy : z = y
                                · have HNO : Hid (rootOf b B = none) := root_tab HT.out HN.out (tab_no (fun h => by
                                    rcases h.2.2 k hlt with e | e
                                    · rw [HY.out] at e; exact HY0.out e
                                    · exact e.2.2 ((mem_take (by omega)).2 ⟨j, hjk, by rw [HZ.out, HY.out]; exact hzy⟩)))
                                  have hzb : ((z : Int) == (y : Int)) = true := by simp [hzy]
                                  clear hzy
                                  go_wp2_with fail
                                  go_quiet (fail)
                                  obtain ⟨wq, hwq⟩ : ∃ wq, wq = wr.drewN nq := ⟨_, rfl⟩
                                  rw [← hwq]
                                  have HBQ : Hid (Below w.heap.size w wq) := by show Below _ _ _; rw [hwq]; exact below_trans (below_trans HB2.out HBX.out) (below_drewN _ _)
                                  clear hwq
                                  go_wp2_with fail
                                  (try simp only [Exit.inBlock, Exit.then])
                                  go_ret2
                                  exact rk_no HNO.out HBQ.out
                                · have HE : Hid (∀ i, i < j + 1 → tn t i ≠ y) := fun i hi => by
                                    by_cases e : i = j
                                    · subst e; rw [HZ.out]; exact hzy
                                    · exact HNX.out i (by omega)
                                  have hzb : ((z : Int) == (y : Int)) = false := by simp; omega
                                  clear hzy
                                  go_wp2_with fail
                                  go_quiet (fail)
                                  obtain ⟨wq, hwq⟩ : ∃ wq, wq = wr.drewN nq := ⟨_, rfl⟩
                                  rw [← hwq]
                                  have HBQ : Hid (Below w2.heap.size w2 wq) := by show Below _ _ _; rw [hwq]; exact below_trans HBX.out (below_drewN _ _)
                                  clear hwq
                                  go_wp2_with fail
                                  go_roundw
                                  case rel => exact ⟨j + 1, hjk, by simp, HE.out, HBQ.out⟩
                                  case measure => simp [intOf]; omega
                              · have hjki : ¬ (j : Int) < (k : Int) := by omega
                                have HE : Hid (∀ i, i < k + 1 → Cok t B i) := fun i hi => by
                                  by_cases e : i = k
                                  · subst e
                                    refine .inr ⟨by rw [HY.out]; exact HYR.out.1, by rw [HY.out]; exact HYR.out.2, fun m => ?_⟩
                                    obtain ⟨q, h1, h2⟩ := (mem_take (by omega)).1 m
                                    exact HNX.out q (by omega) (by rw [h2, HY.out])
                                  · exact HCK.out i (by omega)
                                go_wp2_with fail
                                go_roundw
                                case rel => exact ⟨k + 1, hlt, by simp, HE.out, HBX.out⟩
                                case measure => simp [intOf]; omega
                    · have HYE : Hid (rootOf b B = some (g, t)) := root_some HT.out HG.out.1 HG.out.2 HN.out HLN.out (tab_yes ⟨HC12.out.1, HC12.out.2, fun i hi => HCK.out i (by omega)⟩)
                      have hki : ¬ (k : Int) < (t.length : Int) := by omega
                      have hgw : IntKind.i64.wrap (g : Int) = (g : Int) := wrapU (by omega) (by omega)
                      have HSR : Hid (Tw wr (.slice ao t.length cap) t) := HS.out.below HBR.out
                      have HBX : Hid (Below w.heap.size w wr) := below_trans HB2.out HBR.out
                      go_wp2_with fail
                      go_ret2
                      exact rk_yes HYE.out HSR.out HNW.out HBX.out
            · have HNO : Hid (rootOf b B = none) := root_len HT.out HN.out hln
              have hlb : ((p : Int) + (n : Int) != (b.length : Int)) = true := by simp; omega
              clear hln
              go_wp2_with fail
              go_ret2
              exact rk_no HNO.out HB2.out
          · have HNO : Hid (rootOf b B = none) := root_nums HT.out HN.out he0
            have heb : ((er : Int) != 0) = true := by simp; omega
            go_enter Try.func67, Try.ntmps67
            go_wp2_with fail
            refine (rtake_walk HV.out).mono ?_
            rintro e w1 ⟨he, h9⟩
            have h9 := h9.symm
            subst h9
            rw [t3_lit HT.out] at he
            subst he
            go_wp2_with fail
            refine (rtakenums_walk 8 (HV.out.cutFrom p HP.out hcp) HDL.out (by omega)).mono ?_
            rw [HN.out]
            rintro e w2 ⟨ao, cap, rfl, hS, hB2, hnw⟩
            simp only [ib_len] at hS hnw ⊢
            have HB2 : Hid (Below w.heap.size w w2) := hB2
            clear hS hnw hB2
            go_wp2_with fail
            go_ret2
            exact rk_no HNO.out HB2.out
end Go.Proofs.Ytakijnclllmkfaa
