/- SourceReads, walked. -/
import Derived.Test.YtfgeabcdcepfdaaVk
namespace Go.Proofs.Ytfgeabcdcepfdaa
open Ieee Go.RowKit
attribute [local go_sem] run_store_float

def nineN (p : Int) : Nat := ((IntKind.u64.wrap p) % 9).toNat
theorem nineN_lt (p : Int) : nineN p < 9 := by unfold nineN; omega
theorem nine_rem (p : Int) : (IntKind.u64.wrap p).tmod 9 = (nineN p : Int) := by
  have h0 : 0 ≤ IntKind.u64.wrap p := by rw [IntKind.wrap_u64]; omega
  rw [Int.tmod_eq_emod_of_nonneg h0]
  unfold nineN; omega
theorem nine_rem' (p : Int) : (IntKind.u64.wrap p) % 9 = (nineN p : Int) := by unfold nineN; omega

set_option maxRecDepth 100000 in
theorem reads_bad {lv iv : Value} {l : List Stp} {pc : Int} {w : World} (ho : Ov w lv l) (hc : checkB l = false) :
    Calls Try.prog 4 #[lv, iv, .int .i64 pc] w fun e w' => e = .returned (.bool true) ∧ Below w.heap.size w w' := by
  have HO : Hid (Ov w lv l) := ho
  have HC : Hid (chkI l = 30) := by show _ = _; unfold chkI; rw [hc]; rfl
  clear ho
  go_enter Try.func4, Try.ntmps4
  go_wp2_with fail
  refine (awake_walk _).mono ?_
  rintro e w1 ⟨rfl, hB1⟩
  have HB1 : Hid (Below w.heap.size w w1) := hB1
  clear hB1
  go_wp2_with fail
  refine (filled_bad (HO.out.below HB1.out) hc).mono ?_
  rintro e w2 ⟨rfl, hB2⟩
  have HB2 : Hid (Below w.heap.size w w2) := below_trans HB1.out hB2
  clear hB2
  go_wp2_with fail
  obtain ⟨⟨ao, cap, hv, g1, g2, g3, g4⟩, g5⟩ := HO.out.below HB2.out
  subst hv
  refine (check_walk (Nat.le_trans g1 g2) g4).mono ?_
  rw [HC.out]
  rintro e w3 ⟨rfl, hB3⟩
  have HB3 : Hid (Below w.heap.size w w3) := below_trans HB2.out hB3
  clear hB3 g1 g2 g3 g4 g5
  go_wp2_with fail
  go_ret
  exact ⟨rfl, HB3.out⟩

theorem switch_has {S : Sc} {q : Nat} (h : hasS S q) (b : Bool) : switchS S q b = { S with on := upd S.on q b } := by unfold switchS; rw [if_pos h]; rfl
theorem switch_back {S : Sc} {q : Nat} (h : hasS S q) (ho : S.on q = true) : switchS (switchS S q false) q true = S := by
  have e1 := switch_has h false
  have h2 : hasS (switchS S q false) q := by rw [e1]; exact h
  rw [switch_has h2, e1]
  have e3 : upd (upd S.on q false) q true = S.on := by
    funext x
    by_cases hx : x = q
    · subst hx; rw [upd_same, ho]
    · rw [upd_other _ _ hx, upd_other _ _ hx]
  show ({ S with on := upd (upd S.on q false) q true } : Sc) = S
  rw [e3]

theorem read_on {S : Sc} {q x M : Nat} (h : hasS S q) (ho : S.on q = true) (hx : x ≤ (S.logs q).length) : readI S q x M = 0 ∧ readL S q x M = ((S.logs q).drop x).take M := by
  have e : readI S q x M = 0 := by
    unfold readI
    rw [if_pos h, if_neg (by simp only [Int.toNat_natCast]; omega), if_pos (by simpa using ho)]
  refine ⟨e, ?_⟩
  unfold readL
  rw [if_pos e]; rfl
theorem read_off {S : Sc} {q M : Nat} (h : hasS S q) (ho : S.on q = false) : readI S q 0 M = 63 ∧ readL S q 0 M = [] := by
  have e : readI S q 0 M = 63 := by
    unfold readI
    rw [if_pos h, if_neg (by simp only [Int.toNat_natCast]; omega), if_neg (by simp [ho])]
  refine ⟨e, ?_⟩
  unfold readL
  rw [e]; rfl

set_option maxRecDepth 100000 in
set_option maxHeartbeats 2000000 in
theorem reads_walk {lv : Value} {l : List Stp} {io : Option Addr} {ic : Nat} {items : List It} {pc : Int} {w : World} (ho : Ov w lv l) (hi : Il w io items) (hik : ∀ t ∈ items, t.ok) (hil : items.length ≤ maxLen) (hc : checkB l = true) :
    Calls Try.prog 4 #[lv, .slice io items.length ic, .int .i64 pc] w fun e w' => e = .returned (.bool true) ∧ Below w.heap.size w w' := by
  have HO : Hid (Ov w lv l) := ho
  have HI : Hid (Il w io items) := hi
  have HIK : Hid (∀ t ∈ items, t.ok) := hik
  have HIL : Hid (items.length ≤ maxLen) := hil
  have rm := nine_rem pc
  have rm' := nine_rem' pc
  have h9 := nineN_lt pc
  generalize nineN pc = Q at rm rm' h9
  have hwQ : IntKind.i64.wrap (Q : Int) = (Q : Int) := wrapU (by omega) (by omega)
  obtain ⟨M, hM⟩ : ∃ M, M = 1 + Q := ⟨_, rfl⟩
  have rM : 1 + (Q : Int) = (M : Int) := by omega
  have hM1 : 1 ≤ M := by omega
  have hM9 : M ≤ 9 := by omega
  clear ho hi hik hil hM
  go_enter Try.func4, Try.ntmps4
  go_wp2_with fail
  refine (awake_walk _).mono ?_
  rintro e w0 ⟨rfl, hB0⟩
  have HB0 : Hid (Below w.heap.size w w0) := hB0
  clear hB0
  go_wp2_with fail
  refine (filled_walk (HO.out.below HB0.out) (HI.out.below HB0.out (Nat.le_refl _)) HIK.out HIL.out hc).mono ?_
  obtain ⟨S, hS⟩ : ∃ S, S = fillS (newS 2 l) (items.take 4096) := ⟨_, rfl⟩
  rw [← hS]
  have HNP : Hid (S.np = 2) := by show _ = _; rw [hS]; exact (fill_list _ _).2.1
  have HON : Hid (∀ q, q < 2 → S.on q = true) := by intro q hq; rw [hS, (fill_list _ _).2.2]; exact decide_eq_true hq
  clear hS
  rintro e w1 ⟨v, rfl, hSb, hB⟩
  obtain ⟨sb, rfl⟩ := hSb.form
  obtain ⟨D, hSr, hD⟩ := hSb
  have HS1 : Hid (Src D w1 (.pointer (some ⟨sb, 0, none⟩)) S) := hSr
  have HDB : Hid (∀ b, D b → w.heap.size ≤ b) := fun b hb => Nat.le_trans HB0.out.size (hD b hb)
  have HB1 : Hid (Below w.heap.size w w1) := below_trans HB0.out hB
  have HK : Hid S.ok := hSr.good
  clear hSr hD hB
  go_wp2_with fail
  go_loopw [9] (fun pv wr => ∃ q : Nat, q ≤ 2 ∧ pv = .int .i64 q ∧ Src D wr (.pointer (some ⟨sb, 0, none⟩)) S ∧ Below w.heap.size w wr) (fun pv _ => 2 - (intOf pv).toNat)
  case atStart => exact ⟨0, by omega, rfl, HS1.out, HB1.out⟩
  case round =>
    clear HS1 HB1
    obtain ⟨q, hq, rfl, hSr, hB⟩ := hrel
    obtain ⟨wo, hwo⟩ : ∃ wo, wo = wr := ⟨_, rfl⟩
    subst hwo
    have HS : Hid (Src D wo (.pointer (some ⟨sb, 0, none⟩)) S) := hSr
    have HB : Hid (Below w.heap.size w wo) := hB
    clear hSr hB
    by_cases hq2 : q < 2
    · have HQ : Hid (hasS S q) := by show hasS S q; unfold hasS; rw [HNP.out]; omega
      have HQO : Hid (S.on q = true) := HON.out q hq2
      have HLO : Hid (logS S q = S.logs q) := by show _ = _; unfold logS; rw [if_pos HQ.out]; rfl
      obtain ⟨n, hn⟩ : ∃ n, n = (S.logs q).length := ⟨_, rfl⟩
      have HN : Hid (n = (S.logs q).length) := hn
      have hn256 : n ≤ 256 := by rw [hn]; exact HK.out.len q
      have HLN : Hid (lenS S q = n) := by show _ = _; unfold lenS; rw [if_pos HQ.out, hn]; rfl
      clear hn
      go_wp2_with fail
      refine (log_walk HS.out q).mono ?_
      rw [HLO.out]
      rintro e wL ⟨lg, rfl, hlg, hBL⟩
      obtain ⟨lo, lc, hlv, hRd⟩ := rd_new (D := D) hlg (HK.out.rok q) (fun x hx => HS.out.lt hx)
      subst hlv
      rw [← HN.out]
      have HL : Hid (Rd D wL lo (S.logs q)) := hRd
      have HSL : Hid (Src D wL (.pointer (some ⟨sb, 0, none⟩)) S) := HS.out.below hBL
      have HBL : Hid (Below w.heap.size w wL) := below_trans HB.out hBL
      clear hlg hRd hBL
      go_wp2_with fail
      go_loopw [11] (fun av wr => ∃ k : Nat, k ≤ n ∧ wr.ownsRow wL.heap.size 34 2 av k (flatR ((S.logs q).take k)) ∧ Below wL.heap.size wL wr) (fun av wr => n - (match av with | .slice _ k _ => k | _ => 0))
      case atStart => exact ⟨0, Nat.zero_le _, by simpa [flatR] using World.ownsRow_nil wL wL.heap.size 34 2, below_same _⟩
      case round =>
        obtain ⟨k, hk, hown, hB2⟩ := hrel
        have HW : Hid (wr.ownsRow wL.heap.size 34 2 u11 k (flatR ((S.logs q).take k))) := hown
        have HB2 : Hid (Below wL.heap.size wL wr) := hB2
        obtain ⟨ao, cap, hav, _⟩ := row_form hown
        subst hav
        clear hown hB2
        by_cases hkn : k < n
        · have HRO : Hid (readI S q k M = 0 ∧ readL S q k M = ((S.logs q).drop k).take M) := read_on HQ.out HQO.out (by rw [← HN.out]; omega)
          obtain ⟨c, hc9⟩ : ∃ c, c = (((S.logs q).drop k).take M).length := ⟨_, rfl⟩
          have hc1 : 1 ≤ c := by rw [hc9]; simp; rw [← HN.out]; omega
          have hc2 : c ≤ M := by rw [hc9]; simp; omega
          have hc3 : k + c ≤ n := by rw [hc9]; simp; rw [← HN.out]; omega
          have HCE : Hid ((S.logs q).take k ++ ((S.logs q).drop k).take M = (S.logs q).take (k + c)) := by
            show _ = _
            have e1 : ((S.logs q).drop k).take M = ((S.logs q).drop k).take c := by
              rcases Nat.le_total M ((S.logs q).drop k).length with h | h
              · have : c = M := by rw [hc9]; simp; simp at h; omega
                rw [this]
              · rw [List.take_of_length_le h, List.take_of_length_le (by rw [hc9, List.take_of_length_le h]; exact Nat.le_refl _)]
            rw [e1, List.take_add]
          have HC9 : Hid (c = (((S.logs q).drop k).take M).length) := hc9
          clear hc9
          go_wp2_with fail
          refine (read_walk (HSL.out.below HB2.out) q k M (by omega) (by omega)).mono ?_
          rw [HRO.out.1, HRO.out.2]
          rintro e wR ⟨rd, rfl, hrd, hBR⟩
          rw [← HC9.out] at hrd
          have HRR : Hid (Rv wR rd (((S.logs q).drop k).take M)) := own_rv hrd (fun r hr => HK.out.rok q r (List.mem_of_mem_drop (List.mem_of_mem_take hr)))
          obtain ⟨ro, rc, hrv, _⟩ := row_form hrd
          subst hrv
          have HWR : Hid (wR.ownsRow wL.heap.size 34 2 (.slice ao k cap) k (flatR ((S.logs q).take k))) := row_keep HW.out (fun x hx => hBR.block x (HW.out.lt x hx).2)
          have HBR : Hid (Below wL.heap.size wL wR) := below_trans HB2.out hBR
          clear hrd hBR
          have hci : ¬ ((c : Int) < 1) := by omega
          have hcM : ¬ ((c : Int) > (M : Int)) := by omega
          go_wp2_with (at_builtin; refine wpList_append_rv (by rfl) _ _ 44 (by rfl) wL.heap.size 34 Try.underlying44 info_rec _ k ((S.logs q).take k) (by rfl) HWR.out _ (((S.logs q).drop k).take M) (by rfl) HRR.out (by rw [← HC9.out]; simp only [maxLen]; omega) (by rw [← HC9.out]; omega) HBR.out.size ?_; intro v' w6 hown6 hgrow6)
          rw [HCE.out, ← HC9.out] at hown6
          have HB6 : Hid (Below wL.heap.size wL w6) := HBR.out.grown hgrow6 HBR.out.size (fun x hx => (HWR.out.lt x hx).1)
          obtain ⟨ao6, cap6, hv6, _⟩ := row_form hown6
          subst hv6
          have HO6 : Hid (w6.ownsRow wL.heap.size 34 2 (.slice ao6 (k + c) cap6) (k + c) (flatR ((S.logs q).take (k + c)))) := hown6
          clear hown6 hgrow6
          go_wp2_with fail
          go_roundw
          case rel => exact ⟨k + c, hc3, HO6.out, HB6.out⟩
          case measure => simp; omega
        · obtain rfl : n = k := by omega
          have HALL : Hid (Rl wr ao (S.logs q)) := by
            have := HW.out
            rw [HN.out, List.take_length] at this
            obtain ⟨ao', c', e, h⟩ := own_rl this (HK.out.rok q)
            simp only [Value.slice.injEq] at e
            rw [e.1]; exact h
          have HSR : Hid (Src D wr (.pointer (some ⟨sb, 0, none⟩)) S) := HSL.out.below HB2.out
          have HLR : Hid (Rd D wr lo (S.logs q)) := HL.out.below HB2.out
          have HBR : Hid (Below w.heap.size w wr) := below_trans HBL.out HB2.out
          clear HW HB2 HSL HL HBL
          have HRO : Hid (readI S q n M = 0 ∧ readL S q n M = []) := by
            have := read_on (M := M) HQ.out HQO.out (x := n) (by rw [HN.out]; exact Nat.le_refl _)
            refine ⟨this.1, ?_⟩
            rw [this.2, HN.out]; simp
          go_wp2_with fail
          refine (read_walk HSR.out q n M (by omega) (by omega)).mono ?_
          rw [HRO.out.1, HRO.out.2]
          rintro e w2 ⟨rd, rfl, hrd, hB2⟩
          obtain ⟨ro, rc, hrv, _⟩ := row_form hrd
          subst hrv
          rw [show ([] : List Rcd).length = 0 from rfl]
          have HA2 : Hid (Rl w2 ao (S.logs q) ∧ Rd D w2 lo (S.logs q)) := ⟨HALL.out.below hB2, HLR.out.below hB2⟩
          have HS2 : Hid (Src D w2 (.pointer (some ⟨sb, 0, none⟩)) S) := HSR.out.below hB2
          have HB2 : Hid (Below w.heap.size w w2) := below_trans HBR.out hB2
          clear hrd hB2 HALL HLR HSR HBR
          go_wp2_with fail
          have hcall := lrecs_walk (ca := cap) (cb := lc) (l := S.logs q) (by rw [← HN.out]; omega) HA2.out.1 HA2.out.2.1
          rw [← HN.out] at hcall
          refine Calls.mono hcall ?_
          clear hcall
          rintro e w3 ⟨rfl, hB3⟩
          have HL3 : Hid (Rd D w3 lo (S.logs q)) := HA2.out.2.below hB3
          have HS3 : Hid (Src D w3 (.pointer (some ⟨sb, 0, none⟩)) S) := HS2.out.below hB3
          have HB3 : Hid (Below w.heap.size w w3) := below_trans HB2.out hB3
          have HSI : Hid (switchI S q = 0) := by show _ = _; unfold switchI; rw [if_pos HQ.out]
          clear hB3
          go_wp2_with fail
          refine (switch_walk HS3.out q false).mono ?_
          rw [HSI.out]
          obtain ⟨T, hT⟩ : ∃ T, T = switchS S q false := ⟨_, rfl⟩
          rw [← hT]
          have HT : Hid (T = { S with on := upd S.on q false }) := by show _ = _; rw [hT]; unfold switchS; rw [if_pos HQ.out]; rfl
          have HTS : Hid (T = switchS S q false) := hT
          clear hT
          have HTQ : Hid (hasS T q) := by show hasS T q; rw [HT.out]; exact HQ.out
          have HTO : Hid (T.on q = false) := by show _ = _; rw [HT.out]; exact upd_same _ _ _
          have HTL : Hid (T.logs q = S.logs q) := by show _ = _; rw [HT.out]
          have HTU : Hid (upS T q = false) := by show _ = _; unfold upS; rw [if_pos HTQ.out]; exact HTO.out
          have HTG : Hid (logS T q = S.logs q) := by show _ = _; unfold logS; rw [if_pos HTQ.out]; exact HTL.out
          have HTN : Hid (lenS T q = n) := by show _ = _; unfold lenS; rw [if_pos HTQ.out, HN.out, ← HTL.out]; rfl
          have HTR : Hid (readI T q 0 M = 63 ∧ readL T q 0 M = []) := read_off HTQ.out HTO.out
          rintro e w4 ⟨rfl, hS4, hC4⟩
          have HL4 : Hid (Rd D w4 lo (S.logs q)) := HL3.out.ch hC4
          have HS4 : Hid (Src D w4 (.pointer (some ⟨sb, 0, none⟩)) T) := hS4
          have HB4 : Hid (Below w.heap.size w w4) := HB3.out.trans (hC4.to_below HB3.out.size HDB.out)
          clear hS4 hC4
          go_wp2_with (go_at_call 20; refine (up_walk HS4.out q).mono ?_; rw [HTU.out]; rintro e w9 ⟨rfl, h9⟩; have h9 := h9.symm; subst h9)
          refine (read_walk HS4.out q 0 M (by omega) (by omega)).mono ?_
          rw [HTR.out.1, HTR.out.2]
          rintro e w5 ⟨rd5, rfl, hrd, hB5⟩
          obtain ⟨ro5, rc5, hrv5, _⟩ := row_form hrd
          subst hrv5
          rw [show ([] : List Rcd).length = 0 from rfl]
          have HL5 : Hid (Rd D w5 lo (S.logs q)) := HL4.out.below hB5
          have HS5 : Hid (Src D w5 (.pointer (some ⟨sb, 0, none⟩)) T) := HS4.out.below hB5
          have HB5 : Hid (Below w.heap.size w w5) := below_trans HB4.out hB5
          clear hrd hB5
          go_wp2_with fail
          refine (log_walk HS5.out q).mono ?_
          rw [HTG.out]
          rintro e w6 ⟨lg6, rfl, hlg, hB6⟩
          obtain ⟨lo6, lc6, hlv6, hR6⟩ := own_rl hlg (HK.out.rok q)
          subst hlv6
          rw [← HN.out]
          have HL6 : Hid (Rd D w6 lo (S.logs q) ∧ Rl w6 lo6 (S.logs q)) := ⟨HL5.out.below hB6, hR6⟩
          have HS6 : Hid (Src D w6 (.pointer (some ⟨sb, 0, none⟩)) T) := HS5.out.below hB6
          have HB6 : Hid (Below w.heap.size w w6) := below_trans HB5.out hB6
          clear hlg hR6 hB6
          go_wp2_with fail
          have hcall := lrecs_walk (ca := lc6) (cb := lc) (l := S.logs q) (by rw [← HN.out]; omega) HL6.out.2 HL6.out.1.1
          rw [← HN.out] at hcall
          refine Calls.mono hcall ?_
          clear hcall
          rintro e w7 ⟨rfl, hB7⟩
          have HL7 : Hid (Rd D w7 lo (S.logs q)) := HL6.out.1.below hB7
          have HS7 : Hid (Src D w7 (.pointer (some ⟨sb, 0, none⟩)) T) := HS6.out.below hB7
          have HB7 : Hid (Below w.heap.size w w7) := below_trans HB6.out hB7
          have HSI2 : Hid (switchI T q = 0) := by show _ = _; unfold switchI; rw [if_pos HTQ.out]
          have HTB : Hid (switchS T q true = S) := by show _ = _; rw [HTS.out]; exact switch_back HQ.out HQO.out
          have HUP : Hid (upS S q = true) := by show _ = _; unfold upS; rw [if_pos HQ.out]; exact HQO.out
          clear hB7
          go_wp2_with (go_at_call 10; refine (len_walk HS7.out q).mono ?_; rw [HTN.out]; rintro e w9 ⟨rfl, h9⟩; have h9 := h9.symm; subst h9)
          refine (switch_walk HS7.out q true).mono ?_
          rw [HSI2.out, HTB.out]
          rintro e w8 ⟨rfl, hS8, hC8⟩
          have HL8 : Hid (Rd D w8 lo (S.logs q)) := HL7.out.ch hC8
          have HS8 : Hid (Src D w8 (.pointer (some ⟨sb, 0, none⟩)) S) := hS8
          have HB8 : Hid (Below w.heap.size w w8) := HB7.out.trans (hC8.to_below HB7.out.size HDB.out)
          clear hS8 hC8
          go_wp2_with (go_at_call 20; refine (up_walk HS8.out q).mono ?_; rw [HUP.out]; rintro e w9 ⟨rfl, h9⟩; have h9 := h9.symm; subst h9)
          have HRO2 : Hid (readI S q 0 n = 0 ∧ readL S q 0 n = S.logs q) := by
            have := read_on (M := n) HQ.out HQO.out (x := 0) (Nat.zero_le _)
            refine ⟨this.1, ?_⟩
            rw [show ((0 : Nat) : Int) = 0 from rfl] at this
            rw [this.2, HN.out]; simp
          refine (read_walk HS8.out q 0 n (by omega) (by omega)).mono ?_
          rw [HRO2.out.1, HRO2.out.2]
          rintro e wX ⟨rdX, rfl, hrd, hBX⟩
          obtain ⟨loX, lcX, hlvX, hRX⟩ := own_rl hrd (HK.out.rok q)
          subst hlvX
          rw [← HN.out]
          have HLX : Hid (Rd D wX lo (S.logs q) ∧ Rl wX loX (S.logs q)) := ⟨HL8.out.below hBX, hRX⟩
          have HSX : Hid (Src D wX (.pointer (some ⟨sb, 0, none⟩)) S) := HS8.out.below hBX
          have HBX : Hid (Below w.heap.size w wX) := below_trans HB8.out hBX
          clear hrd hRX hBX
          go_wp2_with fail
          have hcall := lrecs_walk (ca := lcX) (cb := lc) (l := S.logs q) (by rw [← HN.out]; omega) HLX.out.2 HLX.out.1.1
          rw [← HN.out] at hcall
          refine Calls.mono hcall ?_
          clear hcall
          rintro e wY ⟨rfl, hBY⟩
          have HSY : Hid (Src D wY (.pointer (some ⟨sb, 0, none⟩)) S) := HSX.out.below hBY
          have HBY : Hid (Below w.heap.size w wY) := below_trans HBX.out hBY
          clear hBY
          go_wp2_with fail
          go_roundw
          case rel => exact ⟨q + 1, by omega, by simp, HSY.out, HBY.out⟩
          case measure => simp [intOf]; omega
    · go_wp2_with fail
      go_ret
      exact ⟨rfl, HB.out⟩
end Go.Proofs.Ytfgeabcdcepfdaa
