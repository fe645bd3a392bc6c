/- The insertion sort that gives up. Printed by program. -/
import Derived.Test.YtkicnoohfilgjaaUd

namespace Go.Proofs.Ytkicnoohfilgjaa

open Go.RowKit



theorem shd_stop {t : Nat} {d : Array Nat} (h : 1 ≤ t) (hl : ltN d[t]! d[t - 1]! = false) : Sort.shiftDown ltN t d = d := by
  cases t with
  | zero => omega
  | succ t => rw [Sort.shiftDown]; simp only [Nat.add_sub_cancel] at hl; rw [hl]; rfl
theorem shd_go {t : Nat} {d : Array Nat} (h : 1 ≤ t) (hl : ltN d[t]! d[t - 1]! = true) : Sort.shiftDown ltN t d = Sort.shiftDown ltN (t - 1) (Sort.swp d t (t - 1)) := by
  cases t with
  | zero => omega
  | succ t => rw [Sort.shiftDown]; simp only [Nat.add_sub_cancel] at hl ⊢; rw [hl]; rfl
theorem shd_end {t : Nat} {d : Array Nat} (h : ¬ 1 ≤ t) : Sort.shiftDown ltN t d = d := by
  obtain rfl : t = 0 := by omega
  rfl
theorem shu_stop {b t : Nat} {d : Array Nat} (h : t < b) (hl : ltN d[t]! d[t - 1]! = false) : Sort.shiftUp ltN b t d = d := by
  rw [Sort.shiftUp.eq_1, if_pos h, hl]; rfl
theorem shu_go {b t : Nat} {d : Array Nat} (h : t < b) (hl : ltN d[t]! d[t - 1]! = true) : Sort.shiftUp ltN b t d = Sort.shiftUp ltN b (t + 1) (Sort.swp d t (t - 1)) := by
  rw [Sort.shiftUp.eq_1, if_pos h, hl]; rfl
theorem shu_end {b t : Nat} {d : Array Nat} (h : ¬ t < b) : Sort.shiftUp ltN b t d = d := by
  rw [Sort.shiftUp.eq_1, if_neg h]
theorem ss_stop {b i : Nat} {d : Array Nat} (h : i < b → ltN d[i]! d[i - 1]! = true) : Sort.scanSorted ltN d b i = i := by
  rw [Sort.scanSorted.eq_1]
  refine if_neg ?_
  simp only [Bool.and_eq_true, decide_eq_true_eq, not_and]
  intro hib; rw [h hib]; simp
theorem ss_go {b i : Nat} {d : Array Nat} (h : i < b) (hl : ltN d[i]! d[i - 1]! = false) : Sort.scanSorted ltN d b i = Sort.scanSorted ltN d b (i + 1) := by
  rw [Sort.scanSorted.eq_1 ltN d b i]
  refine if_pos ?_
  simp [h, hl]


set_option maxRecDepth 100000 in
set_option maxHeartbeats 4000000 in
theorem upins_walk {w : World} {g o cap n a b : Nat} {d : Array Nat} (h : Un w g o cap d) (hn : d.size = n) (hab : a < b) (hb : b ≤ n) (hsz : n ≤ 2305843009213693951) :
    Calls Try.prog 49 #[.slice (some ⟨g, o, none⟩) n cap, .int .i64 a, .int .i64 b] w fun e w' => e = .returned (.bool (Sort.partialInsertionSort ltN d a b).2) ∧ Us w g o cap n (Sort.partialInsertionSort ltN d a b).1 w' := by
  show Calls _ _ _ _ fun e w' => e = .returned (.bool (Sort.partialIns ltN a b 5 (a + 1) d).2) ∧ Us w g o cap n (Sort.partialIns ltN a b 5 (a + 1) d).1 w'
  have HU : Hid (Us w g o cap n d w) := hn ▸ Us.start h
  obtain ⟨R, hR⟩ : ∃ R, R = Sort.partialIns ltN a b 5 (a + 1) d := ⟨_, rfl⟩
  rw [← hR]
  have HR : Hid (R = Sort.partialIns ltN a b 5 (a + 1) d) := hR
  clear h hn hR
  go_enter Try.func49, Try.ntmps49
  go_wp2_with fail
  go_loopw [7, 8] (fun iv jv wr => ∃ (i s : Nat) (D : Array Nat), iv = .int .i64 i ∧ jv = .int .i64 (5 - (s : Int)) ∧ s ≤ 5 ∧ a < i ∧ i ≤ b ∧ Us w g o cap n D wr ∧ Sort.partialIns ltN a b s i D = R) (fun _ jv _ => (5 - intOf jv).toNat)
  case atStart => exact ⟨a + 1, 5, d, by simp, rfl, Nat.le_refl _, by omega, by omega, HU.out, HR.out.symm⟩
  case round =>
    clear HU
    obtain ⟨i0, s, D, rfl, rfl, hs5, h1, h2, hU, hO⟩ := hrel
    have HU : Hid (Us w g o cap n D wr) := hU
    have HL : Hid (Sort.partialIns ltN a b s i0 D = R) := hO
    clear hU hO
    cases s with
    | zero =>
      have HE : Hid ((D, false) = R) := HL.out
      have hz : (5 : Int) - ((0 : Nat) : Int) = 5 := rfl
      rw [hz]
      clear hz
      go_wp2_with fail
      go_ret
      exact ⟨by rw [← HE.out]; rfl, HE.out ▸ HU.out⟩
    | succ s =>
      obtain ⟨V, hV⟩ : ∃ V : Int, V = 5 - ((s + 1 : Nat) : Int) := ⟨_, rfl⟩
      rw [← hV]
      have hV5 : V < 5 := by omega
      have hV0 : 0 ≤ V := by omega
      have HV : Hid (V + 1 = 5 - (s : Int)) := by show _ = _; omega
      have HVS : Hid (s ≤ 5) := by show _ ≤ _; omega
      clear hV hs5
      go_wp2_with fail
      go_loopw [7] (fun iv wr => ∃ t : Nat, iv = .int .i64 t ∧ i0 ≤ t ∧ t ≤ b ∧ Us w g o cap n D wr ∧ Sort.scanSorted ltN D b t = Sort.scanSorted ltN D b i0) (fun iv _ => b - (intOf iv).toNat)
      case atStart => exact ⟨i0, rfl, Nat.le_refl _, h2, HU.out, rfl⟩
      case round =>
        clear HU
        obtain ⟨t, rfl, h3, h4, hU, hO⟩ := hrel
        have HU : Hid (Us w g o cap n D wr) := hU
        have HO : Hid (Sort.scanSorted ltN D b t = Sort.scanSorted ltN D b i0) := hO
        clear hU hO
        obtain ⟨G, hG, hcw, hfw⟩ := HU.out.fam
        have HG : Hid (∀ x, G x = D[x]!) := hG
        clear hG
        go_wp2_with fail
        go_cut [32] (fun c wx => c = .bool (decide (t < b) && !ltN (G t) (G (t - 1))) ∧ Us w g o cap n D wx)
        case first =>
          by_cases hij : t < b
          · go_quiet ((go_at_call 50; exact Calls.quiet_of_same (uless_walk _ _ _)))
            go_wp2_with fail
            go_meet
            exact ⟨by simp [hij], HU.out.drew _⟩
          · go_quiet (fail)
            go_wp2_with fail
            go_meet
            exact ⟨by simp [hij], HU.out.drew _⟩
        case rest =>
          obtain ⟨rfl, hU2⟩ := hcut
          clear HU hcw hfw
          have HU : Hid (Us w g o cap n D wc) := hU2
          clear hU2
          cases hc : (decide (t < b) && !ltN (G t) (G (t - 1)))
          · have HT : Hid (Sort.scanSorted ltN D b i0 = t) := by
              show _ = _
              rw [← HO.out, ss_stop (fun hh => by
                have hc2 := hc
                simp only [hh, decide_true, Bool.true_and] at hc2
                rw [HG.out, HG.out] at hc2
                simpa using hc2)]
            clear hc HG HO
            obtain ⟨i, hi⟩ : ∃ i, i = t := ⟨_, rfl⟩
            subst hi
            have HN : Hid ((if i = b then (D, true) else if b - a < 50 then (D, false) else Sort.partialIns ltN a b s i (Sort.fixUp ltN b i (Sort.fixDown ltN a i (Sort.swp D i (i - 1))))) = R) := by
              show _ = _
              rw [← HL.out, Sort.partialIns_succ, HT.out]
            by_cases hib : i = b
            · have HE : Hid ((D, true) = R) := by have := HN.out; rw [if_pos hib] at this; exact this
              have hie : ((i : Int) == (b : Int)) = true := by simp [hib]
              go_wp2_with fail
              go_ret
              exact ⟨by rw [← HE.out]; rfl, HE.out ▸ HU.out⟩
            · have hie : ((i : Int) == (b : Int)) = false := by simp; omega
              have hie2 : ¬ ((i : Int) = (b : Int)) := by omega
              have hlb : i < b := by omega
              by_cases h50 : b - a < 50
              · have HE : Hid ((D, false) = R) := by have := HN.out; rw [if_neg hib, if_pos h50] at this; exact this
                have h5i : ((b : Int) - (a : Int) < 50) := by omega
                go_wp2_with fail
                go_ret
                exact ⟨by rw [← HE.out]; rfl, HE.out ▸ HU.out⟩
              · have HE : Hid (Sort.partialIns ltN a b s i (Sort.fixUp ltN b i (Sort.fixDown ltN a i (Sort.swp D i (i - 1)))) = R) := by have := HN.out; rw [if_neg hib, if_neg h50] at this; exact this
                have h5i : ¬ ((b : Int) - (a : Int) < 50) := by omega
                clear HN HT HL
                obtain ⟨G, hG, hcw, hfw⟩ := HU.out.fam
                have HG : Hid (∀ x, G x = D[x]!) := hG
                clear hG
                go_wp2_with fail
                go_cut [57] (fun _ wx => Us w g o cap n (Sort.swp D i (i - 1)) wx)
                case first =>
                  go_region
                  all_goals go_wp2_with fail
                  all_goals go_meet
                  all_goals exact HU.out.swp0 (i := i) (j := i - 1) HG.out (by omega) (by omega)
                case rest =>
                  clear HU HG hcw hfw
                  obtain ⟨D1, hD1⟩ : ∃ D1, D1 = Sort.swp D i (i - 1) := ⟨_, rfl⟩
                  rw [← hD1] at hcut
                  have HU : Hid (Us w g o cap n D1 wc) := hcut
                  have HE1 : Hid (Sort.partialIns ltN a b s i (Sort.fixUp ltN b i (Sort.fixDown ltN a i D1)) = R) := by show _ = _; rw [hD1]; exact HE.out
                  clear hcut hD1 HE
                  go_upto_if 61 with fail
                  go_cut [9] (fun _ wx => Us w g o cap n (Sort.fixDown ltN a i D1) wx)
                  case first =>
                    obtain ⟨D, hD⟩ : ∃ D, D = D1 := ⟨_, rfl⟩
                    subst hD
                    by_cases h2a : i - a ≥ 2
                    · have h2i : (i : Int) - (a : Int) ≥ 2 := by omega
                      have HF : Hid (Sort.fixDown ltN a i D = Sort.shiftDown ltN (i - 1) D) := if_pos h2a
                      go_wp2_with fail
                      go_loopw [9] (fun jv wr => ∃ (t : Nat) (E : Array Nat), jv = .int .i64 t ∧ t ≤ i - 1 ∧ 0 ≤ t ∧ Us w g o cap n E wr ∧ Sort.shiftDown ltN t E = Sort.shiftDown ltN (i - 1) D) (fun jv _ => (intOf jv).toNat)
                      case atStart => exact ⟨i - 1, D, by congr 1; omega, Nat.le_refl _, Nat.zero_le _, HU.out, rfl⟩
                      case round =>
                        clear HU
                        obtain ⟨t, E, rfl, h1, h2, hU, hO⟩ := hrel
                        have HU : Hid (Us w g o cap n E wr) := hU
                        have HO : Hid (Sort.shiftDown ltN t E = Sort.shiftDown ltN (i - 1) D) := hO
                        clear hU hO
                        obtain ⟨G, hG, hcw, hfw⟩ := HU.out.fam
                        have HG : Hid (∀ x, G x = E[x]!) := hG
                        clear hG
                        by_cases hg : 1 ≤ t
                        · go_wp2_with fail
                          go_quiet ((go_at_call 50; exact Calls.quiet_of_same (uless_walk _ _ _)))
                          cases hl : ltN (G t) (G (t - 1))
                          · have HE : Hid (E = Sort.shiftDown ltN (i - 1) D) := by show _ = _; rw [← HO.out, shd_stop hg (by rw [← HG.out, ← HG.out]; exact hl)]
                            go_wp2_with fail
                            go_meet
                            rw [HF.out]
                            exact HE.out ▸ HU.out.drew _
                          · have HE : Hid (Sort.shiftDown ltN (t - 1) (Sort.swp E t (t - 1)) = Sort.shiftDown ltN (i - 1) D) := by show _ = _; rw [← HO.out, shd_go hg (by rw [← HG.out, ← HG.out]; exact hl)]
                            go_wp2_with fail
                            go_region
                            all_goals go_wp2_with fail
                            all_goals go_roundw
                            case rel => exact ⟨t - 1, _, by congr 1; omega, by omega, by omega, HU.out.swp (i := t) (j := t - 1) HG.out (by omega) (by omega) _, HE.out⟩
                            case measure => simp [intOf]; omega
                        · have HE : Hid (E = Sort.shiftDown ltN (i - 1) D) := by show _ = _; rw [← HO.out, shd_end hg]
                          go_wp2_with fail
                          go_meet
                          rw [HF.out]
                          exact HE.out ▸ HU.out
                    · have h2i : ¬ ((i : Int) - (a : Int) ≥ 2) := by omega
                      have HF : Hid (Sort.fixDown ltN a i D = D) := if_neg h2a
                      go_wp2_with fail
                      go_meet
                      rw [HF.out]
                      exact HU.out
                  case rest =>
                    clear HU
                    obtain ⟨D2, hD2⟩ : ∃ D2, D2 = Sort.fixDown ltN a i D1 := ⟨_, rfl⟩
                    rw [← hD2] at hcut
                    have HU : Hid (Us w g o cap n D2 wc) := hcut
                    have HE2 : Hid (Sort.partialIns ltN a b s i (Sort.fixUp ltN b i D2) = R) := by show _ = _; rw [hD2]; exact HE1.out
                    clear hcut hD2 HE1
                    obtain ⟨D, hD⟩ : ∃ D, D = D2 := ⟨_, rfl⟩
                    subst hD
                    by_cases h2a : b - i ≥ 2
                    · have h2i : (b : Int) - (i : Int) ≥ 2 := by omega
                      have HF : Hid (Sort.fixUp ltN b i D = Sort.shiftUp ltN b (i + 1) D) := if_pos h2a
                      go_wp2_with fail
                      go_loopw [10] (fun jv wr => ∃ (t : Nat) (E : Array Nat), jv = .int .i64 t ∧ i + 1 ≤ t ∧ t ≤ b ∧ Us w g o cap n E wr ∧ Sort.shiftUp ltN b t E = Sort.shiftUp ltN b (i + 1) D) (fun jv _ => b - (intOf jv).toNat)
                      case atStart => exact ⟨i + 1, D, by simp, Nat.le_refl _, by omega, HU.out, rfl⟩
                      case round =>
                        clear HU
                        obtain ⟨t, E, rfl, h1, h2, hU, hO⟩ := hrel
                        have HU : Hid (Us w g o cap n E wr) := hU
                        have HO : Hid (Sort.shiftUp ltN b t E = Sort.shiftUp ltN b (i + 1) D) := hO
                        clear hU hO
                        obtain ⟨G, hG, hcw, hfw⟩ := HU.out.fam
                        have HG : Hid (∀ x, G x = E[x]!) := hG
                        clear hG
                        by_cases hg : t < b
                        · go_wp2_with fail
                          go_quiet ((go_at_call 50; exact Calls.quiet_of_same (uless_walk _ _ _)))
                          cases hl : ltN (G t) (G (t - 1))
                          · have HE : Hid (E = Sort.shiftUp ltN b (i + 1) D) := by show _ = _; rw [← HO.out, shu_stop hg (by rw [← HG.out, ← HG.out]; exact hl)]
                            go_wp2_with fail
                            go_roundw
                            case rel => exact ⟨i, s, E, rfl, by rw [HV.out], HVS.out, by omega, by omega, HU.out.drew _, by rw [HE.out, ← HF.out]; exact HE2.out⟩
                            case measure => simp [intOf]; omega
                          · have HE : Hid (Sort.shiftUp ltN b (t + 1) (Sort.swp E t (t - 1)) = Sort.shiftUp ltN b (i + 1) D) := by show _ = _; rw [← HO.out, shu_go hg (by rw [← HG.out, ← HG.out]; exact hl)]
                            go_wp2_with fail
                            go_region
                            all_goals go_wp2_with fail
                            all_goals go_roundw
                            case rel => exact ⟨t + 1, _, by simp, by omega, by omega, HU.out.swp (i := t) (j := t - 1) HG.out (by omega) (by omega) _, HE.out⟩
                            case measure => simp [intOf]; omega
                        · have HE : Hid (E = Sort.shiftUp ltN b (i + 1) D) := by show _ = _; rw [← HO.out, shu_end hg]
                          go_wp2_with fail
                          go_roundw
                          case rel => exact ⟨i, s, E, rfl, by rw [HV.out], HVS.out, by omega, by omega, HU.out, by rw [HE.out, ← HF.out]; exact HE2.out⟩
                          case measure => simp [intOf]; omega
                    · have h2i : ¬ ((b : Int) - (i : Int) ≥ 2) := by omega
                      have HF : Hid (Sort.fixUp ltN b i D = D) := if_neg h2a
                      go_wp2_with fail
                      go_roundw
                      case rel => exact ⟨i, s, D, rfl, by rw [HV.out], HVS.out, by omega, by omega, HU.out, by have := HE2.out; rw [HF.out] at this; exact this⟩
                      case measure => simp [intOf]; omega
          · have hij : t < b := by simp at hc; exact hc.1
            have HE : Hid (Sort.scanSorted ltN D b (t + 1) = Sort.scanSorted ltN D b i0) := by
              show _ = _
              rw [← HO.out, ss_go hij (by
                have hc2 := hc
                simp only [hij, decide_true, Bool.true_and] at hc2
                rw [HG.out, HG.out] at hc2
                simpa using hc2)]
            go_wp2_with fail
            go_roundw
            case rel => exact ⟨t + 1, by simp, by omega, by omega, HU.out, HE.out⟩
            case measure => simp [intOf]; omega
end Go.Proofs.Ytkicnoohfilgjaa


