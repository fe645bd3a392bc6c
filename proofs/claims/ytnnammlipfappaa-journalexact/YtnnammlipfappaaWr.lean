/- The reference's Take: it reads and answers, and turns nothing. -/
import Derived.Test.YtnnammlipfappaaWt

namespace Go.Proofs.Ytnnammlipfappaa

open Go.RowKit



set_option maxRecDepth 100000 in
set_option maxHeartbeats 2000000 in
theorem rtake_some (l : List Nat) (b off cap : Nat) (w : World) (hl : l.length ≤ cap) (hcap : cap ≤ maxLen)
    (hc : ∀ i, i < l.length → w.cell? ⟨b, off + i, none⟩ = some (.int .u8 ((l.getD i 0 : Nat) : Int))) (h256 : ∀ c ∈ l, c < 256) :
    Calls Try.prog 74 #[.slice (some ⟨b, off, none⟩) l.length cap] w fun e w' => e = .returned (t3 (Wm.take l)) ∧ w' = w := by
  unfold maxLen at hcap
  go_enter Try.func74, Try.ntmps74
  go_wp2
  go_loop [5, 6] (fun xv iv => ∃ i x : Nat, xv = .int .u64 x ∧ iv = .int .i64 i ∧ i ≤ l.length ∧ i ≤ 9 ∧ x < 128 ^ i ∧ Wm.tk (l.drop i) i x = Wm.take l) (fun _ iv => l.length - (intOf iv).toNat)
  case atStart => exact ⟨0, 0, rfl, rfl, by omega, by omega, by simp, rfl⟩
  case round =>
    obtain ⟨i, x, rfl, rfl, hil, hi9, hx, htk⟩ := hrel
    have HX : Hid (x < 128 ^ i) := hx
    have HT : Hid (Wm.tk (l.drop i) i x = Wm.take l) := htk
    clear hx htk
    by_cases hlt : i < l.length
    · have hcell := hc i hlt
      obtain ⟨c, hcd⟩ : ∃ c, l.getD i 0 = c := ⟨_, rfl⟩
      rw [hcd] at hcell
      have HC : Hid (l.getD i 0 = c) := hcd
      have hc256 : c < 256 := by rw [← hcd]; exact h256 _ (by simp [List.getD, List.getElem?_eq_getElem hlt])
      have hci : (c : Int) < 256 := by omega
      have HC2 : Hid (c < 256) := hc256
      have hli : (l.length : Int) ≤ 9223372036854775807 := by omega
      clear hcd hc hc256 hl hcap h256
      by_cases h3 : (i : Int) = 9
      · have h3b : ((i : Int) == 9) = true := by simp [h3]
        have H3 : Hid ((i : Int) = 9) := h3
        have h1 : (0 : Int) < (i : Int) := by omega
        clear h3
        by_cases h4 : (1 : Int) < (c : Int)
        · go_wp2_with fail
          go_ret3
          exact ⟨t3_mk (tk_bad HT.out hlt HC.out (.inr ⟨by have := H3.out; omega, by omega⟩)) rfl rfl rfl, rfl⟩
        · by_cases h2 : (c : Int) = 0
          · have h2b : ((c : Int) == 0) = true := by simp [h2]
            have H2 : Hid ((c : Int) = 0) := h2
            have h5 : (c : Int) < 128 := by omega
            clear h2
            go_wp2_with fail
            go_ret3
            exact ⟨t3_mk (tk_bad HT.out hlt HC.out (.inl ⟨by omega, by have := H2.out; omega⟩)) rfl rfl rfl, rfl⟩
          · have h2b : ((c : Int) == 0) = false := by simpa using h2
            have h5 : (c : Int) < 128 := by omega
            go_wp2_with fail
            go_ret3
            exact ⟨t3_mk (tk_last HT.out hlt HC.out (by omega) (by omega)) (acc_add HX.out hi9 (by omega)) (by omega) rfl, rfl⟩
      · have h3b : ((i : Int) == 9) = false := by simpa using h3
        by_cases h5 : (c : Int) < 128
        · by_cases h2 : (c : Int) = 0
          · have h2b : ((c : Int) == 0) = true := by simp [h2]
            have H2 : Hid ((c : Int) = 0) := h2
            clear h2
            by_cases h1 : (0 : Int) < (i : Int)
            · go_wp2_with fail
              go_ret3
              exact ⟨t3_mk (tk_bad HT.out hlt HC.out (.inl ⟨by omega, by have := H2.out; omega⟩)) rfl rfl rfl, rfl⟩
            · go_wp2_with fail
              go_ret3
              exact ⟨t3_mk (tk_last HT.out hlt HC.out (by omega) (by omega)) (acc_add HX.out hi9 (by omega)) (by omega) rfl, rfl⟩
          · have h2b : ((c : Int) == 0) = false := by simpa using h2
            go_wp2_with fail
            go_ret3
            exact ⟨t3_mk (tk_last HT.out hlt HC.out (by omega) (by omega)) (acc_add HX.out hi9 (by omega)) (by omega) rfl, rfl⟩
        · go_wp2_with fail
          go_round
          case rel => exact ⟨i + 1, _, by rw [acc_add HX.out hi9 (by omega)], by go_num, by omega, by omega, acc_next HX.out, tk_next HT.out hlt HC.out (by omega) (by omega) HC2.out⟩
          case measure => simp [intOf]; omega
    · have hlt' : ¬ (i : Int) < (l.length : Int) := by omega
      go_wp2_with fail
      go_ret3
      exact ⟨t3_mk (tk_end HT.out (by omega)) rfl rfl rfl, rfl⟩


set_option maxRecDepth 100000 in
theorem rtake_none (ao : Option Addr) (cap : Nat) (w : World) :
    Calls Try.prog 74 #[.slice ao 0 cap] w fun e w' => e = .returned (t3 (Wm.take [])) ∧ w' = w := by
  go_enter Try.func74, Try.ntmps74
  go_wp2
  refine wp_loop_rounds 1 ?_
  rw [rounds_succ]
  go_wp2
  go_ret3
  exact ⟨rfl, rfl⟩


theorem rtake_walk {w : World} {v : Value} {l : List Nat} (h : Bv w v l) :
    Calls Try.prog 74 #[v] w fun e w' => e = .returned (t3 (Wm.take l)) ∧ w' = w := by
  rcases bv_cases h with ⟨rfl, ao, cap, rfl⟩ | ⟨b, off, cap, rfl, hp, h1, h2, h3⟩
  · exact rtake_none ao cap w
  · exact rtake_some l b off cap w h1 h2 h3 h.2
end Go.Proofs.Ytnnammlipfappaa


