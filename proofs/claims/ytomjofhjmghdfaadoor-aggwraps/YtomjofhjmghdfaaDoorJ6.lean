/- The walk of AggWraps. -/
import Derived.Test.YtomjofhjmghdfaaDoorGn
namespace Go.Proofs.YtomjofhjmghdfaaDoor
open Ieee Go.RowKit

attribute [local go_sem] run_has run_bits_of

theorem merge_12 {k : Int} (h : k = 1 ∨ k = 2) (x y : Nat) : mergeV k ⟨true, x⟩ ⟨true, y⟩ = ⟨true, (x + y) % 18446744073709551616⟩ := by
  unfold mergeV
  rw [fitV_12 h, fitV_12 h, join_tt, if_neg (by omega), if_neg (by omega)]

theorem neg_word64 {b : Nat} (hb : b < 18446744073709551616) : ∃ g : Nat, g < 18446744073709551616 ∧ IntKind.u64.wrap (-(b : Int)) = (g : Int) ∧ (b + g) % 18446744073709551616 = 0 := by
  refine ⟨(18446744073709551616 - b) % 18446744073709551616, Nat.mod_lt _ (by omega), ?_, by omega⟩
  rw [IntKind.wrap_u64]
  omega

theorem sum_word64 (a b : Nat) : ∃ s : Nat, s = (a + b) % 18446744073709551616 ∧ IntKind.u64.wrap ((a : Int) + (b : Int)) = (s : Int) := by
  refine ⟨_, rfl, ?_⟩
  rw [IntKind.wrap_u64]
  omega

theorem ten_word64 (a c : Nat) (hc : 48 ≤ c) : ∃ p : Nat, IntKind.u64.wrap ((a : Int) * 10) = (p : Int) ∧ IntKind.u64.wrap ((p : Int) + ((c : Int) - 48)) = (((a * 10 + (c - 48)) % 18446744073709551616 : Nat) : Int) := by
  refine ⟨(a * 10) % 18446744073709551616, ?_, ?_⟩
  · rw [IntKind.wrap_u64]
    omega
  · rw [IntKind.wrap_u64]
    omega

/-- How far the loop over the kinds has come. -/
def Wp (w : World) (b : Nat) (v : Vl) (iv : Value) (wr : World) : Prop := ∃ i : Nat, 1 ≤ i ∧ i ≤ 3 ∧ iv = .int .i64 i ∧ Below w.heap.size w wr ∧ VB wr b v

set_option maxRecDepth 100000 in
set_option maxHeartbeats 16000000 in
theorem aggwraps_walk {B M : Nat} (hB : B < 18446744073709551616) (hM : M < 18446744073709551616) (w : World) (ht : Tb w) :
    Calls Tryd.prog 8 #[.int .u64 B, .int .u64 M] w fun e w' => e = .returned (.bool true) ∧ Below w.heap.size w w' := by
  have HBO : Hid (B < 18446744073709551616) := hB
  have HMO : Hid (M < 18446744073709551616) := hM
  obtain ⟨G, hG, hneg, hg0⟩ := neg_word64 hB
  have HGO : Hid (G < 18446744073709551616) := hG
  have HG0 : Hid ((B + G) % 18446744073709551616 = 0) := hg0
  obtain ⟨S, hS, hsum⟩ := sum_word64 B M
  have HSE : Hid (S = (B + M) % 18446744073709551616) := hS
  clear hB hM hG hg0 hS
  go_enter Tryd.func8, Tryd.ntmps8
  go_wp2_with fail
  refine (awake_walk _ ht).mono ?_
  rintro e w1 ⟨rfl, hB1⟩
  have HB1 : Hid (Below w.heap.size w w1) := hB1
  clear hB1
  go_wp2_with fail
  go_loopw [6] (fun iv wr => Wp w w1.heap.size ⟨true, B⟩ iv wr) (fun iv _ => 3 - (intOf iv).toNat)
  case atStart => exact ⟨1, by omega, by omega, rfl, below_trans HB1.out (below_alloc _ _), vb_new w1 true B⟩
  case round =>
    obtain ⟨i, h1, h3, rfl, hBr, hV⟩ := hrel
    have HBR : Hid (Below w.heap.size w wr) := hBr
    have HV : Hid (VB wr w1.heap.size ⟨true, B⟩) := hV
    clear hBr hV
    obtain ⟨c0, c1, _, _⟩ := HV.out
    by_cases hlt : i ≤ 2
    · have hk : (i : Int) = 1 ∨ (i : Int) = 2 := by omega
      have hlt' : (i : Int) ≤ 2 := by omega
      have HE1 : Hid (mergeV i ⟨true, B⟩ ⟨true, G⟩ = ⟨true, 0⟩) := by show _ = _; rw [merge_12 hk, HG0.out]
      have HE2 : Hid (mergeV i ⟨true, B⟩ ⟨true, M⟩ = ⟨true, S⟩) := by show _ = _; rw [merge_12 hk, HSE.out]
      have HLT : Hid (1 ≤ i ∧ i ≤ 2) := ⟨h1, hlt⟩
      clear hk h1 h3 hlt
      go_wp2_with fail
      refine (merge_walk i (a := ⟨true, B⟩) (b := ⟨true, G⟩) HBO.out HGO.out _).mono ?_
      rw [HE1.out]
      rintro e w2 ⟨rfl, hB2⟩
      have HB2 : Hid (Below wr.heap.size wr w2) := hB2
      clear hB2 c0 c1
      obtain ⟨c0, c1, _, _⟩ := HV.out.below HB2.out (cell_lt HV.out.c0)
      go_wp2_with fail
      refine (merge_walk i (a := ⟨true, B⟩) (b := ⟨true, M⟩) HBO.out HMO.out _).mono ?_
      rw [HE2.out]
      rintro e w3 ⟨rfl, hB3⟩
      have HB3 : Hid (Below wr.heap.size wr w3) := below_trans HB2.out hB3
      clear hB3 c0 c1
      go_wp2_with fail
      go_roundw
      case rel => exact ⟨i + 1, by omega, by have := HLT.out.2; omega, by simp, below_trans HBR.out HB3.out, HV.out.below HB3.out (cell_lt HV.out.c0)⟩
      case measure => have := HLT.out; simp [intOf]; omega
    · obtain rfl : i = 3 := by omega
      clear h1 h3 hlt
      have HTX : Hid (textL 2 ⟨true, B⟩ = sumL B) := by show _ = _; unfold textL; rw [if_neg (by decide), fitV_12 (.inr rfl), if_neg (by simp), digL, if_neg (by omega), if_pos rfl]
      go_wp2_with fail
      refine (text_walk 2 (v := ⟨true, B⟩) HBO.out _ (ht.below HBR.out)).mono ?_
      rw [HTX.out]
      rintro e w5 ⟨rfl, hB5⟩
      have HB5 : Hid (Below w.heap.size w w5) := below_trans HBR.out hB5
      clear hB5 c0 c1 HV HBR HTX
      by_cases hb : B < 9223372036854775808
      · have HD : Hid (Dg (Lib.decDigits B) B) := dg_dec HBO.out
        have e : sumL B = Lib.decDigits B := by unfold sumL; rw [if_pos hb]
        rw [e]
        have d : decide ((B : Int) ≥ 9223372036854775808) = false := by simp; omega
        clear e hb
        generalize Lib.decDigits B = D at HD ⊢
        have hs := size_mk D
        have h20 : D.length ≤ 20 := HD.out.hi
        have hlo : 1 ≤ D.length := HD.out.lo
        obtain ⟨c, hc⟩ : ∃ c, c = D[0].toNat := ⟨_, rfl⟩
        have hx : ∀ W, (Instr.index 9 (.string ⟨D.toArray⟩) (.int .i64 0)).run Tryd.prog W = .ok (.int .u8 (c : Int)) W := fun W => by rw [hc]; exact idx_str D 0 hlo W
        have h45 : ((c : Int) == 45) = false := by have := HD.out.dig 0 hlo; rw [← hc] at this; exact neq_b (by omega)
        clear hc
        by_cases hl1 : 1 < D.length
        · have hl1' : (1 : Int) < (D.length : Int) := by omega
          go_wp2_with fail
          go_loop [9, 10] (fun nv iv => ∃ i : Nat, i ≤ D.length ∧ iv = .int .i64 i ∧ nv = .int .u64 (valU 0 (D.take i))) (fun _ iv => D.length - (intOf iv).toNat)
          case atStart => exact ⟨0, Nat.zero_le _, rfl, rfl⟩
          case round =>
            obtain ⟨i, hi, rfl, rfl⟩ := hrel
            obtain ⟨n, hn⟩ : ∃ n, n = valU 0 (D.take i) := ⟨_, rfl⟩
            rw [← hn]
            have HNE : Hid (n = valU 0 (D.take i)) := hn
            clear hn
            by_cases hlt : i < D.length
            · obtain ⟨c, hc⟩ : ∃ c, c = D[i].toNat := ⟨_, rfl⟩
              have hd := HD.out.dig i hlt
              rw [← hc] at hd
              have hxi : ∀ W, (Instr.index 9 (.string ⟨D.toArray⟩) (.int .i64 (i : Int))).run Tryd.prog W = .ok (.int .u8 (c : Int)) W := fun W => by rw [hc]; exact idx_str D i hlt W
              have h48 : (48 : Int) ≤ (c : Int) := by omega
              have h57 : (c : Int) ≤ 57 := by omega
              obtain ⟨p, hp1, hp2⟩ := ten_word64 n c hd.1
              obtain ⟨n', hn'⟩ : ∃ n', n' = (n * 10 + (c - 48)) % 18446744073709551616 := ⟨_, rfl⟩
              rw [← hn'] at hp2
              have HN' : Hid (n' = valU 0 (D.take (i + 1))) := by show _ = _; rw [val_next D i hlt, ← HNE.out, ← hc]; exact hn'
              have HLT : Hid (i < D.length) := hlt
              by_cases hz : i = 0 ∧ c = 48
              · obtain ⟨hz0, hz1⟩ := hz
                have hl : D.length = 1 := by subst hz0; exact HD.out.head hlt (by rw [← hc]; exact hz1)
                omega
              · by_cases hi0 : i = 0
                · have hc48 : ((c : Int) == 48) = false := neq_b (by omega)
                  have hi0' : ((i : Int) == 0) = true := by subst hi0; rfl
                  clear hc hn' hd hz hi0
                  go_wp2_with fail
                  go_round
                  case rel => exact ⟨i + 1, HLT.out, by simp, by rw [← HN'.out]⟩
                  case measure => have := HLT.out; simp [intOf]; omega
                · have hi0' : ((i : Int) == 0) = false := neq_b (by omega)
                  clear hc hn' hd hz hi0
                  go_wp2_with fail
                  go_round
                  case rel => exact ⟨i + 1, HLT.out, by simp, by rw [← HN'.out]⟩
                  case measure => have := HLT.out; simp [intOf]; omega
            · have hnq : n = B := by rw [HNE.out, List.take_of_length_le (by omega)]; exact HD.out.val
              subst hnq
              have hlo' : (0 : Int) < (D.length : Int) := by omega
              go_wp2_with fail
              go_ret
              exact ⟨rfl, HB5.out⟩
        · have hl1' : decide ((D.length : Int) > 1) = false := by simp; omega
          go_wp2_with fail
          go_loop [9, 10] (fun nv iv => ∃ i : Nat, i ≤ D.length ∧ iv = .int .i64 i ∧ nv = .int .u64 (valU 0 (D.take i))) (fun _ iv => D.length - (intOf iv).toNat)
          case atStart => exact ⟨0, Nat.zero_le _, rfl, rfl⟩
          case round =>
            obtain ⟨i, hi, rfl, rfl⟩ := hrel
            obtain ⟨n, hn⟩ : ∃ n, n = valU 0 (D.take i) := ⟨_, rfl⟩
            rw [← hn]
            have HNE : Hid (n = valU 0 (D.take i)) := hn
            clear hn
            by_cases hlt : i < D.length
            · obtain ⟨c, hc⟩ : ∃ c, c = D[i].toNat := ⟨_, rfl⟩
              have hd := HD.out.dig i hlt
              rw [← hc] at hd
              have hxi : ∀ W, (Instr.index 9 (.string ⟨D.toArray⟩) (.int .i64 (i : Int))).run Tryd.prog W = .ok (.int .u8 (c : Int)) W := fun W => by rw [hc]; exact idx_str D i hlt W
              have h48 : (48 : Int) ≤ (c : Int) := by omega
              have h57 : (c : Int) ≤ 57 := by omega
              obtain ⟨p, hp1, hp2⟩ := ten_word64 n c hd.1
              obtain ⟨n', hn'⟩ : ∃ n', n' = (n * 10 + (c - 48)) % 18446744073709551616 := ⟨_, rfl⟩
              rw [← hn'] at hp2
              have HN' : Hid (n' = valU 0 (D.take (i + 1))) := by show _ = _; rw [val_next D i hlt, ← HNE.out, ← hc]; exact hn'
              have HLT : Hid (i < D.length) := hlt
              by_cases hz : i = 0 ∧ c = 48
              · obtain ⟨hz0, hz1⟩ := hz
                have hl : D.length = 1 := by subst hz0; exact HD.out.head hlt (by rw [← hc]; exact hz1)
                have hl' : decide ((D.length : Int) > 1) = false := by simp; omega
                have hi0' : ((i : Int) == 0) = true := by subst hz0; rfl
                have hc48 : ((c : Int) == 48) = true := by subst hz1; rfl
                clear hc hn' hd hl hz0 hz1
                go_wp2_with fail
                go_round
                case rel => exact ⟨i + 1, HLT.out, by simp, by rw [← HN'.out]⟩
                case measure => have := HLT.out; simp [intOf]; omega
              · by_cases hi0 : i = 0
                · have hc48 : ((c : Int) == 48) = false := neq_b (by omega)
                  have hi0' : ((i : Int) == 0) = true := by subst hi0; rfl
                  clear hc hn' hd hz hi0
                  go_wp2_with fail
                  go_round
                  case rel => exact ⟨i + 1, HLT.out, by simp, by rw [← HN'.out]⟩
                  case measure => have := HLT.out; simp [intOf]; omega
                · have hi0' : ((i : Int) == 0) = false := neq_b (by omega)
                  clear hc hn' hd hz hi0
                  go_wp2_with fail
                  go_round
                  case rel => exact ⟨i + 1, HLT.out, by simp, by rw [← HN'.out]⟩
                  case measure => have := HLT.out; simp [intOf]; omega
            · have hnq : n = B := by rw [HNE.out, List.take_of_length_le (by omega)]; exact HD.out.val
              subst hnq
              have hlo' : (0 : Int) < (D.length : Int) := by omega
              go_wp2_with fail
              go_ret
              exact ⟨rfl, HB5.out⟩
      · have e : sumL B = 45 :: Lib.decDigits (18446744073709551616 - B) := by unfold sumL; rw [if_neg hb]
        rw [e]
        obtain ⟨q, hq⟩ : ∃ q, q = 18446744073709551616 - B := ⟨_, rfl⟩
        rw [← hq]
        have hq64 : q < 18446744073709551616 := by omega
        have HD : Hid (Dg (Lib.decDigits q) q) := dg_dec hq64
        have d : (9223372036854775808 : Int) ≤ (B : Int) := by omega
        have hqn : IntKind.u64.wrap (-(q : Int)) = (B : Int) := by have := HBO.out; rw [IntKind.wrap_u64]; omega
        clear e hb hq hq64
        generalize Lib.decDigits q = D at HD ⊢
        have hs := size_mk D
        have hs1 := size_mk (45 :: D)
        rw [List.length_cons] at hs1
        have h20 : D.length ≤ 20 := HD.out.hi
        have hlo : 1 ≤ D.length := HD.out.lo
        have hx : ∀ W, (Instr.index 9 (.string ⟨(45 :: D).toArray⟩) (.int .i64 0)).run Tryd.prog W = .ok (.int .u8 45) W := fun W => idx_str (45 :: D) 0 (by simp) W
        have hcut := fun W => cut_one 45 D W
        generalize (⟨(45 :: D).toArray⟩ : ByteArray) = SS at hs1 hx hcut ⊢
        have hl1' : (1 : Int) < ((D.length + 1 : Nat) : Int) := by omega
        go_wp2_with fail
        go_loop [9, 10] (fun nv iv => ∃ i : Nat, i ≤ D.length ∧ iv = .int .i64 i ∧ nv = .int .u64 (valU 0 (D.take i))) (fun _ iv => D.length - (intOf iv).toNat)
        case atStart => exact ⟨0, Nat.zero_le _, rfl, rfl⟩
        case round =>
          obtain ⟨i, hi, rfl, rfl⟩ := hrel
          obtain ⟨n, hn⟩ : ∃ n, n = valU 0 (D.take i) := ⟨_, rfl⟩
          rw [← hn]
          have HNE : Hid (n = valU 0 (D.take i)) := hn
          clear hn
          by_cases hlt : i < D.length
          · obtain ⟨c, hc⟩ : ∃ c, c = D[i].toNat := ⟨_, rfl⟩
            have hd := HD.out.dig i hlt
            rw [← hc] at hd
            have hxi : ∀ W, (Instr.index 9 (.string ⟨D.toArray⟩) (.int .i64 (i : Int))).run Tryd.prog W = .ok (.int .u8 (c : Int)) W := fun W => by rw [hc]; exact idx_str D i hlt W
            have h48 : (48 : Int) ≤ (c : Int) := by omega
            have h57 : (c : Int) ≤ 57 := by omega
            obtain ⟨p, hp1, hp2⟩ := ten_word64 n c hd.1
            obtain ⟨n', hn'⟩ : ∃ n', n' = (n * 10 + (c - 48)) % 18446744073709551616 := ⟨_, rfl⟩
            rw [← hn'] at hp2
            have HN' : Hid (n' = valU 0 (D.take (i + 1))) := by show _ = _; rw [val_next D i hlt, ← HNE.out, ← hc]; exact hn'
            have HLT : Hid (i < D.length) := hlt
            by_cases hz : i = 0 ∧ c = 48
            · obtain ⟨hz0, hz1⟩ := hz
              have hl : D.length = 1 := by subst hz0; exact HD.out.head hlt (by rw [← hc]; exact hz1)
              have hl' : decide ((D.length : Int) > 1) = false := by simp; omega
              have hi0' : ((i : Int) == 0) = true := by subst hz0; rfl
              have hc48 : ((c : Int) == 48) = true := by subst hz1; rfl
              clear hc hn' hd hl hz0 hz1
              go_wp2_with fail
              go_round
              case rel => exact ⟨i + 1, HLT.out, by simp, by rw [← HN'.out]⟩
              case measure => have := HLT.out; simp [intOf]; omega
            · by_cases hi0 : i = 0
              · have hc48 : ((c : Int) == 48) = false := neq_b (by omega)
                have hi0' : ((i : Int) == 0) = true := by subst hi0; rfl
                clear hc hn' hd hz hi0
                go_wp2_with fail
                go_round
                case rel => exact ⟨i + 1, HLT.out, by simp, by rw [← HN'.out]⟩
                case measure => have := HLT.out; simp [intOf]; omega
              · have hi0' : ((i : Int) == 0) = false := neq_b (by omega)
                clear hc hn' hd hz hi0
                go_wp2_with fail
                go_round
                case rel => exact ⟨i + 1, HLT.out, by simp, by rw [← HN'.out]⟩
                case measure => have := HLT.out; simp [intOf]; omega
          · have hnq : n = q := by rw [HNE.out, List.take_of_length_le (by omega)]; exact HD.out.val
            subst hnq
            have hlo' : (0 : Int) < (D.length : Int) := by omega
            go_wp2_with fail
            go_ret
            exact ⟨rfl, HB5.out⟩
end Go.Proofs.YtomjofhjmghdfaaDoor
