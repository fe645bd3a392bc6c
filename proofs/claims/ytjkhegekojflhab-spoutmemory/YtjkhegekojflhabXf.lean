/- The reference: what a step is, Check. The walk of OpsCheck. -/
import Derived.Test.YtjkhegekojflhabXo
namespace Go.Proofs.Ytjkhegekojflhab
open Ieee Go.RowKit
attribute [local go_sem] run_store_float

theorem rstep_walk (o : Stp) (w : World) :
    Calls Try.prog 41 #[.agg #[.int .i64 o.K, .int .i64 o.N, .float .f64 o.X]] w fun e w' => e = .returned (.bool (isB o)) ∧ Below w.heap.size w w' := by
  obtain ⟨K, N, X⟩ := o
  by_cases hk : 1 ≤ K ∧ K ≤ 12
  · have : K = 1 ∨ K = 2 ∨ K = 3 ∨ K = 4 ∨ K = 5 ∨ K = 6 ∨ K = 7 ∨ K = 8 ∨ K = 9 ∨ K = 10 ∨ K = 11 ∨ K = 12 := by omega
    clear hk
    rcases this with rfl | rfl | rfl | rfl | rfl | rfl | rfl | rfl | rfl | rfl | rfl | rfl
    all_goals
      go_enter Try.func41, Try.ntmps41
      go_wp2
      all_goals (go_ret; exact ⟨ret_bool (by rw [Bool.eq_iff_iff]; unfold isB; simp <;> omega), below_alloc _ _⟩)
  · have b1 : (K == 1) = false := by simp; omega
    have b2 : (K == 2) = false := by simp; omega
    have b3 : (K == 3) = false := by simp; omega
    have b4 : (K == 4) = false := by simp; omega
    have b5 : (K == 5) = false := by simp; omega
    have b6 : (K == 6) = false := by simp; omega
    have b7 : (K == 7) = false := by simp; omega
    have b8 : (K == 8) = false := by simp; omega
    have b9 : (K == 9) = false := by simp; omega
    have b10 : (K == 10) = false := by simp; omega
    have b11 : (K == 11) = false := by simp; omega
    have b12 : (K == 12) = false := by simp; omega
    have HE : Hid (isB ⟨K, N, X⟩ = false) := by
      show _ = _
      unfold isB
      simp only
      rw [if_neg (by omega), if_neg (by omega), decide_eq_false hk]
    clear hk
    go_enter Try.func41, Try.ntmps41
    go_wp2
    go_ret
    exact ⟨ret_bool HE.out.symm, below_alloc _ _⟩

theorem rcheck_walk {ao : Option Addr} {cap : Nat} {l : List Stp} {w : World} (hl : l.length ≤ maxLen) (ho : Ol w ao l) :
    Calls Try.prog 29 #[.slice ao l.length cap] w fun e w' => e = .returned (.int .i64 (chkI l)) ∧ Below w.heap.size w w' := by
  have hli : (l.length : Int) ≤ 9223372036854775807 := by simp only [maxLen] at hl; omega
  have HO : Hid (Ol w ao l) := ho
  clear ho hl
  by_cases h8 : (8 : Int) < (l.length : Int)
  · go_enter Try.func29, Try.ntmps29
    go_wp2_with fail
    go_ret
    exact ⟨ret_int (check_long (by omega)).symm, below_same _⟩
  · have HL : Hid (l.length ≤ 8) := by show _ ≤ _; omega
    go_enter Try.func29, Try.ntmps29
    go_wp2_with fail
    go_loopw [3] (fun iv wr => Rng w l iv wr) (fun iv _ => l.length - (intOf iv).toNat)
    case atStart => exact ⟨0, Nat.zero_le _, rfl, fun j hj h => by omega, below_same _⟩
    case round =>
      obtain ⟨k, hk, rfl, HA', hB'⟩ := hrel
      have HA : Hid (∀ j, (h : j < l.length) → j < k → isB l[j] = true) := HA'
      have HB : Hid (Below w.heap.size w wr) := hB'
      clear HA' hB'
      by_cases hlt : k < l.length
      · obtain ⟨b, off, rfl, c0, c1, c2⟩ := HO.out.below HB.out k hlt
        obtain ⟨o, hoe⟩ : ∃ o, o = l[k] := ⟨_, rfl⟩
        rw [← hoe] at c0 c1 c2
        have HE : Hid (o = l[k]) := hoe
        clear hoe
        cases hb : isB o
        · go_wp2_with fail
          refine (rstep_walk o _).mono ?_
          rw [hb]
          rintro e w1 ⟨rfl, hB1⟩
          go_wp2_with fail
          go_ret
          exact ⟨ret_int (check_bad hlt (by rw [← HE.out]; exact hb)).symm, below_trans HB.out hB1⟩
        · go_wp2_with fail
          refine (rstep_walk o _).mono ?_
          rw [hb]
          rintro e w1 ⟨rfl, hB1⟩
          have R := rng_step hlt HA.out (by rw [← HE.out]; exact hb) HB.out hB1
          go_wp2_with fail
          go_roundw
          case rel => exact R
          case measure => simp [intOf]; omega
      · go_wp2_with fail
        go_ret
        exact ⟨ret_int (check_good HL.out (fun j hj => HA.out j hj (by omega))).symm, HB.out⟩
end Go.Proofs.Ytjkhegekojflhab
