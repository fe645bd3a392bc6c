/- Check: the program's. -/
import Derived.Test.YtjkhegekojflhabXc
namespace Go.Proofs.Ytjkhegekojflhab
open Ieee Go.RowKit
attribute [local go_sem] run_store_float

def chkI (l : List Stp) : Int := if checkB l then 0 else 30

/-- The loops over a list: where they are, the world since. -/
def Rng (w0 : World) (l : List Stp) (iv : Value) (wr : World) : Prop :=
  ∃ k : Nat, k ≤ l.length ∧ iv = .int .i64 k ∧ (∀ j, (h : j < l.length) → j < k → isB l[j] = true) ∧ Below w0.heap.size w0 wr

theorem check_long {l : List Stp} (h : 8 < l.length) : chkI l = 30 := by
  unfold chkI checkB
  rw [decide_eq_false (by omega)]; rfl
theorem check_bad {l : List Stp} {k : Nat} (hk : k < l.length) (h : isB l[k] = false) : chkI l = 30 := by
  unfold chkI checkB
  have : l.all isB = false := by
    rw [List.all_eq_false]
    exact ⟨l[k], List.getElem_mem hk, by simpa using h⟩
  rw [this, Bool.and_false]; rfl
theorem check_good {l : List Stp} (h : l.length ≤ 8) (ha : ∀ j, (h : j < l.length) → isB l[j] = true) : chkI l = 0 := by
  unfold chkI checkB
  have : l.all isB = true := by
    rw [List.all_eq_true]
    intro o ho
    obtain ⟨i, hi, rfl⟩ := List.getElem_of_mem ho
    exact ha i hi
  rw [this, Bool.and_true, decide_eq_true h]; rfl
theorem rng_step {w0 wr w1 : World} {l : List Stp} {k : Nat} (hk : k < l.length) (ha : ∀ j, (h : j < l.length) → j < k → isB l[j] = true) (hb : isB l[k] = true) (hB : Below w0.heap.size w0 wr) (h1 : Below wr.heap.size wr w1) :
    Rng w0 l (.int .i64 ((k : Int) + 1)) w1 := by
  refine ⟨k + 1, hk, by simp, fun j hj hjk => ?_, below_trans hB h1⟩
  rcases Nat.lt_or_ge j k with h | h
  · exact ha j hj h
  · obtain rfl : j = k := by omega
    exact hb

theorem check_walk {ao : Option Addr} {cap : Nat} {l : List Stp} {w : World} (hl : l.length ≤ maxLen) (ho : Ol w ao l) :
    Calls Try.prog 27 #[.slice ao l.length cap] w fun e w' => e = .returned (.int .i64 (chkI l)) ∧ Below w.heap.size w w' := by
  have hli : (l.length : Int) ≤ 9223372036854775807 := by simp only [maxLen] at hl; omega
  have HO : Hid (Ol w ao l) := ho
  clear ho hl
  by_cases h8 : (8 : Int) < (l.length : Int)
  · go_enter Try.func27, Try.ntmps27
    go_wp2_with fail
    go_ret
    exact ⟨ret_int (check_long (by omega)).symm, below_same _⟩
  · have HL : Hid (l.length ≤ 8) := by show _ ≤ _; omega
    go_enter Try.func27, Try.ntmps27
    go_wp2_with fail
    go_loopw [10] (fun iv wr => Rng w l iv wr) (fun iv _ => l.length - (intOf iv).toNat)
    case atStart => exact ⟨0, Nat.zero_le _, rfl, fun j hj h => by omega, below_same _⟩
    case round =>
      obtain ⟨k, hk, rfl, HA', hB'⟩ := hrel
      have HA : Hid (∀ j, (h : j < l.length) → j < k → isB l[j] = true) := HA'
      have HB : Hid (Below w.heap.size w wr) := hB'
      clear HA' hB'
      by_cases hlt : k < l.length
      · obtain ⟨b, off, rfl, c0, c1, c2⟩ := HO.out.below HB.out k hlt
        obtain ⟨o, hoe⟩ : ∃ o, o = l[k] := ⟨_, rfl⟩
        rw [← hoe] at c0 c1 c2
        have HE : Hid (o = l[k]) := hoe
        clear hoe
        cases hb : isB o
        · go_wp2_with fail
          refine (isStep_walk o _).mono ?_
          rw [hb]
          rintro e w1 ⟨rfl, hB1⟩
          go_wp2_with fail
          go_ret
          exact ⟨ret_int (check_bad hlt (by rw [← HE.out]; exact hb)).symm, below_trans HB.out (below_trans (below_alloc _ _) hB1)⟩
        · go_wp2_with fail
          refine (isStep_walk o _).mono ?_
          rw [hb]
          rintro e w1 ⟨rfl, hB1⟩
          have R := rng_step hlt HA.out (by rw [← HE.out]; exact hb) HB.out (below_trans (below_alloc _ _) hB1)
          go_wp2_with fail
          go_roundw
          case rel => exact R
          case measure => simp [intOf]; omega
      · go_wp2_with fail
        go_ret
        exact ⟨ret_int (check_good HL.out (fun j hj => HA.out j hj (by omega))).symm, HB.out⟩
end Go.Proofs.Ytjkhegekojflhab
