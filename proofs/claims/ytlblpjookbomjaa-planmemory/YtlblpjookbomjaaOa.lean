/- Steps, pairs, plans as numbers; slices of steps and of pairs as lists; contracts of ops.Check, agg.Known and the reference's. -/
import Derived.Test.YtlblpjookbomjaaChecked

import Derived.WalkKit

import Derived.ProofKit

import Derived.Deep.Draws

import Derived.Deep.Slices

import Derived.WalkLawsBesides

import Derived.BigQuiet

import Derived.Deep.QuietTactic

import Derived.Deep.RegionHeld3

import Derived.Laws.AppendOwnNone

import Derived.Laws.StructEq

import Derived.OwnWalk

import Derived.Lib.Hide

namespace Go.Proofs.Ytlblpjookbomjaa

open Go.RowKit



/-- A step's three fields. -/
structure Stp where
  K : Int
  N : Int
  X : Nat


def Stp.ok (o : Stp) : Prop := (-9223372036854775808 ≤ o.K ∧ o.K < 9223372036854775808) ∧ (-9223372036854775808 ≤ o.N ∧ o.N < 9223372036854775808) ∧ o.X < 18446744073709551616
/-- Is it a step? -/
def isB (o : Stp) : Bool := if o.K = 7 then decide (-2200 ≤ o.N ∧ o.N ≤ 2200) else if o.K = 11 then decide (1 ≤ o.N) else decide (1 ≤ o.K ∧ o.K ≤ 12)
def checkB (l : List Stp) : Bool := decide (l.length ≤ 8) && l.all isB


theorem cell_lt {w : World} {a : Addr} {u : Value} (h : w.cell? a = some u) : a.block < w.heap.size := World.block_lt_of_cell? w a h
theorem below_alloc (w : World) (o : Obj) : Below w.heap.size w (w.alloc o) := (Below.refl _ _).alloc (Nat.le_refl _) o
theorem below_trans {w w1 w2 : World} (h : Below w.heap.size w w1) (k : Below w1.heap.size w1 w2) : Below w.heap.size w w2 :=
  h.trans (k.mono h.size)
theorem below_drewN (w : World) (n : Nat) : Below w.heap.size w (w.drewN n) := ⟨rfl, rfl, rfl, Nat.le_refl _, fun _ _ => rfl⟩
theorem below_same (w : World) : Below w.heap.size w w := Below.refl _ _
theorem ret_int {k : IntKind} {a b : Int} (h : a = b) : Ending.returned (.int k a) = .returned (.int k b) := by rw [h]
theorem ret_bool {a b : Bool} (h : a = b) : Ending.returned (.bool a) = .returned (.bool b) := by rw [h]
theorem below_drw (w : World) : Below w.heap.size w w.drew := (Below.refl _ _).drew


/-- A float laid into a cell. -/
theorem run_store_float {P : Program} {w : World} {a : Addr} {m : Mode} (k : FloatKind) (x : Nat) : (store a (.float k x) m).run P w = stored P w a (.float k x) m := run_store P w a _ m rfl
attribute [local go_sem] run_store_float
theorem isStep_walk (o : Stp) (w : World) :
    Calls Try.prog 34 #[.agg #[.int .i64 o.K, .int .i64 o.N, .float .f64 o.X]] w fun e w' => e = .returned (.bool (isB o)) ∧ Below w.heap.size w w' := by
  obtain ⟨K, N, X⟩ := o
  by_cases h7 : K = 7
  · subst h7
    go_enter Try.func34, Try.ntmps34
    go_wp2
    all_goals (go_ret; exact ⟨ret_bool (by rw [Bool.eq_iff_iff]; unfold isB; simp <;> omega), below_alloc _ _⟩)
  · by_cases h11 : K = 11
    · subst h11
      go_enter Try.func34, Try.ntmps34
      go_wp2
      all_goals (go_ret; exact ⟨ret_bool (by rw [Bool.eq_iff_iff]; unfold isB; simp <;> omega), below_alloc _ _⟩)
    · have b7 : (K == 7) = false := by simpa using h7
      have b11 : (K == 11) = false := by simpa using h11
      go_enter Try.func34, Try.ntmps34
      go_wp2
      all_goals (go_ret; exact ⟨ret_bool (by rw [Bool.eq_iff_iff]; unfold isB; simp [h7, h11] <;> omega), below_alloc _ _⟩)


/-- The cells behind ao hold the steps l. -/
def Ol (w : World) (ao : Option Addr) (l : List Stp) : Prop :=
  ∀ i, (h : i < l.length) → ∃ b off, ao = some ⟨b, off, none⟩ ∧ w.cell? ⟨b, off + i * 3, none⟩ = some (.int .i64 l[i].K) ∧ w.cell? ⟨b, off + i * 3 + 1, none⟩ = some (.int .i64 l[i].N) ∧ w.cell? ⟨b, off + i * 3 + 2, none⟩ = some (.float .f64 l[i].X)


/-- The value v is a slice that holds the steps l. -/
def Ov (w : World) (v : Value) (l : List Stp) : Prop :=
  (∃ ao cap, v = .slice ao l.length cap ∧ l.length ≤ cap ∧ cap ≤ maxLen ∧ (ao = none → cap = 0) ∧ Ol w ao l) ∧ ∀ o ∈ l, o.ok


theorem Ol.below {w w' : World} {ao : Option Addr} {l : List Stp} (h : Ol w ao l) (hb : Below w.heap.size w w') : Ol w' ao l := by
  intro i hi
  obtain ⟨b, off, e, h0, h1, h2⟩ := h i hi
  exact ⟨b, off, e, by rw [hb.cell (p := ⟨b, off + i * 3, none⟩) (cell_lt h0)]; exact h0, by rw [hb.cell (p := ⟨b, off + i * 3 + 1, none⟩) (cell_lt h1)]; exact h1, by rw [hb.cell (p := ⟨b, off + i * 3 + 2, none⟩) (cell_lt h2)]; exact h2⟩
theorem Ov.below {w w' : World} {v : Value} {l : List Stp} (h : Ov w v l) (hb : Below w.heap.size w w') : Ov w' v l := by
  obtain ⟨⟨ao, cap, e, h1, h2, h3, h4⟩, h5⟩ := h
  exact ⟨⟨ao, cap, e, h1, h2, h3, h4.below hb⟩, h5⟩


def chkI (l : List Stp) : Int := if checkB l then 0 else 30


/-- The loops over a list: where they are, the world since. -/
def Rng (w0 : World) (l : List Stp) (iv : Value) (wr : World) : Prop :=
  ∃ k : Nat, k ≤ l.length ∧ iv = .int .i64 k ∧ (∀ j, (h : j < l.length) → j < k → isB l[j] = true) ∧ Below w0.heap.size w0 wr


theorem check_long {l : List Stp} (h : 8 < l.length) : chkI l = 30 := by
  unfold chkI checkB
  rw [decide_eq_false (by omega)]; rfl
theorem check_bad {l : List Stp} {k : Nat} (hk : k < l.length) (h : isB l[k] = false) : chkI l = 30 := by
  unfold chkI checkB
  have : l.all isB = false := by
    rw [List.all_eq_false]
    exact ⟨l[k], List.getElem_mem hk, by simpa using h⟩
  rw [this, Bool.and_false]; rfl
theorem check_good {l : List Stp} (h : l.length ≤ 8) (ha : ∀ j, (h : j < l.length) → isB l[j] = true) : chkI l = 0 := by
  unfold chkI checkB
  have : l.all isB = true := by
    rw [List.all_eq_true]
    intro o ho
    obtain ⟨i, hi, rfl⟩ := List.getElem_of_mem ho
    exact ha i hi
  rw [this, Bool.and_true, decide_eq_true h]; rfl
theorem rng_step {w0 wr w1 : World} {l : List Stp} {k : Nat} (hk : k < l.length) (ha : ∀ j, (h : j < l.length) → j < k → isB l[j] = true) (hb : isB l[k] = true) (hB : Below w0.heap.size w0 wr) (h1 : Below wr.heap.size wr w1) :
    Rng w0 l (.int .i64 ((k : Int) + 1)) w1 := by
  refine ⟨k + 1, hk, by simp, fun j hj hjk => ?_, below_trans hB h1⟩
  rcases Nat.lt_or_ge j k with h | h
  · exact ha j hj h
  · obtain rfl : j = k := by omega
    exact hb


theorem check_walk {ao : Option Addr} {cap : Nat} {l : List Stp} {w : World} (hl : l.length ≤ maxLen) (ho : Ol w ao l) :
    Calls Try.prog 26 #[.slice ao l.length cap] w fun e w' => e = .returned (.int .i64 (chkI l)) ∧ Below w.heap.size w w' := by
  have hli : (l.length : Int) ≤ 9223372036854775807 := by simp only [maxLen] at hl; omega
  have HO : Hid (Ol w ao l) := ho
  clear ho hl
  by_cases h8 : (8 : Int) < (l.length : Int)
  · go_enter Try.func26, Try.ntmps26
    go_wp2_with fail
    go_ret
    exact ⟨ret_int (check_long (by omega)).symm, below_same _⟩
  · have HL : Hid (l.length ≤ 8) := by show _ ≤ _; omega
    go_enter Try.func26, Try.ntmps26
    go_wp2_with fail
    go_loopw [10] (fun iv wr => Rng w l iv wr) (fun iv _ => l.length - (intOf iv).toNat)
    case atStart => exact ⟨0, Nat.zero_le _, rfl, fun j hj h => by omega, below_same _⟩
    case round =>
      obtain ⟨k, hk, rfl, HA', hB'⟩ := hrel
      have HA : Hid (∀ j, (h : j < l.length) → j < k → isB l[j] = true) := HA'
      have HB : Hid (Below w.heap.size w wr) := hB'
      clear HA' hB'
      by_cases hlt : k < l.length
      · obtain ⟨b, off, rfl, c0, c1, c2⟩ := HO.out.below HB.out k hlt
        obtain ⟨o, hoe⟩ : ∃ o, o = l[k] := ⟨_, rfl⟩
        rw [← hoe] at c0 c1 c2
        have HE : Hid (o = l[k]) := hoe
        clear hoe
        cases hb : isB o
        · go_wp2_with fail
          refine (isStep_walk o _).mono ?_
          rw [hb]
          rintro e w1 ⟨rfl, hB1⟩
          go_wp2_with fail
          go_ret
          exact ⟨ret_int (check_bad hlt (by rw [← HE.out]; exact hb)).symm, below_trans HB.out (below_trans (below_alloc _ _) hB1)⟩
        · go_wp2_with fail
          refine (isStep_walk o _).mono ?_
          rw [hb]
          rintro e w1 ⟨rfl, hB1⟩
          have R := rng_step hlt HA.out (by rw [← HE.out]; exact hb) HB.out (below_trans (below_alloc _ _) hB1)
          go_wp2_with fail
          go_roundw
          case rel => exact R
          case measure => simp [intOf]; omega
      · go_wp2_with fail
        go_ret
        exact ⟨ret_int (check_good HL.out (fun j hj => HA.out j hj (by omega))).symm, HB.out⟩


theorem rstep_walk (o : Stp) (w : World) :
    Calls Try.prog 35 #[.agg #[.int .i64 o.K, .int .i64 o.N, .float .f64 o.X]] w fun e w' => e = .returned (.bool (isB o)) ∧ Below w.heap.size w w' := by
  obtain ⟨K, N, X⟩ := o
  by_cases hk : 1 ≤ K ∧ K ≤ 12
  · have : K = 1 ∨ K = 2 ∨ K = 3 ∨ K = 4 ∨ K = 5 ∨ K = 6 ∨ K = 7 ∨ K = 8 ∨ K = 9 ∨ K = 10 ∨ K = 11 ∨ K = 12 := by omega
    clear hk
    rcases this with rfl | rfl | rfl | rfl | rfl | rfl | rfl | rfl | rfl | rfl | rfl | rfl
    all_goals
      go_enter Try.func35, Try.ntmps35
      go_wp2
      all_goals (go_ret; exact ⟨ret_bool (by rw [Bool.eq_iff_iff]; unfold isB; simp <;> omega), below_alloc _ _⟩)
  · have b1 : (K == 1) = false := by simp; omega
    have b2 : (K == 2) = false := by simp; omega
    have b3 : (K == 3) = false := by simp; omega
    have b4 : (K == 4) = false := by simp; omega
    have b5 : (K == 5) = false := by simp; omega
    have b6 : (K == 6) = false := by simp; omega
    have b7 : (K == 7) = false := by simp; omega
    have b8 : (K == 8) = false := by simp; omega
    have b9 : (K == 9) = false := by simp; omega
    have b10 : (K == 10) = false := by simp; omega
    have b11 : (K == 11) = false := by simp; omega
    have b12 : (K == 12) = false := by simp; omega
    have HE : Hid (isB ⟨K, N, X⟩ = false) := by
      show _ = _
      unfold isB
      simp only
      rw [if_neg (by omega), if_neg (by omega), decide_eq_false hk]
    clear hk
    go_enter Try.func35, Try.ntmps35
    go_wp2
    go_ret
    exact ⟨ret_bool HE.out.symm, below_alloc _ _⟩


theorem rcheck_walk {ao : Option Addr} {cap : Nat} {l : List Stp} {w : World} (hl : l.length ≤ maxLen) (ho : Ol w ao l) :
    Calls Try.prog 29 #[.slice ao l.length cap] w fun e w' => e = .returned (.int .i64 (chkI l)) ∧ Below w.heap.size w w' := by
  have hli : (l.length : Int) ≤ 9223372036854775807 := by simp only [maxLen] at hl; omega
  have HO : Hid (Ol w ao l) := ho
  clear ho hl
  by_cases h8 : (8 : Int) < (l.length : Int)
  · go_enter Try.func29, Try.ntmps29
    go_wp2_with fail
    go_ret
    exact ⟨ret_int (check_long (by omega)).symm, below_same _⟩
  · have HL : Hid (l.length ≤ 8) := by show _ ≤ _; omega
    go_enter Try.func29, Try.ntmps29
    go_wp2_with fail
    go_loopw [3] (fun iv wr => Rng w l iv wr) (fun iv _ => l.length - (intOf iv).toNat)
    case atStart => exact ⟨0, Nat.zero_le _, rfl, fun j hj h => by omega, below_same _⟩
    case round =>
      obtain ⟨k, hk, rfl, HA', hB'⟩ := hrel
      have HA : Hid (∀ j, (h : j < l.length) → j < k → isB l[j] = true) := HA'
      have HB : Hid (Below w.heap.size w wr) := hB'
      clear HA' hB'
      by_cases hlt : k < l.length
      · obtain ⟨b, off, rfl, c0, c1, c2⟩ := HO.out.below HB.out k hlt
        obtain ⟨o, hoe⟩ : ∃ o, o = l[k] := ⟨_, rfl⟩
        rw [← hoe] at c0 c1 c2
        have HE : Hid (o = l[k]) := hoe
        clear hoe
        cases hb : isB o
        · go_wp2_with fail
          refine (rstep_walk o _).mono ?_
          rw [hb]
          rintro e w1 ⟨rfl, hB1⟩
          go_wp2_with fail
          go_ret
          exact ⟨ret_int (check_bad hlt (by rw [← HE.out]; exact hb)).symm, below_trans HB.out hB1⟩
        · go_wp2_with fail
          refine (rstep_walk o _).mono ?_
          rw [hb]
          rintro e w1 ⟨rfl, hB1⟩
          have R := rng_step hlt HA.out (by rw [← HE.out]; exact hb) HB.out hB1
          go_wp2_with fail
          go_roundw
          case rel => exact R
          case measure => simp [intOf]; omega
      · go_wp2_with fail
        go_ret
        exact ⟨ret_int (check_good HL.out (fun j hj => HA.out j hj (by omega))).symm, HB.out⟩


def knownB (k : Int) : Bool := decide (1 ≤ k) && decide (k ≤ 4)
theorem known_walk (k : Int) (w : World) :
    Calls Try.prog 24 #[.int .i64 k] w fun e w' => e = .returned (.bool (knownB k)) ∧ w' = w := by
  go_enter Try.func24, Try.ntmps24
  go_wp2
  all_goals (go_ret; exact ⟨ret_bool (by unfold knownB; simp <;> omega), rfl⟩)
theorem rknown_walk (k : Int) (w : World) :
    Calls Try.prog 28 #[.int .i64 k] w fun e w' => e = .returned (.bool (knownB k)) ∧ w' = w := by
  go_enter Try.func28, Try.ntmps28
  go_wp2
  all_goals (go_ret; exact ⟨ret_bool (by unfold knownB; simp <;> omega), rfl⟩)
end Go.Proofs.Ytlblpjookbomjaa


