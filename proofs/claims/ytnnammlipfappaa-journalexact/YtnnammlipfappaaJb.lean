/- Small contracts: refuses, tooFar, ContainsFunc, slices.Equal at int, ints of the statements. -/
import Derived.Test.YtnnammlipfappaaJa

namespace Go.Proofs.Ytnnammlipfappaa

open Ieee Go.RowKit

section

variable {w : World} {av bv : Value} {a b : List Int}

def refJ (q : Int) : Int := if q < 1 ∨ 4 < q then 1 else 0
theorem jref_nil (q : Int) : Calls Try.prog 33 #[.pointer none, .int .i64 q] w fun e w' => e = .returned (.int .i64 2) ∧ w' = w := by
  go_enter Try.func33, Try.ntmps33
  go_wp2_with fail
  go_ret
  exact ⟨rfl, rfl⟩
theorem jref_walk (p : Addr) (q : Int) : Calls Try.prog 33 #[.pointer (some p), .int .i64 q] w fun e w' => e = .returned (.int .i64 (refJ q)) ∧ w' = w := by
  by_cases h1 : q < 1
  · have HR : Hid (refJ q = 1) := if_pos (.inl h1)
    rw [HR.out]
    go_enter Try.func33, Try.ntmps33
    go_wp2_with fail
    go_ret
    exact ⟨rfl, rfl⟩
  · by_cases h2 : 4 < q
    · have HR : Hid (refJ q = 1) := if_pos (.inr h2)
      rw [HR.out]
      go_enter Try.func33, Try.ntmps33
      go_wp2_with fail
      go_ret
      exact ⟨rfl, rfl⟩
    · have HR : Hid (refJ q = 0) := if_neg (by omega)
      rw [HR.out]
      go_enter Try.func33, Try.ntmps33
      go_wp2_with fail
      go_ret
      exact ⟨rfl, rfl⟩
theorem toofar_walk (x : Int) : Calls Try.prog 68 #[.int .i64 x] w fun e w' => e = .returned (.bool (decide (256 < x))) ∧ w' = w := by
  go_enter Try.func68, Try.ntmps68
  go_wp2_with fail
  go_ret
  exact ⟨rfl, rfl⟩


set_option maxRecDepth 100000 in
theorem ints18_walk (ha : Nv w av a) (hb : Nv w bv b) :
    Calls Try.prog 52 #[av, bv] w fun e w' => e = .returned (.bool (decide (a = b))) ∧ Below w.heap.size w w' := by
  have HA : Hid (Nv w av a) := ha
  have HB : Hid (Nv w bv b) := hb
  obtain ⟨ao, ca, rfl, hla, _⟩ := ha.form
  obtain ⟨bo, cb, rfl, hlb, _⟩ := hb.form
  clear ha hb
  by_cases hl : a.length = b.length
  · have hln : ((a.length : Int) != (b.length : Int)) = false := by simp [hl]
    have HL : Hid (a.length = b.length) := hl
    clear hl
    go_enter Try.func52, Try.ntmps52
    go_wp2_with fail
    go_loopw [5] (fun iv wr => ∃ k : Nat, k ≤ a.length ∧ iv = .int .i64 k ∧ (∀ i, i < k → nth a i = nth b i) ∧ Below w.heap.size w wr) (fun iv _ => a.length - (intOf iv).toNat)
    case atStart => exact ⟨0, Nat.zero_le _, rfl, fun i hi => by omega, below_same _⟩
    case round =>
      obtain ⟨k, hk, rfl, hall, hB⟩ := hrel
      have HALL : Hid (∀ i, i < k → nth a i = nth b i) := hall
      have HW : Hid (Below w.heap.size w wr) := hB
      clear hB hall
      by_cases hlt : k < a.length
      · have hltb : k < b.length := by have := HL.out; omega
        obtain ⟨g, off, rfl, c0⟩ := (HA.out.below HW.out).at hlt
        obtain ⟨d, doff, rfl, d0⟩ := (HB.out.below HW.out).at hltb
        obtain ⟨x, hx⟩ : ∃ x, x = nth a k := ⟨_, rfl⟩
        obtain ⟨y, hy⟩ : ∃ y, y = nth b k := ⟨_, rfl⟩
        rw [← hx] at c0
        rw [← hy] at d0
        have HX : Hid (x = nth a k) := hx
        have HY : Hid (y = nth b k) := hy
        clear hx hy
        have hlti : (k : Int) < (a.length : Int) := by omega
        have hltbi : (k : Int) < (b.length : Int) := by omega
        by_cases hle : x = y
        · have hq : (x != y) = false := by simp [hle]
          have HXY : Hid (x = y) := hle
          clear hle
          go_wp2_with fail
          go_quiet (fail)
          go_wp2_with fail
          go_roundw
          case rel =>
            refine ⟨k + 1, by omega, by go_num, fun i hi => ?_, below_trans HW.out (below_drewN _ _)⟩
            by_cases hik : i = k
            · subst hik; rw [← HX.out, ← HY.out]; exact HXY.out
            · exact HALL.out i (by omega)
          case measure => simp [intOf]; omega
        · have hq : (x != y) = true := by simp [hle]
          have HD : Hid (decide (a = b) = false) := by
            show _ = _
            refine decide_eq_false fun h => hle ?_
            rw [HX.out, HY.out, h]
          go_wp2_with fail
          go_quiet (fail)
          go_wp2_with fail
          go_ret
          exact ⟨HD.out ▸ rfl, below_trans HW.out (below_drewN _ _)⟩
      · have hnl : ¬ ((k : Int) < (a.length : Int)) := by omega
        have HD : Hid (decide (a = b) = true) := decide_eq_true (nth_ext HL.out fun i hi => HALL.out i (by omega))
        go_wp2_with fail
        go_ret
        exact ⟨HD.out ▸ rfl, HW.out⟩
  · have hln : ((a.length : Int) != (b.length : Int)) = true := by simp; omega
    have HD : Hid (decide (a = b) = false) := decide_eq_false fun h => hl (by rw [h])
    clear hl
    go_enter Try.func52, Try.ntmps52
    go_wp2_with fail
    go_ret
    exact ⟨HD.out ▸ rfl, below_same _⟩


set_option maxRecDepth 100000 in
theorem iequal_walk (ha : Nv w av a) (hb : Nv w bv b) :
    Calls Try.prog 69 #[av, bv] w fun e w' => e = .returned (.bool (decide (a = b))) ∧ Below w.heap.size w w' := by
  have HA : Hid (Nv w av a) := ha
  have HB : Hid (Nv w bv b) := hb
  obtain ⟨ao, ca, rfl, hla, _⟩ := ha.form
  obtain ⟨bo, cb, rfl, hlb, _⟩ := hb.form
  clear ha hb
  by_cases hl : a.length = b.length
  · have hln : ((a.length : Int) != (b.length : Int)) = false := by simp [hl]
    have HL : Hid (a.length = b.length) := hl
    clear hl
    go_enter Try.func69, Try.ntmps69
    go_wp2_with fail
    go_loopw [13] (fun iv wr => ∃ k : Nat, k ≤ a.length ∧ iv = .int .i64 k ∧ (∀ i, i < k → nth a i = nth b i) ∧ Below w.heap.size w wr) (fun iv _ => a.length - (intOf iv).toNat)
    case atStart => exact ⟨0, Nat.zero_le _, rfl, fun i hi => by omega, below_same _⟩
    case round =>
      obtain ⟨k, hk, rfl, hall, hB⟩ := hrel
      have HALL : Hid (∀ i, i < k → nth a i = nth b i) := hall
      have HW : Hid (Below w.heap.size w wr) := hB
      clear hB hall
      by_cases hlt : k < a.length
      · have hltb : k < b.length := by have := HL.out; omega
        obtain ⟨g, off, rfl, c0⟩ := (HA.out.below HW.out).at hlt
        obtain ⟨d, doff, rfl, d0⟩ := (HB.out.below HW.out).at hltb
        obtain ⟨x, hx⟩ : ∃ x, x = nth a k := ⟨_, rfl⟩
        obtain ⟨y, hy⟩ : ∃ y, y = nth b k := ⟨_, rfl⟩
        rw [← hx] at c0
        rw [← hy] at d0
        have HX : Hid (x = nth a k) := hx
        have HY : Hid (y = nth b k) := hy
        clear hx hy
        have hlti : (k : Int) < (a.length : Int) := by omega
        have hltbi : (k : Int) < (b.length : Int) := by omega
        by_cases hle : x = y
        · have hq : (x != y) = false := by simp [hle]
          have HXY : Hid (x = y) := hle
          clear hle
          go_wp2_with fail
          go_quiet (fail)
          go_wp2_with fail
          go_roundw
          case rel =>
            refine ⟨k + 1, by omega, by go_num, fun i hi => ?_, below_trans HW.out (below_drewN _ _)⟩
            by_cases hik : i = k
            · subst hik; rw [← HX.out, ← HY.out]; exact HXY.out
            · exact HALL.out i (by omega)
          case measure => simp [intOf]; omega
        · have hq : (x != y) = true := by simp [hle]
          have HD : Hid (decide (a = b) = false) := by
            show _ = _
            refine decide_eq_false fun h => hle ?_
            rw [HX.out, HY.out, h]
          go_wp2_with fail
          go_quiet (fail)
          go_wp2_with fail
          go_ret
          exact ⟨HD.out ▸ rfl, below_trans HW.out (below_drewN _ _)⟩
      · have hnl : ¬ ((k : Int) < (a.length : Int)) := by omega
        have HD : Hid (decide (a = b) = true) := decide_eq_true (nth_ext HL.out fun i hi => HALL.out i (by omega))
        go_wp2_with fail
        go_ret
        exact ⟨HD.out ▸ rfl, HW.out⟩
  · have hln : ((a.length : Int) != (b.length : Int)) = true := by simp; omega
    have HD : Hid (decide (a = b) = false) := decide_eq_false fun h => hl (by rw [h])
    clear hl
    go_enter Try.func69, Try.ntmps69
    go_wp2_with fail
    go_ret
    exact ⟨HD.out ▸ rfl, below_same _⟩




/-- What IndexFunc answers with tooFar. -/
def IfGot (l : List Int) (w : World) (e : Ending) (w' : World) : Prop := (∃ k : Int, e = .returned (.int .i64 k) ∧ decide (0 ≤ k) = !decide (∀ i, i < l.length → nth l i ≤ 256)) ∧ Below w.heap.size w w'
set_option maxRecDepth 100000 in
theorem ifun_walk (ha : Nv w av a) : Calls Try.prog 79 #[av, .func (.func 68) #[] #[]] w (IfGot a w) := by
  have HA : Hid (Nv w av a) := ha
  obtain ⟨ao, ca, rfl, hla, _⟩ := ha.form
  clear ha
  go_enter Try.func79, Try.ntmps79
  go_wp2_with fail
  go_loopw [8] (fun iv wr => ∃ k : Nat, k ≤ a.length ∧ iv = .int .i64 k ∧ (∀ i, i < k → nth a i ≤ 256) ∧ Below w.heap.size w wr) (fun iv _ => a.length - (intOf iv).toNat)
  case atStart => exact ⟨0, Nat.zero_le _, rfl, fun i hi => by omega, below_same _⟩
  case round =>
    obtain ⟨k, hk, rfl, hall, hB⟩ := hrel
    have HALL : Hid (∀ i, i < k → nth a i ≤ 256) := hall
    have HW : Hid (Below w.heap.size w wr) := hB
    clear hB hall
    by_cases hlt : k < a.length
    · obtain ⟨g, off, rfl, c0⟩ := (HA.out.below HW.out).at hlt
      obtain ⟨x, hx⟩ : ∃ x, x = nth a k := ⟨_, rfl⟩
      rw [← hx] at c0
      have HX : Hid (x = nth a k) := hx
      clear hx
      have hlti : (k : Int) < (a.length : Int) := by omega
      by_cases hle : 256 < x
      · have HQ : Hid (decide (256 < x) = true) := decide_eq_true hle
        have HBAD : Hid (IfGot a w (.returned (.int .i64 k)) wr) := by
          refine ⟨⟨k, rfl, ?_⟩, HW.out⟩
          rw [decide_eq_true (show (0 : Int) ≤ (k : Int) by omega), decide_eq_false (fun h => by have := h k hlt; rw [← HX.out] at this; omega)]; rfl
        clear hle
        go_wp2_with fail
        refine (toofar_walk x).mono ?_
        rintro e w9 ⟨rfl, h9⟩
        replace h9 := h9.symm
        subst h9
        rw [HQ.out]
        go_wp2_with fail
        go_ret
        exact HBAD.out
      · have HQ : Hid (decide (256 < x) = false) := decide_eq_false hle
        have HLE : Hid (x ≤ 256) := by show _ ≤ _; omega
        clear hle
        go_wp2_with fail
        refine (toofar_walk x).mono ?_
        rintro e w9 ⟨rfl, h9⟩
        replace h9 := h9.symm
        subst h9
        rw [HQ.out]
        go_wp2_with fail
        go_roundw
        case rel =>
          refine ⟨k + 1, by omega, by go_num, fun i hi => ?_, HW.out⟩
          by_cases hik : i = k
          · subst hik; rw [← HX.out]; exact HLE.out
          · exact HALL.out i (by omega)
        case measure => simp [intOf]; omega
    · have hnl : ¬ ((k : Int) < (a.length : Int)) := by omega
      have HD : Hid (IfGot a w (.returned (.int .i64 (-1))) wr) := by
        refine ⟨⟨-1, rfl, ?_⟩, HW.out⟩
        rw [decide_eq_true (show ∀ i, i < a.length → nth a i ≤ 256 from fun i hi => HALL.out i (by omega))]; rfl
      go_wp2_with fail
      go_ret
      exact HD.out
theorem cfun_walk (ha : Nv w av a) : Calls Try.prog 67 #[av, .func (.func 68) #[] #[]] w fun e w' => e = .returned (.bool (!decide (∀ i, i < a.length → nth a i ≤ 256))) ∧ Below w.heap.size w w' := by
  have HA : Hid (Nv w av a) := ha
  clear ha
  go_enter Try.func67, Try.ntmps67
  go_wp2_with fail
  refine (ifun_walk HA.out).mono ?_
  rintro e w1 ⟨⟨k, rfl, hk⟩, hB⟩
  have HK : Hid (decide (0 ≤ k) = !decide (∀ i, i < a.length → nth a i ≤ 256)) := hk
  clear hk
  go_wp2_with fail
  go_ret
  exact ⟨by rw [HK.out]; rfl, hB⟩
end

end Go.Proofs.Ytnnammlipfappaa


