/- Forward, the statements' ints; ends that fit. -/
import Derived.Test.YtnnammlipfappaaSpNa



namespace Go.Proofs.Ytnnammlipfappaa

open Ieee Go.RowKit



def Fwd (a b : List Int) : Prop := a.length = b.length ∧ ∀ i, i < a.length → nth a i ≤ nth b i
def fwdB (a b : List Int) : Bool := decide (a.length = b.length ∧ ∀ i, i < a.length → nth a i ≤ nth b i)
theorem Fwd.yes {a b : List Int} (h : Fwd a b) : fwdB a b = true := decide_eq_true (p := a.length = b.length ∧ ∀ i, i < a.length → nth a i ≤ nth b i) h
theorem Fwd.no {a b : List Int} (h : ¬ Fwd a b) : fwdB a b = false := decide_eq_false (p := a.length = b.length ∧ ∀ i, i < a.length → nth a i ≤ nth b i) h
theorem Fwd.of {a b : List Int} (h : fwdB a b = true) : Fwd a b := of_decide_eq_true (p := a.length = b.length ∧ ∀ i, i < a.length → nth a i ≤ nth b i) h
theorem Nv.form {w : World} {v : Value} {l : List Int} (h : Nv w v l) : ∃ ao cap, v = .slice ao l.length cap ∧ (l.length : Int) ≤ 9223372036854775807 ∧ l.length ≤ cap ∧ cap ≤ maxLen := by
  obtain ⟨⟨ao, cap, e, h1, h2, h3, h4⟩, h5⟩ := h
  exact ⟨ao, cap, e, by simp only [maxLen] at h2; omega, h1, h2⟩
theorem Nv.at {w : World} {ao : Option Addr} {n cap : Nat} {l : List Int} (h : Nv w (.slice ao n cap) l) {i : Nat} (hi : i < l.length) : ∃ b off, ao = some ⟨b, off, none⟩ ∧ w.cell? ⟨b, off + i, none⟩ = some (.int .i64 (nth l i)) := by
  obtain ⟨⟨ao', cap', e, h1, h2, h3, h4⟩, h5⟩ := h
  cases e
  exact h4 i hi
theorem Nv.in64 {w : World} {v : Value} {l : List Int} (h : Nv w v l) : In64 l := h.2


section

variable {av bv : Value} {a b : List Int} {w : World}



set_option maxRecDepth 100000 in
theorem fwd_walk (ha : Nv w av a) (hb : Nv w bv b) :
    Calls Try.prog 78 #[av, bv] w fun e w' => e = .returned (.bool (fwdB a b)) ∧ Below w.heap.size w w' := by
  have HA : Hid (Nv w av a) := ha
  have HB : Hid (Nv w bv b) := hb
  obtain ⟨ao, ca, rfl, hla, _⟩ := ha.form
  obtain ⟨bo, cb, rfl, hlb, _⟩ := hb.form
  clear ha hb
  by_cases hl : a.length = b.length
  · have hln : ((a.length : Int) != (b.length : Int)) = false := by simp [hl]
    have HL : Hid (a.length = b.length) := hl
    clear hl
    go_enter Try.func78, Try.ntmps78
    go_wp2_with fail
    go_loopw [13] (fun iv wr => ∃ k : Nat, k ≤ a.length ∧ iv = .int .i64 k ∧ (∀ i, i < k → nth a i ≤ nth b i) ∧ Below w.heap.size w wr) (fun iv _ => a.length - (intOf iv).toNat)
    case atStart => exact ⟨0, Nat.zero_le _, rfl, fun i hi => by omega, below_same _⟩
    case round =>
      obtain ⟨k, hk, rfl, hall, hB⟩ := hrel
      have HALL : Hid (∀ i, i < k → nth a i ≤ nth b i) := hall
      have HW : Hid (Below w.heap.size w wr) := hB
      clear hB hall
      by_cases hlt : k < a.length
      · have hltb : k < b.length := by have := HL.out; omega
        obtain ⟨g, off, rfl, c0⟩ := (HA.out.below HW.out).at hlt
        obtain ⟨d, doff, rfl, d0⟩ := (HB.out.below HW.out).at hltb
        obtain ⟨x, hx⟩ : ∃ x, x = nth a k := ⟨_, rfl⟩
        obtain ⟨y, hy⟩ : ∃ y, y = nth b k := ⟨_, rfl⟩
        rw [← hx] at c0
        rw [← hy] at d0
        have HX : Hid (x = nth a k) := hx
        have HY : Hid (y = nth b k) := hy
        clear hx hy
        have hlti : (k : Int) < (a.length : Int) := by omega
        have hltbi : (k : Int) < (b.length : Int) := by omega
        by_cases hle : y < x
        · have HD : Hid (fwdB a b = false) := by
            show _ = _
            refine Fwd.no fun h => ?_
            have := h.2 k hlt
            rw [← HX.out, ← HY.out] at this
            omega
          go_wp2_with fail
          go_quiet (fail)
          go_wp2_with fail
          go_ret
          exact ⟨HD.out ▸ rfl, below_trans HW.out (below_drewN _ _)⟩
        · go_wp2_with fail
          go_quiet (fail)
          go_wp2_with fail
          go_roundw
          case rel =>
            refine ⟨k + 1, by omega, by go_num, fun i hi => ?_, below_trans HW.out (below_drewN _ _)⟩
            by_cases hik : i = k
            · subst hik; rw [← HX.out, ← HY.out]; omega
            · exact HALL.out i (by omega)
          case measure => simp [intOf]; omega
      · have hnl : ¬ ((k : Int) < (a.length : Int)) := by omega
        have HD : Hid (fwdB a b = true) := Fwd.yes ⟨HL.out, fun i hi => HALL.out i (by omega)⟩
        go_wp2_with fail
        go_ret
        exact ⟨HD.out ▸ rfl, HW.out⟩
  · have hln : ((a.length : Int) != (b.length : Int)) = true := by simp; omega
    have HD : Hid (fwdB a b = false) := Fwd.no fun h => hl h.1
    clear hl
    go_enter Try.func78, Try.ntmps78
    go_wp2_with fail
    go_ret
    exact ⟨HD.out ▸ rfl, below_same _⟩


set_option maxRecDepth 100000 in
theorem rfwd_walk (ha : Nv w av a) (hb : Nv w bv b) :
    Calls Try.prog 80 #[av, bv] w fun e w' => e = .returned (.bool (fwdB a b)) ∧ Below w.heap.size w w' := by
  have HA : Hid (Nv w av a) := ha
  have HB : Hid (Nv w bv b) := hb
  obtain ⟨ao, ca, rfl, hla, _⟩ := ha.form
  obtain ⟨bo, cb, rfl, hlb, _⟩ := hb.form
  clear ha hb
  by_cases hl : a.length = b.length
  · have hln : ((a.length : Int) != (b.length : Int)) = false := by simp [hl]
    have HL : Hid (a.length = b.length) := hl
    clear hl
    go_enter Try.func80, Try.ntmps80
    go_wp2_with fail
    go_loopw [5] (fun iv wr => ∃ k : Nat, k ≤ a.length ∧ iv = .int .i64 k ∧ (∀ i, i < k → nth a i ≤ nth b i) ∧ Below w.heap.size w wr) (fun iv _ => a.length - (intOf iv).toNat)
    case atStart => exact ⟨0, Nat.zero_le _, rfl, fun i hi => by omega, below_same _⟩
    case round =>
      obtain ⟨k, hk, rfl, hall, hB⟩ := hrel
      have HALL : Hid (∀ i, i < k → nth a i ≤ nth b i) := hall
      have HW : Hid (Below w.heap.size w wr) := hB
      clear hB hall
      by_cases hlt : k < a.length
      · have hltb : k < b.length := by have := HL.out; omega
        obtain ⟨g, off, rfl, c0⟩ := (HA.out.below HW.out).at hlt
        obtain ⟨d, doff, rfl, d0⟩ := (HB.out.below HW.out).at hltb
        obtain ⟨x, hx⟩ : ∃ x, x = nth a k := ⟨_, rfl⟩
        obtain ⟨y, hy⟩ : ∃ y, y = nth b k := ⟨_, rfl⟩
        rw [← hx] at c0
        rw [← hy] at d0
        have HX : Hid (x = nth a k) := hx
        have HY : Hid (y = nth b k) := hy
        clear hx hy
        have hlti : (k : Int) < (a.length : Int) := by omega
        have hltbi : (k : Int) < (b.length : Int) := by omega
        by_cases hle : y < x
        · have HD : Hid (fwdB a b = false) := by
            show _ = _
            refine Fwd.no fun h => ?_
            have := h.2 k hlt
            rw [← HX.out, ← HY.out] at this
            omega
          go_wp2_with fail
          go_quiet (fail)
          go_wp2_with fail
          go_ret
          exact ⟨HD.out ▸ rfl, below_trans HW.out (below_drewN _ _)⟩
        · go_wp2_with fail
          go_quiet (fail)
          go_wp2_with fail
          go_roundw
          case rel =>
            refine ⟨k + 1, by omega, by go_num, fun i hi => ?_, below_trans HW.out (below_drewN _ _)⟩
            by_cases hik : i = k
            · subst hik; rw [← HX.out, ← HY.out]; omega
            · exact HALL.out i (by omega)
          case measure => simp [intOf]; omega
      · have hnl : ¬ ((k : Int) < (a.length : Int)) := by omega
        have HD : Hid (fwdB a b = true) := Fwd.yes ⟨HL.out, fun i hi => HALL.out i (by omega)⟩
        go_wp2_with fail
        go_ret
        exact ⟨HD.out ▸ rfl, HW.out⟩
  · have hln : ((a.length : Int) != (b.length : Int)) = true := by simp; omega
    have HD : Hid (fwdB a b = false) := Fwd.no fun h => hl h.1
    clear hl
    go_enter Try.func80, Try.ntmps80
    go_wp2_with fail
    go_ret
    exact ⟨HD.out ▸ rfl, below_same _⟩




end

end Go.Proofs.Ytnnammlipfappaa


