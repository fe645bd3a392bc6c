/- Triples: whether one is right, Step, At. -/
import Derived.Test.YtnnammlipfappaaSpNb

import Derived.Laws.ResultCell

namespace Go.Proofs.Ytnnammlipfappaa

open Ieee Go.RowKit



structure Tp where
  b : Int
  p : List Int
  c : List Int
def rightT (t : Tp) : Prop := 0 ≤ t.b ∧ Fwd t.p t.c ∧ ∀ i, i < t.c.length → 0 ≤ nth t.p i ∧ (t.b = 0 → nth t.c i = 0)
def rightB (t : Tp) : Bool := decide (0 ≤ t.b) && fwdB t.p t.c && decide (∀ i, i < t.c.length → 0 ≤ nth t.p i ∧ (t.b = 0 → nth t.c i = 0))
theorem rightT.of {t : Tp} (h : rightB t = true) : rightT t := by
  unfold rightB at h
  rw [Bool.and_eq_true, Bool.and_eq_true] at h
  exact ⟨of_decide_eq_true h.1.1, Fwd.of h.1.2, of_decide_eq_true h.2⟩
theorem rightT.yes {t : Tp} (h : rightT t) : rightB t = true := by
  unfold rightB
  rw [decide_eq_true h.1, h.2.1.yes, decide_eq_true h.2.2]; rfl
theorem rightT.no {t : Tp} (h : ¬ rightT t) : rightB t = false := by
  cases hb : rightB t
  · rfl
  · exact absurd (rightT.of hb) h


section

variable {w : World} {pv cv tv : Value} {t : Tp} {tl : List Int}



set_option maxRecDepth 100000 in
set_option maxHeartbeats 2000000 in
theorem right_walk (hp : Nv w pv t.p) (hc : Nv w cv t.c) :
    Calls Try.prog 77 #[.agg #[.int .i64 t.b, pv, cv]] w fun e w' => e = .returned (.bool (rightB t)) ∧ Below w.heap.size w w' := by
  obtain ⟨tb, P, C⟩ := t
  simp only at hp hc ⊢
  obtain ⟨w0, hw0⟩ : ∃ w0, w0 = w.alloc (Obj.cells #[.int .i64 tb, pv, cv] 39) := ⟨_, rfl⟩
  have HB0 : Hid (Below w.heap.size w w0) := by show Below _ _ _; rw [hw0]; exact below_alloc _ _
  have HP : Hid (Nv w0 pv P) := hp.below HB0.out
  have HC : Hid (Nv w0 cv C) := hc.below HB0.out
  obtain ⟨po, pc, rfl, hlp, _⟩ := hp.form
  obtain ⟨co, cc, rfl, hlc, _⟩ := hc.form
  have HZ : Hid (w.heap.size < w0.heap.size) := by show _ < _; rw [hw0]; simp
  have HW0 : Hid (w0 = w.alloc (Obj.cells #[.int .i64 tb, .slice po P.length pc, .slice co C.length cc] 39)) := hw0
  have k0 : w0.cell? ⟨w.heap.size, 0, none⟩ = some (.int .i64 tb) := by rw [hw0]; simp [go_sem]
  have k1 : w0.cell? ⟨w.heap.size, 1, none⟩ = some (.slice po P.length pc) := by rw [hw0]; simp [go_sem]
  have k2 : w0.cell? ⟨w.heap.size, 2, none⟩ = some (.slice co C.length cc) := by rw [hw0]; simp [go_sem]
  have HK0 : Hid (∀ wx, Below w0.heap.size w0 wx → wx.cell? ⟨w.heap.size, 0, none⟩ = some (.int .i64 tb)) := fun wx hb => by rw [hb.cell (p := ⟨w.heap.size, 0, none⟩) HZ.out]; exact k0
  have HK1 : Hid (∀ wx, Below w0.heap.size w0 wx → wx.cell? ⟨w.heap.size, 1, none⟩ = some (.slice po P.length pc)) := fun wx hb => by rw [hb.cell (p := ⟨w.heap.size, 1, none⟩) HZ.out]; exact k1
  have HK2 : Hid (∀ wx, Below w0.heap.size w0 wx → wx.cell? ⟨w.heap.size, 2, none⟩ = some (.slice co C.length cc)) := fun wx hb => by rw [hb.cell (p := ⟨w.heap.size, 2, none⟩) HZ.out]; exact k2
  clear hp hc hw0 k0 k1 k2
  by_cases hb0 : tb < 0
  · have HD : Hid (rightB ⟨tb, P, C⟩ = false) := rightT.no fun h => by have := h.1; simp only at this; omega
    rw [HD.out]
    go_enter Try.func77, Try.ntmps77
    go_wp2_with fail
    go_ret
    exact ⟨rfl, below_alloc _ _⟩
  · by_cases hf : Fwd P C
    · have HF : Hid (Fwd P C) := hf
      have HFD : Hid (fwdB P C = true) := Fwd.yes hf
      clear hf
      go_enter Try.func77, Try.ntmps77
      go_wp2_with fail
      rw [← HW0.out]
      refine (fwd_walk HP.out HC.out).mono ?_
      rw [HFD.out]
      rintro e w1 ⟨rfl, hB1⟩
      have HW1 : Hid (Below w0.heap.size w0 w1) := hB1
      have y2 := HK2.out w1 hB1
      clear hB1
      go_wp2_with fail
      go_loopw [18] (fun iv wr => ∃ k : Nat, k ≤ C.length ∧ iv = .int .i64 k ∧ (∀ i, i < k → 0 ≤ nth P i ∧ (tb = 0 → nth C i = 0)) ∧ Below w0.heap.size w0 wr) (fun iv _ => C.length - (intOf iv).toNat)
      case atStart => exact ⟨0, Nat.zero_le _, rfl, fun i hi => by omega, HW1.out⟩
      case round =>
        clear y2
        obtain ⟨k, hk, rfl, hall, hB⟩ := hrel
        have HALL : Hid (∀ i, i < k → 0 ≤ nth P i ∧ (tb = 0 → nth C i = 0)) := hall
        have HW : Hid (Below w0.heap.size w0 wr) := hB
        clear hall hB
        by_cases hlt : k < C.length
        · have hltp : k < P.length := by have := HF.out.1; omega
          have hlti : (k : Int) < (C.length : Int) := by omega
          have hltpi : (k : Int) < (P.length : Int) := by omega
          obtain ⟨g, off, rfl, c0⟩ := (HP.out.below HW.out).at hltp
          obtain ⟨d, doff, rfl, d0⟩ := (HC.out.below HW.out).at hlt
          obtain ⟨x, hx⟩ : ∃ x, x = nth P k := ⟨_, rfl⟩
          obtain ⟨y, hy⟩ : ∃ y, y = nth C k := ⟨_, rfl⟩
          rw [← hx] at c0
          rw [← hy] at d0
          have HX : Hid (x = nth P k) := hx
          have HY : Hid (y = nth C k) := hy
          have y0 := HK0.out wr HW.out
          have y1 := HK1.out wr HW.out
          have y2 := HK2.out wr HW.out
          clear hx hy
          have bad : (x < 0 ∨ (tb = 0 ∧ y ≠ 0)) → rightB ⟨tb, P, C⟩ = false := fun h => rightT.no fun hr => by
            have := hr.2.2 k hlt
            simp only at this
            rw [← HX.out, ← HY.out] at this
            rcases h with h | ⟨h1, h2⟩
            · omega
            · exact h2 (this.2 h1)
          have BAD : Hid ((x < 0 ∨ (tb = 0 ∧ y ≠ 0)) → rightB ⟨tb, P, C⟩ = false) := bad
          clear bad
          by_cases hx0 : x < 0
          · go_wp2_with fail
            go_ret
            exact ⟨BAD.out (.inl hx0) ▸ rfl, below_trans HB0.out HW.out⟩
          · by_cases ht0 : tb = 0
            · have htb : (tb == 0) = true := by simp [ht0]
              by_cases hy0 : y = 0
              · have hyb : (y != 0) = false := by simp [hy0]
                have HG : Hid (0 ≤ x ∧ y = 0) := ⟨by omega, hy0⟩
                clear hy0 ht0
                go_wp2_with fail
                go_roundw
                case rel =>
                  refine ⟨k + 1, by omega, by go_num, fun i hi => ?_, HW.out⟩
                  by_cases hik : i = k
                  · subst hik; rw [← HX.out, ← HY.out]; exact ⟨HG.out.1, fun _ => HG.out.2⟩
                  · exact HALL.out i (by omega)
                case measure => simp [intOf]; omega
              · have hyb : (y != 0) = true := by simp [hy0]
                have HG : Hid (tb = 0 ∧ y ≠ 0) := ⟨ht0, hy0⟩
                clear hy0 ht0
                go_wp2_with fail
                go_ret
                exact ⟨BAD.out (.inr HG.out) ▸ rfl, below_trans HB0.out HW.out⟩
            · have htb : (tb == 0) = false := by simp [ht0]
              have HG : Hid (¬ tb = 0) := ht0
              clear ht0
              go_wp2_with fail
              go_roundw
              case rel =>
                refine ⟨k + 1, by omega, by go_num, fun i hi => ?_, HW.out⟩
                by_cases hik : i = k
                · subst hik; rw [← HX.out]; exact ⟨by omega, fun h => absurd h HG.out⟩
                · exact HALL.out i (by omega)
              case measure => simp [intOf]; omega
        · have hnl : ¬ ((k : Int) < (C.length : Int)) := by omega
          have HD : Hid (rightB ⟨tb, P, C⟩ = true) := rightT.yes ⟨by simp only; omega, HF.out, fun i hi => HALL.out i (by simp only at hi; omega)⟩
          go_wp2_with fail
          go_ret
          exact ⟨HD.out ▸ rfl, below_trans HB0.out HW.out⟩
    · have HFD : Hid (fwdB P C = false) := Fwd.no hf
      have HD : Hid (rightB ⟨tb, P, C⟩ = false) := rightT.no fun h => hf h.2.1
      rw [HD.out]
      clear hf
      go_enter Try.func77, Try.ntmps77
      go_wp2_with fail
      rw [← HW0.out]
      refine (fwd_walk HP.out HC.out).mono ?_
      rw [HFD.out]
      rintro e w1 ⟨rfl, hB1⟩
      go_wp2_with fail
      go_ret
      exact ⟨rfl, below_trans HB0.out hB1⟩


set_option maxRecDepth 100000 in
set_option maxHeartbeats 2000000 in
theorem rright_walk (hp : Nv w pv t.p) (hc : Nv w cv t.c) :
    Calls Try.prog 71 #[.agg #[.int .i64 t.b, pv, cv]] w fun e w' => e = .returned (.bool (rightB t)) ∧ Below w.heap.size w w' := by
  obtain ⟨tb, P, C⟩ := t
  simp only at hp hc ⊢
  obtain ⟨w0, hw0⟩ : ∃ w0, w0 = w.alloc (Obj.cells #[.int .i64 tb, pv, cv] 39) := ⟨_, rfl⟩
  have HB0 : Hid (Below w.heap.size w w0) := by show Below _ _ _; rw [hw0]; exact below_alloc _ _
  have HP : Hid (Nv w0 pv P) := hp.below HB0.out
  have HC : Hid (Nv w0 cv C) := hc.below HB0.out
  obtain ⟨po, pc, rfl, hlp, _⟩ := hp.form
  obtain ⟨co, cc, rfl, hlc, _⟩ := hc.form
  have HZ : Hid (w.heap.size < w0.heap.size) := by show _ < _; rw [hw0]; simp
  have HW0 : Hid (w0 = w.alloc (Obj.cells #[.int .i64 tb, .slice po P.length pc, .slice co C.length cc] 39)) := hw0
  have k0 : w0.cell? ⟨w.heap.size, 0, none⟩ = some (.int .i64 tb) := by rw [hw0]; simp [go_sem]
  have k1 : w0.cell? ⟨w.heap.size, 1, none⟩ = some (.slice po P.length pc) := by rw [hw0]; simp [go_sem]
  have k2 : w0.cell? ⟨w.heap.size, 2, none⟩ = some (.slice co C.length cc) := by rw [hw0]; simp [go_sem]
  have HK0 : Hid (∀ wx, Below w0.heap.size w0 wx → wx.cell? ⟨w.heap.size, 0, none⟩ = some (.int .i64 tb)) := fun wx hb => by rw [hb.cell (p := ⟨w.heap.size, 0, none⟩) HZ.out]; exact k0
  have HK1 : Hid (∀ wx, Below w0.heap.size w0 wx → wx.cell? ⟨w.heap.size, 1, none⟩ = some (.slice po P.length pc)) := fun wx hb => by rw [hb.cell (p := ⟨w.heap.size, 1, none⟩) HZ.out]; exact k1
  have HK2 : Hid (∀ wx, Below w0.heap.size w0 wx → wx.cell? ⟨w.heap.size, 2, none⟩ = some (.slice co C.length cc)) := fun wx hb => by rw [hb.cell (p := ⟨w.heap.size, 2, none⟩) HZ.out]; exact k2
  clear hp hc hw0 k0 k1 k2
  by_cases hb0 : tb < 0
  · have HD : Hid (rightB ⟨tb, P, C⟩ = false) := rightT.no fun h => by have := h.1; simp only at this; omega
    rw [HD.out]
    go_enter Try.func71, Try.ntmps71
    go_wp2_with fail
    go_ret
    exact ⟨rfl, below_alloc _ _⟩
  · by_cases hf : Fwd P C
    · have HF : Hid (Fwd P C) := hf
      have HFD : Hid (fwdB P C = true) := Fwd.yes hf
      clear hf
      go_enter Try.func71, Try.ntmps71
      go_wp2_with fail
      rw [← HW0.out]
      refine (rfwd_walk HP.out HC.out).mono ?_
      rw [HFD.out]
      rintro e w1 ⟨rfl, hB1⟩
      have HW1 : Hid (Below w0.heap.size w0 w1) := hB1
      clear hB1
      go_wp2_with fail
      go_loopw [3] (fun iv wr => ∃ k : Nat, k ≤ C.length ∧ iv = .int .i64 k ∧ (∀ i, i < k → 0 ≤ nth P i ∧ (tb = 0 → nth C i = 0)) ∧ Below w0.heap.size w0 wr) (fun iv _ => C.length - (intOf iv).toNat)
      case atStart => exact ⟨0, Nat.zero_le _, rfl, fun i hi => by omega, HW1.out⟩
      case round =>
        obtain ⟨k, hk, rfl, hall, hB⟩ := hrel
        have HALL : Hid (∀ i, i < k → 0 ≤ nth P i ∧ (tb = 0 → nth C i = 0)) := hall
        have HW : Hid (Below w0.heap.size w0 wr) := hB
        clear hall hB
        by_cases hlt : k < C.length
        · have hltp : k < P.length := by have := HF.out.1; omega
          have hlti : (k : Int) < (C.length : Int) := by omega
          have hltpi : (k : Int) < (P.length : Int) := by omega
          obtain ⟨g, off, rfl, c0⟩ := (HP.out.below HW.out).at hltp
          obtain ⟨d, doff, rfl, d0⟩ := (HC.out.below HW.out).at hlt
          obtain ⟨x, hx⟩ : ∃ x, x = nth P k := ⟨_, rfl⟩
          obtain ⟨y, hy⟩ : ∃ y, y = nth C k := ⟨_, rfl⟩
          rw [← hx] at c0
          rw [← hy] at d0
          have HX : Hid (x = nth P k) := hx
          have HY : Hid (y = nth C k) := hy
          have y0 := HK0.out wr HW.out
          have y1 := HK1.out wr HW.out
          have y2 := HK2.out wr HW.out
          clear hx hy
          have bad : (x < 0 ∨ (tb = 0 ∧ y ≠ 0)) → rightB ⟨tb, P, C⟩ = false := fun h => rightT.no fun hr => by
            have := hr.2.2 k hlt
            simp only at this
            rw [← HX.out, ← HY.out] at this
            rcases h with h | ⟨h1, h2⟩
            · omega
            · exact h2 (this.2 h1)
          have BAD : Hid ((x < 0 ∨ (tb = 0 ∧ y ≠ 0)) → rightB ⟨tb, P, C⟩ = false) := bad
          clear bad
          by_cases hx0 : x < 0
          · go_wp2_with fail
            go_ret
            exact ⟨BAD.out (.inl hx0) ▸ rfl, below_trans HB0.out HW.out⟩
          · by_cases ht0 : tb = 0
            · have htb : (tb == 0) = true := by simp [ht0]
              by_cases hy0 : y = 0
              · have hyb : (y != 0) = false := by simp [hy0]
                have HG : Hid (0 ≤ x ∧ y = 0) := ⟨by omega, hy0⟩
                clear hy0 ht0
                go_wp2_with fail
                go_roundw
                case rel =>
                  refine ⟨k + 1, by omega, by go_num, fun i hi => ?_, HW.out⟩
                  by_cases hik : i = k
                  · subst hik; rw [← HX.out, ← HY.out]; exact ⟨HG.out.1, fun _ => HG.out.2⟩
                  · exact HALL.out i (by omega)
                case measure => simp [intOf]; omega
              · have hyb : (y != 0) = true := by simp [hy0]
                have HG : Hid (tb = 0 ∧ y ≠ 0) := ⟨ht0, hy0⟩
                clear hy0 ht0
                go_wp2_with fail
                go_ret
                exact ⟨BAD.out (.inr HG.out) ▸ rfl, below_trans HB0.out HW.out⟩
            · have htb : (tb == 0) = false := by simp [ht0]
              have HG : Hid (¬ tb = 0) := ht0
              clear ht0
              go_wp2_with fail
              go_roundw
              case rel =>
                refine ⟨k + 1, by omega, by go_num, fun i hi => ?_, HW.out⟩
                by_cases hik : i = k
                · subst hik; rw [← HX.out]; exact ⟨by omega, fun h => absurd h HG.out⟩
                · exact HALL.out i (by omega)
              case measure => simp [intOf]; omega
        · have hnl : ¬ ((k : Int) < (C.length : Int)) := by omega
          have y2 := HK2.out wr HW.out
          have HD : Hid (rightB ⟨tb, P, C⟩ = true) := rightT.yes ⟨by simp only; omega, HF.out, fun i hi => HALL.out i (by simp only at hi; omega)⟩
          go_wp2_with fail
          go_ret
          exact ⟨HD.out ▸ rfl, below_trans HB0.out HW.out⟩
    · have HFD : Hid (fwdB P C = false) := Fwd.no hf
      have HD : Hid (rightB ⟨tb, P, C⟩ = false) := rightT.no fun h => hf h.2.1
      rw [HD.out]
      clear hf
      go_enter Try.func71, Try.ntmps71
      go_wp2_with fail
      rw [← HW0.out]
      refine (rfwd_walk HP.out HC.out).mono ?_
      rw [HFD.out]
      rintro e w1 ⟨rfl, hB1⟩
      go_wp2_with fail
      go_ret
      exact ⟨rfl, below_trans HB0.out hB1⟩


def stepI (t : Tp) (tl : List Int) : Int := if (rightB t && fwdB t.c tl) = true then (if 1099511627776 ≤ t.b then 1 else 0) else 70
theorem step_yes {t : Tp} {tl : List Int} (h1 : rightT t) (h2 : Fwd t.c tl) : (rightB t && fwdB t.c tl) = true := by rw [h1.yes, h2.yes]; rfl
theorem step_of {t : Tp} {tl : List Int} (h : (rightB t && fwdB t.c tl) = true) : rightT t ∧ Fwd t.c tl := by
  rw [Bool.and_eq_true] at h
  exact ⟨rightT.of h.1, Fwd.of h.2⟩
def stepT (t : Tp) (tl : List Int) : Tp := if stepI t tl = 0 then ⟨t.b + 1, t.c, tl⟩ else ⟨0, [], []⟩
def atB (t : Tp) (n : Int) : Bool := decide (n = t.b ∨ (0 < t.b ∧ n = t.b - 1))
def atL (t : Tp) (n : Int) : List Int := if n = t.b then t.c else if 0 < t.b ∧ n = t.b - 1 then t.p else []




/-- What At answers. -/
def Ta (w : World) (t : Tp) (n : Int) (e : Ending) (w' : World) : Prop :=
  ∃ v, e = .returned (.tuple #[v, .bool (atB t n)]) ∧ w'.ownsRow w.heap.size 3 1 v (atL t n).length (cellsN (atL t n)) ∧ Below w.heap.size w w'






end

end Go.Proofs.Ytnnammlipfappaa


