/- The reference's journal: copies, ints, Right, Bytes. -/
import Derived.Test.YtnnammlipfappaaJp

import Derived.Test.YtnnammlipfappaaEc

import Derived.Test.YtnnammlipfappaaWl

namespace Go.Proofs.Ytnnammlipfappaa

open Ieee Go.RowKit

section

variable {w : World} {pv cv av bv : Value} {n : Nt} {q : Int} {l a b : List Int}

set_option maxRecDepth 100000 in
theorem rcop_walk {v : Value} (ho : Nv w v l) (hl : l.length * 8 ≤ 140737488355328) :
    Calls Try.prog 73 #[v] w fun e w' => ∃ v', e = .returned v' ∧ OwN w.heap.size w' v' l ∧ Below w.heap.size w w' := by
  have HO : Hid (Nv w v l) := ho
  have HL : Hid (l.length * 8 ≤ 140737488355328) := hl
  have HM : Hid (l.length ≤ maxLen) := ho.len_le
  clear ho hl
  go_enter Try.func73, Try.ntmps73
  go_wp2_with (at_builtin; refine wpList_append_nv (by rfl) _ _ 37 (by rfl) w.heap.size 3 Try.underlying37 info_int _ 0 [] (by rfl) (World.ownsRow_made w #[] 0 (Nat.le_refl _) (by simp [maxLen]) (by simp)) _ l (by rfl) (HO.out.below (below_alloc _ _)) (by have := HM.out; omega) (by have := HL.out; omega) (by simp) ?_; intro v' w2 hown hgrow; go_frame)
  go_ret
  refine ⟨_, rfl, by simpa using hown, ?_⟩
  exact (below_alloc w (Obj.cells #[] 3)).grown hgrow (by simp) (by simp [Value.ownBlock])
theorem fwd_eq : (fwdB a b && fwdB b a) = decide (a = b) := by
  by_cases h : a = b
  · subst h
    rw [decide_eq_true rfl, (show fwdB a a = true from Fwd.yes ⟨rfl, fun i _ => Int.le_refl _⟩)]; rfl
  · rw [decide_eq_false h]
    cases h1 : fwdB a b
    · rfl
    · cases h2 : fwdB b a
      · rfl
      · exfalso
        have f1 := Fwd.of h1
        have f2 := Fwd.of h2
        exact h (nth_ext f1.1 fun i hi => Int.le_antisymm (f1.2 i hi) (f2.2 i (by have := f1.1; omega)))
theorem rints_walk (ha : Nv w av a) (hb : Nv w bv b) :
    Calls Try.prog 72 #[av, bv] w fun e w' => e = .returned (.bool (decide (a = b))) ∧ Below w.heap.size w w' := by
  have HA : Hid (Nv w av a) := ha
  have HB : Hid (Nv w bv b) := hb
  have HQ : Hid ((fwdB a b && fwdB b a) = decide (a = b)) := fwd_eq
  clear ha hb
  rw [← HQ.out]
  cases h1 : fwdB a b
  · have H1 := h1
    clear h1
    go_enter Try.func72, Try.ntmps72
    go_wp2_with fail
    refine (rfwd_walk HA.out HB.out).mono ?_
    rintro e w1 ⟨he, hB1⟩
    rw [H1] at he
    subst he
    clear H1 HQ
    go_wp2_with fail
    go_ret
    exact ⟨rfl, hB1⟩
  · have H1 : Hid (fwdB a b = true) := h1
    clear h1
    go_enter Try.func72, Try.ntmps72
    go_wp2_with fail
    refine (rfwd_walk HA.out HB.out).mono ?_
    rintro e w1 ⟨he, hB1⟩
    rw [H1.out] at he
    subst he
    have HB1 : Hid (Below w.heap.size w w1) := hB1
    clear hB1
    go_wp2_with fail
    refine (rfwd_walk (HB.out.below HB1.out) (HA.out.below HB1.out)).mono ?_
    rintro e w2 ⟨rfl, hB2⟩
    go_wp2_with fail
    go_ret
    exact ⟨by rw [Bool.true_and]; rfl, below_trans HB1.out hB2⟩


set_option maxRecDepth 100000 in
set_option maxHeartbeats 4000000 in
theorem rgt_walk (hp : Nv w pv n.p) (hc : Nv w cv n.c) :
    Calls Try.prog 47 #[.agg #[.int .i64 n.b, pv, cv, .int .i64 n.a], .int .i64 q] w fun e w' => e = .returned (.bool (rgtB n q)) ∧ Below w.heap.size w w' := by
  obtain ⟨nb, P, C, na⟩ := n
  simp only at hp hc ⊢
  obtain ⟨po, pc, rfl, hlp, _⟩ := hp.form
  obtain ⟨co, cc, rfl, hlc, _⟩ := hc.form
  obtain ⟨w0, hw0⟩ : ∃ w0, w0 = (w.alloc (Obj.cells #[.int .i64 nb, .slice po P.length pc, .slice co C.length cc, .int .i64 na] 41)).alloc (Obj.cells #[.int .i64 nb, .slice po P.length pc, .slice co C.length cc] 39) := ⟨_, rfl⟩
  have HW0 : Hid (w0 = (w.alloc (Obj.cells #[.int .i64 nb, .slice po P.length pc, .slice co C.length cc, .int .i64 na] 41)).alloc (Obj.cells #[.int .i64 nb, .slice po P.length pc, .slice co C.length cc] 39)) := hw0
  have HB0 : Hid (Below w.heap.size w w0) := by show Below _ _ _; rw [hw0]; exact below_trans (below_alloc _ _) (below_alloc _ _)
  have HN0 : Hid (w0.heap[w.heap.size]? = some (.cells #[.int .i64 nb, .slice po P.length pc, .slice co C.length cc, .int .i64 na] 41 (0, 0))) := by show _ = _; rw [hw0]; exact alloc_old (alloc_at rfl)
  have HT0 : Hid (w0.heap[w.heap.size + 1]? = some (.cells #[.int .i64 nb, .slice po P.length pc, .slice co C.length cc] 39 (0, 0))) := by show _ = _; rw [hw0]; exact alloc_at (by simp)
  have HP : Hid (Nv w0 (.slice po P.length pc) P) := hp.below HB0.out
  have HC : Hid (Nv w0 (.slice co C.length cc) C) := hc.below HB0.out
  clear hp hc hw0
  go_enter Try.func47, Try.ntmps47
  go_upto_region 2 with fail
  rw [← HW0.out]
  have k0 : w0.cell? ⟨w.heap.size + 1, 0, none⟩ = some (.int .i64 nb) := by rw [blk_cell HT0.out]; rfl
  have k1 : w0.cell? ⟨w.heap.size + 1, 1, none⟩ = some (.slice po P.length pc) := by rw [blk_cell HT0.out]; rfl
  have k2 : w0.cell? ⟨w.heap.size + 1, 2, none⟩ = some (.slice co C.length cc) := by rw [blk_cell HT0.out]; rfl
  go_wp2_with fail
  refine (rright_walk (t := ⟨nb, P, C⟩) HP.out HC.out).mono ?_
  rintro e w1 ⟨rfl, hB1⟩
  have HB1 : Hid (Below w0.heap.size w0 w1) := hB1
  have HC1 : Hid (Nv w1 (.slice co C.length cc) C) := HC.out.below hB1
  have HE1 : Hid (Below w.heap.size w w1) := below_trans HB0.out hB1
  have m0 : w1.cell? ⟨w.heap.size + 1, 0, none⟩ = some (.int .i64 nb) := by rw [blk_cell (blk_below HT0.out hB1)]; rfl
  have m2 : w1.cell? ⟨w.heap.size + 1, 2, none⟩ = some (.slice co C.length cc) := by rw [blk_cell (blk_below HT0.out hB1)]; rfl
  have m3 : w1.cell? ⟨w.heap.size, 3, none⟩ = some (.int .i64 na) := by rw [blk_cell (blk_below HN0.out hB1)]; rfl
  clear k0 k1 k2 hB1
  cases hr : rightB ⟨nb, P, C⟩
  · have HD : Hid (rgtB ⟨nb, P, C, na⟩ q = false) := Rgt.no fun h => by have h1 := h.r.yes; rw [show rightB (Nt.tp ⟨nb, P, C, na⟩) = rightB ⟨nb, P, C⟩ from rfl, hr] at h1; cases h1
    clear hr
    go_wp2_with fail
    go_ret
    exact ⟨by rw [HD.out]; rfl, HE1.out⟩
  have HRT : Hid (rightT ⟨nb, P, C⟩) := rightT.of hr
  clear hr
  by_cases hb1 : 1099511627776 < nb
  · have HD : Hid (rgtB ⟨nb, P, C, na⟩ q = false) := Rgt.no fun h => by have := h.b1; simp only at this; omega
    go_wp2_with fail
    go_ret
    exact ⟨by rw [HD.out]; rfl, HE1.out⟩
  by_cases hcl : (C.length : Int) = q
  rotate_left
  · have HD : Hid (rgtB ⟨nb, P, C, na⟩ q = false) := Rgt.no fun h => hcl h.lc
    have hne : ((C.length : Int) != q) = true := by simp [hcl]
    clear hcl
    go_wp2_with fail
    go_ret
    exact ⟨by rw [HD.out]; rfl, HE1.out⟩
  have hnc : ((C.length : Int) != q) = false := by simp [hcl]
  by_cases ha0 : na < 0
  · have HD : Hid (rgtB ⟨nb, P, C, na⟩ q = false) := Rgt.no fun h => by have := h.a0; simp only at this; omega
    clear hcl
    go_wp2_with fail
    go_ret
    exact ⟨by rw [HD.out]; rfl, HE1.out⟩
  by_cases ha1 : 1099511627776 < na
  · have HD : Hid (rgtB ⟨nb, P, C, na⟩ q = false) := Rgt.no fun h => by have := h.a1; simp only at this; omega
    clear hcl
    go_wp2_with fail
    go_ret
    exact ⟨by rw [HD.out]; rfl, HE1.out⟩
  have HOK : Hid ((∀ i, i < C.length → nth C i ≤ 256) → rgtB ⟨nb, P, C, na⟩ q = true) := fun h => Rgt.yes ⟨by simp only; omega, by simp only; omega, by simp only; omega, by have := HRT.out.2.1.1; simp only at this ⊢; omega, hcl, HRT.out, h⟩
  have HQ : Hid ((C.length : Int) = q) := hcl
  clear hcl
  go_wp2_with fail
  go_loopw [6] (fun iv wr => ∃ k : Nat, k ≤ C.length ∧ iv = .int .i64 k ∧ (∀ i, i < k → nth C i ≤ 256) ∧ wr = w1) (fun iv _ => C.length - (intOf iv).toNat)
  case atStart => exact ⟨0, Nat.zero_le _, rfl, fun i hi => by omega, (by first | rfl | trivial)⟩
  case round =>
    obtain ⟨k, hk, rfl, hall, hwr⟩ := hrel
    replace hwr := hwr.symm
    subst hwr
    have HALL : Hid (∀ i, i < k → nth C i ≤ 256) := hall
    clear hall
    by_cases hlt : k < C.length
    · obtain ⟨g, off, rfl, c0⟩ := HC1.out.at hlt
      obtain ⟨x, hx⟩ : ∃ x, x = nth C k := ⟨_, rfl⟩
      rw [← hx] at c0
      have HX : Hid (x = nth C k) := hx
      have hkq : (k : Int) < q := by have := HQ.out; omega
      have hlti : (k : Int) < (C.length : Int) := by omega
      clear hx
      by_cases hbig : 256 < x
      · have HD : Hid (rgtB ⟨nb, P, C, na⟩ q = false) := Rgt.no fun h => by have := h.f k hlt; simp only at this; rw [← HX.out] at this; omega
        go_wp2_with fail
        go_ret
        exact ⟨by rw [HD.out]; rfl, HE1.out⟩
      · have HLE : Hid (x ≤ 256) := by show _ ≤ _; omega
        go_wp2_with fail
        go_roundw
        case rel =>
          refine ⟨k + 1, by omega, by go_num, fun i hi => ?_, by first | rfl | trivial⟩
          by_cases hik : i = k
          · subst hik; rw [← HX.out]; exact HLE.out
          · exact HALL.out i (by omega)
        case measure => simp [intOf]; omega
    · have hkq : ¬ (k : Int) < q := by have := HQ.out; omega
      have HD := hidH (HOK.out fun i hi => HALL.out i (by omega))
      go_wp2_with fail
      go_ret
      exact ⟨by rw [HD.out]; rfl, HE1.out⟩
end

end Go.Proofs.Ytnnammlipfappaa


