/- Step: the program's and the reference's. -/
import Derived.Test.YtnnammlipfappaaSpNf

namespace Go.Proofs.Ytnnammlipfappaa

open Ieee Go.RowKit



section

variable {w : World} {pv cv tv : Value} {t : Tp} {tl : List Int}



/-- What Step answers. -/
def Ts (w : World) (t : Tp) (tl : List Int) (e : Ending) (w' : World) : Prop :=
  ∃ p' c', e = .returned (.tuple #[.agg #[.int .i64 (stepT t tl).b, p', c'], .int .i64 (stepI t tl)]) ∧ w'.ownsRow w.heap.size 3 1 p' (stepT t tl).p.length (cellsN (stepT t tl).p) ∧ w'.ownsRow w.heap.size 3 1 c' (stepT t tl).c.length (cellsN (stepT t tl).c) ∧ Below w.heap.size w w'


theorem ts_bad {w' : World} {c : Int} (h : stepI t tl = c) (hc : c ≠ 0) (hB : Below w.heap.size w w') : Ts w t tl (.returned (.tuple #[.agg #[.int .i64 0, .slice none 0 0, .slice none 0 0], .int .i64 c])) w' := by
  subst h
  have hT : stepT t tl = ⟨0, [], []⟩ := by unfold stepT; rw [if_neg hc]
  refine ⟨_, _, by rw [hT], ?_, ?_, hB⟩ <;> rw [hT] <;> exact World.ownsRow_nil _ _ _ _
/-- The triple handed in, in its block; the answer's block. -/
structure Tz (w : World) (tb : Int) (cv : Value) (wx : World) : Prop where
  below : Below w.heap.size w wx
  k0 : wx.cell? ⟨w.heap.size, 0, none⟩ = some (.int .i64 tb)
  k2 : wx.cell? ⟨w.heap.size, 2, none⟩ = some cv
  z : ∀ j, j < 3 → (∃ u, wx.cell? ⟨w.heap.size + 1, j, none⟩ = some u) ∧ wx.frozen? ⟨w.heap.size + 1, j, none⟩ = false
theorem Tz.go {tb : Int} {wx w' : World} (h : Tz w tb cv wx) (hb : Below wx.heap.size wx w') : Tz w tb cv w' := by
  refine ⟨below_trans h.below hb, by rw [hb.cell (p := ⟨w.heap.size, 0, none⟩) (cell_lt h.k0)]; exact h.k0, by rw [hb.cell (p := ⟨w.heap.size, 2, none⟩) (cell_lt h.k2)]; exact h.k2, fun j hj => ?_⟩
  obtain ⟨⟨u, h1⟩, h2⟩ := h.z j hj
  exact ⟨⟨u, by rw [hb.cell (p := ⟨w.heap.size + 1, j, none⟩) (cell_lt h1)]; exact h1⟩, by rw [hb.frozen (p := ⟨w.heap.size + 1, j, none⟩) (cell_lt h1)]; exact h2⟩
theorem grown_set3 (w : World) (g : Nat) (a b c : Value) : w.grownBy (((w.setCell ⟨g, 0, none⟩ a).setCell ⟨g, 1, none⟩ b).setCell ⟨g, 2, none⟩ c) (some g) := grown_trans (grown_trans (grown_set _ _ _ _) (grown_set _ _ _ _)) (grown_set _ _ _ _)
theorem Tz.set {tb : Int} {wx : World} (h : Tz w tb cv wx) (a b c : Value) : Tz w tb cv (((wx.setCell ⟨w.heap.size + 1, 0, none⟩ a).setCell ⟨w.heap.size + 1, 1, none⟩ b).setCell ⟨w.heap.size + 1, 2, none⟩ c) := by
  have hk : (((wx.setCell ⟨w.heap.size + 1, 0, none⟩ a).setCell ⟨w.heap.size + 1, 1, none⟩ b).setCell ⟨w.heap.size + 1, 2, none⟩ c).heap[w.heap.size]? = wx.heap[w.heap.size]? := (grown_set3 wx (w.heap.size + 1) a b c).block _ (cell_lt h.k0) (by simp)
  obtain ⟨⟨u0, z0⟩, f0⟩ := h.z 0 (by omega)
  obtain ⟨⟨u1, z1⟩, f1⟩ := h.z 1 (by omega)
  obtain ⟨⟨u2, z2⟩, f2⟩ := h.z 2 (by omega)
  refine ⟨((h.below.setCell (p := ⟨w.heap.size + 1, 0, none⟩) (by simp) _).setCell (p := ⟨w.heap.size + 1, 1, none⟩) (by simp) _).setCell (p := ⟨w.heap.size + 1, 2, none⟩) (by simp) _, ?_, ?_, fun j hj => ?_⟩
  · rw [World.cell?_of_block (w := wx) (a := ⟨w.heap.size, 0, none⟩) hk]; exact h.k0
  · rw [World.cell?_of_block (w := wx) (a := ⟨w.heap.size, 2, none⟩) hk]; exact h.k2
  · have hj3 : j = 0 ∨ j = 1 ∨ j = 2 := by omega
    rcases hj3 with rfl | rfl | rfl <;> constructor <;> simp [go_sem, z0, z1, z2, f0, f1, f2]
theorem ts_ok {tb : Int} {P C : List Int} {p' c' : Value} {w6 w' : World} (hI : stepI ⟨tb, P, C⟩ tl = 0) (hT : Tz w tb cv w6) (hp : w6.ownsRow w.heap.size 3 1 p' C.length (cellsN C)) (hc : w6.ownsRow w.heap.size 3 1 c' tl.length (cellsN tl))
    (np : ∀ x, p'.ownBlock = some x → x ≠ w.heap.size + 1) (nc : ∀ x, c'.ownBlock = some x → x ≠ w.heap.size + 1) (hg : w6.grownBy w' (some (w.heap.size + 1))) : Ts w ⟨tb, P, C⟩ tl (.returned (.tuple #[.agg #[.int .i64 (tb + 1), p', c'], .int .i64 0])) w' := by
  have hS : stepT ⟨tb, P, C⟩ tl = ⟨tb + 1, C, tl⟩ := by unfold stepT; rw [if_pos hI]
  have hk : ∀ x, x < w6.heap.size → x ≠ w.heap.size + 1 → w'.heap[x]? = w6.heap[x]? := fun x hx hn => hg.block x hx (fun e => hn (by simpa using e))
  refine ⟨p', c', by rw [hS, hI], ?_, ?_, ?_⟩
  · rw [hS]; exact row_keep hp (fun x hx => hk x (hp.lt x hx).2 (np x hx))
  · rw [hS]; exact row_keep hc (fun x hx => hk x (hc.lt x hx).2 (nc x hx))
  · exact hT.below.grown hg hT.below.size (fun x hx => by cases hx; omega)


set_option maxRecDepth 100000 in
set_option maxHeartbeats 4000000 in
theorem step_walk (hp : Nv w pv t.p) (hc : Nv w cv t.c) (ht : Nv w tv tl) (hcl : t.c.length * 8 ≤ 140737488355328) (htl : tl.length * 8 ≤ 140737488355328) (hb : -9223372036854775808 ≤ t.b ∧ t.b < 9223372036854775808) :
    Calls Try.prog 66 #[.agg #[.int .i64 t.b, pv, cv], tv] w fun e w' => Ts w t tl e w' := by
  obtain ⟨tb, P, C⟩ := t
  simp only at hp hc hcl hb ⊢
  obtain ⟨hb0, hb1⟩ := hb
  obtain ⟨w0, hw0⟩ : ∃ w0, w0 = (w.alloc (Obj.cells #[.int .i64 tb, pv, cv] 39)).alloc (Obj.cells #[.int .i64 0, .slice none 0 0, .slice none 0 0] 39) := ⟨_, rfl⟩
  have HB0 : Hid (Below w.heap.size w w0) := by show Below _ _ _; rw [hw0]; exact below_trans (below_alloc _ _) (below_alloc _ _)
  have HP : Hid (Nv w0 pv P) := hp.below HB0.out
  have HC : Hid (Nv w0 cv C) := hc.below HB0.out
  have HT : Hid (Nv w0 tv tl) := ht.below HB0.out
  have HCW : Hid (Nv w cv C) := hc
  have HTW : Hid (Nv w tv tl) := ht
  obtain ⟨po, pc, rfl, hlp, _⟩ := hp.form
  obtain ⟨co, cc, rfl, hlc, _⟩ := hc.form
  obtain ⟨tq, tc, rfl, hlt, _⟩ := ht.form
  have HCL : Hid (C.length * 8 ≤ 140737488355328) := hcl
  have HTL : Hid (tl.length * 8 ≤ 140737488355328) := htl
  have HW0 : Hid (w0 = (w.alloc (Obj.cells #[.int .i64 tb, .slice po P.length pc, .slice co C.length cc] 39)).alloc (Obj.cells #[.int .i64 0, .slice none 0 0, .slice none 0 0] 39)) := hw0
  have HTZ : Hid (Tz w tb (.slice co C.length cc) w0) := by
    refine ⟨HB0.out, ?_, ?_, fun j hj => ?_⟩
    · rw [hw0]; simp [go_sem]
    · rw [hw0]; simp [go_sem]
    · have hj3 : j = 0 ∨ j = 1 ∨ j = 2 := by omega
      rcases hj3 with rfl | rfl | rfl <;> (rw [hw0]; constructor <;> simp [go_sem])
  clear hp hc ht hw0 hcl htl
  by_cases hr : rightT ⟨tb, P, C⟩
  · have HRD : Hid (rightB ⟨tb, P, C⟩ = true) := rightT.yes hr
    by_cases hf : Fwd C tl
    · have HFD : Hid (fwdB C tl = true) := Fwd.yes hf
      by_cases h40 : 1099511627776 ≤ tb
      · have HI : Hid (stepI ⟨tb, P, C⟩ tl = 1) := by show _ = _; unfold stepI; rw [if_pos (step_yes hr hf), if_pos h40]
        clear hr hf
        go_enter Try.func66, Try.ntmps66
        go_wp2_with fail
        rw [← HW0.out]
        refine (right_walk (t := ⟨tb, P, C⟩) HP.out HC.out).mono ?_
        rw [HRD.out]
        rintro e w1 ⟨rfl, hB1⟩
        have HW1 : Hid (Below w0.heap.size w0 w1) := hB1
        have HZ1 : Hid (Tz w tb (.slice co C.length cc) w1) := HTZ.out.go hB1
        clear hB1
        have y2 := HZ1.out.k2
        go_wp2_with fail
        refine (fwd_walk (HC.out.below HW1.out) (HT.out.below HW1.out)).mono ?_
        rw [HFD.out]
        rintro e w2 ⟨rfl, hB2⟩
        have HZ2 : Hid (Tz w tb (.slice co C.length cc) w2) := HZ1.out.go hB2
        clear hB2 y2
        have y0 := HZ2.out.k0
        obtain ⟨⟨u0, z0⟩, f0⟩ := HZ2.out.z 0 (by omega)
        obtain ⟨⟨u1, z1⟩, f1⟩ := HZ2.out.z 1 (by omega)
        obtain ⟨⟨u2, z2⟩, f2⟩ := HZ2.out.z 2 (by omega)
        go_wp2_with fail
        (try simp only [Exit.inBlock, Exit.then])
        refine bodyPost_ret (v := .tuple #[.agg #[.int .i64 0, .slice none 0 0, .slice none 0 0], .int .i64 1]) (by rw [results_cell_tmp rfl]; go_simp) rfl ?_
        exact ts_bad HI.out (by omega) (((HZ2.out.below.setCell (p := ⟨w.heap.size + 1, 0, none⟩) (by simp) _).setCell (p := ⟨w.heap.size + 1, 1, none⟩) (by simp) _).setCell (p := ⟨w.heap.size + 1, 2, none⟩) (by simp) _)
      · have HI : Hid (stepI ⟨tb, P, C⟩ tl = 0) := by show _ = _; unfold stepI; rw [if_pos (step_yes hr hf), if_neg h40]
        have htb0 : 0 ≤ tb := hr.1
        have r1 : IntKind.i64.wrap (tb + 1) = tb + 1 := wrapU (by omega) (by omega)
        clear hr hf
        go_enter Try.func66, Try.ntmps66
        go_wp2_with fail
        rw [← HW0.out]
        refine (right_walk (t := ⟨tb, P, C⟩) HP.out HC.out).mono ?_
        rw [HRD.out]
        rintro e w1 ⟨rfl, hB1⟩
        have HW1 : Hid (Below w0.heap.size w0 w1) := hB1
        have HZ1 : Hid (Tz w tb (.slice co C.length cc) w1) := HTZ.out.go hB1
        clear hB1
        have y2 := HZ1.out.k2
        go_wp2_with fail
        refine (fwd_walk (HC.out.below HW1.out) (HT.out.below HW1.out)).mono ?_
        rw [HFD.out]
        rintro e w2 ⟨rfl, hB2⟩
        have HZ2 : Hid (Tz w tb (.slice co C.length cc) w2) := HZ1.out.go hB2
        clear hB2 y2
        have j0 : ∀ wx, Tz w tb (.slice co C.length cc) wx → wx.cell? ⟨w.heap.size, 0, none⟩ = some (.int .i64 tb) := fun wx h => h.k0
        have j2 : ∀ wx, Tz w tb (.slice co C.length cc) wx → wx.cell? ⟨w.heap.size, 2, none⟩ = some (.slice co C.length cc) := fun wx h => h.k2
        have y0 := HZ2.out.k0
        have hSd : Tz w tb (.slice co C.length cc) w2.drew := HZ2.out.go (below_drewN _ _)
        have HZB : Hid (w.heap.size + 1 < w2.heap.size) := by obtain ⟨⟨u0, z0⟩, f0⟩ := HZ2.out.z 0 (by omega); exact cell_lt z0
        have HZN : Hid (w.heap.size ≤ w2.heap.size) := HZ2.out.below.size
        go_wp2_with fail
        clear y0
        go_region_held3 (fun wx => Tz w tb (.slice co C.length cc) wx) (first | assumption | exact Tz.set (by assumption) _ _ _)
          (first
            | (go_at_call 70; refine (cloneN_walk (v := .slice co C.length cc) (l := C) (HCW.out.below (Tz.below (by assumption))) HCL.out).mono ?_; rintro e wP ⟨p', rfl, hoP, hBP⟩; obtain ⟨qo, qc, hqv, _⟩ := row_form hoP; subst hqv; have hSP : Tz w tb (.slice co C.length cc) wP := Tz.go (by assumption) hBP; obtain ⟨⟨u0, z0⟩, f0⟩ := hSP.z 0 (by omega); obtain ⟨⟨u1, z1⟩, f1⟩ := hSP.z 1 (by omega); obtain ⟨⟨u2, z2⟩, f2⟩ := hSP.z 2 (by omega))
            | (go_at_call 70; refine (cloneN_walk (v := .slice tq tl.length tc) (l := tl) (HTW.out.below (Tz.below (by assumption))) HTL.out).mono ?_; rintro e wC ⟨c', rfl, hoC, hBC⟩; obtain ⟨so, sc, hsv, _⟩ := row_form hoC; subst hsv; have hSC : Tz w tb (.slice co C.length cc) wC := Tz.go (by assumption) hBC; obtain ⟨⟨u0, z0⟩, f0⟩ := hSC.z 0 (by omega); obtain ⟨⟨u1, z1⟩, f1⟩ := hSC.z 1 (by omega); obtain ⟨⟨u2, z2⟩, f2⟩ := hSC.z 2 (by omega)))
        all_goals go_wp2_with fail
        all_goals (try simp only [Exit.inBlock, Exit.then])
        all_goals refine bodyPost_ret (v := .tuple #[.agg #[.int .i64 (tb + 1), .slice qo C.length qc, .slice so tl.length sc], .int .i64 0]) (by rw [results_cell_tmp rfl]; go_simp) rfl ?_
        all_goals first
          | exact ts_ok HI.out hSC (own_below (row_base hoP (fun x hx => Nat.le_trans HZN.out (hoP.lt x hx).1)) hBC) (row_base hoC (fun x hx => Nat.le_trans (Nat.le_trans HZN.out hBP.size) (hoC.lt x hx).1)) (fun x hx e => by have h1 := (hoP.lt x hx).1; have h2 := HZB.out; simp at h1; omega) (fun x hx e => by have h1 := (hoC.lt x hx).1; have h2 := HZB.out; have h3 := hBP.size; simp at h1 h3; omega) (grown_set3 _ _ _ _ _)
          | exact ts_ok HI.out hSP (row_base hoP (fun x hx => Nat.le_trans (Nat.le_trans HZN.out hBC.size) (hoP.lt x hx).1)) (own_below (row_base hoC (fun x hx => Nat.le_trans HZN.out (hoC.lt x hx).1)) hBP) (fun x hx e => by have h1 := (hoP.lt x hx).1; have h2 := HZB.out; have h3 := hBC.size; simp at h1 h3; omega) (fun x hx e => by have h1 := (hoC.lt x hx).1; have h2 := HZB.out; simp at h1; omega) (grown_set3 _ _ _ _ _)
    · have HFD : Hid (fwdB C tl = false) := Fwd.no hf
      have HI : Hid (stepI ⟨tb, P, C⟩ tl = 70) := by show _ = _; unfold stepI; rw [if_neg (fun h => hf (step_of h).2)]
      clear hr hf
      go_enter Try.func66, Try.ntmps66
      go_wp2_with fail
      rw [← HW0.out]
      refine (right_walk (t := ⟨tb, P, C⟩) HP.out HC.out).mono ?_
      rw [HRD.out]
      rintro e w1 ⟨rfl, hB1⟩
      have HW1 : Hid (Below w0.heap.size w0 w1) := hB1
      have HZ1 : Hid (Tz w tb (.slice co C.length cc) w1) := HTZ.out.go hB1
      clear hB1
      have y2 := HZ1.out.k2
      go_wp2_with fail
      refine (fwd_walk (HC.out.below HW1.out) (HT.out.below HW1.out)).mono ?_
      rw [HFD.out]
      rintro e w2 ⟨rfl, hB2⟩
      have HZ2 : Hid (Tz w tb (.slice co C.length cc) w2) := HZ1.out.go hB2
      clear hB2 y2
      obtain ⟨⟨u0, z0⟩, f0⟩ := HZ2.out.z 0 (by omega)
      obtain ⟨⟨u1, z1⟩, f1⟩ := HZ2.out.z 1 (by omega)
      obtain ⟨⟨u2, z2⟩, f2⟩ := HZ2.out.z 2 (by omega)
      go_wp2_with fail
      (try simp only [Exit.inBlock, Exit.then])
      refine bodyPost_ret (v := .tuple #[.agg #[.int .i64 0, .slice none 0 0, .slice none 0 0], .int .i64 70]) (by rw [results_cell_tmp rfl]; go_simp) rfl ?_
      exact ts_bad HI.out (by omega) (((HZ2.out.below.setCell (p := ⟨w.heap.size + 1, 0, none⟩) (by simp) _).setCell (p := ⟨w.heap.size + 1, 1, none⟩) (by simp) _).setCell (p := ⟨w.heap.size + 1, 2, none⟩) (by simp) _)
  · have HRD : Hid (rightB ⟨tb, P, C⟩ = false) := rightT.no hr
    have HI : Hid (stepI ⟨tb, P, C⟩ tl = 70) := by show _ = _; unfold stepI; rw [if_neg (fun h => hr (step_of h).1)]
    clear hr
    go_enter Try.func66, Try.ntmps66
    go_wp2_with fail
    rw [← HW0.out]
    refine (right_walk (t := ⟨tb, P, C⟩) HP.out HC.out).mono ?_
    rw [HRD.out]
    rintro e w1 ⟨rfl, hB1⟩
    have HW1 : Hid (Below w0.heap.size w0 w1) := hB1
    have HZ1 : Hid (Tz w tb (.slice co C.length cc) w1) := HTZ.out.go hB1
    clear hB1
    obtain ⟨⟨u0, z0⟩, f0⟩ := HZ1.out.z 0 (by omega)
    obtain ⟨⟨u1, z1⟩, f1⟩ := HZ1.out.z 1 (by omega)
    obtain ⟨⟨u2, z2⟩, f2⟩ := HZ1.out.z 2 (by omega)
    go_wp2_with fail
    (try simp only [Exit.inBlock, Exit.then])
    refine bodyPost_ret (v := .tuple #[.agg #[.int .i64 0, .slice none 0 0, .slice none 0 0], .int .i64 70]) (by rw [results_cell_tmp rfl]; go_simp) rfl ?_
    exact ts_bad HI.out (by omega) (((HZ1.out.below.setCell (p := ⟨w.heap.size + 1, 0, none⟩) (by simp) _).setCell (p := ⟨w.heap.size + 1, 1, none⟩) (by simp) _).setCell (p := ⟨w.heap.size + 1, 2, none⟩) (by simp) _)




end

end Go.Proofs.Ytnnammlipfappaa


