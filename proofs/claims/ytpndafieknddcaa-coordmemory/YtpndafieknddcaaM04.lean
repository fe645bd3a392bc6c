/- SpNg Wo Wr Wk QJa -/
import Derived.Test.YtpndafieknddcaaM03
import Derived.Test.YtpndafieknddcaaM02
import Derived.Test.YtpndafieknddcaaWt
import Derived.Lib.Hide
namespace Go.Proofs.Ytpndafieknddcaa

open Ieee Go.RowKit



section

variable {w : World} {pv cv tv : Value} {t : Tp} {tl : List Int}



/-- What Step answers. -/
def Ts (w : World) (t : Tp) (tl : List Int) (e : Ending) (w' : World) : Prop :=
  ∃ p' c', e = .returned (.tuple #[.agg #[.int .i64 (stepT t tl).b, p', c'], .int .i64 (stepI t tl)]) ∧ w'.ownsRow w.heap.size 3 1 p' (stepT t tl).p.length (cellsN (stepT t tl).p) ∧ w'.ownsRow w.heap.size 3 1 c' (stepT t tl).c.length (cellsN (stepT t tl).c) ∧ Below w.heap.size w w'


theorem ts_bad {w' : World} {c : Int} (h : stepI t tl = c) (hc : c ≠ 0) (hB : Below w.heap.size w w') : Ts w t tl (.returned (.tuple #[.agg #[.int .i64 0, .slice none 0 0, .slice none 0 0], .int .i64 c])) w' := by
  subst h
  have hT : stepT t tl = ⟨0, [], []⟩ := by unfold stepT; rw [if_neg hc]
  refine ⟨_, _, by rw [hT], ?_, ?_, hB⟩ <;> rw [hT] <;> exact World.ownsRow_nil _ _ _ _
/-- The triple handed in, in its block; the answer's block. -/
structure Tz (w : World) (tb : Int) (cv : Value) (wx : World) : Prop where
  below : Below w.heap.size w wx
  k0 : wx.cell? ⟨w.heap.size, 0, none⟩ = some (.int .i64 tb)
  k2 : wx.cell? ⟨w.heap.size, 2, none⟩ = some cv
  z : ∀ j, j < 3 → (∃ u, wx.cell? ⟨w.heap.size + 1, j, none⟩ = some u) ∧ wx.frozen? ⟨w.heap.size + 1, j, none⟩ = false
theorem Tz.go {tb : Int} {wx w' : World} (h : Tz w tb cv wx) (hb : Below wx.heap.size wx w') : Tz w tb cv w' := by
  refine ⟨below_trans h.below hb, by rw [hb.cell (p := ⟨w.heap.size, 0, none⟩) (cell_lt h.k0)]; exact h.k0, by rw [hb.cell (p := ⟨w.heap.size, 2, none⟩) (cell_lt h.k2)]; exact h.k2, fun j hj => ?_⟩
  obtain ⟨⟨u, h1⟩, h2⟩ := h.z j hj
  exact ⟨⟨u, by rw [hb.cell (p := ⟨w.heap.size + 1, j, none⟩) (cell_lt h1)]; exact h1⟩, by rw [hb.frozen (p := ⟨w.heap.size + 1, j, none⟩) (cell_lt h1)]; exact h2⟩
theorem grown_set3 (w : World) (g : Nat) (a b c : Value) : w.grownBy (((w.setCell ⟨g, 0, none⟩ a).setCell ⟨g, 1, none⟩ b).setCell ⟨g, 2, none⟩ c) (some g) := grown_trans (grown_trans (grown_set _ _ _ _) (grown_set _ _ _ _)) (grown_set _ _ _ _)
theorem Tz.set {tb : Int} {wx : World} (h : Tz w tb cv wx) (a b c : Value) : Tz w tb cv (((wx.setCell ⟨w.heap.size + 1, 0, none⟩ a).setCell ⟨w.heap.size + 1, 1, none⟩ b).setCell ⟨w.heap.size + 1, 2, none⟩ c) := by
  have hk : (((wx.setCell ⟨w.heap.size + 1, 0, none⟩ a).setCell ⟨w.heap.size + 1, 1, none⟩ b).setCell ⟨w.heap.size + 1, 2, none⟩ c).heap[w.heap.size]? = wx.heap[w.heap.size]? := (grown_set3 wx (w.heap.size + 1) a b c).block _ (cell_lt h.k0) (by simp)
  obtain ⟨⟨u0, z0⟩, f0⟩ := h.z 0 (by omega)
  obtain ⟨⟨u1, z1⟩, f1⟩ := h.z 1 (by omega)
  obtain ⟨⟨u2, z2⟩, f2⟩ := h.z 2 (by omega)
  refine ⟨((h.below.setCell (p := ⟨w.heap.size + 1, 0, none⟩) (by simp) _).setCell (p := ⟨w.heap.size + 1, 1, none⟩) (by simp) _).setCell (p := ⟨w.heap.size + 1, 2, none⟩) (by simp) _, ?_, ?_, fun j hj => ?_⟩
  · rw [World.cell?_of_block (w := wx) (a := ⟨w.heap.size, 0, none⟩) hk]; exact h.k0
  · rw [World.cell?_of_block (w := wx) (a := ⟨w.heap.size, 2, none⟩) hk]; exact h.k2
  · have hj3 : j = 0 ∨ j = 1 ∨ j = 2 := by omega
    rcases hj3 with rfl | rfl | rfl <;> constructor <;> simp [go_sem, z0, z1, z2, f0, f1, f2]
theorem ts_ok {tb : Int} {P C : List Int} {p' c' : Value} {w6 w' : World} (hI : stepI ⟨tb, P, C⟩ tl = 0) (hT : Tz w tb cv w6) (hp : w6.ownsRow w.heap.size 3 1 p' C.length (cellsN C)) (hc : w6.ownsRow w.heap.size 3 1 c' tl.length (cellsN tl))
    (np : ∀ x, p'.ownBlock = some x → x ≠ w.heap.size + 1) (nc : ∀ x, c'.ownBlock = some x → x ≠ w.heap.size + 1) (hg : w6.grownBy w' (some (w.heap.size + 1))) : Ts w ⟨tb, P, C⟩ tl (.returned (.tuple #[.agg #[.int .i64 (tb + 1), p', c'], .int .i64 0])) w' := by
  have hS : stepT ⟨tb, P, C⟩ tl = ⟨tb + 1, C, tl⟩ := by unfold stepT; rw [if_pos hI]
  have hk : ∀ x, x < w6.heap.size → x ≠ w.heap.size + 1 → w'.heap[x]? = w6.heap[x]? := fun x hx hn => hg.block x hx (fun e => hn (by simpa using e))
  refine ⟨p', c', by rw [hS, hI], ?_, ?_, ?_⟩
  · rw [hS]; exact row_keep hp (fun x hx => hk x (hp.lt x hx).2 (np x hx))
  · rw [hS]; exact row_keep hc (fun x hx => hk x (hc.lt x hx).2 (nc x hx))
  · exact hT.below.grown hg hT.below.size (fun x hx => by cases hx; omega)


set_option maxRecDepth 100000 in
set_option maxHeartbeats 4000000 in
theorem step_walk (hp : Nv w pv t.p) (hc : Nv w cv t.c) (ht : Nv w tv tl) (hcl : t.c.length * 8 ≤ 140737488355328) (htl : tl.length * 8 ≤ 140737488355328) (hb : -9223372036854775808 ≤ t.b ∧ t.b < 9223372036854775808) :
    Calls Try.prog 65 #[.agg #[.int .i64 t.b, pv, cv], tv] w fun e w' => Ts w t tl e w' := by
  obtain ⟨tb, P, C⟩ := t
  simp only at hp hc hcl hb ⊢
  obtain ⟨hb0, hb1⟩ := hb
  obtain ⟨w0, hw0⟩ : ∃ w0, w0 = (w.alloc (Obj.cells #[.int .i64 tb, pv, cv] 51)).alloc (Obj.cells #[.int .i64 0, .slice none 0 0, .slice none 0 0] 51) := ⟨_, rfl⟩
  have HB0 : Hid (Below w.heap.size w w0) := by show Below _ _ _; rw [hw0]; exact below_trans (below_alloc _ _) (below_alloc _ _)
  have HP : Hid (Nv w0 pv P) := hp.below HB0.out
  have HC : Hid (Nv w0 cv C) := hc.below HB0.out
  have HT : Hid (Nv w0 tv tl) := ht.below HB0.out
  have HCW : Hid (Nv w cv C) := hc
  have HTW : Hid (Nv w tv tl) := ht
  obtain ⟨po, pc, rfl, hlp, _⟩ := hp.form
  obtain ⟨co, cc, rfl, hlc, _⟩ := hc.form
  obtain ⟨tq, tc, rfl, hlt, _⟩ := ht.form
  have HCL : Hid (C.length * 8 ≤ 140737488355328) := hcl
  have HTL : Hid (tl.length * 8 ≤ 140737488355328) := htl
  have HW0 : Hid (w0 = (w.alloc (Obj.cells #[.int .i64 tb, .slice po P.length pc, .slice co C.length cc] 51)).alloc (Obj.cells #[.int .i64 0, .slice none 0 0, .slice none 0 0] 51)) := hw0
  have HTZ : Hid (Tz w tb (.slice co C.length cc) w0) := by
    refine ⟨HB0.out, ?_, ?_, fun j hj => ?_⟩
    · rw [hw0]; simp [go_sem]
    · rw [hw0]; simp [go_sem]
    · have hj3 : j = 0 ∨ j = 1 ∨ j = 2 := by omega
      rcases hj3 with rfl | rfl | rfl <;> (rw [hw0]; constructor <;> simp [go_sem])
  clear hp hc ht hw0 hcl htl
  by_cases hr : rightT ⟨tb, P, C⟩
  · have HRD : Hid (rightB ⟨tb, P, C⟩ = true) := rightT.yes hr
    by_cases hf : Fwd C tl
    · have HFD : Hid (fwdB C tl = true) := Fwd.yes hf
      by_cases h40 : 1099511627776 ≤ tb
      · have HI : Hid (stepI ⟨tb, P, C⟩ tl = 1) := by show _ = _; unfold stepI; rw [if_pos (step_yes hr hf), if_pos h40]
        clear hr hf
        go_enter Try.func65, Try.ntmps65
        go_wp2_with fail
        rw [← HW0.out]
        refine (right_walk (t := ⟨tb, P, C⟩) HP.out HC.out).mono ?_
        rw [HRD.out]
        rintro e w1 ⟨rfl, hB1⟩
        have HW1 : Hid (Below w0.heap.size w0 w1) := hB1
        have HZ1 : Hid (Tz w tb (.slice co C.length cc) w1) := HTZ.out.go hB1
        clear hB1
        have y2 := HZ1.out.k2
        go_wp2_with fail
        refine (fwd_walk (HC.out.below HW1.out) (HT.out.below HW1.out)).mono ?_
        rw [HFD.out]
        rintro e w2 ⟨rfl, hB2⟩
        have HZ2 : Hid (Tz w tb (.slice co C.length cc) w2) := HZ1.out.go hB2
        clear hB2 y2
        have y0 := HZ2.out.k0
        obtain ⟨⟨u0, z0⟩, f0⟩ := HZ2.out.z 0 (by omega)
        obtain ⟨⟨u1, z1⟩, f1⟩ := HZ2.out.z 1 (by omega)
        obtain ⟨⟨u2, z2⟩, f2⟩ := HZ2.out.z 2 (by omega)
        go_wp2_with fail
        (try simp only [Exit.inBlock, Exit.then])
        refine bodyPost_ret (v := .tuple #[.agg #[.int .i64 0, .slice none 0 0, .slice none 0 0], .int .i64 1]) (by rw [results_cell_tmp rfl]; go_simp) rfl ?_
        exact ts_bad HI.out (by omega) (((HZ2.out.below.setCell (p := ⟨w.heap.size + 1, 0, none⟩) (by simp) _).setCell (p := ⟨w.heap.size + 1, 1, none⟩) (by simp) _).setCell (p := ⟨w.heap.size + 1, 2, none⟩) (by simp) _)
      · have HI : Hid (stepI ⟨tb, P, C⟩ tl = 0) := by show _ = _; unfold stepI; rw [if_pos (step_yes hr hf), if_neg h40]
        have htb0 : 0 ≤ tb := hr.1
        have r1 : IntKind.i64.wrap (tb + 1) = tb + 1 := wrapU (by omega) (by omega)
        clear hr hf
        go_enter Try.func65, Try.ntmps65
        go_wp2_with fail
        rw [← HW0.out]
        refine (right_walk (t := ⟨tb, P, C⟩) HP.out HC.out).mono ?_
        rw [HRD.out]
        rintro e w1 ⟨rfl, hB1⟩
        have HW1 : Hid (Below w0.heap.size w0 w1) := hB1
        have HZ1 : Hid (Tz w tb (.slice co C.length cc) w1) := HTZ.out.go hB1
        clear hB1
        have y2 := HZ1.out.k2
        go_wp2_with fail
        refine (fwd_walk (HC.out.below HW1.out) (HT.out.below HW1.out)).mono ?_
        rw [HFD.out]
        rintro e w2 ⟨rfl, hB2⟩
        have HZ2 : Hid (Tz w tb (.slice co C.length cc) w2) := HZ1.out.go hB2
        clear hB2 y2
        have j0 : ∀ wx, Tz w tb (.slice co C.length cc) wx → wx.cell? ⟨w.heap.size, 0, none⟩ = some (.int .i64 tb) := fun wx h => h.k0
        have j2 : ∀ wx, Tz w tb (.slice co C.length cc) wx → wx.cell? ⟨w.heap.size, 2, none⟩ = some (.slice co C.length cc) := fun wx h => h.k2
        have y0 := HZ2.out.k0
        have hSd : Tz w tb (.slice co C.length cc) w2.drew := HZ2.out.go (below_drewN _ _)
        have HZB : Hid (w.heap.size + 1 < w2.heap.size) := by obtain ⟨⟨u0, z0⟩, f0⟩ := HZ2.out.z 0 (by omega); exact cell_lt z0
        have HZN : Hid (w.heap.size ≤ w2.heap.size) := HZ2.out.below.size
        go_wp2_with fail
        clear y0
        go_region_held3 (fun wx => Tz w tb (.slice co C.length cc) wx) (first | assumption | exact Tz.set (by assumption) _ _ _)
          (first
            | (go_at_call 31; refine (cloneN_walk (v := .slice co C.length cc) (l := C) (HCW.out.below (Tz.below (by assumption))) HCL.out).mono ?_; rintro e wP ⟨p', rfl, hoP, hBP⟩; obtain ⟨qo, qc, hqv, _⟩ := row_form hoP; subst hqv; have hSP : Tz w tb (.slice co C.length cc) wP := Tz.go (by assumption) hBP; obtain ⟨⟨u0, z0⟩, f0⟩ := hSP.z 0 (by omega); obtain ⟨⟨u1, z1⟩, f1⟩ := hSP.z 1 (by omega); obtain ⟨⟨u2, z2⟩, f2⟩ := hSP.z 2 (by omega))
            | (go_at_call 31; refine (cloneN_walk (v := .slice tq tl.length tc) (l := tl) (HTW.out.below (Tz.below (by assumption))) HTL.out).mono ?_; rintro e wC ⟨c', rfl, hoC, hBC⟩; obtain ⟨so, sc, hsv, _⟩ := row_form hoC; subst hsv; have hSC : Tz w tb (.slice co C.length cc) wC := Tz.go (by assumption) hBC; obtain ⟨⟨u0, z0⟩, f0⟩ := hSC.z 0 (by omega); obtain ⟨⟨u1, z1⟩, f1⟩ := hSC.z 1 (by omega); obtain ⟨⟨u2, z2⟩, f2⟩ := hSC.z 2 (by omega)))
        all_goals go_wp2_with fail
        all_goals (try simp only [Exit.inBlock, Exit.then])
        all_goals refine bodyPost_ret (v := .tuple #[.agg #[.int .i64 (tb + 1), .slice qo C.length qc, .slice so tl.length sc], .int .i64 0]) (by rw [results_cell_tmp rfl]; go_simp) rfl ?_
        all_goals first
          | exact ts_ok HI.out hSC (own_below (row_base hoP (fun x hx => Nat.le_trans HZN.out (hoP.lt x hx).1)) hBC) (row_base hoC (fun x hx => Nat.le_trans (Nat.le_trans HZN.out hBP.size) (hoC.lt x hx).1)) (fun x hx e => by have h1 := (hoP.lt x hx).1; have h2 := HZB.out; simp at h1; omega) (fun x hx e => by have h1 := (hoC.lt x hx).1; have h2 := HZB.out; have h3 := hBP.size; simp at h1 h3; omega) (grown_set3 _ _ _ _ _)
          | exact ts_ok HI.out hSP (row_base hoP (fun x hx => Nat.le_trans (Nat.le_trans HZN.out hBC.size) (hoP.lt x hx).1)) (own_below (row_base hoC (fun x hx => Nat.le_trans HZN.out (hoC.lt x hx).1)) hBP) (fun x hx e => by have h1 := (hoP.lt x hx).1; have h2 := HZB.out; have h3 := hBC.size; simp at h1 h3; omega) (fun x hx e => by have h1 := (hoC.lt x hx).1; have h2 := HZB.out; simp at h1; omega) (grown_set3 _ _ _ _ _)
    · have HFD : Hid (fwdB C tl = false) := Fwd.no hf
      have HI : Hid (stepI ⟨tb, P, C⟩ tl = 70) := by show _ = _; unfold stepI; rw [if_neg (fun h => hf (step_of h).2)]
      clear hr hf
      go_enter Try.func65, Try.ntmps65
      go_wp2_with fail
      rw [← HW0.out]
      refine (right_walk (t := ⟨tb, P, C⟩) HP.out HC.out).mono ?_
      rw [HRD.out]
      rintro e w1 ⟨rfl, hB1⟩
      have HW1 : Hid (Below w0.heap.size w0 w1) := hB1
      have HZ1 : Hid (Tz w tb (.slice co C.length cc) w1) := HTZ.out.go hB1
      clear hB1
      have y2 := HZ1.out.k2
      go_wp2_with fail
      refine (fwd_walk (HC.out.below HW1.out) (HT.out.below HW1.out)).mono ?_
      rw [HFD.out]
      rintro e w2 ⟨rfl, hB2⟩
      have HZ2 : Hid (Tz w tb (.slice co C.length cc) w2) := HZ1.out.go hB2
      clear hB2 y2
      obtain ⟨⟨u0, z0⟩, f0⟩ := HZ2.out.z 0 (by omega)
      obtain ⟨⟨u1, z1⟩, f1⟩ := HZ2.out.z 1 (by omega)
      obtain ⟨⟨u2, z2⟩, f2⟩ := HZ2.out.z 2 (by omega)
      go_wp2_with fail
      (try simp only [Exit.inBlock, Exit.then])
      refine bodyPost_ret (v := .tuple #[.agg #[.int .i64 0, .slice none 0 0, .slice none 0 0], .int .i64 70]) (by rw [results_cell_tmp rfl]; go_simp) rfl ?_
      exact ts_bad HI.out (by omega) (((HZ2.out.below.setCell (p := ⟨w.heap.size + 1, 0, none⟩) (by simp) _).setCell (p := ⟨w.heap.size + 1, 1, none⟩) (by simp) _).setCell (p := ⟨w.heap.size + 1, 2, none⟩) (by simp) _)
  · have HRD : Hid (rightB ⟨tb, P, C⟩ = false) := rightT.no hr
    have HI : Hid (stepI ⟨tb, P, C⟩ tl = 70) := by show _ = _; unfold stepI; rw [if_neg (fun h => hr (step_of h).1)]
    clear hr
    go_enter Try.func65, Try.ntmps65
    go_wp2_with fail
    rw [← HW0.out]
    refine (right_walk (t := ⟨tb, P, C⟩) HP.out HC.out).mono ?_
    rw [HRD.out]
    rintro e w1 ⟨rfl, hB1⟩
    have HW1 : Hid (Below w0.heap.size w0 w1) := hB1
    have HZ1 : Hid (Tz w tb (.slice co C.length cc) w1) := HTZ.out.go hB1
    clear hB1
    obtain ⟨⟨u0, z0⟩, f0⟩ := HZ1.out.z 0 (by omega)
    obtain ⟨⟨u1, z1⟩, f1⟩ := HZ1.out.z 1 (by omega)
    obtain ⟨⟨u2, z2⟩, f2⟩ := HZ1.out.z 2 (by omega)
    go_wp2_with fail
    (try simp only [Exit.inBlock, Exit.then])
    refine bodyPost_ret (v := .tuple #[.agg #[.int .i64 0, .slice none 0 0, .slice none 0 0], .int .i64 70]) (by rw [results_cell_tmp rfl]; go_simp) rfl ?_
    exact ts_bad HI.out (by omega) (((HZ1.out.below.setCell (p := ⟨w.heap.size + 1, 0, none⟩) (by simp) _).setCell (p := ⟨w.heap.size + 1, 1, none⟩) (by simp) _).setCell (p := ⟨w.heap.size + 1, 2, none⟩) (by simp) _)




end

end Go.Proofs.Ytpndafieknddcaa

namespace Go.Proofs.Ytpndafieknddcaa

open Go.RowKit



/-- The list of numbers as bytes, where none is below 0. -/
def numsB (l : List Int) : List Nat := Wm.enc l.length ++ Wm.encAll (l.map Int.toNat)
/-- Nums' answers. -/
def numsA (l : List Int) : List Nat × Nat := if ∀ x ∈ l, 0 ≤ x then (numsB l, 0) else ([], 1)


theorem encAll_append (l r : List Nat) : Wm.encAll (l ++ r) = Wm.encAll l ++ Wm.encAll r := by
  induction l with
  | nil => rfl
  | cons x l ih => simp [Wm.encAll, ih]


theorem encAll_len (l : List Nat) : (Wm.encAll l).length ≤ 10 * l.length := by
  induction l with
  | nil => simp [Wm.encAll]
  | cons x l ih =>
    have := (Wm.enc_len x).2
    simp only [Wm.encAll, List.length_append, List.length_cons]; omega


theorem encAll_lt (l : List Nat) (h : ∀ x ∈ l, x < 18446744073709551616) : ∀ c ∈ Wm.encAll l, c < 256 := by
  induction l with
  | nil => simp [Wm.encAll]
  | cons x l ih =>
    intro c hc
    simp only [Wm.encAll, List.mem_append] at hc
    rcases hc with hc | hc
    · exact Wm.enc_lt x (h x (by simp)) c hc
    · exact ih (fun y hy => h y (by simp [hy])) c hc


theorem numsB_len (l : List Int) : (numsB l).length ≤ 10 + 10 * l.length := by
  have h1 := (Wm.enc_len l.length).2
  have h2 := encAll_len (l.map Int.toNat)
  rw [List.length_map] at h2
  unfold numsB; rw [List.length_append]; omega


/-- The loop: k numbers have been written. -/
def npre (l : List Int) (k : Nat) : List Nat := Wm.enc l.length ++ Wm.encAll ((l.take k).map Int.toNat)


theorem npre_zero (l : List Int) : npre l 0 = Wm.enc l.length := by simp [npre, Wm.encAll]
theorem npre_all (l : List Int) : npre l l.length = numsB l := by simp [npre, numsB]
theorem npre_len (l : List Int) (k : Nat) (hk : k ≤ l.length) : (npre l k).length ≤ 10 + 10 * k := by
  have h1 := (Wm.enc_len l.length).2
  have h2 := encAll_len ((l.take k).map Int.toNat)
  rw [List.length_map, List.length_take] at h2
  unfold npre; rw [List.length_append]; omega
theorem npre_succ {l : List Int} {k : Nat} {x : Int} (hk : k < l.length) (hx : l.getD k 0 = x) : npre l (k + 1) = npre l k ++ Wm.enc x.toNat := by
  have e : l.getD k 0 = l[k] := by simp [List.getD, List.getElem?_eq_getElem hk]
  unfold npre
  rw [List.take_succ_eq_append_getElem hk, List.map_append, encAll_append, ← e, hx, List.append_assoc]
  simp [Wm.encAll]


def NumsRel (l : List Int) (H : Nat) (w : World) (v iv : Value) (wr : World) : Prop :=
  ∃ k : Nat, k ≤ l.length ∧ iv = .int .i64 k ∧ (∀ i, i < k → 0 ≤ l.getD i 0) ∧ wr.ownsRow H 5 1 v (npre l k).length ((ib (npre l k)).map (Value.int .u8)) ∧ Below H w wr


theorem numsrel_step {l : List Int} {H k : Nat} {w wr w1 w2 : World} {v v' : Value} {x : Int} (hk : k < l.length) (hx : l.getD k 0 = x) (h0 : 0 ≤ x) (hpos : ∀ i, i < k → 0 ≤ l.getD i 0) (hbel : Below H w wr) (hH : H ≤ wr.heap.size)
    (hb1 : Below wr.heap.size wr w1) (hown : w1.ownsRow H 5 1 v (npre l k).length ((ib (npre l k)).map (Value.int .u8)))
    (hown' : w2.ownsRow H 5 1 v' ((npre l k).length + (ib (Wm.enc x.toNat)).length) ((ib (npre l k)).map (Value.int .u8) ++ (ib (Wm.enc x.toNat)).map (Value.int .u8))) (hg : w1.grownBy w2 v.ownBlock) :
    NumsRel l H w v' (.int .i64 ((k : Int) + 1)) w2 := by
  refine ⟨k + 1, hk, rfl, ?_, ?_, hbel.trans ((hb1.mono hH).trans (grown_below hown hg (Nat.le_trans hH hb1.size)))⟩
  · intro i hi
    by_cases h : i < k
    · exact hpos i h
    · obtain rfl : i = k := by omega
      rw [hx]; exact h0
  · rw [npre_succ hk hx, List.length_append, ib_append, List.map_append]
    rw [ib_len] at hown'
    exact hown'


theorem numsA_ok {l : List Int} (h : ∀ i, i < l.length → 0 ≤ l.getD i 0) : numsA l = (numsB l, 0) := by
  unfold numsA
  rw [if_pos]
  intro x hx
  obtain ⟨i, hi, rfl⟩ := List.getElem_of_mem hx
  have := h i hi
  simpa [List.getD, List.getElem?_eq_getElem hi] using this


theorem numsA_bad {l : List Int} {k : Nat} {x : Int} (hk : k < l.length) (hx : l.getD k 0 = x) (h : x < 0) : numsA l = ([], 1) := by
  unfold numsA
  rw [if_neg]
  intro hh
  have e : l.getD k 0 = l[k] := by simp [List.getD, List.getElem?_eq_getElem hk]
  have := hh l[k] (List.getElem_mem hk)
  rw [← e, hx] at this
  omega


/-- What Nums leaves. -/
def NumsLeft (l : List Int) (w : World) (e : Ending) (w' : World) : Prop :=
  ∃ v', e = .returned (.tuple #[v', .int .i64 ((numsA l).2 : Nat)]) ∧ w'.ownsRow w.heap.size 5 1 v' (numsA l).1.length ((ib (numsA l).1).map (Value.int .u8)) ∧ Below w.heap.size w w'


theorem numsleft_bad {l : List Int} {k : Nat} {x : Int} {w w' : World} (hk : k < l.length) (hx : l.getD k 0 = x) (h : x < 0) (hb : Below w.heap.size w w') :
    NumsLeft l w (.returned (.tuple #[.slice none 0 0, .int .i64 1])) w' := by
  refine ⟨_, by rw [numsA_bad hk hx h]; rfl, ?_, hb⟩
  rw [numsA_bad hk hx h]
  exact World.ownsRow_nil _ _ _ _


theorem numsleft_ok {l : List Int} {v : Value} {w w' : World} (h : ∀ i, i < l.length → 0 ≤ l.getD i 0) (hown : w'.ownsRow w.heap.size 5 1 v (npre l l.length).length ((ib (npre l l.length)).map (Value.int .u8))) (hb : Below w.heap.size w w') :
    NumsLeft l w (.returned (.tuple #[v, .int .i64 0])) w' := by
  refine ⟨v, by rw [numsA_ok h]; rfl, ?_, hb⟩
  rw [numsA_ok h, ← npre_all]
  exact hown


theorem sv_cells {w : World} {b off n cap : Nat} {k : IntKind} {l : List Int} (h : Sv k w (.slice (some ⟨b, off, none⟩) n cap) l) : n = l.length ∧ l.length ≤ cap ∧ cap ≤ maxLen ∧ ∀ i, i < l.length → w.cell? ⟨b, off + i, none⟩ = some (.int k (l.getD i 0)) := by
  obtain ⟨ao, cap', e, h1, h2, h3, h4⟩ := h
  simp only [Value.slice.injEq] at e
  obtain ⟨e1, e2, rfl⟩ := e
  refine ⟨e2, h1, h2, fun i hi => ?_⟩
  obtain ⟨b', off', e3, e4⟩ := h4 i hi
  rw [← e1] at e3
  cases e3
  exact e4


set_option maxRecDepth 100000 in
set_option maxHeartbeats 1000000 in
theorem nums_some (l : List Int) (b off cap : Nat) (w : World) (hsz : 10 + 10 * l.length ≤ 140737488355328) (hin : ∀ x ∈ l, x < 9223372036854775808)
    (hc : ∀ i, i < l.length → w.cell? ⟨b, off + i, none⟩ = some (.int .i64 (l.getD i 0))) :
    Calls Try.prog 88 #[.slice (some ⟨b, off, none⟩) l.length cap] w (NumsLeft l w) := by
  have HSZ : Hid (10 + 10 * l.length ≤ 140737488355328) := hsz
  have hle : (l.length : Int) ≤ 140737488355328 := by omega
  have HC : Hid (∀ i, i < l.length → w.cell? ⟨b, off + i, none⟩ = some (.int .i64 (l.getD i 0))) := hc
  have HIN : Hid (∀ x ∈ l, x < 9223372036854775808) := hin
  clear hsz hc hin
  go_enter Try.func88, Try.ntmps88
  go_wp2_with fail
  refine (put_walk l.length (by omega) _).mono ?_
  rintro e w1 ⟨v1, rfl, hown1, hbel1⟩
  have HST : Hid (NumsRel l w.heap.size w v1 (.int .i64 0) w1) := ⟨0, Nat.zero_le _, rfl, by omega, by rw [npre_zero]; exact hown1, hbel1⟩
  clear hown1 hbel1
  go_wp2_with fail
  go_loopw [4, 13] (fun v iv wr => NumsRel l w.heap.size w v iv wr) (fun _ iv _ => l.length - (intOf iv).toNat)
  case atStart => exact HST.out
  case round =>
    obtain ⟨k, hk, rfl, hpos, hown, hbel⟩ := hrel
    have HP : Hid (∀ i, i < k → 0 ≤ l.getD i 0) := hpos
    have hH : w.heap.size ≤ wr.heap.size := hbel.size
    clear hpos HST
    by_cases hlt : k < l.length
    · have hcell0 := HC.out k hlt
      obtain ⟨x, hx⟩ : ∃ x, l.getD k 0 = x := ⟨_, rfl⟩
      have HXi : Hid (l.getD k 0 = x) := hx
      have hcell : wr.cell? ⟨b, off + k, none⟩ = some (.int .i64 x) := by rw [hbel.cell (p := ⟨b, off + k, none⟩) (cell_lt hcell0), hcell0, hx]
      have HXL : Hid (x < 9223372036854775808) := by
        show x < _
        rw [← hx]
        have e : l.getD k 0 = l[k] := by simp [List.getD, List.getElem?_eq_getElem hlt]
        rw [e]; exact HIN.out _ (List.getElem_mem hlt)
      clear hcell0 hx
      by_cases h0 : x < 0
      · go_wp2_with fail
        go_ret2
        exact numsleft_bad hlt HXi.out h0 hbel
      · obtain ⟨y, rfl⟩ : ∃ y : Nat, x = (y : Int) := ⟨x.toNat, by omega⟩
        have hyl : (y : Int) ≤ 9223372036854775807 := by have := HXL.out; omega
        go_wp2_with fail
        refine (put_walk y (by omega) _).mono ?_
        rintro e w2 ⟨v2, rfl, hown2, hbel2⟩
        have hown3 := own_below hown hbel2
        have hsv : Hid (Sv .u8 w2 v2 (ib (Wm.enc y))) := own_sv hown2
        have HBD : Hid ((npre l k).length + (ib (Wm.enc y)).length ≤ 140737488355328) := by
          have h1 := npre_len l k hk
          have h2 := (Wm.enc_len y).2
          have := HSZ.out
          rw [ib_len]
          show _ ≤ _
          omega
        have hs2 : w.heap.size ≤ w2.heap.size := Nat.le_trans hH hbel2.size
        clear hown2
        go_wp2_with (at_builtin; refine wpList_append_sv (by rfl) (.tmp 19) (.tmp 22) 121 (by rfl) w.heap.size 5 .u8 1 Try.underlying121 info_u8 _ _ _ (by rfl) hown3 _ _ (by rfl) hsv.out (by have := HBD.out; simp only [maxLen]; omega) (by have := HBD.out; omega) hs2 ?_; intro v' w3 hown' hgrow)
        have R := numsrel_step hlt HXi.out (by omega) HP.out hbel hH hbel2 hown3 (by simpa using hown') hgrow
        clear hown' hgrow hown3 hbel2
        go_wp2
        go_roundw
        case rel => exact R
        case measure => simp [intOf]; omega
    · obtain rfl : k = l.length := by omega
      have HO : Hid (wr.ownsRow w.heap.size 5 1 u4 (npre l l.length).length ((ib (npre l l.length)).map (Value.int .u8))) := hown
      clear hown
      go_wp2_with fail
      go_ret2
      exact numsleft_ok HP.out HO.out hbel


set_option maxRecDepth 100000 in
theorem nums_none (ao : Option Addr) (cap : Nat) (w : World) :
    Calls Try.prog 88 #[.slice ao 0 cap] w (NumsLeft [] w) := by
  go_enter Try.func88, Try.ntmps88
  go_wp2_with fail
  refine (put_walk 0 (by omega) _).mono ?_
  rintro e w1 ⟨v1, rfl, hown1, hbel1⟩
  have HO : Hid (w1.ownsRow w.heap.size 5 1 v1 (npre [] ([] : List Int).length).length ((ib (npre [] ([] : List Int).length)).map (Value.int .u8))) := hown1
  clear hown1
  go_wp2_with fail
  refine wp_loop_rounds 1 ?_
  rw [rounds_succ]
  go_wp2_with fail
  go_ret2
  exact numsleft_ok (by simp) HO.out hbel1


theorem nums_walk {w : World} {v : Value} {l : List Int} (h : Sv .i64 w v l) (hsz : 10 + 10 * l.length ≤ 140737488355328) (hin : ∀ x ∈ l, x < 9223372036854775808) :
    Calls Try.prog 88 #[v] w (NumsLeft l w) := by
  have h' := h
  obtain ⟨ao, cap, rfl, h1, h2, h3, h4⟩ := h
  by_cases h0 : l = []
  · subst h0; exact nums_none ao cap w
  · obtain ⟨b, off, rfl, _⟩ := h4 0 (List.length_pos_iff.2 h0)
    exact nums_some l b off cap w hsz hin (sv_cells h').2.2.2






end Go.Proofs.Ytpndafieknddcaa

namespace Go.Proofs.Ytpndafieknddcaa

open Go.RowKit







end Go.Proofs.Ytpndafieknddcaa

namespace Go.Proofs.Ytpndafieknddcaa

open Go.RowKit

theorem t3_lit {r : Nat × Nat × Nat} {a b c : Nat} (h : r = (a, b, c)) : t3 r = .tuple #[.int .u64 a, .int .i64 b, .int .i64 c] := by subst h; rfl
theorem Bv.le_cap {w : World} {ao : Option Addr} {cap : Nat} {l : List Nat} (h : Bv w (.slice ao l.length cap) l) : l.length ≤ cap := by
  obtain ⟨⟨ao', cap', e, h1, _⟩, _⟩ := h
  simp only [Value.slice.injEq] at e
  obtain ⟨_, _, rfl⟩ := e
  rwa [ib_len] at h1




/-- One number of a list, read. -/
def tnum (l : List Nat) : Nat × Nat × Nat := match Wm.take l with
  | (x, n, 0) => if 4611686018427387904 < x then (0, 0, 4) else (x, n, 0)
  | (_, _, e) => (0, 0, e)


def t3i (r : Nat × Nat × Nat) : Value := .tuple #[.int .i64 (r.1 : Nat), .int .i64 (r.2.1 : Nat), .int .i64 (r.2.2 : Nat)]
theorem t3i_lit {r : Nat × Nat × Nat} {a b c : Nat} (h : r = (a, b, c)) : t3i r = .tuple #[.int .i64 a, .int .i64 b, .int .i64 c] := by subst h; rfl


theorem tnum_err {l : List Nat} {e : Nat} (h : Wm.take l = (0, 0, e)) (h34 : e = 3 ∨ e = 4) : tnum l = (0, 0, e) := by
  unfold tnum; rw [h]; rcases h34 with rfl | rfl <;> rfl
theorem tnum_big {l : List Nat} {x n : Nat} (h : Wm.take l = (x, n, 0)) (hb : 4611686018427387904 < x) : tnum l = (0, 0, 4) := by
  unfold tnum; rw [h]; simp only; rw [if_pos hb]
theorem tnum_ok {l : List Nat} {x n : Nat} (h : Wm.take l = (x, n, 0)) (hb : ¬ 4611686018427387904 < x) : tnum l = (x, n, 0) := by
  unfold tnum; rw [h]; simp only; rw [if_neg hb]


/-- What one number's reading says. -/
theorem tnum_form (l : List Nat) (hl : ∀ c ∈ l, c < 256) :
    (∃ e, tnum l = (0, 0, e) ∧ (e = 3 ∨ e = 4) ∧ ∀ k p (b : List Nat) acc, b.drop p = l → Wm.tnums (k + 1) b p acc = ([], 0, e)) ∨
    (∃ x n, tnum l = (x, n, 0) ∧ x ≤ 4611686018427387904 ∧ 1 ≤ n ∧ n ≤ l.length ∧ ∀ k p (b : List Nat) acc, b.drop p = l → Wm.tnums (k + 1) b p acc = Wm.tnums k b (p + n) (acc ++ [x])) := by
  rcases Wm.take_form l hl with ⟨e, he, h34⟩ | ⟨x, n, hx, _, h1, h2, _⟩
  · refine .inl ⟨e, tnum_err he h34, h34, fun k p b acc hb => ?_⟩
    rw [Wm.tnums, hb, he]
    rcases h34 with rfl | rfl <;> rfl
  · by_cases hb : 4611686018427387904 < x
    · refine .inl ⟨4, tnum_big hx hb, .inr rfl, fun k p b acc hd => ?_⟩
      rw [Wm.tnums, hd, hx]
      simp only
      rw [if_pos hb]
    · refine .inr ⟨x, n, tnum_ok hx hb, by omega, h1, h2, fun k p b acc hd => ?_⟩
      rw [Wm.tnums, hd, hx]
      simp only
      rw [if_neg hb]


set_option maxRecDepth 100000 in
set_option maxHeartbeats 1000000 in
theorem takenum_walk {w : World} {v : Value} {l : List Nat} (h : Bv w v l) :
    Calls Try.prog 96 #[v] w fun e w' => e = .returned (t3i (tnum l)) ∧ w' = w := by
  have HV : Hid (Bv w v l) := h
  obtain ⟨a0, c0, rfl⟩ := bv_form h
  clear h
  go_enter Try.func96, Try.ntmps96
  go_wp2_with fail
  refine (take_walk HV.out).mono ?_
  rintro e w1 ⟨he, rfl⟩
  rcases Wm.take_form l HV.out.2 with ⟨er, her, h34⟩ | ⟨x, n, htx, hx, hn1, hn2, henc⟩
  · rw [t3_lit her] at he
    subst he
    have HER : Hid (Wm.take l = (0, 0, er)) := her
    clear her
    rcases h34 with rfl | rfl
    · go_wp2_with fail
      go_ret3
      exact ⟨by rw [t3i_lit (tnum_err HER.out (.inl rfl))]; rfl, rfl⟩
    · go_wp2_with fail
      go_ret3
      exact ⟨by rw [t3i_lit (tnum_err HER.out (.inr rfl))]; rfl, rfl⟩
  · rw [t3_lit htx] at he
    subst he
    have HT : Hid (Wm.take l = (x, n, 0)) := htx
    clear htx henc hx hn1 hn2
    by_cases hb : (4611686018427387904 : Int) < (x : Int)
    · go_wp2_with fail
      go_ret3
      exact ⟨by rw [t3i_lit (tnum_big HT.out (by omega))]; rfl, rfl⟩
    · have hbb : decide ((4611686018427387904 : Int) < (x : Int)) = false := decide_eq_false hb
      have HB : Hid (¬ 4611686018427387904 < x) := by show ¬ _ < _; omega
      have hwr : IntKind.i64.wrap (x : Int) = (x : Int) := by rw [IntKind.wrap_i64]; omega
      clear hb
      go_wp2_with fail
      go_ret3
      exact ⟨by rw [t3i_lit (tnum_ok HT.out HB.out)]; rfl, rfl⟩


theorem sv_one_int (w : World) (e : TypeId) (x : Int) : Sv .i64 (w.alloc (.cells #[.int .i64 x] e)) (.slice (some ⟨w.heap.size, 0, none⟩) 1 1) [x] := sv_one .i64 w e x


theorem sv_form {k : IntKind} {w : World} {v : Value} {l : List Int} (h : Sv k w v l) : ∃ ao cap, v = .slice ao l.length cap := by
  obtain ⟨ao, cap, rfl, _⟩ := h
  exact ⟨ao, cap, rfl⟩


/-- What TakeNums leaves: r is its answer. -/
def NumsGot (r : List Nat × Nat × Nat) (w : World) (e : Ending) (w' : World) : Prop :=
  ∃ ao cap, e = .returned (.tuple #[.slice ao (ib r.1).length cap, .int .i64 (r.2.1 : Nat), .int .i64 (r.2.2 : Nat)]) ∧ w'.ownsRow w.heap.size 3 1 (.slice ao (ib r.1).length cap) r.1.length ((ib r.1).map (Value.int .i64)) ∧ Below w.heap.size w w'


theorem numsgot_none {r : List Nat × Nat × Nat} {w w' : World} {e : Nat} {c : Int} (h : r = ([], 0, e)) (hc : c = e) (hB : Below w.heap.size w w') : NumsGot r w (.returned (.tuple #[.slice none 0 0, .int .i64 0, .int .i64 c])) w' := by
  subst h hc
  exact ⟨none, 0, rfl, ⟨rfl, .inl ⟨rfl, rfl⟩⟩, hB⟩


theorem numsgot_some {r : List Nat × Nat × Nat} {w w' : World} {n p : Nat} {acc : List Nat} {v : Value} {c : Int} (h : r = (acc, p, 0)) (hown : w'.ownsRow w.heap.size 3 1 v n ((ib acc).map (Value.int .i64))) (hB : Below w.heap.size w w') (hc : c = p) :
    NumsGot r w (.returned (.tuple #[v, .int .i64 c, .int .i64 0])) w' := by
  subst h hc
  obtain ⟨ao, cap, rfl⟩ := sv_form (own_sv hown)
  have hn : n = acc.length := by have := own_len hown; rw [ib_len] at this; exact this
  subst hn
  exact ⟨ao, cap, rfl, hown, hB⟩


/-- The loop: k numbers of c have been read, p bytes are behind. -/
def TNRel (l : List Nat) (c : Nat) (r : List Nat × Nat × Nat) (H : Nat) (w : World) (pv v kv : Value) (kk : IntKind) (wr : World) : Prop :=
  ∃ (k p : Nat) (acc : List Nat), kv = .int kk k ∧ k ≤ c ∧ pv = .int .i64 p ∧ p ≤ l.length ∧ k ≤ p ∧ acc.length = k ∧ Wm.tnums (c - k) l p acc = r ∧
    wr.ownsRow H 3 1 v k ((ib acc).map (Value.int .i64)) ∧ Below H w wr


theorem tnrel_start {l : List Nat} {c p : Nat} {r : List Nat × Nat × Nat} {w : World} (kk : IntKind) (hp : p ≤ l.length) (h : Wm.tnums c l p [] = r) :
    TNRel l c r w.heap.size w (.int .i64 p) (.slice (some ⟨w.heap.size, 0, none⟩) 0 0) (.int kk 0) kk (w.alloc (.cells #[] 3)) :=
  ⟨0, p, [], rfl, Nat.zero_le _, rfl, hp, Nat.zero_le _, rfl, h, World.ownsRow_made w #[] 0 (Nat.le_refl _) (by simp [maxLen]) rfl, below_alloc w _⟩


theorem tnrel_step {l : List Nat} {c k p x n H : Nat} {r : List Nat × Nat × Nat} {acc : List Nat} {w wr w1 : World} {v v' : Value} (kk : IntKind) (hk : k < c) (hpn : p + n ≤ l.length) (hkp : k ≤ p) (hn : 1 ≤ n) (hacc : acc.length = k)
    (ht : Wm.tnums (c - k) l p acc = r) (hstep : ∀ j q (b : List Nat) a, b.drop q = l.drop p → Wm.tnums (j + 1) b q a = Wm.tnums j b (q + n) (a ++ [x])) (hbel : Below H w wr) (hH : H ≤ wr.heap.size) (o : Obj)
    (hown : wr.ownsRow H 3 1 v k ((ib acc).map (Value.int .i64))) (hown' : w1.ownsRow H 3 1 v' (k + 1) ((ib acc).map (Value.int .i64) ++ [(x : Int)].map (Value.int .i64))) (hg : (wr.alloc o).grownBy w1 v.ownBlock) :
    TNRel l c r H w (.int .i64 ((p : Int) + (n : Int))) v' (.int kk ((k : Int) + 1)) kk w1 := by
  refine ⟨k + 1, p + n, acc ++ [x], rfl, hk, by congr 1, hpn, by omega, by simp [hacc], ?_, ?_, hbel.trans (((below_alloc wr o).mono hH).trans (grown_below (hown.alloc o) hg (by simp; omega)))⟩
  · rw [← hstep (c - (k + 1)) p l acc rfl, ← ht]
    congr 1; omega
  · rw [ib_append, List.map_append]
    exact hown'


theorem Bv.cutFrom {w : World} {ao : Option Addr} {cap : Nat} {l : List Nat} (h : Bv w (.slice ao l.length cap) l) (p : Nat) (hp : p ≤ l.length) (hne : ¬ cap = p) :
    Bv w (.slice (ao.map fun a => a.add p) (l.length - p) (cap - p)) (l.drop p) := by
  have := h.cut p l.length hp (Nat.le_refl _) False (by simp [hne])
  have e : (l.drop p).take (l.length - p) = l.drop p := List.take_of_length_le (by rw [List.length_drop]; omega)
  rw [e] at this
  simpa using this


theorem Bv.cutEnd {w : World} {ao : Option Addr} {l : List Nat} {p : Nat} (hp : l.length ≤ p) : Bv w (.slice ao 0 0) (l.drop p) := by
  rw [List.drop_eq_nil_of_le hp]
  exact ⟨⟨ao, 0, rfl, Nat.le_refl _, by simp [maxLen], fun _ => rfl, fun i hi => by simp [ib] at hi⟩, by simp⟩


theorem takeNums_err {l : List Nat} {e : Nat} (most : Int) (h : Wm.take l = (0, 0, e)) (h34 : e = 3 ∨ e = 4) : Wm.takeNums l most = ([], 0, e) := by
  unfold Wm.takeNums; rw [h]; rcases h34 with rfl | rfl <;> rfl
theorem takeNums_long {l : List Nat} {c p : Nat} {most : Int} (h : Wm.take l = (c, p, 0)) (hm : most < (c : Int)) : Wm.takeNums l most = ([], 0, 6) := by
  unfold Wm.takeNums; rw [h]; simp only; rw [if_pos hm]
theorem takeNums_go {l : List Nat} {c p : Nat} {most : Int} (h : Wm.take l = (c, p, 0)) (hm : ¬ most < (c : Int)) : Wm.takeNums l most = Wm.tnums c l p [] := by
  unfold Wm.takeNums; rw [h]; simp only; rw [if_neg hm]


set_option maxRecDepth 100000 in
set_option maxHeartbeats 4000000 in
theorem takenums_walk {w : World} {v : Value} {l : List Nat} (most : Int) (h : Bv w v l) (hm : most ≤ 4) :
    Calls Try.prog 94 #[v, .int .i64 most] w (NumsGot (Wm.takeNums l most) w) := by
  have HV : Hid (Bv w v l) := h
  have HM : Hid (most ≤ 4) := hm
  have hle : (l.length : Int) ≤ 9223372036854775807 := by have h2 := h.len_le; simp only [maxLen] at h2; omega
  obtain ⟨r, hr⟩ : ∃ r, r = Wm.takeNums l most := ⟨_, rfl⟩
  have HR : Hid (r = Wm.takeNums l most) := hr
  rw [← hr]
  obtain ⟨a0, c0, rfl⟩ := bv_form h
  have hc0 : (l.length : Int) ≤ (c0 : Int) := by have := h.le_cap; omega
  clear h hm hr
  go_enter Try.func94, Try.ntmps94
  go_wp2_with fail
  refine (take_walk HV.out).mono ?_
  rintro e w1 ⟨he, rfl⟩
  rcases Wm.take_form l HV.out.2 with ⟨er, her, h34⟩ | ⟨c, p0, htx, hx, hn1, hn2, henc⟩
  · rw [t3_lit her] at he
    subst he
    have HER : Hid (Wm.take l = (0, 0, er)) := her
    clear her
    rcases h34 with rfl | rfl
    · go_wp2_with fail
      go_ret3
      exact numsgot_none (by rw [HR.out, takeNums_err most HER.out (.inl rfl)]) rfl (Below.refl _ _)
    · go_wp2_with fail
      go_ret3
      exact numsgot_none (by rw [HR.out, takeNums_err most HER.out (.inr rfl)]) rfl (Below.refl _ _)
  · rw [t3_lit htx] at he
    subst he
    have HT : Hid (Wm.take l = (c, p0, 0)) := htx
    have HP0 : Hid (p0 ≤ l.length) := hn2
    clear htx henc hx hn1 hn2
    by_cases hm0 : most < 0
    · go_wp2_with fail
      go_ret3
      exact numsgot_none (by rw [HR.out, takeNums_long HT.out (by omega)]) rfl (Below.refl _ _)
    · have hmw : IntKind.u64.wrap most = most := wrap_u64_id (by omega) (by have := HM.out; omega)
      by_cases hml : most < (c : Int)
      · go_wp2_with fail
        go_ret3
        exact numsgot_none (by rw [HR.out, takeNums_long HT.out (by omega)]) rfl (Below.refl _ _)
      · have hcw : IntKind.i64.wrap (c : Int) = (c : Int) := by have := HM.out; rw [IntKind.wrap_i64]; omega
        have HCL : Hid ((c : Int) < 9223372036854775808) := by have := HM.out; show _ < _; omega
        have HCM : Hid (c ≤ 4) := by have := HM.out; show _ ≤ _; omega
        have HST : Hid (TNRel l c r w1.heap.size w1 (.int .i64 p0) (.slice (some ⟨w1.heap.size, 0, none⟩) 0 0) (.int .i64 0) .i64 (w1.alloc (.cells #[] 3))) :=
          tnrel_start .i64 HP0.out (by rw [HR.out, takeNums_go HT.out (by omega)])
        have hmlb : decide (most < (c : Int)) = false := decide_eq_false hml
        have hm0b : decide (most < 0) = false := decide_eq_false hm0
        clear hml hm0
        go_wp2_with fail
        go_loopw [8, 10, 34] (fun pv v kv wr => TNRel l c r w1.heap.size w1 pv v kv .i64 wr) (fun _ _ kv _ => c - (intOf kv).toNat)
        case atStart => exact HST.out
        case round =>
          obtain ⟨k, p, acc, rfl, hk, rfl, hp, hkp, hacc, htn, hown, hbel⟩ := hrel
          have HTN : Hid (Wm.tnums (c - k) l p acc = r) := htn
          have HA : Hid (acc.length = k) := hacc
          have hH : w1.heap.size ≤ wr.heap.size := hbel.size
          have hpl : (p : Int) ≤ (l.length : Int) := by omega
          have HVr : Hid (Bv wr (.slice a0 l.length c0) l) := HV.out.below hbel
          clear htn hacc HST
          by_cases hlt : (k : Int) < (c : Int)
          · have hkl : (k : Int) + 1 ≤ 9223372036854775807 := by have := HCL.out; omega
            have HPN : Hid (p ≤ l.length) := hp
            have HKP : Hid (k ≤ p) := hkp
            have HKC : Hid (k < c) := by show k < c; omega
            rcases tnum_form (l.drop p) (fun d hd => HV.out.2 d (List.mem_of_mem_drop hd)) with ⟨er, her, h34, hst⟩ | ⟨x, n, htx, hx62, hn1, hn2, hst⟩
            · have HE : Hid (r = ([], 0, er)) := by
                show r = _
                rw [← HTN.out, ← hst (c - k - 1) p l acc rfl]; congr 1; have := HKC.out; omega
              have HER : Hid (tnum (l.drop p) = (0, 0, er)) := her
              clear hst her hp hkp hk
              by_cases hcp : c0 = p
              · have hlp : l.length = p := by omega
                have HLP : Hid (l.length ≤ p) := by show _ ≤ _; omega
                subst hcp
                go_wp2_with fail
                refine (takenum_walk (Bv.cutEnd (w := wr) (ao := a0) HLP.out)).mono ?_
                rintro e w3 ⟨he, rfl⟩
                rw [t3i_lit HER.out] at he
                subst he
                rcases h34 with rfl | rfl
                · go_wp2_with fail
                  go_ret3
                  exact numsgot_none HE.out rfl hbel
                · go_wp2_with fail
                  go_ret3
                  exact numsgot_none HE.out rfl hbel
              · go_wp2_with fail
                refine (takenum_walk (HVr.out.cutFrom p HPN.out hcp)).mono ?_
                rintro e w3 ⟨he, rfl⟩
                rw [t3i_lit HER.out] at he
                subst he
                rcases h34 with rfl | rfl
                · go_wp2_with fail
                  go_ret3
                  exact numsgot_none HE.out rfl hbel
                · go_wp2_with fail
                  go_ret3
                  exact numsgot_none HE.out rfl hbel
            · rw [List.length_drop] at hn2
              have HX : Hid (tnum (l.drop p) = (x, n, 0)) := htx
              have HS : Hid (∀ j q (b : List Nat) a, b.drop q = l.drop p → Wm.tnums (j + 1) b q a = Wm.tnums j b (q + n) (a ++ [x])) := hst
              have HN1 : Hid (1 ≤ n) := hn1
              have HN2 : Hid (p + n ≤ l.length) := by show _ ≤ _; omega
              have hpn : (p : Int) + (n : Int) ≤ 9223372036854775807 := by omega
              have hcp : ¬ c0 = p := by omega
              clear hst htx hn1 hn2 hx62 hp hkp hk
              go_wp2_with fail
              refine (takenum_walk (HVr.out.cutFrom p HPN.out hcp)).mono ?_
              rintro e w3 ⟨he, rfl⟩
              rw [t3i_lit HX.out] at he
              subst he
              have HBD : Hid ((k + 1) * 8 ≤ 140737488355328) := by show _ ≤ _; have := HKC.out; have := HCM.out; omega
              go_wp2_with (at_builtin; refine wpList_append_sv (by rfl) (.tmp 47) (.tmp 49) 25 (by rfl) w1.heap.size 3 .i64 8 Try.underlying25 info_i64 _ _ _ (by rfl) (hown.alloc _) _ [_] (by rfl) (sv_one .i64 _ _ _) (by have := HBD.out; simp [maxLen]; omega) (by have := HBD.out; simp; omega) (by simp; omega) ?_; intro v' w4 hown' hgrow)
              have R := tnrel_step .i64 HKC.out HN2.out HKP.out HN1.out HA.out HTN.out HS.out hbel hH _ hown hown' hgrow
              clear hown' hgrow
              go_wp2
              go_roundw
              case rel => exact R
              case measure => simp [intOf]; omega
          · obtain rfl : k = c := by omega
            have HO : Hid (wr.ownsRow w1.heap.size 3 1 u10 k ((ib acc).map (Value.int .i64))) := hown
            clear hown
            go_wp2_with fail
            go_ret3
            exact numsgot_some (by rw [← HTN.out, Nat.sub_self, Wm.tnums]) HO.out hbel rfl
end Go.Proofs.Ytpndafieknddcaa

namespace Go.Proofs.Ytpndafieknddcaa

open Ieee Go.RowKit



/-- A note: the batch, both ends, the attempts. -/
structure Nt where
  b : Int
  p : List Int
  c : List Int
  a : Int
theorem Nt.ext' {m n : Nt} (h1 : m.b = n.b) (h2 : m.p = n.p) (h3 : m.c = n.c) (h4 : m.a = n.a) : m = n := by
  cases m; cases n; simp only at h1 h2 h3 h4; subst h1 h2 h3 h4; rfl
def Nt.tp (n : Nt) : Tp := ⟨n.b, n.p, n.c⟩
def rgtB (n : Nt) (q : Int) : Bool := decide (0 ≤ n.a ∧ n.a ≤ 1099511627776 ∧ n.b ≤ 1099511627776 ∧ (n.p.length : Int) = q ∧ (n.c.length : Int) = q) && rightB n.tp && decide (∀ i, i < n.c.length → nth n.c i ≤ 256)
structure Rgt (n : Nt) (q : Int) : Prop where
  a0 : 0 ≤ n.a
  a1 : n.a ≤ 1099511627776
  b1 : n.b ≤ 1099511627776
  lp : (n.p.length : Int) = q
  lc : (n.c.length : Int) = q
  r : rightT n.tp
  f : ∀ i, i < n.c.length → nth n.c i ≤ 256
theorem Rgt.of {n : Nt} {q : Int} (h : rgtB n q = true) : Rgt n q := by
  unfold rgtB at h
  rw [Bool.and_eq_true, Bool.and_eq_true] at h
  obtain ⟨h1, h2, h3, h4, h5⟩ := of_decide_eq_true h.1.1
  exact ⟨h1, h2, h3, h4, h5, rightT.of h.1.2, of_decide_eq_true h.2⟩
theorem Rgt.yes {n : Nt} {q : Int} (h : Rgt n q) : rgtB n q = true := by
  unfold rgtB
  rw [decide_eq_true (⟨h.a0, h.a1, h.b1, h.lp, h.lc⟩ : 0 ≤ n.a ∧ n.a ≤ 1099511627776 ∧ n.b ≤ 1099511627776 ∧ (n.p.length : Int) = q ∧ (n.c.length : Int) = q), h.r.yes, decide_eq_true h.f]; rfl
theorem Rgt.no {n : Nt} {q : Int} (h : ¬ Rgt n q) : rgtB n q = false := by
  cases hb : rgtB n q
  · rfl
  · exact absurd (Rgt.of hb) h
theorem Rgt.b0 {n : Nt} {q : Int} (h : Rgt n q) : 0 ≤ n.b := h.r.1
theorem Rgt.len {n : Nt} {q : Int} (h : Rgt n q) : n.p.length = n.c.length := h.r.2.1.1
theorem Rgt.c0 {n : Nt} {q : Int} (h : Rgt n q) {i : Nat} (hi : i < n.c.length) : 0 ≤ nth n.c i := by
  have h1 := (h.r.2.2 i hi).1
  have h2 := h.r.2.1.2 i (by have := h.len; show i < n.p.length; omega)
  exact Int.le_trans h1 h2
theorem Rgt.p0 {n : Nt} {q : Int} (h : Rgt n q) {i : Nat} (hi : i < n.p.length) : 0 ≤ nth n.p i := (h.r.2.2 i (by have := h.len; show i < n.c.length; omega)).1
theorem Rgt.p1 {n : Nt} {q : Int} (h : Rgt n q) {i : Nat} (hi : i < n.p.length) : nth n.p i ≤ 256 := by
  have h2 := h.r.2.1.2 i hi
  have h3 := h.f i (by have := h.len; omega)
  exact Int.le_trans h2 h3
theorem mem_nth {l : List Int} {x : Int} (h : x ∈ l) : ∃ i, i < l.length ∧ nth l i = x := by
  obtain ⟨i, hi, e⟩ := List.mem_iff_getElem.1 h
  exact ⟨i, hi, by rw [nth_at hi]; exact e⟩
theorem Rgt.pm {n : Nt} {q : Int} (h : Rgt n q) : ∀ x ∈ n.p, 0 ≤ x ∧ x ≤ 256 := fun x hx => by
  obtain ⟨i, hi, rfl⟩ := mem_nth hx
  exact ⟨h.p0 hi, h.p1 hi⟩
theorem Rgt.cm {n : Nt} {q : Int} (h : Rgt n q) : ∀ x ∈ n.c, 0 ≤ x ∧ x ≤ 256 := fun x hx => by
  obtain ⟨i, hi, rfl⟩ := mem_nth hx
  exact ⟨h.c0 hi, h.f i hi⟩


/-- Whether n may take the place of h. -/
def folB (n h : Nt) : Bool := decide (h.a ≤ n.a) && (if n.b = h.b then decide (n.p = h.p) && decide (n.c = h.c) else decide (n.b = h.b + 1) && decide (n.p = h.c))


/-- The bytes. -/
def nmL (g : Nat) (n : Nt) : List Nat := [g, n.b.toNat, n.a.toNat]
def lsL (n : Nt) : List (List Int) := [n.p, n.c]
def bytN (g : Nat) (n : Nt) : List Nat := Wm.encAll (nmL g n) ++ (numsB n.p ++ numsB n.c)


/-- What is read. -/
def tk1 (l : List Nat) : Option (Nat × List Nat) := if (Wm.take l).2.2 = 0 ∧ (Wm.take l).1 ≤ 1099511627776 then some ((Wm.take l).1, l.drop (Wm.take l).2.1) else none
def tkN : Nat → List Nat → Option (List Nat × List Nat)
  | 0, l => some ([], l)
  | k + 1, l => match tkN k l with
    | none => none
    | some (F, r) => match tk1 r with
      | none => none
      | some (x, s) => some (F ++ [x], s)
def tl1 (q : Int) (l : List Nat) : Option (List Nat × List Nat) := if (Wm.takeNums l q).2.2 = 0 then some ((Wm.takeNums l q).1, l.drop (Wm.takeNums l q).2.1) else none
def tlN (q : Int) : Nat → List Nat → Option (List (List Nat) × List Nat)
  | 0, l => some ([], l)
  | k + 1, l => match tlN q k l with
    | none => none
    | some (G, r) => match tl1 q r with
      | none => none
      | some (x, s) => some (G ++ [x], s)
def mkN (F : List Nat) (G : List (List Nat)) : Nt := ⟨F.getD 1 0, ib (G.getD 0 []), ib (G.getD 1 []), F.getD 2 0⟩
def takE (q : Int) (l : List Nat) : Option (Nat × Nt) := match tkN 3 l with
  | none => none
  | some (F, r) => match tlN q 2 r with
    | none => none
    | some (G, s) => if s = [] ∧ 1 ≤ F.getD 0 0 ∧ rgtB (mkN F G) q = true then some (F.getD 0 0, mkN F G) else none


theorem tkN_succ {k : Nat} {l r s F : List Nat} {x : Nat} (h : tkN k l = some (F, r)) (h1 : tk1 r = some (x, s)) : tkN (k + 1) l = some (F ++ [x], s) := by rw [tkN, h]; simp only; rw [h1]
theorem tkN_stop {k : Nat} {l r F : List Nat} (h : tkN k l = some (F, r)) (h1 : tk1 r = none) : tkN (k + 1) l = none := by rw [tkN, h]; simp only; rw [h1]
theorem tkN_gone {l : List Nat} (k : Nat) (j : Nat) (h : tkN k l = none) : tkN (k + j) l = none := by
  induction j with
  | zero => exact h
  | succ j ih => rw [← Nat.add_assoc, tkN, ih]
theorem tlN_succ {q : Int} {k : Nat} {l r s x : List Nat} {G : List (List Nat)} (h : tlN q k l = some (G, r)) (h1 : tl1 q r = some (x, s)) : tlN q (k + 1) l = some (G ++ [x], s) := by rw [tlN, h]; simp only; rw [h1]
theorem tlN_stop {q : Int} {k : Nat} {l r : List Nat} {G : List (List Nat)} (h : tlN q k l = some (G, r)) (h1 : tl1 q r = none) : tlN q (k + 1) l = none := by rw [tlN, h]; simp only; rw [h1]
theorem tlN_gone {q : Int} {l : List Nat} (k : Nat) (j : Nat) (h : tlN q k l = none) : tlN q (k + j) l = none := by
  induction j with
  | zero => exact h
  | succ j ih => rw [← Nat.add_assoc, tlN, ih]
theorem takE_n1 {q : Int} {l : List Nat} {k : Nat} (hk : k ≤ 3) (h : tkN k l = none) : takE q l = none := by
  have := tkN_gone k (3 - k) h
  rw [show k + (3 - k) = 3 by omega] at this
  unfold takE; rw [this]
theorem takE_n2 {q : Int} {l F r : List Nat} {k : Nat} (h3 : tkN 3 l = some (F, r)) (hk : k ≤ 2) (h : tlN q k r = none) : takE q l = none := by
  have := tlN_gone k (2 - k) h
  rw [show k + (2 - k) = 2 by omega] at this
  unfold takE; rw [h3]; simp only; rw [this]
theorem takE_n3 {q : Int} {l F r s : List Nat} {G : List (List Nat)} (h3 : tkN 3 l = some (F, r)) (h2 : tlN q 2 r = some (G, s)) (h : ¬ (s = [] ∧ 1 ≤ F.getD 0 0 ∧ rgtB (mkN F G) q = true)) : takE q l = none := by
  unfold takE; rw [h3]; simp only; rw [h2]; simp only; rw [if_neg h]
theorem takE_y {q : Int} {l F r s : List Nat} {G : List (List Nat)} (h3 : tkN 3 l = some (F, r)) (h2 : tlN q 2 r = some (G, s)) (h : s = [] ∧ 1 ≤ F.getD 0 0 ∧ rgtB (mkN F G) q = true) : takE q l = some (F.getD 0 0, mkN F G) := by
  unfold takE; rw [h3]; simp only; rw [h2]; simp only; rw [if_pos h]
theorem tkN_len (k : Nat) : ∀ {l r F : List Nat}, tkN k l = some (F, r) → F.length = k ∧ (∀ x ∈ F, x ≤ 1099511627776) ∧ (∀ c ∈ r, c ∈ l) := by
  induction k with
  | zero => intro l r F h; rw [tkN] at h; cases h; exact ⟨rfl, by simp, fun c hc => hc⟩
  | succ k ih =>
    intro l r F h
    rw [tkN] at h
    cases hk : tkN k l with
    | none => rw [hk] at h; cases h
    | some e =>
      obtain ⟨F0, r0⟩ := e
      rw [hk] at h
      simp only at h
      cases h1 : tk1 r0 with
      | none => rw [h1] at h; cases h
      | some e =>
        obtain ⟨x, s⟩ := e
        rw [h1] at h
        cases h
        obtain ⟨i1, i2, i3⟩ := ih hk
        unfold tk1 at h1
        split at h1
        · rename_i hc
          cases h1
          refine ⟨by simp [i1], fun y hy => ?_, fun c hc => i3 c (List.mem_of_mem_drop hc)⟩
          rcases List.mem_append.1 hy with h | h
          · exact i2 y h
          · rw [List.mem_singleton.1 h]; exact hc.2
        · cases h1
theorem takE_some {q : Int} {l : List Nat} {g : Nat} {n : Nt} (h : takE q l = some (g, n)) : 1 ≤ g ∧ g ≤ 1099511627776 ∧ Rgt n q := by
  unfold takE at h
  cases h3 : tkN 3 l with
  | none => rw [h3] at h; cases h
  | some e =>
    obtain ⟨F, r⟩ := e
    rw [h3] at h
    simp only at h
    cases h2 : tlN q 2 r with
    | none => rw [h2] at h; cases h
    | some e =>
      obtain ⟨G, s⟩ := e
      rw [h2] at h
      simp only at h
      split at h
      · rename_i hc
        cases h
        obtain ⟨i1, i2, _⟩ := tkN_len 3 h3
        refine ⟨hc.2.1, i2 _ ?_, Rgt.of hc.2.2⟩
        match F, i1 with
        | [a, b, c], _ => simp
      · cases h


theorem tn_go {l : List Nat} {p x n : Nat} (k : Nat) (acc : List Nat) (h : Wm.take (l.drop p) = (x, n, 0)) : Wm.tnums (k + 1) l p acc = if 4611686018427387904 < x then ([], 0, 4) else Wm.tnums k l (p + n) (acc ++ [x]) := by
  rw [Wm.tnums, h]; simp only
theorem tn_of (xs : List Nat) : ∀ (pre acc r : List Nat), (∀ x ∈ xs, x ≤ 4611686018427387904) →
    Wm.tnums xs.length (pre ++ (Wm.encAll xs ++ r)) pre.length acc = (acc ++ xs, pre.length + (Wm.encAll xs).length, 0) := by
  induction xs with
  | nil => intro pre acc r _; simp [Wm.tnums, Wm.encAll]
  | cons x xs ih =>
    intro pre acc r hx
    have hd : (pre ++ (Wm.encAll (x :: xs) ++ r)).drop pre.length = Wm.enc x ++ (Wm.encAll xs ++ r) := by simp [Wm.encAll]
    have hx0 := hx x (by simp)
    have ht := Wm.take_enc x (Wm.encAll xs ++ r) (by omega)
    have h := ih (pre ++ Wm.enc x) (acc ++ [x]) r (fun y hy => hx y (by simp [hy]))
    have e1 : pre ++ Wm.enc x ++ (Wm.encAll xs ++ r) = pre ++ (Wm.encAll (x :: xs) ++ r) := by simp [Wm.encAll]
    rw [e1, List.length_append] at h
    rw [List.length_cons, tn_go _ _ (by rw [hd]; exact ht), if_neg (by omega), h]
    simp [Wm.encAll, Nat.add_assoc]
theorem ib_nat {l : List Int} (h : ∀ x ∈ l, 0 ≤ x) : ib (l.map Int.toNat) = l := by
  induction l with
  | nil => rfl
  | cons x l ih =>
    have h0 := h x (by simp)
    have := ih (fun y hy => h y (by simp [hy]))
    simp only [ib, List.map_cons, List.map_map] at this ⊢
    rw [this]
    congr 1
    omega
theorem tl1_of {q : Int} {l : List Int} (hl : (l.length : Int) ≤ q) (hq : q ≤ 4) (h : ∀ x ∈ l, 0 ≤ x ∧ x ≤ 256) (r : List Nat) : tl1 q (numsB l ++ r) = some (l.map Int.toNat, r) := by
  have e : Wm.takeNums (numsB l ++ r) q = (l.map Int.toNat, (numsB l).length, 0) := by
    unfold numsB
    rw [List.append_assoc, takeNums_go (c := l.length) (p := (Wm.enc l.length).length) (Wm.take_enc _ _ (by omega)) (by omega)]
    have := tn_of (l.map Int.toNat) (Wm.enc l.length) [] r (fun x hx => by
      obtain ⟨y, hy, rfl⟩ := List.mem_map.1 hx
      have := h y hy
      omega)
    rw [List.length_map] at this
    rw [this]
    simp
  unfold tl1
  rw [e, if_pos rfl]
  simp
theorem tl1_no {q : Int} {l : List Int} (hl : q < (l.length : Int)) (h4 : l.length ≤ 4) (r : List Nat) : tl1 q (numsB l ++ r) = none := by
  have e : Wm.takeNums (numsB l ++ r) q = ([], 0, 6) := by
    unfold numsB
    rw [List.append_assoc, takeNums_long (c := l.length) (p := (Wm.enc l.length).length) (Wm.take_enc _ _ (by omega)) hl]
  unfold tl1
  rw [e, if_neg (by simp)]
theorem tk1_of {x : Nat} (hx : x ≤ 1099511627776) (r : List Nat) : tk1 (Wm.enc x ++ r) = some (x, r) := by
  have e := Wm.take_enc x r (by omega)
  unfold tk1
  rw [e, if_pos ⟨rfl, hx⟩]
  simp
theorem tk3_of {g : Nat} {n : Nt} (hg : g ≤ 1099511627776) (hb : n.b ≤ 1099511627776) (ha : n.a ≤ 1099511627776) : tkN 3 (bytN g n) = some (nmL g n, numsB n.p ++ numsB n.c) := by
  have e : bytN g n = Wm.enc g ++ (Wm.enc n.b.toNat ++ (Wm.enc n.a.toNat ++ (numsB n.p ++ numsB n.c))) := by simp [bytN, nmL, Wm.encAll]
  have h0 : tkN 0 (bytN g n) = some ([], Wm.enc g ++ (Wm.enc n.b.toNat ++ (Wm.enc n.a.toNat ++ (numsB n.p ++ numsB n.c)))) := by rw [tkN, e]
  have h1 := tkN_succ h0 (tk1_of hg _)
  have h2 := tkN_succ h1 (tk1_of (x := n.b.toNat) (by omega) _)
  have h3 := tkN_succ h2 (tk1_of (x := n.a.toNat) (by omega) _)
  exact h3
/-- What was written is read again. -/
theorem takE_of {g : Nat} {n : Nt} {q : Int} (h1 : 1 ≤ g) (hg : g ≤ 1099511627776) (h : Rgt n q) (hq : q ≤ 4) : takE q (bytN g n) = some (g, n) := by
  have h3 := tk3_of (g := g) (n := n) hg h.b1 h.a1
  have t0 : tlN q 0 (numsB n.p ++ numsB n.c) = some ([], numsB n.p ++ numsB n.c) := rfl
  have t1 := tlN_succ t0 (tl1_of (by have := h.lp; omega) hq h.pm _)
  have e2 := tl1_of (q := q) (l := n.c) (by have := h.lc; omega) hq h.cm []
  rw [List.append_nil] at e2
  have t2 := tlN_succ t1 e2
  have em : mkN (nmL g n) [n.p.map Int.toNat, n.c.map Int.toNat] = n := by
    refine Nt.ext' ?_ ?_ ?_ ?_
    · show ((n.b.toNat : Nat) : Int) = n.b; have := h.b0; omega
    · exact ib_nat fun x hx => (h.pm x hx).1
    · exact ib_nat fun x hx => (h.cm x hx).1
    · show ((n.a.toNat : Nat) : Int) = n.a; have := h.a0; omega
  have := takE_y h3 t2 ⟨rfl, h1, by show rgtB (mkN (nmL g n) [n.p.map Int.toNat, n.c.map Int.toNat]) q = true; rw [em]; exact h.yes⟩
  rw [this]
  show some (g, mkN (nmL g n) [n.p.map Int.toNat, n.c.map Int.toNat]) = _
  rw [em]
/-- Of another number of partitions it is nothing. -/
theorem takE_other {g : Nat} {n : Nt} {q k : Int} (hg : g ≤ 1099511627776) (h : Rgt n q) (hq : q ≤ 4) (hk : k ≤ 4) (hne : k ≠ q) : takE k (bytN g n) = none := by
  have h3 := tk3_of (g := g) (n := n) hg h.b1 h.a1
  have hlp := h.lp
  have hlc := h.lc
  by_cases hlt : k < q
  · refine takE_n2 (k := 1) h3 (by omega) ?_
    have t0 : tlN k 0 (numsB n.p ++ numsB n.c) = some ([], numsB n.p ++ numsB n.c) := rfl
    exact tlN_stop t0 (tl1_no (by omega) (by omega) _)
  · have t0 : tlN k 0 (numsB n.p ++ numsB n.c) = some ([], numsB n.p ++ numsB n.c) := rfl
    have t1 := tlN_succ t0 (tl1_of (by omega) hk h.pm _)
    have e2 := tl1_of (q := k) (l := n.c) (by omega) hk h.cm []
    rw [List.append_nil] at e2
    have t2 := tlN_succ t1 e2
    refine takE_n3 h3 t2 fun hc => ?_
    have := (Rgt.of hc.2.2).lp
    have e : (mkN (nmL g n) ([] ++ [n.p.map Int.toNat] ++ [n.c.map Int.toNat])).p = n.p := ib_nat fun x hx => (h.pm x hx).1
    rw [e] at this
    omega
theorem takE_nil (q : Int) : takE q [] = none := by
  refine takE_n1 (k := 1) (by omega) ?_
  have t0 : tkN 0 [] = some ([], []) := rfl
  refine tkN_stop t0 ?_
  unfold tk1
  rw [show Wm.take [] = (0, 0, 3) from rfl, if_neg (by simp)]


theorem encAll_len4 {l : List Int} (h : l.length ≤ 4) : (numsB l).length ≤ 50 := by
  have := numsB_len l; omega
theorem bytN_len {g : Nat} {n : Nt} (hp : n.p.length ≤ 4) (hc : n.c.length ≤ 4) : (bytN g n).length ≤ 130 := by
  have h1 := encAll_len (nmL g n)
  have h2 := encAll_len4 hp
  have h3 := encAll_len4 hc
  simp only [bytN, List.length_append]
  simp only [nmL, List.length_cons, List.length_nil] at h1 ⊢
  omega
theorem numsB_lt {l : List Int} (h4 : l.length ≤ 4) (h : ∀ x ∈ l, x ≤ 256) : ∀ c ∈ numsB l, c < 256 := by
  intro c hc
  unfold numsB at hc
  rcases List.mem_append.1 hc with h1 | h1
  · exact Wm.enc_lt _ (by omega) c h1
  · refine encAll_lt _ (fun x hx => ?_) c h1
    obtain ⟨y, hy, rfl⟩ := List.mem_map.1 hx
    have := h y hy
    omega
theorem bytN_lt {g : Nat} {n : Nt} {q : Int} (hg : g ≤ 1099511627776) (h : Rgt n q) (hq : q ≤ 4) : ∀ c ∈ bytN g n, c < 256 := by
  intro c hc
  unfold bytN at hc
  have h1 := h.lp
  have h2 := h.lc
  have h3 := h.a1
  have h4 := h.b1
  rcases List.mem_append.1 hc with h' | h'
  · refine encAll_lt _ (fun x hx => ?_) c h'
    simp only [nmL, List.mem_cons, List.not_mem_nil, or_false] at hx
    rcases hx with rfl | rfl | rfl <;> omega
  · rcases List.mem_append.1 h' with h' | h'
    · exact numsB_lt (by omega) (fun x hx => (h.pm x hx).2) c h'
    · exact numsB_lt (by omega) (fun x hx => (h.cm x hx).2) c h'


/-- What Open finds in the first k blocks. -/
def opK (q : Int) (S : Dk) : Nat → Option (Nat × Nat × Nt)
  | 0 => none
  | k + 1 => match takE q (readL S k) with
    | none => opK q S k
    | some e => match opK q S k with
      | none => some (k, e)
      | some f => if f.2.1 < e.1 then some (k, e) else some f
theorem opK_none {q : Int} {S : Dk} {k : Nat} (h : takE q (readL S k) = none) : opK q S (k + 1) = opK q S k := by rw [opK, h]
theorem opK_first {q : Int} {S : Dk} {k : Nat} {e : Nat × Nt} (h : takE q (readL S k) = some e) (h0 : opK q S k = none) : opK q S (k + 1) = some (k, e) := by rw [opK, h]; simp only; rw [h0]
theorem opK_more {q : Int} {S : Dk} {k : Nat} {e : Nat × Nt} {f : Nat × Nat × Nt} (h : takE q (readL S k) = some e) (h0 : opK q S k = some f) : opK q S (k + 1) = if f.2.1 < e.1 then some (k, e) else some f := by rw [opK, h]; simp only; rw [h0]
end Go.Proofs.Ytpndafieknddcaa
