/- Put, with its deferred function. -/
import Derived.Test.YtakijnclllmkfabPi

import Derived.Defers

import Derived.Recover

namespace Go.Proofs.Ytakijnclllmkfab

open Go.RowKit



section

variable {A D : Nat → Prop} {w w' : World} {v dv tv lv : Value} {P P' : Bo} {S S' : Dk} {pb : Nat} {ps : List (Int × List Nat)}

theorem pcatch_panicking {p q : Nat} {o : Bool} {f : Int} (u : TypeId) (pv : Value) (older : List PanicEntry) (w : World) (h1 : w.cell? ⟨p, 0, none⟩ = some (.pointer (some ⟨pb, 0, none⟩))) (h2 : w.cell? ⟨pb, 4, none⟩ = some (.bool o)) (f2 : w.frozen? ⟨pb, 4, none⟩ = false)
    (h3 : w.cell? ⟨q, 0, none⟩ = some (.int .i64 f)) (f3 : w.frozen? ⟨q, 0, none⟩ = false) :
    CallsD Try.prog 20 #[.pointer (some ⟨p, 0, none⟩), .pointer (some ⟨q, 0, none⟩)] (.panicking ({ v := .iface u pv, recovered := false } :: older)) w fun e u' w' =>
      e = .returned (.tuple #[]) ∧ u' = .panicking ({ v := .iface u pv, recovered := true } :: older) ∧ w' = (w.setCell ⟨pb, 4, none⟩ (.bool true)).setCell ⟨q, 0, none⟩ (.int .i64 80) := by
  refine callsD_of_wpS Try.func20 rfl fun c₀ cs hu => ?_
  apply wpS_seq
  apply wpS_region
  simp [wpOpsS, go_sem, recoverD, hu, Try.ntmps20, Exit.thenS]
  refine wpS_cond (t := true) (by simp [Act.eval, Array.replicate]) ?_
  simp only [if_true]
  apply wpS_seq
  apply wpS_region
  simp [wpOpsS, go_sem, h1, h2, f2, Exit.thenS]
  apply wpS_region
  simp [wpOpsS, go_sem, h3, f3, bodyPostS, results, Try.results20]
theorem pcatch_idle (p q : Addr) (w : World) :
    CallsD Try.prog 20 #[.pointer (some p), .pointer (some q)] .returning w fun e u' w' => e = .returned (.tuple #[]) ∧ u' = .returning ∧ w' = w := by
  refine callsD_of_wpS Try.func20 rfl fun c₀ cs hu => ?_
  apply wpS_seq
  apply wpS_region
  simp [wpOpsS, go_sem, recoverD, hu, Try.ntmps20, Exit.thenS]
  refine wpS_cond (t := false) (by simp [Act.eval, Array.replicate]) ?_
  simp only [Bool.false_eq_true, if_false]
  refine wpS_of_wp (wp_skip ?_)
  cases c₀
  simp_all [bodyPostS, results, Try.results20]


/-- What Put leaves: of the program's or the reference's book. -/
def Pt (F : Value → Value → Bo → Array Value) (TB TD : TypeId) (A : Nat → Prop) (w : World) (v dv : Value) (P : Bo) (S : Dk) (ps : List (Int × List Nat)) (e : Ending) (w' : World) : Prop :=
  e = .returned (.int .i64 (putO P S ps).1) ∧ (∃ A', Bk F TB TD A' w' v dv (putO P S ps).2.1 (putO P S ps).2.2 ∧ ∀ x, A' x → A x ∨ w.heap.size ≤ x) ∧ Ch A w w'
theorem pt_mk {F : Value → Value → Bo → Array Value} {TB TD : TypeId} {A' D' : Nat → Prop} {c : Int} (hO : putO P S ps = (c, P', S')) (h : BM F TB TD A' D' w' pb tv dv P' S') (hA : ∀ x, A' x → A x ∨ w.heap.size ≤ x) (hC : Ch A w w') : Pt F TB TD A w (.pointer (some ⟨pb, 0, none⟩)) dv P S ps (.returned (.int .i64 c)) w' :=
  ⟨by rw [hO], ⟨A', by rw [hO]; exact ⟨D', pb, tv, rfl, h⟩, hA⟩, hC⟩


/-- The call's own two blocks: the book's pointer, the answer. -/
structure Pz (w : World) (pb : Nat) (wx : World) : Prop where
  c0 : wx.cell? ⟨w.heap.size, 0, none⟩ = some (.pointer (some ⟨pb, 0, none⟩))
  c1 : wx.cell? ⟨w.heap.size + 1, 0, none⟩ = some (.int .i64 0)
  f1 : wx.frozen? ⟨w.heap.size + 1, 0, none⟩ = false
theorem Pz.ch {E : Nat → Prop} {wx wy : World} (h : Pz w pb wx) (hc : Ch E wx wy) (h0 : ¬ E w.heap.size) (h1 : ¬ E (w.heap.size + 1)) : Pz w pb wy :=
  ⟨by rw [World.cell?_of_block (w := wx) (a := ⟨w.heap.size, 0, none⟩) (hc.block _ (cell_lt h.c0) h0)]; exact h.c0, by rw [World.cell?_of_block (w := wx) (a := ⟨w.heap.size + 1, 0, none⟩) (hc.block _ (cell_lt h.c1) h1)]; exact h.c1,
   by rw [World.frozen?_of_block (w := wx) (a := ⟨w.heap.size + 1, 0, none⟩) (hc.block _ (cell_lt h.c1) h1)]; exact h.f1⟩
theorem Pz.below {wx wy : World} (h : Pz w pb wx) (hb : Below wx.heap.size wx wy) : Pz w pb wy := h.ch (Ch.of_below (D := fun _ => False) hb) (fun e => e) (fun e => e)
theorem pz_start {w0 : World} (hw : w0 = (w.alloc (Obj.cells #[.pointer (some ⟨pb, 0, none⟩)] 25)).alloc (Obj.cells #[.int .i64 0] 34)) : Pz w pb w0 ∧ Below w.heap.size w w0 ∧ w0.heap.size = w.heap.size + 2 := by
  subst hw
  refine ⟨⟨?_, ?_, ?_⟩, below_trans (below_alloc _ _) (below_alloc _ _), by simp⟩
  all_goals simp [go_sem]


theorem put_nil : Calls Try.prog 8 #[.pointer none, lv] w fun e w' => e = .returned (.int .i64 2) ∧ Below w.heap.size w w' := by
  go_enter_defers Try.func8, Try.ntmps8
  go_wp2_with fail
  refine (prefuses_nil).mono ?_
  rintro e w9 ⟨rfl, h9⟩
  have h9 := h9.symm
  subst h9
  go_wp2_with fail
  exact ⟨.int .i64 2, by simp [results, Try.results8, go_sem], rfl, below_trans (below_alloc _ _) (below_alloc _ _)⟩


set_option maxRecDepth 100000 in
set_option maxHeartbeats 2000000 in
/-- Put where nothing is laid. -/
theorem put_small (h : MP A D w pb tv dv P S) (hl : Tx A w lv ps) (hs : shutB P S = true ∨ faultI P.tab.length ps ≠ 0 ∨ ps = [] ∨ P.gen = 1099511627776) :
    Calls Try.prog 8 #[.pointer (some ⟨pb, 0, none⟩), lv] w fun e w' => Pt hdP 56 62 A w (.pointer (some ⟨pb, 0, none⟩)) dv P S ps e w' := by
  obtain ⟨w0, hw0⟩ : ∃ w0, w0 = (w.alloc (Obj.cells #[.pointer (some ⟨pb, 0, none⟩)] 25)).alloc (Obj.cells #[.int .i64 0] 34) := ⟨_, rfl⟩
  have HW0 : Hid (w0 = (w.alloc (Obj.cells #[.pointer (some ⟨pb, 0, none⟩)] 25)).alloc (Obj.cells #[.int .i64 0] 34)) := hw0
  obtain ⟨hz, hB0, hs0⟩ := pz_start hw0
  have HZ : Hid (Pz w pb w0) := hz
  have HB0 : Hid (Below w.heap.size w w0) := hB0
  have HM0 : Hid (MP A D w0 pb tv dv P S) := h.below hB0
  have HAL : Hid (∀ x, A x → x < w.heap.size) := h.al
  have HL0 : Hid (Tx A w0 lv ps) := hl.below hB0
  obtain ⟨lo, lc, rfl, hl1, hl2⟩ := hl.form
  have hli : (ps.length : Int) ≤ 9223372036854775807 := by simp only [maxLen] at hl2; omega
  clear hw0 hs0 hl1 hl2
  cases hsh : shutB P S
  · have HSH : Hid (shutB P S = false) := hsh
    have hs2 : faultI P.tab.length ps ≠ 0 ∨ ps = [] ∨ P.gen = 1099511627776 := by
      rcases hs with e | e
      · rw [hsh] at e; cases e
      · exact e
    clear hs hsh
    by_cases hfa : faultI P.tab.length ps ≠ 0
    · have HR : Hid (putO P S ps = (faultI P.tab.length ps, P, S)) := put_fault HSH.out hfa
      obtain ⟨c, hc⟩ : ∃ c, c = faultI P.tab.length ps := ⟨_, rfl⟩
      have HC : Hid (c = faultI P.tab.length ps) := hc
      rw [← hc] at hfa HR
      have hcb : (c != 0) = true := by simpa using hfa
      clear h hl hs2 hz hB0 hc
      go_enter_defers Try.func8, Try.ntmps8
      go_wp2_with fail
      rw [← HW0.out]
      refine (prefuses_ok HM0.out HSH.out).mono ?_
      rintro e w9 ⟨rfl, h9⟩
      have h9 := h9.symm
      subst h9
      have k0 := HZ.out.c0
      go_wp2_with fail
      refine (fault_walk HM0.out HL0.out).mono ?_
      rw [← HC.out]
      rintro e w1 ⟨rfl, hB1⟩
      have HB1 : Hid (Below w0.heap.size w0 w1) := hB1
      have k1 := (HZ.out.below hB1).c1
      have g1 := (HZ.out.below hB1).f1
      clear hB1 k0
      go_wp2_with fail
      exact ⟨.int .i64 c, by simp [results, Try.results8, go_sem, k1],
        pt_mk HR.out ((HM0.out.below HB1.out).other (fun e => by have := HAL.out _ e; omega) _ _) (fun x hx => .inl hx) (ch_new (Ch.of_below (below_trans HB0.out HB1.out)) (by omega) _ _)⟩
    · have HFA : Hid (faultI P.tab.length ps = 0) := Classical.not_not.1 hfa
      by_cases hpe : ps = []
      · have HR : Hid (putO P S ps = (0, P, S)) := put_empty HSH.out hpe
        have hpl : (ps.length : Int) = 0 := by rw [hpe]; rfl
        have hpb : ((ps.length : Int) == 0) = true := by rw [hpe]; rfl
        clear h hl hs2 hz hB0 hfa hpe hpl
        go_enter_defers Try.func8, Try.ntmps8
        go_wp2_with fail
        rw [← HW0.out]
        refine (prefuses_ok HM0.out HSH.out).mono ?_
        rintro e w9 ⟨rfl, h9⟩
        have h9 := h9.symm
        subst h9
        have k0 := HZ.out.c0
        go_wp2_with fail
        refine (fault_walk HM0.out HL0.out).mono ?_
        rw [HFA.out]
        rintro e w1 ⟨rfl, hB1⟩
        have HB1 : Hid (Below w0.heap.size w0 w1) := hB1
        have k1 := (HZ.out.below hB1).c1
        have g1 := (HZ.out.below hB1).f1
        clear hB1 k0
        go_wp2_with fail
        exact ⟨.int .i64 0, by simp [results, Try.results8, go_sem, k1],
          pt_mk HR.out ((HM0.out.below HB1.out).other (fun e => by have := HAL.out _ e; omega) _ _) (fun x hx => .inl hx) (ch_new (Ch.of_below (below_trans HB0.out HB1.out)) (by omega) _ _)⟩
      · have hgen : P.gen = 1099511627776 := by
          rcases hs2 with e | e | e
          · exact absurd e hfa
          · exact absurd e hpe
          · exact e
        have HR : Hid (putO P S ps = (92, P, S)) := put_room HSH.out HFA.out hpe hgen
        have hpl : 0 < ps.length := List.length_pos_iff.2 hpe
        have hpb : ((ps.length : Int) == 0) = false := by simp; omega
        have HG : Hid (P.gen = 1099511627776) := hgen
        clear h hl hs2 hz hB0 hfa hpe hgen hpl
        go_enter_defers Try.func8, Try.ntmps8
        go_wp2_with fail
        rw [← HW0.out]
        refine (prefuses_ok HM0.out HSH.out).mono ?_
        rintro e w9 ⟨rfl, h9⟩
        have h9 := h9.symm
        subst h9
        have k0 := HZ.out.c0
        go_wp2_with fail
        refine (fault_walk HM0.out HL0.out).mono ?_
        rw [HFA.out]
        rintro e w1 ⟨rfl, hB1⟩
        have HB1 : Hid (Below w0.heap.size w0 w1) := hB1
        have k2 := (HZ.out.below hB1).c0
        have k1 := (HZ.out.below hB1).c1
        have g1 := (HZ.out.below hB1).f1
        have k3 : w1.cell? ⟨pb, 0, none⟩ = some (.int .u64 1099511627776) := by rw [mp0 (HM0.out.below hB1), HG.out]; rfl
        clear hB1 k0
        go_wp2_with fail
        exact ⟨.int .i64 92, by simp [results, Try.results8, go_sem, k1],
          pt_mk HR.out ((HM0.out.below HB1.out).other (fun e => by have := HAL.out _ e; omega) _ _) (fun x hx => .inl hx) (ch_new (Ch.of_below (below_trans HB0.out HB1.out)) (by omega) _ _)⟩
  · have HSH : Hid (shutB P S = true) := hsh
    have HR : Hid (putO P S ps = (80, endB P, S)) := put_shut hsh
    clear h hl hs hsh hz hB0
    go_enter_defers Try.func8, Try.ntmps8
    go_wp2_with fail
    rw [← HW0.out]
    refine (prefuses_shut HM0.out HSH.out).mono ?_
    rintro e w1 ⟨rfl, hM1, hC1⟩
    have hz1 : Pz w pb w1 := HZ.out.ch hC1 (fun e => by have := HAL.out _ e; omega) (fun e => by have := HAL.out _ e; omega)
    have k1 := hz1.c1
    have g1 := hz1.f1
    go_wp2_with fail
    exact ⟨.int .i64 80, by simp [results, Try.results8, go_sem, k1],
      pt_mk HR.out (hM1.other (fun e => by have := HAL.out _ e; omega) _ _) (fun x hx => .inl hx) (ch_new ((Ch.of_below (D := A) HB0.out).self hC1) (by omega) _ _)⟩
end

end Go.Proofs.Ytakijnclllmkfab


