/- Put that lays: the power goes within, or all is done. -/
import Derived.Test.YtakijnclllmkfabPj

namespace Go.Proofs.Ytakijnclllmkfab

open Go.RowKit



/-- A panic's post asks of the frame no more than the answer's slot. -/
theorem leaves_tmps {P : Program} {fn : Func} {t t' : Array Value} {R : Ending → World → Prop} (h : results fn t = results fn t') : ∀ (ds : List Deferred) (u : FrameMode) (w : World), Leaves P fn t R ds u w = Leaves P fn t' R ds u w := by
  intro ds
  induction ds with
  | nil => intro u w; cases u <;> simp only [Leaves, h]
  | cons d ds ih => intro u w; simp only [Leaves, ih]
theorem results_put (tmps : Array Value) (d : Nat) (v : Value) (hd : d ≠ 4) : results Try.f8 (tmps.setIfInBounds d v) = results Try.f8 tmps := by
  have e : (tmps.setIfInBounds d v)[4]? = tmps[4]? := by rw [Array.getElem?_setIfInBounds, if_neg hd]
  unfold results
  simp only [Try.results8]
  simp [e]
theorem q_put {R : Ending → World → Prop} {d : Nat} (hd : d ≠ 4) (v : Value) (c : List PanicEntry) (a : Act) (w : World) (h : bodyPostD Try.prog Try.f8 R (.panic c) (a.put (some d) v) w) : bodyPostD Try.prog Try.f8 R (.panic c) a w := by
  have e := leaves_tmps (P := Try.prog) (R := R) (results_put a.tmps d v hd) a.defers (.panicking c) w
  exact Eq.mp e h


/-- Two blocks are as they were. -/
structure Kz (w1 : World) (p pb : Nat) (wx : World) : Prop where
  k0 : wx.heap[p]? = w1.heap[p]?
  k1 : wx.heap[pb]? = w1.heap[pb]?
  sz : w1.heap.size ≤ wx.heap.size
theorem Kz.go {w1 wx wy : World} {p pb : Nat} (h : Kz w1 p pb wx) (hp : p < w1.heap.size) (hq : pb < w1.heap.size) (hb : Below wx.heap.size wx wy) : Kz w1 p pb wy :=
  ⟨by rw [hb.block p (Nat.lt_of_lt_of_le hp h.sz)]; exact h.k0, by rw [hb.block pb (Nat.lt_of_lt_of_le hq h.sz)]; exact h.k1, Nat.le_trans h.sz hb.size⟩
theorem Kz.set {w1 wx : World} {p pb g : Nat} (h : Kz w1 p pb wx) (hp : p ≠ g) (hq : pb ≠ g) (a b : Value) : Kz w1 p pb ((wx.setCell ⟨g, 0, none⟩ a).setCell ⟨g, 1, none⟩ b) :=
  ⟨by rw [set_other 1 _ hp, set_other 0 _ hp]; exact h.k0, by rw [set_other 1 _ hq, set_other 0 _ hq]; exact h.k1, by simpa using h.sz⟩
/-- lay leaves them. -/
theorem kz_lay {A A' D D' : Nat → Prop} {w1 wx w3 : World} {pb p : Nat} {tv dv : Value} {P : Bo} {S S' : Dk} (hx : Kz w1 p pb wx) (h1 : MP A D w1 pb tv dv P S) (h3 : MP A' D' w3 pb tv dv P S') (hc : Ch A wx w3) (hp : p < w1.heap.size) (hpA : ¬ A p) : Kz w1 p pb w3 :=
  ⟨by rw [hc.block p (Nat.lt_of_lt_of_le hp hx.sz) hpA]; exact hx.k0, by rw [h3.head, h1.head], Nat.le_trans hx.sz hc.size⟩


section

variable {A D : Nat → Prop} {w w' : World} {v dv tv lv : Value} {P P' : Bo} {S S' : Dk} {pb : Nat} {ps : List (Int × List Nat)} {t : List Nat}

theorem lay_bad {w1 : World} (h : MP A D w1 pb tv dv P S) (hl : Tx A w1 lv ps) (hok : Lok P.tab.length ps) (hg : P.gen < 1099511627776) (hwr : S.wr < 4611686018427387904) (hL : layS P.tab ps 1 P.tab S = (none, S')) :
    Calls Try.prog 21 #[.pointer (some ⟨pb, 0, none⟩), lv] w1 fun e w' => (∃ u pv, e = .panicked [{ v := .iface u pv, recovered := false }]) ∧ ∃ A' D', MP A' D' w' pb tv dv P S' ∧ (∀ x, A' x → A x ∨ w1.heap.size ≤ x) ∧ Ch A w1 w' := by
  refine (lay_walk h hl hok hg hwr).mono ?_
  rintro e w' ⟨A', D', h1, h2, h3, h4, h5, h6⟩
  rw [hL] at h1 h6
  exact ⟨h6 rfl, A', D', h1, h2, h3⟩
theorem lay_good {w1 : World} (h : MP A D w1 pb tv dv P S) (hl : Tx A w1 lv ps) (hok : Lok P.tab.length ps) (hg : P.gen < 1099511627776) (hwr : S.wr < 4611686018427387904) (hL : layS P.tab ps 1 P.tab S = (some t, S')) :
    Calls Try.prog 21 #[.pointer (some ⟨pb, 0, none⟩), lv] w1 fun e w' => ∃ A' D' g cap, e = .returned (.agg #[.int .u64 (P.gen + 1 : Nat), .slice (some ⟨g, 0, none⟩) t.length cap]) ∧ MP A' D' w' pb tv dv P S' ∧ (∀ x, A' x → A x ∨ w1.heap.size ≤ x) ∧ Ch A w1 w' ∧ Zt w' g cap t ∧ ¬ A' g ∧ w1.heap.size ≤ g ∧ t.length = P.tab.length ∧ S'.wr ≤ S.wr + ps.length := by
  refine (lay_walk h hl hok hg hwr).mono ?_
  rintro e w' ⟨A', D', h1, h2, h3, h4, h5, h6⟩
  rw [hL] at h1 h4 h5
  obtain ⟨g, cap, e1, e2, e3, e4, e5⟩ := h5 t rfl
  exact ⟨A', D', g, cap, e1, h1, h2, h3, e2, e3, e4, e5, h4⟩


/-- Behind a panic: the deferred function has ended the book. -/
theorem pt_down {w1 w3 : World} {A' D' : Nat → Prop} (hO : putO P S ps = (80, endB P, S')) (h : MP A' D' w3 pb tv dv P S') (hA : ∀ x, A' x → A x ∨ w.heap.size ≤ x) (hA1 : ¬ A' (w.heap.size + 1)) (hB : Below w.heap.size w w1) (hC : Ch A w1 w3) :
    Pt hdP 56 62 A w (.pointer (some ⟨pb, 0, none⟩)) dv P S ps (.returned (.int .i64 80)) ((w3.setCell ⟨pb, 4, none⟩ (.bool true)).setCell ⟨w.heap.size + 1, 0, none⟩ (.int .i64 80)) := by
  have hAp : A pb ∨ w.heap.size ≤ pb := hA pb h.ab
  refine pt_mk hO ((mp_end h).other hA1 _ _) hA (ch_new ?_ (by omega) _ _)
  refine ((Ch.of_below (D := A) hB).self hC).trans (Ch.of_grown (D := fun x => x = pb) (grown_set w3 pb 4 _) (fun x hx => by cases hx; rfl)) (fun x hx => ?_)
  subst hx; exact hAp


set_option maxRecDepth 100000 in
set_option maxHeartbeats 4000000 in
theorem put_laybad (h : MP A D w pb tv dv P S) (hl : Tx A w lv ps) (hsh : shutB P S = false) (hfa : faultI P.tab.length ps = 0) (hpe : ps ≠ []) (hgen : P.gen ≠ 1099511627776) (hwr : S.wr < 4611686018427387904) (hL : layS P.tab ps 1 P.tab S = (none, S')) :
    Calls Try.prog 8 #[.pointer (some ⟨pb, 0, none⟩), lv] w fun e w' => Pt hdP 56 62 A w (.pointer (some ⟨pb, 0, none⟩)) dv P S ps e w' := by
  have HLY : Hid (layS P.tab ps 1 P.tab S = (none, S')) := hL
  have HR : Hid (putO P S ps = (80, endB P, S')) := put_lay hsh hfa hpe hgen hL
  clear hL
  obtain ⟨w0, hw0⟩ : ∃ w0, w0 = (w.alloc (Obj.cells #[.pointer (some ⟨pb, 0, none⟩)] 25)).alloc (Obj.cells #[.int .i64 0] 34) := ⟨_, rfl⟩
  have HW0 : Hid (w0 = (w.alloc (Obj.cells #[.pointer (some ⟨pb, 0, none⟩)] 25)).alloc (Obj.cells #[.int .i64 0] 34)) := hw0
  obtain ⟨hz, hB0, hs0⟩ := pz_start hw0
  have HZ : Hid (Pz w pb w0) := hz
  have HB0 : Hid (Below w.heap.size w w0) := hB0
  have HM0 : Hid (MP A D w0 pb tv dv P S) := h.below hB0
  have HAL : Hid (∀ x, A x → x < w.heap.size) := h.al
  have HL0 : Hid (Tx A w0 lv ps) := hl.below hB0
  obtain ⟨lo, lc, rfl, hl1, hl2⟩ := hl.form
  have hli : (ps.length : Int) ≤ 9223372036854775807 := by simp only [maxLen] at hl2; omega
  have HSH : Hid (shutB P S = false) := hsh
  have HFA : Hid (faultI P.tab.length ps = 0) := hfa
  have HLO : Hid (Lok P.tab.length ps) := (fault_ok ps [] hfa).1
  have hpl : 0 < ps.length := List.length_pos_iff.2 hpe
  have hpb : ((ps.length : Int) == 0) = false := by simp; omega
  have HPE : Hid (ps ≠ []) := hpe
  have HG : Hid (P.gen ≠ 1099511627776) := hgen
  have HGL : Hid (P.gen < 1099511627776) := by show _ < _; have := h.ok.g40; omega
  have hgb : ((P.gen : Int) == 1099511627776) = false := by simp; omega
  have HWR : Hid (S.wr < 4611686018427387904) := hwr
  have HHO : Hid (P.home ≤ 1) := h.ok.h2
  have hho : (P.home : Int) ≤ 1 := by have := h.ok.h2; omega
  have r1 : IntKind.i64.wrap (1 - (P.home : Int)) = ((1 - P.home : Nat) : Int) := by have := h.ok.h2; rw [IntKind.wrap_i64]; omega
  have hmf : ∀ (fn : Fn) (first cap : Array Value) (w : World), (Instr.makeFunc fn first cap).run Try.prog w = .ok (.func fn first cap) w := fun _ _ _ _ => rfl
  clear hw0 hl1 hl2 h hl hz hB0 hfa hpe hgen hwr hsh hpl
  go_enter_defers Try.func8, Try.ntmps8
  go_wp2_with fail
  rw [← HW0.out]
  refine (prefuses_ok HM0.out HSH.out).mono ?_
  rintro e w9 ⟨rfl, h9⟩
  have h9 := h9.symm
  subst h9
  have k0 := HZ.out.c0
  go_wp2_with fail
  refine (fault_walk HM0.out HL0.out).mono ?_
  rw [HFA.out]
  rintro e w1 ⟨rfl, hB1⟩
  have HB1 : Hid (Below w0.heap.size w0 w1) := hB1
  have HZ1 : Hid (Pz w pb w1) := HZ.out.below hB1
  have HM1 : Hid (MP A D w1 pb tv dv P S) := HM0.out.below hB1
  have HL1 : Hid (Tx A w1 (.slice lo ps.length lc) ps) := HL0.out.below hB1
  have HBW : Hid (Below w.heap.size w w1) := below_trans HB0.out hB1
  have HS1 : Hid (w.heap.size + 1 < w1.heap.size) := cell_lt HZ1.out.c1
  have k2 := HZ1.out.c0
  have k3 := mp0 HM1.out
  clear hB1 k0 hs0
  go_wp2_with fail
  have j0 : ∀ wx, Kz w1 w.heap.size pb wx → wx.cell? ⟨w.heap.size, 0, none⟩ = some (.pointer (some ⟨pb, 0, none⟩)) := fun wx hx => by rw [World.cell?_of_block (w := w1) (a := ⟨w.heap.size, 0, none⟩) hx.k0]; exact HZ1.out.c0
  have j1 : ∀ wx, Kz w1 w.heap.size pb wx → wx.cell? ⟨pb, 3, none⟩ = some (.int .i64 P.home) := fun wx hx => by rw [World.cell?_of_block (w := w1) (a := ⟨pb, 3, none⟩) hx.k1]; exact mp3 HM1.out
  have hSd : Kz w1 w.heap.size pb w1.drew := ⟨rfl, rfl, Nat.le_refl _⟩
  have HPL : Hid (pb < w.heap.size) := HAL.out _ HM1.out.ab
  clear k2 k3
  refine wp_region_held_drew (S := fun wx => Kz w1 w.heap.size pb wx) (by kernel_rfl) ?_ (fun hHeld => ?_)
  · exact hSd
  refine wpAnyH_take (i := 0) (oi := ⟨some 32, _, _, _, _, _⟩) (v := ?_) rfl (by kernel_rfl) (by kernel_rfl) (by kernel_rfl) (fun c a w h => q_put (by decide) _ c a w h) (Or.inl ⟨by rfl, ?_⟩) (by assumption) ?_
  rotate_left
  · intro w hSw; (try dsimp only at hSw); go_simp; all_goals (with_reducible rfl)
  try simp only [Act.put, List.setIfInBounds_toArray, List.set_cons_zero, List.set_cons_succ]
  refine wpAnyH_take (i := 1) (oi := ⟨some 33, _, _, _, _, _⟩) (v := ?_) rfl (by kernel_rfl) (by kernel_rfl) (by kernel_rfl) (fun c a w h => q_put (by decide) _ c a w h) (Or.inl ⟨by rfl, ?_⟩) (by assumption) ?_
  rotate_left
  · intro w hSw; (try dsimp only at hSw); go_simp; all_goals (with_reducible rfl)
  try simp only [Act.put, List.setIfInBounds_toArray, List.set_cons_zero, List.set_cons_succ]
  refine wpAnyH_take (i := 3) (oi := ⟨some 35, _, _, _, _, _⟩) (v := ?_) rfl (by kernel_rfl) (by kernel_rfl) (by kernel_rfl) (fun c a w h => q_put (by decide) _ c a w h) (Or.inl ⟨by rfl, ?_⟩) (by assumption) ?_
  rotate_left
  · intro w hSw; (try dsimp only at hSw); go_simp; all_goals (with_reducible rfl)
  try simp only [Act.put, List.setIfInBounds_toArray, List.set_cons_zero, List.set_cons_succ]
  refine wpAnyH_take (i := 4) (oi := ⟨some 36, _, _, _, _, _⟩) (v := ?_) rfl (by kernel_rfl) (by kernel_rfl) (by kernel_rfl) (fun c a w h => q_put (by decide) _ c a w h) (Or.inl ⟨by rfl, ?_⟩) (by assumption) ?_
  rotate_left
  · intro w hSw; (try dsimp only at hSw); go_simp; all_goals (with_reducible rfl)
  try simp only [Act.put, List.setIfInBounds_toArray, List.set_cons_zero, List.set_cons_succ]
  refine wpAnyH_take (i := 5) (oi := ⟨some 37, _, _, _, _, _⟩) (v := ?_) rfl (by kernel_rfl) (by kernel_rfl) (by kernel_rfl) (fun c a w h => q_put (by decide) _ c a w h) (Or.inl ⟨by rfl, ?_⟩) (by assumption) ?_
  rotate_left
  · intro w hSw; (try dsimp only at hSw); go_simp; all_goals (with_reducible rfl)
  try simp only [Act.put, List.setIfInBounds_toArray, List.set_cons_zero, List.set_cons_succ]
  refine wpAnyH_take (i := 6) (oi := ⟨some 38, _, _, _, _, _⟩) (v := ?_) rfl (by kernel_rfl) (by kernel_rfl) (by kernel_rfl) (fun c a w h => q_put (by decide) _ c a w h) (Or.inl ⟨by rfl, ?_⟩) (by assumption) ?_
  rotate_left
  · intro w hSw; (try dsimp only at hSw); go_simp; all_goals (with_reducible rfl)
  try simp only [Act.put, List.setIfInBounds_toArray, List.set_cons_zero, List.set_cons_succ]
  refine wpAnyH_take (i := 7) (oi := ⟨some 39, _, _, _, _, _⟩) (v := ?_) rfl (by kernel_rfl) (by kernel_rfl) (by kernel_rfl) (fun c a w h => q_put (by decide) _ c a w h) (Or.inl ⟨by rfl, ?_⟩) (by assumption) ?_
  rotate_left
  · intro w hSw; (try dsimp only at hSw); go_simp; all_goals (with_reducible rfl)
  try simp only [Act.put, List.setIfInBounds_toArray, List.set_cons_zero, List.set_cons_succ]
  refine wpAnyH_ready (rs := [2, 8]) (by kernel_rfl) (by simp) ?_
  have hb1 : Below w1.heap.size w1 w1.drew := below_drewN _ _
  refine AllReadyH.cons (o := ⟨some 34, _, _, _, _, _⟩) rfl (fun K hK => ?_) ?_
  · go_simp
    refine (lay_bad (HM1.out.below hb1) (HL1.out.below hb1) HLO.out HGL.out HWR.out HLY.out).mono ?_
    rintro e w3 ⟨⟨pu, pv, rfl⟩, A', D', hM3, hA3, hC3⟩
    have hC3' : Ch A w1 w3 := (Ch.of_below hb1).self hC3
    have hz3 : Pz w pb w3 := HZ1.out.ch hC3' (fun e => by have := HAL.out _ e; omega) (fun e => by have := HAL.out _ e; omega)
    have hA1 : ¬ A' (w.heap.size + 1) := fun e => by
      rcases hA3 _ e with q | q
      · have := HAL.out _ q; omega
      · have h1 := HS1.out; have h2 := Below.size hb1; omega
    refine leaves_cons (f := 20) (args := #[.pointer (some ⟨w.heap.size, 0, none⟩), .pointer (some ⟨w.heap.size + 1, 0, none⟩)]) (by simp) (by simp [go_sem]) ?_
    refine (pcatch_panicking pu pv [] w3 hz3.c0 (mp4 hM3) (hM3.soft 4) hz3.c1 hz3.f1).mono ?_
    rintro e u' w'' ⟨rfl, rfl, rfl⟩
    exact ⟨.int .i64 80, by simp [results, Try.results8, go_sem, hz3.c1], pt_down HR.out hM3 (fun x hx => by
      rcases hA3 x hx with q | q
      · exact .inl q
      · have h1 := HS1.out; have h2 := Below.size hb1; exact .inr (by omega)) hA1 HBW.out hC3'⟩
  · refine AllReadyH.cons (o := ⟨some 7, _, _, _, _, _⟩) rfl (fun K hK => ?_) AllReadyH.nil
    go_simp
    refine hK.out _ _ ?_ (fun hHeld => ?_)
    · exact Kz.go hSd (by have := HS1.out; omega) (by have h1 := HS1.out; have h2 := HPL.out; omega) (below_alloc _ _)
    clear hK K
    try simp only [Act.put, List.setIfInBounds_toArray, List.set_cons_zero, List.set_cons_succ]
    have hb2 := below_trans hb1 (below_alloc w1.drew (Obj.cells #[.int .u64 0, .slice none 0 0] 54))
    refine wpAnyH_ready (rs := [2]) (by kernel_rfl) (by simp) ?_
    refine AllReadyH.cons (o := ⟨some 34, _, _, _, _, _⟩) rfl (fun K hK => ?_) AllReadyH.nil
    go_simp
    refine (lay_bad (HM1.out.below hb2) (HL1.out.below hb2) HLO.out HGL.out HWR.out HLY.out).mono ?_
    rintro e w3 ⟨⟨pu, pv, rfl⟩, A', D', hM3, hA3, hC3⟩
    have hC3' : Ch A w1 w3 := (Ch.of_below hb2).self hC3
    have hz3 : Pz w pb w3 := HZ1.out.ch hC3' (fun e => by have := HAL.out _ e; omega) (fun e => by have := HAL.out _ e; omega)
    have hA1 : ¬ A' (w.heap.size + 1) := fun e => by
      rcases hA3 _ e with q | q
      · have := HAL.out _ q; omega
      · have h1 := HS1.out; have h2 := Below.size hb2; omega
    refine leaves_cons (f := 20) (args := #[.pointer (some ⟨w.heap.size, 0, none⟩), .pointer (some ⟨w.heap.size + 1, 0, none⟩)]) (by simp) (by simp [go_sem]) ?_
    refine (pcatch_panicking pu pv [] w3 hz3.c0 (mp4 hM3) (hM3.soft 4) hz3.c1 hz3.f1).mono ?_
    rintro e u' w'' ⟨rfl, rfl, rfl⟩
    exact ⟨.int .i64 80, by simp [results, Try.results8, go_sem, hz3.c1], pt_down HR.out hM3 (fun x hx => by
      rcases hA3 x hx with q | q
      · exact .inl q
      · have h1 := HS1.out; have h2 := Below.size hb2; exact .inr (by omega)) hA1 HBW.out hC3'⟩
end

end Go.Proofs.Ytakijnclllmkfab


