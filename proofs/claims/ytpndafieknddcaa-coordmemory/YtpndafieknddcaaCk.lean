/- advance: the first try goes. -/
import Derived.Test.YtpndafieknddcaaCj
namespace Go.Proofs.Ytpndafieknddcaa

open Ieee Go.RowKit

theorem lit1 (w : World) (x : Int) : OwN w.heap.size (w.alloc (.cells #[.int .i64 x] 3)) (.slice (some ⟨w.heap.size, 0, none⟩) 1 1) [x] := by
  have := World.ownsRow_lit (base := w.heap.size) (e := 3) (size := 1) w (cellsN [x]).toArray 1 (Nat.le_refl _) (by simp [maxLen]) (by simp)
  exact this
theorem lit2 (w : World) (x y : Int) : OwN w.heap.size (w.alloc (.cells #[.int .i64 x, .int .i64 y] 3)) (.slice (some ⟨w.heap.size, 0, none⟩) 2 2) [x, y] := by
  have := World.ownsRow_lit (base := w.heap.size) (e := 3) (size := 1) w (cellsN [x, y]).toArray 2 (Nat.le_refl _) (by simp [maxLen]) (by simp)
  exact this
theorem nv1 (w : World) (x : Int) (h0 : 0 ≤ x) (h1 : x ≤ 256) : Nv (w.alloc (.cells #[.int .i64 x] 3)) (.slice (some ⟨w.heap.size, 0, none⟩) 1 1) [x] := own_nv (lit1 w x) (fun v hv => by simp at hv; omega)
/-- What a call answers that may send and cannot fail. -/
def CwS (wz : World) (A : Nat → Prop) (sb cb : Nat) (c' : Cs) (mo : Option Ms) (w : World) (e : Ending) (w' : World) : Prop := ∃ v B, e = .returned v ∧ MgR B w' v mo ∧ (∀ x, B x → w.heap.size ≤ x) ∧ CW wz (fun x => A x ∨ B x) sb cb c' w' ∧ ChA wz A w w'
theorem CW.or0 {wz w : World} {A : Nat → Prop} {sb cb : Nat} {c : Cs} (h : CW wz A sb cb c w) : CW wz (fun x => A x ∨ False) sb cb c w := h.less (fun _ hx => hx.elim id False.elim)
theorem cws_none {wz w w' : World} {A : Nat → Prop} {sb cb : Nat} {c' : Cs} (h : CW wz A sb cb c' w') (hc : ChA wz A w w') : CwS wz A sb cb c' none w (.returned (.slice none 0 0)) w' := ⟨_, fun _ => False, rfl, rfl, fun _ hx => hx.elim, h.or0, hc⟩
theorem MgR.nil_or {B : Nat → Prop} {w : World} {v : Value} {mo : Option Ms} (h : MgR B w v mo) : ∃ a n c, v = .slice a n c := by
  cases mo with
  | none => exact ⟨_, _, _, h⟩
  | some m => obtain ⟨g, ev, e, _⟩ := h; exact ⟨_, _, _, e⟩
def goY (y : Yt) : Yt := { y with h := 3, t := 0 }
def advL : List Yt → List Yt
  | [] => []
  | y :: t => if inPh [2] y = true then goY y :: t else y :: t
def advM : List Yt → Option Ms
  | [] => none
  | y :: _ => if inPh [2] y = true then some (abtM 3 (goY y) y.e) else none
theorem idxY_head {f : Yt → Bool} {y : Yt} {t : List Yt} (h : f y = true) : idxY f (y :: t) 0 = 0 := by rw [idxY, if_pos h]; rfl
theorem idxY_not (f : Yt → Bool) (L : List Yt) (h : ∀ y t, L = y :: t → f y = false) : idxY f L 0 ≠ 0 := by
  cases L with
  | nil => rw [idxY]; decide
  | cons y t =>
    rw [idxY, if_neg (by rw [h y t rfl]; simp)]
    rcases idxY_cases f t (0 + 1) with ⟨h1, _⟩ | ⟨i, _, h1, _⟩
    · rw [h1]; decide
    · rw [h1]; omega
section

variable {wz w w' w2 : World} {A E C : Nat → Prop} {sb cb jb : Nat} {c : Cs} {p : Pn} {q : Int} {J : Jn} {S : Dk} {F dv jv tv : Value} {f : Yt → Bool} {V : List Ye} {o : Bool}

theorem adv_end {w4 w5 : World} {y : Yt} {t : List Yt} {ea : Option Addr} {ec : Nat} (hcw : CW wz A sb cb { c with L := advL c.L } w4) (hch : ChA wz A w w4) (hL : c.L = y :: t) (h2 : inPh [2] y = true) (ho : OwN w4.heap.size w5 (.slice ea y.e.length ec) y.e) (hb : Below w4.heap.size w4 w5) :
    CwS wz A sb cb { c with L := advL c.L } (advM c.L) w (.returned (.slice (some ⟨w5.heap.size, 0, none⟩) 1 1)) (w5.alloc (Obj.cells #[.int .i64 3, .int .i64 0, .int .i64 y.n, .int .i64 y.b, .int .i64 y.a, .int .i64 0, .slice ea y.e.length ec, .slice none 0 0, .slice none 0 0] 41)) := by
  have hb8 : Below w4.heap.size w4 (w5.alloc (Obj.cells #[.int .i64 3, .int .i64 0, .int .i64 y.n, .int .i64 y.b, .int .i64 y.a, .int .i64 0, .slice ea y.e.length ec, .slice none 0 0, .slice none 0 0] 41)) := below_trans hb (below_alloc _ _)
  refine ⟨.slice (some ⟨w5.heap.size, 0, none⟩) 1 1, fun x => w4.heap.size ≤ x ∧ x < (w5.alloc (Obj.cells #[.int .i64 3, .int .i64 0, .int .i64 y.n, .int .i64 y.b, .int .i64 y.a, .int .i64 0, .slice ea y.e.length ec, .slice none 0 0, .slice none 0 0] 41)).heap.size, rfl, ?_, fun x hx => Nat.le_trans hch.size hx.1, hcw.more hb8, hch.self (Ch.of_below hb8)⟩
  rw [hL, advM, if_pos h2]
  refine ⟨w5.heap.size, .slice ea y.e.length ec, rfl, alloc_at rfl, own_base (own_below ho (below_alloc _ _)) (Nat.zero_le _), ⟨hb.size, by simp⟩, fun x hx => ⟨(ho.lt x hx).1, ?_⟩⟩
  have := (ho.lt x hx).2
  simp; omega
set_option maxRecDepth 100000 in
set_option maxHeartbeats 2000000 in
theorem advance_walk (h : CW wz A sb cb c w) : Calls Try.prog 63 #[Pt cb] w (CwS wz A sb cb { c with L := advL c.L } (advM c.L) w) := by
  have HC : Hid (CW wz A sb cb c w) := h
  have hbl := below_alloc w (.cells #[.int .i64 2] 3)
  obtain ⟨w0, hw0⟩ : ∃ w0, w0 = w.alloc (.cells #[.int .i64 2] 3) := ⟨_, rfl⟩
  have HW0 : Hid (w0 = w.alloc (.cells #[.int .i64 2] 3)) := hw0
  have HB0 : Hid (Below w.heap.size w w0) := by show Below _ _ _; rw [hw0]; exact hbl
  have HNV : Hid (Nv w0 (.slice (some ⟨w.heap.size, 0, none⟩) 1 1) [2]) := by show Nv _ _ _; rw [hw0]; exact nv1 w 2 (by omega) (by omega)
  clear h hbl hw0
  by_cases hh : ∃ y t, c.L = y :: t ∧ inPh [2] y = true
  rotate_left
  · have HI : Hid (idxY (inPh [2]) c.L 0 ≠ 0) := idxY_not _ _ (fun y t e => by
      cases hq : inPh [2] y
      · rfl
      · exact absurd ⟨y, t, e, hq⟩ hh)
    have HE : Hid (({ c with L := advL c.L } : Cs) = c ∧ advM c.L = none) := by
      show _ ∧ _
      cases hL : c.L with
      | nil => exact ⟨by cases c; simp only at hL; subst hL; rfl, rfl⟩
      | cons y t =>
        have hq : ¬ inPh [2] y = true := fun e => hh ⟨y, t, hL, e⟩
        exact ⟨by rw [advL, if_neg hq, ← hL], by rw [advM, if_neg hq]⟩
    rw [HE.out.1, HE.out.2]
    obtain ⟨ix, hix⟩ : ∃ ix, ix = idxY (inPh [2]) c.L 0 := ⟨_, rfl⟩
    have q0 : (ix != 0) = true := by rw [hix]; simpa using HI.out
    have HIX : Hid (ix = idxY (inPh [2]) c.L 0) := hix
    clear hh hix
    go_enter Try.func63, Try.ntmps63
    go_wp2_with fail
    rw [← HW0.out]
    refine (inPhase_walk HNV.out).mono ?_
    rintro e w1 ⟨F, rfl, hP, hB1⟩
    have HP : Hid (Pk w1 F (inPh [2])) := hP
    have HB1 : Hid (Below w.heap.size w w1) := HB0.out.trans (hB1.mono HB0.out.size)
    clear hP hB1
    go_wp2_with fail
    refine (find_walk (HC.out.below HB1.out) HP.out).mono ?_
    rw [← HIX.out]
    rintro e w2 ⟨rfl, hB2⟩
    have HB2 : Hid (Below w.heap.size w w2) := HB1.out.trans (hB2.mono HB1.out.size)
    clear hB2
    go_wp2_with fail
    go_ret
    exact cws_none (HC.out.below HB2.out) (Ch.of_below HB2.out)
  · obtain ⟨y, t, hL, h2⟩ := hh
    have HI : Hid (idxY (inPh [2]) c.L 0 = 0) := by show _ = _; rw [hL]; exact idxY_head h2
    have HL : Hid (c.L = y :: t) := hL
    have H22 : Hid (inPh [2] y = true) := h2
    clear hL h2
    go_enter Try.func63, Try.ntmps63
    go_wp2_with fail
    rw [← HW0.out]
    refine (inPhase_walk HNV.out).mono ?_
    rintro e w1 ⟨F, rfl, hP, hB1⟩
    have HP : Hid (Pk w1 F (inPh [2])) := hP
    have HB1 : Hid (Below w.heap.size w w1) := HB0.out.trans (hB1.mono HB0.out.size)
    clear hP hB1
    go_wp2_with fail
    refine (find_walk (HC.out.below HB1.out) HP.out).mono ?_
    rw [HI.out]
    rintro e w2 ⟨rfl, hB2⟩
    have HB2 : Hid (Below w.heap.size w w2) := HB1.out.trans (hB2.mono HB1.out.size)
    have hc2 := HC.out.below HB2.out
    obtain ⟨C, jb, tv, V, h1, h2, h3, h4⟩ := hc2.ex
    have HOK : Hid c.ok := hc2.ok
    have H1 : Hid (∀ x, C x → wz.heap.size ≤ x ∧ ¬ A x) := h1
    have H2 : Hid (Lw wz (fun x => A x ∨ C x) sb jb c.p.P c.J c.S w2) := h2
    have H3 : Hid (CM C w2 cb (Pt sb) (Pt jb) c.p tv V c.o) := h3
    obtain ⟨x, V', rfl⟩ : ∃ x V', V = x :: V' := by
      cases V with
      | nil => rw [HL.out] at h4; cases h4
      | cons x V' => exact ⟨x, V', rfl⟩
    rw [HL.out, List.map_cons] at h4
    have hxy : x.y = y := (List.cons.inj h4).1
    have HV' : Hid (V'.map Ye.y = t) := (List.cons.inj h4).2
    have HXY : Hid (x.y = y) := hxy
    obtain ⟨g, cap, rfl, _, _, hgl, h7⟩ := h3.yr.at (i := 0) (by simp)
    have hl0 : (0 : Int) < ((x :: V').length : Int) := by simp
    obtain ⟨nl, hnl⟩ : ∃ nl, nl = (x :: V').length := ⟨_, rfl⟩
    have HNL : Hid (nl = (x :: V').length) := hnl
    have c10 : w2.cell? ⟨cb, 10, none⟩ = some (.slice (some ⟨g, 0, none⟩) nl cap) := by rw [hnl]; exact h3.cell 10
    rw [← hnl] at hl0
    have hyo := h3.ls x (by simp)
    have s3 := h7.c3
    have s4 := h7.c4
    have z3 := h7.z 3
    have z4 := h7.z 4
    simp only [Nat.zero_mul, Nat.zero_add, List.getElem_cons_zero] at s3 s4
    have hm3 : CM C (w2.setCell ⟨g, 3, none⟩ (.int .i64 3)) cb (Pt sb) (Pt jb) c.p (.slice (some ⟨g, 0, none⟩) (x :: V').length cap) ({ x with y := { x.y with h := 3 } } :: V') c.o :=
      h3.rowS (i := 0) (j := 3) (by simp) (by omega) (x' := { x with y := { x.y with h := 3 } }) rfl ⟨hyo.f, hyo.e, hyo.kf, hyo.ke, ⟨hyo.ok.fm, hyo.ok.em, hyo.ok.fl, hyo.ok.el, hyo.ok.t0, hyo.ok.t1⟩⟩
    have hyo3 := hm3.ls { x with y := { x.y with h := 3 } } (by simp)
    have hm4 : CM C ((w2.setCell ⟨g, 3, none⟩ (.int .i64 3)).setCell ⟨g, 4, none⟩ (.int .i64 0)) cb (Pt sb) (Pt jb) c.p (.slice (some ⟨g, 0, none⟩) (x :: V').length cap) ({ x with y := goY x.y } :: V') c.o :=
      CM.rowS (V := { x with y := { x.y with h := 3 } } :: V') hm3 (i := 0) (j := 4) (by simp) (by omega) (x' := { x with y := goY x.y }) rfl ⟨hyo3.f, hyo3.e, hyo3.kf, hyo3.ke, ⟨hyo.ok.fm, hyo.ok.em, hyo.ok.fl, hyo.ok.el, by show (0 : Int) ≤ 0; omega, by show (0 : Int) < _; omega⟩⟩
    obtain ⟨w4, hw4⟩ : ∃ w4, w4 = (w2.setCell ⟨g, 3, none⟩ (.int .i64 3)).setCell ⟨g, 4, none⟩ (.int .i64 0) := ⟨_, rfl⟩
    rw [← hw4] at hm4
    have HM4 : Hid (CM C w4 cb (Pt sb) (Pt jb) c.p (.slice (some ⟨g, 0, none⟩) (x :: V').length cap) ({ x with y := goY x.y } :: V') c.o) := hm4
    have HW4 : Hid (w4 = (w2.setCell ⟨g, 3, none⟩ (.int .i64 3)).setCell ⟨g, 4, none⟩ (.int .i64 0)) := hw4
    have hch4 : Ch (fun b => b = g) w2 w4 := by rw [hw4]; exact (ch_set _ _ _ _).self (ch_set _ _ _ _)
    have hgC : C g := (h3.kr g rfl).1
    have HCW4 : Hid (CW wz A sb cb { c with L := advL c.L } w4 ∧ ChA wz A w w4) := by
      refine ⟨⟨⟨C, jb, _, _, h1, h2.ch hch4 (fun b hb => .inr (hb ▸ hgC)) (fun b hb => hb ▸ (h1 g hgC).1), hm4, ?_⟩, ⟨HOK.out.pl, HOK.out.pn, ?_⟩⟩, (Ch.of_below HB2.out).self (ch_le hch4 (fun b hb => hb ▸ h1 g hgC))⟩
      · show _ = advL c.L
        rw [HL.out, advL, if_pos H22.out, ← HV'.out, ← hxy]; rfl
      · show (advL c.L).length ≤ 4
        have := HOK.out.ln
        rw [HL.out] at this ⊢
        rw [advL, if_pos H22.out]; simpa using this
    obtain ⟨fa, fc, ea, ec, e5, e6⟩ := hyo.yl.form
    obtain ⟨g4, cap4, e4, _, _, hgl4, h74⟩ := hm4.yr.at (i := 0) (by simp)
    cases e4
    have HX4 : Hid (Yo C w4 { x with y := goY x.y }) := hm4.ls _ (by simp)
    have HE5 : Hid (x.fv = .slice fa x.y.f.length fc) := e5
    have HE6 : Hid (x.ev = .slice ea x.y.e.length ec) := e6
    have k74 : ∀ wx, Below w4.heap.size w4 wx → Y7 wx g 0 { x with y := goY x.y } := fun wx hb => by
      obtain ⟨g9, cap9, e9, _, _, _, h79⟩ := (hm4.below hb).yr.at (i := 0) (by simp)
      cases e9
      simpa using h79
    have l0 : ∀ wx, Below w4.heap.size w4 wx → wx.cell? ⟨g, 0, none⟩ = some (.int .i64 x.y.b) := fun wx hb => (k74 wx hb).c0
    have l1 : ∀ wx, Below w4.heap.size w4 wx → wx.cell? ⟨g, 1, none⟩ = some (.int .i64 x.y.a) := fun wx hb => (k74 wx hb).c1
    have l2 : ∀ wx, Below w4.heap.size w4 wx → wx.cell? ⟨g, 2, none⟩ = some (.int .i64 x.y.n) := fun wx hb => (k74 wx hb).c2
    have l3 : ∀ wx, Below w4.heap.size w4 wx → wx.cell? ⟨g, 3, none⟩ = some (.int .i64 3) := fun wx hb => (k74 wx hb).c3
    have l4 : ∀ wx, Below w4.heap.size w4 wx → wx.cell? ⟨g, 4, none⟩ = some (.int .i64 0) := fun wx hb => (k74 wx hb).c4
    have l5 : ∀ wx, Below w4.heap.size w4 wx → wx.cell? ⟨g, 5, none⟩ = some (.slice fa x.y.f.length fc) := fun wx hb => by rw [← e5]; exact (k74 wx hb).c5
    have l6 : ∀ wx, Below w4.heap.size w4 wx → wx.cell? ⟨g, 6, none⟩ = some (.slice ea x.y.e.length ec) := fun wx hb => by rw [← e6]; exact (k74 wx hb).c6
    have HEL : Hid (x.y.e.length * 8 ≤ 140737488355328) := by have := hyo.ok.el; show _ ≤ _; omega
    clear hc2 h1 h2 h3 h4 hxy hnl hyo h7 hm3 hyo3 hm4 hw4 hch4 hgC e5 e6 h74 k74 hB2
    go_wp2_with fail
    rw [← HW4.out]
    refine wp_region_noPanic ?_
    refine wp_region_held_drew (S := (fun wx => Below w4.heap.size w4 wx)) (by kernel_rfl) ?_ (fun hHeld => ?_)
    · exact (below_drewN w4 1)
    refine wpAnyH_take (i := 0) (oi := ⟨some 20, _, _, _, _, _⟩) (v := ?_) rfl (by kernel_rfl) (by kernel_rfl) (by kernel_rfl) (fun _ _ _ h => h) (Or.inl ⟨by rfl, ?_⟩) hHeld ?_
    rotate_left
    · intro w hSw; (try dsimp only at hSw); go_simp; all_goals (with_reducible rfl)
    try simp only [Act.put, List.setIfInBounds_toArray, List.set_cons_zero, List.set_cons_succ]
    refine wpAnyH_take (i := 1) (oi := ⟨some 21, _, _, _, _, _⟩) (v := ?_) rfl (by kernel_rfl) (by kernel_rfl) (by kernel_rfl) (fun _ _ _ h => h) (Or.inl ⟨by rfl, ?_⟩) hHeld ?_
    rotate_left
    · intro w hSw; (try dsimp only at hSw); go_simp; all_goals (with_reducible rfl)
    try simp only [Act.put, List.setIfInBounds_toArray, List.set_cons_zero, List.set_cons_succ]
    refine wpAnyH_take (i := 2) (oi := ⟨some 22, _, _, _, _, _⟩) (v := ?_) rfl (by kernel_rfl) (by kernel_rfl) (by kernel_rfl) (fun _ _ _ h => h) (Or.inl ⟨by rfl, ?_⟩) hHeld ?_
    rotate_left
    · intro w hSw; (try dsimp only at hSw); go_simp; all_goals (with_reducible rfl)
    try simp only [Act.put, List.setIfInBounds_toArray, List.set_cons_zero, List.set_cons_succ]
    refine wpAnyH_take (i := 3) (oi := ⟨some 23, _, _, _, _, _⟩) (v := ?_) rfl (by kernel_rfl) (by kernel_rfl) (by kernel_rfl) (fun _ _ _ h => h) (Or.inl ⟨by rfl, ?_⟩) hHeld ?_
    rotate_left
    · intro w hSw; (try dsimp only at hSw); go_simp; all_goals (with_reducible rfl)
    try simp only [Act.put, List.setIfInBounds_toArray, List.set_cons_zero, List.set_cons_succ]
    refine wpAnyH_take (i := 4) (oi := ⟨some 24, _, _, _, _, _⟩) (v := ?_) rfl (by kernel_rfl) (by kernel_rfl) (by kernel_rfl) (fun _ _ _ h => h) (Or.inl ⟨by rfl, ?_⟩) hHeld ?_
    rotate_left
    · intro w hSw; (try dsimp only at hSw); go_simp; all_goals (with_reducible rfl)
    try simp only [Act.put, List.setIfInBounds_toArray, List.set_cons_zero, List.set_cons_succ]
    refine wpAnyH_take (i := 5) (oi := ⟨some 25, _, _, _, _, _⟩) (v := ?_) rfl (by kernel_rfl) (by kernel_rfl) (by kernel_rfl) (fun _ _ _ h => h) (Or.inl ⟨by rfl, ?_⟩) hHeld ?_
    rotate_left
    · intro w hSw; (try dsimp only at hSw); go_simp; all_goals (with_reducible rfl)
    try simp only [Act.put, List.setIfInBounds_toArray, List.set_cons_zero, List.set_cons_succ]
    refine wpAnyH_take (i := 6) (oi := ⟨some 26, _, _, _, _, _⟩) (v := ?_) rfl (by kernel_rfl) (by kernel_rfl) (by kernel_rfl) (fun _ _ _ h => h) (Or.inl ⟨by rfl, ?_⟩) hHeld ?_
    rotate_left
    · intro w hSw; (try dsimp only at hSw); go_simp; all_goals (with_reducible rfl)
    try simp only [Act.put, List.setIfInBounds_toArray, List.set_cons_zero, List.set_cons_succ]
    refine wpAnyH_ready (rs := [7]) (by kernel_rfl) (by simp) ?_
    refine AllReadyH.cons (o := ⟨some 27, _, _, _, _, _⟩) rfl (fun K hK => ?_) AllReadyH.nil
    go_simp
    have HA7 : Hid (Calls Try.prog 51 #[.agg #[.int .i64 x.y.b, .int .i64 x.y.a, .int .i64 x.y.n, .int .i64 3, .int .i64 0, .slice fa x.y.f.length fc, .slice ea x.y.e.length ec], .int .i64 3, .slice ea x.y.e.length ec] w4.drew (AbG w4.drew (abtM 3 (goY x.y) x.y.e))) := by
      have := about_walk (x := { x with y := goY x.y }) (k := 3) (ev := x.ev) (l := x.y.e) (HX4.out.yl.below (below_drewN w4 1)) (HX4.out.yl.below (below_drewN w4 1)).e HEL.out
      rw [← HE5.out, ← HE6.out]
      exact this
    refine HA7.out.mono ?_
    rintro e w5 ⟨ev5, rfl, ho5, hB5⟩
    have HO5 : Hid (OwN w4.heap.size w5 ev5 x.y.e) := own_base ho5 (below_drewN w4 1).size
    have HB5 : Hid (Below w4.heap.size w4 w5) := below_trans (below_drewN w4 1) hB5
    obtain ⟨_, ea5, ec5, rfl, _⟩ := own_nl ho5
    clear ho5 hB5
    refine hK.out _ _ ?_ (fun hHeld => ?_)
    · exact HB5.out
    clear hK K
    try simp only [Act.put, List.setIfInBounds_toArray, List.set_cons_zero, List.set_cons_succ]
    refine wpAnyH_ready (rs := [8]) (by kernel_rfl) (by simp) ?_
    refine AllReadyH.cons (o := ⟨some 28, _, _, _, _, _⟩) rfl (fun K hK => ?_) AllReadyH.nil
    go_simp
    refine hK.out _ _ ?_ (fun hHeld => ?_)
    · exact (HB5.out.alloc HB5.out.size _)
    clear hK K
    try simp only [Act.put, List.setIfInBounds_toArray, List.set_cons_zero, List.set_cons_succ]
    refine wpAnyH_take (i := 9) (oi := ⟨some 2, _, _, _, _, _⟩) (v := ?_) rfl (by kernel_rfl) (by kernel_rfl) (by kernel_rfl) (fun _ _ _ h => h) (Or.inl ⟨by rfl, ?_⟩) hHeld ?_
    rotate_left
    · intro w hSw; (try dsimp only at hSw); go_simp; all_goals (with_reducible rfl)
    try simp only [Act.put, List.setIfInBounds_toArray, List.set_cons_zero, List.set_cons_succ]
    refine wpAnyH_done (by kernel_rfl) ?_ _
    refine NoPanic.normal ?_
    go_wp2_with fail
    go_ret
    have hxy := HXY.out
    subst hxy
    exact adv_end (c := c) (y := x.y) HCW4.out.1 HCW4.out.2 HL.out H22.out HO5.out HB5.out
end

end Go.Proofs.Ytpndafieknddcaa
