/- WorkerDone. -/
import Derived.Test.YtgahfhpmlalplaaGreatAr
namespace Go.Proofs.YtgahfhpmlalplaaGreat

open Go.RowKit



/-- What the statement keeps: the plan in box X, the message r in block R, its ends. -/
structure Ls (w0 : Nat) (K : Nat → Prop) (w : World) (X R : Nat) (p : Pn) (ov : Value) (ev : Value) (E : List Int) : Prop where
  x : Bx w X p ov
  r : w.cell? ⟨R, 6, none⟩ = some ev
  e : w.ownsRow w0 3 1 ev E.length (cellsN E)
  ok : In64 E
  kx : K X
  kr : K R
  ke : ∀ y, ev.ownBlock = some y → K y
theorem Bx.ch {D : Nat → Prop} {w w' : World} {g : Nat} {p : Pn} {ov : Value} (h : Bx w g p ov) (hc : Ch D w w') (hd : ¬ D g) : Bx w' g p ov := ⟨hc.cell h.c0 hd, hc.cell h.c1 hd, hc.cell h.c2 hd, hc.cell h.c3 hd, hc.cell h.c4 hd, hc.cell h.c5 hd, hc.cell h.c6 hd, hc.cell h.c7 hd⟩
theorem Ls.nk {w0 : Nat} {K : Nat → Prop} {w w' : World} {X R : Nat} {p : Pn} {ov ev : Value} {E : List Int} (h : Ls w0 K w X R p ov ev E) (hc : Ch (NK w0 K) w w') : Ls w0 K w' X R p ov ev E :=
  ⟨h.x.ch hc (fun e => e.1 h.kx), hc.cell h.r (fun e => e.1 h.kr), own_nk h.e hc h.ke, h.ok, h.kx, h.kr, h.ke⟩
theorem Ls.ch {D : Nat → Prop} {w0 : Nat} {K : Nat → Prop} {w w' : World} {X R : Nat} {p : Pn} {ov ev : Value} {E : List Int} (h : Ls w0 K w X R p ov ev E) (hc : Ch D w w') (hx : ¬ D X) (hr : ¬ D R) (he : ∀ y, ev.ownBlock = some y → ¬ D y) : Ls w0 K w' X R p ov ev E :=
  ⟨h.x.ch hc hx, hc.cell h.r hr, own_ch h.e hc he, h.ok, h.kx, h.kr, h.ke⟩
theorem Ls.below {w0 : Nat} {K : Nat → Prop} {w w' : World} {X R : Nat} {p : Pn} {ov ev : Value} {E : List Int} (h : Ls w0 K w X R p ov ev E) (hb : Below w.heap.size w w') : Ls w0 K w' X R p ov ev E := h.ch (D := fun _ => False) (Ch.of_below hb) (fun e => e) (fun e => e) (fun _ _ e => e)
theorem Ls.mono {w0 : Nat} {K K' : Nat → Prop} {w : World} {X R : Nat} {p : Pn} {ov ev : Value} {E : List Int} (h : Ls w0 K w X R p ov ev E) (hk : ∀ x, K x → K' x) : Ls w0 K' w X R p ov ev E := ⟨h.x, h.r, h.e, h.ok, hk _ h.kx, hk _ h.kr, fun y hy => hk _ (h.ke y hy)⟩
/-- What is kept may be written over. -/
theorem Pw.turn {D' : Nat → Prop} {w0 : Nat} {K : Nat → Prop} {w w' : World} {sb : Nat} {S : Sc} {P b : Nat} {ov : Value} {p : Pn} {nd : Int} {L : List At} (h : Pw w0 K w sb S P b ov p nd L) (hc : Ch D' w w') (hd : ∀ z, D' z → K z) : Pw w0 K w' sb S P b ov p nd L := by
  obtain ⟨D, h1, h2⟩ := h.src
  exact ⟨⟨D, h1.keep (fun x hx => hc.block x (h1.lt hx) (fun e => (h2 x hx).2.2 (hd x e))) hc.size, h2⟩, h.wm.ch hc (fun x hx e => (h.wk x e).2 (hd x hx)), h.wk, fun x hx => Nat.lt_of_lt_of_le (h.kl x hx) hc.size⟩
theorem one_of {M : List Tq} {m : Ms} (h : M.map (·.m) = [m]) : ∃ t, M = [t] ∧ t.m = m := by
  cases M with
  | nil => cases h
  | cons t M =>
    rw [List.map_cons] at h
    injection h with h1 h2
    exact ⟨t, by rw [List.map_eq_nil_iff.1 h2], h1⟩
theorem none_of {M : List Tq} (h : M.map (·.m) = []) : M = [] := List.map_eq_nil_iff.1 h
/-- An answer of one message, opened. -/
theorem mrk_one {K : Nat → Prop} {w : World} {lo : Nat} {v : Value} {M : List Tq} {m : Ms} (h : MrK K w lo v M) (hm : M.map (·.m) = [m]) : ∃ g cap ea ec qa qc pa pc, v = .slice (some ⟨g, 0, none⟩) 1 cap ∧ MXo w g 0 ⟨m, .slice ea m.E.length ec, .slice qa m.Q.length qc, .slice pa m.P.length pc⟩ ∧ To w lo ⟨m, .slice ea m.E.length ec, .slice qa m.Q.length qc, .slice pa m.P.length pc⟩ ∧ (∀ x, (Value.slice ea m.E.length ec).ownBlock = some x → K x) := by
  obtain ⟨t, rfl, rfl⟩ := one_of hm
  have ht := h.r.ent t (by simp)
  obtain ⟨ea, ec, qa, qc, pa, pc, e1, e2, e3⟩ := to_form ht
  obtain ⟨a, c, rfl⟩ := own_formN h.r.own
  obtain ⟨g, hg, hx⟩ := mr_mx h.r (i := 0) (by simp)
  subst hg
  have ek := h.ke t (by simp)
  obtain ⟨tm, te, tq, tp⟩ := t
  simp only at e1 e2 e3 ek
  subst e1 e2 e3
  refine ⟨g, c, ea, ec, qa, qc, pa, pc, rfl, ?_, ht, fun x hx => ek x (.inl hx)⟩
  simpa using hx
theorem len_one {L : List At} {h : Hh} (e : L.map (·.h) = [h]) : L.length ≤ 4096 := by rw [len_h e]; simp
theorem ml_e {w : World} {lo : Nat} {v : Value} {E : List Int} {K F T B A C : Int} (h : w.ownsRow lo 3 1 v E.length (cellsN E)) : ML w ⟨K, F, T, B, A, C, E, [], []⟩ v (.slice none 0 0) (.slice none 0 0) := ⟨own_sv h, Sv.nil _ _, qv_nil _⟩
theorem ml_0 (w : World) {K F T B A C : Int} : ML w ⟨K, F, T, B, A, C, [], [], []⟩ (.slice none 0 0) (.slice none 0 0) (.slice none 0 0) := ⟨Sv.nil _ _, Sv.nil _ _, qv_nil _⟩
theorem make_bn {n : Nat} (hn : n ≤ 4) : ∀ wx : World, (Instr.makeSlice 91 (.int .i64 (n : Int)) (.int .i64 (n : Int))).run Tryz.prog wx = .ok (.slice (some ⟨wx.heap.size, 0, none⟩) n n) (wx.alloc (.cells (madeCells #[.bool false] n) 4)) := fun wx => by
  obtain ⟨i0, hi0, hz0, hz1, hz2⟩ := info_partsQ info_blN
  have := run_make (P := Tryz.prog) wx 91 4 i0 (.bool false) Tryz.underlying91 hi0 hz0 .i64 .i64 n n (by omega) (Int.le_refl _) (by rw [hz2]; omega) (by omega)
  rw [hz1, Nat.mul_one] at this
  simp only [Int.toNat_natCast] at this
  exact this
theorem fit_i64 {S : Sc} {f : List Int} (hok : S.ok) (h : Fit S f) : ∀ y ∈ f, in64 y := by
  intro y hy
  obtain ⟨i, hi, rfl⟩ := List.mem_iff_getElem.1 hy
  have h1 := h.2 i hi
  have h2 := lenS_le hok i
  rw [nth_at hi] at h1
  exact i64_s (by omega) (by omega)
theorem nb_x {w : World} {X ga lo n cap : Nat} {A : List Bool} {x : Int} (hr : w.ownsRow lo 4 1 (.slice (some ⟨ga, 0, none⟩) n cap) n (A.map Value.bool)) (hn : 0 < n) (hc : w.cell? ⟨X, 0, none⟩ = some (.int .i64 x)) : ¬ X = ga := by
  rintro rfl
  have hl : A.length = n := by have := hr.1; simpa using this
  have h0 : 0 < A.length := by omega
  have h := (own_cellN hr (j := 0) (u := .bool A[0]) (by rw [List.getElem?_map, List.getElem?_eq_getElem h0]; rfl)).1
  rw [h] at hc
  cases hc
theorem nb_r {w : World} {R ga lo n cap : Nat} {xs : List Value} {u : Value} (hr : w.ownsRow lo 4 1 (.slice (some ⟨ga, 0, none⟩) n cap) n xs) (hn : cap ≤ 6) (hc : w.cell? ⟨R, 6, none⟩ = some u) : ¬ R = ga := by
  rintro rfl
  rcases hr.2 with ⟨h3, _⟩ | ⟨g', cap', cur, e1, hg, hh, hnc, hcm, hcs, htk⟩
  · cases h3
  · cases e1
    rw [cell_of_row w R 6 cur _ (0, 0) hh] at hc
    have : cur[6]? = none := Array.getElem?_eq_none (by rw [hcs]; omega)
    simp [this] at hc
theorem nb_e {w : World} {ga lo lo' n cap m : Nat} {xs ys : List Value} {v : Value} (hr : w.ownsRow lo 4 1 (.slice (some ⟨ga, 0, none⟩) n cap) n xs) (he : w.ownsRow lo' 3 1 v m ys) : ∀ y, v.ownBlock = some y → ¬ y = ga := by
  intro y hy e
  rcases own_ne hr he (by decide) with q | q
  · cases q
  · exact q (by rw [hy, e]; rfl)
/-- An answer of Held with one attempt, opened. -/
theorem hr_one {w : World} {lo : Nat} {v : Value} {F : List Hq} {h : He} (hr : Hr w lo v F) (hm : F.map (·.h) = [h]) : ∃ g cap ea ec, v = .slice (some ⟨g, 0, none⟩) 1 cap ∧ HXo w g 0 ⟨h, .slice ea h.E.length ec⟩ ∧ Ho w lo ⟨h, .slice ea h.E.length ec⟩ := by
  cases F with
  | nil => cases hm
  | cons t F =>
    rw [List.map_cons] at hm
    injection hm with h1 h2
    have hF := List.map_eq_nil_iff.1 h2
    subst hF h1
    have ht := hr.ent t (by simp)
    obtain ⟨ea, ec, e1⟩ := own_formN ht.e
    obtain ⟨a, c, rfl⟩ := own_formN hr.own
    obtain ⟨g, hg, hx⟩ := hr_at hr (i := 0) (by simp)
    subst hg
    obtain ⟨th, te⟩ := t
    simp only at e1
    subst e1
    refine ⟨g, c, ea, ec, rfl, ?_, ht⟩
    simpa using hx
/-- While the stores' answers come. -/
def Dn (w1 wr : World) (sb : Nat) (S : Sc) (P b : Nat) (ov : Value) (p : Pn) (f : List Int) (X R : Nat) (ovc ev : Value) (E : List Int) (ga : Nat) (A : List Bool) : Prop :=
  ∃ K L, A.length = p.n ∧ wr.ownsRow w1.heap.size 4 1 (.slice (some ⟨ga, 0, none⟩) p.n p.n) p.n (A.map Value.bool) ∧ K ga ∧ Pw w1.heap.size K wr sb S P b ov p 1 L ∧ L.map (·.h) = [h37 p S f true A] ∧ Ls w1.heap.size K wr X R p ovc ev E ∧ Below w1.heap.size w1 wr
theorem set_cnt {A : List Bool} {q : Nat} (hq : q < A.length) (h : A[q] = false) : (setB A q).countP id = A.countP id + 1 := by
  unfold setB
  induction A generalizing q with
  | nil => simp at hq
  | cons a t ih =>
    cases q with
    | zero => simp at h; subst h; simp
    | succ q =>
      rw [List.set_cons_succ, List.countP_cons, List.countP_cons, ih (by simpa using hq) (by simpa using h)]
      omega
theorem set_same {A : List Bool} {q : Nat} (hq : q < A.length) (h : A[q] = true) : setB A q = A := by
  unfold setB
  rw [← h, List.set_getElem_self]


set_option maxRecDepth 100000 in
set_option maxHeartbeats 8000000 in
theorem workerdone_walk {w : World} {p : Pn} {oa ra fa qa : Option Addr} {oc rc fc qc : Nat} {recs : List Rcd} {off early : Int} {fr order : List Int} (ho : Ov w (.slice oa p.l.length oc) p.l) (hr : Rv w (.slice ra recs.length rc) recs) (hf : Nv w (.slice fa fr.length fc) fr) (hq : Nv w (.slice qa order.length qc) order) :
    Calls Tryz.prog 5 #[.agg #[.int .i64 p.P, .int .i64 p.S, .int .i64 p.W, .slice oa p.l.length oc, .int .i64 p.A, .int .i64 p.B, .int .i64 p.N, .int .i64 p.G, .slice ra recs.length rc, .int .i64 off, .slice fa fr.length fc], .slice qa order.length qc, .int .i64 early] w fun e w' => e = .returned (.bool true) ∧ Below w.heap.size w w' := by
  have HO : Hid (Ov w (.slice oa p.l.length oc) p.l) := ho
  have HRV : Hid (Rv w (.slice ra recs.length rc) recs) := hr
  have HFV : Hid (Nv w (.slice fa fr.length fc) fr) := hf
  have HQV : Hid (Nv w (.slice qa order.length qc) order) := hq
  have HC0 : Hid _ := cb_new w p (.slice oa p.l.length oc) (.slice ra recs.length rc) off (.slice fa fr.length fc)
  have HB0 : Hid _ := below_alloc w (Obj.cells #[.int .i64 p.P, .int .i64 p.S, .int .i64 p.W, .slice oa p.l.length oc, .int .i64 p.A, .int .i64 p.B, .int .i64 p.N, .int .i64 p.G, .slice ra recs.length rc, .int .i64 off, .slice fa fr.length fc] 64)
  clear ho hr hf hq
  go_enter Tryz.func5, Tryz.ntmps5
  go_upto_region 1 with fail
  obtain ⟨C, hC⟩ : ∃ C, C = w.heap.size := ⟨_, rfl⟩
  rw [← hC] at HC0 ⊢
  clear hC
  generalize w.alloc (Obj.cells #[.int .i64 p.P, .int .i64 p.S, .int .i64 p.W, .slice oa p.l.length oc, .int .i64 p.A, .int .i64 p.B, .int .i64 p.N, .int .i64 p.G, .slice ra recs.length rc, .int .i64 off, .slice fa fr.length fc] 64) = wa at HC0 HB0 ⊢
  go_wp2_with fail
  refine (awake_walk wa).mono ?_
  rintro e w1 ⟨rfl, hB1⟩
  have HC1 : Hid _ := HC0.out.keep hB1
  have HB1 : Hid (Below w.heap.size w w1) := below_trans HB0.out hB1
  clear hB1 HC0 HB0
  have c0 := HC1.out.b.c0
  have c1 := HC1.out.b.c1
  have c2 := HC1.out.b.c2
  have c3 := HC1.out.b.c3
  have c4 := HC1.out.b.c4
  have c5 := HC1.out.b.c5
  have c6 := HC1.out.b.c6
  have c7 := HC1.out.b.c7
  have c8 := HC1.out.c8
  have c9 := HC1.out.c9
  have c10 := HC1.out.c10
  cases hp : p.is with
  | false =>
    have HP : Hid (p.is = false) := hp
    clear hp
    go_wp2_with fail
    refine (ready_no (HO.out.below HB1.out) (HRV.out.below HB1.out) (HFV.out.below HB1.out) HP.out).mono ?_
    rintro e w2 ⟨rfl, hB2⟩
    have HC2 : Hid _ := HC1.out.keep hB2
    have HB2 : Hid (Below w.heap.size w w2) := below_trans HB1.out hB2
    clear hB2 c0 c1 c2 c3 c4 c5 c6 c7 c8 c9 c10
    have c0 := HC2.out.b.c0
    have c1 := HC2.out.b.c1
    have c2 := HC2.out.b.c2
    have c3 := HC2.out.b.c3
    have c4 := HC2.out.b.c4
    have c5 := HC2.out.b.c5
    have c6 := HC2.out.b.c6
    have c7 := HC2.out.b.c7
    go_wp2_with fail
    refine (pcheck_walk (p := p) (HO.out.below HB2.out)).mono ?_
    rintro e w3 ⟨rfl, hB3⟩
    have HB3 : Hid (Below w.heap.size w w3) := below_trans HB2.out hB3
    have hc : (p.chk != 0) = true := by have h := Pn.chk_no HP.out; rw [bne, h]; rfl
    clear hB3 c0 c1 c2 c3 c4 c5 c6 c7
    go_wp2_with fail
    go_ret
    exact ⟨rfl, HB3.out⟩
  | true =>
    have HP : Hid (p.is = true) := hp
    have HNL : Hid (1 ≤ p.n ∧ p.n ≤ 4) := Pn.n_le hp
    have HSN : Hid (p.S = (p.n : Int)) := by have h1 := Pn.is_num hp; have h2 := Pn.n_is hp; show _ = _; omega
    obtain ⟨_, _, ⟨hw1, hw4⟩, _⟩ := Pn.is_num hp
    clear hp
    go_wp2_with fail
    refine (ready_ok (HO.out.below HB1.out) (HRV.out.below HB1.out) (HFV.out.below HB1.out) HP.out).mono ?_
    rintro e w2 ⟨sb, P, fv, rfl, K0, S, b, ov, f, hpw, hfo, hfk, hfit, hnp, hsl, hB2⟩
    obtain ⟨va, vc, rfl⟩ := own_formN hfo
    have HFO : Hid (w2.ownsRow w1.heap.size 3 1 (.slice va f.length vc) f.length (cellsN f)) := hfo
    have HFK : Hid (∀ x, (Value.slice va f.length vc).ownBlock = some x → K0 x) := hfk
    have HFit : Hid (Fit S f) := hfit
    have HOK : Hid S.ok := by obtain ⟨D, h1, _⟩ := hpw.src; exact h1.good
    have HPW : Hid (Pw w1.heap.size K0 w2 sb S P b ov p 1 []) := hpw
    have HC2 : Hid _ := HC1.out.keep hB2
    have HB2 : Hid (Below w1.heap.size w1 w2) := hB2
    clear hB2 c0 c1 c2 c3 c4 c5 c6 c7 c8 c9 c10 hpw hfo hfk hfit hnp hsl HC1
    have c0 := HC2.out.b.c0
    have c1 := HC2.out.b.c1
    have c2 := HC2.out.b.c2
    have c3 := HC2.out.b.c3
    have c4 := HC2.out.b.c4
    have c5 := HC2.out.b.c5
    have c6 := HC2.out.b.c6
    have c7 := HC2.out.b.c7
    go_upto_region 7 with fail
    clear c0 c1 c2 c3 c4 c5 c6 c7
    have HX3 : Hid (Bx _ w2.heap.size p (.slice oa p.l.length oc)) := box_new w2 p (.slice oa p.l.length oc)
    have HB23 : Hid _ := below_alloc w2 (Obj.cells #[.int .i64 p.P, .int .i64 p.S, .int .i64 p.W, .slice oa p.l.length oc, .int .i64 p.A, .int .i64 p.B, .int .i64 p.N, .int .i64 p.G] 24)
    have HP3 : Hid _ := HPW.out.more HB23.out
    have HXK : Hid (w2.heap.size ≤ w2.heap.size ∧ w2.heap.size < (w2.alloc (Obj.cells #[.int .i64 p.P, .int .i64 p.S, .int .i64 p.W, .slice oa p.l.length oc, .int .i64 p.A, .int .i64 p.B, .int .i64 p.N, .int .i64 p.G] 24)).heap.size) := ⟨Nat.le_refl _, by rw [size_allocC]; omega⟩
    have HFO3 : Hid (World.ownsRow _ w1.heap.size 3 1 (.slice va f.length vc) f.length (cellsN f)) := own_belowC HFO.out HB23.out
    obtain ⟨X, hX⟩ : ∃ X, X = w2.heap.size := ⟨_, rfl⟩
    rw [← hX] at HX3 ⊢
    have HXX : Hid (X = w2.heap.size) := hX
    clear hX
    generalize w2.alloc (Obj.cells #[.int .i64 p.P, .int .i64 p.S, .int .i64 p.W, .slice oa p.l.length oc, .int .i64 p.A, .int .i64 p.B, .int .i64 p.N, .int .i64 p.G] 24) = w3 at HX3 HB23 HP3 HXK HFO3 ⊢
    have HW3 : Hid (Below w1.heap.size w1 w3) := HB2.out.trans (HB23.out.mono HB2.out.size)
    go_wp2_with fail
    refine (msg17 1 0 0).mono ?_
    rintro e w4 ⟨rfl, hB4⟩
    have HP4 : Hid _ := HP3.out.below hB4
    have HX4 : Hid _ := HX3.out.below hB4 (by have h1 := HXK.out; have h2 := HXX.out; omega)
    have HFO4 : Hid (w4.ownsRow w1.heap.size 3 1 (.slice va f.length vc) f.length (cellsN f)) := own_belowC HFO3.out hB4
    have HW4 : Hid (Below w1.heap.size w1 w4) := HW3.out.trans (hB4.mono HW3.out.size)
    clear hB4 HFO HX3 HPW HC2
    go_wp2_with fail
    refine (show Calls Tryz.prog 13 #[.pointer (some ⟨P, 0, none⟩), .pointer (some ⟨sb, 0, none⟩), .agg #[.int .i64 1, .int .i64 0, .int .i64 1, .int .i64 3, .int .i64 7, .int .i64 0, .slice va f.length vc, .slice none 0 0, .slice none 0 0]] w4 _ from pw_take (m := ⟨1, 0, 1, 3, 7, 0, f, [], []⟩) HP4.out HW4.out.size (ml_e HFO4.out) (small_ok (by omega) (fun y hy => fit_i64 HOK.out HFit.out y hy) q0_ok p0_ok) (Nat.zero_le _)).mono ?_
    rintro e w5 ⟨v1, rfl, K1, M1, lo1, L1, hk1, hk2, hM, e1, e2, hlo, hp5, hc⟩
    rw [List.map_nil, (tk_assign HP.out HOK.out HFit.out).2] at e1 e2
    rw [(tk_assign HP.out HOK.out HFit.out).1]
    obtain ⟨g1, q1, ea, ec, xa, xc, ya, yc, rfl, hmx, hto, hke⟩ := mrk_one (mrk_of hM hk2) e1
    have HKX : Hid (K1 X) := hk1 X (.inr (by rw [HXX.out]; exact HXK.out))
    have HX5 : Hid _ := HX4.out.ch hc (fun e => e.1 (.inr (by rw [HXX.out]; exact HXK.out)))
    have HP5 : Hid (Pw w1.heap.size K1 w5 sb S P b ov p 1 L1) := hp5
    have HL1 : Hid (L1.map (·.h) = [h37 p S f false (List.replicate p.n false)]) := e2
    obtain ⟨E, hE⟩ : ∃ E, E = formT S f p.B := ⟨_, rfl⟩
    have HEE : Hid (E = formT S f p.B) := hE
    have HMX : Hid (MXo w5 g1 0 ⟨⟨2, 1, 0, 3, 7, 0, E, [], []⟩, .slice ea E.length ec, .slice xa 0 xc, .slice ya 0 yc⟩) := by rw [hE]; exact hmx
    have HTO : Hid (w5.ownsRow lo1 3 1 (.slice ea E.length ec) E.length (cellsN E)) := by rw [hE]; exact hto.e
    have HEO : Hid (In64 E) := by rw [hE]; exact hto.ok.E
    have HKE : Hid (∀ y, (Value.slice ea E.length ec).ownBlock = some y → K1 y) := by rw [hE]; exact hke
    clear hE
    have HW5 : Hid (Below w1.heap.size w1 w5) := HW4.out.trans (nk_below hc HW4.out.size)
    have HLO : Hid (w1.heap.size ≤ lo1) := Nat.le_trans HW4.out.size hlo
    clear hk1 hk2 hM e1 e2 hlo hp5 hc hmx hto hke HX4 HP3 HP4 HFO3 HFO4 HB23 HB2
    go_wp2_with fail
    refine (show Calls Tryz.prog 27 #[.slice (some ⟨g1, 0, none⟩) 1 q1, .int .i64 0, .int .i64 2, .int .i64 0] w5 _ from one17 (m := ⟨2, 1, 0, 3, 7, 0, E, [], []⟩) (ea := ea) (en := E.length) (ec := ec) (qa := xa) (qn := 0) (qc := xc) (pa := ya) (pn := 0) (pc := yc) HMX.out rfl rfl rfl).mono ?_
    rintro e w6 ⟨rfl, hB6⟩
    dsimp only
    have HP6 : Hid (Pw w1.heap.size K1 w6 sb S P b ov p 1 L1) := HP5.out.below hB6
    have HX6 : Hid _ := HX5.out.below hB6 (cell_lt HX5.out.c0)
    have HTO6 : Hid (w6.ownsRow w1.heap.size 3 1 (.slice ea E.length ec) E.length (cellsN E)) := own_baseC (own_belowC HTO.out hB6) HLO.out
    have HW6 : Hid (Below w1.heap.size w1 w6) := HW5.out.trans (hB6.mono HW5.out.size)
    clear hB6 HP5 HX5 HTO HW5 HMX HLO
    go_upto_region 9 with fail
    have HBA : Hid _ := below_alloc w6 (Obj.cells #[.int .i64 2, .int .i64 1, .int .i64 0, .int .i64 3, .int .i64 7, .int .i64 0, .slice ea E.length ec, .slice xa 0 xc, .slice ya 0 yc] 48)
    have HP7 : Hid _ := HP6.out.more HBA.out
    have HRC : Hid ((w6.alloc (Obj.cells #[.int .i64 2, .int .i64 1, .int .i64 0, .int .i64 3, .int .i64 7, .int .i64 0, .slice ea E.length ec, .slice xa 0 xc, .slice ya 0 yc] 48)).cell? ⟨w6.heap.size, 6, none⟩ = some (.slice ea E.length ec)) := by show _ = _; simp [go_sem]
    have HRK : Hid (w6.heap.size ≤ w6.heap.size ∧ w6.heap.size < (w6.alloc (Obj.cells #[.int .i64 2, .int .i64 1, .int .i64 0, .int .i64 3, .int .i64 7, .int .i64 0, .slice ea E.length ec, .slice xa 0 xc, .slice ya 0 yc] 48)).heap.size) := ⟨Nat.le_refl _, by rw [size_allocC]; omega⟩
    have HX7 : Hid _ := HX6.out.below HBA.out (cell_lt HX6.out.c0)
    have HTO7 : Hid (World.ownsRow _ w1.heap.size 3 1 (.slice ea E.length ec) E.length (cellsN E)) := own_belowC HTO6.out HBA.out
    obtain ⟨R, hR⟩ : ∃ R, R = w6.heap.size := ⟨_, rfl⟩
    have HRR : Hid (R = w6.heap.size) := hR
    rw [← hR] at HRC ⊢
    clear hR
    generalize w6.alloc (Obj.cells #[.int .i64 2, .int .i64 1, .int .i64 0, .int .i64 3, .int .i64 7, .int .i64 0, .slice ea E.length ec, .slice xa 0 xc, .slice ya 0 yc] 48) = w7 at HBA HP7 HRC HRK HX7 HTO7 ⊢
    have HW7 : Hid (Below w1.heap.size w1 w7) := HW6.out.trans (HBA.out.mono HW6.out.size)
    obtain ⟨K2, hK2⟩ : ∃ K2 : Nat → Prop, K2 = fun z => K1 z ∨ (w6.heap.size ≤ z ∧ z < w7.heap.size) := ⟨_, rfl⟩
    have HPW : Hid (Pw w1.heap.size K2 w7 sb S P b ov p 1 L1) := by rw [hK2]; exact HP7.out
    have HLS : Hid (Ls w1.heap.size K2 w7 X R p (.slice oa p.l.length oc) (.slice ea E.length ec) E) := by
      rw [hK2]
      exact ⟨HX7.out, HRC.out, HTO7.out, HEO.out, .inl HKX.out, .inr (by rw [HRR.out]; exact HRK.out), fun y hy => .inl (HKE.out y hy)⟩
    clear hK2 HP6 HP7 HX6 HX7 HTO6 HTO7 HRC HRK HKE HKX HW6 HBA HXK HXX HRR HW3 HW4 HFK
    have hpS : (1 : Int) ≤ (p.n : Int) := by have := HNL.out; omega
    have hpS4 : (p.n : Int) ≤ 4 := by have := HNL.out; omega
    have d1 : w7.cell? ⟨X, 1, none⟩ = some (.int .i64 (p.n : Int)) := by rw [← HSN.out]; exact HLS.out.x.c1
    have d2 := HLS.out.x.c2
    have rm : (IntKind.u64.wrap early).tmod (p.n : Int) = (parF (p.n : Int) early : Int) := parF_rem hpS
    have rm' : (IntKind.u64.wrap early) % (p.n : Int) = (parF (p.n : Int) early : Int) := parF_rem' hpS
    have hq2 : (parF (p.n : Int) early : Int) < p.n := parF_lt hpS
    obtain ⟨q, hq⟩ : ∃ q, q = parF (p.n : Int) early := ⟨_, rfl⟩
    rw [← hq] at rm rm' hq2
    have hq0 : (0 : Int) ≤ (q : Int) := by omega
    have hwN : IntKind.u64.wrap (p.n : Int) = (p.n : Int) := by rw [IntKind.wrap_u64]; omega
    have hN1 : ¬ (p.n : Int) = 0 := by omega
    have hN3 : ¬ p.n = 0 := by omega
    have hwq : IntKind.i64.wrap (q : Int) = (q : Int) := wrap_small (by omega) (by omega)
    have hwW : IntKind.i64.wrap (1 + p.W) = 1 + p.W := wrap_small (by omega) (by omega)
    have hwQ : IntKind.i64.wrap (1 + p.W + (q : Int)) = 1 + p.W + (q : Int) := wrap_small (by omega) (by omega)
    have HQN : Hid (q < p.n) := by show _ < _; omega
    clear hq
    go_quiet (fail)
    generalize hw8 : w7.drewN nq = w8
    have HB8 : Hid (Below w7.heap.size w7 w8) := by rw [← hw8]; exact below_drewN w7 nq
    have HPWx : Hid (Pw w1.heap.size K2 w8 sb S P b ov p 1 L1) := HPW.out.below HB8.out
    have HLSx : Hid (Ls w1.heap.size K2 w8 X R p (.slice oa p.l.length oc) (.slice ea E.length ec) E) := HLS.out.below HB8.out
    have HWx : Hid (Below w1.heap.size w1 w8) := HW7.out.trans (HB8.out.mono HW7.out.size)
    clear hw8 d1 d2 rm rm' hwN hN1 hN3 hwq hwW hwQ HPW HLS HW7 HB8
    have HPW : Hid _ := HPWx.out
    have HLS : Hid _ := HLSx.out
    have HW : Hid _ := HWx.out
    clear HPWx HLSx HWx
    go_wp2_with fail
    refine (msg17 7 (1 + p.W + (q : Int)) 0).mono ?_
    rintro e w9 ⟨rfl, hB⟩
    have HPa : Hid (Pw w1.heap.size K2 w9 sb S P b ov p 1 L1) := HPW.out.below hB
    have HLa : Hid (Ls w1.heap.size K2 w9 X R p (.slice oa p.l.length oc) (.slice ea E.length ec) E) := HLS.out.below hB
    have HWa : Hid (Below w1.heap.size w1 w9) := HW.out.trans (hB.mono HW.out.size)
    clear hB HPW HLS HW
    go_wp2_with fail
    refine (show Calls Tryz.prog 13 #[.pointer (some ⟨P, 0, none⟩), .pointer (some ⟨sb, 0, none⟩), .agg #[.int .i64 7, .int .i64 (1 + p.W + (q : Int)), .int .i64 1, .int .i64 3, .int .i64 7, .int .i64 0, .slice none 0 0, .slice none 0 0, .slice none 0 0]] w9 _ from pw_take (m := ⟨7, 1 + p.W + (q : Int), 1, 3, 7, 0, [], [], []⟩) HPa.out HWa.out.size (ml_0 w9) (small_ok (by omega) e0_ok q0_ok p0_ok) (len_one HL1.out)).mono ?_
    rintro e w10 ⟨v2, rfl, K3, M2, lo2, L2, hk1, hk2, hM, e1, e2, hlo, hp5, hc⟩
    rw [HL1.out, (tk_early HP.out (.inr rfl) HQN.out (by omega)).2] at e1 e2
    rw [(tk_early HP.out (.inr rfl) HQN.out (c := 0) (S := S) (S' := S) (f := f) (A := []) (by omega)).1]
    obtain ⟨ba2, bc2, rfl⟩ := own_formN hM.own
    have hm2 := none_of e1
    subst hm2
    rw [List.length_nil]
    have HPW : Hid (Pw w1.heap.size K3 w10 sb S P b ov p 1 L2) := hp5
    have HLS : Hid (Ls w1.heap.size K3 w10 X R p (.slice oa p.l.length oc) (.slice ea E.length ec) E) := (HLa.out.nk hc).mono hk1
    have HL2 : Hid (L2.map (·.h) = [h37 p S f false (List.replicate p.n false)]) := e2
    have HW : Hid (Below w1.heap.size w1 w10) := HWa.out.trans (nk_below hc HWa.out.size)
    clear hk1 hk2 hM e1 e2 hlo hp5 hc HPa HLa HWa
    go_wp2_with fail
    refine (msg17 5 (1 + p.W + (q : Int)) 0).mono ?_
    rintro e w11 ⟨rfl, hB⟩
    have HPa : Hid (Pw w1.heap.size K3 w11 sb S P b ov p 1 L2) := HPW.out.below hB
    have HLa : Hid (Ls w1.heap.size K3 w11 X R p (.slice oa p.l.length oc) (.slice ea E.length ec) E) := HLS.out.below hB
    have HWa : Hid (Below w1.heap.size w1 w11) := HW.out.trans (hB.mono HW.out.size)
    clear hB HPW HLS HW
    go_wp2_with fail
    refine (show Calls Tryz.prog 13 #[.pointer (some ⟨P, 0, none⟩), .pointer (some ⟨sb, 0, none⟩), .agg #[.int .i64 5, .int .i64 (1 + p.W + (q : Int)), .int .i64 1, .int .i64 3, .int .i64 7, .int .i64 0, .slice none 0 0, .slice none 0 0, .slice none 0 0]] w11 _ from pw_take (m := ⟨5, 1 + p.W + (q : Int), 1, 3, 7, 0, [], [], []⟩) HPa.out HWa.out.size (ml_0 w11) (small_ok (by omega) e0_ok q0_ok p0_ok) (len_one HL2.out)).mono ?_
    rintro e w12 ⟨v3, rfl, K4, M3, lo3, L3, hk1, hk2, hM, e1, e2, hlo, hp5, hc⟩
    rw [HL2.out, (tk_early HP.out (.inl rfl) HQN.out (by omega)).2] at e1 e2
    rw [(tk_early HP.out (.inl rfl) HQN.out (c := 0) (S := S) (S' := S) (f := f) (A := []) (by omega)).1]
    obtain ⟨ba3, bc3, rfl⟩ := own_formN hM.own
    have hm3 := none_of e1
    subst hm3
    rw [List.length_nil]
    have HPW : Hid (Pw w1.heap.size K4 w12 sb S P b ov p 1 L3) := hp5
    have HLS : Hid (Ls w1.heap.size K4 w12 X R p (.slice oa p.l.length oc) (.slice ea E.length ec) E) := (HLa.out.nk hc).mono hk1
    have HL3 : Hid (L3.map (·.h) = [h37 p S f false (List.replicate p.n false)]) := e2
    have HW : Hid (Below w1.heap.size w1 w12) := HWa.out.trans (nk_below hc HWa.out.size)
    clear hk1 hk2 hM e1 e2 hlo hp5 hc HPa HLa HWa
    have r6 := HLS.out.r
    go_wp2_with fail
    refine (msg17 3 0 0).mono ?_
    rintro e w13 ⟨rfl, hB⟩
    have HPa : Hid (Pw w1.heap.size K4 w13 sb S P b ov p 1 L3) := HPW.out.below hB
    have HLa : Hid (Ls w1.heap.size K4 w13 X R p (.slice oa p.l.length oc) (.slice ea E.length ec) E) := HLS.out.below hB
    have HWa : Hid (Below w1.heap.size w1 w13) := HW.out.trans (hB.mono HW.out.size)
    clear hB HPW HLS HW r6
    go_wp2_with fail
    refine (show Calls Tryz.prog 13 #[.pointer (some ⟨P, 0, none⟩), .pointer (some ⟨sb, 0, none⟩), .agg #[.int .i64 3, .int .i64 0, .int .i64 1, .int .i64 3, .int .i64 7, .int .i64 0, .slice ea E.length ec, .slice none 0 0, .slice none 0 0]] w13 _ from pw_take (m := ⟨3, 0, 1, 3, 7, 0, E, [], []⟩) HPa.out HWa.out.size (ml_e HLa.out.e) (small_ok (by omega) HEO.out q0_ok p0_ok) (len_one HL3.out)).mono ?_
    rintro e w14 ⟨v4, rfl, K5, M4, lo4, L4, hk1, hk2, hM, e1, e2, hlo, hp5, hc⟩
    have htk := tk_go (S' := S) (A := List.replicate p.n false) HP.out HOK.out HFit.out
    rw [← HEE.out] at htk
    rw [HL3.out, htk.2] at e1 e2
    rw [htk.1]
    obtain ⟨ba4, bc4, rfl⟩ := own_formN hM.own
    have HM4 : Hid (M4.length = p.n) := by have h := congrArg List.length e1; rw [List.length_map, List.length_map, List.length_range] at h; exact h
    rw [HM4.out]
    have HPW : Hid (Pw w1.heap.size K5 w14 sb S P b ov p 1 L4) := hp5
    have HLS : Hid (Ls w1.heap.size K5 w14 X R p (.slice oa p.l.length oc) (.slice ea E.length ec) E) := (HLa.out.nk hc).mono hk1
    have HL4 : Hid (L4.map (·.h) = [h37 p S f true (List.replicate p.n false)]) := e2
    have HW : Hid (Below w1.heap.size w1 w14) := HWa.out.trans (nk_below hc HWa.out.size)
    clear hk1 hk2 hM e1 e2 hlo hp5 hc HPa HLa HWa htk
    have d1 : w14.cell? ⟨X, 1, none⟩ = some (.int .i64 (p.n : Int)) := by rw [← HSN.out]; exact HLS.out.x.c1
    have hk : ((p.n : Int) != (p.n : Int)) = false := by simp
    have hmk := make_bn HNL.out.2
    go_upto_region 20 with fail
    clear d1 hk hmk
    have HBA : Hid _ := below_alloc w14 (Obj.cells (madeCells #[.bool false] p.n) 4)
    have HROW0 : Hid _ := made_bl w14 p.n HNL.out.2
    have HP15 : Hid _ := HPW.out.more HBA.out
    have HGK : Hid (w14.heap.size ≤ w14.heap.size ∧ w14.heap.size < (w14.alloc (Obj.cells (madeCells #[.bool false] p.n) 4)).heap.size) := ⟨Nat.le_refl _, by rw [size_allocC]; omega⟩
    obtain ⟨ga, hga⟩ : ∃ ga, ga = w14.heap.size := ⟨_, rfl⟩
    have HGA : Hid (ga = w14.heap.size) := hga
    have HROW : Hid ((w14.alloc (Obj.cells (madeCells #[.bool false] p.n) 4)).ownsRow w1.heap.size 4 1 (.slice (some ⟨ga, 0, none⟩) p.n p.n) p.n ((List.replicate p.n false).map Value.bool)) := by rw [hga]; exact own_baseC HROW0.out HW.out.size
    rw [← hga]
    clear hga HROW0
    generalize w14.alloc (Obj.cells (madeCells #[.bool false] p.n) 4) = w15 at HBA HROW HP15 HGK ⊢
    have HD0 : Hid (Dn w1 w15 sb S P b ov p f X R (.slice oa p.l.length oc) (.slice ea E.length ec) E ga (List.replicate p.n false)) :=
      ⟨_, L4, by simp, HROW.out, .inr (by rw [HGA.out]; exact HGK.out), HP15.out, HL4.out, (HLS.out.below HBA.out).mono (fun z hz => .inl hz), HW.out.trans (HBA.out.mono HW.out.size)⟩
    clear HPW HLS HW HROW HP15 HGK HGA HBA HL1 HL2 HL3 HL4 HM4
    have HOL : Hid (order.length ≤ maxLen) := HQV.out.len_le
    have hol : (order.length : Int) ≤ 9223372036854775807 := by have := HOL.out; unfold maxLen at this; omega
    go_wp2_with fail
    go_loopw [17, 18] (fun nv iv wr => ∃ (i : Nat) (A : List Bool), iv = .int .i64 i ∧ i ≤ 200 ∧ nv = .int .i64 (A.countP id : Nat) ∧ Dn w1 wr sb S P b ov p f X R (.slice oa p.l.length oc) (.slice ea E.length ec) E ga A) (fun _ iv _ => 200 - (intOf iv).toNat)
    case atStart => exact ⟨0, List.replicate p.n false, rfl, Nat.zero_le _, by rw [List.countP_replicate]; rfl, HD0.out⟩
    case round =>
      obtain ⟨i, A, rfl, hil, rfl, K, L, hAl, hrow, hkg, hpw, hLh, hls, hw⟩ := hrel
      have HAL : Hid (A.length = p.n) := hAl
      have HROW : Hid (wr.ownsRow w1.heap.size 4 1 (.slice (some ⟨ga, 0, none⟩) p.n p.n) p.n (A.map Value.bool)) := hrow
      have HKG : Hid (K ga) := hkg
      have HPW : Hid (Pw w1.heap.size K wr sb S P b ov p 1 L) := hpw
      have HLH : Hid (L.map (·.h) = [h37 p S f true A]) := hLh
      have HLS : Hid (Ls w1.heap.size K wr X R p (.slice oa p.l.length oc) (.slice ea E.length ec) E) := hls
      have HW : Hid (Below w1.heap.size w1 wr) := hw
      clear hAl hrow hkg hpw hLh hls hw HD0
      by_cases hlt : i < order.length ∧ i < 200
      · have hlti : (i : Int) < (order.length : Int) := by omega
        have hl2 : (i : Int) < 200 := by omega
        have HLT : Hid (i < 200) := hlt.2
        obtain ⟨fb, fo, efa, d0⟩ := ((HQV.out.below HB1.out).below HW.out).at hlt.1
        subst efa
        obtain ⟨y, hy⟩ : ∃ y, y = nth order i := ⟨_, rfl⟩
        rw [← hy] at d0
        have d1 : wr.cell? ⟨X, 1, none⟩ = some (.int .i64 (p.n : Int)) := by rw [← HSN.out]; exact HLS.out.x.c1
        have rm : (IntKind.u64.wrap y).tmod (p.n : Int) = (parF (p.n : Int) y : Int) := parF_rem hpS
        have rm' : (IntKind.u64.wrap y) % (p.n : Int) = (parF (p.n : Int) y : Int) := parF_rem' hpS
        have hj2 : (parF (p.n : Int) y : Int) < p.n := parF_lt hpS
        obtain ⟨j, hj⟩ : ∃ j, j = parF (p.n : Int) y := ⟨_, rfl⟩
        rw [← hj] at rm rm' hj2
        have hj0 : (0 : Int) ≤ (j : Int) := by omega
        have hwN : IntKind.u64.wrap (p.n : Int) = (p.n : Int) := by rw [IntKind.wrap_u64]; omega
        have hN1 : ¬ (p.n : Int) = 0 := by omega
        have hN3 : ¬ p.n = 0 := by omega
        have hwj : IntKind.i64.wrap (j : Int) = (j : Int) := wrap_small (by omega) (by omega)
        have HJN : Hid (j < p.n) := by show _ < _; omega
        have hltd : decide (i < order.length) = true := decide_eq_true hlt.1
        clear hj hy hlt
        go_upto_region 24 with fail
        go_quiet (fail)
        generalize hw16 : wr.drewN nq = w16
        have HB16 : Hid (Below wr.heap.size wr w16) := by rw [← hw16]; exact below_drewN wr nq
        clear hw16 d0 d1 rm rm' hwN hN1 hN3 hwj hltd
        have hjn : j < p.n := HJN.out
        have hjd : decide (j < p.n) = true := decide_eq_true hjn
        have hjA : j < A.length := by rw [HAL.out]; exact hjn
        have HR16 : Hid (w16.ownsRow w1.heap.size 4 1 (.slice (some ⟨ga, 0, none⟩) p.n p.n) p.n (A.map Value.bool)) := own_belowC HROW.out HB16.out
        have hcz := own_cellN HR16.out (j := j) (u := .bool A[j]) (by rw [List.getElem?_map, List.getElem?_eq_getElem hjA]; rfl)
        have hcl : ((A.countP id : Nat) : Int) ≤ 4 := by have h1 := List.countP_le_length (p := id) (l := A); have h2 := HAL.out; omega
        have z1 := hcz.1
        have z2 := hcz.2
        clear hcz hjn
        have hwW : IntKind.i64.wrap (1 + p.W) = 1 + p.W := wrap_small (by omega) (by omega)
        have hwJ : IntKind.i64.wrap (1 + p.W + (j : Int)) = 1 + p.W + (j : Int) := wrap_small (by omega) (by omega)
        cases hAj : A[j] with
        | false =>
          rw [hAj] at z1
          have HA' : Hid ((setB A j).countP id = A.countP id + 1) := set_cnt hjA hAj
          have HR17 : Hid ((w16.setCell ⟨ga, j, none⟩ (.bool true)).ownsRow w1.heap.size 4 1 (.slice (some ⟨ga, 0, none⟩) p.n p.n) p.n ((setB A j).map Value.bool)) := by have h := own_setRN (o := j) (.bool true) HR16.out; unfold setB; rw [List.map_set]; exact h
          have HC17 : Hid _ := ch_set w16 ga j (.bool true)
          have HP17 : Hid (Pw w1.heap.size K (w16.setCell ⟨ga, j, none⟩ (.bool true)) sb S P b ov p 1 L) := (HPW.out.below HB16.out).turn HC17.out (fun z hz => by rw [hz]; exact HKG.out)
          have HL17 : Hid (Ls w1.heap.size K (w16.setCell ⟨ga, j, none⟩ (.bool true)) X R p (.slice oa p.l.length oc) (.slice ea E.length ec) E) := (HLS.out.below HB16.out).ch HC17.out (nb_x HR16.out (by have := HNL.out; omega) (HLS.out.below HB16.out).x.c0) (nb_r HR16.out (by have := HNL.out; omega) (HLS.out.below HB16.out).r) (nb_e HR16.out (HLS.out.below HB16.out).e)
          have HW17 : Hid (Below w1.heap.size w1 (w16.setCell ⟨ga, j, none⟩ (.bool true))) := (HW.out.trans (HB16.out.mono HW.out.size)).trans (HC17.out.to_below (HW.out.trans (HB16.out.mono HW.out.size)).size (fun z hz => by rw [hz]; exact (HROW.out.lt ga rfl).1))
          go_upto_region 28 with fail
          clear z1 z2
          generalize w16.setCell ⟨ga, j, none⟩ (.bool true) = w17 at HR17 HC17 HP17 HL17 HW17 ⊢
          have hcn : (((A.countP id : Nat) : Int) + 1) = (((setB A j).countP id : Nat) : Int) := by rw [HA'.out]; omega
          clear HC17
          obtain ⟨cN, hcN⟩ : ∃ cN : Nat, cN = (setB A j).countP id := ⟨_, rfl⟩
          rw [← hcN] at hcn
          have HCN : Hid (cN = (setB A j).countP id) := hcN
          have hc4 : (cN : Int) ≤ 4 := by have h1 := List.countP_le_length (p := id) (l := setB A j); have h2 := HAL.out; unfold setB at h1 hcN; rw [List.length_set] at h1; omega
          rw [hcn]
          clear hcn hcN hAj hjA
          have d2 := HL17.out.x.c2
          go_wp2_with fail
          refine (msg17 7 (1 + p.W + (j : Int)) 0).mono ?_
          rintro e w18 ⟨rfl, hB⟩
          have HPa : Hid (Pw w1.heap.size K w18 sb S P b ov p 1 L) := HP17.out.below hB
          have HLa : Hid (Ls w1.heap.size K w18 X R p (.slice oa p.l.length oc) (.slice ea E.length ec) E) := HL17.out.below hB
          have HRa : Hid (w18.ownsRow w1.heap.size 4 1 (.slice (some ⟨ga, 0, none⟩) p.n p.n) p.n ((setB A j).map Value.bool)) := own_belowC HR17.out hB
          have HWa : Hid (Below w1.heap.size w1 w18) := HW17.out.trans (hB.mono HW17.out.size)
          clear hB d2 HP17 HL17 HW17 HR17 HPW HLS HW HROW HR16 HB16
          go_wp2_with fail
          refine (show Calls Tryz.prog 13 #[.pointer (some ⟨P, 0, none⟩), .pointer (some ⟨sb, 0, none⟩), .agg #[.int .i64 7, .int .i64 (1 + p.W + (j : Int)), .int .i64 1, .int .i64 3, .int .i64 7, .int .i64 0, .slice none 0 0, .slice none 0 0, .slice none 0 0]] w18 _ from pw_take (m := ⟨7, 1 + p.W + (j : Int), 1, 3, 7, 0, [], [], []⟩) HPa.out HWa.out.size (ml_0 w18) (small_ok (by omega) e0_ok q0_ok p0_ok) (len_one HLH.out)).mono ?_
          rintro e w19 ⟨v5, rfl, K', M5, lo5, L5, hk1, hk2, hM, e1, e2, hlo, hp5, hc⟩
          have htk := tk_applied (S := S) (S' := S) (f := f) (A := A) HP.out HJN.out
          rw [← HEE.out] at htk
          rw [HLH.out, htk.2] at e1 e2
          rw [htk.1]
          have HMK : Hid (MrK K' w19 lo5 v5 M5) := mrk_of hM hk2
          have HE1 : Hid (M5.map (·.m) = if (setB A j).countP id < p.n then [] else [⟨8, 1, 0, 3, 7, 0, E, [], []⟩]) := e1
          have HPW : Hid (Pw w1.heap.size K' w19 sb S P b ov p 1 L5) := hp5
          have HLS : Hid (Ls w1.heap.size K' w19 X R p (.slice oa p.l.length oc) (.slice ea E.length ec) E) := (HLa.out.nk hc).mono hk1
          have HR19 : Hid (w19.ownsRow w1.heap.size 4 1 (.slice (some ⟨ga, 0, none⟩) p.n p.n) p.n ((setB A j).map Value.bool)) := own_nk HRa.out hc (fun z hz => by cases hz; exact HKG.out)
          have HLH2 : Hid (L5.map (·.h) = [h37 p S f true (setB A j)]) := e2
          have HKG2 : Hid (K' ga) := hk1 _ HKG.out
          have HW : Hid (Below w1.heap.size w1 w19) := HWa.out.trans (nk_below hc HWa.out.size)
          clear hk1 hk2 hM e1 e2 hlo hp5 hc htk HPa HLa HRa HWa HLH HKG
          go_wp2_with fail
          refine (held_walk HPW.out.wm (len_one HLH2.out)).mono ?_
          rintro e w20 ⟨vh, rfl, Fh, hF, hFm, hB⟩
          have hfm : Fh.map (·.h) = [⟨3, 7, E, true, cN⟩] := by
            rw [hFm]
            have e : (L5.map fun a => heH a.h) = (L5.map (·.h)).map heH := by rw [List.map_map]; rfl
            rw [e, HLH2.out, HEE.out, HCN.out]
            rfl
          obtain ⟨hg, hcap, ha', hc', rfl, hhx, hho⟩ := hr_one hF hfm
          have HHX : Hid (HXo w20 hg 0 ⟨⟨3, 7, E, true, cN⟩, .slice ha' E.length hc'⟩) := hhx
          have HNH : Hid (Nv w20 (.slice ha' E.length hc') E) := own_nv hho.e hho.ok
          have HB20 : Hid (Below w19.heap.size w19 w20) := hB
          have HNR : Hid (Nv w20 (.slice ea E.length ec) E) := own_nv (HLS.out.below hB).e HEO.out
          clear hF hFm hB hfm hhx hho
          go_upto_region 30 with fail
          have k0 : ∀ wz, Below w20.heap.size w20 wz → wz.cell? ⟨hg, 0, none⟩ = some (.int .i64 3) := fun wz h => (HHX.out.below h).c0
          have k1 : ∀ wz, Below w20.heap.size w20 wz → wz.cell? ⟨hg, 1, none⟩ = some (.int .i64 7) := fun wz h => (HHX.out.below h).c1
          have k2 : ∀ wz, Below w20.heap.size w20 wz → wz.cell? ⟨hg, 2, none⟩ = some (.slice ha' E.length hc') := fun wz h => (HHX.out.below h).c2
          have k3 : ∀ wz, Below w20.heap.size w20 wz → wz.cell? ⟨hg, 3, none⟩ = some (.bool true) := fun wz h => (HHX.out.below h).c3
          have k4 : ∀ wz, Below w20.heap.size w20 wz → wz.cell? ⟨hg, 4, none⟩ = some (.int .i64 (cN : Int)) := fun wz h => (HHX.out.below h).c4
          have k5 : ∀ wz, Below w20.heap.size w20 wz → wz.cell? ⟨R, 6, none⟩ = some (.slice ea E.length ec) := fun wz h => ((HLS.out.below HB20.out).below h).r
          have hk : ∀ z : Int, (z != z) = false := fun z => by simp
          refine wp_region_noPanic ?_
          refine wp_region_held_drew (S := fun wz => Below w20.heap.size w20 wz) (by kernel_rfl) ?_ (fun hHeld => ?_)
          · exact below_drewN w20 1
          refine wpAnyH_take (i := 0) (oi := ⟨some 163, _, _, _, _, _⟩) (v := ?_) rfl (by kernel_rfl) (by kernel_rfl) (by kernel_rfl) (fun _ _ _ h => h) (Or.inl ⟨by rfl, ?_⟩) hHeld ?_
          rotate_left
          · intro w hSw; (try dsimp only at hSw); go_simp; all_goals (with_reducible rfl)
          try simp only [Act.put, List.setIfInBounds_toArray, List.set_cons_zero, List.set_cons_succ]
          refine wpAnyH_take (i := 1) (oi := ⟨some 164, _, _, _, _, _⟩) (v := ?_) rfl (by kernel_rfl) (by kernel_rfl) (by kernel_rfl) (fun _ _ _ h => h) (Or.inl ⟨by rfl, ?_⟩) hHeld ?_
          rotate_left
          · intro w hSw; (try dsimp only at hSw); go_simp; all_goals (with_reducible rfl)
          try simp only [Act.put, List.setIfInBounds_toArray, List.set_cons_zero, List.set_cons_succ]
          refine wpAnyH_take (i := 2) (oi := ⟨some 165, _, _, _, _, _⟩) (v := ?_) rfl (by kernel_rfl) (by kernel_rfl) (by kernel_rfl) (fun _ _ _ h => h) (Or.inl ⟨by rfl, ?_⟩) hHeld ?_
          rotate_left
          · intro w hSw; (try dsimp only at hSw); go_simp; all_goals (with_reducible rfl)
          try simp only [Act.put, List.setIfInBounds_toArray, List.set_cons_zero, List.set_cons_succ]
          refine wpAnyH_take (i := 3) (oi := ⟨some 166, _, _, _, _, _⟩) (v := ?_) rfl (by kernel_rfl) (by kernel_rfl) (by kernel_rfl) (fun _ _ _ h => h) (Or.inl ⟨by rfl, ?_⟩) hHeld ?_
          rotate_left
          · intro w hSw; (try dsimp only at hSw); go_simp; all_goals (with_reducible rfl)
          try simp only [Act.put, List.setIfInBounds_toArray, List.set_cons_zero, List.set_cons_succ]
          refine wpAnyH_take (i := 4) (oi := ⟨some 167, _, _, _, _, _⟩) (v := ?_) rfl (by kernel_rfl) (by kernel_rfl) (by kernel_rfl) (fun _ _ _ h => h) (Or.inl ⟨by rfl, ?_⟩) hHeld ?_
          rotate_left
          · intro w hSw; (try dsimp only at hSw); go_simp; all_goals (with_reducible rfl)
          try simp only [Act.put, List.setIfInBounds_toArray, List.set_cons_zero, List.set_cons_succ]
          refine wpAnyH_take (i := 5) (oi := ⟨some 168, _, _, _, _, _⟩) (v := ?_) rfl (by kernel_rfl) (by kernel_rfl) (by kernel_rfl) (fun _ _ _ h => h) (Or.inl ⟨by rfl, ?_⟩) hHeld ?_
          rotate_left
          · intro w hSw; (try dsimp only at hSw); go_simp; all_goals (with_reducible rfl)
          try simp only [Act.put, List.setIfInBounds_toArray, List.set_cons_zero, List.set_cons_succ]
          refine wpAnyH_take (i := 6) (oi := ⟨some 169, _, _, _, _, _⟩) (v := ?_) rfl (by kernel_rfl) (by kernel_rfl) (by kernel_rfl) (fun _ _ _ h => h) (Or.inl ⟨by rfl, ?_⟩) hHeld ?_
          rotate_left
          · intro w hSw; (try dsimp only at hSw); go_simp; all_goals (with_reducible rfl)
          try simp only [Act.put, List.setIfInBounds_toArray, List.set_cons_zero, List.set_cons_succ]
          refine wpAnyH_take (i := 7) (oi := ⟨some 170, _, _, _, _, _⟩) (v := ?_) rfl (by kernel_rfl) (by kernel_rfl) (by kernel_rfl) (fun _ _ _ h => h) (Or.inl ⟨by rfl, ?_⟩) hHeld ?_
          rotate_left
          · intro w hSw; (try dsimp only at hSw); go_simp; all_goals (with_reducible rfl)
          try simp only [Act.put, List.setIfInBounds_toArray, List.set_cons_zero, List.set_cons_succ]
          refine wpAnyH_take (i := 8) (oi := ⟨some 171, _, _, _, _, _⟩) (v := ?_) rfl (by kernel_rfl) (by kernel_rfl) (by kernel_rfl) (fun _ _ _ h => h) (Or.inl ⟨by rfl, ?_⟩) hHeld ?_
          rotate_left
          · intro w hSw; (try dsimp only at hSw); go_simp; all_goals (with_reducible rfl)
          try simp only [Act.put, List.setIfInBounds_toArray, List.set_cons_zero, List.set_cons_succ]
          refine wpAnyH_take (i := 9) (oi := ⟨some 172, _, _, _, _, _⟩) (v := ?_) rfl (by kernel_rfl) (by kernel_rfl) (by kernel_rfl) (fun _ _ _ h => h) (Or.inl ⟨by rfl, ?_⟩) hHeld ?_
          rotate_left
          · intro w hSw; (try dsimp only at hSw); go_simp; all_goals (with_reducible rfl)
          try simp only [Act.put, List.setIfInBounds_toArray, List.set_cons_zero, List.set_cons_succ]
          refine wpAnyH_take (i := 10) (oi := ⟨some 173, _, _, _, _, _⟩) (v := ?_) rfl (by kernel_rfl) (by kernel_rfl) (by kernel_rfl) (fun _ _ _ h => h) (Or.inl ⟨by rfl, ?_⟩) hHeld ?_
          rotate_left
          · intro w hSw; (try dsimp only at hSw); go_simp; all_goals (with_reducible rfl)
          try simp only [Act.put, List.setIfInBounds_toArray, List.set_cons_zero, List.set_cons_succ]
          refine wpAnyH_take (i := 11) (oi := ⟨some 174, _, _, _, _, _⟩) (v := ?_) rfl (by kernel_rfl) (by kernel_rfl) (by kernel_rfl) (fun _ _ _ h => h) (Or.inl ⟨by rfl, ?_⟩) hHeld ?_
          rotate_left
          · intro w hSw; (try dsimp only at hSw); go_simp; all_goals (with_reducible rfl)
          try simp only [Act.put, List.setIfInBounds_toArray, List.set_cons_zero, List.set_cons_succ]
          refine wpAnyH_take (i := 12) (oi := ⟨some 175, _, _, _, _, _⟩) (v := ?_) rfl (by kernel_rfl) (by kernel_rfl) (by kernel_rfl) (fun _ _ _ h => h) (Or.inl ⟨by rfl, ?_⟩) hHeld ?_
          rotate_left
          · intro w hSw; (try dsimp only at hSw); go_simp; all_goals (with_reducible rfl)
          try simp only [Act.put, List.setIfInBounds_toArray, List.set_cons_zero, List.set_cons_succ]
          refine wpAnyH_take (i := 13) (oi := ⟨some 176, _, _, _, _, _⟩) (v := ?_) rfl (by kernel_rfl) (by kernel_rfl) (by kernel_rfl) (fun _ _ _ h => h) (Or.inl ⟨by rfl, ?_⟩) hHeld ?_
          rotate_left
          · intro w hSw; (try dsimp only at hSw); go_simp; all_goals (with_reducible rfl)
          try simp only [Act.put, List.setIfInBounds_toArray, List.set_cons_zero, List.set_cons_succ]
          refine wpAnyH_take (i := 14) (oi := ⟨some 177, _, _, _, _, _⟩) (v := ?_) rfl (by kernel_rfl) (by kernel_rfl) (by kernel_rfl) (fun _ _ _ h => h) (Or.inl ⟨by rfl, ?_⟩) hHeld ?_
          rotate_left
          · intro w hSw; (try dsimp only at hSw); go_simp; all_goals (with_reducible rfl)
          try simp only [Act.put, List.setIfInBounds_toArray, List.set_cons_zero, List.set_cons_succ]
          refine wpAnyH_take (i := 15) (oi := ⟨some 178, _, _, _, _, _⟩) (v := ?_) rfl (by kernel_rfl) (by kernel_rfl) (by kernel_rfl) (fun _ _ _ h => h) (Or.inl ⟨by rfl, ?_⟩) hHeld ?_
          rotate_left
          · intro w hSw; (try dsimp only at hSw); go_simp; all_goals (with_reducible rfl)
          try simp only [Act.put, List.setIfInBounds_toArray, List.set_cons_zero, List.set_cons_succ]
          refine wpAnyH_take (i := 16) (oi := ⟨some 179, _, _, _, _, _⟩) (v := ?_) rfl (by kernel_rfl) (by kernel_rfl) (by kernel_rfl) (fun _ _ _ h => h) (Or.inl ⟨by rfl, ?_⟩) hHeld ?_
          rotate_left
          · intro w hSw; (try dsimp only at hSw); go_simp; all_goals (with_reducible rfl)
          try simp only [Act.put, List.setIfInBounds_toArray, List.set_cons_zero, List.set_cons_succ]
          refine wpAnyH_take (i := 17) (oi := ⟨some 180, _, _, _, _, _⟩) (v := ?_) rfl (by kernel_rfl) (by kernel_rfl) (by kernel_rfl) (fun _ _ _ h => h) (Or.inl ⟨by rfl, ?_⟩) hHeld ?_
          rotate_left
          · intro w hSw; (try dsimp only at hSw); go_simp; all_goals (with_reducible rfl)
          try simp only [Act.put, List.setIfInBounds_toArray, List.set_cons_zero, List.set_cons_succ]
          refine wpAnyH_take (i := 18) (oi := ⟨some 181, _, _, _, _, _⟩) (v := ?_) rfl (by kernel_rfl) (by kernel_rfl) (by kernel_rfl) (fun _ _ _ h => h) (Or.inl ⟨by rfl, ?_⟩) hHeld ?_
          rotate_left
          · intro w hSw; (try dsimp only at hSw); go_simp; all_goals (with_reducible rfl)
          try simp only [Act.put, List.setIfInBounds_toArray, List.set_cons_zero, List.set_cons_succ]
          refine wpAnyH_take (i := 19) (oi := ⟨some 182, _, _, _, _, _⟩) (v := ?_) rfl (by kernel_rfl) (by kernel_rfl) (by kernel_rfl) (fun _ _ _ h => h) (Or.inl ⟨by rfl, ?_⟩) hHeld ?_
          rotate_left
          · intro w hSw; (try dsimp only at hSw); go_simp; all_goals (with_reducible rfl)
          try simp only [Act.put, List.setIfInBounds_toArray, List.set_cons_zero, List.set_cons_succ]
          refine wpAnyH_take (i := 20) (oi := ⟨some 183, _, _, _, _, _⟩) (v := ?_) rfl (by kernel_rfl) (by kernel_rfl) (by kernel_rfl) (fun _ _ _ h => h) (Or.inl ⟨by rfl, ?_⟩) hHeld ?_
          rotate_left
          · intro w hSw; (try dsimp only at hSw); go_simp; all_goals (with_reducible rfl)
          try simp only [Act.put, List.setIfInBounds_toArray, List.set_cons_zero, List.set_cons_succ]
          refine wpAnyH_take (i := 21) (oi := ⟨some 184, _, _, _, _, _⟩) (v := ?_) rfl (by kernel_rfl) (by kernel_rfl) (by kernel_rfl) (fun _ _ _ h => h) (Or.inl ⟨by rfl, ?_⟩) hHeld ?_
          rotate_left
          · intro w hSw; (try dsimp only at hSw); go_simp; all_goals (with_reducible rfl)
          try simp only [Act.put, List.setIfInBounds_toArray, List.set_cons_zero, List.set_cons_succ]
          refine wpAnyH_take (i := 22) (oi := ⟨some 185, _, _, _, _, _⟩) (v := ?_) rfl (by kernel_rfl) (by kernel_rfl) (by kernel_rfl) (fun _ _ _ h => h) (Or.inl ⟨by rfl, ?_⟩) hHeld ?_
          rotate_left
          · intro w hSw; (try dsimp only at hSw); go_simp; all_goals (with_reducible rfl)
          try simp only [Act.put, List.setIfInBounds_toArray, List.set_cons_zero, List.set_cons_succ]
          refine wpAnyH_take (i := 23) (oi := ⟨some 186, _, _, _, _, _⟩) (v := ?_) rfl (by kernel_rfl) (by kernel_rfl) (by kernel_rfl) (fun _ _ _ h => h) (Or.inl ⟨by rfl, ?_⟩) hHeld ?_
          rotate_left
          · intro w hSw; (try dsimp only at hSw); go_simp; all_goals (with_reducible rfl)
          try simp only [Act.put, List.setIfInBounds_toArray, List.set_cons_zero, List.set_cons_succ]
          refine wpAnyH_take (i := 24) (oi := ⟨some 187, _, _, _, _, _⟩) (v := ?_) rfl (by kernel_rfl) (by kernel_rfl) (by kernel_rfl) (fun _ _ _ h => h) (Or.inl ⟨by rfl, ?_⟩) hHeld ?_
          rotate_left
          · intro w hSw; (try dsimp only at hSw); go_simp; all_goals (with_reducible rfl)
          try simp only [Act.put, List.setIfInBounds_toArray, List.set_cons_zero, List.set_cons_succ]
          refine wpAnyH_take (i := 25) (oi := ⟨some 188, _, _, _, _, _⟩) (v := ?_) rfl (by kernel_rfl) (by kernel_rfl) (by kernel_rfl) (fun _ _ _ h => h) (Or.inl ⟨by rfl, ?_⟩) hHeld ?_
          rotate_left
          · intro w hSw; (try dsimp only at hSw); go_simp; all_goals (with_reducible rfl)
          try simp only [Act.put, List.setIfInBounds_toArray, List.set_cons_zero, List.set_cons_succ]
          refine wpAnyH_take (i := 26) (oi := ⟨some 189, _, _, _, _, _⟩) (v := ?_) rfl (by kernel_rfl) (by kernel_rfl) (by kernel_rfl) (fun _ _ _ h => h) (Or.inl ⟨by rfl, ?_⟩) hHeld ?_
          rotate_left
          · intro w hSw; (try dsimp only at hSw); go_simp; all_goals (with_reducible rfl)
          try simp only [Act.put, List.setIfInBounds_toArray, List.set_cons_zero, List.set_cons_succ]
          refine wpAnyH_take (i := 27) (oi := ⟨some 190, _, _, _, _, _⟩) (v := ?_) rfl (by kernel_rfl) (by kernel_rfl) (by kernel_rfl) (fun _ _ _ h => h) (Or.inl ⟨by rfl, ?_⟩) hHeld ?_
          rotate_left
          · intro w hSw; (try dsimp only at hSw); go_simp; all_goals (with_reducible rfl)
          try simp only [Act.put, List.setIfInBounds_toArray, List.set_cons_zero, List.set_cons_succ]
          refine wpAnyH_take (i := 28) (oi := ⟨some 191, _, _, _, _, _⟩) (v := ?_) rfl (by kernel_rfl) (by kernel_rfl) (by kernel_rfl) (fun _ _ _ h => h) (Or.inl ⟨by rfl, ?_⟩) hHeld ?_
          rotate_left
          · intro w hSw; (try dsimp only at hSw); go_simp; all_goals (with_reducible rfl)
          try simp only [Act.put, List.setIfInBounds_toArray, List.set_cons_zero, List.set_cons_succ]
          refine wpAnyH_take (i := 29) (oi := ⟨some 192, _, _, _, _, _⟩) (v := ?_) rfl (by kernel_rfl) (by kernel_rfl) (by kernel_rfl) (fun _ _ _ h => h) (Or.inl ⟨by rfl, ?_⟩) hHeld ?_
          rotate_left
          · intro w hSw; (try dsimp only at hSw); go_simp; all_goals (with_reducible rfl)
          try simp only [Act.put, List.setIfInBounds_toArray, List.set_cons_zero, List.set_cons_succ]
          refine wpAnyH_take (i := 30) (oi := ⟨some 193, _, _, _, _, _⟩) (v := ?_) rfl (by kernel_rfl) (by kernel_rfl) (by kernel_rfl) (fun _ _ _ h => h) (Or.inl ⟨by rfl, ?_⟩) hHeld ?_
          rotate_left
          · intro w hSw; (try dsimp only at hSw); go_simp; all_goals (with_reducible rfl)
          try simp only [Act.put, List.setIfInBounds_toArray, List.set_cons_zero, List.set_cons_succ]
          refine wpAnyH_take (i := 31) (oi := ⟨some 194, _, _, _, _, _⟩) (v := ?_) rfl (by kernel_rfl) (by kernel_rfl) (by kernel_rfl) (fun _ _ _ h => h) (Or.inl ⟨by rfl, ?_⟩) hHeld ?_
          rotate_left
          · intro w hSw; (try dsimp only at hSw); go_simp; all_goals (with_reducible rfl)
          try simp only [Act.put, List.setIfInBounds_toArray, List.set_cons_zero, List.set_cons_succ]
          refine wpAnyH_take (i := 32) (oi := ⟨some 195, _, _, _, _, _⟩) (v := ?_) rfl (by kernel_rfl) (by kernel_rfl) (by kernel_rfl) (fun _ _ _ h => h) (Or.inl ⟨by rfl, ?_⟩) hHeld ?_
          rotate_left
          · intro w hSw; (try dsimp only at hSw); go_simp; all_goals (with_reducible rfl)
          try simp only [Act.put, List.setIfInBounds_toArray, List.set_cons_zero, List.set_cons_succ]
          refine wpAnyH_take (i := 33) (oi := ⟨some 196, _, _, _, _, _⟩) (v := ?_) rfl (by kernel_rfl) (by kernel_rfl) (by kernel_rfl) (fun _ _ _ h => h) (Or.inl ⟨by rfl, ?_⟩) hHeld ?_
          rotate_left
          · intro w hSw; (try dsimp only at hSw); go_simp; all_goals (with_reducible rfl)
          try simp only [Act.put, List.setIfInBounds_toArray, List.set_cons_zero, List.set_cons_succ]
          refine wpAnyH_take (i := 34) (oi := ⟨some 197, _, _, _, _, _⟩) (v := ?_) rfl (by kernel_rfl) (by kernel_rfl) (by kernel_rfl) (fun _ _ _ h => h) (Or.inl ⟨by rfl, ?_⟩) hHeld ?_
          rotate_left
          · intro w hSw; (try dsimp only at hSw); go_simp; all_goals (with_reducible rfl)
          try simp only [Act.put, List.setIfInBounds_toArray, List.set_cons_zero, List.set_cons_succ]
          refine wpAnyH_take (i := 35) (oi := ⟨some 198, _, _, _, _, _⟩) (v := ?_) rfl (by kernel_rfl) (by kernel_rfl) (by kernel_rfl) (fun _ _ _ h => h) (Or.inl ⟨by rfl, ?_⟩) hHeld ?_
          rotate_left
          · intro w hSw; (try dsimp only at hSw); go_simp; all_goals (with_reducible rfl)
          try simp only [Act.put, List.setIfInBounds_toArray, List.set_cons_zero, List.set_cons_succ]
          refine wpAnyH_take (i := 36) (oi := ⟨some 199, _, _, _, _, _⟩) (v := ?_) rfl (by kernel_rfl) (by kernel_rfl) (by kernel_rfl) (fun _ _ _ h => h) (Or.inl ⟨by rfl, ?_⟩) hHeld ?_
          rotate_left
          · intro w hSw; (try dsimp only at hSw); go_simp; all_goals (with_reducible rfl)
          try simp only [Act.put, List.setIfInBounds_toArray, List.set_cons_zero, List.set_cons_succ]
          refine wpAnyH_take (i := 37) (oi := ⟨some 200, _, _, _, _, _⟩) (v := ?_) rfl (by kernel_rfl) (by kernel_rfl) (by kernel_rfl) (fun _ _ _ h => h) (Or.inl ⟨by rfl, ?_⟩) hHeld ?_
          rotate_left
          · intro w hSw; (try dsimp only at hSw); go_simp; all_goals (with_reducible rfl)
          try simp only [Act.put, List.setIfInBounds_toArray, List.set_cons_zero, List.set_cons_succ]
          refine wpAnyH_take (i := 38) (oi := ⟨some 201, _, _, _, _, _⟩) (v := ?_) rfl (by kernel_rfl) (by kernel_rfl) (by kernel_rfl) (fun _ _ _ h => h) (Or.inl ⟨by rfl, ?_⟩) hHeld ?_
          rotate_left
          · intro w hSw; (try dsimp only at hSw); go_simp; all_goals (with_reducible rfl)
          try simp only [Act.put, List.setIfInBounds_toArray, List.set_cons_zero, List.set_cons_succ]
          refine wpAnyH_ready (rs := [39]) (by kernel_rfl) (by simp) ?_
          refine AllReadyH.cons (o := ⟨some 202, _, _, _, _, _⟩) rfl (fun K hK => ?_) AllReadyH.nil
          go_simp
          refine (ints17 (HNH.out.below (below_drewN w20 1)) (HNR.out.below (below_drewN w20 1))).mono ?_
          rintro e w21 ⟨he, hB⟩
          have he1 : e = .returned (.bool true) := by rw [he]; simp
          clear he
          subst he1
          have HB21 : Hid (Below w20.heap.size w20 w21) := below_trans (below_drewN w20 1) hB
          clear hB
          refine hK.out _ _ ?_ (fun hHeld => ?_)
          · exact HB21.out
          clear hK K
          try simp only [Act.put, List.setIfInBounds_toArray, List.set_cons_zero, List.set_cons_succ]
          refine wpAnyH_take (i := 40) (oi := ⟨some 203, _, _, _, _, _⟩) (v := ?_) rfl (by kernel_rfl) (by kernel_rfl) (by kernel_rfl) (fun _ _ _ h => h) (Or.inl ⟨by rfl, ?_⟩) hHeld ?_
          rotate_left
          · intro w hSw; (try dsimp only at hSw); go_simp; all_goals (with_reducible rfl)
          try simp only [Act.put, List.setIfInBounds_toArray, List.set_cons_zero, List.set_cons_succ]
          refine wpAnyH_take (i := 41) (oi := ⟨some 204, _, _, _, _, _⟩) (v := ?_) rfl (by kernel_rfl) (by kernel_rfl) (by kernel_rfl) (fun _ _ _ h => h) (Or.inl ⟨by rfl, ?_⟩) hHeld ?_
          rotate_left
          · intro w hSw; (try dsimp only at hSw); go_simp; all_goals (with_reducible rfl)
          try simp only [Act.put, List.setIfInBounds_toArray, List.set_cons_zero, List.set_cons_succ]
          refine wpAnyH_done (by kernel_rfl) ?_ _
          refine NoPanic.normal ?_
          clear k0 k1 k2 k3 k4 k5 hk
          have HB21w : Hid (Below w19.heap.size w19 w21) := below_trans HB20.out HB21.out
          have d1 : w21.cell? ⟨X, 1, none⟩ = some (.int .i64 (p.n : Int)) := by rw [← HSN.out]; exact (HLS.out.below HB21w.out).x.c1
          by_cases hcp : cN < p.n
          · have hcpi : (cN : Int) < (p.n : Int) := by omega
            have hm5 := none_of (HE1.out.trans (if_pos (by rw [← HCN.out]; exact hcp)))
            subst hm5
            obtain ⟨ba5, bc5, hv5⟩ := own_formN HMK.out.r.own
            rw [List.length_nil] at hv5
            subst hv5
            clear hcp
            go_wp2_with fail
            go_roundw
            case rel => exact ⟨i + 1, setB A j, by go_num, HLT.out, by rw [HCN.out], K', L5, by unfold setB; rw [List.length_set]; exact HAL.out, own_belowC HR19.out HB21w.out, HKG2.out, HPW.out.below HB21w.out, HLH2.out, HLS.out.below HB21w.out, HW.out.trans (HB21w.out.mono HW.out.size)⟩
            case measure => have := HLT.out; simp [intOf]; omega
          · have hcpi : ¬ (cN : Int) < (p.n : Int) := by omega
            obtain ⟨g5, q5, da, dc, xa5, xc5, ya5, yc5, hv5, hmx5, hto5, _⟩ := mrk_one (HMK.out.below HB21w.out) (HE1.out.trans (if_neg (by rw [← HCN.out]; exact hcp)))
            subst hv5
            have HMX5 : Hid (MXo w21 g5 0 ⟨⟨8, 1, 0, 3, 7, 0, E, [], []⟩, .slice da E.length dc, .slice xa5 0 xc5, .slice ya5 0 yc5⟩) := hmx5
            have HTO5 : Hid (w21.ownsRow lo5 3 1 (.slice da E.length dc) E.length (cellsN E)) := hto5.e
            clear hcp hmx5 hto5
            go_upto_region 35 with fail
            clear d1
            go_wp2_with fail
            refine (show Calls Tryz.prog 27 #[.slice (some ⟨g5, 0, none⟩) 1 q5, .int .i64 0, .int .i64 8, .int .i64 0] w21 _ from one17 (m := ⟨8, 1, 0, 3, 7, 0, E, [], []⟩) (ea := da) (en := E.length) (ec := dc) (qa := xa5) (qn := 0) (qc := xc5) (pa := ya5) (pn := 0) (pc := yc5) HMX5.out rfl rfl rfl).mono ?_
            rintro e w22 ⟨rfl, hB⟩
            dsimp only
            have HB22 : Hid (Below w19.heap.size w19 w22) := below_trans HB21w.out hB
            have HTO6 : Hid (w22.ownsRow lo5 3 1 (.slice da E.length dc) E.length (cellsN E)) := own_belowC HTO5.out hB
            clear hB HTO5 HMX5
            go_upto_region 36 with fail
            have HBA : Hid _ := below_alloc w22 (Obj.cells #[.int .i64 8, .int .i64 1, .int .i64 0, .int .i64 3, .int .i64 7, .int .i64 0, .slice da E.length dc, .slice xa5 0 xc5, .slice ya5 0 yc5] 48)
            have HDC : Hid ((w22.alloc (Obj.cells #[.int .i64 8, .int .i64 1, .int .i64 0, .int .i64 3, .int .i64 7, .int .i64 0, .slice da E.length dc, .slice xa5 0 xc5, .slice ya5 0 yc5] 48)).cell? ⟨w22.heap.size, 6, none⟩ = some (.slice da E.length dc)) := by show _ = _; simp [go_sem]
            obtain ⟨Z, hZ⟩ : ∃ Z, Z = w22.heap.size := ⟨_, rfl⟩
            rw [← hZ] at HDC ⊢
            clear hZ
            generalize w22.alloc (Obj.cells #[.int .i64 8, .int .i64 1, .int .i64 0, .int .i64 3, .int .i64 7, .int .i64 0, .slice da E.length dc, .slice xa5 0 xc5, .slice ya5 0 yc5] 48) = w23 at HBA HDC ⊢
            have HB23 : Hid (Below w19.heap.size w19 w23) := below_trans HB22.out HBA.out
            have HNA : Hid (Nv w23 (.slice da E.length dc) E) := own_nv (own_belowC HTO6.out HBA.out) HEO.out
            have HNB : Hid (Nv w23 (.slice ea E.length ec) E) := own_nv (HLS.out.below HB23.out).e HEO.out
            have z6 := HDC.out
            have r6 := (HLS.out.below HB23.out).r
            go_wp2_with fail
            refine (ints17 HNA.out HNB.out).mono ?_
            rintro e w24 ⟨he, hB⟩
            have he1 : e = .returned (.bool true) := by rw [he]; simp
            clear he
            subst he1
            have HB24 : Hid (Below w19.heap.size w19 w24) := below_trans HB23.out hB
            clear hB z6 r6
            go_wp2_with fail
            go_roundw
            case rel => exact ⟨i + 1, setB A j, by go_num, HLT.out, by rw [HCN.out], K', L5, by unfold setB; rw [List.length_set]; exact HAL.out, own_belowC HR19.out HB24.out, HKG2.out, HPW.out.below HB24.out, HLH2.out, HLS.out.below HB24.out, HW.out.trans (HB24.out.mono HW.out.size)⟩
            case measure => have := HLT.out; simp [intOf]; omega
        | true =>
          rw [hAj] at z1
          have HA' : Hid (setB A j = A) := set_same hjA hAj
          have HR17 : Hid (w16.ownsRow w1.heap.size 4 1 (.slice (some ⟨ga, 0, none⟩) p.n p.n) p.n ((setB A j).map Value.bool)) := by rw [HA'.out]; exact HR16.out
          have HP17 : Hid (Pw w1.heap.size K w16 sb S P b ov p 1 L) := HPW.out.below HB16.out
          have HL17 : Hid (Ls w1.heap.size K w16 X R p (.slice oa p.l.length oc) (.slice ea E.length ec) E) := HLS.out.below HB16.out
          have HW17 : Hid (Below w1.heap.size w1 w16) := HW.out.trans (HB16.out.mono HW.out.size)
          go_upto_region 28 with fail
          clear z1 z2
          generalize w16 = w17 at HR17 HP17 HL17 HW17 ⊢
          have hcn : ((A.countP id : Nat) : Int) = (((setB A j).countP id : Nat) : Int) := by rw [HA'.out]
          obtain ⟨cN, hcN⟩ : ∃ cN : Nat, cN = (setB A j).countP id := ⟨_, rfl⟩
          rw [← hcN] at hcn
          have HCN : Hid (cN = (setB A j).countP id) := hcN
          have hc4 : (cN : Int) ≤ 4 := by have h1 := List.countP_le_length (p := id) (l := setB A j); have h2 := HAL.out; unfold setB at h1 hcN; rw [List.length_set] at h1; omega
          rw [hcn]
          clear hcn hcN hAj hjA
          have d2 := HL17.out.x.c2
          go_wp2_with fail
          refine (msg17 7 (1 + p.W + (j : Int)) 0).mono ?_
          rintro e w18 ⟨rfl, hB⟩
          have HPa : Hid (Pw w1.heap.size K w18 sb S P b ov p 1 L) := HP17.out.below hB
          have HLa : Hid (Ls w1.heap.size K w18 X R p (.slice oa p.l.length oc) (.slice ea E.length ec) E) := HL17.out.below hB
          have HRa : Hid (w18.ownsRow w1.heap.size 4 1 (.slice (some ⟨ga, 0, none⟩) p.n p.n) p.n ((setB A j).map Value.bool)) := own_belowC HR17.out hB
          have HWa : Hid (Below w1.heap.size w1 w18) := HW17.out.trans (hB.mono HW17.out.size)
          clear hB d2 HP17 HL17 HW17 HR17 HPW HLS HW HROW HR16 HB16
          go_wp2_with fail
          refine (show Calls Tryz.prog 13 #[.pointer (some ⟨P, 0, none⟩), .pointer (some ⟨sb, 0, none⟩), .agg #[.int .i64 7, .int .i64 (1 + p.W + (j : Int)), .int .i64 1, .int .i64 3, .int .i64 7, .int .i64 0, .slice none 0 0, .slice none 0 0, .slice none 0 0]] w18 _ from pw_take (m := ⟨7, 1 + p.W + (j : Int), 1, 3, 7, 0, [], [], []⟩) HPa.out HWa.out.size (ml_0 w18) (small_ok (by omega) e0_ok q0_ok p0_ok) (len_one HLH.out)).mono ?_
          rintro e w19 ⟨v5, rfl, K', M5, lo5, L5, hk1, hk2, hM, e1, e2, hlo, hp5, hc⟩
          have htk := tk_applied (S := S) (S' := S) (f := f) (A := A) HP.out HJN.out
          rw [← HEE.out] at htk
          rw [HLH.out, htk.2] at e1 e2
          rw [htk.1]
          have HMK : Hid (MrK K' w19 lo5 v5 M5) := mrk_of hM hk2
          have HE1 : Hid (M5.map (·.m) = if (setB A j).countP id < p.n then [] else [⟨8, 1, 0, 3, 7, 0, E, [], []⟩]) := e1
          have HPW : Hid (Pw w1.heap.size K' w19 sb S P b ov p 1 L5) := hp5
          have HLS : Hid (Ls w1.heap.size K' w19 X R p (.slice oa p.l.length oc) (.slice ea E.length ec) E) := (HLa.out.nk hc).mono hk1
          have HR19 : Hid (w19.ownsRow w1.heap.size 4 1 (.slice (some ⟨ga, 0, none⟩) p.n p.n) p.n ((setB A j).map Value.bool)) := own_nk HRa.out hc (fun z hz => by cases hz; exact HKG.out)
          have HLH2 : Hid (L5.map (·.h) = [h37 p S f true (setB A j)]) := e2
          have HKG2 : Hid (K' ga) := hk1 _ HKG.out
          have HW : Hid (Below w1.heap.size w1 w19) := HWa.out.trans (nk_below hc HWa.out.size)
          clear hk1 hk2 hM e1 e2 hlo hp5 hc htk HPa HLa HRa HWa HLH HKG
          go_wp2_with fail
          refine (held_walk HPW.out.wm (len_one HLH2.out)).mono ?_
          rintro e w20 ⟨vh, rfl, Fh, hF, hFm, hB⟩
          have hfm : Fh.map (·.h) = [⟨3, 7, E, true, cN⟩] := by
            rw [hFm]
            have e : (L5.map fun a => heH a.h) = (L5.map (·.h)).map heH := by rw [List.map_map]; rfl
            rw [e, HLH2.out, HEE.out, HCN.out]
            rfl
          obtain ⟨hg, hcap, ha', hc', rfl, hhx, hho⟩ := hr_one hF hfm
          have HHX : Hid (HXo w20 hg 0 ⟨⟨3, 7, E, true, cN⟩, .slice ha' E.length hc'⟩) := hhx
          have HNH : Hid (Nv w20 (.slice ha' E.length hc') E) := own_nv hho.e hho.ok
          have HB20 : Hid (Below w19.heap.size w19 w20) := hB
          have HNR : Hid (Nv w20 (.slice ea E.length ec) E) := own_nv (HLS.out.below hB).e HEO.out
          clear hF hFm hB hfm hhx hho
          go_upto_region 30 with fail
          have k0 : ∀ wz, Below w20.heap.size w20 wz → wz.cell? ⟨hg, 0, none⟩ = some (.int .i64 3) := fun wz h => (HHX.out.below h).c0
          have k1 : ∀ wz, Below w20.heap.size w20 wz → wz.cell? ⟨hg, 1, none⟩ = some (.int .i64 7) := fun wz h => (HHX.out.below h).c1
          have k2 : ∀ wz, Below w20.heap.size w20 wz → wz.cell? ⟨hg, 2, none⟩ = some (.slice ha' E.length hc') := fun wz h => (HHX.out.below h).c2
          have k3 : ∀ wz, Below w20.heap.size w20 wz → wz.cell? ⟨hg, 3, none⟩ = some (.bool true) := fun wz h => (HHX.out.below h).c3
          have k4 : ∀ wz, Below w20.heap.size w20 wz → wz.cell? ⟨hg, 4, none⟩ = some (.int .i64 (cN : Int)) := fun wz h => (HHX.out.below h).c4
          have k5 : ∀ wz, Below w20.heap.size w20 wz → wz.cell? ⟨R, 6, none⟩ = some (.slice ea E.length ec) := fun wz h => ((HLS.out.below HB20.out).below h).r
          have hk : ∀ z : Int, (z != z) = false := fun z => by simp
          refine wp_region_noPanic ?_
          refine wp_region_held_drew (S := fun wz => Below w20.heap.size w20 wz) (by kernel_rfl) ?_ (fun hHeld => ?_)
          · exact below_drewN w20 1
          refine wpAnyH_take (i := 0) (oi := ⟨some 163, _, _, _, _, _⟩) (v := ?_) rfl (by kernel_rfl) (by kernel_rfl) (by kernel_rfl) (fun _ _ _ h => h) (Or.inl ⟨by rfl, ?_⟩) hHeld ?_
          rotate_left
          · intro w hSw; (try dsimp only at hSw); go_simp; all_goals (with_reducible rfl)
          try simp only [Act.put, List.setIfInBounds_toArray, List.set_cons_zero, List.set_cons_succ]
          refine wpAnyH_take (i := 1) (oi := ⟨some 164, _, _, _, _, _⟩) (v := ?_) rfl (by kernel_rfl) (by kernel_rfl) (by kernel_rfl) (fun _ _ _ h => h) (Or.inl ⟨by rfl, ?_⟩) hHeld ?_
          rotate_left
          · intro w hSw; (try dsimp only at hSw); go_simp; all_goals (with_reducible rfl)
          try simp only [Act.put, List.setIfInBounds_toArray, List.set_cons_zero, List.set_cons_succ]
          refine wpAnyH_take (i := 2) (oi := ⟨some 165, _, _, _, _, _⟩) (v := ?_) rfl (by kernel_rfl) (by kernel_rfl) (by kernel_rfl) (fun _ _ _ h => h) (Or.inl ⟨by rfl, ?_⟩) hHeld ?_
          rotate_left
          · intro w hSw; (try dsimp only at hSw); go_simp; all_goals (with_reducible rfl)
          try simp only [Act.put, List.setIfInBounds_toArray, List.set_cons_zero, List.set_cons_succ]
          refine wpAnyH_take (i := 3) (oi := ⟨some 166, _, _, _, _, _⟩) (v := ?_) rfl (by kernel_rfl) (by kernel_rfl) (by kernel_rfl) (fun _ _ _ h => h) (Or.inl ⟨by rfl, ?_⟩) hHeld ?_
          rotate_left
          · intro w hSw; (try dsimp only at hSw); go_simp; all_goals (with_reducible rfl)
          try simp only [Act.put, List.setIfInBounds_toArray, List.set_cons_zero, List.set_cons_succ]
          refine wpAnyH_take (i := 4) (oi := ⟨some 167, _, _, _, _, _⟩) (v := ?_) rfl (by kernel_rfl) (by kernel_rfl) (by kernel_rfl) (fun _ _ _ h => h) (Or.inl ⟨by rfl, ?_⟩) hHeld ?_
          rotate_left
          · intro w hSw; (try dsimp only at hSw); go_simp; all_goals (with_reducible rfl)
          try simp only [Act.put, List.setIfInBounds_toArray, List.set_cons_zero, List.set_cons_succ]
          refine wpAnyH_take (i := 5) (oi := ⟨some 168, _, _, _, _, _⟩) (v := ?_) rfl (by kernel_rfl) (by kernel_rfl) (by kernel_rfl) (fun _ _ _ h => h) (Or.inl ⟨by rfl, ?_⟩) hHeld ?_
          rotate_left
          · intro w hSw; (try dsimp only at hSw); go_simp; all_goals (with_reducible rfl)
          try simp only [Act.put, List.setIfInBounds_toArray, List.set_cons_zero, List.set_cons_succ]
          refine wpAnyH_take (i := 6) (oi := ⟨some 169, _, _, _, _, _⟩) (v := ?_) rfl (by kernel_rfl) (by kernel_rfl) (by kernel_rfl) (fun _ _ _ h => h) (Or.inl ⟨by rfl, ?_⟩) hHeld ?_
          rotate_left
          · intro w hSw; (try dsimp only at hSw); go_simp; all_goals (with_reducible rfl)
          try simp only [Act.put, List.setIfInBounds_toArray, List.set_cons_zero, List.set_cons_succ]
          refine wpAnyH_take (i := 7) (oi := ⟨some 170, _, _, _, _, _⟩) (v := ?_) rfl (by kernel_rfl) (by kernel_rfl) (by kernel_rfl) (fun _ _ _ h => h) (Or.inl ⟨by rfl, ?_⟩) hHeld ?_
          rotate_left
          · intro w hSw; (try dsimp only at hSw); go_simp; all_goals (with_reducible rfl)
          try simp only [Act.put, List.setIfInBounds_toArray, List.set_cons_zero, List.set_cons_succ]
          refine wpAnyH_take (i := 8) (oi := ⟨some 171, _, _, _, _, _⟩) (v := ?_) rfl (by kernel_rfl) (by kernel_rfl) (by kernel_rfl) (fun _ _ _ h => h) (Or.inl ⟨by rfl, ?_⟩) hHeld ?_
          rotate_left
          · intro w hSw; (try dsimp only at hSw); go_simp; all_goals (with_reducible rfl)
          try simp only [Act.put, List.setIfInBounds_toArray, List.set_cons_zero, List.set_cons_succ]
          refine wpAnyH_take (i := 9) (oi := ⟨some 172, _, _, _, _, _⟩) (v := ?_) rfl (by kernel_rfl) (by kernel_rfl) (by kernel_rfl) (fun _ _ _ h => h) (Or.inl ⟨by rfl, ?_⟩) hHeld ?_
          rotate_left
          · intro w hSw; (try dsimp only at hSw); go_simp; all_goals (with_reducible rfl)
          try simp only [Act.put, List.setIfInBounds_toArray, List.set_cons_zero, List.set_cons_succ]
          refine wpAnyH_take (i := 10) (oi := ⟨some 173, _, _, _, _, _⟩) (v := ?_) rfl (by kernel_rfl) (by kernel_rfl) (by kernel_rfl) (fun _ _ _ h => h) (Or.inl ⟨by rfl, ?_⟩) hHeld ?_
          rotate_left
          · intro w hSw; (try dsimp only at hSw); go_simp; all_goals (with_reducible rfl)
          try simp only [Act.put, List.setIfInBounds_toArray, List.set_cons_zero, List.set_cons_succ]
          refine wpAnyH_take (i := 11) (oi := ⟨some 174, _, _, _, _, _⟩) (v := ?_) rfl (by kernel_rfl) (by kernel_rfl) (by kernel_rfl) (fun _ _ _ h => h) (Or.inl ⟨by rfl, ?_⟩) hHeld ?_
          rotate_left
          · intro w hSw; (try dsimp only at hSw); go_simp; all_goals (with_reducible rfl)
          try simp only [Act.put, List.setIfInBounds_toArray, List.set_cons_zero, List.set_cons_succ]
          refine wpAnyH_take (i := 12) (oi := ⟨some 175, _, _, _, _, _⟩) (v := ?_) rfl (by kernel_rfl) (by kernel_rfl) (by kernel_rfl) (fun _ _ _ h => h) (Or.inl ⟨by rfl, ?_⟩) hHeld ?_
          rotate_left
          · intro w hSw; (try dsimp only at hSw); go_simp; all_goals (with_reducible rfl)
          try simp only [Act.put, List.setIfInBounds_toArray, List.set_cons_zero, List.set_cons_succ]
          refine wpAnyH_take (i := 13) (oi := ⟨some 176, _, _, _, _, _⟩) (v := ?_) rfl (by kernel_rfl) (by kernel_rfl) (by kernel_rfl) (fun _ _ _ h => h) (Or.inl ⟨by rfl, ?_⟩) hHeld ?_
          rotate_left
          · intro w hSw; (try dsimp only at hSw); go_simp; all_goals (with_reducible rfl)
          try simp only [Act.put, List.setIfInBounds_toArray, List.set_cons_zero, List.set_cons_succ]
          refine wpAnyH_take (i := 14) (oi := ⟨some 177, _, _, _, _, _⟩) (v := ?_) rfl (by kernel_rfl) (by kernel_rfl) (by kernel_rfl) (fun _ _ _ h => h) (Or.inl ⟨by rfl, ?_⟩) hHeld ?_
          rotate_left
          · intro w hSw; (try dsimp only at hSw); go_simp; all_goals (with_reducible rfl)
          try simp only [Act.put, List.setIfInBounds_toArray, List.set_cons_zero, List.set_cons_succ]
          refine wpAnyH_take (i := 15) (oi := ⟨some 178, _, _, _, _, _⟩) (v := ?_) rfl (by kernel_rfl) (by kernel_rfl) (by kernel_rfl) (fun _ _ _ h => h) (Or.inl ⟨by rfl, ?_⟩) hHeld ?_
          rotate_left
          · intro w hSw; (try dsimp only at hSw); go_simp; all_goals (with_reducible rfl)
          try simp only [Act.put, List.setIfInBounds_toArray, List.set_cons_zero, List.set_cons_succ]
          refine wpAnyH_take (i := 16) (oi := ⟨some 179, _, _, _, _, _⟩) (v := ?_) rfl (by kernel_rfl) (by kernel_rfl) (by kernel_rfl) (fun _ _ _ h => h) (Or.inl ⟨by rfl, ?_⟩) hHeld ?_
          rotate_left
          · intro w hSw; (try dsimp only at hSw); go_simp; all_goals (with_reducible rfl)
          try simp only [Act.put, List.setIfInBounds_toArray, List.set_cons_zero, List.set_cons_succ]
          refine wpAnyH_take (i := 17) (oi := ⟨some 180, _, _, _, _, _⟩) (v := ?_) rfl (by kernel_rfl) (by kernel_rfl) (by kernel_rfl) (fun _ _ _ h => h) (Or.inl ⟨by rfl, ?_⟩) hHeld ?_
          rotate_left
          · intro w hSw; (try dsimp only at hSw); go_simp; all_goals (with_reducible rfl)
          try simp only [Act.put, List.setIfInBounds_toArray, List.set_cons_zero, List.set_cons_succ]
          refine wpAnyH_take (i := 18) (oi := ⟨some 181, _, _, _, _, _⟩) (v := ?_) rfl (by kernel_rfl) (by kernel_rfl) (by kernel_rfl) (fun _ _ _ h => h) (Or.inl ⟨by rfl, ?_⟩) hHeld ?_
          rotate_left
          · intro w hSw; (try dsimp only at hSw); go_simp; all_goals (with_reducible rfl)
          try simp only [Act.put, List.setIfInBounds_toArray, List.set_cons_zero, List.set_cons_succ]
          refine wpAnyH_take (i := 19) (oi := ⟨some 182, _, _, _, _, _⟩) (v := ?_) rfl (by kernel_rfl) (by kernel_rfl) (by kernel_rfl) (fun _ _ _ h => h) (Or.inl ⟨by rfl, ?_⟩) hHeld ?_
          rotate_left
          · intro w hSw; (try dsimp only at hSw); go_simp; all_goals (with_reducible rfl)
          try simp only [Act.put, List.setIfInBounds_toArray, List.set_cons_zero, List.set_cons_succ]
          refine wpAnyH_take (i := 20) (oi := ⟨some 183, _, _, _, _, _⟩) (v := ?_) rfl (by kernel_rfl) (by kernel_rfl) (by kernel_rfl) (fun _ _ _ h => h) (Or.inl ⟨by rfl, ?_⟩) hHeld ?_
          rotate_left
          · intro w hSw; (try dsimp only at hSw); go_simp; all_goals (with_reducible rfl)
          try simp only [Act.put, List.setIfInBounds_toArray, List.set_cons_zero, List.set_cons_succ]
          refine wpAnyH_take (i := 21) (oi := ⟨some 184, _, _, _, _, _⟩) (v := ?_) rfl (by kernel_rfl) (by kernel_rfl) (by kernel_rfl) (fun _ _ _ h => h) (Or.inl ⟨by rfl, ?_⟩) hHeld ?_
          rotate_left
          · intro w hSw; (try dsimp only at hSw); go_simp; all_goals (with_reducible rfl)
          try simp only [Act.put, List.setIfInBounds_toArray, List.set_cons_zero, List.set_cons_succ]
          refine wpAnyH_take (i := 22) (oi := ⟨some 185, _, _, _, _, _⟩) (v := ?_) rfl (by kernel_rfl) (by kernel_rfl) (by kernel_rfl) (fun _ _ _ h => h) (Or.inl ⟨by rfl, ?_⟩) hHeld ?_
          rotate_left
          · intro w hSw; (try dsimp only at hSw); go_simp; all_goals (with_reducible rfl)
          try simp only [Act.put, List.setIfInBounds_toArray, List.set_cons_zero, List.set_cons_succ]
          refine wpAnyH_take (i := 23) (oi := ⟨some 186, _, _, _, _, _⟩) (v := ?_) rfl (by kernel_rfl) (by kernel_rfl) (by kernel_rfl) (fun _ _ _ h => h) (Or.inl ⟨by rfl, ?_⟩) hHeld ?_
          rotate_left
          · intro w hSw; (try dsimp only at hSw); go_simp; all_goals (with_reducible rfl)
          try simp only [Act.put, List.setIfInBounds_toArray, List.set_cons_zero, List.set_cons_succ]
          refine wpAnyH_take (i := 24) (oi := ⟨some 187, _, _, _, _, _⟩) (v := ?_) rfl (by kernel_rfl) (by kernel_rfl) (by kernel_rfl) (fun _ _ _ h => h) (Or.inl ⟨by rfl, ?_⟩) hHeld ?_
          rotate_left
          · intro w hSw; (try dsimp only at hSw); go_simp; all_goals (with_reducible rfl)
          try simp only [Act.put, List.setIfInBounds_toArray, List.set_cons_zero, List.set_cons_succ]
          refine wpAnyH_take (i := 25) (oi := ⟨some 188, _, _, _, _, _⟩) (v := ?_) rfl (by kernel_rfl) (by kernel_rfl) (by kernel_rfl) (fun _ _ _ h => h) (Or.inl ⟨by rfl, ?_⟩) hHeld ?_
          rotate_left
          · intro w hSw; (try dsimp only at hSw); go_simp; all_goals (with_reducible rfl)
          try simp only [Act.put, List.setIfInBounds_toArray, List.set_cons_zero, List.set_cons_succ]
          refine wpAnyH_take (i := 26) (oi := ⟨some 189, _, _, _, _, _⟩) (v := ?_) rfl (by kernel_rfl) (by kernel_rfl) (by kernel_rfl) (fun _ _ _ h => h) (Or.inl ⟨by rfl, ?_⟩) hHeld ?_
          rotate_left
          · intro w hSw; (try dsimp only at hSw); go_simp; all_goals (with_reducible rfl)
          try simp only [Act.put, List.setIfInBounds_toArray, List.set_cons_zero, List.set_cons_succ]
          refine wpAnyH_take (i := 27) (oi := ⟨some 190, _, _, _, _, _⟩) (v := ?_) rfl (by kernel_rfl) (by kernel_rfl) (by kernel_rfl) (fun _ _ _ h => h) (Or.inl ⟨by rfl, ?_⟩) hHeld ?_
          rotate_left
          · intro w hSw; (try dsimp only at hSw); go_simp; all_goals (with_reducible rfl)
          try simp only [Act.put, List.setIfInBounds_toArray, List.set_cons_zero, List.set_cons_succ]
          refine wpAnyH_take (i := 28) (oi := ⟨some 191, _, _, _, _, _⟩) (v := ?_) rfl (by kernel_rfl) (by kernel_rfl) (by kernel_rfl) (fun _ _ _ h => h) (Or.inl ⟨by rfl, ?_⟩) hHeld ?_
          rotate_left
          · intro w hSw; (try dsimp only at hSw); go_simp; all_goals (with_reducible rfl)
          try simp only [Act.put, List.setIfInBounds_toArray, List.set_cons_zero, List.set_cons_succ]
          refine wpAnyH_take (i := 29) (oi := ⟨some 192, _, _, _, _, _⟩) (v := ?_) rfl (by kernel_rfl) (by kernel_rfl) (by kernel_rfl) (fun _ _ _ h => h) (Or.inl ⟨by rfl, ?_⟩) hHeld ?_
          rotate_left
          · intro w hSw; (try dsimp only at hSw); go_simp; all_goals (with_reducible rfl)
          try simp only [Act.put, List.setIfInBounds_toArray, List.set_cons_zero, List.set_cons_succ]
          refine wpAnyH_take (i := 30) (oi := ⟨some 193, _, _, _, _, _⟩) (v := ?_) rfl (by kernel_rfl) (by kernel_rfl) (by kernel_rfl) (fun _ _ _ h => h) (Or.inl ⟨by rfl, ?_⟩) hHeld ?_
          rotate_left
          · intro w hSw; (try dsimp only at hSw); go_simp; all_goals (with_reducible rfl)
          try simp only [Act.put, List.setIfInBounds_toArray, List.set_cons_zero, List.set_cons_succ]
          refine wpAnyH_take (i := 31) (oi := ⟨some 194, _, _, _, _, _⟩) (v := ?_) rfl (by kernel_rfl) (by kernel_rfl) (by kernel_rfl) (fun _ _ _ h => h) (Or.inl ⟨by rfl, ?_⟩) hHeld ?_
          rotate_left
          · intro w hSw; (try dsimp only at hSw); go_simp; all_goals (with_reducible rfl)
          try simp only [Act.put, List.setIfInBounds_toArray, List.set_cons_zero, List.set_cons_succ]
          refine wpAnyH_take (i := 32) (oi := ⟨some 195, _, _, _, _, _⟩) (v := ?_) rfl (by kernel_rfl) (by kernel_rfl) (by kernel_rfl) (fun _ _ _ h => h) (Or.inl ⟨by rfl, ?_⟩) hHeld ?_
          rotate_left
          · intro w hSw; (try dsimp only at hSw); go_simp; all_goals (with_reducible rfl)
          try simp only [Act.put, List.setIfInBounds_toArray, List.set_cons_zero, List.set_cons_succ]
          refine wpAnyH_take (i := 33) (oi := ⟨some 196, _, _, _, _, _⟩) (v := ?_) rfl (by kernel_rfl) (by kernel_rfl) (by kernel_rfl) (fun _ _ _ h => h) (Or.inl ⟨by rfl, ?_⟩) hHeld ?_
          rotate_left
          · intro w hSw; (try dsimp only at hSw); go_simp; all_goals (with_reducible rfl)
          try simp only [Act.put, List.setIfInBounds_toArray, List.set_cons_zero, List.set_cons_succ]
          refine wpAnyH_take (i := 34) (oi := ⟨some 197, _, _, _, _, _⟩) (v := ?_) rfl (by kernel_rfl) (by kernel_rfl) (by kernel_rfl) (fun _ _ _ h => h) (Or.inl ⟨by rfl, ?_⟩) hHeld ?_
          rotate_left
          · intro w hSw; (try dsimp only at hSw); go_simp; all_goals (with_reducible rfl)
          try simp only [Act.put, List.setIfInBounds_toArray, List.set_cons_zero, List.set_cons_succ]
          refine wpAnyH_take (i := 35) (oi := ⟨some 198, _, _, _, _, _⟩) (v := ?_) rfl (by kernel_rfl) (by kernel_rfl) (by kernel_rfl) (fun _ _ _ h => h) (Or.inl ⟨by rfl, ?_⟩) hHeld ?_
          rotate_left
          · intro w hSw; (try dsimp only at hSw); go_simp; all_goals (with_reducible rfl)
          try simp only [Act.put, List.setIfInBounds_toArray, List.set_cons_zero, List.set_cons_succ]
          refine wpAnyH_take (i := 36) (oi := ⟨some 199, _, _, _, _, _⟩) (v := ?_) rfl (by kernel_rfl) (by kernel_rfl) (by kernel_rfl) (fun _ _ _ h => h) (Or.inl ⟨by rfl, ?_⟩) hHeld ?_
          rotate_left
          · intro w hSw; (try dsimp only at hSw); go_simp; all_goals (with_reducible rfl)
          try simp only [Act.put, List.setIfInBounds_toArray, List.set_cons_zero, List.set_cons_succ]
          refine wpAnyH_take (i := 37) (oi := ⟨some 200, _, _, _, _, _⟩) (v := ?_) rfl (by kernel_rfl) (by kernel_rfl) (by kernel_rfl) (fun _ _ _ h => h) (Or.inl ⟨by rfl, ?_⟩) hHeld ?_
          rotate_left
          · intro w hSw; (try dsimp only at hSw); go_simp; all_goals (with_reducible rfl)
          try simp only [Act.put, List.setIfInBounds_toArray, List.set_cons_zero, List.set_cons_succ]
          refine wpAnyH_take (i := 38) (oi := ⟨some 201, _, _, _, _, _⟩) (v := ?_) rfl (by kernel_rfl) (by kernel_rfl) (by kernel_rfl) (fun _ _ _ h => h) (Or.inl ⟨by rfl, ?_⟩) hHeld ?_
          rotate_left
          · intro w hSw; (try dsimp only at hSw); go_simp; all_goals (with_reducible rfl)
          try simp only [Act.put, List.setIfInBounds_toArray, List.set_cons_zero, List.set_cons_succ]
          refine wpAnyH_ready (rs := [39]) (by kernel_rfl) (by simp) ?_
          refine AllReadyH.cons (o := ⟨some 202, _, _, _, _, _⟩) rfl (fun K hK => ?_) AllReadyH.nil
          go_simp
          refine (ints17 (HNH.out.below (below_drewN w20 1)) (HNR.out.below (below_drewN w20 1))).mono ?_
          rintro e w21 ⟨he, hB⟩
          have he1 : e = .returned (.bool true) := by rw [he]; simp
          clear he
          subst he1
          have HB21 : Hid (Below w20.heap.size w20 w21) := below_trans (below_drewN w20 1) hB
          clear hB
          refine hK.out _ _ ?_ (fun hHeld => ?_)
          · exact HB21.out
          clear hK K
          try simp only [Act.put, List.setIfInBounds_toArray, List.set_cons_zero, List.set_cons_succ]
          refine wpAnyH_take (i := 40) (oi := ⟨some 203, _, _, _, _, _⟩) (v := ?_) rfl (by kernel_rfl) (by kernel_rfl) (by kernel_rfl) (fun _ _ _ h => h) (Or.inl ⟨by rfl, ?_⟩) hHeld ?_
          rotate_left
          · intro w hSw; (try dsimp only at hSw); go_simp; all_goals (with_reducible rfl)
          try simp only [Act.put, List.setIfInBounds_toArray, List.set_cons_zero, List.set_cons_succ]
          refine wpAnyH_take (i := 41) (oi := ⟨some 204, _, _, _, _, _⟩) (v := ?_) rfl (by kernel_rfl) (by kernel_rfl) (by kernel_rfl) (fun _ _ _ h => h) (Or.inl ⟨by rfl, ?_⟩) hHeld ?_
          rotate_left
          · intro w hSw; (try dsimp only at hSw); go_simp; all_goals (with_reducible rfl)
          try simp only [Act.put, List.setIfInBounds_toArray, List.set_cons_zero, List.set_cons_succ]
          refine wpAnyH_done (by kernel_rfl) ?_ _
          refine NoPanic.normal ?_
          clear k0 k1 k2 k3 k4 k5 hk
          have HB21w : Hid (Below w19.heap.size w19 w21) := below_trans HB20.out HB21.out
          have d1 : w21.cell? ⟨X, 1, none⟩ = some (.int .i64 (p.n : Int)) := by rw [← HSN.out]; exact (HLS.out.below HB21w.out).x.c1
          by_cases hcp : cN < p.n
          · have hcpi : (cN : Int) < (p.n : Int) := by omega
            have hm5 := none_of (HE1.out.trans (if_pos (by rw [← HCN.out]; exact hcp)))
            subst hm5
            obtain ⟨ba5, bc5, hv5⟩ := own_formN HMK.out.r.own
            rw [List.length_nil] at hv5
            subst hv5
            clear hcp
            go_wp2_with fail
            go_roundw
            case rel => exact ⟨i + 1, setB A j, by go_num, HLT.out, by rw [HCN.out], K', L5, by unfold setB; rw [List.length_set]; exact HAL.out, own_belowC HR19.out HB21w.out, HKG2.out, HPW.out.below HB21w.out, HLH2.out, HLS.out.below HB21w.out, HW.out.trans (HB21w.out.mono HW.out.size)⟩
            case measure => have := HLT.out; simp [intOf]; omega
          · have hcpi : ¬ (cN : Int) < (p.n : Int) := by omega
            obtain ⟨g5, q5, da, dc, xa5, xc5, ya5, yc5, hv5, hmx5, hto5, _⟩ := mrk_one (HMK.out.below HB21w.out) (HE1.out.trans (if_neg (by rw [← HCN.out]; exact hcp)))
            subst hv5
            have HMX5 : Hid (MXo w21 g5 0 ⟨⟨8, 1, 0, 3, 7, 0, E, [], []⟩, .slice da E.length dc, .slice xa5 0 xc5, .slice ya5 0 yc5⟩) := hmx5
            have HTO5 : Hid (w21.ownsRow lo5 3 1 (.slice da E.length dc) E.length (cellsN E)) := hto5.e
            clear hcp hmx5 hto5
            go_upto_region 35 with fail
            clear d1
            go_wp2_with fail
            refine (show Calls Tryz.prog 27 #[.slice (some ⟨g5, 0, none⟩) 1 q5, .int .i64 0, .int .i64 8, .int .i64 0] w21 _ from one17 (m := ⟨8, 1, 0, 3, 7, 0, E, [], []⟩) (ea := da) (en := E.length) (ec := dc) (qa := xa5) (qn := 0) (qc := xc5) (pa := ya5) (pn := 0) (pc := yc5) HMX5.out rfl rfl rfl).mono ?_
            rintro e w22 ⟨rfl, hB⟩
            dsimp only
            have HB22 : Hid (Below w19.heap.size w19 w22) := below_trans HB21w.out hB
            have HTO6 : Hid (w22.ownsRow lo5 3 1 (.slice da E.length dc) E.length (cellsN E)) := own_belowC HTO5.out hB
            clear hB HTO5 HMX5
            go_upto_region 36 with fail
            have HBA : Hid _ := below_alloc w22 (Obj.cells #[.int .i64 8, .int .i64 1, .int .i64 0, .int .i64 3, .int .i64 7, .int .i64 0, .slice da E.length dc, .slice xa5 0 xc5, .slice ya5 0 yc5] 48)
            have HDC : Hid ((w22.alloc (Obj.cells #[.int .i64 8, .int .i64 1, .int .i64 0, .int .i64 3, .int .i64 7, .int .i64 0, .slice da E.length dc, .slice xa5 0 xc5, .slice ya5 0 yc5] 48)).cell? ⟨w22.heap.size, 6, none⟩ = some (.slice da E.length dc)) := by show _ = _; simp [go_sem]
            obtain ⟨Z, hZ⟩ : ∃ Z, Z = w22.heap.size := ⟨_, rfl⟩
            rw [← hZ] at HDC ⊢
            clear hZ
            generalize w22.alloc (Obj.cells #[.int .i64 8, .int .i64 1, .int .i64 0, .int .i64 3, .int .i64 7, .int .i64 0, .slice da E.length dc, .slice xa5 0 xc5, .slice ya5 0 yc5] 48) = w23 at HBA HDC ⊢
            have HB23 : Hid (Below w19.heap.size w19 w23) := below_trans HB22.out HBA.out
            have HNA : Hid (Nv w23 (.slice da E.length dc) E) := own_nv (own_belowC HTO6.out HBA.out) HEO.out
            have HNB : Hid (Nv w23 (.slice ea E.length ec) E) := own_nv (HLS.out.below HB23.out).e HEO.out
            have z6 := HDC.out
            have r6 := (HLS.out.below HB23.out).r
            go_wp2_with fail
            refine (ints17 HNA.out HNB.out).mono ?_
            rintro e w24 ⟨he, hB⟩
            have he1 : e = .returned (.bool true) := by rw [he]; simp
            clear he
            subst he1
            have HB24 : Hid (Below w19.heap.size w19 w24) := below_trans HB23.out hB
            clear hB z6 r6
            go_wp2_with fail
            go_roundw
            case rel => exact ⟨i + 1, setB A j, by go_num, HLT.out, by rw [HCN.out], K', L5, by unfold setB; rw [List.length_set]; exact HAL.out, own_belowC HR19.out HB24.out, HKG2.out, HPW.out.below HB24.out, HLH2.out, HLS.out.below HB24.out, HW.out.trans (HB24.out.mono HW.out.size)⟩
            case measure => have := HLT.out; simp [intOf]; omega
      · by_cases hl1 : i < order.length
        · have hlti : (i : Int) < (order.length : Int) := by omega
          have hl2 : ¬ (i : Int) < 200 := by omega
          clear hlt hl1
          go_wp2_with fail
          go_ret
          exact ⟨rfl, HB1.out.trans (HW.out.mono HB1.out.size)⟩
        · have hlti : ¬ (i : Int) < (order.length : Int) := by omega
          clear hlt hl1
          go_wp2_with fail
          go_ret
          exact ⟨rfl, HB1.out.trans (HW.out.mono HB1.out.size)⟩
end Go.Proofs.YtgahfhpmlalplaaGreat
