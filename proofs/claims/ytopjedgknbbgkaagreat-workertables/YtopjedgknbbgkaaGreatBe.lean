/- WorkerTables. -/
import Derived.Test.YtopjedgknbbgkaaGreatBd
namespace Go.Proofs.YtopjedgknbbgkaaGreat

open Go.RowKit



/-- An answer MsgBegan of a store: its part goes out. -/
theorem tk_began {p : Pn} {S S' : Sc} {f : List Int} {A : List Bool} {j : Nat} (hp : p.is = true) (hj : j < p.n) : takC 1 ⟨5, 1 + p.W + (j : Int), 1, 3, 7, 0, [], [], []⟩ = 0 ∧ takA p 1 S' ⟨5, 1 + p.W + (j : Int), 1, 3, 7, 0, [], [], []⟩ [h37 p S f true A] = ([⟨6, 1, 1 + p.W + (j : Int), 3, 7, 0, [], [], dealF p (h37 p S f true A).T j⟩], [h37 p S f true A]) := by
  obtain ⟨h1, h2⟩ := tk_st (S := S') (H := [h37 p S f true A]) hp (.inl rfl) hj (c := 0) (by omega)
  refine ⟨h1, h2.trans ?_⟩
  unfold ansH
  simp only
  have e : (1 + p.W + (j : Int) - (1 + p.W)).toNat = j := by omega
  rw [at_three (h := h37 p S f true A) rfl, e]
  simp only
  rw [if_pos (by simp [h37]), if_neg (by simp), if_pos (by simp)]
  rfl
/-- The plan, the ends that were given. -/
structure Ka (w0 X : Nat) (p : Pn) (ovc : Value) (va : Option Addr) (vc : Nat) (f : List Int) (u : World) : Prop where
  x : Bx u X p ovc
  f : u.ownsRow w0 3 1 (.slice va f.length vc) f.length (cellsN f)
/-- And the ends that were told. -/
structure Kb (w0 X : Nat) (p : Pn) (ovc : Value) (va : Option Addr) (vc : Nat) (f : List Int) (ta : Option Addr) (tc : Nat) (E : List Int) (u : World) : Prop where
  a : Ka w0 X p ovc va vc f u
  e : u.ownsRow w0 3 1 (.slice ta E.length tc) E.length (cellsN E)
/-- And the table. -/
structure Kc (w0 X : Nat) (p : Pn) (ovc : Value) (va : Option Addr) (vc : Nat) (f : List Int) (ta : Option Addr) (tc : Nat) (E : List Int) (g2 : Nat) (T : List Pr) (u : World) : Prop where
  b : Kb w0 X p ovc va vc f ta tc E u
  t : Mq u g2 T
theorem batch_len17 (l : List Stp) (kind : Int) (recs : List Rcd) : (batchT l kind recs).length ≤ recs.length := by
  have h1 := adds_len kind [] (keptT l kind recs)
  have h2 : (keptT l kind recs).length ≤ recs.length := List.length_filterMap_le _ _
  unfold batchT
  simp only [List.length_nil] at h1
  omega
theorem mq_ch {D : Nat → Prop} {w w' : World} {g : Nat} {m : List Pr} (h : Mq w g m) (hc : Ch D w w') (hd : ¬ D g) : Mq w' g m := fun i hi => by
  obtain ⟨⟨a, b, c⟩, d, e, f⟩ := h i hi
  exact ⟨⟨hc.cell a hd, hc.cell b hd, hc.cell c hd⟩, by rw [hc.frozen (cell_lt a) hd]; exact d, by rw [hc.frozen (cell_lt a) hd]; exact e, by rw [hc.frozen (cell_lt a) hd]; exact f⟩
/-- And what MsgGo was answered. -/
structure Kd (w0 X : Nat) (p : Pn) (ovc : Value) (va : Option Addr) (vc : Nat) (f : List Int) (ta : Option Addr) (tc : Nat) (E : List Int) (g2 : Nat) (T : List Pr) (K : Nat → Prop) (lo : Nat) (v : Value) (M : List Tq) (u : World) : Prop where
  c : Kc w0 X p ovc va vc f ta tc E g2 T u
  m : MrK K u lo v M
/-- The sum so far: nothing, or a row of its own that is kept. -/
def AllK (K : Nat → Prop) (u : World) (av : Value) (l : List Pr) : Prop := (l = [] ∧ av = .slice none 0 0) ∨ ∃ g, av = .slice (some ⟨g, 0, none⟩) l.length l.length ∧ Mq u g l ∧ K g
theorem AllK.ch {K : Nat → Prop} {D : Nat → Prop} {w w' : World} {av : Value} {l : List Pr} (h : AllK K w av l) (hd : ∀ x, K x → ¬ D x) (hc : Ch D w w') : AllK K w' av l := by
  rcases h with h | ⟨g, h1, h2, h3⟩
  · exact .inl h
  · exact .inr ⟨g, h1, mq_ch h2 hc (hd g h3), h3⟩
theorem AllK.mono {K K' : Nat → Prop} {w : World} {av : Value} {l : List Pr} (h : AllK K w av l) (hk : ∀ x, K x → K' x) : AllK K' w av l := by
  rcases h with h | ⟨g, h1, h2, h3⟩
  · exact .inl h
  · exact .inr ⟨g, h1, h2, hk g h3⟩


theorem hidH {p : Prop} (h : p) : Hid p := h
theorem AllK.qv {K : Nat → Prop} {w : World} {av : Value} {l : List Pr} (h : AllK K w av l) (hok : okT l) (hl : l.length ≤ maxLen) : Qv w av l := by
  rcases h with ⟨rfl, rfl⟩ | ⟨g, rfl, h2, _⟩
  · exact qv_nil w
  · have h := mq_qv h2 (n := l.length) (cap := l.length) (Nat.le_refl _) (Nat.le_refl _) hl hok
    rw [List.take_length] at h
    exact h
theorem mq_qvT {w : World} {g : Nat} {l : List Pr} (h2 : Mq w g l) (hok : okT l) (hl : l.length ≤ maxLen) : Qv w (.slice (some ⟨g, 0, none⟩) l.length l.length) l := by
  have h := mq_qv h2 (n := l.length) (cap := l.length) (Nat.le_refl _) (Nat.le_refl _) hl hok
  rw [List.take_length] at h
  exact h
theorem ql_of {w : World} {lo : Nat} {pa : Option Addr} {pc : Nat} {l : List Pr} (h : w.ownsRow lo 65 3 (.slice pa l.length pc) l.length (flatQ l)) (hok : okT l) : Ql w pa l := by
  obtain ⟨⟨ao, ca, e, _, _, _, h4⟩, _⟩ := own_qv h hok
  simp only [Value.slice.injEq] at e
  rw [e.1]
  exact h4
theorem keys_row {w : World} {lo : Nat} {v : Value} {l : List Pr} (h : w.ownsRow lo 50 1 v l.length ((keyL l).map (Value.int .u64))) : w.ownsRow lo 50 1 v (l.map (·.k)).length ((l.map (·.k)).map fun k : Nat => Value.int .u64 (k : Int)) := by
  have e : (keyL l).map (Value.int .u64) = (l.map (·.k)).map fun k : Nat => Value.int .u64 (k : Int) := by unfold keyL; rw [List.map_map, List.map_map]; rfl
  rw [← e, List.length_map]
  exact h


set_option maxRecDepth 100000 in
set_option maxHeartbeats 8000000 in
theorem workertables_walk {w : World} {p : Pn} {oa ra fa ma : Option Addr} {oc rc fc mc : Nat} {recs more : List Rcd} {off : Int} {fr : List Int} (ho : Ov w (.slice oa p.l.length oc) p.l) (hr : Rv w (.slice ra recs.length rc) recs) (hf : Nv w (.slice fa fr.length fc) fr) (hm : Rv w (.slice ma more.length mc) more) :
    Calls Tryz.prog 3 #[.agg #[.int .i64 p.P, .int .i64 p.S, .int .i64 p.W, .slice oa p.l.length oc, .int .i64 p.A, .int .i64 p.B, .int .i64 p.N, .int .i64 p.G, .slice ra recs.length rc, .int .i64 off, .slice fa fr.length fc], .slice ma more.length mc] w fun e w' => e = .returned (.bool true) ∧ Below w.heap.size w w' := by
  have HO : Hid (Ov w (.slice oa p.l.length oc) p.l) := ho
  have HRV : Hid (Rv w (.slice ra recs.length rc) recs) := hr
  have HFV : Hid (Nv w (.slice fa fr.length fc) fr) := hf
  have HC0 : Hid _ := cb_new w p (.slice oa p.l.length oc) (.slice ra recs.length rc) off (.slice fa fr.length fc)
  have HB0 : Hid _ := below_alloc w (Obj.cells #[.int .i64 p.P, .int .i64 p.S, .int .i64 p.W, .slice oa p.l.length oc, .int .i64 p.A, .int .i64 p.B, .int .i64 p.N, .int .i64 p.G, .slice ra recs.length rc, .int .i64 off, .slice fa fr.length fc] 28)
  have HMV : Hid (Rv w (.slice ma more.length mc) more) := hm
  clear ho hr hf hm
  go_enter Tryz.func3, Tryz.ntmps3
  go_upto_region 1 with fail
  obtain ⟨C, hC⟩ : ∃ C, C = w.heap.size := ⟨_, rfl⟩
  rw [← hC] at HC0 ⊢
  clear hC
  generalize w.alloc (Obj.cells #[.int .i64 p.P, .int .i64 p.S, .int .i64 p.W, .slice oa p.l.length oc, .int .i64 p.A, .int .i64 p.B, .int .i64 p.N, .int .i64 p.G, .slice ra recs.length rc, .int .i64 off, .slice fa fr.length fc] 28) = wa at HC0 HB0 ⊢
  go_wp2_with fail
  refine (awake_walk wa).mono ?_
  rintro e w1 ⟨rfl, hB1⟩
  have HC1 : Hid _ := HC0.out.keep hB1
  have HB1 : Hid (Below w.heap.size w w1) := below_trans HB0.out hB1
  clear hB1 HC0 HB0
  have c0 := HC1.out.b.c0
  have c1 := HC1.out.b.c1
  have c2 := HC1.out.b.c2
  have c3 := HC1.out.b.c3
  have c4 := HC1.out.b.c4
  have c5 := HC1.out.b.c5
  have c6 := HC1.out.b.c6
  have c7 := HC1.out.b.c7
  have c8 := HC1.out.c8
  have c9 := HC1.out.c9
  have c10 := HC1.out.c10
  cases hp : p.is with
  | false =>
    have HP : Hid (p.is = false) := hp
    clear hp
    go_wp2_with fail
    refine (ready_no (HO.out.below HB1.out) (HRV.out.below HB1.out) (HFV.out.below HB1.out) HP.out).mono ?_
    rintro e w2 ⟨rfl, hB2⟩
    have HC2 : Hid _ := HC1.out.keep hB2
    have HB2 : Hid (Below w.heap.size w w2) := below_trans HB1.out hB2
    clear hB2 c0 c1 c2 c3 c4 c5 c6 c7 c8 c9 c10
    have c0 := HC2.out.b.c0
    have c1 := HC2.out.b.c1
    have c2 := HC2.out.b.c2
    have c3 := HC2.out.b.c3
    have c4 := HC2.out.b.c4
    have c5 := HC2.out.b.c5
    have c6 := HC2.out.b.c6
    have c7 := HC2.out.b.c7
    go_wp2_with fail
    refine (pcheck_walk (p := p) (HO.out.below HB2.out)).mono ?_
    rintro e w3 ⟨rfl, hB3⟩
    have HB3 : Hid (Below w.heap.size w w3) := below_trans HB2.out hB3
    have hc : (p.chk != 0) = true := by have h := Pn.chk_no HP.out; rw [bne, h]; rfl
    clear hB3 c0 c1 c2 c3 c4 c5 c6 c7
    go_wp2_with fail
    go_ret
    exact ⟨rfl, HB3.out⟩
  | true =>
    have HP : Hid (p.is = true) := hp
    have HNL : Hid (1 ≤ p.n ∧ p.n ≤ 4) := Pn.n_le hp
    have HSN : Hid (p.S = (p.n : Int)) := by have h1 := Pn.is_num hp; have h2 := Pn.n_is hp; show _ = _; omega
    obtain ⟨_, _, ⟨hw1, hw4⟩, _⟩ := Pn.is_num hp
    clear hp
    go_wp2_with fail
    refine (ready_ok (HO.out.below HB1.out) (HRV.out.below HB1.out) (HFV.out.below HB1.out) HP.out).mono ?_
    rintro e w2 ⟨sb, P, fv, rfl, K0, S, b, ov, f, hpw, hfo, hfk, hfit, hnp, hsl, hB2⟩
    obtain ⟨va, vc, rfl⟩ := own_formN hfo
    have HFO : Hid (w2.ownsRow w1.heap.size 3 1 (.slice va f.length vc) f.length (cellsN f)) := hfo
    have HFK : Hid (∀ x, (Value.slice va f.length vc).ownBlock = some x → K0 x) := hfk
    have HFit : Hid (Fit S f) := hfit
    have HOK : Hid S.ok := by obtain ⟨D, h1, _⟩ := hpw.src; exact h1.good
    have HPW : Hid (Pw w1.heap.size K0 w2 sb S P b ov p 1 []) := hpw
    have HC2 : Hid _ := HC1.out.keep hB2
    have HB2 : Hid (Below w1.heap.size w1 w2) := hB2
    clear hB2 c0 c1 c2 c3 c4 c5 c6 c7 c8 c9 c10 hpw hfo hfk hfit hnp hsl HC1
    have c0 := HC2.out.b.c0
    have c1 := HC2.out.b.c1
    have c2 := HC2.out.b.c2
    have c3 := HC2.out.b.c3
    have c4 := HC2.out.b.c4
    have c5 := HC2.out.b.c5
    have c6 := HC2.out.b.c6
    have c7 := HC2.out.b.c7
    go_upto_region 7 with fail
    clear c0 c1 c2 c3 c4 c5 c6 c7
    have HX3 : Hid (Bx _ w2.heap.size p (.slice oa p.l.length oc)) := box_new w2 p (.slice oa p.l.length oc)
    have HB23 : Hid _ := below_alloc w2 (Obj.cells #[.int .i64 p.P, .int .i64 p.S, .int .i64 p.W, .slice oa p.l.length oc, .int .i64 p.A, .int .i64 p.B, .int .i64 p.N, .int .i64 p.G] 24)
    have HP3 : Hid _ := HPW.out.more HB23.out
    have HXK : Hid (w2.heap.size ≤ w2.heap.size ∧ w2.heap.size < (w2.alloc (Obj.cells #[.int .i64 p.P, .int .i64 p.S, .int .i64 p.W, .slice oa p.l.length oc, .int .i64 p.A, .int .i64 p.B, .int .i64 p.N, .int .i64 p.G] 24)).heap.size) := ⟨Nat.le_refl _, by rw [size_allocC]; omega⟩
    have HFO3 : Hid (World.ownsRow _ w1.heap.size 3 1 (.slice va f.length vc) f.length (cellsN f)) := own_belowC HFO.out HB23.out
    obtain ⟨X, hX⟩ : ∃ X, X = w2.heap.size := ⟨_, rfl⟩
    rw [← hX] at HX3 ⊢
    have HXX : Hid (X = w2.heap.size) := hX
    clear hX
    generalize w2.alloc (Obj.cells #[.int .i64 p.P, .int .i64 p.S, .int .i64 p.W, .slice oa p.l.length oc, .int .i64 p.A, .int .i64 p.B, .int .i64 p.N, .int .i64 p.G] 24) = w3 at HX3 HB23 HP3 HXK HFO3 ⊢
    have HW3 : Hid (Below w1.heap.size w1 w3) := HB2.out.trans (HB23.out.mono HB2.out.size)
    obtain ⟨K3, hK3⟩ : ∃ K3 : Nat → Prop, K3 = fun z => K0 z ∨ (w2.heap.size ≤ z ∧ z < w3.heap.size) := ⟨_, rfl⟩
    have HSZ : Hid (Sz w1.heap.size K3 w3 sb S P b ov p [] [] (Ka w1.heap.size X p (.slice oa p.l.length oc) va vc f)) := by
      have hx : K3 X := by rw [hK3, HXX.out]; exact .inr HXK.out
      have hk : ∀ x, (Value.slice va f.length vc).ownBlock = some x → K3 x := fun x hx => by rw [hK3]; exact .inl (HFK.out x hx)
      refine ⟨by rw [hK3]; exact HP3.out, rfl, ⟨HX3.out, HFO3.out⟩, fun D u u' hu hd hc => ⟨keep_bx hx D u u' hu.x hd hc, keep_row hk D u u' hu.f hd hc⟩, HW3.out.size⟩
    have HFI : Hid (In64 f) := fun y hy => fit_i64 HOK.out HFit.out y hy
    clear hK3 HP3 HX3 HFO3 HXK HXX HFK HFO HPW HC2 HB23 HB2
    have c5 := HSZ.out.ph.x.c5
    go_wp2_with fail
    obtain ⟨D0, hD0, _⟩ := HSZ.out.pw.src
    refine (form_walk (m := p.B) hD0 (own_nv HSZ.out.ph.f HFI.out)).mono ?_
    rintro e w4 ⟨tv, rv, rfl, htv, _, _, hB4⟩
    obtain ⟨f0, f1, _⟩ := fit_form HP.out HFit.out
    rw [f1] at htv
    rw [f0]
    obtain ⟨E, hE⟩ : ∃ E, E = formT S f p.B := ⟨_, rfl⟩
    rw [← hE] at htv
    have HEE : Hid (E = formT S f p.B) := hE
    obtain ⟨ta, tc, rfl⟩ := own_formN htv
    obtain ⟨K4, hK4⟩ : ∃ K4 : Nat → Prop, K4 = fun z => K3 z ∨ (w3.heap.size ≤ z ∧ z < w4.heap.size) := ⟨_, rfl⟩
    have HS4 : Hid (Sz w1.heap.size K4 w4 sb S P b ov p [] [] (Kb w1.heap.size X p (.slice oa p.l.length oc) va vc f ta tc E)) := by
      have h := HSZ.out.more hB4 (G := fun u => u.ownsRow w1.heap.size 3 1 (.slice ta E.length tc) E.length (cellsN E)) (own_baseC htv HW3.out.size) (fun D u u' hu hd hc => own_ch hu hc (fun x hx => hd x (htv.lt x hx).1 (htv.lt x hx).2))
      rw [hK4]
      exact h.less ⟨h.ph.1, h.ph.2⟩ (fun D u u' hu hd hc => ⟨(h.st D u u' ⟨hu.a, hu.e⟩ hd hc).1, (h.st D u u' ⟨hu.a, hu.e⟩ hd hc).2⟩)
    have HW4 : Hid (Below w1.heap.size w1 w4) := HW3.out.trans (hB4.mono HW3.out.size)
    have HEO : Hid (In64 E) := by have h := form_in64 (m := p.B) HOK.out HFit.out (Pn.is_num HP.out).2.2.2.2.1.1; rw [← hE] at h; exact h
    clear hK4 hE htv hB4 hD0 f0 f1 c5 HSZ HW3
    go_wp2_with fail
    refine (msg17 1 0 0).mono ?_
    rintro e w5 ⟨rfl, hB5⟩
    have HS5 : Hid _ := HS4.out.below hB5
    have HW5 : Hid (Below w1.heap.size w1 w5) := HW4.out.trans (hB5.mono HW4.out.size)
    clear hB5 HS4 HW4
    go_wp2_with fail
    refine (show Calls Tryz.prog 9 #[.pointer (some ⟨P, 0, none⟩), .pointer (some ⟨sb, 0, none⟩), .agg #[.int .i64 1, .int .i64 0, .int .i64 1, .int .i64 3, .int .i64 7, .int .i64 0, .slice va f.length vc, .slice none 0 0, .slice none 0 0]] w5 _ from sz_take (m := ⟨1, 0, 1, 3, 7, 0, f, [], []⟩) HS5.out (by simp) (ml_e HS5.out.ph.a.f) (small_ok (by omega) HFI.out q0_ok p0_ok) (tk_assign HP.out HOK.out HFit.out)).mono ?_
    rintro e w6 ⟨a6, c6, K6, L6, M6, lo6, rfl, hM, hkk, hlo, hs, hB6⟩
    obtain ⟨g1, q1, ea, ec, xa, xc, ya, yc, hv, hmx, hto, _⟩ := mrk_one hs.ph.2 hM
    rw [hv]
    have HS6 : Hid (Sz w1.heap.size K6 w6 sb S P b ov p L6 [h37 p S f false (List.replicate p.n false)] (Kb w1.heap.size X p (.slice oa p.l.length oc) va vc f ta tc E)) := hs.less hs.ph.1 (fun D u u' hu hd hc => HS5.out.st D u u' hu (fun x hx => hd x (hkk x hx)) hc)
    have HMX : Hid (MXo w6 g1 0 ⟨⟨2, 1, 0, 3, 7, 0, E, [], []⟩, .slice ea E.length ec, .slice xa 0 xc, .slice ya 0 yc⟩) := by rw [HEE.out]; exact hmx
    have HTO : Hid (w6.ownsRow lo6 3 1 (.slice ea E.length ec) E.length (cellsN E)) := by rw [HEE.out]; exact hto.e
    have HW6 : Hid (Below w1.heap.size w1 w6) := HW5.out.trans hB6
    clear hv hM hkk hlo hs hB6 hmx hto HS5 HW5
    go_wp2_with fail
    refine (show Calls Tryz.prog 11 #[.slice (some ⟨g1, 0, none⟩) 1 q1, .int .i64 0, .int .i64 2, .int .i64 0] w6 _ from one17 (m := ⟨2, 1, 0, 3, 7, 0, E, [], []⟩) (ea := ea) (en := E.length) (ec := ec) (qa := xa) (qn := 0) (qc := xc) (pa := ya) (pn := 0) (pc := yc) HMX.out rfl rfl rfl).mono ?_
    rintro e w7 ⟨rfl, hB⟩
    dsimp only
    have HS7 : Hid _ := HS6.out.below hB
    have HTO7 : Hid (w7.ownsRow lo6 3 1 (.slice ea E.length ec) E.length (cellsN E)) := own_belowC HTO.out hB
    have HW7 : Hid (Below w1.heap.size w1 w7) := HW6.out.trans (hB.mono HW6.out.size)
    clear hB HMX HTO HS6 HW6
    go_upto_region 12 with fail
    have HBA : Hid _ := below_alloc w7 (Obj.cells #[.int .i64 2, .int .i64 1, .int .i64 0, .int .i64 3, .int .i64 7, .int .i64 0, .slice ea E.length ec, .slice xa 0 xc, .slice ya 0 yc] 44)
    have HRC : Hid _ := mx_new w7 ⟨2, 1, 0, 3, 7, 0, [], [], []⟩ (.slice ea E.length ec) (.slice xa 0 xc) (.slice ya 0 yc)
    generalize w7.alloc (Obj.cells #[.int .i64 2, .int .i64 1, .int .i64 0, .int .i64 3, .int .i64 7, .int .i64 0, .slice ea E.length ec, .slice xa 0 xc, .slice ya 0 yc] 44) = w8 at HBA HRC ⊢
    generalize w7.heap.size = R at HRC ⊢
    have HS8 : Hid (Sz w1.heap.size K6 w8 sb S P b ov p L6 [h37 p S f false (List.replicate p.n false)] (Kb w1.heap.size X p (.slice oa p.l.length oc) va vc f ta tc E)) := HS7.out.below HBA.out
    have HTO8 : Hid (w8.ownsRow lo6 3 1 (.slice ea E.length ec) E.length (cellsN E)) := own_belowC HTO7.out HBA.out
    have HW8 : Hid (Below w1.heap.size w1 w8) := HW7.out.trans (HBA.out.mono HW7.out.size)
    have r6 := HRC.out.c6
    clear HBA HRC HS7 HTO7 HW7
    go_wp2_with fail
    refine (ints17 (own_nv HTO8.out HEO.out) (own_nv HS8.out.ph.e HEO.out)).mono ?_
    rintro e w9 ⟨he, hB⟩
    have he1 : e = .returned (.bool true) := by rw [he]; simp
    clear he
    subst he1
    have HS9 : Hid (Sz w1.heap.size K6 w9 sb S P b ov p L6 [h37 p S f false (List.replicate p.n false)] (Kb w1.heap.size X p (.slice oa p.l.length oc) va vc f ta tc E)) := HS8.out.below hB
    have HW9 : Hid (Below w1.heap.size w1 w9) := HW8.out.trans (hB.mono HW8.out.size)
    clear hB r6 HTO8 HS8 HW8
    obtain ⟨np, hnp⟩ : ∃ np : Nat, p.P = (np : Int) := ⟨p.P.toNat, by have := Pn.is_num HP.out; omega⟩
    have HPP : Hid (p.P = (np : Int)) := hnp
    have hnp4 : (np : Int) ≤ 4 := by have := Pn.is_num HP.out; omega
    have hnp1 : 1 ≤ (np : Int) := by have := Pn.is_num HP.out; omega
    clear hnp
    go_wp2_with fail
    go_loopw [15] (fun iv wr => ∃ (i : Nat) (S' : Sc), iv = .int .i64 i ∧ i ≤ 40 ∧ Sz w1.heap.size K6 wr sb S' P b ov p L6 [h37 p S f false (List.replicate p.n false)] (Kb w1.heap.size X p (.slice oa p.l.length oc) va vc f ta tc E) ∧ Grw S S' ∧ Below w1.heap.size w1 wr) (fun iv _ => 40 - (intOf iv).toNat)
    case atStart => exact ⟨0, S, rfl, Nat.zero_le _, HS9.out, grw_refl S, HW9.out⟩
    case round =>
      obtain ⟨i, S', rfl, hil, h1, h2, h3⟩ := hrel
      have HSr : Hid (Sz w1.heap.size K6 wr sb S' P b ov p L6 [h37 p S f false (List.replicate p.n false)] (Kb w1.heap.size X p (.slice oa p.l.length oc) va vc f ta tc E)) := h1
      have HGr : Hid (Grw S S') := h2
      have HWr : Hid (Below w1.heap.size w1 wr) := h3
      clear h1 h2 h3 HS9 HW9
      by_cases hlt : i < more.length ∧ i < 40
      · have hlti : (i : Int) < (more.length : Int) := by omega
        have hl6 : (i : Int) < 40 := by omega
        have HLT : Hid (i < 40) := hlt.2
        obtain ⟨⟨ma', mc', e, _, _, _, hrl0⟩, hrok⟩ := HMV.out.below HB1.out
        simp only [Value.slice.injEq] at e
        obtain ⟨g, o1, e1, k0, k1⟩ := hrl0 i hlt.1
        have era : ma = some ⟨g, o1, none⟩ := by rw [e.1, e1]
        subst era
        obtain ⟨r, hr⟩ : ∃ r, r = more[i]'hlt.1 := ⟨_, rfl⟩
        rw [← hr] at k0 k1
        have HRO : Hid r.ok := by rw [hr]; exact hrok _ (List.getElem_mem _)
        have HK0 : Hid (∀ wz, Below w1.heap.size w1 wz → wz.cell? ⟨g, o1 + i * 2, none⟩ = some (.int .u64 r.k) ∧ wz.cell? ⟨g, o1 + i * 2 + 1, none⟩ = some (.float .f64 r.x)) := fun wz h => ⟨by rw [h.cell (p := ⟨g, o1 + i * 2, none⟩) (cell_lt k0)]; exact k0, by rw [h.cell (p := ⟨g, o1 + i * 2 + 1, none⟩) (cell_lt k1)]; exact k1⟩
        have hltd : decide (i < more.length) = true := decide_eq_true hlt.1
        clear e e1 k0 k1 hr hrok hlt hrl0
        go_upto_region 17 with fail
        have hz0 : ¬ np = 0 := by omega
        refine wp_region_noPanic ?_
        refine wp_region_held_drew (S := fun wz => wz.cell? ⟨X, 0, none⟩ = some (.int .i64 (np : Int)) ∧ wz.cell? ⟨g, o1 + i * 2, none⟩ = some (.int .u64 r.k) ∧ wz.cell? ⟨g, o1 + i * 2 + 1, none⟩ = some (.float .f64 r.x)) (by kernel_rfl) ?_ (fun hHeld => ?_)
        · exact ⟨by rw [← HPP.out]; exact (HSr.out.below (below_drewN wr 1)).ph.a.x.c0, HK0.out _ (HWr.out.trans ((below_drewN wr 1).mono HWr.out.size))⟩
        refine wpAnyH_take (i := 0) (oi := ⟨some 92, _, _, _, _, _⟩) (v := ?_) rfl (by kernel_rfl) (by kernel_rfl) (by kernel_rfl) (fun _ _ _ h => h) (Or.inl ⟨by rfl, ?_⟩) hHeld ?_
        rotate_left
        · intro w hSw; (try dsimp only at hSw); go_simp; all_goals (with_reducible rfl)
        try simp only [Act.put, List.setIfInBounds_toArray, List.set_cons_zero, List.set_cons_succ]
        refine wpAnyH_take (i := 1) (oi := ⟨some 93, _, _, _, _, _⟩) (v := ?_) rfl (by kernel_rfl) (by kernel_rfl) (by kernel_rfl) (fun _ _ _ h => h) (Or.inl ⟨by rfl, ?_⟩) hHeld ?_
        rotate_left
        · intro w hSw; (try dsimp only at hSw); go_simp; all_goals (with_reducible rfl)
        try simp only [Act.put, List.setIfInBounds_toArray, List.set_cons_zero, List.set_cons_succ]
        refine wpAnyH_take (i := 2) (oi := ⟨some 94, _, _, _, _, _⟩) (v := ?_) rfl (by kernel_rfl) (by kernel_rfl) (by kernel_rfl) (fun _ _ _ h => h) (Or.inl ⟨by rfl, ?_⟩) hHeld ?_
        rotate_left
        · intro w hSw; (try dsimp only at hSw); go_simp; all_goals (with_reducible rfl)
        try simp only [Act.put, List.setIfInBounds_toArray, List.set_cons_zero, List.set_cons_succ]
        refine wpAnyH_take (i := 3) (oi := ⟨some 95, _, _, _, _, _⟩) (v := ?_) rfl (by kernel_rfl) (by kernel_rfl) (by kernel_rfl) (fun _ _ _ h => h) (Or.inl ⟨by rfl, ?_⟩) hHeld ?_
        rotate_left
        · intro w hSw; (try dsimp only at hSw); go_simp; all_goals (with_reducible rfl)
        try simp only [Act.put, List.setIfInBounds_toArray, List.set_cons_zero, List.set_cons_succ]
        refine wpAnyH_take (i := 4) (oi := ⟨some 96, _, _, _, _, _⟩) (v := ?_) rfl (by kernel_rfl) (by kernel_rfl) (by kernel_rfl) (fun _ _ _ h => h) (Or.inl ⟨by rfl, ?_⟩) hHeld ?_
        rotate_left
        · intro w hSw; (try dsimp only at hSw); go_simp; all_goals (with_reducible rfl)
        try simp only [Act.put, List.setIfInBounds_toArray, List.set_cons_zero, List.set_cons_succ]
        refine wpAnyH_take (i := 5) (oi := ⟨some 97, _, _, _, _, _⟩) (v := ?_) rfl (by kernel_rfl) (by kernel_rfl) (by kernel_rfl) (fun _ _ _ h => h) (Or.inl ⟨by rfl, ?_⟩) hHeld ?_
        rotate_left
        · intro w hSw; (try dsimp only at hSw); go_simp; all_goals (with_reducible rfl)
        try simp only [Act.put, List.setIfInBounds_toArray, List.set_cons_zero, List.set_cons_succ]
        refine wpAnyH_take (i := 6) (oi := ⟨some 98, _, _, _, _, _⟩) (v := ?_) rfl (by kernel_rfl) (by kernel_rfl) (by kernel_rfl) (fun _ _ _ h => h) (Or.inl ⟨by rfl, ?_⟩) hHeld ?_
        rotate_left
        · intro w hSw; (try dsimp only at hSw); go_simp; all_goals (with_reducible rfl)
        try simp only [Act.put, List.setIfInBounds_toArray, List.set_cons_zero, List.set_cons_succ]
        refine wpAnyH_take (i := 7) (oi := ⟨some 99, _, _, _, _, _⟩) (v := ?_) rfl (by kernel_rfl) (by kernel_rfl) (by kernel_rfl) (fun _ _ _ h => h) (Or.inl ⟨by rfl, ?_⟩) hHeld ?_
        rotate_left
        · intro w hSw; (try dsimp only at hSw); go_simp; all_goals (with_reducible rfl)
        try simp only [Act.put, List.setIfInBounds_toArray, List.set_cons_zero, List.set_cons_succ]
        refine wpAnyH_take (i := 8) (oi := ⟨some 100, _, _, _, _, _⟩) (v := ?_) rfl (by kernel_rfl) (by kernel_rfl) (by kernel_rfl) (fun _ _ _ h => h) (Or.inl ⟨by rfl, ?_⟩) hHeld ?_
        rotate_left
        · intro w hSw; (try dsimp only at hSw); go_simp; all_goals (with_reducible rfl)
        try simp only [Act.put, List.setIfInBounds_toArray, List.set_cons_zero, List.set_cons_succ]
        refine wpAnyH_ready (rs := [9]) (by kernel_rfl) (by simp) ?_
        refine AllReadyH.cons (o := ⟨some 101, _, _, _, _, _⟩) rfl (fun K hK => ?_) AllReadyH.nil
        go_simp
        refine (sz_produce (HSr.out.below (below_drewN wr 1)) _ HRO.out).mono ?_
        rintro e w5 ⟨rfl, hS5, hB5⟩
        have HW5 : Hid (Below w1.heap.size w1 w5) := HWr.out.trans (((below_drewN wr 1).mono HWr.out.size).trans hB5)
        have HS5 : Hid _ := hS5
        clear hS5 hB5
        refine hK.out _ _ ?_ (fun hHeld => ?_)
        · exact ⟨by rw [← HPP.out]; exact HS5.out.ph.a.x.c0, HK0.out _ HW5.out⟩
        clear hK K
        try simp only [Act.put, List.setIfInBounds_toArray, List.set_cons_zero, List.set_cons_succ]
        refine wpAnyH_done (by kernel_rfl) ?_ _
        refine NoPanic.normal ?_
        go_wp2_with fail
        go_roundw
        case rel => exact ⟨i + 1, _, by go_num, HLT.out, HS5.out, grw_prod HGr.out _ _, HW5.out⟩
        case measure => have := HLT.out; simp [intOf]; omega
      · by_cases hl1 : i < more.length
        · have hlti : (i : Int) < (more.length : Int) := by omega
          have hl2 : ¬ (i : Int) < 40 := by omega
          clear hlt hl1
          go_wp2_with fail
          go_loopw [16] (fun iv wr => ∃ (k : Nat) (S' : Sc), iv = .int .i64 k ∧ k ≤ np ∧ Sz w1.heap.size K6 wr sb S' P b ov p L6 [h37 p S f false (List.replicate p.n false)] (Kb w1.heap.size X p (.slice oa p.l.length oc) va vc f ta tc E) ∧ Grw S S' ∧ Below w1.heap.size w1 wr) (fun iv _ => np - (intOf iv).toNat)
          case atStart => exact ⟨0, S', rfl, Nat.zero_le _, HSr.out, HGr.out, HWr.out⟩
          case round =>
            obtain ⟨k, S2, rfl, hkn, h1, h2, h3⟩ := hrel
            have HSq : Hid (Sz w1.heap.size K6 wr sb S2 P b ov p L6 [h37 p S f false (List.replicate p.n false)] (Kb w1.heap.size X p (.slice oa p.l.length oc) va vc f ta tc E)) := h1
            have HGq : Hid (Grw S S2) := h2
            have HWq : Hid (Below w1.heap.size w1 wr) := h3
            clear h1 h2 h3 HSr HGr HWr
            have d0 : wr.cell? ⟨X, 0, none⟩ = some (.int .i64 (np : Int)) := by rw [← HPP.out]; exact HSq.out.ph.a.x.c0
            by_cases hlt : k < np
            · have hlti : (k : Int) < (np : Int) := by omega
              have HLT : Hid (k < np) := hlt
              clear hlt
              go_wp2_with fail
              refine (sz_switch HSq.out (k : Int) false).mono ?_
              rintro e w5 ⟨rfl, hS5, hB5⟩
              have HS5 : Hid _ := hS5
              have HW5 : Hid (Below w1.heap.size w1 w5) := HWq.out.trans hB5
              clear hS5 hB5 d0
              go_wp2_with fail
              go_roundw
              case rel => exact ⟨k + 1, _, by go_num, HLT.out, HS5.out, grw_switch HGq.out _ _, HW5.out⟩
              case measure => have := HLT.out; simp [intOf]; omega
            have hlti : ¬ (k : Int) < (np : Int) := by omega
            clear hlt
            go_upto_region 22 with fail
            clear d0
            have HEF : Hid (Fit S E ∧ Fwd f E) := by rw [HEE.out]; exact ⟨form_fit HFit.out (Pn.is_num HP.out).2.2.2.2.1.1, form_fwd HFit.out (Pn.is_num HP.out).2.2.2.2.1.1⟩
            obtain ⟨D0, hD0, _⟩ := HSq.out.pw.src
            go_wp2_with fail
            refine (again_walk hD0 (own_nv HSq.out.ph.a.f HFI.out) (own_nv HSq.out.ph.e HEO.out)).mono ?_
            rintro e w10 ⟨rv, rfl, hrv, hB⟩
            obtain ⟨ag1, ag2⟩ := again_grw HGq.out HFit.out HEF.out.1 HEF.out.2
            rw [ag2] at hrv
            rw [ag1]
            have HRW : Hid (w10.ownsRow wr.heap.size 53 2 rv (betS S f E f.length).length (flatR (betS S f E f.length))) := hrv
            have HS10 : Hid (Sz w1.heap.size K6 w10 sb S2 P b ov p L6 [h37 p S f false (List.replicate p.n false)] (Kb w1.heap.size X p (.slice oa p.l.length oc) va vc f ta tc E)) := HSq.out.below hB
            have HW10 : Hid (Below w1.heap.size w1 w10) := HWq.out.trans (hB.mono HWq.out.size)
            clear hrv hB hD0 ag1 ag2 HSq HWq
            have c3 := HS10.out.ph.a.x.c3
            have c4 := HS10.out.ph.a.x.c4
            go_wp2_with fail
            have HRL : Hid ((betS S f E f.length).length ≤ 1024 ∧ ∀ r ∈ betS S f E f.length, r.ok) := by
              have h := tab_rec HOK.out (a := f) (m := p.B) (by have h1 := HFit.out.1; have h2 := HOK.out.np4; omega)
              rw [(fit_form HP.out HFit.out).2.2, ← HEE.out] at h
              exact h
            refine (batch_good (kind := p.A) (l := p.l) (recs := betS S f E f.length) (HO.out.below (HB1.out.trans (HW10.out.mono HB1.out.size))) (own_rv HRW.out HRL.out.2) (Pn.is_kn HP.out).1 (Pn.is_kn HP.out).2 (by have := HRL.out.1; omega)).mono ?_
            rintro e w11 ⟨g2, rfl, hmq, hg1, hg2, hB⟩
            obtain ⟨T, hT⟩ : ∃ T, T = batchT p.l p.A (betS S f E f.length) := ⟨_, rfl⟩
            rw [← hT] at hmq ⊢
            have HTT : Hid (T = batchT p.l p.A (betS S f E f.length)) := hT
            obtain ⟨K11, hK11⟩ : ∃ K11 : Nat → Prop, K11 = fun z => K6 z ∨ (w10.heap.size ≤ z ∧ z < w11.heap.size) := ⟨_, rfl⟩
            have HS11 : Hid (Sz w1.heap.size K11 w11 sb S2 P b ov p L6 [h37 p S f false (List.replicate p.n false)] (Kc w1.heap.size X p (.slice oa p.l.length oc) va vc f ta tc E g2 T)) := by
              have h := HS10.out.more hB (G := fun u => Mq u g2 T) hmq (fun D u u' hu hd hc => mq_ch hu hc (hd g2 hg1 hg2))
              rw [hK11]
              exact h.less ⟨h.ph.1, h.ph.2⟩ (fun D u u' hu hd hc => ⟨(h.st D u u' ⟨hu.b, hu.t⟩ hd hc).1, (h.st D u u' ⟨hu.b, hu.t⟩ hd hc).2⟩)
            have HW11 : Hid (Below w1.heap.size w1 w11) := HW10.out.trans (hB.mono HW10.out.size)
            have HTR : Hid (Rise T) := by show Rise T; rw [hT]; exact rise_batch _ _ _
            have HTH : Hid (hasT T) := by show hasT T; rw [hT]; exact has_batch (Pn.is_kn HP.out).2 _
            have HTO : Hid (okT T) := by show okT T; rw [hT]; exact batch_ok HRL.out.2
            have HTF : Hid (∀ x, fitV p.A (getT x T) = getT x T) := fun x => by rw [hT]; exact fit_batch _ _ _ x
            have HTL : Hid (T.length ≤ 1024) := by have h := batch_len17 p.l p.A (betS S f E f.length); rw [← hT] at h; exact Nat.le_trans h HRL.out.1
            clear hK11 hT hmq hg1 hg2 hB c3 c4 HS10 HW10 HRW
            go_wp2_with fail
            refine (msg17 3 0 0).mono ?_
            rintro e w12 ⟨rfl, hB⟩
            have HS12 : Hid _ := HS11.out.below hB
            have HW12 : Hid (Below w1.heap.size w1 w12) := HW11.out.trans (hB.mono HW11.out.size)
            clear hB HS11 HW11
            go_wp2_with fail
            have htk := tk_go (S := S) (S' := S2) (f := f) (A := List.replicate p.n false) HP.out HOK.out HFit.out
            rw [← HEE.out] at htk
            refine (show Calls Tryz.prog 9 #[.pointer (some ⟨P, 0, none⟩), .pointer (some ⟨sb, 0, none⟩), .agg #[.int .i64 3, .int .i64 0, .int .i64 1, .int .i64 3, .int .i64 7, .int .i64 0, .slice ta E.length tc, .slice none 0 0, .slice none 0 0]] w12 _ from sz_take (m := ⟨3, 0, 1, 3, 7, 0, E, [], []⟩) HS12.out (by simp) (ml_e HS12.out.ph.b.e) (small_ok (by omega) HEO.out q0_ok p0_ok) htk).mono ?_
            clear htk
            rintro e w13 ⟨ba, bc, K13, L13, M13, lo13, rfl, hM, hkk, hlo, hs, hB⟩
            have hn : (List.map (bgM p 1 ⟨3, 0, 1, 3, 7, 0, E, [], []⟩ (h37 p S f false (List.replicate p.n false)).T) (List.range p.n)).length = p.n := by simp
            simp only [hn] at hs ⊢
            have HM13 : Hid (M13.map (·.m) = List.map (bgM p 1 ⟨3, 0, 1, 3, 7, 0, E, [], []⟩ (h37 p S f false (List.replicate p.n false)).T) (List.range p.n)) := hM
            have HS13 : Hid (Sz w1.heap.size K13 w13 sb S2 P b ov p L13 [h37 p S f true (List.replicate p.n false)] (Kd w1.heap.size X p (.slice oa p.l.length oc) va vc f ta tc E g2 T K13 lo13 (.slice ba p.n bc) M13)) := hs.less ⟨hs.ph.1, hs.ph.2⟩ (fun D u u' hu hd hc => ⟨HS12.out.st D u u' hu.c (fun x hx => hd x (hkk x hx)) hc, hu.m.chg hd hc⟩)
            have HW13 : Hid (Below w1.heap.size w1 w13) := HW12.out.trans hB
            have d1 : w13.cell? ⟨X, 1, none⟩ = some (.int .i64 (p.n : Int)) := by rw [← HSN.out]; exact HS13.out.ph.c.b.a.x.c1
            have hpn : (p.n : Int) ≤ 4 := by have := HNL.out; omega
            clear hM hkk hlo hs hB hn HS12 HW12
            go_upto_region 29 with fail
            clear d1
            go_wp2_with fail
            go_loopw [22, 23] (fun av kv wr => ∃ (k : Nat) (K' : Nat → Prop) (L' : List At), kv = .int .i64 k ∧ k ≤ p.n ∧ (∀ x, K13 x → K' x) ∧ Sz w1.heap.size K' wr sb S2 P b ov p L' [h37 p S f true (List.replicate p.n false)] (Kd w1.heap.size X p (.slice oa p.l.length oc) va vc f ta tc E g2 T K13 lo13 (.slice ba p.n bc) M13) ∧ AllK K' wr av (lowT p T k) ∧ Below w1.heap.size w1 wr) (fun _ kv _ => p.n - (intOf kv).toNat)
            case atStart => exact ⟨0, K13, L13, rfl, Nat.zero_le _, fun x hx => hx, HS13.out, .inl ⟨low_zero p T, rfl⟩, HW13.out⟩
            case round =>
              obtain ⟨k, K', L', rfl, hkn, h0, h1, h2, h3⟩ := hrel
              have HKK' : Hid (∀ x, K13 x → K' x) := h0
              have HSk : Hid (Sz w1.heap.size K' wr sb S2 P b ov p L' [h37 p S f true (List.replicate p.n false)] (Kd w1.heap.size X p (.slice oa p.l.length oc) va vc f ta tc E g2 T K13 lo13 (.slice ba p.n bc) M13)) := h1
              have HAk : Hid (AllK K' wr u22 (lowT p T k)) := h2
              have HWk : Hid (Below w1.heap.size w1 wr) := h3
              clear h0 h1 h2 h3 HS13 HW13
              have d1 : wr.cell? ⟨X, 1, none⟩ = some (.int .i64 (p.n : Int)) := by rw [← HSN.out]; exact HSk.out.ph.c.b.a.x.c1
              by_cases hlt : k < p.n
              · have hlti : (k : Int) < (p.n : Int) := by omega
                have HLT : Hid (k < p.n) := hlt
                have d2 : wr.cell? ⟨X, 2, none⟩ = some (.int .i64 p.W) := HSk.out.ph.c.b.a.x.c2
                clear hlt
                go_upto_region 34 with fail
                clear d1 d2
                have hkM : k < M13.length := by have h := congrArg List.length HM13.out; simp at h; have := HLT.out; omega
                obtain ⟨t, ht⟩ : ∃ t, t = M13[k]'hkM := ⟨_, rfl⟩
                have HTM : Hid (t.m = bgM p 1 ⟨3, 0, 1, 3, 7, 0, E, [], []⟩ (h37 p S f false (List.replicate p.n false)).T k) := by
                  have h := congrArg (fun l => l[k]?) HM13.out
                  simp [hkM, HLT.out] at h
                  rw [ht]
                  exact h
                obtain ⟨bg, hbg, hmx⟩ := mr_mx HSk.out.ph.m.r hkM
                have hto := HSk.out.ph.m.r.ent _ (List.getElem_mem hkM)
                rw [← ht] at hmx hto
                have hcap := row_formN HSk.out.ph.m.r.own (by have := HLT.out; omega)
                subst hbg
                have hcp : p.n ≤ bc ∧ bc ≤ maxLen := by obtain ⟨g9, c9, hv, h1, h2, _⟩ := hcap; injection hv with _ h3 h4; subst h4; exact ⟨by rw [h3]; exact h1, h2⟩
                clear hcap
                have HTE : Hid ((h37 p S f false (List.replicate p.n false)).T = T) := by show _ = _; rw [HTT.out, HEE.out]; rfl
                obtain ⟨xa, xc, ya, yc, za, zc, e1, e2, e3⟩ := to_form hto
                obtain ⟨tm, te, tq, tp⟩ := t
                obtain ⟨D, hD⟩ : ∃ D, D = dealF p T k := ⟨_, rfl⟩
                have HDD : Hid (D = dealF p T k) := hD
                obtain ⟨Q, hQ⟩ : ∃ Q, Q = D.map (·.k) := ⟨_, rfl⟩
                have HQQ : Hid (Q = D.map (·.k)) := hQ
                have hm : tm = ⟨4, 1, 1 + p.W + (k : Int), 3, 7, 0, [], Q, []⟩ := by rw [hQ, hD, ← HTE.out]; exact HTM.out
                have HKQ : Hid (∀ x, tq.ownBlock = some x → K' x) := fun x hx => HKK'.out x (HSk.out.ph.m.ke ⟨tm, te, tq, tp⟩ (by rw [ht]; exact List.getElem_mem hkM) x (.inr (.inl hx)))
                simp only at e1 e2 e3
                subst hm
                simp only [List.length_nil] at e1 e2 e3
                subst e1 e2 e3
                have HMX : Hid _ := hmx
                have HTQ : Hid (wr.ownsRow lo13 50 1 (.slice ya Q.length yc) Q.length (Q.map fun q : Nat => Value.int .u64 (q : Int))) := hto.q
                clear hto hmx ht HTM hD hQ
                go_wp2_with fail
                refine (show Calls Tryz.prog 11 #[.slice (some ⟨bg, k * 9, none⟩) 1 (bc - k), .int .i64 0, .int .i64 4, .int .i64 (1 + p.W + (k : Int))] wr _ from one17 (m := ⟨4, 1, 1 + p.W + (k : Int), 3, 7, 0, [], Q, []⟩) HMX.out rfl rfl rfl).mono ?_
                rintro e w20 ⟨rfl, hB⟩
                dsimp only
                have HS20 : Hid (Sz w1.heap.size K' w20 sb S2 P b ov p L' [h37 p S f true (List.replicate p.n false)] (Kd w1.heap.size X p (.slice oa p.l.length oc) va vc f ta tc E g2 T K13 lo13 (.slice (some ⟨bg, 0, none⟩) p.n bc) M13)) := HSk.out.below hB
                have HTQ20 : Hid (w20.ownsRow lo13 50 1 (.slice ya Q.length yc) Q.length (Q.map fun q : Nat => Value.int .u64 (q : Int))) := own_belowC HTQ.out hB
                have HA20 : Hid (AllK K' w20 u22 (lowT p T k)) := HAk.out.ch (D := fun _ => False) (fun _ _ e => e) (Ch.of_below hB)
                have HW20 : Hid (Below w1.heap.size w1 w20) := HWk.out.trans (hB.mono HWk.out.size)
                clear hB HMX HTQ HSk HAk HWk hkM
                go_upto_region 35 with fail
                have HBA : Hid _ := below_alloc w20 (Obj.cells #[.int .i64 4, .int .i64 1, .int .i64 (1 + p.W + (k : Int)), .int .i64 3, .int .i64 7, .int .i64 0, .slice xa 0 xc, .slice ya Q.length yc, .slice za 0 zc] 44)
                have HRC : Hid _ := mx_new w20 ⟨4, 1, 1 + p.W + (k : Int), 3, 7, 0, [], Q, []⟩ (.slice xa 0 xc) (.slice ya Q.length yc) (.slice za 0 zc)
                obtain ⟨RB, hRB⟩ : ∃ RB, RB = w20.heap.size := ⟨_, rfl⟩
                have HRB : Hid (RB = w20.heap.size) := hRB
                rw [← hRB] at HRC ⊢
                generalize w20.alloc (Obj.cells #[.int .i64 4, .int .i64 1, .int .i64 (1 + p.W + (k : Int)), .int .i64 3, .int .i64 7, .int .i64 0, .slice xa 0 xc, .slice ya Q.length yc, .slice za 0 zc] 44) = w21 at HBA HRC ⊢
                have hrl : RB < w21.heap.size := cell_lt HRC.out.c0
                have hSa := (HS20.out.add (G := fun u => u.ownsRow lo13 50 1 (.slice ya Q.length yc) Q.length (Q.map fun q : Nat => Value.int .u64 (q : Int)) ∧ AllK K' u u22 (lowT p T k)) ⟨HTQ20.out, HA20.out⟩ (fun D u u' hu hd hc => ⟨own_ch hu.1 hc (fun x hx => hd x (HKQ.out x hx)), hu.2.ch hd hc⟩)).more HBA.out (G := fun u => MX u RB ⟨4, 1, 1 + p.W + (k : Int), 3, 7, 0, [], Q, []⟩ (.slice xa 0 xc) (.slice ya Q.length yc) (.slice za 0 zc)) HRC.out (fun D u u' hu hd hc => hu.ch hc (hd RB (by rw [HRB.out]; exact Nat.le_refl _) hrl))
                obtain ⟨K21, hK21⟩ : ∃ K21 : Nat → Prop, K21 = fun z => K' z ∨ (w20.heap.size ≤ z ∧ z < w21.heap.size) := ⟨_, rfl⟩
                rw [← hK21] at hSa
                have HK21 : Hid (∀ x, K' x → K21 x) := fun x hx => by rw [hK21]; exact .inl hx
                have HST : Hid (∀ (D : Nat → Prop) (u u' : World), (Kd w1.heap.size X p (.slice oa p.l.length oc) va vc f ta tc E g2 T K13 lo13 (.slice (some ⟨bg, 0, none⟩) p.n bc) M13) u → (∀ x, K' x → ¬ D x) → Ch D u u' → (Kd w1.heap.size X p (.slice oa p.l.length oc) va vc f ta tc E g2 T K13 lo13 (.slice (some ⟨bg, 0, none⟩) p.n bc) M13) u') := HS20.out.st
                have HSa : Hid _ := hSa
                have HW21 : Hid (Below w1.heap.size w1 w21) := HW20.out.trans (HBA.out.mono HW20.out.size)
                clear hSa hK21 hRB hrl HBA HRC HS20 HTQ20 HA20 HW20
                go_wp2_with fail
                refine (msg17 5 (1 + p.W + (k : Int)) 0).mono ?_
                rintro e w22 ⟨rfl, hB⟩
                have HS22 : Hid _ := HSa.out.below hB
                have HW22 : Hid (Below w1.heap.size w1 w22) := HW21.out.trans (hB.mono HW21.out.size)
                clear hB HSa HW21
                go_wp2_with fail
                have htk := tk_began (S := S) (S' := S2) (f := f) (A := List.replicate p.n false) HP.out HLT.out
                rw [show (h37 p S f true (List.replicate p.n false)).T = T from HTE.out, ← HDD.out] at htk
                have hWb : 0 ≤ p.W ∧ p.W ≤ 4 := by have := Pn.is_num HP.out; omega
                refine (show Calls Tryz.prog 9 #[.pointer (some ⟨P, 0, none⟩), .pointer (some ⟨sb, 0, none⟩), .agg #[.int .i64 5, .int .i64 (1 + p.W + (k : Int)), .int .i64 1, .int .i64 3, .int .i64 7, .int .i64 0, .slice none 0 0, .slice none 0 0, .slice none 0 0]] w22 _ from sz_take (m := ⟨5, 1 + p.W + (k : Int), 1, 3, 7, 0, [], [], []⟩) HS22.out (by simp) (ml_0 w22) (small_ok (by have := HLT.out; omega) e0_ok q0_ok p0_ok) htk).mono ?_
                clear htk hWb
                rintro e w23 ⟨a23, c23, K23, L23, M23, lo23, rfl, hM, hkk, hlo, hs, hB⟩
                obtain ⟨g1, q1, ea, ec, qa, qc, pa, pc, hv, hmx, hto, _⟩ := mrk_one hs.ph.2 hM
                simp only [List.length_nil, List.length_cons] at hv hmx hto ⊢
                rw [hv]
                have HS23 : Hid (Sz w1.heap.size K23 w23 sb S2 P b ov p L23 [h37 p S f true (List.replicate p.n false)] (Kd w1.heap.size X p (.slice oa p.l.length oc) va vc f ta tc E g2 T K13 lo13 (.slice (some ⟨bg, 0, none⟩) p.n bc) M13)) := hs.less hs.ph.1.1.1 (fun D u u' hu hd hc => HST.out D u u' hu (fun x hx => hd x (hkk x (HK21.out x hx))) hc)
                have HTQ23 : Hid (w23.ownsRow lo13 50 1 (.slice ya Q.length yc) Q.length (Q.map fun q : Nat => Value.int .u64 (q : Int))) := hs.ph.1.1.2.1
                have HA23 : Hid (AllK K23 w23 u22 (lowT p T k)) := hs.ph.1.1.2.2.mono (fun x hx => hkk x (HK21.out x hx))
                have HRC : Hid (MX w23 RB ⟨4, 1, 1 + p.W + (k : Int), 3, 7, 0, [], Q, []⟩ (.slice xa 0 xc) (.slice ya Q.length yc) (.slice za 0 zc)) := hs.ph.1.2
                have HMX : Hid _ := hmx
                have HTP : Hid (w23.ownsRow lo23 65 3 (.slice pa D.length pc) D.length (flatQ D)) := hto.p
                have HKC : Hid (∀ x, K13 x → K23 x) := fun x hx => hkk x (HK21.out x (HKK'.out x hx))
                have HW23 : Hid (Below w1.heap.size w1 w23) := HW22.out.trans hB
                clear hv hM hkk hlo hs hB hmx hto HS22 HW22 HKQ HST HK21
                go_wp2_with fail
                refine (show Calls Tryz.prog 11 #[.slice (some ⟨g1, 0, none⟩) 1 q1, .int .i64 0, .int .i64 6, .int .i64 (1 + p.W + (k : Int))] w23 _ from one17 (m := ⟨6, 1, 1 + p.W + (k : Int), 3, 7, 0, [], [], D⟩) HMX.out rfl rfl rfl).mono ?_
                rintro e w24 ⟨rfl, hB⟩
                dsimp only
                have HB24 : Hid (Below w23.heap.size w23 w24) := hB
                clear hB HMX
                go_upto_region 37 with fail
                have HBA : Hid _ := below_alloc w24 (Obj.cells #[.int .i64 6, .int .i64 1, .int .i64 (1 + p.W + (k : Int)), .int .i64 3, .int .i64 7, .int .i64 0, .slice ea 0 ec, .slice qa 0 qc, .slice pa D.length pc] 44)
                have HRA : Hid _ := mx_new w24 ⟨6, 1, 1 + p.W + (k : Int), 3, 7, 0, [], [], D⟩ (.slice ea 0 ec) (.slice qa 0 qc) (.slice pa D.length pc)
                generalize w24.alloc (Obj.cells #[.int .i64 6, .int .i64 1, .int .i64 (1 + p.W + (k : Int)), .int .i64 3, .int .i64 7, .int .i64 0, .slice ea 0 ec, .slice qa 0 qc, .slice pa D.length pc] 44) = w25 at HBA HRA ⊢
                generalize w24.heap.size = RA at HRA ⊢
                have HB25 : Hid (Below w23.heap.size w23 w25) := HB24.out.trans (HBA.out.mono HB24.out.size)
                have HRB25 : Hid (MX w25 RB ⟨4, 1, 1 + p.W + (k : Int), 3, 7, 0, [], Q, []⟩ (.slice xa 0 xc) (.slice ya Q.length yc) (.slice za 0 zc)) := HRC.out.keep HB25.out
                have HS25 : Hid (Sz w1.heap.size K23 w25 sb S2 P b ov p L23 [h37 p S f true (List.replicate p.n false)] (Kd w1.heap.size X p (.slice oa p.l.length oc) va vc f ta tc E g2 T K13 lo13 (.slice (some ⟨bg, 0, none⟩) p.n bc) M13)) := HS23.out.below HB25.out
                have HA25 : Hid (AllK K23 w25 u22 (lowT p T k)) := HA23.out.ch (D := fun _ => False) (fun _ _ e => e) (Ch.of_below HB25.out)
                have HTQ25 := hidH (own_belowC HTQ23.out HB25.out)
                have HTP25 := hidH (own_belowC HTP.out HB25.out)
                have HW25 : Hid (Below w1.heap.size w1 w25) := HW23.out.trans (HB25.out.mono HW23.out.size)
                have HDO : Hid (okT D ∧ D.length ≤ 1024) := by
                  refine ⟨?_, ?_⟩
                  · rw [HDD.out]; exact deal_ok HTO.out k
                  · rw [HDD.out]; exact Nat.le_trans (List.length_filter_le _ _) HTL.out
                have HQL : Hid (Ql w25 pa D) := ql_of HTP25.out HDO.out.1
                have rb7 : ∀ wx, Below w25.heap.size w25 wx → wx.cell? ⟨RB, 7, none⟩ = some (.slice ya Q.length yc) := fun wx hb => (HRB25.out.keep hb).c7
                have ra8 : ∀ wx, Below w25.heap.size w25 wx → wx.cell? ⟨RA, 8, none⟩ = some (.slice pa D.length pc) := fun wx hb => (HRA.out.keep hb).c8
                have hql : Q.length ≤ 1048576 := by rw [HQQ.out, List.length_map]; have := HDO.out.2; omega
                have HQL2 : Hid (Q.length ≤ 1048576) := hql
                clear hql HBA HB24 HRC HS23 HA23 HTQ23 HTP HW23
                refine wp_region_noPanic ?_
                refine wp_region_held_drew (S := (fun wx => Below w25.heap.size w25 wx)) (by kernel_rfl) ?_ (fun hHeld => ?_)
                · exact (below_drewN w25 1)
                refine wpAnyH_take (i := 0) (oi := ⟨some 187, _, _, _, _, _⟩) (v := ?_) rfl (by kernel_rfl) (by kernel_rfl) (by kernel_rfl) (fun _ _ _ h => h) (Or.inl ⟨by rfl, ?_⟩) hHeld ?_
                rotate_left
                · intro w hSw; (try dsimp only at hSw); go_simp; all_goals (with_reducible rfl)
                try simp only [Act.put, List.setIfInBounds_toArray, List.set_cons_zero, List.set_cons_succ]
                refine wpAnyH_take (i := 1) (oi := ⟨some 188, _, _, _, _, _⟩) (v := ?_) rfl (by kernel_rfl) (by kernel_rfl) (by kernel_rfl) (fun _ _ _ h => h) (Or.inl ⟨by rfl, ?_⟩) hHeld ?_
                rotate_left
                · intro w hSw; (try dsimp only at hSw); go_simp; all_goals (with_reducible rfl)
                try simp only [Act.put, List.setIfInBounds_toArray, List.set_cons_zero, List.set_cons_succ]
                refine wpAnyH_take (i := 2) (oi := ⟨some 189, _, _, _, _, _⟩) (v := ?_) rfl (by kernel_rfl) (by kernel_rfl) (by kernel_rfl) (fun _ _ _ h => h) (Or.inl ⟨by rfl, ?_⟩) hHeld ?_
                rotate_left
                · intro w hSw; (try dsimp only at hSw); go_simp; all_goals (with_reducible rfl)
                try simp only [Act.put, List.setIfInBounds_toArray, List.set_cons_zero, List.set_cons_succ]
                refine wpAnyH_take (i := 3) (oi := ⟨some 190, _, _, _, _, _⟩) (v := ?_) rfl (by kernel_rfl) (by kernel_rfl) (by kernel_rfl) (fun _ _ _ h => h) (Or.inl ⟨by rfl, ?_⟩) hHeld ?_
                rotate_left
                · intro w hSw; (try dsimp only at hSw); go_simp; all_goals (with_reducible rfl)
                try simp only [Act.put, List.setIfInBounds_toArray, List.set_cons_zero, List.set_cons_succ]
                refine wpAnyH_take (i := 4) (oi := ⟨some 191, _, _, _, _, _⟩) (v := ?_) rfl (by kernel_rfl) (by kernel_rfl) (by kernel_rfl) (fun _ _ _ h => h) (Or.inl ⟨by rfl, ?_⟩) hHeld ?_
                rotate_left
                · intro w hSw; (try dsimp only at hSw); go_simp; all_goals (with_reducible rfl)
                try simp only [Act.put, List.setIfInBounds_toArray, List.set_cons_zero, List.set_cons_succ]
                refine wpAnyH_take (i := 5) (oi := ⟨some 192, _, _, _, _, _⟩) (v := ?_) rfl (by kernel_rfl) (by kernel_rfl) (by kernel_rfl) (fun _ _ _ h => h) (Or.inl ⟨by rfl, ?_⟩) hHeld ?_
                rotate_left
                · intro w hSw; (try dsimp only at hSw); go_simp; all_goals (with_reducible rfl)
                try simp only [Act.put, List.setIfInBounds_toArray, List.set_cons_zero, List.set_cons_succ]
                refine wpAnyH_take (i := 6) (oi := ⟨some 193, _, _, _, _, _⟩) (v := ?_) rfl (by kernel_rfl) (by kernel_rfl) (by kernel_rfl) (fun _ _ _ h => h) (Or.inl ⟨by rfl, ?_⟩) hHeld ?_
                rotate_left
                · intro w hSw; (try dsimp only at hSw); go_simp; all_goals (with_reducible rfl)
                try simp only [Act.put, List.setIfInBounds_toArray, List.set_cons_zero, List.set_cons_succ]
                refine wpAnyH_take (i := 7) (oi := ⟨some 194, _, _, _, _, _⟩) (v := ?_) rfl (by kernel_rfl) (by kernel_rfl) (by kernel_rfl) (fun _ _ _ h => h) (Or.inl ⟨by rfl, ?_⟩) hHeld ?_
                rotate_left
                · intro w hSw; (try dsimp only at hSw); go_simp; all_goals (with_reducible rfl)
                try simp only [Act.put, List.setIfInBounds_toArray, List.set_cons_zero, List.set_cons_succ]
                refine wpAnyH_take (i := 8) (oi := ⟨some 195, _, _, _, _, _⟩) (v := ?_) rfl (by kernel_rfl) (by kernel_rfl) (by kernel_rfl) (fun _ _ _ h => h) (Or.inl ⟨by rfl, ?_⟩) hHeld ?_
                rotate_left
                · intro w hSw; (try dsimp only at hSw); go_simp; all_goals (with_reducible rfl)
                try simp only [Act.put, List.setIfInBounds_toArray, List.set_cons_zero, List.set_cons_succ]
                refine wpAnyH_take (i := 9) (oi := ⟨some 196, _, _, _, _, _⟩) (v := ?_) rfl (by kernel_rfl) (by kernel_rfl) (by kernel_rfl) (fun _ _ _ h => h) (Or.inl ⟨by rfl, ?_⟩) hHeld ?_
                rotate_left
                · intro w hSw; (try dsimp only at hSw); go_simp; all_goals (with_reducible rfl)
                try simp only [Act.put, List.setIfInBounds_toArray, List.set_cons_zero, List.set_cons_succ]
                refine wpAnyH_take (i := 10) (oi := ⟨some 197, _, _, _, _, _⟩) (v := ?_) rfl (by kernel_rfl) (by kernel_rfl) (by kernel_rfl) (fun _ _ _ h => h) (Or.inl ⟨by rfl, ?_⟩) hHeld ?_
                rotate_left
                · intro w hSw; (try dsimp only at hSw); go_simp; all_goals (with_reducible rfl)
                try simp only [Act.put, List.setIfInBounds_toArray, List.set_cons_zero, List.set_cons_succ]
                refine wpAnyH_ready (rs := [11]) (by kernel_rfl) (by simp) ?_
                refine AllReadyH.cons (o := ⟨some 198, _, _, _, _, _⟩) rfl (fun K hK => ?_) AllReadyH.nil
                go_simp
                refine (keys_walk (l := D) (ca := pc) (by have := HDO.out.2; omega) (HQL.out.below hHeld)).mono ?_
                rintro e w26 ⟨v26, rfl, hr26, hB26⟩
                have HB26 : Hid (Below w25.heap.size w25 w26) := below_trans hHeld hB26
                have HR26 := hidH (keys_row hr26)
                clear hr26 hB26
                refine hK.out _ _ ?_ (fun hHeld => ?_)
                · exact HB26.out
                clear hK K
                try simp only [Act.put, List.setIfInBounds_toArray, List.set_cons_zero, List.set_cons_succ]
                refine wpAnyH_ready (rs := [12]) (by kernel_rfl) (by simp) ?_
                refine AllReadyH.cons (o := ⟨some 199, _, _, _, _, _⟩) rfl (fun K hK => ?_) AllReadyH.nil
                go_simp
                refine (keys_ok17 (own_belowC HTQ25.out HB26.out) (by rw [HQQ.out]; exact HR26.out) HQL2.out).mono ?_
                rintro e w27 ⟨rfl, hB27⟩
                have HB27 : Hid (Below w25.heap.size w25 w27) := below_trans HB26.out hB27
                clear hB27
                refine hK.out _ _ ?_ (fun hHeld => ?_)
                · exact HB27.out
                clear hK K
                try simp only [Act.put, List.setIfInBounds_toArray, List.set_cons_zero, List.set_cons_succ]
                refine wpAnyH_take (i := 13) (oi := ⟨some 200, _, _, _, _, _⟩) (v := ?_) rfl (by kernel_rfl) (by kernel_rfl) (by kernel_rfl) (fun _ _ _ h => h) (Or.inl ⟨by rfl, ?_⟩) hHeld ?_
                rotate_left
                · intro w hSw; (try dsimp only at hSw); go_simp; all_goals (with_reducible rfl)
                try simp only [Act.put, List.setIfInBounds_toArray, List.set_cons_zero, List.set_cons_succ]
                refine wpAnyH_take (i := 14) (oi := ⟨some 201, _, _, _, _, _⟩) (v := ?_) rfl (by kernel_rfl) (by kernel_rfl) (by kernel_rfl) (fun _ _ _ h => h) (Or.inl ⟨by rfl, ?_⟩) hHeld ?_
                rotate_left
                · intro w hSw; (try dsimp only at hSw); go_simp; all_goals (with_reducible rfl)
                try simp only [Act.put, List.setIfInBounds_toArray, List.set_cons_zero, List.set_cons_succ]
                refine wpAnyH_done (by kernel_rfl) ?_ _
                refine NoPanic.normal ?_
                have HS27 : Hid (Sz w1.heap.size K23 w27 sb S2 P b ov p L23 [h37 p S f true (List.replicate p.n false)] (Kd w1.heap.size X p (.slice oa p.l.length oc) va vc f ta tc E g2 T K13 lo13 (.slice (some ⟨bg, 0, none⟩) p.n bc) M13)) := HS25.out.below HB27.out
                have HA27 : Hid (AllK K23 w27 u22 (lowT p T k)) := HA25.out.ch (D := fun _ => False) (fun _ _ e => e) (Ch.of_below HB27.out)
                have HQL27 : Hid (Ql w27 pa D) := HQL.out.below HB27.out
                have HPV : Hid (∀ wx, Below w27.heap.size w27 wx → Qv wx (.slice pa D.length pc) D) := fun wx hb => own_qv (own_belowC (own_belowC HTP25.out HB27.out) hb) HDO.out.1
                have HRA27 : Hid (MX w27 RA ⟨6, 1, 1 + p.W + (k : Int), 3, 7, 0, [], [], D⟩ (.slice ea 0 ec) (.slice qa 0 qc) (.slice pa D.length pc)) := HRA.out.keep HB27.out
                have HW27 : Hid (Below w1.heap.size w1 w27) := HW25.out.trans (HB27.out.mono HW25.out.size)
                clear rb7 ra8 HQL2 HRB25 HRA HS25 HA25 HTQ25 HTP25 HQL HW25 HB27
                go_wp2_with fail
                go_loopw [29] (fun iv wr => ∃ i : Nat, iv = .int .i64 i ∧ i ≤ D.length ∧ Below w27.heap.size w27 wr) (fun iv _ => D.length - (intOf iv).toNat)
                case atStart => exact ⟨0, rfl, Nat.zero_le _, below_same _⟩
                case round =>
                  obtain ⟨i, rfl, hin, hb⟩ := hrel
                  obtain ⟨wl, hwl⟩ : ∃ wl, wl = wr := ⟨_, rfl⟩
                  subst hwl
                  have HBl : Hid (Below w27.heap.size w27 wl) := hb
                  have r8 : wl.cell? ⟨RA, 8, none⟩ = some (.slice pa D.length pc) := (HRA27.out.keep hb).c8
                  by_cases hlt : i < D.length
                  · have hlti : (i : Int) < (D.length : Int) := by omega
                    have HIL : Hid (i < D.length) := hlt
                    obtain ⟨pb, po, hpa, p0, p1, p2⟩ := HQL27.out.below hb i hlt
                    obtain ⟨o, hoe⟩ : ∃ o, o = D[i]'hlt := ⟨_, rfl⟩
                    rw [← hoe] at p0 p1 p2
                    have hmem : o ∈ D := by rw [hoe]; exact List.getElem_mem hlt
                    have HOO : Hid (o.ok) := HDO.out.1 o hmem
                    have HDM : Hid (p.store o.k = 1 + p.W + (k : Int) ∧ fitV p.A o.v = o.v) := by
                      refine deal_mem (t := T) HP.out HTR.out HTF.out ?_
                      rw [← HDD.out]; exact hmem
                    have hbx := (HS27.out.below hb).ph.c.b.a.x
                    have HX : Hid (∀ wx, Below wl.heap.size wl wx → Bx wx X p (.slice oa p.l.length oc)) := hbx.all (cell_lt hbx.c0)
                    have z0 : ∀ wx, Below wl.heap.size wl wx → wx.cell? ⟨X, 0, none⟩ = some (.int .i64 p.P) := fun wx h => (HX.out wx h).c0
                    have z1 : ∀ wx, Below wl.heap.size wl wx → wx.cell? ⟨X, 1, none⟩ = some (.int .i64 p.S) := fun wx h => (HX.out wx h).c1
                    have z2 : ∀ wx, Below wl.heap.size wl wx → wx.cell? ⟨X, 2, none⟩ = some (.int .i64 p.W) := fun wx h => (HX.out wx h).c2
                    have z3 : ∀ wx, Below wl.heap.size wl wx → wx.cell? ⟨X, 3, none⟩ = some (.slice oa p.l.length oc) := fun wx h => (HX.out wx h).c3
                    have z4 : ∀ wx, Below wl.heap.size wl wx → wx.cell? ⟨X, 4, none⟩ = some (.int .i64 p.A) := fun wx h => (HX.out wx h).c4
                    have z5 : ∀ wx, Below wl.heap.size wl wx → wx.cell? ⟨X, 5, none⟩ = some (.int .i64 p.B) := fun wx h => (HX.out wx h).c5
                    have z6 : ∀ wx, Below wl.heap.size wl wx → wx.cell? ⟨X, 6, none⟩ = some (.int .i64 p.N) := fun wx h => (HX.out wx h).c6
                    have z7 : ∀ wx, Below wl.heap.size wl wx → wx.cell? ⟨X, 7, none⟩ = some (.int .i64 p.G) := fun wx h => (HX.out wx h).c7
                    have y8 : ∀ wx, Below wl.heap.size wl wx → wx.cell? ⟨RA, 8, none⟩ = some (.slice (some ⟨pb, po, none⟩) D.length pc) := fun wx h => by rw [← hpa]; exact ((HRA27.out.keep hb).keep h).c8
                    have v0 : ∀ wx, Below wl.heap.size wl wx → wx.cell? ⟨pb, po + i * 3, none⟩ = some (.int .u64 o.k) := fun wx h => by rw [h.cell (p := ⟨pb, po + i * 3, none⟩) (cell_lt p0)]; exact p0
                    have v1 : ∀ wx, Below wl.heap.size wl wx → wx.cell? ⟨pb, po + i * 3 + 1, none⟩ = some (.bool o.v.h) := fun wx h => by rw [h.cell (p := ⟨pb, po + i * 3 + 1, none⟩) (cell_lt p1)]; exact p1
                    have v2 : ∀ wx, Below wl.heap.size wl wx → wx.cell? ⟨pb, po + i * 3 + 2, none⟩ = some (.int .u64 o.v.b) := fun wx h => by rw [h.cell (p := ⟨pb, po + i * 3 + 2, none⟩) (cell_lt p2)]; exact p2
                    have hn := neq_val o.v
                    have hgd := guard_val
                    have hnn : ((1 + p.W + (k : Int)) != (1 + p.W + (k : Int))) = false := by simp
                    have HOl : Hid (Ov wl (.slice oa p.l.length oc) p.l) := HO.out.below (HB1.out.trans ((HW27.out.trans (hb.mono HW27.out.size)).mono HB1.out.size))
                    subst hpa
                    clear hb hlt hoe hmem hbx p0 p1 p2
                    go_upto_region 42 with fail
                    clear r8
                    refine wp_region_noPanic ?_
                    refine wp_region_held_drew (S := (fun wx => Below wl.heap.size wl wx)) (by kernel_rfl) ?_ (fun hHeld => ?_)
                    · exact (below_drewN wl 1)
                    refine wpAnyH_take (i := 0) (oi := ⟨some 209, _, _, _, _, _⟩) (v := ?_) rfl (by kernel_rfl) (by kernel_rfl) (by kernel_rfl) (fun _ _ _ h => h) (Or.inl ⟨by rfl, ?_⟩) hHeld ?_
                    rotate_left
                    · intro w hSw; (try dsimp only at hSw); go_simp; all_goals (with_reducible rfl)
                    try simp only [Act.put, List.setIfInBounds_toArray, List.set_cons_zero, List.set_cons_succ]
                    refine wpAnyH_take (i := 1) (oi := ⟨some 210, _, _, _, _, _⟩) (v := ?_) rfl (by kernel_rfl) (by kernel_rfl) (by kernel_rfl) (fun _ _ _ h => h) (Or.inl ⟨by rfl, ?_⟩) hHeld ?_
                    rotate_left
                    · intro w hSw; (try dsimp only at hSw); go_simp; all_goals (with_reducible rfl)
                    try simp only [Act.put, List.setIfInBounds_toArray, List.set_cons_zero, List.set_cons_succ]
                    refine wpAnyH_take (i := 2) (oi := ⟨some 211, _, _, _, _, _⟩) (v := ?_) rfl (by kernel_rfl) (by kernel_rfl) (by kernel_rfl) (fun _ _ _ h => h) (Or.inl ⟨by rfl, ?_⟩) hHeld ?_
                    rotate_left
                    · intro w hSw; (try dsimp only at hSw); go_simp; all_goals (with_reducible rfl)
                    try simp only [Act.put, List.setIfInBounds_toArray, List.set_cons_zero, List.set_cons_succ]
                    refine wpAnyH_take (i := 3) (oi := ⟨some 212, _, _, _, _, _⟩) (v := ?_) rfl (by kernel_rfl) (by kernel_rfl) (by kernel_rfl) (fun _ _ _ h => h) (Or.inl ⟨by rfl, ?_⟩) hHeld ?_
                    rotate_left
                    · intro w hSw; (try dsimp only at hSw); go_simp; all_goals (with_reducible rfl)
                    try simp only [Act.put, List.setIfInBounds_toArray, List.set_cons_zero, List.set_cons_succ]
                    refine wpAnyH_take (i := 4) (oi := ⟨some 213, _, _, _, _, _⟩) (v := ?_) rfl (by kernel_rfl) (by kernel_rfl) (by kernel_rfl) (fun _ _ _ h => h) (Or.inl ⟨by rfl, ?_⟩) hHeld ?_
                    rotate_left
                    · intro w hSw; (try dsimp only at hSw); go_simp; all_goals (with_reducible rfl)
                    try simp only [Act.put, List.setIfInBounds_toArray, List.set_cons_zero, List.set_cons_succ]
                    refine wpAnyH_take (i := 5) (oi := ⟨some 214, _, _, _, _, _⟩) (v := ?_) rfl (by kernel_rfl) (by kernel_rfl) (by kernel_rfl) (fun _ _ _ h => h) (Or.inl ⟨by rfl, ?_⟩) hHeld ?_
                    rotate_left
                    · intro w hSw; (try dsimp only at hSw); go_simp; all_goals (with_reducible rfl)
                    try simp only [Act.put, List.setIfInBounds_toArray, List.set_cons_zero, List.set_cons_succ]
                    refine wpAnyH_take (i := 6) (oi := ⟨some 215, _, _, _, _, _⟩) (v := ?_) rfl (by kernel_rfl) (by kernel_rfl) (by kernel_rfl) (fun _ _ _ h => h) (Or.inl ⟨by rfl, ?_⟩) hHeld ?_
                    rotate_left
                    · intro w hSw; (try dsimp only at hSw); go_simp; all_goals (with_reducible rfl)
                    try simp only [Act.put, List.setIfInBounds_toArray, List.set_cons_zero, List.set_cons_succ]
                    refine wpAnyH_take (i := 8) (oi := ⟨some 217, _, _, _, _, _⟩) (v := ?_) rfl (by kernel_rfl) (by kernel_rfl) (by kernel_rfl) (fun _ _ _ h => h) (Or.inl ⟨by rfl, ?_⟩) hHeld ?_
                    rotate_left
                    · intro w hSw; (try dsimp only at hSw); go_simp; all_goals (with_reducible rfl)
                    try simp only [Act.put, List.setIfInBounds_toArray, List.set_cons_zero, List.set_cons_succ]
                    refine wpAnyH_ready (rs := [7]) (by kernel_rfl) (by simp) ?_
                    refine AllReadyH.cons (o := ⟨some 216, _, _, _, _, _⟩) rfl (fun K hK => ?_) AllReadyH.nil
                    go_simp
                    refine (store_walk (p := p) o.k HOO.out.1 (HOl.out.below hHeld)).mono ?_
                    rw [HDM.out.1]
                    rintro e w29 ⟨rfl, hB29⟩
                    have HB29 : Hid (Below wl.heap.size wl w29) := below_trans hHeld hB29
                    clear hB29
                    refine hK.out _ _ ?_ (fun hHeld => ?_)
                    · exact HB29.out
                    clear hK K
                    try simp only [Act.put, List.setIfInBounds_toArray, List.set_cons_zero, List.set_cons_succ]
                    refine wpAnyH_take (i := 9) (oi := ⟨some 218, _, _, _, _, _⟩) (v := ?_) rfl (by kernel_rfl) (by kernel_rfl) (by kernel_rfl) (fun _ _ _ h => h) (Or.inl ⟨by rfl, ?_⟩) hHeld ?_
                    rotate_left
                    · intro w hSw; (try dsimp only at hSw); go_simp; all_goals (with_reducible rfl)
                    try simp only [Act.put, List.setIfInBounds_toArray, List.set_cons_zero, List.set_cons_succ]
                    refine wpAnyH_take (i := 10) (oi := ⟨some 219, _, _, _, _, _⟩) (v := ?_) rfl (by kernel_rfl) (by kernel_rfl) (by kernel_rfl) (fun _ _ _ h => h) (Or.inl ⟨by rfl, ?_⟩) hHeld ?_
                    rotate_left
                    · intro w hSw; (try dsimp only at hSw); go_simp; all_goals (with_reducible rfl)
                    try simp only [Act.put, List.setIfInBounds_toArray, List.set_cons_zero, List.set_cons_succ]
                    refine wpAnyH_take (i := 11) (oi := ⟨some 220, _, _, _, _, _⟩) (v := ?_) rfl (by kernel_rfl) (by kernel_rfl) (by kernel_rfl) (fun _ _ _ h => h) (Or.inl ⟨by rfl, ?_⟩) hHeld ?_
                    rotate_left
                    · intro w hSw; (try dsimp only at hSw); go_simp; all_goals (with_reducible rfl)
                    try simp only [Act.put, List.setIfInBounds_toArray, List.set_cons_zero, List.set_cons_succ]
                    refine wpAnyH_take (i := 12) (oi := ⟨some 221, _, _, _, _, _⟩) (v := ?_) rfl (by kernel_rfl) (by kernel_rfl) (by kernel_rfl) (fun _ _ _ h => h) (Or.inl ⟨by rfl, ?_⟩) hHeld ?_
                    rotate_left
                    · intro w hSw; (try dsimp only at hSw); go_simp; all_goals (with_reducible rfl)
                    try simp only [Act.put, List.setIfInBounds_toArray, List.set_cons_zero, List.set_cons_succ]
                    refine wpAnyH_take (i := 13) (oi := ⟨some 222, _, _, _, _, _⟩) (v := ?_) rfl (by kernel_rfl) (by kernel_rfl) (by kernel_rfl) (fun _ _ _ h => h) (Or.inl ⟨by rfl, ?_⟩) hHeld ?_
                    rotate_left
                    · intro w hSw; (try dsimp only at hSw); go_simp; all_goals (with_reducible rfl)
                    try simp only [Act.put, List.setIfInBounds_toArray, List.set_cons_zero, List.set_cons_succ]
                    refine wpAnyH_take (i := 14) (oi := ⟨some 223, _, _, _, _, _⟩) (v := ?_) rfl (by kernel_rfl) (by kernel_rfl) (by kernel_rfl) (fun _ _ _ h => h) (Or.inl ⟨by rfl, ?_⟩) hHeld ?_
                    rotate_left
                    · intro w hSw; (try dsimp only at hSw); go_simp; all_goals (with_reducible rfl)
                    try simp only [Act.put, List.setIfInBounds_toArray, List.set_cons_zero, List.set_cons_succ]
                    refine wpAnyH_take (i := 15) (oi := ⟨some 224, _, _, _, _, _⟩) (v := ?_) rfl (by kernel_rfl) (by kernel_rfl) (by kernel_rfl) (fun _ _ _ h => h) (Or.inl ⟨by rfl, ?_⟩) hHeld ?_
                    rotate_left
                    · intro w hSw; (try dsimp only at hSw); go_simp; all_goals (with_reducible rfl)
                    try simp only [Act.put, List.setIfInBounds_toArray, List.set_cons_zero, List.set_cons_succ]
                    refine wpAnyH_take (i := 16) (oi := ⟨some 225, _, _, _, _, _⟩) (v := ?_) rfl (by kernel_rfl) (by kernel_rfl) (by kernel_rfl) (fun _ _ _ h => h) (Or.inl ⟨by rfl, ?_⟩) hHeld ?_
                    rotate_left
                    · intro w hSw; (try dsimp only at hSw); go_simp; all_goals (with_reducible rfl)
                    try simp only [Act.put, List.setIfInBounds_toArray, List.set_cons_zero, List.set_cons_succ]
                    refine wpAnyH_take (i := 17) (oi := ⟨some 226, _, _, _, _, _⟩) (v := ?_) rfl (by kernel_rfl) (by kernel_rfl) (by kernel_rfl) (fun _ _ _ h => h) (Or.inl ⟨by rfl, ?_⟩) hHeld ?_
                    rotate_left
                    · intro w hSw; (try dsimp only at hSw); go_simp; all_goals (with_reducible rfl)
                    try simp only [Act.put, List.setIfInBounds_toArray, List.set_cons_zero, List.set_cons_succ]
                    refine wpAnyH_take (i := 18) (oi := ⟨some 227, _, _, _, _, _⟩) (v := ?_) rfl (by kernel_rfl) (by kernel_rfl) (by kernel_rfl) (fun _ _ _ h => h) (Or.inl ⟨by rfl, ?_⟩) hHeld ?_
                    rotate_left
                    · intro w hSw; (try dsimp only at hSw); go_simp; all_goals (with_reducible rfl)
                    try simp only [Act.put, List.setIfInBounds_toArray, List.set_cons_zero, List.set_cons_succ]
                    refine wpAnyH_take (i := 20) (oi := ⟨some 229, _, _, _, _, _⟩) (v := ?_) rfl (by kernel_rfl) (by kernel_rfl) (by kernel_rfl) (fun _ _ _ h => h) (Or.inl ⟨by rfl, ?_⟩) hHeld ?_
                    rotate_left
                    · intro w hSw; (try dsimp only at hSw); go_simp; all_goals (with_reducible rfl)
                    try simp only [Act.put, List.setIfInBounds_toArray, List.set_cons_zero, List.set_cons_succ]
                    refine wpAnyH_take (i := 21) (oi := ⟨some 230, _, _, _, _, _⟩) (v := ?_) rfl (by kernel_rfl) (by kernel_rfl) (by kernel_rfl) (fun _ _ _ h => h) (Or.inl ⟨by rfl, ?_⟩) hHeld ?_
                    rotate_left
                    · intro w hSw; (try dsimp only at hSw); go_simp; all_goals (with_reducible rfl)
                    try simp only [Act.put, List.setIfInBounds_toArray, List.set_cons_zero, List.set_cons_succ]
                    refine wpAnyH_take (i := 22) (oi := ⟨some 231, _, _, _, _, _⟩) (v := ?_) rfl (by kernel_rfl) (by kernel_rfl) (by kernel_rfl) (fun _ _ _ h => h) (Or.inl ⟨by rfl, ?_⟩) hHeld ?_
                    rotate_left
                    · intro w hSw; (try dsimp only at hSw); go_simp; all_goals (with_reducible rfl)
                    try simp only [Act.put, List.setIfInBounds_toArray, List.set_cons_zero, List.set_cons_succ]
                    refine wpAnyH_take (i := 23) (oi := ⟨some 232, _, _, _, _, _⟩) (v := ?_) rfl (by kernel_rfl) (by kernel_rfl) (by kernel_rfl) (fun _ _ _ h => h) (Or.inl ⟨by rfl, ?_⟩) hHeld ?_
                    rotate_left
                    · intro w hSw; (try dsimp only at hSw); go_simp; all_goals (with_reducible rfl)
                    try simp only [Act.put, List.setIfInBounds_toArray, List.set_cons_zero, List.set_cons_succ]
                    refine wpAnyH_take (i := 24) (oi := ⟨some 233, _, _, _, _, _⟩) (v := ?_) rfl (by kernel_rfl) (by kernel_rfl) (by kernel_rfl) (fun _ _ _ h => h) (Or.inl ⟨by rfl, ?_⟩) hHeld ?_
                    rotate_left
                    · intro w hSw; (try dsimp only at hSw); go_simp; all_goals (with_reducible rfl)
                    try simp only [Act.put, List.setIfInBounds_toArray, List.set_cons_zero, List.set_cons_succ]
                    refine wpAnyH_take (i := 25) (oi := ⟨some 234, _, _, _, _, _⟩) (v := ?_) rfl (by kernel_rfl) (by kernel_rfl) (by kernel_rfl) (fun _ _ _ h => h) (Or.inl ⟨by rfl, ?_⟩) hHeld ?_
                    rotate_left
                    · intro w hSw; (try dsimp only at hSw); go_simp; all_goals (with_reducible rfl)
                    try simp only [Act.put, List.setIfInBounds_toArray, List.set_cons_zero, List.set_cons_succ]
                    refine wpAnyH_ready (rs := [19]) (by kernel_rfl) (by simp) ?_
                    refine AllReadyH.cons (o := ⟨some 228, _, _, _, _, _⟩) rfl (fun K hK => ?_) AllReadyH.nil
                    go_simp
                    refine (fit_walk p.A (v := o.v) HOO.out.2 _).mono ?_
                    rw [HDM.out.2]
                    rintro e w30 ⟨rfl, hB30⟩
                    have HB30 : Hid (Below wl.heap.size wl w30) := below_trans hHeld hB30
                    clear hB30
                    refine hK.out _ _ ?_ (fun hHeld => ?_)
                    · exact HB30.out
                    clear hK K
                    try simp only [Act.put, List.setIfInBounds_toArray, List.set_cons_zero, List.set_cons_succ]
                    refine wpAnyH_take (i := 26) (oi := ⟨some 235, _, _, _, _, _⟩) (v := ?_) rfl (by kernel_rfl) (by kernel_rfl) (by kernel_rfl) (fun _ _ _ h => h) (Or.inl ⟨by rfl, ?_⟩) hHeld ?_
                    rotate_left
                    · intro w hSw; (try dsimp only at hSw); go_simp; all_goals (with_reducible rfl)
                    try simp only [Act.put, List.setIfInBounds_toArray, List.set_cons_zero, List.set_cons_succ]
                    refine wpAnyH_take (i := 27) (oi := ⟨some 236, _, _, _, _, _⟩) (v := ?_) rfl (by kernel_rfl) (by kernel_rfl) (by kernel_rfl) (fun _ _ _ h => h) (Or.inl ⟨by rfl, ?_⟩) hHeld ?_
                    rotate_left
                    · intro w hSw; (try dsimp only at hSw); go_simp; all_goals (with_reducible rfl)
                    try simp only [Act.put, List.setIfInBounds_toArray, List.set_cons_zero, List.set_cons_succ]
                    refine wpAnyH_done (by kernel_rfl) ?_ _
                    refine NoPanic.normal ?_
                    clear z0 z1 z2 z3 z4 z5 z6 z7 y8 v0 v1 v2 hn hgd hnn
                    have hil := HIL.out
                    have hdl := HDO.out.2
                    go_wp2_with fail
                    go_roundw
                    case rel => exact ⟨i + 1, by go_num, HIL.out, HBl.out.trans (HB30.out.mono HBl.out.size)⟩
                    case measure => simp [intOf]; omega
                  have hlti : ¬ (i : Int) < (D.length : Int) := by omega
                  have HSl : Hid (Sz w1.heap.size K23 wl sb S2 P b ov p L23 [h37 p S f true (List.replicate p.n false)] (Kd w1.heap.size X p (.slice oa p.l.length oc) va vc f ta tc E g2 T K13 lo13 (.slice (some ⟨bg, 0, none⟩) p.n bc) M13)) := HS27.out.below hb
                  have HAl : Hid (AllK K23 wl u22 (lowT p T k)) := HA27.out.ch (D := fun _ => False) (fun _ _ e => e) (Ch.of_below hb)
                  have HQl : Hid (Ql wl pa D) := HQL27.out.below hb
                  have HWl : Hid (Below w1.heap.size w1 wl) := HW27.out.trans (hb.mono HW27.out.size)
                  have z4 := HSl.out.ph.c.b.a.x.c4
                  have HQV : Hid (Qv wl (.slice pa D.length pc) D) := HPV.out wl HBl.out
                  clear hb hlt
                  go_upto_region 44 with fail
                  go_wp2_with fail
                  refine (add_good (kind := p.A) (a := lowT p T k) (b := D) (HAl.out.qv (ok_low HTO.out k) (by have := low_len p T k; have := HTL.out; simp only [maxLen]; omega)) HQV.out (Pn.is_kn HP.out).2 (tab_iff.2 ⟨rise_low HTR.out k, has_low HTH.out k⟩) (by rw [HDD.out]; exact tab_iff.2 ⟨rise_deal HTR.out k, has_deal HTH.out k⟩) (by have h1 := low_len p T k; have h2 := HTL.out; have h3 := HDO.out.2; omega)).mono ?_
                  rintro e w31 ⟨g31, rfl, hmq, hg1, hg2, hB⟩
                  have hlow : addT p.A (lowT p T k) D = lowT p T (k + 1) := by rw [HDD.out]; exact low_step (Pn.is_kn HP.out).2 HTR.out HTH.out HTO.out HTF.out k
                  rw [hlow] at hmq ⊢
                  obtain ⟨K31, hK31⟩ : ∃ K31 : Nat → Prop, K31 = fun z => K23 z ∨ (wl.heap.size ≤ z ∧ z < w31.heap.size) := ⟨_, rfl⟩
                  have HS31 : Hid (Sz w1.heap.size K31 w31 sb S2 P b ov p L23 [h37 p S f true (List.replicate p.n false)] (Kd w1.heap.size X p (.slice oa p.l.length oc) va vc f ta tc E g2 T K13 lo13 (.slice (some ⟨bg, 0, none⟩) p.n bc) M13)) := by
                    have h := HSl.out.more hB (G := fun _ => True) trivial (fun _ _ _ _ _ _ => trivial)
                    rw [hK31]
                    exact h.less h.ph.1 (fun D u u' hu hd hc => (h.st D u u' ⟨hu, trivial⟩ hd hc).1)
                  have HA31 : Hid (AllK K31 w31 (.slice (some ⟨g31, 0, none⟩) (lowT p T (k + 1)).length (lowT p T (k + 1)).length) (lowT p T (k + 1))) := .inr ⟨g31, rfl, hmq, by rw [hK31]; exact .inr ⟨hg1, hg2⟩⟩
                  have HKE : Hid (∀ x, K13 x → K31 x) := fun x hx => by rw [hK31]; exact .inl (HKC.out x hx)
                  have HW31 : Hid (Below w1.heap.size w1 w31) := HWl.out.trans (hB.mono HWl.out.size)
                  clear hlow hmq hg1 hg2 hB hK31 z4 HSl HAl HQl HWl HQV
                  go_wp2_with fail
                  go_roundw
                  case rel => exact ⟨k + 1, K31, L23, by go_num, HLT.out, HKE.out, HS31.out, HA31.out, HW31.out⟩
                  case measure => have := HLT.out; simp [intOf]; omega
              have hlti : ¬ (k : Int) < (p.n : Int) := by omega
              have hkp : k = p.n := by omega
              have HAe : Hid (AllK K' wr u22 T) := by have h := HAk.out; rw [hkp, low_all HP.out] at h; exact h
              clear hlt hkp
              go_wp2_with fail
              refine (pairs_ok17 (HAe.out.qv HTO.out (by have := HTL.out; simp only [maxLen]; omega)) (mq_qvT HSk.out.ph.c.t HTO.out (by have := HTL.out; simp only [maxLen]; omega))).mono ?_
              rintro e w40 ⟨rfl, hB⟩
              have HW40 : Hid (Below w1.heap.size w1 w40) := HWk.out.trans (hB.mono HWk.out.size)
              clear hB
              go_wp2_with fail
              go_ret
              exact ⟨rfl, HB1.out.trans (HW40.out.mono HB1.out.size)⟩
        · have hlti : ¬ (i : Int) < (more.length : Int) := by omega
          clear hlt hl1
          go_wp2_with fail
          go_loopw [16] (fun iv wr => ∃ (k : Nat) (S' : Sc), iv = .int .i64 k ∧ k ≤ np ∧ Sz w1.heap.size K6 wr sb S' P b ov p L6 [h37 p S f false (List.replicate p.n false)] (Kb w1.heap.size X p (.slice oa p.l.length oc) va vc f ta tc E) ∧ Grw S S' ∧ Below w1.heap.size w1 wr) (fun iv _ => np - (intOf iv).toNat)
          case atStart => exact ⟨0, S', rfl, Nat.zero_le _, HSr.out, HGr.out, HWr.out⟩
          case round =>
            obtain ⟨k, S2, rfl, hkn, h1, h2, h3⟩ := hrel
            have HSq : Hid (Sz w1.heap.size K6 wr sb S2 P b ov p L6 [h37 p S f false (List.replicate p.n false)] (Kb w1.heap.size X p (.slice oa p.l.length oc) va vc f ta tc E)) := h1
            have HGq : Hid (Grw S S2) := h2
            have HWq : Hid (Below w1.heap.size w1 wr) := h3
            clear h1 h2 h3 HSr HGr HWr
            have d0 : wr.cell? ⟨X, 0, none⟩ = some (.int .i64 (np : Int)) := by rw [← HPP.out]; exact HSq.out.ph.a.x.c0
            by_cases hlt : k < np
            · have hlti : (k : Int) < (np : Int) := by omega
              have HLT : Hid (k < np) := hlt
              clear hlt
              go_wp2_with fail
              refine (sz_switch HSq.out (k : Int) false).mono ?_
              rintro e w5 ⟨rfl, hS5, hB5⟩
              have HS5 : Hid _ := hS5
              have HW5 : Hid (Below w1.heap.size w1 w5) := HWq.out.trans hB5
              clear hS5 hB5 d0
              go_wp2_with fail
              go_roundw
              case rel => exact ⟨k + 1, _, by go_num, HLT.out, HS5.out, grw_switch HGq.out _ _, HW5.out⟩
              case measure => have := HLT.out; simp [intOf]; omega
            have hlti : ¬ (k : Int) < (np : Int) := by omega
            clear hlt
            go_upto_region 22 with fail
            clear d0
            have HEF : Hid (Fit S E ∧ Fwd f E) := by rw [HEE.out]; exact ⟨form_fit HFit.out (Pn.is_num HP.out).2.2.2.2.1.1, form_fwd HFit.out (Pn.is_num HP.out).2.2.2.2.1.1⟩
            obtain ⟨D0, hD0, _⟩ := HSq.out.pw.src
            go_wp2_with fail
            refine (again_walk hD0 (own_nv HSq.out.ph.a.f HFI.out) (own_nv HSq.out.ph.e HEO.out)).mono ?_
            rintro e w10 ⟨rv, rfl, hrv, hB⟩
            obtain ⟨ag1, ag2⟩ := again_grw HGq.out HFit.out HEF.out.1 HEF.out.2
            rw [ag2] at hrv
            rw [ag1]
            have HRW : Hid (w10.ownsRow wr.heap.size 53 2 rv (betS S f E f.length).length (flatR (betS S f E f.length))) := hrv
            have HS10 : Hid (Sz w1.heap.size K6 w10 sb S2 P b ov p L6 [h37 p S f false (List.replicate p.n false)] (Kb w1.heap.size X p (.slice oa p.l.length oc) va vc f ta tc E)) := HSq.out.below hB
            have HW10 : Hid (Below w1.heap.size w1 w10) := HWq.out.trans (hB.mono HWq.out.size)
            clear hrv hB hD0 ag1 ag2 HSq HWq
            have c3 := HS10.out.ph.a.x.c3
            have c4 := HS10.out.ph.a.x.c4
            go_wp2_with fail
            have HRL : Hid ((betS S f E f.length).length ≤ 1024 ∧ ∀ r ∈ betS S f E f.length, r.ok) := by
              have h := tab_rec HOK.out (a := f) (m := p.B) (by have h1 := HFit.out.1; have h2 := HOK.out.np4; omega)
              rw [(fit_form HP.out HFit.out).2.2, ← HEE.out] at h
              exact h
            refine (batch_good (kind := p.A) (l := p.l) (recs := betS S f E f.length) (HO.out.below (HB1.out.trans (HW10.out.mono HB1.out.size))) (own_rv HRW.out HRL.out.2) (Pn.is_kn HP.out).1 (Pn.is_kn HP.out).2 (by have := HRL.out.1; omega)).mono ?_
            rintro e w11 ⟨g2, rfl, hmq, hg1, hg2, hB⟩
            obtain ⟨T, hT⟩ : ∃ T, T = batchT p.l p.A (betS S f E f.length) := ⟨_, rfl⟩
            rw [← hT] at hmq ⊢
            have HTT : Hid (T = batchT p.l p.A (betS S f E f.length)) := hT
            obtain ⟨K11, hK11⟩ : ∃ K11 : Nat → Prop, K11 = fun z => K6 z ∨ (w10.heap.size ≤ z ∧ z < w11.heap.size) := ⟨_, rfl⟩
            have HS11 : Hid (Sz w1.heap.size K11 w11 sb S2 P b ov p L6 [h37 p S f false (List.replicate p.n false)] (Kc w1.heap.size X p (.slice oa p.l.length oc) va vc f ta tc E g2 T)) := by
              have h := HS10.out.more hB (G := fun u => Mq u g2 T) hmq (fun D u u' hu hd hc => mq_ch hu hc (hd g2 hg1 hg2))
              rw [hK11]
              exact h.less ⟨h.ph.1, h.ph.2⟩ (fun D u u' hu hd hc => ⟨(h.st D u u' ⟨hu.b, hu.t⟩ hd hc).1, (h.st D u u' ⟨hu.b, hu.t⟩ hd hc).2⟩)
            have HW11 : Hid (Below w1.heap.size w1 w11) := HW10.out.trans (hB.mono HW10.out.size)
            have HTR : Hid (Rise T) := by show Rise T; rw [hT]; exact rise_batch _ _ _
            have HTH : Hid (hasT T) := by show hasT T; rw [hT]; exact has_batch (Pn.is_kn HP.out).2 _
            have HTO : Hid (okT T) := by show okT T; rw [hT]; exact batch_ok HRL.out.2
            have HTF : Hid (∀ x, fitV p.A (getT x T) = getT x T) := fun x => by rw [hT]; exact fit_batch _ _ _ x
            have HTL : Hid (T.length ≤ 1024) := by have h := batch_len17 p.l p.A (betS S f E f.length); rw [← hT] at h; exact Nat.le_trans h HRL.out.1
            clear hK11 hT hmq hg1 hg2 hB c3 c4 HS10 HW10 HRW
            go_wp2_with fail
            refine (msg17 3 0 0).mono ?_
            rintro e w12 ⟨rfl, hB⟩
            have HS12 : Hid _ := HS11.out.below hB
            have HW12 : Hid (Below w1.heap.size w1 w12) := HW11.out.trans (hB.mono HW11.out.size)
            clear hB HS11 HW11
            go_wp2_with fail
            have htk := tk_go (S := S) (S' := S2) (f := f) (A := List.replicate p.n false) HP.out HOK.out HFit.out
            rw [← HEE.out] at htk
            refine (show Calls Tryz.prog 9 #[.pointer (some ⟨P, 0, none⟩), .pointer (some ⟨sb, 0, none⟩), .agg #[.int .i64 3, .int .i64 0, .int .i64 1, .int .i64 3, .int .i64 7, .int .i64 0, .slice ta E.length tc, .slice none 0 0, .slice none 0 0]] w12 _ from sz_take (m := ⟨3, 0, 1, 3, 7, 0, E, [], []⟩) HS12.out (by simp) (ml_e HS12.out.ph.b.e) (small_ok (by omega) HEO.out q0_ok p0_ok) htk).mono ?_
            clear htk
            rintro e w13 ⟨ba, bc, K13, L13, M13, lo13, rfl, hM, hkk, hlo, hs, hB⟩
            have hn : (List.map (bgM p 1 ⟨3, 0, 1, 3, 7, 0, E, [], []⟩ (h37 p S f false (List.replicate p.n false)).T) (List.range p.n)).length = p.n := by simp
            simp only [hn] at hs ⊢
            have HM13 : Hid (M13.map (·.m) = List.map (bgM p 1 ⟨3, 0, 1, 3, 7, 0, E, [], []⟩ (h37 p S f false (List.replicate p.n false)).T) (List.range p.n)) := hM
            have HS13 : Hid (Sz w1.heap.size K13 w13 sb S2 P b ov p L13 [h37 p S f true (List.replicate p.n false)] (Kd w1.heap.size X p (.slice oa p.l.length oc) va vc f ta tc E g2 T K13 lo13 (.slice ba p.n bc) M13)) := hs.less ⟨hs.ph.1, hs.ph.2⟩ (fun D u u' hu hd hc => ⟨HS12.out.st D u u' hu.c (fun x hx => hd x (hkk x hx)) hc, hu.m.chg hd hc⟩)
            have HW13 : Hid (Below w1.heap.size w1 w13) := HW12.out.trans hB
            have d1 : w13.cell? ⟨X, 1, none⟩ = some (.int .i64 (p.n : Int)) := by rw [← HSN.out]; exact HS13.out.ph.c.b.a.x.c1
            have hpn : (p.n : Int) ≤ 4 := by have := HNL.out; omega
            clear hM hkk hlo hs hB hn HS12 HW12
            go_upto_region 29 with fail
            clear d1
            go_wp2_with fail
            go_loopw [22, 23] (fun av kv wr => ∃ (k : Nat) (K' : Nat → Prop) (L' : List At), kv = .int .i64 k ∧ k ≤ p.n ∧ (∀ x, K13 x → K' x) ∧ Sz w1.heap.size K' wr sb S2 P b ov p L' [h37 p S f true (List.replicate p.n false)] (Kd w1.heap.size X p (.slice oa p.l.length oc) va vc f ta tc E g2 T K13 lo13 (.slice ba p.n bc) M13) ∧ AllK K' wr av (lowT p T k) ∧ Below w1.heap.size w1 wr) (fun _ kv _ => p.n - (intOf kv).toNat)
            case atStart => exact ⟨0, K13, L13, rfl, Nat.zero_le _, fun x hx => hx, HS13.out, .inl ⟨low_zero p T, rfl⟩, HW13.out⟩
            case round =>
              obtain ⟨k, K', L', rfl, hkn, h0, h1, h2, h3⟩ := hrel
              have HKK' : Hid (∀ x, K13 x → K' x) := h0
              have HSk : Hid (Sz w1.heap.size K' wr sb S2 P b ov p L' [h37 p S f true (List.replicate p.n false)] (Kd w1.heap.size X p (.slice oa p.l.length oc) va vc f ta tc E g2 T K13 lo13 (.slice ba p.n bc) M13)) := h1
              have HAk : Hid (AllK K' wr u22 (lowT p T k)) := h2
              have HWk : Hid (Below w1.heap.size w1 wr) := h3
              clear h0 h1 h2 h3 HS13 HW13
              have d1 : wr.cell? ⟨X, 1, none⟩ = some (.int .i64 (p.n : Int)) := by rw [← HSN.out]; exact HSk.out.ph.c.b.a.x.c1
              by_cases hlt : k < p.n
              · have hlti : (k : Int) < (p.n : Int) := by omega
                have HLT : Hid (k < p.n) := hlt
                have d2 : wr.cell? ⟨X, 2, none⟩ = some (.int .i64 p.W) := HSk.out.ph.c.b.a.x.c2
                clear hlt
                go_upto_region 34 with fail
                clear d1 d2
                have hkM : k < M13.length := by have h := congrArg List.length HM13.out; simp at h; have := HLT.out; omega
                obtain ⟨t, ht⟩ : ∃ t, t = M13[k]'hkM := ⟨_, rfl⟩
                have HTM : Hid (t.m = bgM p 1 ⟨3, 0, 1, 3, 7, 0, E, [], []⟩ (h37 p S f false (List.replicate p.n false)).T k) := by
                  have h := congrArg (fun l => l[k]?) HM13.out
                  simp [hkM, HLT.out] at h
                  rw [ht]
                  exact h
                obtain ⟨bg, hbg, hmx⟩ := mr_mx HSk.out.ph.m.r hkM
                have hto := HSk.out.ph.m.r.ent _ (List.getElem_mem hkM)
                rw [← ht] at hmx hto
                have hcap := row_formN HSk.out.ph.m.r.own (by have := HLT.out; omega)
                subst hbg
                have hcp : p.n ≤ bc ∧ bc ≤ maxLen := by obtain ⟨g9, c9, hv, h1, h2, _⟩ := hcap; injection hv with _ h3 h4; subst h4; exact ⟨by rw [h3]; exact h1, h2⟩
                clear hcap
                have HTE : Hid ((h37 p S f false (List.replicate p.n false)).T = T) := by show _ = _; rw [HTT.out, HEE.out]; rfl
                obtain ⟨xa, xc, ya, yc, za, zc, e1, e2, e3⟩ := to_form hto
                obtain ⟨tm, te, tq, tp⟩ := t
                obtain ⟨D, hD⟩ : ∃ D, D = dealF p T k := ⟨_, rfl⟩
                have HDD : Hid (D = dealF p T k) := hD
                obtain ⟨Q, hQ⟩ : ∃ Q, Q = D.map (·.k) := ⟨_, rfl⟩
                have HQQ : Hid (Q = D.map (·.k)) := hQ
                have hm : tm = ⟨4, 1, 1 + p.W + (k : Int), 3, 7, 0, [], Q, []⟩ := by rw [hQ, hD, ← HTE.out]; exact HTM.out
                have HKQ : Hid (∀ x, tq.ownBlock = some x → K' x) := fun x hx => HKK'.out x (HSk.out.ph.m.ke ⟨tm, te, tq, tp⟩ (by rw [ht]; exact List.getElem_mem hkM) x (.inr (.inl hx)))
                simp only at e1 e2 e3
                subst hm
                simp only [List.length_nil] at e1 e2 e3
                subst e1 e2 e3
                have HMX : Hid _ := hmx
                have HTQ : Hid (wr.ownsRow lo13 50 1 (.slice ya Q.length yc) Q.length (Q.map fun q : Nat => Value.int .u64 (q : Int))) := hto.q
                clear hto hmx ht HTM hD hQ
                go_wp2_with fail
                refine (show Calls Tryz.prog 11 #[.slice (some ⟨bg, k * 9, none⟩) 1 (bc - k), .int .i64 0, .int .i64 4, .int .i64 (1 + p.W + (k : Int))] wr _ from one17 (m := ⟨4, 1, 1 + p.W + (k : Int), 3, 7, 0, [], Q, []⟩) HMX.out rfl rfl rfl).mono ?_
                rintro e w20 ⟨rfl, hB⟩
                dsimp only
                have HS20 : Hid (Sz w1.heap.size K' w20 sb S2 P b ov p L' [h37 p S f true (List.replicate p.n false)] (Kd w1.heap.size X p (.slice oa p.l.length oc) va vc f ta tc E g2 T K13 lo13 (.slice (some ⟨bg, 0, none⟩) p.n bc) M13)) := HSk.out.below hB
                have HTQ20 : Hid (w20.ownsRow lo13 50 1 (.slice ya Q.length yc) Q.length (Q.map fun q : Nat => Value.int .u64 (q : Int))) := own_belowC HTQ.out hB
                have HA20 : Hid (AllK K' w20 u22 (lowT p T k)) := HAk.out.ch (D := fun _ => False) (fun _ _ e => e) (Ch.of_below hB)
                have HW20 : Hid (Below w1.heap.size w1 w20) := HWk.out.trans (hB.mono HWk.out.size)
                clear hB HMX HTQ HSk HAk HWk hkM
                go_upto_region 35 with fail
                have HBA : Hid _ := below_alloc w20 (Obj.cells #[.int .i64 4, .int .i64 1, .int .i64 (1 + p.W + (k : Int)), .int .i64 3, .int .i64 7, .int .i64 0, .slice xa 0 xc, .slice ya Q.length yc, .slice za 0 zc] 44)
                have HRC : Hid _ := mx_new w20 ⟨4, 1, 1 + p.W + (k : Int), 3, 7, 0, [], Q, []⟩ (.slice xa 0 xc) (.slice ya Q.length yc) (.slice za 0 zc)
                obtain ⟨RB, hRB⟩ : ∃ RB, RB = w20.heap.size := ⟨_, rfl⟩
                have HRB : Hid (RB = w20.heap.size) := hRB
                rw [← hRB] at HRC ⊢
                generalize w20.alloc (Obj.cells #[.int .i64 4, .int .i64 1, .int .i64 (1 + p.W + (k : Int)), .int .i64 3, .int .i64 7, .int .i64 0, .slice xa 0 xc, .slice ya Q.length yc, .slice za 0 zc] 44) = w21 at HBA HRC ⊢
                have hrl : RB < w21.heap.size := cell_lt HRC.out.c0
                have hSa := (HS20.out.add (G := fun u => u.ownsRow lo13 50 1 (.slice ya Q.length yc) Q.length (Q.map fun q : Nat => Value.int .u64 (q : Int)) ∧ AllK K' u u22 (lowT p T k)) ⟨HTQ20.out, HA20.out⟩ (fun D u u' hu hd hc => ⟨own_ch hu.1 hc (fun x hx => hd x (HKQ.out x hx)), hu.2.ch hd hc⟩)).more HBA.out (G := fun u => MX u RB ⟨4, 1, 1 + p.W + (k : Int), 3, 7, 0, [], Q, []⟩ (.slice xa 0 xc) (.slice ya Q.length yc) (.slice za 0 zc)) HRC.out (fun D u u' hu hd hc => hu.ch hc (hd RB (by rw [HRB.out]; exact Nat.le_refl _) hrl))
                obtain ⟨K21, hK21⟩ : ∃ K21 : Nat → Prop, K21 = fun z => K' z ∨ (w20.heap.size ≤ z ∧ z < w21.heap.size) := ⟨_, rfl⟩
                rw [← hK21] at hSa
                have HK21 : Hid (∀ x, K' x → K21 x) := fun x hx => by rw [hK21]; exact .inl hx
                have HST : Hid (∀ (D : Nat → Prop) (u u' : World), (Kd w1.heap.size X p (.slice oa p.l.length oc) va vc f ta tc E g2 T K13 lo13 (.slice (some ⟨bg, 0, none⟩) p.n bc) M13) u → (∀ x, K' x → ¬ D x) → Ch D u u' → (Kd w1.heap.size X p (.slice oa p.l.length oc) va vc f ta tc E g2 T K13 lo13 (.slice (some ⟨bg, 0, none⟩) p.n bc) M13) u') := HS20.out.st
                have HSa : Hid _ := hSa
                have HW21 : Hid (Below w1.heap.size w1 w21) := HW20.out.trans (HBA.out.mono HW20.out.size)
                clear hSa hK21 hRB hrl HBA HRC HS20 HTQ20 HA20 HW20
                go_wp2_with fail
                refine (msg17 5 (1 + p.W + (k : Int)) 0).mono ?_
                rintro e w22 ⟨rfl, hB⟩
                have HS22 : Hid _ := HSa.out.below hB
                have HW22 : Hid (Below w1.heap.size w1 w22) := HW21.out.trans (hB.mono HW21.out.size)
                clear hB HSa HW21
                go_wp2_with fail
                have htk := tk_began (S := S) (S' := S2) (f := f) (A := List.replicate p.n false) HP.out HLT.out
                rw [show (h37 p S f true (List.replicate p.n false)).T = T from HTE.out, ← HDD.out] at htk
                have hWb : 0 ≤ p.W ∧ p.W ≤ 4 := by have := Pn.is_num HP.out; omega
                refine (show Calls Tryz.prog 9 #[.pointer (some ⟨P, 0, none⟩), .pointer (some ⟨sb, 0, none⟩), .agg #[.int .i64 5, .int .i64 (1 + p.W + (k : Int)), .int .i64 1, .int .i64 3, .int .i64 7, .int .i64 0, .slice none 0 0, .slice none 0 0, .slice none 0 0]] w22 _ from sz_take (m := ⟨5, 1 + p.W + (k : Int), 1, 3, 7, 0, [], [], []⟩) HS22.out (by simp) (ml_0 w22) (small_ok (by have := HLT.out; omega) e0_ok q0_ok p0_ok) htk).mono ?_
                clear htk hWb
                rintro e w23 ⟨a23, c23, K23, L23, M23, lo23, rfl, hM, hkk, hlo, hs, hB⟩
                obtain ⟨g1, q1, ea, ec, qa, qc, pa, pc, hv, hmx, hto, _⟩ := mrk_one hs.ph.2 hM
                simp only [List.length_nil, List.length_cons] at hv hmx hto ⊢
                rw [hv]
                have HS23 : Hid (Sz w1.heap.size K23 w23 sb S2 P b ov p L23 [h37 p S f true (List.replicate p.n false)] (Kd w1.heap.size X p (.slice oa p.l.length oc) va vc f ta tc E g2 T K13 lo13 (.slice (some ⟨bg, 0, none⟩) p.n bc) M13)) := hs.less hs.ph.1.1.1 (fun D u u' hu hd hc => HST.out D u u' hu (fun x hx => hd x (hkk x (HK21.out x hx))) hc)
                have HTQ23 : Hid (w23.ownsRow lo13 50 1 (.slice ya Q.length yc) Q.length (Q.map fun q : Nat => Value.int .u64 (q : Int))) := hs.ph.1.1.2.1
                have HA23 : Hid (AllK K23 w23 u22 (lowT p T k)) := hs.ph.1.1.2.2.mono (fun x hx => hkk x (HK21.out x hx))
                have HRC : Hid (MX w23 RB ⟨4, 1, 1 + p.W + (k : Int), 3, 7, 0, [], Q, []⟩ (.slice xa 0 xc) (.slice ya Q.length yc) (.slice za 0 zc)) := hs.ph.1.2
                have HMX : Hid _ := hmx
                have HTP : Hid (w23.ownsRow lo23 65 3 (.slice pa D.length pc) D.length (flatQ D)) := hto.p
                have HKC : Hid (∀ x, K13 x → K23 x) := fun x hx => hkk x (HK21.out x (HKK'.out x hx))
                have HW23 : Hid (Below w1.heap.size w1 w23) := HW22.out.trans hB
                clear hv hM hkk hlo hs hB hmx hto HS22 HW22 HKQ HST HK21
                go_wp2_with fail
                refine (show Calls Tryz.prog 11 #[.slice (some ⟨g1, 0, none⟩) 1 q1, .int .i64 0, .int .i64 6, .int .i64 (1 + p.W + (k : Int))] w23 _ from one17 (m := ⟨6, 1, 1 + p.W + (k : Int), 3, 7, 0, [], [], D⟩) HMX.out rfl rfl rfl).mono ?_
                rintro e w24 ⟨rfl, hB⟩
                dsimp only
                have HB24 : Hid (Below w23.heap.size w23 w24) := hB
                clear hB HMX
                go_upto_region 37 with fail
                have HBA : Hid _ := below_alloc w24 (Obj.cells #[.int .i64 6, .int .i64 1, .int .i64 (1 + p.W + (k : Int)), .int .i64 3, .int .i64 7, .int .i64 0, .slice ea 0 ec, .slice qa 0 qc, .slice pa D.length pc] 44)
                have HRA : Hid _ := mx_new w24 ⟨6, 1, 1 + p.W + (k : Int), 3, 7, 0, [], [], D⟩ (.slice ea 0 ec) (.slice qa 0 qc) (.slice pa D.length pc)
                generalize w24.alloc (Obj.cells #[.int .i64 6, .int .i64 1, .int .i64 (1 + p.W + (k : Int)), .int .i64 3, .int .i64 7, .int .i64 0, .slice ea 0 ec, .slice qa 0 qc, .slice pa D.length pc] 44) = w25 at HBA HRA ⊢
                generalize w24.heap.size = RA at HRA ⊢
                have HB25 : Hid (Below w23.heap.size w23 w25) := HB24.out.trans (HBA.out.mono HB24.out.size)
                have HRB25 : Hid (MX w25 RB ⟨4, 1, 1 + p.W + (k : Int), 3, 7, 0, [], Q, []⟩ (.slice xa 0 xc) (.slice ya Q.length yc) (.slice za 0 zc)) := HRC.out.keep HB25.out
                have HS25 : Hid (Sz w1.heap.size K23 w25 sb S2 P b ov p L23 [h37 p S f true (List.replicate p.n false)] (Kd w1.heap.size X p (.slice oa p.l.length oc) va vc f ta tc E g2 T K13 lo13 (.slice (some ⟨bg, 0, none⟩) p.n bc) M13)) := HS23.out.below HB25.out
                have HA25 : Hid (AllK K23 w25 u22 (lowT p T k)) := HA23.out.ch (D := fun _ => False) (fun _ _ e => e) (Ch.of_below HB25.out)
                have HTQ25 := hidH (own_belowC HTQ23.out HB25.out)
                have HTP25 := hidH (own_belowC HTP.out HB25.out)
                have HW25 : Hid (Below w1.heap.size w1 w25) := HW23.out.trans (HB25.out.mono HW23.out.size)
                have HDO : Hid (okT D ∧ D.length ≤ 1024) := by
                  refine ⟨?_, ?_⟩
                  · rw [HDD.out]; exact deal_ok HTO.out k
                  · rw [HDD.out]; exact Nat.le_trans (List.length_filter_le _ _) HTL.out
                have HQL : Hid (Ql w25 pa D) := ql_of HTP25.out HDO.out.1
                have rb7 : ∀ wx, Below w25.heap.size w25 wx → wx.cell? ⟨RB, 7, none⟩ = some (.slice ya Q.length yc) := fun wx hb => (HRB25.out.keep hb).c7
                have ra8 : ∀ wx, Below w25.heap.size w25 wx → wx.cell? ⟨RA, 8, none⟩ = some (.slice pa D.length pc) := fun wx hb => (HRA.out.keep hb).c8
                have hql : Q.length ≤ 1048576 := by rw [HQQ.out, List.length_map]; have := HDO.out.2; omega
                have HQL2 : Hid (Q.length ≤ 1048576) := hql
                clear hql HBA HB24 HRC HS23 HA23 HTQ23 HTP HW23
                refine wp_region_noPanic ?_
                refine wp_region_held_drew (S := (fun wx => Below w25.heap.size w25 wx)) (by kernel_rfl) ?_ (fun hHeld => ?_)
                · exact (below_drewN w25 1)
                refine wpAnyH_take (i := 0) (oi := ⟨some 187, _, _, _, _, _⟩) (v := ?_) rfl (by kernel_rfl) (by kernel_rfl) (by kernel_rfl) (fun _ _ _ h => h) (Or.inl ⟨by rfl, ?_⟩) hHeld ?_
                rotate_left
                · intro w hSw; (try dsimp only at hSw); go_simp; all_goals (with_reducible rfl)
                try simp only [Act.put, List.setIfInBounds_toArray, List.set_cons_zero, List.set_cons_succ]
                refine wpAnyH_take (i := 1) (oi := ⟨some 188, _, _, _, _, _⟩) (v := ?_) rfl (by kernel_rfl) (by kernel_rfl) (by kernel_rfl) (fun _ _ _ h => h) (Or.inl ⟨by rfl, ?_⟩) hHeld ?_
                rotate_left
                · intro w hSw; (try dsimp only at hSw); go_simp; all_goals (with_reducible rfl)
                try simp only [Act.put, List.setIfInBounds_toArray, List.set_cons_zero, List.set_cons_succ]
                refine wpAnyH_take (i := 2) (oi := ⟨some 189, _, _, _, _, _⟩) (v := ?_) rfl (by kernel_rfl) (by kernel_rfl) (by kernel_rfl) (fun _ _ _ h => h) (Or.inl ⟨by rfl, ?_⟩) hHeld ?_
                rotate_left
                · intro w hSw; (try dsimp only at hSw); go_simp; all_goals (with_reducible rfl)
                try simp only [Act.put, List.setIfInBounds_toArray, List.set_cons_zero, List.set_cons_succ]
                refine wpAnyH_take (i := 3) (oi := ⟨some 190, _, _, _, _, _⟩) (v := ?_) rfl (by kernel_rfl) (by kernel_rfl) (by kernel_rfl) (fun _ _ _ h => h) (Or.inl ⟨by rfl, ?_⟩) hHeld ?_
                rotate_left
                · intro w hSw; (try dsimp only at hSw); go_simp; all_goals (with_reducible rfl)
                try simp only [Act.put, List.setIfInBounds_toArray, List.set_cons_zero, List.set_cons_succ]
                refine wpAnyH_take (i := 4) (oi := ⟨some 191, _, _, _, _, _⟩) (v := ?_) rfl (by kernel_rfl) (by kernel_rfl) (by kernel_rfl) (fun _ _ _ h => h) (Or.inl ⟨by rfl, ?_⟩) hHeld ?_
                rotate_left
                · intro w hSw; (try dsimp only at hSw); go_simp; all_goals (with_reducible rfl)
                try simp only [Act.put, List.setIfInBounds_toArray, List.set_cons_zero, List.set_cons_succ]
                refine wpAnyH_take (i := 5) (oi := ⟨some 192, _, _, _, _, _⟩) (v := ?_) rfl (by kernel_rfl) (by kernel_rfl) (by kernel_rfl) (fun _ _ _ h => h) (Or.inl ⟨by rfl, ?_⟩) hHeld ?_
                rotate_left
                · intro w hSw; (try dsimp only at hSw); go_simp; all_goals (with_reducible rfl)
                try simp only [Act.put, List.setIfInBounds_toArray, List.set_cons_zero, List.set_cons_succ]
                refine wpAnyH_take (i := 6) (oi := ⟨some 193, _, _, _, _, _⟩) (v := ?_) rfl (by kernel_rfl) (by kernel_rfl) (by kernel_rfl) (fun _ _ _ h => h) (Or.inl ⟨by rfl, ?_⟩) hHeld ?_
                rotate_left
                · intro w hSw; (try dsimp only at hSw); go_simp; all_goals (with_reducible rfl)
                try simp only [Act.put, List.setIfInBounds_toArray, List.set_cons_zero, List.set_cons_succ]
                refine wpAnyH_take (i := 7) (oi := ⟨some 194, _, _, _, _, _⟩) (v := ?_) rfl (by kernel_rfl) (by kernel_rfl) (by kernel_rfl) (fun _ _ _ h => h) (Or.inl ⟨by rfl, ?_⟩) hHeld ?_
                rotate_left
                · intro w hSw; (try dsimp only at hSw); go_simp; all_goals (with_reducible rfl)
                try simp only [Act.put, List.setIfInBounds_toArray, List.set_cons_zero, List.set_cons_succ]
                refine wpAnyH_take (i := 8) (oi := ⟨some 195, _, _, _, _, _⟩) (v := ?_) rfl (by kernel_rfl) (by kernel_rfl) (by kernel_rfl) (fun _ _ _ h => h) (Or.inl ⟨by rfl, ?_⟩) hHeld ?_
                rotate_left
                · intro w hSw; (try dsimp only at hSw); go_simp; all_goals (with_reducible rfl)
                try simp only [Act.put, List.setIfInBounds_toArray, List.set_cons_zero, List.set_cons_succ]
                refine wpAnyH_take (i := 9) (oi := ⟨some 196, _, _, _, _, _⟩) (v := ?_) rfl (by kernel_rfl) (by kernel_rfl) (by kernel_rfl) (fun _ _ _ h => h) (Or.inl ⟨by rfl, ?_⟩) hHeld ?_
                rotate_left
                · intro w hSw; (try dsimp only at hSw); go_simp; all_goals (with_reducible rfl)
                try simp only [Act.put, List.setIfInBounds_toArray, List.set_cons_zero, List.set_cons_succ]
                refine wpAnyH_take (i := 10) (oi := ⟨some 197, _, _, _, _, _⟩) (v := ?_) rfl (by kernel_rfl) (by kernel_rfl) (by kernel_rfl) (fun _ _ _ h => h) (Or.inl ⟨by rfl, ?_⟩) hHeld ?_
                rotate_left
                · intro w hSw; (try dsimp only at hSw); go_simp; all_goals (with_reducible rfl)
                try simp only [Act.put, List.setIfInBounds_toArray, List.set_cons_zero, List.set_cons_succ]
                refine wpAnyH_ready (rs := [11]) (by kernel_rfl) (by simp) ?_
                refine AllReadyH.cons (o := ⟨some 198, _, _, _, _, _⟩) rfl (fun K hK => ?_) AllReadyH.nil
                go_simp
                refine (keys_walk (l := D) (ca := pc) (by have := HDO.out.2; omega) (HQL.out.below hHeld)).mono ?_
                rintro e w26 ⟨v26, rfl, hr26, hB26⟩
                have HB26 : Hid (Below w25.heap.size w25 w26) := below_trans hHeld hB26
                have HR26 := hidH (keys_row hr26)
                clear hr26 hB26
                refine hK.out _ _ ?_ (fun hHeld => ?_)
                · exact HB26.out
                clear hK K
                try simp only [Act.put, List.setIfInBounds_toArray, List.set_cons_zero, List.set_cons_succ]
                refine wpAnyH_ready (rs := [12]) (by kernel_rfl) (by simp) ?_
                refine AllReadyH.cons (o := ⟨some 199, _, _, _, _, _⟩) rfl (fun K hK => ?_) AllReadyH.nil
                go_simp
                refine (keys_ok17 (own_belowC HTQ25.out HB26.out) (by rw [HQQ.out]; exact HR26.out) HQL2.out).mono ?_
                rintro e w27 ⟨rfl, hB27⟩
                have HB27 : Hid (Below w25.heap.size w25 w27) := below_trans HB26.out hB27
                clear hB27
                refine hK.out _ _ ?_ (fun hHeld => ?_)
                · exact HB27.out
                clear hK K
                try simp only [Act.put, List.setIfInBounds_toArray, List.set_cons_zero, List.set_cons_succ]
                refine wpAnyH_take (i := 13) (oi := ⟨some 200, _, _, _, _, _⟩) (v := ?_) rfl (by kernel_rfl) (by kernel_rfl) (by kernel_rfl) (fun _ _ _ h => h) (Or.inl ⟨by rfl, ?_⟩) hHeld ?_
                rotate_left
                · intro w hSw; (try dsimp only at hSw); go_simp; all_goals (with_reducible rfl)
                try simp only [Act.put, List.setIfInBounds_toArray, List.set_cons_zero, List.set_cons_succ]
                refine wpAnyH_take (i := 14) (oi := ⟨some 201, _, _, _, _, _⟩) (v := ?_) rfl (by kernel_rfl) (by kernel_rfl) (by kernel_rfl) (fun _ _ _ h => h) (Or.inl ⟨by rfl, ?_⟩) hHeld ?_
                rotate_left
                · intro w hSw; (try dsimp only at hSw); go_simp; all_goals (with_reducible rfl)
                try simp only [Act.put, List.setIfInBounds_toArray, List.set_cons_zero, List.set_cons_succ]
                refine wpAnyH_done (by kernel_rfl) ?_ _
                refine NoPanic.normal ?_
                have HS27 : Hid (Sz w1.heap.size K23 w27 sb S2 P b ov p L23 [h37 p S f true (List.replicate p.n false)] (Kd w1.heap.size X p (.slice oa p.l.length oc) va vc f ta tc E g2 T K13 lo13 (.slice (some ⟨bg, 0, none⟩) p.n bc) M13)) := HS25.out.below HB27.out
                have HA27 : Hid (AllK K23 w27 u22 (lowT p T k)) := HA25.out.ch (D := fun _ => False) (fun _ _ e => e) (Ch.of_below HB27.out)
                have HQL27 : Hid (Ql w27 pa D) := HQL.out.below HB27.out
                have HPV : Hid (∀ wx, Below w27.heap.size w27 wx → Qv wx (.slice pa D.length pc) D) := fun wx hb => own_qv (own_belowC (own_belowC HTP25.out HB27.out) hb) HDO.out.1
                have HRA27 : Hid (MX w27 RA ⟨6, 1, 1 + p.W + (k : Int), 3, 7, 0, [], [], D⟩ (.slice ea 0 ec) (.slice qa 0 qc) (.slice pa D.length pc)) := HRA.out.keep HB27.out
                have HW27 : Hid (Below w1.heap.size w1 w27) := HW25.out.trans (HB27.out.mono HW25.out.size)
                clear rb7 ra8 HQL2 HRB25 HRA HS25 HA25 HTQ25 HTP25 HQL HW25 HB27
                go_wp2_with fail
                go_loopw [29] (fun iv wr => ∃ i : Nat, iv = .int .i64 i ∧ i ≤ D.length ∧ Below w27.heap.size w27 wr) (fun iv _ => D.length - (intOf iv).toNat)
                case atStart => exact ⟨0, rfl, Nat.zero_le _, below_same _⟩
                case round =>
                  obtain ⟨i, rfl, hin, hb⟩ := hrel
                  obtain ⟨wl, hwl⟩ : ∃ wl, wl = wr := ⟨_, rfl⟩
                  subst hwl
                  have HBl : Hid (Below w27.heap.size w27 wl) := hb
                  have r8 : wl.cell? ⟨RA, 8, none⟩ = some (.slice pa D.length pc) := (HRA27.out.keep hb).c8
                  by_cases hlt : i < D.length
                  · have hlti : (i : Int) < (D.length : Int) := by omega
                    have HIL : Hid (i < D.length) := hlt
                    obtain ⟨pb, po, hpa, p0, p1, p2⟩ := HQL27.out.below hb i hlt
                    obtain ⟨o, hoe⟩ : ∃ o, o = D[i]'hlt := ⟨_, rfl⟩
                    rw [← hoe] at p0 p1 p2
                    have hmem : o ∈ D := by rw [hoe]; exact List.getElem_mem hlt
                    have HOO : Hid (o.ok) := HDO.out.1 o hmem
                    have HDM : Hid (p.store o.k = 1 + p.W + (k : Int) ∧ fitV p.A o.v = o.v) := by
                      refine deal_mem (t := T) HP.out HTR.out HTF.out ?_
                      rw [← HDD.out]; exact hmem
                    have hbx := (HS27.out.below hb).ph.c.b.a.x
                    have HX : Hid (∀ wx, Below wl.heap.size wl wx → Bx wx X p (.slice oa p.l.length oc)) := hbx.all (cell_lt hbx.c0)
                    have z0 : ∀ wx, Below wl.heap.size wl wx → wx.cell? ⟨X, 0, none⟩ = some (.int .i64 p.P) := fun wx h => (HX.out wx h).c0
                    have z1 : ∀ wx, Below wl.heap.size wl wx → wx.cell? ⟨X, 1, none⟩ = some (.int .i64 p.S) := fun wx h => (HX.out wx h).c1
                    have z2 : ∀ wx, Below wl.heap.size wl wx → wx.cell? ⟨X, 2, none⟩ = some (.int .i64 p.W) := fun wx h => (HX.out wx h).c2
                    have z3 : ∀ wx, Below wl.heap.size wl wx → wx.cell? ⟨X, 3, none⟩ = some (.slice oa p.l.length oc) := fun wx h => (HX.out wx h).c3
                    have z4 : ∀ wx, Below wl.heap.size wl wx → wx.cell? ⟨X, 4, none⟩ = some (.int .i64 p.A) := fun wx h => (HX.out wx h).c4
                    have z5 : ∀ wx, Below wl.heap.size wl wx → wx.cell? ⟨X, 5, none⟩ = some (.int .i64 p.B) := fun wx h => (HX.out wx h).c5
                    have z6 : ∀ wx, Below wl.heap.size wl wx → wx.cell? ⟨X, 6, none⟩ = some (.int .i64 p.N) := fun wx h => (HX.out wx h).c6
                    have z7 : ∀ wx, Below wl.heap.size wl wx → wx.cell? ⟨X, 7, none⟩ = some (.int .i64 p.G) := fun wx h => (HX.out wx h).c7
                    have y8 : ∀ wx, Below wl.heap.size wl wx → wx.cell? ⟨RA, 8, none⟩ = some (.slice (some ⟨pb, po, none⟩) D.length pc) := fun wx h => by rw [← hpa]; exact ((HRA27.out.keep hb).keep h).c8
                    have v0 : ∀ wx, Below wl.heap.size wl wx → wx.cell? ⟨pb, po + i * 3, none⟩ = some (.int .u64 o.k) := fun wx h => by rw [h.cell (p := ⟨pb, po + i * 3, none⟩) (cell_lt p0)]; exact p0
                    have v1 : ∀ wx, Below wl.heap.size wl wx → wx.cell? ⟨pb, po + i * 3 + 1, none⟩ = some (.bool o.v.h) := fun wx h => by rw [h.cell (p := ⟨pb, po + i * 3 + 1, none⟩) (cell_lt p1)]; exact p1
                    have v2 : ∀ wx, Below wl.heap.size wl wx → wx.cell? ⟨pb, po + i * 3 + 2, none⟩ = some (.int .u64 o.v.b) := fun wx h => by rw [h.cell (p := ⟨pb, po + i * 3 + 2, none⟩) (cell_lt p2)]; exact p2
                    have hn := neq_val o.v
                    have hgd := guard_val
                    have hnn : ((1 + p.W + (k : Int)) != (1 + p.W + (k : Int))) = false := by simp
                    have HOl : Hid (Ov wl (.slice oa p.l.length oc) p.l) := HO.out.below (HB1.out.trans ((HW27.out.trans (hb.mono HW27.out.size)).mono HB1.out.size))
                    subst hpa
                    clear hb hlt hoe hmem hbx p0 p1 p2
                    go_upto_region 42 with fail
                    clear r8
                    refine wp_region_noPanic ?_
                    refine wp_region_held_drew (S := (fun wx => Below wl.heap.size wl wx)) (by kernel_rfl) ?_ (fun hHeld => ?_)
                    · exact (below_drewN wl 1)
                    refine wpAnyH_take (i := 0) (oi := ⟨some 209, _, _, _, _, _⟩) (v := ?_) rfl (by kernel_rfl) (by kernel_rfl) (by kernel_rfl) (fun _ _ _ h => h) (Or.inl ⟨by rfl, ?_⟩) hHeld ?_
                    rotate_left
                    · intro w hSw; (try dsimp only at hSw); go_simp; all_goals (with_reducible rfl)
                    try simp only [Act.put, List.setIfInBounds_toArray, List.set_cons_zero, List.set_cons_succ]
                    refine wpAnyH_take (i := 1) (oi := ⟨some 210, _, _, _, _, _⟩) (v := ?_) rfl (by kernel_rfl) (by kernel_rfl) (by kernel_rfl) (fun _ _ _ h => h) (Or.inl ⟨by rfl, ?_⟩) hHeld ?_
                    rotate_left
                    · intro w hSw; (try dsimp only at hSw); go_simp; all_goals (with_reducible rfl)
                    try simp only [Act.put, List.setIfInBounds_toArray, List.set_cons_zero, List.set_cons_succ]
                    refine wpAnyH_take (i := 2) (oi := ⟨some 211, _, _, _, _, _⟩) (v := ?_) rfl (by kernel_rfl) (by kernel_rfl) (by kernel_rfl) (fun _ _ _ h => h) (Or.inl ⟨by rfl, ?_⟩) hHeld ?_
                    rotate_left
                    · intro w hSw; (try dsimp only at hSw); go_simp; all_goals (with_reducible rfl)
                    try simp only [Act.put, List.setIfInBounds_toArray, List.set_cons_zero, List.set_cons_succ]
                    refine wpAnyH_take (i := 3) (oi := ⟨some 212, _, _, _, _, _⟩) (v := ?_) rfl (by kernel_rfl) (by kernel_rfl) (by kernel_rfl) (fun _ _ _ h => h) (Or.inl ⟨by rfl, ?_⟩) hHeld ?_
                    rotate_left
                    · intro w hSw; (try dsimp only at hSw); go_simp; all_goals (with_reducible rfl)
                    try simp only [Act.put, List.setIfInBounds_toArray, List.set_cons_zero, List.set_cons_succ]
                    refine wpAnyH_take (i := 4) (oi := ⟨some 213, _, _, _, _, _⟩) (v := ?_) rfl (by kernel_rfl) (by kernel_rfl) (by kernel_rfl) (fun _ _ _ h => h) (Or.inl ⟨by rfl, ?_⟩) hHeld ?_
                    rotate_left
                    · intro w hSw; (try dsimp only at hSw); go_simp; all_goals (with_reducible rfl)
                    try simp only [Act.put, List.setIfInBounds_toArray, List.set_cons_zero, List.set_cons_succ]
                    refine wpAnyH_take (i := 5) (oi := ⟨some 214, _, _, _, _, _⟩) (v := ?_) rfl (by kernel_rfl) (by kernel_rfl) (by kernel_rfl) (fun _ _ _ h => h) (Or.inl ⟨by rfl, ?_⟩) hHeld ?_
                    rotate_left
                    · intro w hSw; (try dsimp only at hSw); go_simp; all_goals (with_reducible rfl)
                    try simp only [Act.put, List.setIfInBounds_toArray, List.set_cons_zero, List.set_cons_succ]
                    refine wpAnyH_take (i := 6) (oi := ⟨some 215, _, _, _, _, _⟩) (v := ?_) rfl (by kernel_rfl) (by kernel_rfl) (by kernel_rfl) (fun _ _ _ h => h) (Or.inl ⟨by rfl, ?_⟩) hHeld ?_
                    rotate_left
                    · intro w hSw; (try dsimp only at hSw); go_simp; all_goals (with_reducible rfl)
                    try simp only [Act.put, List.setIfInBounds_toArray, List.set_cons_zero, List.set_cons_succ]
                    refine wpAnyH_take (i := 8) (oi := ⟨some 217, _, _, _, _, _⟩) (v := ?_) rfl (by kernel_rfl) (by kernel_rfl) (by kernel_rfl) (fun _ _ _ h => h) (Or.inl ⟨by rfl, ?_⟩) hHeld ?_
                    rotate_left
                    · intro w hSw; (try dsimp only at hSw); go_simp; all_goals (with_reducible rfl)
                    try simp only [Act.put, List.setIfInBounds_toArray, List.set_cons_zero, List.set_cons_succ]
                    refine wpAnyH_ready (rs := [7]) (by kernel_rfl) (by simp) ?_
                    refine AllReadyH.cons (o := ⟨some 216, _, _, _, _, _⟩) rfl (fun K hK => ?_) AllReadyH.nil
                    go_simp
                    refine (store_walk (p := p) o.k HOO.out.1 (HOl.out.below hHeld)).mono ?_
                    rw [HDM.out.1]
                    rintro e w29 ⟨rfl, hB29⟩
                    have HB29 : Hid (Below wl.heap.size wl w29) := below_trans hHeld hB29
                    clear hB29
                    refine hK.out _ _ ?_ (fun hHeld => ?_)
                    · exact HB29.out
                    clear hK K
                    try simp only [Act.put, List.setIfInBounds_toArray, List.set_cons_zero, List.set_cons_succ]
                    refine wpAnyH_take (i := 9) (oi := ⟨some 218, _, _, _, _, _⟩) (v := ?_) rfl (by kernel_rfl) (by kernel_rfl) (by kernel_rfl) (fun _ _ _ h => h) (Or.inl ⟨by rfl, ?_⟩) hHeld ?_
                    rotate_left
                    · intro w hSw; (try dsimp only at hSw); go_simp; all_goals (with_reducible rfl)
                    try simp only [Act.put, List.setIfInBounds_toArray, List.set_cons_zero, List.set_cons_succ]
                    refine wpAnyH_take (i := 10) (oi := ⟨some 219, _, _, _, _, _⟩) (v := ?_) rfl (by kernel_rfl) (by kernel_rfl) (by kernel_rfl) (fun _ _ _ h => h) (Or.inl ⟨by rfl, ?_⟩) hHeld ?_
                    rotate_left
                    · intro w hSw; (try dsimp only at hSw); go_simp; all_goals (with_reducible rfl)
                    try simp only [Act.put, List.setIfInBounds_toArray, List.set_cons_zero, List.set_cons_succ]
                    refine wpAnyH_take (i := 11) (oi := ⟨some 220, _, _, _, _, _⟩) (v := ?_) rfl (by kernel_rfl) (by kernel_rfl) (by kernel_rfl) (fun _ _ _ h => h) (Or.inl ⟨by rfl, ?_⟩) hHeld ?_
                    rotate_left
                    · intro w hSw; (try dsimp only at hSw); go_simp; all_goals (with_reducible rfl)
                    try simp only [Act.put, List.setIfInBounds_toArray, List.set_cons_zero, List.set_cons_succ]
                    refine wpAnyH_take (i := 12) (oi := ⟨some 221, _, _, _, _, _⟩) (v := ?_) rfl (by kernel_rfl) (by kernel_rfl) (by kernel_rfl) (fun _ _ _ h => h) (Or.inl ⟨by rfl, ?_⟩) hHeld ?_
                    rotate_left
                    · intro w hSw; (try dsimp only at hSw); go_simp; all_goals (with_reducible rfl)
                    try simp only [Act.put, List.setIfInBounds_toArray, List.set_cons_zero, List.set_cons_succ]
                    refine wpAnyH_take (i := 13) (oi := ⟨some 222, _, _, _, _, _⟩) (v := ?_) rfl (by kernel_rfl) (by kernel_rfl) (by kernel_rfl) (fun _ _ _ h => h) (Or.inl ⟨by rfl, ?_⟩) hHeld ?_
                    rotate_left
                    · intro w hSw; (try dsimp only at hSw); go_simp; all_goals (with_reducible rfl)
                    try simp only [Act.put, List.setIfInBounds_toArray, List.set_cons_zero, List.set_cons_succ]
                    refine wpAnyH_take (i := 14) (oi := ⟨some 223, _, _, _, _, _⟩) (v := ?_) rfl (by kernel_rfl) (by kernel_rfl) (by kernel_rfl) (fun _ _ _ h => h) (Or.inl ⟨by rfl, ?_⟩) hHeld ?_
                    rotate_left
                    · intro w hSw; (try dsimp only at hSw); go_simp; all_goals (with_reducible rfl)
                    try simp only [Act.put, List.setIfInBounds_toArray, List.set_cons_zero, List.set_cons_succ]
                    refine wpAnyH_take (i := 15) (oi := ⟨some 224, _, _, _, _, _⟩) (v := ?_) rfl (by kernel_rfl) (by kernel_rfl) (by kernel_rfl) (fun _ _ _ h => h) (Or.inl ⟨by rfl, ?_⟩) hHeld ?_
                    rotate_left
                    · intro w hSw; (try dsimp only at hSw); go_simp; all_goals (with_reducible rfl)
                    try simp only [Act.put, List.setIfInBounds_toArray, List.set_cons_zero, List.set_cons_succ]
                    refine wpAnyH_take (i := 16) (oi := ⟨some 225, _, _, _, _, _⟩) (v := ?_) rfl (by kernel_rfl) (by kernel_rfl) (by kernel_rfl) (fun _ _ _ h => h) (Or.inl ⟨by rfl, ?_⟩) hHeld ?_
                    rotate_left
                    · intro w hSw; (try dsimp only at hSw); go_simp; all_goals (with_reducible rfl)
                    try simp only [Act.put, List.setIfInBounds_toArray, List.set_cons_zero, List.set_cons_succ]
                    refine wpAnyH_take (i := 17) (oi := ⟨some 226, _, _, _, _, _⟩) (v := ?_) rfl (by kernel_rfl) (by kernel_rfl) (by kernel_rfl) (fun _ _ _ h => h) (Or.inl ⟨by rfl, ?_⟩) hHeld ?_
                    rotate_left
                    · intro w hSw; (try dsimp only at hSw); go_simp; all_goals (with_reducible rfl)
                    try simp only [Act.put, List.setIfInBounds_toArray, List.set_cons_zero, List.set_cons_succ]
                    refine wpAnyH_take (i := 18) (oi := ⟨some 227, _, _, _, _, _⟩) (v := ?_) rfl (by kernel_rfl) (by kernel_rfl) (by kernel_rfl) (fun _ _ _ h => h) (Or.inl ⟨by rfl, ?_⟩) hHeld ?_
                    rotate_left
                    · intro w hSw; (try dsimp only at hSw); go_simp; all_goals (with_reducible rfl)
                    try simp only [Act.put, List.setIfInBounds_toArray, List.set_cons_zero, List.set_cons_succ]
                    refine wpAnyH_take (i := 20) (oi := ⟨some 229, _, _, _, _, _⟩) (v := ?_) rfl (by kernel_rfl) (by kernel_rfl) (by kernel_rfl) (fun _ _ _ h => h) (Or.inl ⟨by rfl, ?_⟩) hHeld ?_
                    rotate_left
                    · intro w hSw; (try dsimp only at hSw); go_simp; all_goals (with_reducible rfl)
                    try simp only [Act.put, List.setIfInBounds_toArray, List.set_cons_zero, List.set_cons_succ]
                    refine wpAnyH_take (i := 21) (oi := ⟨some 230, _, _, _, _, _⟩) (v := ?_) rfl (by kernel_rfl) (by kernel_rfl) (by kernel_rfl) (fun _ _ _ h => h) (Or.inl ⟨by rfl, ?_⟩) hHeld ?_
                    rotate_left
                    · intro w hSw; (try dsimp only at hSw); go_simp; all_goals (with_reducible rfl)
                    try simp only [Act.put, List.setIfInBounds_toArray, List.set_cons_zero, List.set_cons_succ]
                    refine wpAnyH_take (i := 22) (oi := ⟨some 231, _, _, _, _, _⟩) (v := ?_) rfl (by kernel_rfl) (by kernel_rfl) (by kernel_rfl) (fun _ _ _ h => h) (Or.inl ⟨by rfl, ?_⟩) hHeld ?_
                    rotate_left
                    · intro w hSw; (try dsimp only at hSw); go_simp; all_goals (with_reducible rfl)
                    try simp only [Act.put, List.setIfInBounds_toArray, List.set_cons_zero, List.set_cons_succ]
                    refine wpAnyH_take (i := 23) (oi := ⟨some 232, _, _, _, _, _⟩) (v := ?_) rfl (by kernel_rfl) (by kernel_rfl) (by kernel_rfl) (fun _ _ _ h => h) (Or.inl ⟨by rfl, ?_⟩) hHeld ?_
                    rotate_left
                    · intro w hSw; (try dsimp only at hSw); go_simp; all_goals (with_reducible rfl)
                    try simp only [Act.put, List.setIfInBounds_toArray, List.set_cons_zero, List.set_cons_succ]
                    refine wpAnyH_take (i := 24) (oi := ⟨some 233, _, _, _, _, _⟩) (v := ?_) rfl (by kernel_rfl) (by kernel_rfl) (by kernel_rfl) (fun _ _ _ h => h) (Or.inl ⟨by rfl, ?_⟩) hHeld ?_
                    rotate_left
                    · intro w hSw; (try dsimp only at hSw); go_simp; all_goals (with_reducible rfl)
                    try simp only [Act.put, List.setIfInBounds_toArray, List.set_cons_zero, List.set_cons_succ]
                    refine wpAnyH_take (i := 25) (oi := ⟨some 234, _, _, _, _, _⟩) (v := ?_) rfl (by kernel_rfl) (by kernel_rfl) (by kernel_rfl) (fun _ _ _ h => h) (Or.inl ⟨by rfl, ?_⟩) hHeld ?_
                    rotate_left
                    · intro w hSw; (try dsimp only at hSw); go_simp; all_goals (with_reducible rfl)
                    try simp only [Act.put, List.setIfInBounds_toArray, List.set_cons_zero, List.set_cons_succ]
                    refine wpAnyH_ready (rs := [19]) (by kernel_rfl) (by simp) ?_
                    refine AllReadyH.cons (o := ⟨some 228, _, _, _, _, _⟩) rfl (fun K hK => ?_) AllReadyH.nil
                    go_simp
                    refine (fit_walk p.A (v := o.v) HOO.out.2 _).mono ?_
                    rw [HDM.out.2]
                    rintro e w30 ⟨rfl, hB30⟩
                    have HB30 : Hid (Below wl.heap.size wl w30) := below_trans hHeld hB30
                    clear hB30
                    refine hK.out _ _ ?_ (fun hHeld => ?_)
                    · exact HB30.out
                    clear hK K
                    try simp only [Act.put, List.setIfInBounds_toArray, List.set_cons_zero, List.set_cons_succ]
                    refine wpAnyH_take (i := 26) (oi := ⟨some 235, _, _, _, _, _⟩) (v := ?_) rfl (by kernel_rfl) (by kernel_rfl) (by kernel_rfl) (fun _ _ _ h => h) (Or.inl ⟨by rfl, ?_⟩) hHeld ?_
                    rotate_left
                    · intro w hSw; (try dsimp only at hSw); go_simp; all_goals (with_reducible rfl)
                    try simp only [Act.put, List.setIfInBounds_toArray, List.set_cons_zero, List.set_cons_succ]
                    refine wpAnyH_take (i := 27) (oi := ⟨some 236, _, _, _, _, _⟩) (v := ?_) rfl (by kernel_rfl) (by kernel_rfl) (by kernel_rfl) (fun _ _ _ h => h) (Or.inl ⟨by rfl, ?_⟩) hHeld ?_
                    rotate_left
                    · intro w hSw; (try dsimp only at hSw); go_simp; all_goals (with_reducible rfl)
                    try simp only [Act.put, List.setIfInBounds_toArray, List.set_cons_zero, List.set_cons_succ]
                    refine wpAnyH_done (by kernel_rfl) ?_ _
                    refine NoPanic.normal ?_
                    clear z0 z1 z2 z3 z4 z5 z6 z7 y8 v0 v1 v2 hn hgd hnn
                    have hil := HIL.out
                    have hdl := HDO.out.2
                    go_wp2_with fail
                    go_roundw
                    case rel => exact ⟨i + 1, by go_num, HIL.out, HBl.out.trans (HB30.out.mono HBl.out.size)⟩
                    case measure => simp [intOf]; omega
                  have hlti : ¬ (i : Int) < (D.length : Int) := by omega
                  have HSl : Hid (Sz w1.heap.size K23 wl sb S2 P b ov p L23 [h37 p S f true (List.replicate p.n false)] (Kd w1.heap.size X p (.slice oa p.l.length oc) va vc f ta tc E g2 T K13 lo13 (.slice (some ⟨bg, 0, none⟩) p.n bc) M13)) := HS27.out.below hb
                  have HAl : Hid (AllK K23 wl u22 (lowT p T k)) := HA27.out.ch (D := fun _ => False) (fun _ _ e => e) (Ch.of_below hb)
                  have HQl : Hid (Ql wl pa D) := HQL27.out.below hb
                  have HWl : Hid (Below w1.heap.size w1 wl) := HW27.out.trans (hb.mono HW27.out.size)
                  have z4 := HSl.out.ph.c.b.a.x.c4
                  have HQV : Hid (Qv wl (.slice pa D.length pc) D) := HPV.out wl HBl.out
                  clear hb hlt
                  go_upto_region 44 with fail
                  go_wp2_with fail
                  refine (add_good (kind := p.A) (a := lowT p T k) (b := D) (HAl.out.qv (ok_low HTO.out k) (by have := low_len p T k; have := HTL.out; simp only [maxLen]; omega)) HQV.out (Pn.is_kn HP.out).2 (tab_iff.2 ⟨rise_low HTR.out k, has_low HTH.out k⟩) (by rw [HDD.out]; exact tab_iff.2 ⟨rise_deal HTR.out k, has_deal HTH.out k⟩) (by have h1 := low_len p T k; have h2 := HTL.out; have h3 := HDO.out.2; omega)).mono ?_
                  rintro e w31 ⟨g31, rfl, hmq, hg1, hg2, hB⟩
                  have hlow : addT p.A (lowT p T k) D = lowT p T (k + 1) := by rw [HDD.out]; exact low_step (Pn.is_kn HP.out).2 HTR.out HTH.out HTO.out HTF.out k
                  rw [hlow] at hmq ⊢
                  obtain ⟨K31, hK31⟩ : ∃ K31 : Nat → Prop, K31 = fun z => K23 z ∨ (wl.heap.size ≤ z ∧ z < w31.heap.size) := ⟨_, rfl⟩
                  have HS31 : Hid (Sz w1.heap.size K31 w31 sb S2 P b ov p L23 [h37 p S f true (List.replicate p.n false)] (Kd w1.heap.size X p (.slice oa p.l.length oc) va vc f ta tc E g2 T K13 lo13 (.slice (some ⟨bg, 0, none⟩) p.n bc) M13)) := by
                    have h := HSl.out.more hB (G := fun _ => True) trivial (fun _ _ _ _ _ _ => trivial)
                    rw [hK31]
                    exact h.less h.ph.1 (fun D u u' hu hd hc => (h.st D u u' ⟨hu, trivial⟩ hd hc).1)
                  have HA31 : Hid (AllK K31 w31 (.slice (some ⟨g31, 0, none⟩) (lowT p T (k + 1)).length (lowT p T (k + 1)).length) (lowT p T (k + 1))) := .inr ⟨g31, rfl, hmq, by rw [hK31]; exact .inr ⟨hg1, hg2⟩⟩
                  have HKE : Hid (∀ x, K13 x → K31 x) := fun x hx => by rw [hK31]; exact .inl (HKC.out x hx)
                  have HW31 : Hid (Below w1.heap.size w1 w31) := HWl.out.trans (hB.mono HWl.out.size)
                  clear hlow hmq hg1 hg2 hB hK31 z4 HSl HAl HQl HWl HQV
                  go_wp2_with fail
                  go_roundw
                  case rel => exact ⟨k + 1, K31, L23, by go_num, HLT.out, HKE.out, HS31.out, HA31.out, HW31.out⟩
                  case measure => have := HLT.out; simp [intOf]; omega
              have hlti : ¬ (k : Int) < (p.n : Int) := by omega
              have hkp : k = p.n := by omega
              have HAe : Hid (AllK K' wr u22 T) := by have h := HAk.out; rw [hkp, low_all HP.out] at h; exact h
              clear hlt hkp
              go_wp2_with fail
              refine (pairs_ok17 (HAe.out.qv HTO.out (by have := HTL.out; simp only [maxLen]; omega)) (mq_qvT HSk.out.ph.c.t HTO.out (by have := HTL.out; simp only [maxLen]; omega))).mono ?_
              rintro e w40 ⟨rfl, hB⟩
              have HW40 : Hid (Below w1.heap.size w1 w40) := HWk.out.trans (hB.mono HWk.out.size)
              clear hB
              go_wp2_with fail
              go_ret
              exact ⟨rfl, HB1.out.trans (HW40.out.mono HB1.out.size)⟩
end Go.Proofs.YtopjedgknbbgkaaGreat
