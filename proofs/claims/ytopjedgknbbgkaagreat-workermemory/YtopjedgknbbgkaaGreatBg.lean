/- WorkerMemory: the walk. -/
import Derived.Test.YtopjedgknbbgkaaGreatBf
namespace Go.Proofs.YtopjedgknbbgkaaGreat

open Go.RowKit



attribute [local go_sem] run_store_float
set_option maxRecDepth 100000 in
set_option maxHeartbeats 8000000 in
theorem workermemory_walk {w : World} {p : Pn} {oa ra fa : Option Addr} {oc rc fc : Nat} {recs : List Rcd} {off : Int} {fr : List Int} (ho : Ov w (.slice oa p.l.length oc) p.l) (hr : Rv w (.slice ra recs.length rc) recs) (hf : Nv w (.slice fa fr.length fc) fr) (hl : p.l.length * 24 ≤ 140737488355328) :
    Calls Tryz.prog 4 #[.agg #[.int .i64 p.P, .int .i64 p.S, .int .i64 p.W, .slice oa p.l.length oc, .int .i64 p.A, .int .i64 p.B, .int .i64 p.N, .int .i64 p.G, .slice ra recs.length rc, .int .i64 off, .slice fa fr.length fc]] w fun e w' => e = .returned (.bool true) ∧ Below w.heap.size w w' := by
  have HO : Hid (Ov w (.slice oa p.l.length oc) p.l) := ho
  have HRV : Hid (Rv w (.slice ra recs.length rc) recs) := hr
  have HFV : Hid (Nv w (.slice fa fr.length fc) fr) := hf
  have HLL : Hid (p.l.length * 24 ≤ 140737488355328) := hl
  have HC0 : Hid _ := cb_new w p (.slice oa p.l.length oc) (.slice ra recs.length rc) off (.slice fa fr.length fc)
  have HZC : Hid (∀ j, World.frozen? _ ⟨w.heap.size, j, none⟩ = false) := fun j => cb_soft (w := w) p (.slice oa p.l.length oc) (.slice ra recs.length rc) (.slice fa fr.length fc) off j
  have HB0 : Hid _ := below_alloc w (Obj.cells #[.int .i64 p.P, .int .i64 p.S, .int .i64 p.W, .slice oa p.l.length oc, .int .i64 p.A, .int .i64 p.B, .int .i64 p.N, .int .i64 p.G, .slice ra recs.length rc, .int .i64 off, .slice fa fr.length fc] 28)
  clear ho hr hf hl
  go_enter Tryz.func4, Tryz.ntmps4
  go_upto_region 1 with fail
  obtain ⟨C, hC⟩ : ∃ C, C = w.heap.size := ⟨_, rfl⟩
  have HCD : Hid (C = w.heap.size) := hC
  rw [← hC] at HC0 HZC ⊢
  clear hC
  generalize w.alloc (Obj.cells #[.int .i64 p.P, .int .i64 p.S, .int .i64 p.W, .slice oa p.l.length oc, .int .i64 p.A, .int .i64 p.B, .int .i64 p.N, .int .i64 p.G, .slice ra recs.length rc, .int .i64 off, .slice fa fr.length fc] 28) = wa at HC0 HB0 HZC ⊢
  go_wp2_with fail
  refine (awake_walk wa).mono ?_
  rintro e w1 ⟨rfl, hB1⟩
  have HC1 : Hid _ := HC0.out.keep hB1
  have HZ1 : Hid (∀ j, w1.frozen? ⟨C, j, none⟩ = false) := fun j => by have hl : C < wa.heap.size := cell_lt HC0.out.b.c0; rw [hB1.frozen (p := ⟨C, j, none⟩) hl]; exact HZC.out j
  have HB1 : Hid (Below w.heap.size w w1) := below_trans HB0.out hB1
  clear hB1 HC0 HB0 HZC
  have c0 := HC1.out.b.c0
  have c1 := HC1.out.b.c1
  have c2 := HC1.out.b.c2
  have c3 := HC1.out.b.c3
  have c4 := HC1.out.b.c4
  have c5 := HC1.out.b.c5
  have c6 := HC1.out.b.c6
  have c7 := HC1.out.b.c7
  go_upto_region 4 with fail
  clear c0 c1 c2 c3 c4 c5 c6 c7
  have HX2 : Hid (Bx _ w1.heap.size p (.slice oa p.l.length oc)) := box_new w1 p (.slice oa p.l.length oc)
  have HZX : Hid (∀ j, World.frozen? _ ⟨w1.heap.size, j, none⟩ = false) := fun j => bx_soft (w := w1) p (.slice oa p.l.length oc) j
  have HB12 : Hid _ := below_alloc w1 (Obj.cells #[.int .i64 p.P, .int .i64 p.S, .int .i64 p.W, .slice oa p.l.length oc, .int .i64 p.A, .int .i64 p.B, .int .i64 p.N, .int .i64 p.G] 24)
  have HXS : Hid (w1.heap.size < (w1.alloc (Obj.cells #[.int .i64 p.P, .int .i64 p.S, .int .i64 p.W, .slice oa p.l.length oc, .int .i64 p.A, .int .i64 p.B, .int .i64 p.N, .int .i64 p.G] 24)).heap.size) := by show _ < _; rw [size_allocC]; omega
  obtain ⟨X, hX⟩ : ∃ X, X = w1.heap.size := ⟨_, rfl⟩
  have HXX : Hid (X = w1.heap.size) := hX
  rw [← hX] at HX2 HZX ⊢
  clear hX
  generalize w1.alloc (Obj.cells #[.int .i64 p.P, .int .i64 p.S, .int .i64 p.W, .slice oa p.l.length oc, .int .i64 p.A, .int .i64 p.B, .int .i64 p.N, .int .i64 p.G] 24) = w2 at HX2 HZX HB12 HXS ⊢
  have x3 := HX2.out.c3
  have HV2 : Hid (Ov (w2.alloc (Obj.cells #[] 72)) (.slice oa p.l.length oc) p.l) := ((HO.out.below HB1.out).below HB12.out).below (below_alloc _ _)
  go_upto_region 6 with (at_builtin; refine wpList_append_sp (by rfl) (.tmp 37) (.tmp 38) 22 (by rfl) w2.heap.size 72 Tryz.underlying22 info_op _ 0 [] (by rfl) (World.ownsRow_made w2 #[] 0 (Nat.le_refl _) (by simp [maxLen]) (by simp)) _ p.l (by rfl) HV2.out (by have := HLL.out; simp only [maxLen]; omega) (by have := HLL.out; omega) (by simp) ?_; intro v' w3 hown hgrow; simp only [Nat.zero_add, List.nil_append] at hown; obtain ⟨na, nc, hv2, hn1, hn2⟩ := row_form hown; subst hv2)
  have HOW : Hid (w3.ownsRow w2.heap.size 72 3 (.slice na p.l.length nc) p.l.length (flat p.l)) := hown
  have HB23 : Hid (Below w2.heap.size w2 w3) := (below_alloc w2 (Obj.cells #[] 72)).grown hgrow (by simp) (by simp [Value.ownBlock])
  have hxs : X < w2.heap.size := by rw [HXX.out]; exact HXS.out
  have HX3 : Hid (Bx w3 X p (.slice oa p.l.length oc)) := HX2.out.below HB23.out hxs
  have x3 := HX3.out.c3
  have z3 : w3.frozen? ⟨X, 3, none⟩ = false := by rw [HB23.out.frozen (p := ⟨X, 3, none⟩) hxs]; exact HZX.out 3
  obtain ⟨w4, hw4⟩ : ∃ w4, w4 = w3.setCell ⟨X, 3, none⟩ (.slice na p.l.length nc) := ⟨_, rfl⟩
  have HW4 := hidH hw4
  have hcX : Ch (fun x => x = X) w3 w4 := by rw [hw4]; exact ch_set _ _ _ _
  have HX4 : Hid (Bx w4 X p (.slice na p.l.length nc)) := by show Bx _ _ _ _; rw [hw4]; exact HX3.out.set3 _
  have hb13 : Below w1.heap.size w1 w3 := below_trans HB12.out HB23.out
  have hcx : ¬ C = X := by have h1 := cell_lt HC1.out.b.c0; have h2 := HXX.out; simp only at h1; omega
  have HC4 : Hid (Cb w4 C p (.slice oa p.l.length oc) (.slice ra recs.length rc) off (.slice fa fr.length fc)) := (HC1.out.keep hb13).ch hcX hcx
  have HZ4 : Hid (∀ j, w4.frozen? ⟨C, j, none⟩ = false) := fun j => by
    have hl : C < w1.heap.size := cell_lt HC1.out.b.c0
    rw [hcX.froz (HC1.out.keep hb13).b.c0 hcx j, hb13.frozen (p := ⟨C, j, none⟩) hl]
    exact HZ1.out j
  have hrow : ∀ x, (Value.slice na p.l.length nc).ownBlock = some x → w2.heap.size ≤ x ∧ x < w3.heap.size := fun x hx => HOW.out.lt x hx
  have HOW4 : Hid (w4.ownsRow w2.heap.size 72 3 (.slice na p.l.length nc) p.l.length (flat p.l)) := own_ch HOW.out hcX (fun x hx e => by have := (hrow x hx).1; omega)
  have HB14 : Hid (Below w1.heap.size w1 w4) := hb13.trans (hcX.to_below hb13.size (fun x hx => by rw [hx, HXX.out]; exact Nat.le_refl _))
  have HCX : Hid (¬ C = X ∧ X < w2.heap.size ∧ w3.heap.size ≤ w4.heap.size) := ⟨hcx, hxs, hcX.size⟩
  have HROW := hidH hrow
  clear hown hgrow hxs hw4 hcX hb13 hcx hrow HX2 HZX HXS HV2
  go_upto_region 7 with fail
  rw [← HW4.out]
  clear x3 z3
  have x0 := HX4.out.c0
  have x1 := HX4.out.c1
  have x2 := HX4.out.c2
  have x3 := HX4.out.c3
  have x4 := HX4.out.c4
  have x5 := HX4.out.c5
  have x6 := HX4.out.c6
  have x7 := HX4.out.c7
  have c0 := HC4.out.b.c0
  have c1 := HC4.out.b.c1
  have c2 := HC4.out.b.c2
  have c3 := HC4.out.b.c3
  have c4 := HC4.out.b.c4
  have c5 := HC4.out.b.c5
  have c6 := HC4.out.b.c6
  have c7 := HC4.out.b.c7
  have f0 := HZ4.out 0
  have f1 := HZ4.out 1
  have f2 := HZ4.out 2
  have f3 := HZ4.out 3
  have f4 := HZ4.out 4
  have f5 := HZ4.out 5
  have f6 := HZ4.out 6
  have f7 := HZ4.out 7
  obtain ⟨w5, hw5⟩ : ∃ w5, w5 = setP w4 C p (.slice na p.l.length nc) := ⟨_, rfl⟩
  have HW5 : Hid (w5 = (((((((w4.setCell ⟨C, 0, none⟩ (.int .i64 p.P)).setCell ⟨C, 1, none⟩ (.int .i64 p.S)).setCell ⟨C, 2, none⟩ (.int .i64 p.W)).setCell ⟨C, 3, none⟩ (.slice na p.l.length nc)).setCell ⟨C, 4, none⟩ (.int .i64 p.A)).setCell ⟨C, 5, none⟩ (.int .i64 p.B)).setCell ⟨C, 6, none⟩ (.int .i64 p.N)).setCell ⟨C, 7, none⟩ (.int .i64 p.G)) := hw5
  have hcC : Ch (fun x => x = C) w4 w5 := by rw [hw5]; exact ch_setP _ _ _ _
  have HC5 : Hid (Cb w5 C p (.slice na p.l.length nc) (.slice ra recs.length rc) off (.slice fa fr.length fc)) := by show Cb _ _ _ _ _ _ _; rw [hw5]; exact cb_over HC4.out _
  have HX5 : Hid (Bx w5 X p (.slice na p.l.length nc)) := HX4.out.ch hcC (fun e => HCX.out.1 e.symm)
  have hlt1 : C < w1.heap.size := cell_lt HC1.out.b.c0
  have HOW5 : Hid (w5.ownsRow w2.heap.size 72 3 (.slice na p.l.length nc) p.l.length (flat p.l)) := own_ch HOW4.out hcC (fun x hx e => by have h1 := (HROW.out x hx).1; have h2 := HB12.out.size; omega)
  have HB5 : Hid (Below w.heap.size w w5) := (HB1.out.trans (HB14.out.mono HB1.out.size)).trans (hcC.to_below (Nat.le_trans HB1.out.size HB14.out.size) (fun x hx => by rw [hx, HCD.out]; exact Nat.le_refl _))
  have HS5 : Hid (w1.heap.size ≤ w5.heap.size ∧ X < w5.heap.size ∧ ∀ x, (Value.slice na p.l.length nc).ownBlock = some x → w1.heap.size ≤ x ∧ x < w5.heap.size) := by
    have h1 := HB14.out.size
    have h2 := hcC.size
    have h3 := HCX.out.2
    have h4 := HB12.out.size
    have h5 := HB23.out.size
    refine ⟨by omega, by omega, fun x hx => ?_⟩
    have := HROW.out x hx
    omega
  have HOV5 : Hid (Ov w5 (.slice na p.l.length nc) p.l) := own_ovS HOW5.out HO.out.2
  clear hw5 hcC hlt1
  go_upto_region 8 with fail
  rw [← HW5.out]
  clear x0 x1 x2 x3 x4 x5 x6 x7 c0 c1 c2 c3 c4 c5 c6 c7 f0 f1 f2 f3 f4 f5 f6 f7
  have c0 := HC5.out.b.c0
  have c1 := HC5.out.b.c1
  have c2 := HC5.out.b.c2
  have c3 := HC5.out.b.c3
  have c4 := HC5.out.b.c4
  have c5 := HC5.out.b.c5
  have c6 := HC5.out.b.c6
  have c7 := HC5.out.b.c7
  have c8 := HC5.out.c8
  have c9 := HC5.out.c9
  have c10 := HC5.out.c10
  cases hp : p.is with
  | false =>
    have HP : Hid (p.is = false) := hp
    clear hp
    go_wp2_with fail
    refine (ready_no HOV5.out (HRV.out.below HB5.out) (HFV.out.below HB5.out) HP.out).mono ?_
    rintro e w6 ⟨rfl, hB6⟩
    have HC6 : Hid _ := HC5.out.keep hB6
    have HB6 : Hid (Below w.heap.size w w6) := below_trans HB5.out hB6
    have HOV6 : Hid (Ov w6 (.slice na p.l.length nc) p.l) := HOV5.out.below hB6
    clear hB6 c0 c1 c2 c3 c4 c5 c6 c7 c8 c9 c10
    have c0 := HC6.out.b.c0
    have c1 := HC6.out.b.c1
    have c2 := HC6.out.b.c2
    have c3 := HC6.out.b.c3
    have c4 := HC6.out.b.c4
    have c5 := HC6.out.b.c5
    have c6 := HC6.out.b.c6
    have c7 := HC6.out.b.c7
    go_wp2_with fail
    refine (pcheck_walk (p := p) HOV6.out).mono ?_
    rintro e w7 ⟨rfl, hB7⟩
    have HB7 : Hid (Below w.heap.size w w7) := below_trans HB6.out hB7
    have hc : (p.chk != 0) = true := by have h := Pn.chk_no HP.out; rw [bne, h]; rfl
    clear hB7 c0 c1 c2 c3 c4 c5 c6 c7
    go_wp2_with fail
    go_ret
    exact ⟨rfl, HB7.out⟩
  | true =>
    have HP : Hid (p.is = true) := hp
    have HNL : Hid (1 ≤ p.n ∧ p.n ≤ 4) := Pn.n_le hp
    have HSN : Hid (p.S = (p.n : Int)) := by have h1 := Pn.is_num hp; have h2 := Pn.n_is hp; show _ = _; omega
    obtain ⟨_, _, ⟨hw1, hw4⟩, _⟩ := Pn.is_num hp
    clear hp
    go_wp2_with fail
    refine (ready_ok HOV5.out (HRV.out.below HB5.out) (HFV.out.below HB5.out) HP.out).mono ?_
    rintro e w6 ⟨sb, P, fv, rfl, K0, S, b, ov, f, hpw, hfo, hfk, hfit, hnp, hsl, hB6⟩
    obtain ⟨va, vc, rfl⟩ := own_formN hfo
    obtain ⟨K6, hK6⟩ : ∃ K6 : Nat → Prop, K6 = fun x => K0 x ∨ (w1.heap.size ≤ x ∧ x < w5.heap.size) := ⟨_, rfl⟩
    have HFit : Hid (Fit S f) := hfit
    have HOK : Hid S.ok := by obtain ⟨D, h1, _⟩ := hpw.src; exact h1.good
    have HNP : Hid (S.np = p.P.toNat) := hnp
    have HKX : Hid (K6 X ∧ ∀ x, (Value.slice na p.l.length nc).ownBlock = some x → K6 x) := by
      show K6 X ∧ _
      rw [hK6]
      refine ⟨.inr ⟨by rw [HXX.out]; exact Nat.le_refl _, HS5.out.2.1⟩, fun x hx => .inr (HS5.out.2.2 x hx)⟩
    have HKF : Hid (∀ x, (Value.slice va f.length vc).ownBlock = some x → K6 x) := fun x hx => by rw [hK6]; exact .inl (hfk x hx)
    have HPW : Hid (Pw w1.heap.size K6 w6 sb S P b ov p 1 []) := by show Pw _ _ _ _ _ _ _ _ _ _ _; rw [hK6]; exact hpw.low HS5.out.1 hB6.size
    have HFX : Hid (∀ x, (Value.slice na p.l.length nc).ownBlock = some x → ¬ x = X ∧ ∀ y, (Value.slice va f.length vc).ownBlock = some y → ¬ y = x) := fun x hx => ⟨fun e => by have h1 := (HROW.out x hx).1; have h2 := HCX.out.2.1; omega, fun y hy e => by have h1 := (hfo.lt y hy).1; have h2 := (HS5.out.2.2 x hx).2; omega⟩
    have HSZ : Hid (Sz w1.heap.size K6 w6 sb S P b ov p [] [] (fun u => Ka w1.heap.size X p (.slice na p.l.length nc) va vc f u ∧ Anyr w1.heap.size 72 3 p.l.length (.slice na p.l.length nc) u)) := by
      refine ⟨HPW.out, rfl, ⟨⟨HX5.out.below hB6 HS5.out.2.1, own_baseC hfo HS5.out.1⟩, ⟨_, own_baseC (own_belowC HOW5.out hB6) HB12.out.size⟩⟩, fun D u u' hu hd hc => ⟨⟨keep_bx HKX.out.1 D u u' hu.1.x hd hc, keep_row HKF.out D u u' hu.1.f hd hc⟩, hu.2.ch hc (fun x hx => hd x (HKX.out.2 x hx))⟩, Nat.le_trans HS5.out.1 hB6.size⟩
    have HW6 : Hid (Below w.heap.size w w6) := below_trans HB5.out hB6
    have HFI : Hid (In64 f) := fun y hy => fit_i64 HOK.out HFit.out y hy
    have HFL : Hid (f.length = p.P.toNat ∧ p.P = (f.length : Int) ∧ 1 ≤ f.length ∧ f.length ≤ 4) := by
      have h1 := Pn.is_num HP.out
      have h2 : f.length = p.P.toNat := hfit.1.trans hnp
      refine ⟨h2, by omega, by omega, by omega⟩
    clear c0 c1 c2 c3 c4 c5 c6 c7 c8 c9 c10 hpw hfo hfk hfit hnp hsl hK6 hB6 HPW
    have hli : (p.l.length : Int) ≤ 9223372036854775807 := by have := HLL.out; omega
    go_wp2_with fail
    go_loopw [9] (fun iv wr => ∃ i : Nat, iv = .int .i64 i ∧ i ≤ p.l.length ∧ Sz w1.heap.size K6 wr sb S P b ov p [] [] (fun u => Ka w1.heap.size X p (.slice na p.l.length nc) va vc f u ∧ Anyr w1.heap.size 72 3 p.l.length (.slice na p.l.length nc) u) ∧ Below w.heap.size w wr) (fun iv _ => p.l.length - (intOf iv).toNat)
    case atStart => exact ⟨0, rfl, Nat.zero_le _, HSZ.out, HW6.out⟩
    case round =>
      obtain ⟨i, rfl, hil, h1, h2⟩ := hrel
      by_cases hlt : i < p.l.length
      · have hlti : (i : Int) < (p.l.length : Int) := by omega
        obtain ⟨xs, hxr⟩ := id h1.ph.2
        obtain ⟨g, c', eg, _, _, hg, _⟩ := row_formN hxr (by omega)
        have hna : na = some ⟨g, 0, none⟩ := by injection eg
        subst hna
        have hkg : K6 g := HKX.out.2 g rfl
        have hfx := HFX.out g rfl
        obtain ⟨⟨y0, k0⟩, s0⟩ := h1.ph.2.cell (j := i * 3) (by omega)
        obtain ⟨⟨y1, k1⟩, s1⟩ := h1.ph.2.cell (j := i * 3 + 1) (by omega)
        obtain ⟨⟨y2, k2⟩, s2⟩ := h1.ph.2.cell (j := i * 3 + 2) (by omega)
        have hch : Ch (fun x => x = g) wr (((wr.setCell ⟨g, i * 3, none⟩ (.int .i64 1)).setCell ⟨g, i * 3 + 1, none⟩ (.int .i64 0)).setCell ⟨g, i * 3 + 2, none⟩ (.float .f64 13830554455654793216)) := ((ch_set _ _ _ _).self (ch_set _ _ _ _)).self (ch_set _ _ _ _)
        have HEND : Hid (Sz w1.heap.size K6 (((wr.setCell ⟨g, i * 3, none⟩ (.int .i64 1)).setCell ⟨g, i * 3 + 1, none⟩ (.int .i64 0)).setCell ⟨g, i * 3 + 2, none⟩ (.float .f64 13830554455654793216)) sb S P b ov p [] [] (fun u => Ka w1.heap.size X p (.slice (some ⟨g, 0, none⟩) p.l.length nc) va vc f u ∧ Anyr w1.heap.size 72 3 p.l.length (.slice (some ⟨g, 0, none⟩) p.l.length nc) u) ∧ Below w.heap.size w (((wr.setCell ⟨g, i * 3, none⟩ (.int .i64 1)).setCell ⟨g, i * 3 + 1, none⟩ (.int .i64 0)).setCell ⟨g, i * 3 + 2, none⟩ (.float .f64 13830554455654793216))) :=
          ⟨h1.write hch (fun x hx => by rw [hx]; exact hkg) ⟨⟨h1.ph.1.x.ch hch (fun e => hfx.1 e.symm), own_ch h1.ph.1.f hch (fun y hy e => hfx.2 y hy e)⟩, ((h1.ph.2.set _ _).set _ _).set _ _⟩ h1.st, h2.trans (hch.to_below h2.size (fun x hx => by rw [hx]; exact Nat.le_trans HB1.out.size hg))⟩
        clear hxr eg hkg hfx hch h1 h2 hg
        go_wp2_with fail
        go_roundw
        case rel => exact ⟨i + 1, by go_num, by omega, HEND.out.1, HEND.out.2⟩
        case measure => simp [intOf]; omega
      have hlti : ¬ (i : Int) < (p.l.length : Int) := by omega
      have HSl : Hid (Sz w1.heap.size K6 wr sb S P b ov p [] [] (Ka w1.heap.size X p (.slice na p.l.length nc) va vc f)) := h1.less h1.ph.1 (fun D u u' hu hd hc => ⟨keep_bx HKX.out.1 D u u' hu.x hd hc, keep_row HKF.out D u u' hu.f hd hc⟩)
      have HWl : Hid (Below w.heap.size w wr) := h2
      obtain ⟨wl, hwl⟩ : ∃ wl, wl = wr := ⟨_, rfl⟩
      subst hwl
      clear h1 h2 hlt hil hli HSZ HW6
      have HF0 : Hid (Nv (wl.alloc (Obj.cells #[] 3)) (.slice va f.length vc) f) := (own_nv HSl.out.ph.f HFI.out).below (below_alloc _ _)
      go_upto_region 16 with (first
        | (have hmm := HM1; at_builtin; refine wpList_append_nv (by rfl) (.tmp 68) (.tmp 69) 26 (by rfl) wl.heap.size 3 Tryz.underlying26 info_int _ _ _ (by rfl) (own_belowC HO1.out (below_alloc _ _)) _ [71] (by rfl) (lit_one _ 71 (by decide) (by decide)) (by have := HFL.out.2.2.2; simp only [maxLen, List.length_singleton]; omega) (by have := HFL.out.2.2.2; simp only [List.length_singleton]; omega) (by have := HSZ1.out; rw [size_allocC]; omega) ?_; intro v2 w9 ho2 hg2; have HBB := hidH (app_two HO1.out HG1.out hg2); obtain ⟨gm, cm, rfl, hgb, hgc, hzz⟩ := app_row ho2 rfl; have HGB := hidH hgb; have HZZ := hidH hzz; have hcm : (f.length : Int) ≤ (cm : Int) := (by omega); have hcm2 : f.length ≤ cm := (by omega); clear ho2 hg2 hgb hzz)
        | (at_builtin; refine wpList_append_nv (by rfl) (.tmp 66) (.tmp 67) 26 (by rfl) wl.heap.size 3 Tryz.underlying26 info_int _ 0 [] (by rfl) (World.ownsRow_made wl #[] 0 (Nat.le_refl _) (by simp [maxLen]) (by simp)) _ f (by rfl) HF0.out (by have := HFL.out.2.2.2; simp only [maxLen]; omega) (by have := HFL.out.2.2.2; omega) (by simp) ?_; intro v1 w8 ho1 hg1; have HO1 := hidH ho1; have HG1 := hidH hg1; have HSZ1 : Hid (wl.heap.size ≤ w8.heap.size) := (by have := hg1.size; rw [size_allocC] at this; show _ ≤ _; omega); have HM1 : Hid True := trivial; clear ho1 hg1))
      have hgml : gm < w9.heap.size := HZZ.out.lt
      obtain ⟨K9, hK9⟩ : ∃ K9 : Nat → Prop, K9 = fun z => K6 z ∨ (wl.heap.size ≤ z ∧ z < w9.heap.size) := ⟨_, rfl⟩
      have HS9 : Hid (Sz w1.heap.size K9 w9 sb S P b ov p [] [] (fun u => (Ka w1.heap.size X p (.slice na p.l.length nc) va vc f) u ∧ Zw u gm cm (f ++ [71]))) := by
        show Sz _ _ _ _ _ _ _ _ _ _ _ _
        rw [hK9]
        exact HSl.out.more HBB.out (G := fun u => Zw u gm cm (f ++ [71])) HZZ.out (fun D u u' hu hd hc => hu.keep (hc.block gm hu.lt (hd gm HGB.out hgml)))
      have HKM : Hid (K9 gm ∧ K9 X ∧ ∀ x, (Value.slice va f.length vc).ownBlock = some x → K9 x) := by
        show K9 gm ∧ _
        rw [hK9]
        exact ⟨.inr ⟨HGB.out, hgml⟩, .inl HKX.out.1, fun x hx => .inl (HKF.out x hx)⟩
      have HFR : Hid (∀ x, (Value.slice va f.length vc).ownBlock = some x → x < wl.heap.size) := fun x hx => (HSl.out.ph.f.lt x hx).2
      have HXL : Hid (X < wl.heap.size) := cell_lt HSl.out.ph.x.c0
      have HGM : Hid (wl.heap.size ≤ gm ∧ gm < w9.heap.size ∧ f.length + 1 ≤ cm) := ⟨HGB.out, hgml, hgc⟩
      have HW9 : Hid (Below w.heap.size w w9) := HWl.out.trans (HBB.out.mono HWl.out.size)
      clear hgml hK9 HSl HWl HF0 HBB HZZ HGB HO1 HG1 HSZ1 HM1 hgc
      go_wp2_with fail
      refine (msg17 1 0 0).mono ?_
      rintro e w10 ⟨rfl, hB⟩
      have HS10 : Hid _ := HS9.out.below hB
      have HW10 : Hid (Below w.heap.size w w10) := HW9.out.trans (hB.mono HW9.out.size)
      have HS910 : Hid (w9.heap.size ≤ w10.heap.size) := hB.size
      clear hB HS9 HW9
      obtain ⟨E, hE⟩ : ∃ E, E = formT S f p.B := ⟨_, rfl⟩
      have HEE : Hid (E = formT S f p.B) := hE
      have HEO : Hid (In64 E) := by have h := form_in64 (m := p.B) HOK.out HFit.out (Pn.is_num HP.out).2.2.2.2.1.1; rw [← hE] at h; exact h
      have HEL : Hid (E.length = f.length) := by show _ = _; rw [hE]; exact form_len _ _ _
      have HEF : Hid (Fit S E ∧ Fwd f E) := by rw [HEE.out]; exact ⟨form_fit HFit.out (Pn.is_num HP.out).2.2.2.2.1.1, form_fwd HFit.out (Pn.is_num HP.out).2.2.2.2.1.1⟩
      go_wp2_with fail
      have htk := tk_assign HP.out HOK.out HFit.out
      rw [← hE] at htk
      refine (show Calls Tryz.prog 9 #[.pointer (some ⟨P, 0, none⟩), .pointer (some ⟨sb, 0, none⟩), .agg #[.int .i64 1, .int .i64 0, .int .i64 1, .int .i64 3, .int .i64 7, .int .i64 0, .slice (some ⟨gm, 0, none⟩) f.length cm, .slice none 0 0, .slice none 0 0]] w10 _ from sz_take2 (m := ⟨1, 0, 1, 3, 7, 0, f, [], []⟩) HS10.out (by simp) ⟨nv_sv (zw_take HS10.out.ph.2 (m := f) (fun i hi => nth_left hi) (by simp) HFI.out), Sv.nil _ _, qv_nil _⟩ (small_ok (by omega) HFI.out q0_ok p0_ok) htk).mono ?_
      clear htk hE
      rintro e w11 ⟨a6, c6, K11, L11, M11, lo11, rfl, hM, hkk, hlo, hs, hB6⟩
      obtain ⟨g1, q1, ea, ec, xa, xc, ya, yc, hv, hmx, hto, hke⟩ := mrk_one hs.ph.2 hM
      rw [hv]
      simp only [List.length_nil] at hmx hto
      obtain ⟨gE, c', eg, _, _, hgE, hgE2⟩ := row_formN (n := E.length) hto.e (by have := HEL.out; have := HFL.out.2.2.1; omega)
      have hea : ea = some ⟨gE, 0, none⟩ := by injection eg
      subst hea
      have HST : Hid (∀ (D : Nat → Prop) (u u' : World), ((Ka w1.heap.size X p (.slice na p.l.length nc) va vc f) u ∧ Zw u gm cm (f ++ [71])) → (∀ x, K9 x → ¬ D x) → Ch D u u' → ((Ka w1.heap.size X p (.slice na p.l.length nc) va vc f) u' ∧ Zw u' gm cm (f ++ [71]))) := HS10.out.st
      have HS11 : Hid (Sz w1.heap.size K11 w11 sb S P b ov p L11 [h37 p S f false (List.replicate p.n false)] (fun u => ((Ka w1.heap.size X p (.slice na p.l.length nc) va vc f) u ∧ Zw u gm cm (f ++ [71])) ∧ u.ownsRow lo11 3 1 (.slice (some ⟨gE, 0, none⟩) E.length ec) E.length (cellsN E))) := hs.less ⟨hs.ph.1, hto.e⟩ (fun D u u' hu hd hc => ⟨HST.out D u u' hu.1 (fun x hx => hd x (hkk x hx)) hc, keep_row hke D u u' hu.2 hd hc⟩)
      have HMX : Hid (MXo w11 g1 0 ⟨⟨2, 1, 0, 3, 7, 0, E, [], []⟩, .slice (some ⟨gE, 0, none⟩) E.length ec, .slice xa 0 xc, .slice ya 0 yc⟩) := hmx
      have HKG : Hid (K11 gm ∧ K11 gE ∧ K11 X ∧ ∀ x, (Value.slice va f.length vc).ownBlock = some x → K11 x) := ⟨hkk _ HKM.out.1, hke gE rfl, hkk _ HKM.out.2.1, fun x hx => hkk x (HKM.out.2.2 x hx)⟩
      have HGE : Hid (w10.heap.size ≤ gE ∧ gE < w11.heap.size) := ⟨Nat.le_trans hlo hgE, hgE2⟩
      have HW11 : Hid (Below w.heap.size w w11) := HW10.out.trans (hB6.mono HB1.out.size)
      clear hM hkk hlo hs hB6 hmx hto hke hgE hgE2 eg hv HS10 HW10 HST HKM
      go_wp2_with fail
      refine (show Calls Tryz.prog 11 #[.slice (some ⟨g1, 0, none⟩) 1 q1, .int .i64 0, .int .i64 2, .int .i64 0] w11 _ from one17 (m := ⟨2, 1, 0, 3, 7, 0, E, [], []⟩) HMX.out rfl rfl rfl).mono ?_
      rintro e w12 ⟨rfl, hB⟩
      dsimp only
      have HS12 : Hid _ := HS11.out.below hB
      have HW12 : Hid (Below w.heap.size w w12) := HW11.out.trans (hB.mono HW11.out.size)
      have HS1112 : Hid (w11.heap.size ≤ w12.heap.size) := hB.size
      clear hB HMX HS11 HW11
      go_upto_region 18 with fail
      have HBA : Hid _ := below_alloc w12 (Obj.cells #[.int .i64 2, .int .i64 1, .int .i64 0, .int .i64 3, .int .i64 7, .int .i64 0, .slice (some ⟨gE, 0, none⟩) E.length ec, .slice xa 0 xc, .slice ya 0 yc] 44)
      have HRC : Hid _ := mx_new w12 ⟨2, 1, 0, 3, 7, 0, [], [], []⟩ (.slice (some ⟨gE, 0, none⟩) E.length ec) (.slice xa 0 xc) (.slice ya 0 yc)
      obtain ⟨R, hR⟩ : ∃ R, R = w12.heap.size := ⟨_, rfl⟩
      have HRR : Hid (R = w12.heap.size) := hR
      rw [← hR] at HRC ⊢
      clear hR
      generalize w12.alloc (Obj.cells #[.int .i64 2, .int .i64 1, .int .i64 0, .int .i64 3, .int .i64 7, .int .i64 0, .slice (some ⟨gE, 0, none⟩) E.length ec, .slice xa 0 xc, .slice ya 0 yc] 44) = w13 at HBA HRC ⊢
      have HS13 : Hid _ := HS12.out.below HBA.out
      have HW13 : Hid (Below w.heap.size w w13) := HW12.out.trans (HBA.out.mono HW12.out.size)
      go_wp2_with fail
      refine (ints17 (zw_take HS13.out.ph.1.2 (m := f) (fun i hi => nth_left hi) (by simp) HFI.out) (own_nv HS13.out.ph.1.1.f HFI.out)).mono ?_
      rintro e w14 ⟨he, hB⟩
      have he1 : e = .returned (.bool true) := by rw [he]; simp
      clear he
      subst he1
      have HS14 : Hid _ := HS13.out.below hB
      have HRC14 : Hid (MX w14 R _ _ _ _) := HRC.out.keep hB
      have HW14 : Hid (Below w.heap.size w w14) := HW13.out.trans (hB.mono HW13.out.size)
      have HS1214 : Hid (w12.heap.size < w14.heap.size) := by have h1 := cell_lt HRC14.out.c0; have h2 := HRR.out; simp only at h1; show _ < _; omega
      have r6 := HRC14.out.c6
      have HE0 : Hid (Nv (w14.alloc (Obj.cells #[] 3)) (.slice (some ⟨gE, 0, none⟩) E.length ec) E) := (own_nv HS14.out.ph.2 HEO.out).below (below_alloc _ _)
      have hrl : R < w14.heap.size := cell_lt HRC14.out.c0
      have hrn : ¬ R = w14.heap.size := by omega
      clear hB HBA HRC HS12 HS13 HW12 HW13
      go_upto_region 21 with (at_builtin; refine wpList_append_nv (by rfl) (.tmp 96) (.tmp 98) 26 (by rfl) w14.heap.size 3 Tryz.underlying26 info_int _ 0 [] (by rfl) (World.ownsRow_made w14 #[] 0 (Nat.le_refl _) (by simp [maxLen]) (by simp)) _ E (by rfl) HE0.out (by have := HEL.out; have := HFL.out.2.2.2; simp only [maxLen]; omega) (by have := HEL.out; have := HFL.out.2.2.2; omega) (by simp) ?_; intro v1 w15 ho1 hg1; simp only [Nat.zero_add, List.nil_append] at ho1; obtain ⟨ta, tc, hv, _, _⟩ := row_form ho1; subst hv)
      have HBN : Hid (Below w14.heap.size w14 w15) := (below_alloc w14 (Obj.cells #[] 3)).grown hg1 (by simp) (by simp [Value.ownBlock])
      obtain ⟨K15, hK15⟩ : ∃ K15 : Nat → Prop, K15 = fun z => K11 z ∨ (w14.heap.size ≤ z ∧ z < w15.heap.size) := ⟨_, rfl⟩
      have HTR : Hid (w15.ownsRow w14.heap.size 3 1 (.slice ta E.length tc) E.length (cellsN E)) := ho1
      have HS15 : Hid _ := HS14.out.more HBN.out (G := fun u => u.ownsRow w14.heap.size 3 1 (.slice ta E.length tc) E.length (cellsN E)) ho1 (fun D u u' hu hd hc => own_ch hu hc (fun x hx => hd x (ho1.lt x hx).1 (ho1.lt x hx).2))
      rw [← hK15] at HS15
      have HKT : Hid (K15 gm ∧ K15 gE ∧ K15 X ∧ (∀ x, (Value.slice va f.length vc).ownBlock = some x → K15 x) ∧ ∀ x, (Value.slice ta E.length tc).ownBlock = some x → K15 x) := by
        show K15 gm ∧ _
        rw [hK15]
        exact ⟨.inl HKG.out.1, .inl HKG.out.2.1, .inl HKG.out.2.2.1, fun x hx => .inl (HKG.out.2.2.2 x hx), fun x hx => .inr (ho1.lt x hx)⟩
      have HRC15 : Hid (MX w15 R _ _ _ _) := HRC14.out.keep HBN.out
      have HW15 : Hid (Below w.heap.size w w15) := HW14.out.trans (HBN.out.mono HW14.out.size)
      have HN1 : Hid (¬ R = gm ∧ ¬ R = gE ∧ ¬ gm = gE) := by
        have h1 := HGM.out
        have h2 := HGE.out
        have h3 := HRR.out
        have h4 := HS910.out
        have h5 := HS1112.out
        refine ⟨by omega, by omega, by omega⟩
      have HZM : Hid (Anyr 0 3 1 f.length (.slice (some ⟨gm, 0, none⟩) f.length cm) w15) := zw_any HS15.out.ph.1.1.2 (by simp)
      have HZE : Hid (Anyr 0 3 1 f.length (.slice (some ⟨gE, 0, none⟩) f.length ec) w15) := by
        have h := HS15.out.ph.1.2
        rw [HEL.out] at h
        exact ⟨_, own_baseC h (Nat.zero_le _)⟩
      have hfl : (f.length : Int) ≤ 4 := by have := HFL.out.2.2.2; omega
      clear hK15 ho1 hg1 r6 hrl hrn HE0 HS14 HW14 HKG HRC14
      go_wp2_with fail
      go_loopw [16] (fun iv wr => ∃ i : Nat, iv = .int .i64 i ∧ i ≤ f.length ∧ Ch (fun x => x = gm ∨ x = gE) w15 wr ∧ Anyr 0 3 1 f.length (.slice (some ⟨gm, 0, none⟩) f.length cm) wr ∧ Anyr 0 3 1 f.length (.slice (some ⟨gE, 0, none⟩) f.length ec) wr) (fun iv _ => f.length - (intOf iv).toNat)
      case atStart => exact ⟨0, rfl, Nat.zero_le _, Ch.of_below (below_same _), HZM.out, HZE.out⟩
      case round =>
        obtain ⟨i, rfl, hil, hch, hz1, hz2⟩ := hrel
        obtain ⟨wg, hwg⟩ : ∃ wg, wg = wr := ⟨_, rfl⟩
        subst hwg
        by_cases hlt : i < f.length
        · have hlti : (i : Int) < (f.length : Int) := by omega
          have hltE : (i : Int) < (E.length : Int) := by have := HEL.out; omega
          have hltE2 : i < E.length := by have := HEL.out; omega
          obtain ⟨⟨y0, k0⟩, s0⟩ := hz1.cell (j := i) (by omega)
          have r6 := hch.cell HRC15.out.c6 (by rintro (e | e); exact HN1.out.1 e; exact HN1.out.2.1 e)
          obtain ⟨wh, hwh⟩ : ∃ wh, wh = wg.setCell ⟨gm, i, none⟩ (.int .i64 250) := ⟨_, rfl⟩
          have HWH := hidH hwh
          have c1 : Ch (fun x => x = gm) wg wh := by rw [hwh]; exact ch_set _ _ _ _
          have hz1a : Anyr 0 3 1 f.length (.slice (some ⟨gm, 0, none⟩) f.length cm) wh := by rw [hwh]; exact hz1.set _ _
          have hz2a : Anyr 0 3 1 f.length (.slice (some ⟨gE, 0, none⟩) f.length ec) wh := hz2.ch c1 (fun x hx e => HN1.out.2.2 (by have h : gE = x := Option.some.inj hx; rw [h, e]))
          have r6a := c1.cell r6 HN1.out.1
          obtain ⟨⟨y1, k1⟩, s1⟩ := hz2a.cell (j := i) (by omega)
          have c2 : Ch (fun x => x = gE) wh (wh.setCell ⟨gE, i, none⟩ (.int .i64 251)) := ch_set _ _ _ _
          have HEND : Hid (Ch (fun x => x = gm ∨ x = gE) w15 (wh.setCell ⟨gE, i, none⟩ (.int .i64 251)) ∧ Anyr 0 3 1 f.length (.slice (some ⟨gm, 0, none⟩) f.length cm) (wh.setCell ⟨gE, i, none⟩ (.int .i64 251)) ∧ Anyr 0 3 1 f.length (.slice (some ⟨gE, 0, none⟩) f.length ec) (wh.setCell ⟨gE, i, none⟩ (.int .i64 251))) :=
            ⟨(hch.self (c1.mono (fun x hx => .inl hx))).self (c2.mono (fun x hx => .inr hx)), hz1a.ch c2 (fun x hx e => HN1.out.2.2 (by have h : gm = x := Option.some.inj hx; rw [h, e])), hz2a.set _ _⟩
          clear hch hz1 hz2 hwh c1 hz1a hz2a c2
          go_upto_region 25 with fail
          rw [← HWH.out]
          clear k0 s0 r6
          go_wp2_with fail
          go_roundw
          case rel => exact ⟨i + 1, by go_num, by omega, HEND.out.1, HEND.out.2.1, HEND.out.2.2⟩
          case measure => simp [intOf]; omega
        have hlti : ¬ (i : Int) < (f.length : Int) := by omega
        have HE1 : Hid (∀ x, (x = gm ∨ x = gE) → K15 x) := by rintro x (e | e); rw [e]; exact HKT.out.1; rw [e]; exact HKT.out.2.1
        have HORD : Hid (X < wl.heap.size ∧ (∀ x, (Value.slice va f.length vc).ownBlock = some x → x < wl.heap.size) ∧ wl.heap.size ≤ gm ∧ gm < w14.heap.size ∧ wl.heap.size ≤ gE ∧ gE < w14.heap.size ∧ ∀ x, (Value.slice ta E.length tc).ownBlock = some x → w14.heap.size ≤ x) := by
          have h1 := HGM.out
          have h2 := HGE.out
          have h4 := HS910.out
          have h5 := HS1112.out
          have h6 := HS1214.out
          refine ⟨HXL.out, HFR.out, by omega, by omega, by omega, by omega, fun x hx => (HTR.out.lt x hx).1⟩
        have HS16 : Hid (Sz w1.heap.size K15 wg sb S P b ov p L11 [h37 p S f false (List.replicate p.n false)] (fun u => (Ka w1.heap.size X p (.slice na p.l.length nc) va vc f) u ∧ u.ownsRow w14.heap.size 3 1 (.slice ta E.length tc) E.length (cellsN E))) := by
          refine HS15.out.write hch HE1.out ⟨⟨HS15.out.ph.1.1.1.x.ch hch ?_, own_ch HS15.out.ph.1.1.1.f hch ?_⟩, own_ch HS15.out.ph.2 hch ?_⟩ (fun D u u' hu hd hc => ⟨⟨keep_bx HKT.out.2.2.1 D u u' hu.1.x hd hc, keep_row HKT.out.2.2.2.1 D u u' hu.1.f hd hc⟩, keep_row HKT.out.2.2.2.2 D u u' hu.2 hd hc⟩)
          · have := HORD.out; rintro (e | e) <;> omega
          · have h := HORD.out; intro x hx; have := h.2.1 x hx; rintro (e | e) <;> omega
          · have h := HORD.out; intro x hx; have := h.2.2.2.2.2.2 x hx; rintro (e | e) <;> omega
        have HW16 : Hid (Below w.heap.size w wg) := HW15.out.trans (hch.to_below HW15.out.size (by have h := HORD.out; have h2 := HB1.out.size; have h3 := HXX.out; rintro x (e | e) <;> omega))
        clear hch hz1 hz2 hlt hil hfl HS15 HW15 HZM HZE HRC15
        go_wp2_with fail
        refine (sz_held HS16.out).mono ?_
        rintro e w17 ⟨gH, cH, eva, evc, rfl, hc2, hgH, hrow, hne, hB⟩
        have hhe : (h37 p S f false (List.replicate p.n false)).E = E := HEE.out.symm
        rw [hhe] at hc2 hrow hne
        obtain ⟨gV, c9, eg9, _, _, hgV, hgV2⟩ := row_formN hrow (by have := HEL.out; have := HFL.out.2.2.1; omega)
        have hea : eva = some ⟨gV, 0, none⟩ := by injection eg9
        subst hea
        obtain ⟨K17, hK17⟩ : ∃ K17 : Nat → Prop, K17 = fun z => K15 z ∨ (wg.heap.size ≤ z ∧ z < w17.heap.size) := ⟨_, rfl⟩
        have HS17 : Hid (Sz w1.heap.size K17 w17 sb S P b ov p L11 [h37 p S f false (List.replicate p.n false)] (fun u => (Ka w1.heap.size X p (.slice na p.l.length nc) va vc f) u ∧ u.ownsRow w14.heap.size 3 1 (.slice ta E.length tc) E.length (cellsN E))) := by
          have h := HS16.out.more hB (G := fun _ => True) trivial (fun _ _ _ _ _ _ => trivial)
          rw [hK17]
          exact h.less h.ph.1 (fun D u u' hu hd hc => (h.st D u u' ⟨hu, trivial⟩ hd hc).1)
        have HKV : Hid (K17 gV ∧ K17 X ∧ (∀ x, (Value.slice va f.length vc).ownBlock = some x → K17 x) ∧ ∀ x, (Value.slice ta E.length tc).ownBlock = some x → K17 x) := by
          show K17 gV ∧ _
          rw [hK17]
          exact ⟨.inr ⟨hgV, hgV2⟩, .inl HKT.out.2.2.1, fun x hx => .inl (HKT.out.2.2.2.1 x hx), fun x hx => .inl (HKT.out.2.2.2.2 x hx)⟩
        have HRV17 : Hid (w17.ownsRow wg.heap.size 3 1 (.slice (some ⟨gV, 0, none⟩) E.length evc) E.length (cellsN E)) := hrow
        have HHV : Hid (¬ gH = gV ∧ wg.heap.size ≤ gV ∧ gH < w17.heap.size) := ⟨fun e => hne gV rfl e.symm, hgV, cell_lt hc2⟩
        have HC2 : Hid (w17.cell? ⟨gH, 2, none⟩ = some (.slice (some ⟨gV, 0, none⟩) E.length evc)) := hc2
        have HW17 : Hid (Below w.heap.size w w17) := HW16.out.trans (hB.mono HW16.out.size)
        have HEP : Hid (0 < E.length ∧ (0 : Int) < (E.length : Int)) := by have h1 := HEL.out; have h2 := HFL.out.2.2.1; show _ ∧ _; omega
        clear hhe hc2 hgH hrow hne hB eg9 hgV hgV2 hK17 HW16
        have hc2 := HC2.out
        have h01 : (0 : Int) < (1 : Int) := by omega
        go_wp2_with fail
        refine (ints17 (own_nv HRV17.out HEO.out) (own_nv HS17.out.ph.2 HEO.out)).mono ?_
        rintro e w18 ⟨he, hB⟩
        have he1 : e = .returned (.bool true) := by rw [he]; simp
        clear he
        subst he1
        have HB18 : Hid (Below w17.heap.size w17 w18) := hB
        have hc2a : w18.cell? ⟨gH, 2, none⟩ = some (.slice (some ⟨gV, 0, none⟩) E.length evc) := by rw [hB.cell (p := ⟨gH, 2, none⟩) HHV.out.2.2]; exact HC2.out
        have hrv := own_belowC HRV17.out hB
        have hcv := own_cellN hrv (j := 0) (u := .int .i64 (nth E 0)) (by unfold cellsN; rw [List.getElem?_map, List.getElem?_eq_getElem HEP.out.1]; have := nth_at (l := E) (i := 0) HEP.out.1; rw [← this]; rfl)
        have k0 := hcv.1
        have s0 := hcv.2
        have he0 := HEP.out.2
        obtain ⟨w19, hw19⟩ : ∃ w19, w19 = w18.setCell ⟨gV, 0, none⟩ (.int .i64 252) := ⟨_, rfl⟩
        have HW19 := hidH hw19
        have hcV : Ch (fun x => x = gV) w18 w19 := by rw [hw19]; exact ch_set _ _ _ _
        have HS18 : Hid _ := HS17.out.below hB
        have HS19 : Hid (Sz w1.heap.size K17 w19 sb S P b ov p L11 [h37 p S f false (List.replicate p.n false)] (fun u => (Ka w1.heap.size X p (.slice na p.l.length nc) va vc f) u ∧ u.ownsRow w14.heap.size 3 1 (.slice ta E.length tc) E.length (cellsN E))) := by
          have hx : X < wg.heap.size := cell_lt HS16.out.ph.1.x.c0
          have hv := HHV.out.2.1
          refine HS18.out.write hcV (fun x hx => by rw [hx]; exact HKV.out.1) ⟨⟨HS18.out.ph.1.x.ch hcV (by omega), own_ch HS18.out.ph.1.f hcV (fun x hx e => ?_)⟩, own_ch HS18.out.ph.2 hcV (fun x hx e => ?_)⟩ HS17.out.st
          · have := (HS16.out.ph.1.f.lt x hx).2; omega
          · have := (HS16.out.ph.2.lt x hx).2; omega
        have HWX : Hid (Below w.heap.size w w19) := (HW17.out.trans (hB.mono HW17.out.size)).trans (hcV.to_below (Nat.le_trans HW17.out.size hB.size) (fun x hx => by rw [hx]; have h1 := HHV.out.2.1; have h2 := HS16.out.w0; have h3 := HB1.out.size; omega))
        clear hB hrv hcv hw19 hcV hc2 HS16 HS17 HS18 HW17 HRV17
        go_upto_region 30 with fail
        rw [← HW19.out]
        clear k0 s0 hc2a
        go_wp2_with fail
        refine (msg17 3 0 0).mono ?_
        rintro e w20 ⟨rfl, hB⟩
        have HS20 : Hid _ := HS19.out.below hB
        have HW20 : Hid (Below w.heap.size w w20) := HWX.out.trans (hB.mono HWX.out.size)
        clear hB HS19 HWX
        go_wp2_with fail
        have htk := tk_go (S := S) (S' := S) (f := f) (A := List.replicate p.n false) HP.out HOK.out HFit.out
        rw [← HEE.out] at htk
        refine (show Calls Tryz.prog 9 #[.pointer (some ⟨P, 0, none⟩), .pointer (some ⟨sb, 0, none⟩), .agg #[.int .i64 3, .int .i64 0, .int .i64 1, .int .i64 3, .int .i64 7, .int .i64 0, .slice ta E.length tc, .slice none 0 0, .slice none 0 0]] w20 _ from sz_take2 (m := ⟨3, 0, 1, 3, 7, 0, E, [], []⟩) HS20.out (by simp) (ml_e HS20.out.ph.2) (small_ok (by omega) HEO.out q0_ok p0_ok) htk).mono ?_
        clear htk
        rintro e w21 ⟨ba, bc, K13, L13, M13, lo13, rfl, hM, hkk, hlo, hs, hB⟩
        have hn : (List.map (bgM p 1 ⟨3, 0, 1, 3, 7, 0, E, [], []⟩ (h37 p S f false (List.replicate p.n false)).T) (List.range p.n)).length = p.n := by simp
        simp only [hn] at hs ⊢
        have HM13 : Hid (M13.map (·.m) = List.map (bgM p 1 ⟨3, 0, 1, 3, 7, 0, E, [], []⟩ (h37 p S f false (List.replicate p.n false)).T) (List.range p.n)) := hM
        have HS21 : Hid (Sz w1.heap.size K13 w21 sb S P b ov p L13 [h37 p S f true (List.replicate p.n false)] (fun u => ((Ka w1.heap.size X p (.slice na p.l.length nc) va vc f) u ∧ u.ownsRow w14.heap.size 3 1 (.slice ta E.length tc) E.length (cellsN E)) ∧ MrK K13 u lo13 (.slice ba p.n bc) M13)) := hs.less hs.ph (fun D u u' hu hd hc => ⟨HS20.out.st D u u' hu.1 (fun x hx => hd x (hkk x hx)) hc, hu.2.chg hd hc⟩)
        have HK13 : Hid (K13 X ∧ (∀ x, (Value.slice va f.length vc).ownBlock = some x → K13 x) ∧ ∀ x, (Value.slice ta E.length tc).ownBlock = some x → K13 x) := ⟨hkk _ HKV.out.2.1, fun x hx => hkk x (HKV.out.2.2.1 x hx), fun x hx => hkk x (HKV.out.2.2.2 x hx)⟩
        have HW21 : Hid (Below w.heap.size w w21) := HW20.out.trans (hB.mono HB1.out.size)
        have d1 : w21.cell? ⟨X, 1, none⟩ = some (.int .i64 (p.n : Int)) := by rw [← HSN.out]; exact HS21.out.ph.1.1.x.c1
        have hpn : (p.n : Int) ≤ 4 := by have := HNL.out; omega
        clear hM hkk hlo hs hB hn HS20 HW20 HKV HKT
        go_wp2_with fail
        refine (sz_held HS21.out).mono ?_
        rintro e w22 ⟨gH, cH, eva, evc, rfl, hc2, hgH, hrow, hne, hB⟩
        have hhe : (h37 p S f true (List.replicate p.n false)).E = E := HEE.out.symm
        rw [hhe] at hc2 hrow hne
        have HRV22 : Hid (w22.ownsRow w21.heap.size 3 1 (.slice eva E.length evc) E.length (cellsN E)) := hrow
        have HS22 : Hid (Sz w1.heap.size K13 w22 sb S P b ov p L13 [h37 p S f true (List.replicate p.n false)] (fun u => ((Ka w1.heap.size X p (.slice na p.l.length nc) va vc f) u ∧ u.ownsRow w14.heap.size 3 1 (.slice ta E.length tc) E.length (cellsN E)) ∧ MrK K13 u lo13 (.slice ba p.n bc) M13)) := HS21.out.below hB
        have HW22 : Hid (Below w.heap.size w w22) := HW21.out.trans (hB.mono HW21.out.size)
        clear hhe hgH hrow hne hB d1 HS21 HW21
        go_wp2_with fail
        refine (ints17 (own_nv HRV22.out HEO.out) (own_nv HS22.out.ph.1.2 HEO.out)).mono ?_
        rintro e w23 ⟨he, hB⟩
        have he1 : e = .returned (.bool true) := by rw [he]; simp
        clear he
        subst he1
        have HS23 : Hid (Sz w1.heap.size K13 w23 sb S P b ov p L13 [h37 p S f true (List.replicate p.n false)] (fun u => ((Ka w1.heap.size X p (.slice na p.l.length nc) va vc f) u ∧ u.ownsRow w14.heap.size 3 1 (.slice ta E.length tc) E.length (cellsN E)) ∧ MrK K13 u lo13 (.slice ba p.n bc) M13)) := HS22.out.below hB
        have HW23 : Hid (Below w.heap.size w w23) := HW22.out.trans (hB.mono HW22.out.size)
        obtain ⟨T, hT⟩ : ∃ T, T = batchT p.l p.A (betS S f E f.length) := ⟨_, rfl⟩
        have HTT : Hid (T = batchT p.l p.A (betS S f E f.length)) := hT
        have HRL := hidH (tab_of HP.out HOK.out HFit.out HEE.out)
        have HTR : Hid (Rise T) := by show Rise T; rw [hT]; exact rise_batch _ _ _
        have HTH : Hid (hasT T) := by show hasT T; rw [hT]; exact has_batch (Pn.is_kn HP.out).2 _
        have HTO : Hid (okT T) := by show okT T; rw [hT]; exact batch_ok HRL.out.2
        have HTF : Hid (∀ x, fitV p.A (getT x T) = getT x T) := fun x => by rw [hT]; exact fit_batch _ _ _ x
        have HTL : Hid (T.length ≤ 1024) := by have h := batch_len17 p.l p.A (betS S f E f.length); rw [← hT] at h; exact Nat.le_trans h HRL.out.1
        have HTE : Hid ((h37 p S f false (List.replicate p.n false)).T = T) := by show _ = _; rw [HTT.out, HEE.out]; rfl
        have HTE1 : Hid ((h37 p S f true (List.replicate p.n false)).T = T) := HTE.out
        clear hB hc2 hT HS22 HW22 HRV22
        go_upto_region 34 with fail
        go_wp2_with fail
        go_loopw [19, 20] (fun av kv wr => ∃ (k : Nat) (K' : Nat → Prop) (L' : List At), kv = .int .i64 k ∧ k ≤ p.n ∧ (∀ x, K13 x → K' x) ∧ Sz w1.heap.size K' wr sb S P b ov p L' [h37 p S f true (List.replicate p.n false)] (fun u => ((Ka w1.heap.size X p (.slice na p.l.length nc) va vc f) u ∧ u.ownsRow w14.heap.size 3 1 (.slice ta E.length tc) E.length (cellsN E)) ∧ MrK K13 u lo13 (.slice ba p.n bc) M13) ∧ AllK K' wr av (lowT p T k) ∧ Below w.heap.size w wr) (fun _ kv _ => p.n - (intOf kv).toNat)
        case atStart => exact ⟨0, K13, L13, rfl, Nat.zero_le _, fun x hx => hx, HS23.out, .inl ⟨low_zero p T, rfl⟩, HW23.out⟩
        case round =>
          obtain ⟨k, K', L', rfl, hkn, h0, h1, h2, h3⟩ := hrel
          have HKK' : Hid (∀ x, K13 x → K' x) := h0
          have HSk : Hid (Sz w1.heap.size K' wr sb S P b ov p L' [h37 p S f true (List.replicate p.n false)] (fun u => ((Ka w1.heap.size X p (.slice na p.l.length nc) va vc f) u ∧ u.ownsRow w14.heap.size 3 1 (.slice ta E.length tc) E.length (cellsN E)) ∧ MrK K13 u lo13 (.slice ba p.n bc) M13)) := h1
          have HAk : Hid (AllK K' wr u19 (lowT p T k)) := h2
          have HWk : Hid (Below w.heap.size w wr) := h3
          clear h0 h1 h2 h3 HS23 HW23
          have d1 : wr.cell? ⟨X, 1, none⟩ = some (.int .i64 (p.n : Int)) := by rw [← HSN.out]; exact HSk.out.ph.1.1.x.c1
          by_cases hlt : k < p.n
          · have hlti : (k : Int) < (p.n : Int) := by omega
            have HLT : Hid (k < p.n) := hlt
            have d2 : wr.cell? ⟨X, 2, none⟩ = some (.int .i64 p.W) := HSk.out.ph.1.1.x.c2
            obtain ⟨D, hD⟩ : ∃ D, D = dealF p T k := ⟨_, rfl⟩
            have HDD : Hid (D = dealF p T k) := hD
            have HDO : Hid (okT D ∧ D.length ≤ 1024) := by
              refine ⟨?_, ?_⟩
              · rw [hD]; exact deal_ok HTO.out k
              · rw [hD]; exact Nat.le_trans (List.length_filter_le _ _) HTL.out
            have HKL : Hid (∀ x, K' x → x < wr.heap.size) := HSk.out.pw.kl
            have HST : Hid (∀ (D : Nat → Prop) (u u' : World), (fun u => ((Ka w1.heap.size X p (.slice na p.l.length nc) va vc f) u ∧ u.ownsRow w14.heap.size 3 1 (.slice ta E.length tc) E.length (cellsN E)) ∧ MrK K13 u lo13 (.slice ba p.n bc) M13) u → (∀ x, K' x → ¬ D x) → Ch D u u' → (fun u => ((Ka w1.heap.size X p (.slice na p.l.length nc) va vc f) u ∧ u.ownsRow w14.heap.size 3 1 (.slice ta E.length tc) E.length (cellsN E)) ∧ MrK K13 u lo13 (.slice ba p.n bc) M13) u') := HSk.out.st
            clear hlt hD
            go_wp2_with fail
            refine (msg17 5 (1 + p.W + (k : Int)) 0).mono ?_
            rintro e w24 ⟨rfl, hB⟩
            have HSa : Hid (Sz w1.heap.size K' w24 sb S P b ov p L' [h37 p S f true (List.replicate p.n false)] (fun u => (fun u => ((Ka w1.heap.size X p (.slice na p.l.length nc) va vc f) u ∧ u.ownsRow w14.heap.size 3 1 (.slice ta E.length tc) E.length (cellsN E)) ∧ MrK K13 u lo13 (.slice ba p.n bc) M13) u ∧ AllK K' u u19 (lowT p T k))) := (HSk.out.below hB).add (G := fun u => AllK K' u u19 (lowT p T k)) (HAk.out.ch (D := fun _ => False) (fun _ _ e => e) (Ch.of_below hB)) (fun D u u' hu hd hc => hu.ch hd hc)
            have HW24 : Hid (Below w.heap.size w w24) := HWk.out.trans (hB.mono HWk.out.size)
            have HS24 : Hid (wr.heap.size ≤ w24.heap.size) := hB.size
            clear hB HSk HAk HWk d1 d2
            go_wp2_with fail
            have htk := tk_began (S := S) (S' := S) (f := f) (A := List.replicate p.n false) HP.out HLT.out
            rw [HTE1.out, ← HDD.out] at htk
            refine (show Calls Tryz.prog 9 #[.pointer (some ⟨P, 0, none⟩), .pointer (some ⟨sb, 0, none⟩), .agg #[.int .i64 5, .int .i64 (1 + p.W + (k : Int)), .int .i64 1, .int .i64 3, .int .i64 7, .int .i64 0, .slice none 0 0, .slice none 0 0, .slice none 0 0]] w24 _ from sz_take2 (m := ⟨5, 1 + p.W + (k : Int), 1, 3, 7, 0, [], [], []⟩) HSa.out (by simp) (ml_0 w24) (small_ok (by have := HLT.out; omega) e0_ok q0_ok p0_ok) htk).mono ?_
            clear htk
            rintro e w25 ⟨a25, c25, K25, L25, M25, lo25, rfl, hM, hkk, hlo, hs, hB⟩
            obtain ⟨g1, q1, ea, ec', qa, qc, pa, pc, hv, hmx, htp, hkp⟩ := mrk_two hs.ph.2 hM
            simp only [List.length_nil, List.length_cons] at hv hmx ⊢
            rw [hv]
            have hmx8 : w25.cell? ⟨g1, 8, none⟩ = some (.slice pa D.length pc) := by have h := hmx.c8; simpa using h
            have HC8 : Hid (w25.cell? ⟨g1, 8, none⟩ = some (.slice pa D.length pc)) := hmx8
            have HTP : Hid (w25.ownsRow lo25 65 3 (.slice pa D.length pc) D.length (flatQ D)) := htp
            have HKP : Hid (∀ x, (Value.slice pa D.length pc).ownBlock = some x → K25 x ∧ ¬ g1 = x ∧ w24.heap.size ≤ x ∧ x < w25.heap.size) := fun x hx => ⟨(hkp x hx).1, (hkp x hx).2, Nat.le_trans hlo (htp.lt x hx).1, (htp.lt x hx).2⟩
            have HK25 : Hid (∀ x, K' x → K25 x) := hkk
            have HS25 : Hid (Sz w1.heap.size K25 w25 sb S P b ov p L25 [h37 p S f true (List.replicate p.n false)] (fun u => (fun u => ((Ka w1.heap.size X p (.slice na p.l.length nc) va vc f) u ∧ u.ownsRow w14.heap.size 3 1 (.slice ta E.length tc) E.length (cellsN E)) ∧ MrK K13 u lo13 (.slice ba p.n bc) M13) u ∧ AllK K' u u19 (lowT p T k))) := hs.less hs.ph.1 (fun D u u' hu hd hc => ⟨HST.out D u u' hu.1 (fun x hx => hd x (hkk x hx)) hc, hu.2.ch (fun x hx => hd x (hkk x hx)) hc⟩)
            have HW25 : Hid (Below w.heap.size w w25) := HW24.out.trans (hB.mono HB1.out.size)
            have HQ0 : Hid (Qv (w25.alloc (Obj.cells #[] 65)) (.slice pa D.length pc) D) := own_qv (own_belowC htp (below_alloc _ _)) HDO.out.1
            have hgl : g1 < w25.heap.size := cell_lt hmx8
            have hgn : ¬ g1 = w25.heap.size := by omega
            obtain ⟨i0, hi0, hz0, hz1, hz2⟩ := info_partsQ info_prQ
            have HI0 := hidH hi0
            have HI1 := hidH hz0
            have HI2 := hidH hz1
            have HI3 := hidH hz2
            have h01 : (0 : Int) < (1 : Int) := by omega
            clear hv hM hkk hlo hs hB hmx htp hkp HSa hi0 hz0 hz1 hz2
            go_upto_region 42 with (at_builtin; refine wpList_append_qs (by rfl) (.tmp 185) (.tmp 189) 42 (by rfl) w25.heap.size 65 i0 Tryz.underlying42 HI0.out HI1.out HI2.out HI3.out _ 0 [] (by rfl) (World.ownsRow_made w25 #[] 0 (Nat.le_refl _) (by simp [maxLen]) (by simp)) _ D (by rfl) HQ0.out (by have := HDO.out.2; simp only [maxLen]; omega) (by have := HDO.out.2; omega) (by simp) ?_; intro v1 w26 ho1 hg1; simp only [Nat.zero_add, List.nil_append] at ho1; obtain ⟨da, dc, hv, _, _⟩ := row_form ho1; subst hv)
            have HBN : Hid (Below w25.heap.size w25 w26) := (below_alloc w25 (Obj.cells #[] 65)).grown hg1 (by simp) (by simp [Value.ownBlock])
            obtain ⟨K26, hK26⟩ : ∃ K26 : Nat → Prop, K26 = fun z => K25 z ∨ (w25.heap.size ≤ z ∧ z < w26.heap.size) := ⟨_, rfl⟩
            have HDL : Hid (∀ x, (Value.slice da D.length dc).ownBlock = some x → w25.heap.size ≤ x ∧ x < w26.heap.size) := fun x hx => ho1.lt x hx
            have HS26 : Hid (Sz w1.heap.size K26 w26 sb S P b ov p L25 [h37 p S f true (List.replicate p.n false)] (fun u => ((fun u => ((Ka w1.heap.size X p (.slice na p.l.length nc) va vc f) u ∧ u.ownsRow w14.heap.size 3 1 (.slice ta E.length tc) E.length (cellsN E)) ∧ MrK K13 u lo13 (.slice ba p.n bc) M13) u ∧ AllK K' u u19 (lowT p T k)) ∧ u.ownsRow w25.heap.size 65 3 (.slice da D.length dc) D.length (flatQ D))) := by
              show Sz _ _ _ _ _ _ _ _ _ _ _ _
              rw [hK26]
              exact HS25.out.more HBN.out (G := fun u => u.ownsRow w25.heap.size 65 3 (.slice da D.length dc) D.length (flatQ D)) ho1 (fun D u u' hu hd hc => own_ch hu hc (fun x hx => hd x (HDL.out x hx).1 (HDL.out x hx).2))
            have HK26 : Hid (∀ x, K25 x → K26 x) := fun x hx => by rw [hK26]; exact .inl hx
            have HKW : Hid (∀ x, (Value.slice da D.length dc).ownBlock = some x → K26 x) := fun x hx => by rw [hK26]; exact .inr (HDL.out x hx)
            have HC26 : Hid (w26.cell? ⟨g1, 8, none⟩ = some (.slice pa D.length pc)) := by show _ = _; rw [HBN.out.cell (p := ⟨g1, 8, none⟩) hgl]; exact HC8.out
            have HZP : Hid (Anyr lo25 65 3 D.length (.slice pa D.length pc) w26) := ⟨_, own_belowC HTP.out HBN.out⟩
            have HW26 : Hid (Below w.heap.size w w26) := HW25.out.trans (HBN.out.mono HW25.out.size)
            have hdl : (D.length : Int) ≤ 1024 := by have := HDO.out.2; omega
            clear hK26 ho1 hg1 hmx8 hgl hgn HQ0 HS25 HW25 HBN HTP HI0 HI1 HI2 HI3
            go_wp2_with fail
            go_loopw [25] (fun iv wr => ∃ i : Nat, iv = .int .i64 i ∧ i ≤ D.length ∧ Ch (fun x => (Value.slice pa D.length pc).ownBlock = some x) w26 wr ∧ Anyr lo25 65 3 D.length (.slice pa D.length pc) wr) (fun iv _ => D.length - (intOf iv).toNat)
            case atStart => exact ⟨0, rfl, Nat.zero_le _, Ch.of_below (below_same _), HZP.out⟩
            case round =>
              obtain ⟨i, rfl, hil, hch, hz⟩ := hrel
              obtain ⟨wg2, hwg⟩ : ∃ wg2, wg2 = wr := ⟨_, rfl⟩
              subst hwg
              have m8 := hch.cell HC26.out (fun hx => (HKP.out _ hx).2.1 rfl)
              by_cases hlt : i < D.length
              · have hlti : (i : Int) < (D.length : Int) := by omega
                obtain ⟨xs, hxr⟩ := id hz
                obtain ⟨gP, c', eg, _, _, _, _⟩ := row_formN hxr (by omega)
                have hpa : pa = some ⟨gP, 0, none⟩ := by injection eg
                subst hpa
                obtain ⟨⟨y0, k0⟩, s0⟩ := hz.cell (j := i * 3) (by omega)
                obtain ⟨⟨y1, k1⟩, s1⟩ := hz.cell (j := i * 3 + 1) (by omega)
                obtain ⟨⟨y2, k2⟩, s2⟩ := hz.cell (j := i * 3 + 2) (by omega)
                have HEND : Hid (Ch (fun x => (Value.slice (some ⟨gP, 0, none⟩) D.length pc).ownBlock = some x) w26 (((wg2.setCell ⟨gP, i * 3, none⟩ (.int .u64 0)).setCell ⟨gP, i * 3 + 1, none⟩ (.bool false)).setCell ⟨gP, i * 3 + 2, none⟩ (.int .u64 0)) ∧ Anyr lo25 65 3 D.length (.slice (some ⟨gP, 0, none⟩) D.length pc) (((wg2.setCell ⟨gP, i * 3, none⟩ (.int .u64 0)).setCell ⟨gP, i * 3 + 1, none⟩ (.bool false)).setCell ⟨gP, i * 3 + 2, none⟩ (.int .u64 0))) :=
                  ⟨hch.self ((((ch_set _ _ _ _).self (ch_set _ _ _ _)).self (ch_set _ _ _ _)).mono (D := fun x => x = gP) (fun x hx => by rw [hx]; rfl)), ((hz.set _ _).set _ _).set _ _⟩
                clear hch hz hxr eg
                go_wp2_with fail
                go_roundw
                case rel => exact ⟨i + 1, by go_num, by omega, HEND.out.1, HEND.out.2⟩
                case measure => simp [intOf]; omega
              have hlti : ¬ (i : Int) < (D.length : Int) := by omega
              have HS27 : Hid (Sz w1.heap.size K26 wg2 sb S P b ov p L25 [h37 p S f true (List.replicate p.n false)] (fun u => ((fun u => ((Ka w1.heap.size X p (.slice na p.l.length nc) va vc f) u ∧ u.ownsRow w14.heap.size 3 1 (.slice ta E.length tc) E.length (cellsN E)) ∧ MrK K13 u lo13 (.slice ba p.n bc) M13) u ∧ AllK K' u u19 (lowT p T k)) ∧ u.ownsRow w25.heap.size 65 3 (.slice da D.length dc) D.length (flatQ D))) :=
                HS26.out.write hch (fun x hx => HK26.out x (HKP.out x hx).1) ⟨⟨HST.out _ _ _ HS26.out.ph.1.1 (fun x hx e => by have h1 := HKL.out x hx; have h2 := HS24.out; have h3 := (HKP.out x e).2.2.1; omega) hch, HS26.out.ph.1.2.ch (fun x hx e => by have h1 := HKL.out x hx; have h2 := HS24.out; have h3 := (HKP.out x e).2.2.1; omega) hch⟩, own_ch HS26.out.ph.2 hch (fun x hx e => by have h1 := (HDL.out x hx).1; have h2 := (HKP.out x e).2.2.2; omega)⟩ HS26.out.st
              have HW27 : Hid (Below w.heap.size w wg2) := HW26.out.trans (hch.to_below HW26.out.size (fun x hx => by have h1 := (HKP.out x hx).2.2.1; have h2 := HW24.out.size; omega))
              clear hch hz hlt hil hdl HS26 HW26 HZP HC26
              go_upto_region 46 with fail
              clear m8
              go_wp2_with fail
              refine (msg17 5 (1 + p.W + (k : Int)) 0).mono ?_
              rintro e w28 ⟨rfl, hB⟩
              have HS28 : Hid (Sz w1.heap.size K26 w28 sb S P b ov p L25 [h37 p S f true (List.replicate p.n false)] (fun u => ((fun u => ((Ka w1.heap.size X p (.slice na p.l.length nc) va vc f) u ∧ u.ownsRow w14.heap.size 3 1 (.slice ta E.length tc) E.length (cellsN E)) ∧ MrK K13 u lo13 (.slice ba p.n bc) M13) u ∧ AllK K' u u19 (lowT p T k)) ∧ u.ownsRow w25.heap.size 65 3 (.slice da D.length dc) D.length (flatQ D))) := HS27.out.below hB
              have HW28 : Hid (Below w.heap.size w w28) := HW27.out.trans (hB.mono HW27.out.size)
              clear hB HS27 HW27
              go_wp2_with fail
              have htk := tk_began (S := S) (S' := S) (f := f) (A := List.replicate p.n false) HP.out HLT.out
              rw [HTE1.out, ← HDD.out] at htk
              refine (show Calls Tryz.prog 9 #[.pointer (some ⟨P, 0, none⟩), .pointer (some ⟨sb, 0, none⟩), .agg #[.int .i64 5, .int .i64 (1 + p.W + (k : Int)), .int .i64 1, .int .i64 3, .int .i64 7, .int .i64 0, .slice none 0 0, .slice none 0 0, .slice none 0 0]] w28 _ from sz_take2 (m := ⟨5, 1 + p.W + (k : Int), 1, 3, 7, 0, [], [], []⟩) HS28.out (by simp) (ml_0 w28) (small_ok (by have := HLT.out; omega) e0_ok q0_ok p0_ok) htk).mono ?_
              clear htk
              rintro e w30 ⟨a30, c30, K30, L30, M30, lo30, rfl, hM, hkk, hlo, hs, hB⟩
              obtain ⟨g2, q2, ea2, ec2, qa2, qc2, pa2, pc2, hv, hmx, htp, _⟩ := mrk_two hs.ph.2 hM
              simp only [List.length_nil, List.length_cons] at hv hmx ⊢
              rw [hv]
              have hmx8 : w30.cell? ⟨g2, 8, none⟩ = some (.slice pa2 D.length pc2) := by have h := hmx.c8; simpa using h
              have HDW : Hid (w30.ownsRow w25.heap.size 65 3 (.slice da D.length dc) D.length (flatQ D)) := hs.ph.1.2
              have HS30 : Hid (Sz w1.heap.size K30 w30 sb S P b ov p L30 [h37 p S f true (List.replicate p.n false)] (fun u => ((Ka w1.heap.size X p (.slice na p.l.length nc) va vc f) u ∧ u.ownsRow w14.heap.size 3 1 (.slice ta E.length tc) E.length (cellsN E)) ∧ MrK K13 u lo13 (.slice ba p.n bc) M13)) := hs.less hs.ph.1.1.1 (fun D u u' hu hd hc => HST.out D u u' hu (fun x hx => hd x (hkk x (HK26.out x (HK25.out x hx)))) hc)
              have HA30 : Hid (AllK K30 w30 u19 (lowT p T k)) := hs.ph.1.1.2.mono (fun x hx => hkk x (HK26.out x (HK25.out x hx)))
              have HKE : Hid (∀ x, K13 x → K30 x) := fun x hx => hkk x (HK26.out x (HK25.out x (HKK'.out x hx)))
              have HPV2 : Hid (∀ wx, Below w30.heap.size w30 wx → Qv wx (.slice pa2 D.length pc2) D) := fun wx hb => own_qv (own_belowC htp hb) HDO.out.1
              have HDV : Hid (∀ wx, Below w30.heap.size w30 wx → Qv wx (.slice da D.length dc) D) := fun wx hb => own_qv (own_belowC HDW.out hb) HDO.out.1
              have HDQ : Hid (∀ wx, Below w30.heap.size w30 wx → Ql wx da D) := fun wx hb => ql_of (own_belowC HDW.out hb) HDO.out.1
              have HW30 : Hid (Below w.heap.size w w30) := HW28.out.trans (hB.mono HB1.out.size)
              have m8 : ∀ wx, Below w30.heap.size w30 wx → wx.cell? ⟨g2, 8, none⟩ = some (.slice pa2 D.length pc2) := fun wx hb => by rw [hb.cell (p := ⟨g2, 8, none⟩) (cell_lt hmx8)]; exact hmx8
              have hkM : k < M13.length := by have h := congrArg List.length HM13.out; simp at h; have := HLT.out; omega
              obtain ⟨t, ht⟩ : ∃ t, t = M13[k]'hkM := ⟨_, rfl⟩
              have htm : t.m = bgM p 1 ⟨3, 0, 1, 3, 7, 0, E, [], []⟩ (h37 p S f false (List.replicate p.n false)).T k := by
                have h := congrArg (fun l => l[k]?) HM13.out
                simp [hkM, HLT.out] at h
                rw [ht]
                exact h
              obtain ⟨bg, hbg, hmxb⟩ := mr_mx HS30.out.ph.2.r hkM
              have htob := HS30.out.ph.2.r.ent _ (List.getElem_mem hkM)
              rw [← ht] at hmxb htob
              obtain ⟨xa3, xc3, ya3, yc3, za3, zc3, _, e2, _⟩ := to_form htob
              obtain ⟨Q, hQ⟩ : ∃ Q, Q = D.map (·.k) := ⟨_, rfl⟩
              have HQQ : Hid (Q = D.map (·.k)) := hQ
              have hm : t.m = ⟨4, 1, 1 + p.W + (k : Int), 3, 7, 0, [], Q, []⟩ := by rw [hQ, HDD.out, ← HTE.out]; exact htm
              have hb7 : w30.cell? ⟨bg, k * 9 + 7, none⟩ = some (.slice ya3 Q.length yc3) := by have h := hmxb.c7; rw [e2, hm] at h; exact h
              have hrq : w30.ownsRow lo13 50 1 (.slice ya3 Q.length yc3) Q.length (Q.map fun q : Nat => Value.int .u64 (q : Int)) := by have h := htob.q; rw [e2, hm] at h; exact h
              have HRQ := hidH hrq
              have HQL : Hid (Q.length ≤ 1048576) := by show _ ≤ _; rw [hQ, List.length_map]; have := HDO.out.2; omega
              subst hbg
              have b7 : ∀ wx, Below w30.heap.size w30 wx → wx.cell? ⟨bg, k * 9 + 7, none⟩ = some (.slice ya3 Q.length yc3) := fun wx hb => by rw [hb.cell (p := ⟨bg, k * 9 + 7, none⟩) (cell_lt hb7)]; exact hb7
              have hcap := row_formN HS30.out.ph.2.r.own (by omega)
              have hcp : p.n ≤ bc ∧ bc ≤ maxLen := by obtain ⟨g9, c9, hv, h1, h2, _⟩ := hcap; injection hv with _ h3 h4; subst h4; exact ⟨by rw [h3]; exact h1, h2⟩
              clear hv hM hkk hlo hs hB hmx htp hmx8 HS28 HW28 ht htm hmxb htob e2 hQ hm hb7 hrq hcap hkM
              go_upto_region 47 with fail
              refine wp_region_noPanic ?_
              refine wp_region_held_drew (S := (fun wx => Below w30.heap.size w30 wx)) (by kernel_rfl) ?_ (fun hHeld => ?_)
              · exact (below_drewN w30 1)
              refine wpAnyH_take (i := 0) (oi := ⟨some 215, _, _, _, _, _⟩) (v := ?_) rfl (by kernel_rfl) (by kernel_rfl) (by kernel_rfl) (fun _ _ _ h => h) (Or.inl ⟨by rfl, ?_⟩) hHeld ?_
              rotate_left
              · intro w hSw; (try dsimp only at hSw); go_simp; all_goals (with_reducible rfl)
              try simp only [Act.put, List.setIfInBounds_toArray, List.set_cons_zero, List.set_cons_succ]
              refine wpAnyH_take (i := 1) (oi := ⟨some 216, _, _, _, _, _⟩) (v := ?_) rfl (by kernel_rfl) (by kernel_rfl) (by kernel_rfl) (fun _ _ _ h => h) (Or.inl ⟨by rfl, ?_⟩) hHeld ?_
              rotate_left
              · intro w hSw; (try dsimp only at hSw); go_simp; all_goals (with_reducible rfl)
              try simp only [Act.put, List.setIfInBounds_toArray, List.set_cons_zero, List.set_cons_succ]
              refine wpAnyH_take (i := 2) (oi := ⟨some 217, _, _, _, _, _⟩) (v := ?_) rfl (by kernel_rfl) (by kernel_rfl) (by kernel_rfl) (fun _ _ _ h => h) (Or.inl ⟨by rfl, ?_⟩) hHeld ?_
              rotate_left
              · intro w hSw; (try dsimp only at hSw); go_simp; all_goals (with_reducible rfl)
              try simp only [Act.put, List.setIfInBounds_toArray, List.set_cons_zero, List.set_cons_succ]
              refine wpAnyH_take (i := 3) (oi := ⟨some 218, _, _, _, _, _⟩) (v := ?_) rfl (by kernel_rfl) (by kernel_rfl) (by kernel_rfl) (fun _ _ _ h => h) (Or.inl ⟨by rfl, ?_⟩) hHeld ?_
              rotate_left
              · intro w hSw; (try dsimp only at hSw); go_simp; all_goals (with_reducible rfl)
              try simp only [Act.put, List.setIfInBounds_toArray, List.set_cons_zero, List.set_cons_succ]
              refine wpAnyH_take (i := 4) (oi := ⟨some 219, _, _, _, _, _⟩) (v := ?_) rfl (by kernel_rfl) (by kernel_rfl) (by kernel_rfl) (fun _ _ _ h => h) (Or.inl ⟨by rfl, ?_⟩) hHeld ?_
              rotate_left
              · intro w hSw; (try dsimp only at hSw); go_simp; all_goals (with_reducible rfl)
              try simp only [Act.put, List.setIfInBounds_toArray, List.set_cons_zero, List.set_cons_succ]
              refine wpAnyH_take (i := 5) (oi := ⟨some 220, _, _, _, _, _⟩) (v := ?_) rfl (by kernel_rfl) (by kernel_rfl) (by kernel_rfl) (fun _ _ _ h => h) (Or.inl ⟨by rfl, ?_⟩) hHeld ?_
              rotate_left
              · intro w hSw; (try dsimp only at hSw); go_simp; all_goals (with_reducible rfl)
              try simp only [Act.put, List.setIfInBounds_toArray, List.set_cons_zero, List.set_cons_succ]
              refine wpAnyH_take (i := 6) (oi := ⟨some 221, _, _, _, _, _⟩) (v := ?_) rfl (by kernel_rfl) (by kernel_rfl) (by kernel_rfl) (fun _ _ _ h => h) (Or.inl ⟨by rfl, ?_⟩) hHeld ?_
              rotate_left
              · intro w hSw; (try dsimp only at hSw); go_simp; all_goals (with_reducible rfl)
              try simp only [Act.put, List.setIfInBounds_toArray, List.set_cons_zero, List.set_cons_succ]
              refine wpAnyH_take (i := 7) (oi := ⟨some 222, _, _, _, _, _⟩) (v := ?_) rfl (by kernel_rfl) (by kernel_rfl) (by kernel_rfl) (fun _ _ _ h => h) (Or.inl ⟨by rfl, ?_⟩) hHeld ?_
              rotate_left
              · intro w hSw; (try dsimp only at hSw); go_simp; all_goals (with_reducible rfl)
              try simp only [Act.put, List.setIfInBounds_toArray, List.set_cons_zero, List.set_cons_succ]
              refine wpAnyH_take (i := 8) (oi := ⟨some 223, _, _, _, _, _⟩) (v := ?_) rfl (by kernel_rfl) (by kernel_rfl) (by kernel_rfl) (fun _ _ _ h => h) (Or.inl ⟨by rfl, ?_⟩) hHeld ?_
              rotate_left
              · intro w hSw; (try dsimp only at hSw); go_simp; all_goals (with_reducible rfl)
              try simp only [Act.put, List.setIfInBounds_toArray, List.set_cons_zero, List.set_cons_succ]
              refine wpAnyH_take (i := 9) (oi := ⟨some 224, _, _, _, _, _⟩) (v := ?_) rfl (by kernel_rfl) (by kernel_rfl) (by kernel_rfl) (fun _ _ _ h => h) (Or.inl ⟨by rfl, ?_⟩) hHeld ?_
              rotate_left
              · intro w hSw; (try dsimp only at hSw); go_simp; all_goals (with_reducible rfl)
              try simp only [Act.put, List.setIfInBounds_toArray, List.set_cons_zero, List.set_cons_succ]
              refine wpAnyH_take (i := 10) (oi := ⟨some 225, _, _, _, _, _⟩) (v := ?_) rfl (by kernel_rfl) (by kernel_rfl) (by kernel_rfl) (fun _ _ _ h => h) (Or.inl ⟨by rfl, ?_⟩) hHeld ?_
              rotate_left
              · intro w hSw; (try dsimp only at hSw); go_simp; all_goals (with_reducible rfl)
              try simp only [Act.put, List.setIfInBounds_toArray, List.set_cons_zero, List.set_cons_succ]
              refine wpAnyH_take (i := 11) (oi := ⟨some 226, _, _, _, _, _⟩) (v := ?_) rfl (by kernel_rfl) (by kernel_rfl) (by kernel_rfl) (fun _ _ _ h => h) (Or.inl ⟨by rfl, ?_⟩) hHeld ?_
              rotate_left
              · intro w hSw; (try dsimp only at hSw); go_simp; all_goals (with_reducible rfl)
              try simp only [Act.put, List.setIfInBounds_toArray, List.set_cons_zero, List.set_cons_succ]
              refine wpAnyH_take (i := 12) (oi := ⟨some 227, _, _, _, _, _⟩) (v := ?_) rfl (by kernel_rfl) (by kernel_rfl) (by kernel_rfl) (fun _ _ _ h => h) (Or.inl ⟨by rfl, ?_⟩) hHeld ?_
              rotate_left
              · intro w hSw; (try dsimp only at hSw); go_simp; all_goals (with_reducible rfl)
              try simp only [Act.put, List.setIfInBounds_toArray, List.set_cons_zero, List.set_cons_succ]
              refine wpAnyH_ready (rs := [13]) (by kernel_rfl) (by simp) ?_
              refine AllReadyH.cons (o := ⟨some 228, _, _, _, _, _⟩) rfl (fun K hK => ?_) AllReadyH.nil
              go_simp
              refine (pairs_ok17 (HPV2.out _ hHeld) (HDV.out _ hHeld)).mono ?_
              rintro e w31 ⟨rfl, hB31⟩
              have HB31 : Hid (Below w30.heap.size w30 w31) := below_trans hHeld hB31
              clear hB31
              refine hK.out _ _ ?_ (fun hHeld => ?_)
              · exact HB31.out
              clear hK K
              try simp only [Act.put, List.setIfInBounds_toArray, List.set_cons_zero, List.set_cons_succ]
              refine wpAnyH_take (i := 14) (oi := ⟨some 229, _, _, _, _, _⟩) (v := ?_) rfl (by kernel_rfl) (by kernel_rfl) (by kernel_rfl) (fun _ _ _ h => h) (Or.inl ⟨by rfl, ?_⟩) hHeld ?_
              rotate_left
              · intro w hSw; (try dsimp only at hSw); go_simp; all_goals (with_reducible rfl)
              try simp only [Act.put, List.setIfInBounds_toArray, List.set_cons_zero, List.set_cons_succ]
              refine wpAnyH_take (i := 15) (oi := ⟨some 230, _, _, _, _, _⟩) (v := ?_) rfl (by kernel_rfl) (by kernel_rfl) (by kernel_rfl) (fun _ _ _ h => h) (Or.inl ⟨by rfl, ?_⟩) hHeld ?_
              rotate_left
              · intro w hSw; (try dsimp only at hSw); go_simp; all_goals (with_reducible rfl)
              try simp only [Act.put, List.setIfInBounds_toArray, List.set_cons_zero, List.set_cons_succ]
              refine wpAnyH_take (i := 16) (oi := ⟨some 231, _, _, _, _, _⟩) (v := ?_) rfl (by kernel_rfl) (by kernel_rfl) (by kernel_rfl) (fun _ _ _ h => h) (Or.inl ⟨by rfl, ?_⟩) hHeld ?_
              rotate_left
              · intro w hSw; (try dsimp only at hSw); go_simp; all_goals (with_reducible rfl)
              try simp only [Act.put, List.setIfInBounds_toArray, List.set_cons_zero, List.set_cons_succ]
              refine wpAnyH_take (i := 17) (oi := ⟨some 232, _, _, _, _, _⟩) (v := ?_) rfl (by kernel_rfl) (by kernel_rfl) (by kernel_rfl) (fun _ _ _ h => h) (Or.inl ⟨by rfl, ?_⟩) hHeld ?_
              rotate_left
              · intro w hSw; (try dsimp only at hSw); go_simp; all_goals (with_reducible rfl)
              try simp only [Act.put, List.setIfInBounds_toArray, List.set_cons_zero, List.set_cons_succ]
              refine wpAnyH_take (i := 18) (oi := ⟨some 233, _, _, _, _, _⟩) (v := ?_) rfl (by kernel_rfl) (by kernel_rfl) (by kernel_rfl) (fun _ _ _ h => h) (Or.inl ⟨by rfl, ?_⟩) hHeld ?_
              rotate_left
              · intro w hSw; (try dsimp only at hSw); go_simp; all_goals (with_reducible rfl)
              try simp only [Act.put, List.setIfInBounds_toArray, List.set_cons_zero, List.set_cons_succ]
              refine wpAnyH_take (i := 19) (oi := ⟨some 234, _, _, _, _, _⟩) (v := ?_) rfl (by kernel_rfl) (by kernel_rfl) (by kernel_rfl) (fun _ _ _ h => h) (Or.inl ⟨by rfl, ?_⟩) hHeld ?_
              rotate_left
              · intro w hSw; (try dsimp only at hSw); go_simp; all_goals (with_reducible rfl)
              try simp only [Act.put, List.setIfInBounds_toArray, List.set_cons_zero, List.set_cons_succ]
              refine wpAnyH_take (i := 20) (oi := ⟨some 235, _, _, _, _, _⟩) (v := ?_) rfl (by kernel_rfl) (by kernel_rfl) (by kernel_rfl) (fun _ _ _ h => h) (Or.inl ⟨by rfl, ?_⟩) hHeld ?_
              rotate_left
              · intro w hSw; (try dsimp only at hSw); go_simp; all_goals (with_reducible rfl)
              try simp only [Act.put, List.setIfInBounds_toArray, List.set_cons_zero, List.set_cons_succ]
              refine wpAnyH_take (i := 21) (oi := ⟨some 236, _, _, _, _, _⟩) (v := ?_) rfl (by kernel_rfl) (by kernel_rfl) (by kernel_rfl) (fun _ _ _ h => h) (Or.inl ⟨by rfl, ?_⟩) hHeld ?_
              rotate_left
              · intro w hSw; (try dsimp only at hSw); go_simp; all_goals (with_reducible rfl)
              try simp only [Act.put, List.setIfInBounds_toArray, List.set_cons_zero, List.set_cons_succ]
              refine wpAnyH_take (i := 22) (oi := ⟨some 237, _, _, _, _, _⟩) (v := ?_) rfl (by kernel_rfl) (by kernel_rfl) (by kernel_rfl) (fun _ _ _ h => h) (Or.inl ⟨by rfl, ?_⟩) hHeld ?_
              rotate_left
              · intro w hSw; (try dsimp only at hSw); go_simp; all_goals (with_reducible rfl)
              try simp only [Act.put, List.setIfInBounds_toArray, List.set_cons_zero, List.set_cons_succ]
              refine wpAnyH_ready (rs := [23]) (by kernel_rfl) (by simp) ?_
              refine AllReadyH.cons (o := ⟨some 238, _, _, _, _, _⟩) rfl (fun K hK => ?_) AllReadyH.nil
              go_simp
              refine (keys_walk (l := D) (ca := dc) (by have := HDO.out.2; omega) (HDQ.out _ hHeld)).mono ?_
              rintro e w32 ⟨v32, rfl, hr32, hB32⟩
              have HB32 : Hid (Below w30.heap.size w30 w32) := below_trans hHeld hB32
              have HR32 := hidH (keys_row hr32)
              clear hr32 hB32
              refine hK.out _ _ ?_ (fun hHeld => ?_)
              · exact HB32.out
              clear hK K
              try simp only [Act.put, List.setIfInBounds_toArray, List.set_cons_zero, List.set_cons_succ]
              refine wpAnyH_ready (rs := [24]) (by kernel_rfl) (by simp) ?_
              refine AllReadyH.cons (o := ⟨some 239, _, _, _, _, _⟩) rfl (fun K hK => ?_) AllReadyH.nil
              go_simp
              refine (keys_ok17 (own_belowC HRQ.out HB32.out) (by rw [HQQ.out]; exact HR32.out) HQL.out).mono ?_
              rintro e w33 ⟨rfl, hB33⟩
              have HB33 : Hid (Below w30.heap.size w30 w33) := below_trans HB32.out hB33
              clear hB33
              refine hK.out _ _ ?_ (fun hHeld => ?_)
              · exact HB33.out
              clear hK K
              try simp only [Act.put, List.setIfInBounds_toArray, List.set_cons_zero, List.set_cons_succ]
              refine wpAnyH_take (i := 25) (oi := ⟨some 240, _, _, _, _, _⟩) (v := ?_) rfl (by kernel_rfl) (by kernel_rfl) (by kernel_rfl) (fun _ _ _ h => h) (Or.inl ⟨by rfl, ?_⟩) hHeld ?_
              rotate_left
              · intro w hSw; (try dsimp only at hSw); go_simp; all_goals (with_reducible rfl)
              try simp only [Act.put, List.setIfInBounds_toArray, List.set_cons_zero, List.set_cons_succ]
              refine wpAnyH_take (i := 26) (oi := ⟨some 241, _, _, _, _, _⟩) (v := ?_) rfl (by kernel_rfl) (by kernel_rfl) (by kernel_rfl) (fun _ _ _ h => h) (Or.inl ⟨by rfl, ?_⟩) hHeld ?_
              rotate_left
              · intro w hSw; (try dsimp only at hSw); go_simp; all_goals (with_reducible rfl)
              try simp only [Act.put, List.setIfInBounds_toArray, List.set_cons_zero, List.set_cons_succ]
              refine wpAnyH_done (by kernel_rfl) ?_ _
              refine NoPanic.normal ?_
              have HS33 : Hid (Sz w1.heap.size K30 w33 sb S P b ov p L30 [h37 p S f true (List.replicate p.n false)] (fun u => ((Ka w1.heap.size X p (.slice na p.l.length nc) va vc f) u ∧ u.ownsRow w14.heap.size 3 1 (.slice ta E.length tc) E.length (cellsN E)) ∧ MrK K13 u lo13 (.slice (some ⟨bg, 0, none⟩) p.n bc) M13)) := HS30.out.below HB33.out
              have HA33 : Hid (AllK K30 w33 u19 (lowT p T k)) := HA30.out.ch (D := fun _ => False) (fun _ _ e => e) (Ch.of_below HB33.out)
              have HQV : Hid (Qv w33 (.slice da D.length dc) D) := HDV.out w33 HB33.out
              have HW33 : Hid (Below w.heap.size w w33) := HW30.out.trans (HB33.out.mono HW30.out.size)
              have z4 := HS33.out.ph.1.1.x.c4
              clear m8 b7 hcp HS30 HA30 HW30 HRQ HR32
              go_wp2_with fail
              refine (add_good (kind := p.A) (a := lowT p T k) (b := D) (HA33.out.qv (ok_low HTO.out k) (by have := low_len p T k; have := HTL.out; simp only [maxLen]; omega)) HQV.out (Pn.is_kn HP.out).2 (tab_iff.2 ⟨rise_low HTR.out k, has_low HTH.out k⟩) (by rw [HDD.out]; exact tab_iff.2 ⟨rise_deal HTR.out k, has_deal HTH.out k⟩) (by have h1 := low_len p T k; have h2 := HTL.out; have h3 := HDO.out.2; omega)).mono ?_
              rintro e w34 ⟨g34, rfl, hmq, hg1, hg2, hB⟩
              have hlow : addT p.A (lowT p T k) D = lowT p T (k + 1) := by rw [HDD.out]; exact low_step (Pn.is_kn HP.out).2 HTR.out HTH.out HTO.out HTF.out k
              rw [hlow] at hmq ⊢
              obtain ⟨K34, hK34⟩ : ∃ K34 : Nat → Prop, K34 = fun z => K30 z ∨ (w33.heap.size ≤ z ∧ z < w34.heap.size) := ⟨_, rfl⟩
              have HS34 : Hid (Sz w1.heap.size K34 w34 sb S P b ov p L30 [h37 p S f true (List.replicate p.n false)] (fun u => ((Ka w1.heap.size X p (.slice na p.l.length nc) va vc f) u ∧ u.ownsRow w14.heap.size 3 1 (.slice ta E.length tc) E.length (cellsN E)) ∧ MrK K13 u lo13 (.slice (some ⟨bg, 0, none⟩) p.n bc) M13)) := by
                have h := HS33.out.more hB (G := fun _ => True) trivial (fun _ _ _ _ _ _ => trivial)
                rw [hK34]
                exact h.less h.ph.1 (fun D u u' hu hd hc => (h.st D u u' ⟨hu, trivial⟩ hd hc).1)
              have HA34 : Hid (AllK K34 w34 (.slice (some ⟨g34, 0, none⟩) (lowT p T (k + 1)).length (lowT p T (k + 1)).length) (lowT p T (k + 1))) := .inr ⟨g34, rfl, hmq, by rw [hK34]; exact .inr ⟨hg1, hg2⟩⟩
              have HKF2 : Hid (∀ x, K13 x → K34 x) := fun x hx => by rw [hK34]; exact .inl (HKE.out x hx)
              have HW34 : Hid (Below w.heap.size w w34) := HW33.out.trans (hB.mono HW33.out.size)
              clear hlow hmq hg1 hg2 hB hK34 z4 HS33 HA33 HQV HW33
              go_wp2_with fail
              go_roundw
              case rel => exact ⟨k + 1, K34, L30, by go_num, HLT.out, HKF2.out, HS34.out, HA34.out, HW34.out⟩
              case measure => have := HLT.out; simp [intOf]; omega
          have hlti : ¬ (k : Int) < (p.n : Int) := by omega
          have hkp : k = p.n := by omega
          have HAe : Hid (AllK K' wr u19 T) := by have h := HAk.out; rw [hkp, low_all HP.out] at h; exact h
          clear hlt hkp
          go_upto_region 52 with fail
          clear d1
          go_wp2_with fail
          obtain ⟨D0, hD0, _⟩ := HSk.out.pw.src
          refine (again_walk hD0 (own_nv HSk.out.ph.1.1.f HFI.out) (own_nv HSk.out.ph.1.2 HEO.out)).mono ?_
          rintro e w40 ⟨rv, rfl, hrv, hB⟩
          obtain ⟨ag1, ag2⟩ := again_grw (grw_refl S) HFit.out HEF.out.1 HEF.out.2
          rw [ag2] at hrv
          rw [ag1]
          have HRW : Hid (w40.ownsRow wr.heap.size 53 2 rv (betS S f E f.length).length (flatR (betS S f E f.length))) := hrv
          have HS40 : Hid (Sz w1.heap.size K' w40 sb S P b ov p L' [h37 p S f true (List.replicate p.n false)] (fun u => ((Ka w1.heap.size X p (.slice na p.l.length nc) va vc f) u ∧ u.ownsRow w14.heap.size 3 1 (.slice ta E.length tc) E.length (cellsN E)) ∧ MrK K13 u lo13 (.slice ba p.n bc) M13)) := HSk.out.below hB
          have HA40 : Hid (AllK K' w40 u19 T) := HAe.out.ch (D := fun _ => False) (fun _ _ e => e) (Ch.of_below hB)
          have HW40 : Hid (Below w.heap.size w w40) := HWk.out.trans (hB.mono HWk.out.size)
          have z4 := HS40.out.ph.1.1.x.c4
          clear hrv hB hD0 ag1 ag2 HSk HAk HAe HWk
          go_wp2_with fail
          refine (batch_good (kind := p.A) (l := p.l) (recs := betS S f E f.length) (HO.out.below HW40.out) (own_rv HRW.out HRL.out.2) (Pn.is_kn HP.out).1 (Pn.is_kn HP.out).2 (by have := HRL.out.1; omega)).mono ?_
          rintro e w41 ⟨g2, rfl, hmq, hg1, hg2, hB⟩
          rw [← HTT.out] at hmq ⊢
          have HMQ : Hid (Mq w41 g2 T) := hmq
          have HA41 : Hid (AllK K' w41 u19 T) := HA40.out.ch (D := fun _ => False) (fun _ _ e => e) (Ch.of_below hB)
          have HW41 : Hid (Below w.heap.size w w41) := HW40.out.trans (hB.mono HW40.out.size)
          clear hmq hg1 hg2 hB z4 HA40 HW40 HRW
          go_wp2_with fail
          refine (pairs_ok17 (HA41.out.qv HTO.out (by have := HTL.out; simp only [maxLen]; omega)) (mq_qvT HMQ.out HTO.out (by have := HTL.out; simp only [maxLen]; omega))).mono ?_
          rintro e w42 ⟨rfl, hB⟩
          have HW42 : Hid (Below w.heap.size w w42) := HW41.out.trans (hB.mono HW41.out.size)
          clear hB
          go_wp2_with fail
          go_ret
          exact ⟨rfl, HW42.out⟩
end Go.Proofs.YtopjedgknbbgkaaGreat
