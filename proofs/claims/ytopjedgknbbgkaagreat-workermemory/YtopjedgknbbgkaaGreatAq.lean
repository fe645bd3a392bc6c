/- ready. -/
import Derived.Test.YtopjedgknbbgkaaGreatAp
namespace Go.Proofs.YtopjedgknbbgkaaGreat

open Go.RowKit



/-- A case in block g. -/
structure Cb (w : World) (g : Nat) (p : Pn) (ov rv : Value) (off : Int) (fv : Value) : Prop where
  b : Bx w g p ov
  c8 : w.cell? ⟨g, 8, none⟩ = some rv
  c9 : w.cell? ⟨g, 9, none⟩ = some (.int .i64 off)
  c10 : w.cell? ⟨g, 10, none⟩ = some fv
theorem Cb.below {w w' : World} {B g : Nat} {p : Pn} {ov rv : Value} {off : Int} {fv : Value} (h : Cb w g p ov rv off fv) (hb : Below B w w') (hg : g < B) : Cb w' g p ov rv off fv :=
  ⟨h.b.below hb hg, by rw [hb.cell (p := ⟨g, 8, none⟩) hg]; exact h.c8, by rw [hb.cell (p := ⟨g, 9, none⟩) hg]; exact h.c9, by rw [hb.cell (p := ⟨g, 10, none⟩) hg]; exact h.c10⟩
theorem Cb.keep {w w' : World} {g : Nat} {p : Pn} {ov rv : Value} {off : Int} {fv : Value} (h : Cb w g p ov rv off fv) (hb : Below w.heap.size w w') : Cb w' g p ov rv off fv := h.below hb (cell_lt h.c8)
theorem cb_new (w : World) (p : Pn) (ov rv : Value) (off : Int) (fv : Value) : Cb (w.alloc (Obj.cells #[.int .i64 p.P, .int .i64 p.S, .int .i64 p.W, ov, .int .i64 p.A, .int .i64 p.B, .int .i64 p.N, .int .i64 p.G, rv, .int .i64 off, fv] 28)) w.heap.size p ov rv off fv := by
  refine ⟨?_, ?_, ?_, ?_⟩
  · constructor <;> simp [go_sem]
  · simp [go_sem]
  · simp [go_sem]
  · simp [go_sem]
theorem prod_np (S : Sc) (j : Int) (r : Rcd) : (prodS S j r).2.np = S.np ∧ (prodS S j r).2.list = S.list := by
  unfold prodS
  split
  · split
    · exact ⟨rfl, rfl⟩
    · split
      · split
        · exact ⟨rfl, rfl⟩
        · exact ⟨rfl, rfl⟩
      · exact ⟨rfl, rfl⟩
  · exact ⟨rfl, rfl⟩
theorem switch_np (S : Sc) (j : Int) (on : Bool) : (switchS S j on).np = S.np ∧ (switchS S j on).list = S.list := by
  unfold switchS
  split <;> exact ⟨rfl, rfl⟩
set_option maxRecDepth 100000 in
set_option maxHeartbeats 4000000 in
theorem ready_no {w : World} {p : Pn} {oa ra fa : Option Addr} {oc rc fc : Nat} {recs : List Rcd} {off : Int} {fr : List Int} (ho : Ov w (.slice oa p.l.length oc) p.l) (hr : Rv w (.slice ra recs.length rc) recs) (hf : Nv w (.slice fa fr.length fc) fr) (hp : p.is = false) : Calls Tryz.prog 6 #[.agg #[.int .i64 p.P, .int .i64 p.S, .int .i64 p.W, .slice oa p.l.length oc, .int .i64 p.A, .int .i64 p.B, .int .i64 p.N, .int .i64 p.G, .slice ra recs.length rc, .int .i64 off, .slice fa fr.length fc]] w fun e w' => e = .returned (.tuple #[.pointer none, .pointer none, .slice none 0 0]) ∧ Below w.heap.size w w' := by
  have HP : Hid (p.is = false) := hp
  clear hp
  have HO : Hid (Ov w (.slice oa p.l.length oc) p.l) := ho
  have HRV : Hid (Rv w (.slice ra recs.length rc) recs) := hr
  have HFV : Hid (Nv w (.slice fa fr.length fc) fr) := hf
  have HC0 : Hid _ := cb_new w p (.slice oa p.l.length oc) (.slice ra recs.length rc) off (.slice fa fr.length fc)
  have HB0 : Hid _ := below_alloc w (Obj.cells #[.int .i64 p.P, .int .i64 p.S, .int .i64 p.W, .slice oa p.l.length oc, .int .i64 p.A, .int .i64 p.B, .int .i64 p.N, .int .i64 p.G, .slice ra recs.length rc, .int .i64 off, .slice fa fr.length fc] 28)
  clear ho hr hf
  go_enter Tryz.func6, Tryz.ntmps6
  go_upto_region 1 with fail
  obtain ⟨C, hC⟩ : ∃ C, C = w.heap.size := ⟨_, rfl⟩
  rw [← hC] at HC0 ⊢
  clear hC
  generalize w.alloc (Obj.cells #[.int .i64 p.P, .int .i64 p.S, .int .i64 p.W, .slice oa p.l.length oc, .int .i64 p.A, .int .i64 p.B, .int .i64 p.N, .int .i64 p.G, .slice ra recs.length rc, .int .i64 off, .slice fa fr.length fc] 28) = w1 at HC0 HB0 ⊢
  have c0 := HC0.out.b.c0
  have c1 := HC0.out.b.c1
  have c2 := HC0.out.b.c2
  have c3 := HC0.out.b.c3
  have c4 := HC0.out.b.c4
  have c5 := HC0.out.b.c5
  have c6 := HC0.out.b.c6
  have c7 := HC0.out.b.c7
  go_upto_region 2 with fail
  clear c0 c1 c2 c3 c4 c5 c6 c7
  have HX2 : Hid (Bx _ w1.heap.size p (.slice oa p.l.length oc)) := box_new w1 p (.slice oa p.l.length oc)
  have HB12 : Hid _ := below_alloc w1 (Obj.cells #[.int .i64 p.P, .int .i64 p.S, .int .i64 p.W, .slice oa p.l.length oc, .int .i64 p.A, .int .i64 p.B, .int .i64 p.N, .int .i64 p.G] 24)
  have HXL : Hid (w1.heap.size < (w1.alloc (Obj.cells #[.int .i64 p.P, .int .i64 p.S, .int .i64 p.W, .slice oa p.l.length oc, .int .i64 p.A, .int .i64 p.B, .int .i64 p.N, .int .i64 p.G] 24)).heap.size) := by show _ < _; rw [size_allocC]; omega
  obtain ⟨X, hX⟩ : ∃ X, X = w1.heap.size := ⟨_, rfl⟩
  rw [← hX] at HX2 HXL ⊢
  clear hX
  generalize w1.alloc (Obj.cells #[.int .i64 p.P, .int .i64 p.S, .int .i64 p.W, .slice oa p.l.length oc, .int .i64 p.A, .int .i64 p.B, .int .i64 p.N, .int .i64 p.G] 24) = w2 at HX2 HB12 HXL ⊢
  have HC2 : Hid _ := HC0.out.keep HB12.out
  have HB2 : Hid (Below w.heap.size w w2) := below_trans HB0.out HB12.out
  clear HC0 HB0 HB12
  have HXk : Hid (∀ wz, Below w2.heap.size w2 wz → Bx wz X p (.slice oa p.l.length oc)) := fun wz h => HX2.out.below h HXL.out
  have c0 := HX2.out.c0
  have c3 := HX2.out.c3
  by_cases hP : p.P < 1 ∨ 4 < p.P
  · go_wp2_with fail
    refine (new_arg hP).mono ?_
    rintro e w3 ⟨rfl, hB3⟩
    have HB3 : Hid (Below w.heap.size w w3) := by show Below _ _ _; rw [hB3]; exact HB2.out
    clear hB3 c0 c3
    go_wp2_with fail
    refine bodyPost_ret (v := .tuple #[.pointer none, .pointer none, .slice none 0 0]) (by simp [results, Tryz.results6, go_sem]) rfl ?_
    exact ⟨rfl, HB3.out⟩
  by_cases hcl : checkB p.l = true
  rotate_left
  · go_wp2_with fail
    refine (new_ops (by omega) (by omega) (HO.out.below HB2.out) (by simpa using hcl)).mono ?_
    rintro e w3 ⟨rfl, hB3⟩
    have HB3 : Hid (Below w.heap.size w w3) := below_trans HB2.out hB3
    clear hB3 c0 c3
    go_wp2_with fail
    refine bodyPost_ret (v := .tuple #[.pointer none, .pointer none, .slice none 0 0]) (by simp [results, Tryz.results6, go_sem]) rfl ?_
    exact ⟨rfl, HB3.out⟩
  obtain ⟨n, hn⟩ : ∃ n : Nat, p.P = (n : Int) := ⟨p.P.toNat, by omega⟩
  rw [hn] at c0
  have HPN : Hid (p.P = (n : Int)) := hn
  have HN : Hid (1 ≤ n ∧ n ≤ 4) := ⟨by omega, by omega⟩
  have HCL : Hid (checkB p.l = true) := hcl
  clear hP hn hcl
  go_wp2_with fail
  refine (new_ok HN.out.1 HN.out.2 (HO.out.below HB2.out) HCL.out).mono ?_
  rintro e w3 ⟨v, D, rfl, hs, hB3, hd⟩
  obtain ⟨sb, gp, gm, lv, rv, rfl, _, _⟩ := id hs
  have HB3 : Hid (Below w.heap.size w w3) := below_trans HB2.out hB3
  have HX3 : Hid _ := HXk.out w3 hB3
  clear hs hd hB3 c0 c3
  have c0 := HX3.out.c0
  have c1 := HX3.out.c1
  have c2 := HX3.out.c2
  have c3 := HX3.out.c3
  have c4 := HX3.out.c4
  have c5 := HX3.out.c5
  have c6 := HX3.out.c6
  have c7 := HX3.out.c7
  go_wp2_with fail
  refine (pcheck_walk (p := p) (HO.out.below HB3.out)).mono ?_
  rintro e w4 ⟨rfl, hB4⟩
  have HB4 : Hid (Below w.heap.size w w4) := below_trans HB3.out hB4
  have hc : (p.chk != 0) = true := by have h := Pn.chk_no HP.out; rw [bne, h]; rfl
  clear hB4 c0 c1 c2 c3 c4 c5 c6 c7
  go_wp2_with fail
  refine bodyPost_ret (v := .tuple #[.pointer none, .pointer none, .slice none 0 0]) (by simp [results, Tryz.results6, go_sem]) rfl ?_
  exact ⟨rfl, HB4.out⟩
def zeros (q : Nat) : List Int := List.replicate q 0
theorem zeros_len (q : Nat) : (zeros q).length = q := by simp [zeros]
theorem zeros_nth (q i : Nat) : nth (zeros q) i = 0 := by
  unfold nth zeros
  rw [List.getD_eq_getElem?_getD, List.getElem?_replicate]
  split <;> rfl
theorem made_ints (w : World) {q : Nat} (hq : q ≤ 4) : Zw (w.alloc (.cells (madeCells #[.int .i64 0] q) 3)) w.heap.size q (zeros q) := by
  refine ⟨⟨_, heap_alloc_new w _, by simp [madeCells], fun i hi => ?_⟩, by rw [zeros_len]; exact Nat.le_refl _, by simp only [maxLen]; omega⟩
  rw [zeros_len] at hi
  rw [zeros_nth]
  simp [madeCells, hi, Nat.mod_one]
theorem make_ints {q : Nat} (hq : q ≤ 4) : ∀ wx : World, (Instr.makeSlice 26 (.int .i64 q) (.int .i64 q)).run Tryz.prog wx = .ok (.slice (some ⟨wx.heap.size, 0, none⟩) q q) (wx.alloc (.cells (madeCells #[.int .i64 0] q) 3)) := fun wx => by
  obtain ⟨i0, hi0, hz0, hz1, hz2⟩ := info_partsQ info_int
  have := run_make (P := Tryz.prog) wx 26 3 i0 (.int .i64 0) Tryz.underlying26 hi0 hz0 .i64 .i64 q q (by omega) (Int.le_refl _) (by rw [hz2]; omega) (by omega)
  rw [hz1, Nat.mul_one] at this
  simp only [Int.toNat_natCast] at this
  exact this
theorem kind_one {p : Pn} (hp : p.is = true) : p.kind 1 = 2 := by
  have h := Pn.is_num hp
  unfold Pn.kind Pn.nodes
  rw [hp, if_neg (by simp only [if_true]; omega), if_neg (by omega), if_pos (by omega)]
def parF (n : Int) (x : Int) : Nat := ((x % 18446744073709551616) % n).toNat
theorem parF_lt {n x : Int} (h : 1 ≤ n) : (parF n x : Int) < n := by unfold parF; have := Int.emod_lt_of_pos (x % 18446744073709551616) (show 0 < n by omega); have := Int.emod_nonneg (x % 18446744073709551616) (show n ≠ 0 by omega); omega
theorem parF_rem' {n x : Int} (h : 1 ≤ n) : (IntKind.u64.wrap x) % n = (parF n x : Int) := by
  rw [IntKind.wrap_u64]
  unfold parF
  have := Int.emod_nonneg (x % 18446744073709551616) (show n ≠ 0 by omega)
  omega
theorem parF_rem {n x : Int} (h : 1 ≤ n) : (IntKind.u64.wrap x).tmod n = (parF n x : Int) := by
  have h0 : 0 ≤ IntKind.u64.wrap x := by rw [IntKind.wrap_u64]; omega
  rw [Int.tmod_eq_emod_of_nonneg h0, parF_rem' h]
/-- What ready leaves where the plan is one. -/
def RdR (w : World) (p : Pn) (sb P : Nat) (fv : Value) (w' : World) : Prop :=
  ∃ K S b ov f, Pw w.heap.size K w' sb S P b ov p 1 [] ∧ w'.ownsRow w.heap.size 3 1 fv f.length (cellsN f) ∧ (∀ x, fv.ownBlock = some x → K x) ∧ Fit S f ∧ S.np = p.P.toNat ∧ S.list = p.l ∧ Below w.heap.size w w'
theorem rd_fin {w w2 wr w8 : World} {p : Pn} {sb P b g n : Nat} {ov : Value} {S : Sc} {f : List Int} {D : Nat → Prop} (hB2 : Below w.heap.size w w2) (hBr : Below w2.heap.size w2 wr) (hg : w2.heap.size ≤ g) (hz : Zw wr g n f) (hfn : f.length = n) (hfit : Fit S f) (hs : Src D wr (.pointer (some ⟨sb, 0, none⟩)) S) (hD : ∀ x, D x → w2.heap.size ≤ x) (hDg : ∀ z, D z → z ≠ g) (hn : NwR wr p 1 P b ov w8) (hnp : S.np = p.P.toNat) (hl : S.list = p.l) : RdR w p sb P (.slice (some ⟨g, 0, none⟩) n n) w8 := by
  obtain ⟨h1, h2, h3⟩ := hn
  have s2 := hB2.size
  have sr := hBr.size
  have hgl := hz.lt
  refine ⟨fun x => x = g, S, b, ov, f, ⟨⟨D, hs.below h3, fun x hx => ⟨by have := hD x hx; omega, fun e => by have := h2 x e; have := hs.lt hx; omega, hDg x hx⟩⟩, h1, fun x hx => ⟨by have := h2 x hx; omega, fun e => by have := h2 x hx; omega⟩, fun x hx => by subst hx; exact Nat.lt_of_lt_of_le hgl h3.size⟩, ?_, fun x hx => by cases hx; rfl, hfit, hnp, hl, (hB2.trans (hBr.mono s2)).trans (h3.mono (by omega))⟩
  have ho := own_belowC (hz.own (base := w.heap.size) (by omega)) h3
  rw [hfn] at ho ⊢
  exact ho
set_option maxRecDepth 100000 in
set_option maxHeartbeats 4000000 in
theorem ready_ok {w : World} {p : Pn} {oa ra fa : Option Addr} {oc rc fc : Nat} {recs : List Rcd} {off : Int} {fr : List Int} (ho : Ov w (.slice oa p.l.length oc) p.l) (hr : Rv w (.slice ra recs.length rc) recs) (hf : Nv w (.slice fa fr.length fc) fr) (hp : p.is = true) : Calls Tryz.prog 6 #[.agg #[.int .i64 p.P, .int .i64 p.S, .int .i64 p.W, .slice oa p.l.length oc, .int .i64 p.A, .int .i64 p.B, .int .i64 p.N, .int .i64 p.G, .slice ra recs.length rc, .int .i64 off, .slice fa fr.length fc]] w fun e w' => ∃ sb P fv, e = .returned (.tuple #[.pointer (some ⟨sb, 0, none⟩), .pointer (some ⟨P, 0, none⟩), fv]) ∧ RdR w p sb P fv w' := by
  have HP : Hid (p.is = true) := hp
  have HKN : Hid _ := Pn.is_kn hp
  obtain ⟨⟨hP1, hP4⟩, ⟨s1, s2⟩, ⟨w1', w2'⟩, _⟩ := Pn.is_num hp
  clear hp
  have HO : Hid (Ov w (.slice oa p.l.length oc) p.l) := ho
  have HRV : Hid (Rv w (.slice ra recs.length rc) recs) := hr
  have HFV : Hid (Nv w (.slice fa fr.length fc) fr) := hf
  have HC0 : Hid _ := cb_new w p (.slice oa p.l.length oc) (.slice ra recs.length rc) off (.slice fa fr.length fc)
  have HB0 : Hid _ := below_alloc w (Obj.cells #[.int .i64 p.P, .int .i64 p.S, .int .i64 p.W, .slice oa p.l.length oc, .int .i64 p.A, .int .i64 p.B, .int .i64 p.N, .int .i64 p.G, .slice ra recs.length rc, .int .i64 off, .slice fa fr.length fc] 28)
  clear ho hr hf
  go_enter Tryz.func6, Tryz.ntmps6
  go_upto_region 1 with fail
  obtain ⟨C, hC⟩ : ∃ C, C = w.heap.size := ⟨_, rfl⟩
  rw [← hC] at HC0 ⊢
  clear hC
  generalize w.alloc (Obj.cells #[.int .i64 p.P, .int .i64 p.S, .int .i64 p.W, .slice oa p.l.length oc, .int .i64 p.A, .int .i64 p.B, .int .i64 p.N, .int .i64 p.G, .slice ra recs.length rc, .int .i64 off, .slice fa fr.length fc] 28) = w1 at HC0 HB0 ⊢
  have c0 := HC0.out.b.c0
  have c1 := HC0.out.b.c1
  have c2 := HC0.out.b.c2
  have c3 := HC0.out.b.c3
  have c4 := HC0.out.b.c4
  have c5 := HC0.out.b.c5
  have c6 := HC0.out.b.c6
  have c7 := HC0.out.b.c7
  go_upto_region 2 with fail
  clear c0 c1 c2 c3 c4 c5 c6 c7
  have HX2 : Hid (Bx _ w1.heap.size p (.slice oa p.l.length oc)) := box_new w1 p (.slice oa p.l.length oc)
  have HB12 : Hid _ := below_alloc w1 (Obj.cells #[.int .i64 p.P, .int .i64 p.S, .int .i64 p.W, .slice oa p.l.length oc, .int .i64 p.A, .int .i64 p.B, .int .i64 p.N, .int .i64 p.G] 24)
  have HXL : Hid (w1.heap.size < (w1.alloc (Obj.cells #[.int .i64 p.P, .int .i64 p.S, .int .i64 p.W, .slice oa p.l.length oc, .int .i64 p.A, .int .i64 p.B, .int .i64 p.N, .int .i64 p.G] 24)).heap.size) := by show _ < _; rw [size_allocC]; omega
  obtain ⟨X, hX⟩ : ∃ X, X = w1.heap.size := ⟨_, rfl⟩
  rw [← hX] at HX2 HXL ⊢
  clear hX
  generalize w1.alloc (Obj.cells #[.int .i64 p.P, .int .i64 p.S, .int .i64 p.W, .slice oa p.l.length oc, .int .i64 p.A, .int .i64 p.B, .int .i64 p.N, .int .i64 p.G] 24) = w2 at HX2 HB12 HXL ⊢
  have HC2 : Hid _ := HC0.out.keep HB12.out
  have HB2 : Hid (Below w.heap.size w w2) := below_trans HB0.out HB12.out
  clear HC0 HB0 HB12
  have HXk : Hid (∀ wz, Below w2.heap.size w2 wz → Bx wz X p (.slice oa p.l.length oc)) := fun wz h => HX2.out.below h HXL.out
  have c0 := HX2.out.c0
  have c3 := HX2.out.c3
  obtain ⟨n, hn⟩ : ∃ n : Nat, p.P = (n : Int) := ⟨p.P.toNat, by omega⟩
  rw [hn] at c0
  have HPN : Hid (p.P = (n : Int)) := hn
  have HN : Hid (1 ≤ n ∧ n ≤ 4) := ⟨by omega, by omega⟩
  have hn1 : (1 : Int) ≤ (n : Int) := by omega
  have hn4 : (n : Int) ≤ 4 := by omega
  clear hn hP1 hP4
  go_wp2_with fail
  refine (newB HN.out.1 HN.out.2 (HO.out.below HB2.out) HKN.out.1).mono ?_
  rintro e w3 ⟨v, rfl, hs, hB3⟩
  obtain ⟨sb, rfl⟩ := hs.form
  have HB3 : Hid (Below w.heap.size w w3) := below_trans HB2.out hB3
  have HB23 : Hid (Below w2.heap.size w2 w3) := hB3
  have HX3 : Hid _ := HXk.out w3 hB3
  have HXL3 : Hid (X < w3.heap.size) := Nat.lt_of_lt_of_le HXL.out hB3.size
  have HC3 : Hid _ := HC2.out.keep hB3
  have HSB : Hid (Sb w2.heap.size w3 (.pointer (some ⟨sb, 0, none⟩)) (newS n p.l)) := hs
  clear hs hB3 c0 c3 HXk
  have c0 := HX3.out.c0
  have c1 := HX3.out.c1
  have c2 := HX3.out.c2
  have c3 := HX3.out.c3
  have c4 := HX3.out.c4
  have c5 := HX3.out.c5
  have c6 := HX3.out.c6
  have c7 := HX3.out.c7
  go_wp2_with fail
  refine (pcheck_walk (p := p) (HO.out.below HB3.out)).mono ?_
  rintro e w4 ⟨he, hB4⟩
  rw [Pn.chk_ok HP.out] at he
  subst he
  have HB4 : Hid (Below w.heap.size w w4) := below_trans HB3.out hB4
  have HB24 : Hid (Below w2.heap.size w2 w4) := below_trans HB23.out hB4
  have HX4 : Hid _ := HX3.out.below hB4 HXL3.out
  have HXL4 : Hid (X < w4.heap.size) := Nat.lt_of_lt_of_le HXL3.out hB4.size
  have HC4 : Hid _ := HC3.out.keep hB4
  have HS4 : Hid (Sb w2.heap.size w4 (.pointer (some ⟨sb, 0, none⟩)) (newS n p.l)) := HSB.out.below hB4
  clear hB4 c0 c1 c2 c3 c4 c5 c6 c7 HX3 HXL3 HC3 HB23 HX4 HXL4 HC4
  have HRL : Hid (recs.length ≤ maxLen) := by obtain ⟨⟨ao, cap, e, h1, h2, _⟩, _⟩ := HRV.out; show _ ≤ _; omega
  have hrl : (recs.length : Int) ≤ 9223372036854775807 := by have := HRL.out; unfold maxLen at this; omega
  have HCk : Hid (∀ wz, Below w2.heap.size w2 wz → Cb wz C p (.slice oa p.l.length oc) (.slice ra recs.length rc) off (.slice fa fr.length fc)) := fun wz h => HC2.out.keep h
  have HXk : Hid (∀ wz, Below w2.heap.size w2 wz → Bx wz X p (.slice oa p.l.length oc)) := fun wz h => HX2.out.below h HXL.out
  clear HX2 HC2
  go_wp2_with fail
  go_loopw [8] (fun iv wr => ∃ (i : Nat) (S : Sc), iv = .int .i64 i ∧ i ≤ 600 ∧ Sb w2.heap.size wr (.pointer (some ⟨sb, 0, none⟩)) S ∧ S.np = n ∧ S.list = p.l ∧ Below w2.heap.size w2 wr) (fun iv _ => 600 - (intOf iv).toNat)
  case atStart => exact ⟨0, newS n p.l, rfl, Nat.zero_le _, HS4.out, rfl, rfl, HB24.out⟩
  case round =>
    obtain ⟨i, S, rfl, hil, h1, h2, h3, h4⟩ := hrel
    have HSr : Hid (Sb w2.heap.size wr (.pointer (some ⟨sb, 0, none⟩)) S) := h1
    have HSn : Hid (S.np = n ∧ S.list = p.l) := ⟨h2, h3⟩
    have HBr : Hid (Below w2.heap.size w2 wr) := h4
    clear h1 h2 h3 h4 HS4
    have c8 := (HCk.out wr HBr.out).c8
    by_cases hlt : i < recs.length ∧ i < 600
    · have hlti : (i : Int) < (recs.length : Int) := by omega
      have hl6 : (i : Int) < 600 := by omega
      have HLT : Hid (i < 600) := hlt.2
      obtain ⟨⟨ra', rc', e, _, _, _, hrl0⟩, hrok⟩ := HRV.out.below HB2.out
      simp only [Value.slice.injEq] at e
      obtain ⟨g, o1, e1, k0, k1⟩ := hrl0 i hlt.1
      have era : ra = some ⟨g, o1, none⟩ := by rw [e.1, e1]
      subst era
      obtain ⟨r, hr⟩ : ∃ r, r = recs[i]'hlt.1 := ⟨_, rfl⟩
      rw [← hr] at k0 k1
      have HRO : Hid r.ok := by rw [hr]; exact hrok _ (List.getElem_mem _)
      have HGL : Hid (g < w2.heap.size) := cell_lt k0
      have HK0 : Hid (∀ wz, Below w2.heap.size w2 wz → wz.cell? ⟨g, o1 + i * 2, none⟩ = some (.int .u64 r.k) ∧ wz.cell? ⟨g, o1 + i * 2 + 1, none⟩ = some (.float .f64 r.x)) := fun wz h => ⟨by rw [h.cell (p := ⟨g, o1 + i * 2, none⟩) HGL.out]; exact k0, by rw [h.cell (p := ⟨g, o1 + i * 2 + 1, none⟩) HGL.out]; exact k1⟩
      have hltd : decide (i < recs.length) = true := decide_eq_true hlt.1
      clear e e1 k0 k1 hr hrok hlt hrl0
      go_upto_region 8 with fail
      clear c8
      have HSF : Hid (∀ wz, Below w2.heap.size w2 wz → wz.cell? ⟨X, 0, none⟩ = some (.int .i64 n) ∧ wz.cell? ⟨C, 8, none⟩ = some (.slice (some ⟨g, o1, none⟩) recs.length rc) ∧ wz.cell? ⟨g, o1 + i * 2, none⟩ = some (.int .u64 r.k) ∧ wz.cell? ⟨g, o1 + i * 2 + 1, none⟩ = some (.float .f64 r.x)) := fun wz h => ⟨by rw [← HPN.out]; exact (HXk.out wz h).c0, (HCk.out wz h).c8, HK0.out wz h⟩
      have hz0 : ¬ n = 0 := by omega
      refine wp_region_noPanic ?_
      refine wp_region_held_drew (S := fun wz => wz.cell? ⟨X, 0, none⟩ = some (.int .i64 n) ∧ wz.cell? ⟨C, 8, none⟩ = some (.slice (some ⟨g, o1, none⟩) recs.length rc) ∧ wz.cell? ⟨g, o1 + i * 2, none⟩ = some (.int .u64 r.k) ∧ wz.cell? ⟨g, o1 + i * 2 + 1, none⟩ = some (.float .f64 r.x)) (by kernel_rfl) ?_ (fun hHeld => ?_)
      · exact (HSF.out _ (HBr.out.trans ((below_drewN wr 1).mono HBr.out.size)))
      refine wpAnyH_take (i := 0) (oi := ⟨some 40, _, _, _, _, _⟩) (v := ?_) rfl (by kernel_rfl) (by kernel_rfl) (by kernel_rfl) (fun _ _ _ h => h) (Or.inl ⟨by rfl, ?_⟩) hHeld ?_
      rotate_left
      · intro w hSw; (try dsimp only at hSw); go_simp; all_goals (with_reducible rfl)
      try simp only [Act.put, List.setIfInBounds_toArray, List.set_cons_zero, List.set_cons_succ]
      refine wpAnyH_take (i := 1) (oi := ⟨some 41, _, _, _, _, _⟩) (v := ?_) rfl (by kernel_rfl) (by kernel_rfl) (by kernel_rfl) (fun _ _ _ h => h) (Or.inl ⟨by rfl, ?_⟩) hHeld ?_
      rotate_left
      · intro w hSw; (try dsimp only at hSw); go_simp; all_goals (with_reducible rfl)
      try simp only [Act.put, List.setIfInBounds_toArray, List.set_cons_zero, List.set_cons_succ]
      refine wpAnyH_take (i := 2) (oi := ⟨some 42, _, _, _, _, _⟩) (v := ?_) rfl (by kernel_rfl) (by kernel_rfl) (by kernel_rfl) (fun _ _ _ h => h) (Or.inl ⟨by rfl, ?_⟩) hHeld ?_
      rotate_left
      · intro w hSw; (try dsimp only at hSw); go_simp; all_goals (with_reducible rfl)
      try simp only [Act.put, List.setIfInBounds_toArray, List.set_cons_zero, List.set_cons_succ]
      refine wpAnyH_take (i := 3) (oi := ⟨some 43, _, _, _, _, _⟩) (v := ?_) rfl (by kernel_rfl) (by kernel_rfl) (by kernel_rfl) (fun _ _ _ h => h) (Or.inl ⟨by rfl, ?_⟩) hHeld ?_
      rotate_left
      · intro w hSw; (try dsimp only at hSw); go_simp; all_goals (with_reducible rfl)
      try simp only [Act.put, List.setIfInBounds_toArray, List.set_cons_zero, List.set_cons_succ]
      refine wpAnyH_take (i := 4) (oi := ⟨some 44, _, _, _, _, _⟩) (v := ?_) rfl (by kernel_rfl) (by kernel_rfl) (by kernel_rfl) (fun _ _ _ h => h) (Or.inl ⟨by rfl, ?_⟩) hHeld ?_
      rotate_left
      · intro w hSw; (try dsimp only at hSw); go_simp; all_goals (with_reducible rfl)
      try simp only [Act.put, List.setIfInBounds_toArray, List.set_cons_zero, List.set_cons_succ]
      refine wpAnyH_take (i := 5) (oi := ⟨some 45, _, _, _, _, _⟩) (v := ?_) rfl (by kernel_rfl) (by kernel_rfl) (by kernel_rfl) (fun _ _ _ h => h) (Or.inl ⟨by rfl, ?_⟩) hHeld ?_
      rotate_left
      · intro w hSw; (try dsimp only at hSw); go_simp; all_goals (with_reducible rfl)
      try simp only [Act.put, List.setIfInBounds_toArray, List.set_cons_zero, List.set_cons_succ]
      refine wpAnyH_take (i := 6) (oi := ⟨some 46, _, _, _, _, _⟩) (v := ?_) rfl (by kernel_rfl) (by kernel_rfl) (by kernel_rfl) (fun _ _ _ h => h) (Or.inl ⟨by rfl, ?_⟩) hHeld ?_
      rotate_left
      · intro w hSw; (try dsimp only at hSw); go_simp; all_goals (with_reducible rfl)
      try simp only [Act.put, List.setIfInBounds_toArray, List.set_cons_zero, List.set_cons_succ]
      refine wpAnyH_take (i := 7) (oi := ⟨some 47, _, _, _, _, _⟩) (v := ?_) rfl (by kernel_rfl) (by kernel_rfl) (by kernel_rfl) (fun _ _ _ h => h) (Or.inl ⟨by rfl, ?_⟩) hHeld ?_
      rotate_left
      · intro w hSw; (try dsimp only at hSw); go_simp; all_goals (with_reducible rfl)
      try simp only [Act.put, List.setIfInBounds_toArray, List.set_cons_zero, List.set_cons_succ]
      refine wpAnyH_take (i := 8) (oi := ⟨some 48, _, _, _, _, _⟩) (v := ?_) rfl (by kernel_rfl) (by kernel_rfl) (by kernel_rfl) (fun _ _ _ h => h) (Or.inl ⟨by rfl, ?_⟩) hHeld ?_
      rotate_left
      · intro w hSw; (try dsimp only at hSw); go_simp; all_goals (with_reducible rfl)
      try simp only [Act.put, List.setIfInBounds_toArray, List.set_cons_zero, List.set_cons_succ]
      refine wpAnyH_take (i := 9) (oi := ⟨some 49, _, _, _, _, _⟩) (v := ?_) rfl (by kernel_rfl) (by kernel_rfl) (by kernel_rfl) (fun _ _ _ h => h) (Or.inl ⟨by rfl, ?_⟩) hHeld ?_
      rotate_left
      · intro w hSw; (try dsimp only at hSw); go_simp; all_goals (with_reducible rfl)
      try simp only [Act.put, List.setIfInBounds_toArray, List.set_cons_zero, List.set_cons_succ]
      refine wpAnyH_ready (rs := [10]) (by kernel_rfl) (by simp) ?_
      refine AllReadyH.cons (o := ⟨some 50, _, _, _, _, _⟩) rfl (fun K hK => ?_) AllReadyH.nil
      go_simp
      refine (produceB (HSr.out.below (below_drewN wr 1)) (Nat.le_trans HBr.out.size (below_drewN wr 1).size) _ HRO.out).mono ?_
      rintro e w5 ⟨rfl, hS5, hB5, _⟩
      have HB5 : Hid (Below w2.heap.size w2 w5) := HBr.out.trans (((below_drewN wr 1).mono HBr.out.size).trans hB5)
      have HS5 : Hid _ := hS5
      clear hS5 hB5
      refine hK.out _ _ ?_ (fun hHeld => ?_)
      · exact (HSF.out _ HB5.out)
      clear hK K
      try simp only [Act.put, List.setIfInBounds_toArray, List.set_cons_zero, List.set_cons_succ]
      refine wpAnyH_done (by kernel_rfl) ?_ _
      refine NoPanic.normal ?_
      go_wp2_with fail
      go_roundw
      case rel => exact ⟨i + 1, _, by go_num, HLT.out, HS5.out, (prod_np _ _ _).1.trans HSn.out.1, (prod_np _ _ _).2.trans HSn.out.2, HB5.out⟩
      case measure => have := HLT.out; simp [intOf]; omega
    · have c9 := (HCk.out wr HBr.out).c9
      by_cases hl1 : i < recs.length
      · have hl6 : ¬ (i : Int) < 600 := by omega
        have hlti : (i : Int) < (recs.length : Int) := by omega
        clear hlt hl1
        go_wp2_with fail
        refine (switchB HSr.out HBr.out.size off false).mono ?_
        rintro e w5 ⟨rfl, hS5, hB5⟩
        have HB5 : Hid (Below w2.heap.size w2 w5) := HBr.out.trans hB5
        obtain ⟨D, hs, hD⟩ := hS5
        have HS5 : Hid (Src D w5 (.pointer (some ⟨sb, 0, none⟩)) (switchS S off false)) := hs
        have HD5 : Hid (∀ b, D b → w2.heap.size ≤ b) := hD
        have HNP : Hid ((switchS S off false).np = n ∧ (switchS S off false).list = p.l) := ⟨(switch_np _ _ _).1.trans HSn.out.1, (switch_np _ _ _).2.trans HSn.out.2⟩
        obtain ⟨S5, hS5⟩ : ∃ S5, S5 = switchS S off false := ⟨_, rfl⟩
        rw [← hS5] at HS5 HNP
        clear hS5 hs hD hB5 c8 c9 HSr HSn
        have c0 : w5.cell? ⟨X, 0, none⟩ = some (.int .i64 n) := by rw [← HPN.out]; exact (HXk.out w5 HB5.out).c0
        have hmk := make_ints HN.out.2
        go_upto_region 11 with fail
        clear c0 hmk
        have HZ0 : Hid _ := made_ints w5 HN.out.2
        have HB56 : Hid _ := below_alloc w5 (.cells (madeCells #[.int .i64 0] n) 3)
        obtain ⟨g, hg⟩ : ∃ g, g = w5.heap.size := ⟨_, rfl⟩
        have HG : Hid (g = w5.heap.size) := hg
        rw [← hg] at HZ0 ⊢
        clear hg
        generalize w5.alloc (Obj.cells (madeCells #[.int .i64 0] n) 3) = w6 at HZ0 HB56 ⊢
        have HS6 : Hid (Src D w6 (.pointer (some ⟨sb, 0, none⟩)) S5) := HS5.out.below HB56.out
        have HDG : Hid (∀ z, D z → z ≠ g) := fun z hz e => by have h1 := HS5.out.lt hz; have h2 := HG.out; omega
        have HB6 : Hid (Below w2.heap.size w2 w6) := HB5.out.trans (HB56.out.mono HB5.out.size)
        have HG2 : Hid (w2.heap.size ≤ g) := by have h1 := HB5.out.size; have h2 := HG.out; show _ ≤ _; omega
        have HFL : Hid (fr.length ≤ maxLen) := HFV.out.len_le
        have hfl : (fr.length : Int) ≤ 9223372036854775807 := by have := HFL.out; unfold maxLen at this; omega
        go_upto_region 12 with fail
        go_loopw [10] (fun iv wr => ∃ (k : Nat) (f : List Int), iv = .int .i64 k ∧ k ≤ n ∧ Zw wr g n f ∧ f.length = n ∧ (∀ j, j < n → 0 ≤ nth f j ∧ nth f j ≤ (lenS S5 j : Int)) ∧ Ch (fun z => z = g) w6 wr) (fun iv _ => n - (intOf iv).toNat)
        case atStart => exact ⟨0, zeros n, rfl, Nat.zero_le _, HZ0.out, zeros_len n, fun j _ => by rw [zeros_nth]; omega, Ch.refl _ _⟩
        case round =>
          obtain ⟨k, f, rfl, hkn, h1, h2, h3, h4⟩ := hrel
          have HZ : Hid (Zw wr g n f) := h1
          have HFN : Hid (f.length = n) := h2
          have HFF : Hid (∀ j, j < n → 0 ≤ nth f j ∧ nth f j ≤ (lenS S5 j : Int)) := h3
          have HCr : Hid (Ch (fun z => z = g) w6 wr) := h4
          clear h1 h2 h3 h4 HZ0
          have HBr2 : Hid (Below w2.heap.size w2 wr) := HB6.out.trans (HCr.out.to_below HB6.out.size (fun z hz => by rw [hz]; exact HG2.out))
          have HSr2 : Hid (Src D wr (.pointer (some ⟨sb, 0, none⟩)) S5) := HS6.out.keep (fun z hz => HCr.out.block z (HS6.out.lt hz) (HDG.out z hz)) HCr.out.size
          have c0 : wr.cell? ⟨X, 0, none⟩ = some (.int .i64 n) := by rw [← HPN.out]; exact (HXk.out wr HBr2.out).c0
          have c10 := (HCk.out wr HBr2.out).c10
          by_cases hlt : k < n ∧ k < fr.length
          · have hlti : (k : Int) < (n : Int) := by omega
            have hltf : (k : Int) < (fr.length : Int) := by omega
            have HLT : Hid (k < n) := hlt.1
            obtain ⟨fb, fo, efa, d0⟩ := (HFV.out.below HB2.out).at hlt.2
            subst efa
            obtain ⟨y, hy⟩ : ∃ y, y = nth fr k := ⟨_, rfl⟩
            rw [← hy] at d0
            have HD0 : Hid (w2.cell? ⟨fb, fo + k, none⟩ = some (.int .i64 y)) := d0
            obtain ⟨l, hl⟩ : ∃ l : Nat, l = lenS S5 k := ⟨_, rfl⟩
            have HLN : Hid (l = lenS S5 (k : Int)) := hl
            have hl2 : (l : Int) ≤ 256 := by have h1 := lenS_le HS6.out.good k; omega
            have rm : (IntKind.u64.wrap y).tmod ((l : Int) + 1) = (parF (l + 1) y : Int) := parF_rem (by omega)
            have rm' : (IntKind.u64.wrap y) % ((l : Int) + 1) = (parF (l + 1) y : Int) := parF_rem' (by omega)
            have hq2 : (parF (l + 1) y : Int) < l + 1 := parF_lt (by omega)
            obtain ⟨q, hq⟩ : ∃ q, q = parF ((l : Int) + 1) y := ⟨_, rfl⟩
            rw [← hq] at rm rm' hq2
            have hwN : IntKind.u64.wrap ((l : Int) + 1) = (l : Int) + 1 := by rw [IntKind.wrap_u64]; omega
            have hN1 : ¬ (l : Int) + 1 = 0 := by omega
            have hwI : IntKind.i64.wrap ((l : Int) + 1) = (l : Int) + 1 := wrap_small (by omega) (by omega)
            have hN2 : (((l : Int) + 1) == 0) = false := by rw [beq_eq_false_iff_ne]; omega
            have hwq : IntKind.i64.wrap (q : Int) = (q : Int) := wrap_small (by omega) (by omega)
            have hltd : decide (k < n) = true := decide_eq_true hlt.1
            have hltd2 : decide (k < fr.length) = true := decide_eq_true hlt.2
            clear hl hq hy d0 hlt
            go_upto_region 14 with fail
            clear c0 c10
            have HSF : Hid (∀ wz, Ch (fun z => z = g) w6 wz → wz.cell? ⟨C, 10, none⟩ = some (.slice (some ⟨fb, fo, none⟩) fr.length fc) ∧ wz.cell? ⟨fb, fo + k, none⟩ = some (.int .i64 y)) := by
              intro wz h
              have hb : Below w2.heap.size w2 wz := HB6.out.trans (h.to_below HB6.out.size (fun z hz => by rw [hz]; exact HG2.out))
              exact ⟨(HCk.out wz hb).c10, by rw [hb.cell (p := ⟨fb, fo + k, none⟩) (cell_lt HD0.out)]; exact HD0.out⟩
            have HZC : Hid (wr.cell? ⟨g, k, none⟩ = some (.int .i64 (nth f k)) ∧ wr.frozen? ⟨g, k, none⟩ = false) := ⟨HZ.out.cell (by have h1 := HFN.out; have h2 := HLT.out; omega), HZ.out.soft k⟩
            refine wp_region_noPanic ?_
            refine wp_region_held_drew (S := fun wz => wz.cell? ⟨C, 10, none⟩ = some (.slice (some ⟨fb, fo, none⟩) fr.length fc) ∧ wz.cell? ⟨fb, fo + k, none⟩ = some (.int .i64 y)) (by kernel_rfl) ?_ (fun hHeld => ?_)
            · exact (HSF.out _ (HCr.out.self (Ch.of_below (below_drewN wr 1))))
            refine wpAnyH_take (i := 0) (oi := ⟨some 71, _, _, _, _, _⟩) (v := ?_) rfl (by kernel_rfl) (by kernel_rfl) (by kernel_rfl) (fun _ _ _ h => h) (Or.inl ⟨by rfl, ?_⟩) hHeld ?_
            rotate_left
            · intro w hSw; (try dsimp only at hSw); go_simp; all_goals (with_reducible rfl)
            try simp only [Act.put, List.setIfInBounds_toArray, List.set_cons_zero, List.set_cons_succ]
            refine wpAnyH_take (i := 1) (oi := ⟨some 72, _, _, _, _, _⟩) (v := ?_) rfl (by kernel_rfl) (by kernel_rfl) (by kernel_rfl) (fun _ _ _ h => h) (Or.inl ⟨by rfl, ?_⟩) hHeld ?_
            rotate_left
            · intro w hSw; (try dsimp only at hSw); go_simp; all_goals (with_reducible rfl)
            try simp only [Act.put, List.setIfInBounds_toArray, List.set_cons_zero, List.set_cons_succ]
            refine wpAnyH_take (i := 2) (oi := ⟨some 73, _, _, _, _, _⟩) (v := ?_) rfl (by kernel_rfl) (by kernel_rfl) (by kernel_rfl) (fun _ _ _ h => h) (Or.inl ⟨by rfl, ?_⟩) hHeld ?_
            rotate_left
            · intro w hSw; (try dsimp only at hSw); go_simp; all_goals (with_reducible rfl)
            try simp only [Act.put, List.setIfInBounds_toArray, List.set_cons_zero, List.set_cons_succ]
            refine wpAnyH_take (i := 3) (oi := ⟨some 74, _, _, _, _, _⟩) (v := ?_) rfl (by kernel_rfl) (by kernel_rfl) (by kernel_rfl) (fun _ _ _ h => h) (Or.inl ⟨by rfl, ?_⟩) hHeld ?_
            rotate_left
            · intro w hSw; (try dsimp only at hSw); go_simp; all_goals (with_reducible rfl)
            try simp only [Act.put, List.setIfInBounds_toArray, List.set_cons_zero, List.set_cons_succ]
            refine wpAnyH_take (i := 4) (oi := ⟨some 75, _, _, _, _, _⟩) (v := ?_) rfl (by kernel_rfl) (by kernel_rfl) (by kernel_rfl) (fun _ _ _ h => h) (Or.inl ⟨by rfl, ?_⟩) hHeld ?_
            rotate_left
            · intro w hSw; (try dsimp only at hSw); go_simp; all_goals (with_reducible rfl)
            try simp only [Act.put, List.setIfInBounds_toArray, List.set_cons_zero, List.set_cons_succ]
            refine wpAnyH_take (i := 5) (oi := ⟨some 76, _, _, _, _, _⟩) (v := ?_) rfl (by kernel_rfl) (by kernel_rfl) (by kernel_rfl) (fun _ _ _ h => h) (Or.inl ⟨by rfl, ?_⟩) hHeld ?_
            rotate_left
            · intro w hSw; (try dsimp only at hSw); go_simp; all_goals (with_reducible rfl)
            try simp only [Act.put, List.setIfInBounds_toArray, List.set_cons_zero, List.set_cons_succ]
            refine wpAnyH_take (i := 6) (oi := ⟨some 77, _, _, _, _, _⟩) (v := ?_) rfl (by kernel_rfl) (by kernel_rfl) (by kernel_rfl) (fun _ _ _ h => h) (Or.inl ⟨by rfl, ?_⟩) hHeld ?_
            rotate_left
            · intro w hSw; (try dsimp only at hSw); go_simp; all_goals (with_reducible rfl)
            try simp only [Act.put, List.setIfInBounds_toArray, List.set_cons_zero, List.set_cons_succ]
            refine wpAnyH_take (i := 7) (oi := ⟨some 78, _, _, _, _, _⟩) (v := ?_) rfl (by kernel_rfl) (by kernel_rfl) (by kernel_rfl) (fun _ _ _ h => h) (Or.inl ⟨by rfl, ?_⟩) hHeld ?_
            rotate_left
            · intro w hSw; (try dsimp only at hSw); go_simp; all_goals (with_reducible rfl)
            try simp only [Act.put, List.setIfInBounds_toArray, List.set_cons_zero, List.set_cons_succ]
            refine wpAnyH_take (i := 8) (oi := ⟨some 79, _, _, _, _, _⟩) (v := ?_) rfl (by kernel_rfl) (by kernel_rfl) (by kernel_rfl) (fun _ _ _ h => h) (Or.inl ⟨by rfl, ?_⟩) hHeld ?_
            rotate_left
            · intro w hSw; (try dsimp only at hSw); go_simp; all_goals (with_reducible rfl)
            try simp only [Act.put, List.setIfInBounds_toArray, List.set_cons_zero, List.set_cons_succ]
            refine wpAnyH_take (i := 9) (oi := ⟨some 80, _, _, _, _, _⟩) (v := ?_) rfl (by kernel_rfl) (by kernel_rfl) (by kernel_rfl) (fun _ _ _ h => h) (Or.inl ⟨by rfl, ?_⟩) hHeld ?_
            rotate_left
            · intro w hSw; (try dsimp only at hSw); go_simp; all_goals (with_reducible rfl)
            try simp only [Act.put, List.setIfInBounds_toArray, List.set_cons_zero, List.set_cons_succ]
            refine wpAnyH_ready (rs := [10]) (by kernel_rfl) (by simp) ?_
            refine AllReadyH.cons (o := ⟨some 81, _, _, _, _, _⟩) rfl (fun K hK => ?_) AllReadyH.nil
            go_simp
            refine (len_walk (HSr2.out.below (below_drewN wr 1)) (k : Int)).mono ?_
            rintro e w7 ⟨he, hw7⟩
            rw [← HLN.out] at he
            subst he
            subst hw7
            refine hK.out _ _ ?_ (fun hHeld => ?_)
            · exact (HSF.out _ (HCr.out.self (Ch.of_below (below_drewN wr 1))))
            clear hK K
            try simp only [Act.put, List.setIfInBounds_toArray, List.set_cons_zero, List.set_cons_succ]
            refine wpAnyH_take (i := 11) (oi := ⟨some 82, _, _, _, _, _⟩) (v := ?_) rfl (by kernel_rfl) (by kernel_rfl) (by kernel_rfl) (fun _ _ _ h => h) (Or.inl ⟨by rfl, ?_⟩) hHeld ?_
            rotate_left
            · intro w hSw; (try dsimp only at hSw); go_simp; all_goals (with_reducible rfl)
            try simp only [Act.put, List.setIfInBounds_toArray, List.set_cons_zero, List.set_cons_succ]
            refine wpAnyH_take (i := 12) (oi := ⟨some 83, _, _, _, _, _⟩) (v := ?_) rfl (by kernel_rfl) (by kernel_rfl) (by kernel_rfl) (fun _ _ _ h => h) (Or.inl ⟨by rfl, ?_⟩) hHeld ?_
            rotate_left
            · intro w hSw; (try dsimp only at hSw); go_simp; all_goals (with_reducible rfl)
            try simp only [Act.put, List.setIfInBounds_toArray, List.set_cons_zero, List.set_cons_succ]
            refine wpAnyH_take (i := 13) (oi := ⟨some 84, _, _, _, _, _⟩) (v := ?_) rfl (by kernel_rfl) (by kernel_rfl) (by kernel_rfl) (fun _ _ _ h => h) (Or.inl ⟨by rfl, ?_⟩) hHeld ?_
            rotate_left
            · intro w hSw; (try dsimp only at hSw); go_simp; all_goals (with_reducible rfl)
            try simp only [Act.put, List.setIfInBounds_toArray, List.set_cons_zero, List.set_cons_succ]
            refine wpAnyH_take (i := 14) (oi := ⟨some 85, _, _, _, _, _⟩) (v := ?_) rfl (by kernel_rfl) (by kernel_rfl) (by kernel_rfl) (fun _ _ _ h => h) (Or.inl ⟨by rfl, ?_⟩) hHeld ?_
            rotate_left
            · intro w hSw; (try dsimp only at hSw); go_simp; all_goals (with_reducible rfl)
            try simp only [Act.put, List.setIfInBounds_toArray, List.set_cons_zero, List.set_cons_succ]
            refine wpAnyH_take (i := 15) (oi := ⟨some 86, _, _, _, _, _⟩) (v := ?_) rfl (by kernel_rfl) (by kernel_rfl) (by kernel_rfl) (fun _ _ _ h => h) (Or.inl ⟨by rfl, ?_⟩) hHeld ?_
            rotate_left
            · intro w hSw; (try dsimp only at hSw); go_simp; all_goals (with_reducible rfl)
            try simp only [Act.put, List.setIfInBounds_toArray, List.set_cons_zero, List.set_cons_succ]
            refine wpAnyH_ready (rs := [16]) (by kernel_rfl) (by simp) ?_
            refine AllReadyH.cons (o := ⟨none, _, _, _, _, _⟩) rfl (fun K hK => ?_) AllReadyH.nil
            have y8 := HZC.out.1
            have hz := HZC.out.2
            go_simp
            show K _ ((wr.setCell ⟨g, k, none⟩ (.int .i64 (q : Int))).drew)
            clear y8 hz
            refine hK.out _ _ ?_ (fun hHeld => ?_)
            · exact (HSF.out _ ((HCr.out.self (ch_set _ _ _ _)).self (Ch.of_below (below_drew _))))
            clear hK K
            try simp only [Act.put, List.setIfInBounds_toArray, List.set_cons_zero, List.set_cons_succ]
            refine wpAnyH_done (by kernel_rfl) ?_ _
            refine NoPanic.normal ?_
            go_wp2_with fail
            go_roundw
            case rel =>
              refine ⟨k + 1, f.set k (q : Int), by go_num, HLT.out, (HZ.out.set (by have h1 := HFN.out; have h2 := HLT.out; omega) (q : Int)).below (below_drew _), by rw [List.length_set]; exact HFN.out, fun j hj => ?_, (HCr.out.self (ch_set _ _ _ _)).self (Ch.of_below (below_drew _))⟩
              by_cases hjk : j = k
              · subst hjk; rw [nth_at (by rw [List.length_set, HFN.out]; exact hj), List.getElem_set_self]; have h1 := HLN.out; omega
              · have e : nth (f.set k (q : Int)) j = nth f j := by rw [nth_at (by rw [List.length_set, HFN.out]; exact hj), List.getElem_set_ne (fun e => hjk e.symm), nth_at (by rw [HFN.out]; exact hj)]
                rw [e]; exact HFF.out j hj
            case measure => have := HLT.out; simp [intOf]; omega
          have HFit : Hid (Fit S5 f) := ⟨HFN.out.trans HNP.out.1.symm, fun j hj => HFF.out j (by have h1 := HFN.out; omega)⟩
          have HOr : Hid (Ov wr (.slice oa p.l.length oc) p.l) := (HO.out.below HB2.out).below HBr2.out
          have HKD1 : Hid (p.kind 1 = 2) := kind_one HP.out
          by_cases hk1 : k < n
          · have hk2 : ¬ k < fr.length := fun h => hlt ⟨hk1, h⟩
            have hk1i : (k : Int) < (n : Int) := by omega
            have hk2i : ¬ (k : Int) < (fr.length : Int) := by omega
            clear hk2
            clear hlt hk1
            go_upto_region 15 with fail
            clear c0 c10
            have c0 := (HXk.out wr HBr2.out).c0
            have c1 := (HXk.out wr HBr2.out).c1
            have c2 := (HXk.out wr HBr2.out).c2
            have c3 := (HXk.out wr HBr2.out).c3
            have c4 := (HXk.out wr HBr2.out).c4
            have c5 := (HXk.out wr HBr2.out).c5
            have c6 := (HXk.out wr HBr2.out).c6
            have c7 := (HXk.out wr HBr2.out).c7
            go_wp2_with fail
            refine (wnew_ok (p := p) HOr.out HP.out HKD1.out).mono ?_
            rintro e w8 ⟨P, b, ov, rfl, hn8⟩
            have HN8 : Hid (NwR wr p 1 P b ov w8) := hn8
            clear hn8 c0 c1 c2 c3 c4 c5 c6 c7
            go_wp2_with fail
            refine bodyPost_ret (v := .tuple #[.pointer (some ⟨sb, 0, none⟩), .pointer (some ⟨P, 0, none⟩), .slice (some ⟨g, 0, none⟩) n n]) (by simp [results, Tryz.results6, go_sem]) rfl ?_
            exact ⟨sb, P, _, rfl, rd_fin HB2.out HBr2.out HG2.out HZ.out HFN.out HFit.out HSr2.out HD5.out HDG.out HN8.out (by have h1 := HNP.out.1; have h2 := HPN.out; omega) HNP.out.2⟩
          · have hk1i : ¬ (k : Int) < (n : Int) := by omega
            clear hlt hk1
            go_upto_region 15 with fail
            clear c0 c10
            have c0 := (HXk.out wr HBr2.out).c0
            have c1 := (HXk.out wr HBr2.out).c1
            have c2 := (HXk.out wr HBr2.out).c2
            have c3 := (HXk.out wr HBr2.out).c3
            have c4 := (HXk.out wr HBr2.out).c4
            have c5 := (HXk.out wr HBr2.out).c5
            have c6 := (HXk.out wr HBr2.out).c6
            have c7 := (HXk.out wr HBr2.out).c7
            go_wp2_with fail
            refine (wnew_ok (p := p) HOr.out HP.out HKD1.out).mono ?_
            rintro e w8 ⟨P, b, ov, rfl, hn8⟩
            have HN8 : Hid (NwR wr p 1 P b ov w8) := hn8
            clear hn8 c0 c1 c2 c3 c4 c5 c6 c7
            go_wp2_with fail
            refine bodyPost_ret (v := .tuple #[.pointer (some ⟨sb, 0, none⟩), .pointer (some ⟨P, 0, none⟩), .slice (some ⟨g, 0, none⟩) n n]) (by simp [results, Tryz.results6, go_sem]) rfl ?_
            exact ⟨sb, P, _, rfl, rd_fin HB2.out HBr2.out HG2.out HZ.out HFN.out HFit.out HSr2.out HD5.out HDG.out HN8.out (by have h1 := HNP.out.1; have h2 := HPN.out; omega) HNP.out.2⟩
      · have hlti : ¬ (i : Int) < (recs.length : Int) := by omega
        clear hlt hl1
        go_wp2_with fail
        refine (switchB HSr.out HBr.out.size off false).mono ?_
        rintro e w5 ⟨rfl, hS5, hB5⟩
        have HB5 : Hid (Below w2.heap.size w2 w5) := HBr.out.trans hB5
        obtain ⟨D, hs, hD⟩ := hS5
        have HS5 : Hid (Src D w5 (.pointer (some ⟨sb, 0, none⟩)) (switchS S off false)) := hs
        have HD5 : Hid (∀ b, D b → w2.heap.size ≤ b) := hD
        have HNP : Hid ((switchS S off false).np = n ∧ (switchS S off false).list = p.l) := ⟨(switch_np _ _ _).1.trans HSn.out.1, (switch_np _ _ _).2.trans HSn.out.2⟩
        obtain ⟨S5, hS5⟩ : ∃ S5, S5 = switchS S off false := ⟨_, rfl⟩
        rw [← hS5] at HS5 HNP
        clear hS5 hs hD hB5 c8 c9 HSr HSn
        have c0 : w5.cell? ⟨X, 0, none⟩ = some (.int .i64 n) := by rw [← HPN.out]; exact (HXk.out w5 HB5.out).c0
        have hmk := make_ints HN.out.2
        go_upto_region 11 with fail
        clear c0 hmk
        have HZ0 : Hid _ := made_ints w5 HN.out.2
        have HB56 : Hid _ := below_alloc w5 (.cells (madeCells #[.int .i64 0] n) 3)
        obtain ⟨g, hg⟩ : ∃ g, g = w5.heap.size := ⟨_, rfl⟩
        have HG : Hid (g = w5.heap.size) := hg
        rw [← hg] at HZ0 ⊢
        clear hg
        generalize w5.alloc (Obj.cells (madeCells #[.int .i64 0] n) 3) = w6 at HZ0 HB56 ⊢
        have HS6 : Hid (Src D w6 (.pointer (some ⟨sb, 0, none⟩)) S5) := HS5.out.below HB56.out
        have HDG : Hid (∀ z, D z → z ≠ g) := fun z hz e => by have h1 := HS5.out.lt hz; have h2 := HG.out; omega
        have HB6 : Hid (Below w2.heap.size w2 w6) := HB5.out.trans (HB56.out.mono HB5.out.size)
        have HG2 : Hid (w2.heap.size ≤ g) := by have h1 := HB5.out.size; have h2 := HG.out; show _ ≤ _; omega
        have HFL : Hid (fr.length ≤ maxLen) := HFV.out.len_le
        have hfl : (fr.length : Int) ≤ 9223372036854775807 := by have := HFL.out; unfold maxLen at this; omega
        go_upto_region 12 with fail
        go_loopw [10] (fun iv wr => ∃ (k : Nat) (f : List Int), iv = .int .i64 k ∧ k ≤ n ∧ Zw wr g n f ∧ f.length = n ∧ (∀ j, j < n → 0 ≤ nth f j ∧ nth f j ≤ (lenS S5 j : Int)) ∧ Ch (fun z => z = g) w6 wr) (fun iv _ => n - (intOf iv).toNat)
        case atStart => exact ⟨0, zeros n, rfl, Nat.zero_le _, HZ0.out, zeros_len n, fun j _ => by rw [zeros_nth]; omega, Ch.refl _ _⟩
        case round =>
          obtain ⟨k, f, rfl, hkn, h1, h2, h3, h4⟩ := hrel
          have HZ : Hid (Zw wr g n f) := h1
          have HFN : Hid (f.length = n) := h2
          have HFF : Hid (∀ j, j < n → 0 ≤ nth f j ∧ nth f j ≤ (lenS S5 j : Int)) := h3
          have HCr : Hid (Ch (fun z => z = g) w6 wr) := h4
          clear h1 h2 h3 h4 HZ0
          have HBr2 : Hid (Below w2.heap.size w2 wr) := HB6.out.trans (HCr.out.to_below HB6.out.size (fun z hz => by rw [hz]; exact HG2.out))
          have HSr2 : Hid (Src D wr (.pointer (some ⟨sb, 0, none⟩)) S5) := HS6.out.keep (fun z hz => HCr.out.block z (HS6.out.lt hz) (HDG.out z hz)) HCr.out.size
          have c0 : wr.cell? ⟨X, 0, none⟩ = some (.int .i64 n) := by rw [← HPN.out]; exact (HXk.out wr HBr2.out).c0
          have c10 := (HCk.out wr HBr2.out).c10
          by_cases hlt : k < n ∧ k < fr.length
          · have hlti : (k : Int) < (n : Int) := by omega
            have hltf : (k : Int) < (fr.length : Int) := by omega
            have HLT : Hid (k < n) := hlt.1
            obtain ⟨fb, fo, efa, d0⟩ := (HFV.out.below HB2.out).at hlt.2
            subst efa
            obtain ⟨y, hy⟩ : ∃ y, y = nth fr k := ⟨_, rfl⟩
            rw [← hy] at d0
            have HD0 : Hid (w2.cell? ⟨fb, fo + k, none⟩ = some (.int .i64 y)) := d0
            obtain ⟨l, hl⟩ : ∃ l : Nat, l = lenS S5 k := ⟨_, rfl⟩
            have HLN : Hid (l = lenS S5 (k : Int)) := hl
            have hl2 : (l : Int) ≤ 256 := by have h1 := lenS_le HS6.out.good k; omega
            have rm : (IntKind.u64.wrap y).tmod ((l : Int) + 1) = (parF (l + 1) y : Int) := parF_rem (by omega)
            have rm' : (IntKind.u64.wrap y) % ((l : Int) + 1) = (parF (l + 1) y : Int) := parF_rem' (by omega)
            have hq2 : (parF (l + 1) y : Int) < l + 1 := parF_lt (by omega)
            obtain ⟨q, hq⟩ : ∃ q, q = parF ((l : Int) + 1) y := ⟨_, rfl⟩
            rw [← hq] at rm rm' hq2
            have hwN : IntKind.u64.wrap ((l : Int) + 1) = (l : Int) + 1 := by rw [IntKind.wrap_u64]; omega
            have hN1 : ¬ (l : Int) + 1 = 0 := by omega
            have hwI : IntKind.i64.wrap ((l : Int) + 1) = (l : Int) + 1 := wrap_small (by omega) (by omega)
            have hN2 : (((l : Int) + 1) == 0) = false := by rw [beq_eq_false_iff_ne]; omega
            have hwq : IntKind.i64.wrap (q : Int) = (q : Int) := wrap_small (by omega) (by omega)
            have hltd : decide (k < n) = true := decide_eq_true hlt.1
            have hltd2 : decide (k < fr.length) = true := decide_eq_true hlt.2
            clear hl hq hy d0 hlt
            go_upto_region 14 with fail
            clear c0 c10
            have HSF : Hid (∀ wz, Ch (fun z => z = g) w6 wz → wz.cell? ⟨C, 10, none⟩ = some (.slice (some ⟨fb, fo, none⟩) fr.length fc) ∧ wz.cell? ⟨fb, fo + k, none⟩ = some (.int .i64 y)) := by
              intro wz h
              have hb : Below w2.heap.size w2 wz := HB6.out.trans (h.to_below HB6.out.size (fun z hz => by rw [hz]; exact HG2.out))
              exact ⟨(HCk.out wz hb).c10, by rw [hb.cell (p := ⟨fb, fo + k, none⟩) (cell_lt HD0.out)]; exact HD0.out⟩
            have HZC : Hid (wr.cell? ⟨g, k, none⟩ = some (.int .i64 (nth f k)) ∧ wr.frozen? ⟨g, k, none⟩ = false) := ⟨HZ.out.cell (by have h1 := HFN.out; have h2 := HLT.out; omega), HZ.out.soft k⟩
            refine wp_region_noPanic ?_
            refine wp_region_held_drew (S := fun wz => wz.cell? ⟨C, 10, none⟩ = some (.slice (some ⟨fb, fo, none⟩) fr.length fc) ∧ wz.cell? ⟨fb, fo + k, none⟩ = some (.int .i64 y)) (by kernel_rfl) ?_ (fun hHeld => ?_)
            · exact (HSF.out _ (HCr.out.self (Ch.of_below (below_drewN wr 1))))
            refine wpAnyH_take (i := 0) (oi := ⟨some 71, _, _, _, _, _⟩) (v := ?_) rfl (by kernel_rfl) (by kernel_rfl) (by kernel_rfl) (fun _ _ _ h => h) (Or.inl ⟨by rfl, ?_⟩) hHeld ?_
            rotate_left
            · intro w hSw; (try dsimp only at hSw); go_simp; all_goals (with_reducible rfl)
            try simp only [Act.put, List.setIfInBounds_toArray, List.set_cons_zero, List.set_cons_succ]
            refine wpAnyH_take (i := 1) (oi := ⟨some 72, _, _, _, _, _⟩) (v := ?_) rfl (by kernel_rfl) (by kernel_rfl) (by kernel_rfl) (fun _ _ _ h => h) (Or.inl ⟨by rfl, ?_⟩) hHeld ?_
            rotate_left
            · intro w hSw; (try dsimp only at hSw); go_simp; all_goals (with_reducible rfl)
            try simp only [Act.put, List.setIfInBounds_toArray, List.set_cons_zero, List.set_cons_succ]
            refine wpAnyH_take (i := 2) (oi := ⟨some 73, _, _, _, _, _⟩) (v := ?_) rfl (by kernel_rfl) (by kernel_rfl) (by kernel_rfl) (fun _ _ _ h => h) (Or.inl ⟨by rfl, ?_⟩) hHeld ?_
            rotate_left
            · intro w hSw; (try dsimp only at hSw); go_simp; all_goals (with_reducible rfl)
            try simp only [Act.put, List.setIfInBounds_toArray, List.set_cons_zero, List.set_cons_succ]
            refine wpAnyH_take (i := 3) (oi := ⟨some 74, _, _, _, _, _⟩) (v := ?_) rfl (by kernel_rfl) (by kernel_rfl) (by kernel_rfl) (fun _ _ _ h => h) (Or.inl ⟨by rfl, ?_⟩) hHeld ?_
            rotate_left
            · intro w hSw; (try dsimp only at hSw); go_simp; all_goals (with_reducible rfl)
            try simp only [Act.put, List.setIfInBounds_toArray, List.set_cons_zero, List.set_cons_succ]
            refine wpAnyH_take (i := 4) (oi := ⟨some 75, _, _, _, _, _⟩) (v := ?_) rfl (by kernel_rfl) (by kernel_rfl) (by kernel_rfl) (fun _ _ _ h => h) (Or.inl ⟨by rfl, ?_⟩) hHeld ?_
            rotate_left
            · intro w hSw; (try dsimp only at hSw); go_simp; all_goals (with_reducible rfl)
            try simp only [Act.put, List.setIfInBounds_toArray, List.set_cons_zero, List.set_cons_succ]
            refine wpAnyH_take (i := 5) (oi := ⟨some 76, _, _, _, _, _⟩) (v := ?_) rfl (by kernel_rfl) (by kernel_rfl) (by kernel_rfl) (fun _ _ _ h => h) (Or.inl ⟨by rfl, ?_⟩) hHeld ?_
            rotate_left
            · intro w hSw; (try dsimp only at hSw); go_simp; all_goals (with_reducible rfl)
            try simp only [Act.put, List.setIfInBounds_toArray, List.set_cons_zero, List.set_cons_succ]
            refine wpAnyH_take (i := 6) (oi := ⟨some 77, _, _, _, _, _⟩) (v := ?_) rfl (by kernel_rfl) (by kernel_rfl) (by kernel_rfl) (fun _ _ _ h => h) (Or.inl ⟨by rfl, ?_⟩) hHeld ?_
            rotate_left
            · intro w hSw; (try dsimp only at hSw); go_simp; all_goals (with_reducible rfl)
            try simp only [Act.put, List.setIfInBounds_toArray, List.set_cons_zero, List.set_cons_succ]
            refine wpAnyH_take (i := 7) (oi := ⟨some 78, _, _, _, _, _⟩) (v := ?_) rfl (by kernel_rfl) (by kernel_rfl) (by kernel_rfl) (fun _ _ _ h => h) (Or.inl ⟨by rfl, ?_⟩) hHeld ?_
            rotate_left
            · intro w hSw; (try dsimp only at hSw); go_simp; all_goals (with_reducible rfl)
            try simp only [Act.put, List.setIfInBounds_toArray, List.set_cons_zero, List.set_cons_succ]
            refine wpAnyH_take (i := 8) (oi := ⟨some 79, _, _, _, _, _⟩) (v := ?_) rfl (by kernel_rfl) (by kernel_rfl) (by kernel_rfl) (fun _ _ _ h => h) (Or.inl ⟨by rfl, ?_⟩) hHeld ?_
            rotate_left
            · intro w hSw; (try dsimp only at hSw); go_simp; all_goals (with_reducible rfl)
            try simp only [Act.put, List.setIfInBounds_toArray, List.set_cons_zero, List.set_cons_succ]
            refine wpAnyH_take (i := 9) (oi := ⟨some 80, _, _, _, _, _⟩) (v := ?_) rfl (by kernel_rfl) (by kernel_rfl) (by kernel_rfl) (fun _ _ _ h => h) (Or.inl ⟨by rfl, ?_⟩) hHeld ?_
            rotate_left
            · intro w hSw; (try dsimp only at hSw); go_simp; all_goals (with_reducible rfl)
            try simp only [Act.put, List.setIfInBounds_toArray, List.set_cons_zero, List.set_cons_succ]
            refine wpAnyH_ready (rs := [10]) (by kernel_rfl) (by simp) ?_
            refine AllReadyH.cons (o := ⟨some 81, _, _, _, _, _⟩) rfl (fun K hK => ?_) AllReadyH.nil
            go_simp
            refine (len_walk (HSr2.out.below (below_drewN wr 1)) (k : Int)).mono ?_
            rintro e w7 ⟨he, hw7⟩
            rw [← HLN.out] at he
            subst he
            subst hw7
            refine hK.out _ _ ?_ (fun hHeld => ?_)
            · exact (HSF.out _ (HCr.out.self (Ch.of_below (below_drewN wr 1))))
            clear hK K
            try simp only [Act.put, List.setIfInBounds_toArray, List.set_cons_zero, List.set_cons_succ]
            refine wpAnyH_take (i := 11) (oi := ⟨some 82, _, _, _, _, _⟩) (v := ?_) rfl (by kernel_rfl) (by kernel_rfl) (by kernel_rfl) (fun _ _ _ h => h) (Or.inl ⟨by rfl, ?_⟩) hHeld ?_
            rotate_left
            · intro w hSw; (try dsimp only at hSw); go_simp; all_goals (with_reducible rfl)
            try simp only [Act.put, List.setIfInBounds_toArray, List.set_cons_zero, List.set_cons_succ]
            refine wpAnyH_take (i := 12) (oi := ⟨some 83, _, _, _, _, _⟩) (v := ?_) rfl (by kernel_rfl) (by kernel_rfl) (by kernel_rfl) (fun _ _ _ h => h) (Or.inl ⟨by rfl, ?_⟩) hHeld ?_
            rotate_left
            · intro w hSw; (try dsimp only at hSw); go_simp; all_goals (with_reducible rfl)
            try simp only [Act.put, List.setIfInBounds_toArray, List.set_cons_zero, List.set_cons_succ]
            refine wpAnyH_take (i := 13) (oi := ⟨some 84, _, _, _, _, _⟩) (v := ?_) rfl (by kernel_rfl) (by kernel_rfl) (by kernel_rfl) (fun _ _ _ h => h) (Or.inl ⟨by rfl, ?_⟩) hHeld ?_
            rotate_left
            · intro w hSw; (try dsimp only at hSw); go_simp; all_goals (with_reducible rfl)
            try simp only [Act.put, List.setIfInBounds_toArray, List.set_cons_zero, List.set_cons_succ]
            refine wpAnyH_take (i := 14) (oi := ⟨some 85, _, _, _, _, _⟩) (v := ?_) rfl (by kernel_rfl) (by kernel_rfl) (by kernel_rfl) (fun _ _ _ h => h) (Or.inl ⟨by rfl, ?_⟩) hHeld ?_
            rotate_left
            · intro w hSw; (try dsimp only at hSw); go_simp; all_goals (with_reducible rfl)
            try simp only [Act.put, List.setIfInBounds_toArray, List.set_cons_zero, List.set_cons_succ]
            refine wpAnyH_take (i := 15) (oi := ⟨some 86, _, _, _, _, _⟩) (v := ?_) rfl (by kernel_rfl) (by kernel_rfl) (by kernel_rfl) (fun _ _ _ h => h) (Or.inl ⟨by rfl, ?_⟩) hHeld ?_
            rotate_left
            · intro w hSw; (try dsimp only at hSw); go_simp; all_goals (with_reducible rfl)
            try simp only [Act.put, List.setIfInBounds_toArray, List.set_cons_zero, List.set_cons_succ]
            refine wpAnyH_ready (rs := [16]) (by kernel_rfl) (by simp) ?_
            refine AllReadyH.cons (o := ⟨none, _, _, _, _, _⟩) rfl (fun K hK => ?_) AllReadyH.nil
            have y8 := HZC.out.1
            have hz := HZC.out.2
            go_simp
            show K _ ((wr.setCell ⟨g, k, none⟩ (.int .i64 (q : Int))).drew)
            clear y8 hz
            refine hK.out _ _ ?_ (fun hHeld => ?_)
            · exact (HSF.out _ ((HCr.out.self (ch_set _ _ _ _)).self (Ch.of_below (below_drew _))))
            clear hK K
            try simp only [Act.put, List.setIfInBounds_toArray, List.set_cons_zero, List.set_cons_succ]
            refine wpAnyH_done (by kernel_rfl) ?_ _
            refine NoPanic.normal ?_
            go_wp2_with fail
            go_roundw
            case rel =>
              refine ⟨k + 1, f.set k (q : Int), by go_num, HLT.out, (HZ.out.set (by have h1 := HFN.out; have h2 := HLT.out; omega) (q : Int)).below (below_drew _), by rw [List.length_set]; exact HFN.out, fun j hj => ?_, (HCr.out.self (ch_set _ _ _ _)).self (Ch.of_below (below_drew _))⟩
              by_cases hjk : j = k
              · subst hjk; rw [nth_at (by rw [List.length_set, HFN.out]; exact hj), List.getElem_set_self]; have h1 := HLN.out; omega
              · have e : nth (f.set k (q : Int)) j = nth f j := by rw [nth_at (by rw [List.length_set, HFN.out]; exact hj), List.getElem_set_ne (fun e => hjk e.symm), nth_at (by rw [HFN.out]; exact hj)]
                rw [e]; exact HFF.out j hj
            case measure => have := HLT.out; simp [intOf]; omega
          have HFit : Hid (Fit S5 f) := ⟨HFN.out.trans HNP.out.1.symm, fun j hj => HFF.out j (by have h1 := HFN.out; omega)⟩
          have HOr : Hid (Ov wr (.slice oa p.l.length oc) p.l) := (HO.out.below HB2.out).below HBr2.out
          have HKD1 : Hid (p.kind 1 = 2) := kind_one HP.out
          by_cases hk1 : k < n
          · have hk2 : ¬ k < fr.length := fun h => hlt ⟨hk1, h⟩
            have hk1i : (k : Int) < (n : Int) := by omega
            have hk2i : ¬ (k : Int) < (fr.length : Int) := by omega
            clear hk2
            clear hlt hk1
            go_upto_region 15 with fail
            clear c0 c10
            have c0 := (HXk.out wr HBr2.out).c0
            have c1 := (HXk.out wr HBr2.out).c1
            have c2 := (HXk.out wr HBr2.out).c2
            have c3 := (HXk.out wr HBr2.out).c3
            have c4 := (HXk.out wr HBr2.out).c4
            have c5 := (HXk.out wr HBr2.out).c5
            have c6 := (HXk.out wr HBr2.out).c6
            have c7 := (HXk.out wr HBr2.out).c7
            go_wp2_with fail
            refine (wnew_ok (p := p) HOr.out HP.out HKD1.out).mono ?_
            rintro e w8 ⟨P, b, ov, rfl, hn8⟩
            have HN8 : Hid (NwR wr p 1 P b ov w8) := hn8
            clear hn8 c0 c1 c2 c3 c4 c5 c6 c7
            go_wp2_with fail
            refine bodyPost_ret (v := .tuple #[.pointer (some ⟨sb, 0, none⟩), .pointer (some ⟨P, 0, none⟩), .slice (some ⟨g, 0, none⟩) n n]) (by simp [results, Tryz.results6, go_sem]) rfl ?_
            exact ⟨sb, P, _, rfl, rd_fin HB2.out HBr2.out HG2.out HZ.out HFN.out HFit.out HSr2.out HD5.out HDG.out HN8.out (by have h1 := HNP.out.1; have h2 := HPN.out; omega) HNP.out.2⟩
          · have hk1i : ¬ (k : Int) < (n : Int) := by omega
            clear hlt hk1
            go_upto_region 15 with fail
            clear c0 c10
            have c0 := (HXk.out wr HBr2.out).c0
            have c1 := (HXk.out wr HBr2.out).c1
            have c2 := (HXk.out wr HBr2.out).c2
            have c3 := (HXk.out wr HBr2.out).c3
            have c4 := (HXk.out wr HBr2.out).c4
            have c5 := (HXk.out wr HBr2.out).c5
            have c6 := (HXk.out wr HBr2.out).c6
            have c7 := (HXk.out wr HBr2.out).c7
            go_wp2_with fail
            refine (wnew_ok (p := p) HOr.out HP.out HKD1.out).mono ?_
            rintro e w8 ⟨P, b, ov, rfl, hn8⟩
            have HN8 : Hid (NwR wr p 1 P b ov w8) := hn8
            clear hn8 c0 c1 c2 c3 c4 c5 c6 c7
            go_wp2_with fail
            refine bodyPost_ret (v := .tuple #[.pointer (some ⟨sb, 0, none⟩), .pointer (some ⟨P, 0, none⟩), .slice (some ⟨g, 0, none⟩) n n]) (by simp [results, Tryz.results6, go_sem]) rfl ?_
            exact ⟨sb, P, _, rfl, rd_fin HB2.out HBr2.out HG2.out HZ.out HFN.out HFit.out HSr2.out HD5.out HDG.out HN8.out (by have h1 := HNP.out.1; have h2 := HPN.out; omega) HNP.out.2⟩
end Go.Proofs.YtopjedgknbbgkaaGreat
