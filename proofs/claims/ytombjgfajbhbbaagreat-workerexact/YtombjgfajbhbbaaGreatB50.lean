/- WorkerExact: the walk. -/
import Derived.Test.YtombjgfajbhbbaaGreatB49
import Derived.Test.YtombjgfajbhbbaaGreatB48
import Derived.Deep.CutRange
set_option maxRecDepth 100000
set_option maxHeartbeats 16000000
namespace Go.Proofs.YtombjgfajbhbbaaGreat
open Go.RowKit
section
open Ieee Go.RowKit

attribute [local go_sem] run_store_float
theorem workerexact_walk {w : World} {ov v : Value} {p : Pn} {l : List Ow17} (nd : Int) (ho : Ov w ov p.l) (hv : Sw w v l) : Calls Tryz.prog 3 #[.agg #[.int .i64 p.P, .int .i64 p.S, .int .i64 p.W, ov, .int .i64 p.A, .int .i64 p.B, .int .i64 p.N, .int .i64 p.G], .int .i64 nd, v] w fun e w' => e = .returned (.bool true) ∧ Below w.heap.size w w' := by
 have HV : Hid (Sw w v l) := hv;obtain ⟨⟨oa, oc, eo, _⟩, _⟩ := id ho;subst eo;have HO := hidH ho;obtain ⟨sa, sc, rfl, hsl, _⟩ := hv.form;have hll : (l.length : Int) ≤ 9223372036854775807 := by unfold maxLen at hsl; omega
 have HX0 : Hid (Bx (w.alloc (.cells #[.int .i64 p.P, .int .i64 p.S, .int .i64 p.W, .slice oa p.l.length oc, .int .i64 p.A, .int .i64 p.B, .int .i64 p.N, .int .i64 p.G] 24)) w.heap.size p (.slice oa p.l.length oc)) := box_new w p (.slice oa p.l.length oc);have HBA : Hid (Below w.heap.size w (w.alloc (.cells #[.int .i64 p.P, .int .i64 p.S, .int .i64 p.W, .slice oa p.l.length oc, .int .i64 p.A, .int .i64 p.B, .int .i64 p.N, .int .i64 p.G] 24))) := below_alloc _ _;have HSA : Hid ((w.alloc (.cells #[.int .i64 p.P, .int .i64 p.S, .int .i64 p.W, .slice oa p.l.length oc, .int .i64 p.A, .int .i64 p.B, .int .i64 p.N, .int .i64 p.G] 24)).heap.size = w.heap.size + 1) := size_allocC _ _;clear ho hv hsl;go_in;go_upto_region 1 with fail
 obtain ⟨X, hX⟩ : ∃ X, X = w.heap.size := ⟨_, rfl⟩;have HXE : Hid (X = w.heap.size) := hX;rw [← hX] at HX0 ⊢;clear hX;generalize w.alloc (.cells #[.int .i64 p.P, .int .i64 p.S, .int .i64 p.W, .slice oa p.l.length oc, .int .i64 p.A, .int .i64 p.B, .int .i64 p.N, .int .i64 p.G] 24) = w1 at HX0 HBA HSA ⊢;have HXL : Hid (X < w1.heap.size) := by have h1 := HXE.out; have h2 := HSA.out; show _ < _; omega
 go_wp2_with fail;refine (awake_walk w1).mono ?_;rintro e w2 ⟨rfl, hB2⟩;have HB12 := hidH hB2;have HB2 := hidH (below_trans HBA.out hB2);have HX2 : Hid (Bx w2 X p (.slice oa p.l.length oc)) := HX0.out.below hB2 HXL.out;clear hB2;have c0 := HX2.out.c0;have c1 := HX2.out.c1;have c2 := HX2.out.c2;have c3 := HX2.out.c3;have c4 := HX2.out.c4;have c5 := HX2.out.c5;have c6 := HX2.out.c6;have c7 := HX2.out.c7;go_wp2_with fail;refine (znewW (nd := nd) (HO.out.below HB2.out)).mono ?_;rintro e w3 ⟨wv, rfl, hw⟩;have HW : Hid (NwP w2 p nd wv w3) := hw;have HB13 := hidH (below_trans HB12.out hw.1);have HB3 := hidH (below_trans HB2.out hw.1);have HX3 : Hid (Bx w3 X p (.slice oa p.l.length oc)) := HX0.out.below HB13.out HXL.out;obtain ⟨nc, hnc⟩ : ∃ nc, nc = nwC p nd := ⟨_, rfl⟩;have HNC : Hid (nc = nwC p nd) := hnc;rw [← hnc];clear hw hnc c0 c1 c2 c3 c4 c5 c6 c7 HX2;have c0 := HX3.out.c0;have c1 := HX3.out.c1;have c2 := HX3.out.c2;have c3 := HX3.out.c3;have c4 := HX3.out.c4;have c5 := HX3.out.c5;have c6 := HX3.out.c6;have c7 := HX3.out.c7;go_wp2_with fail;refine (znewU (nd := nd) (HO.out.below HB3.out)).mono ?_;rw [← HNC.out];rintro e w4 ⟨rv, rfl, hr⟩;have HR : Hid (RwP w3 p nd rv w4) := hr;have HB14 := hidH (below_trans HB13.out hr.1);have HB4 := hidH (below_trans HB3.out hr.1);have HX4 : Hid (Bx w4 X p (.slice oa p.l.length oc)) := HX0.out.below HB14.out HXL.out
 have HPT := (show Hid ((wv = .pointer none ∧ rv = .pointer none) ∨ ∃ P Q, wv = .pointer (some ⟨P, 0, none⟩) ∧ rv = .pointer (some ⟨Q, 0, none⟩)) from by
  rcases HW.out.2 with ⟨e1, n1⟩ | ⟨i1, k1, P, b, ov, e1, _⟩
  ·rcases hr.2 with ⟨e2, _⟩ | ⟨i2, k2, _⟩
   ·exact .inl ⟨e1, e2⟩
   ·exact absurd ⟨i2, k2⟩ n1
  ·rcases hr.2 with ⟨_, n2⟩ | ⟨i2, k2, Q, ou, e2, _⟩
   ·exact absurd ⟨i1, k1⟩ n2
   ·exact .inr ⟨P, Q, e1, e2⟩)
 have hnn : (nc != nc) = false := by simp
 clear hr c0 c1 c2 c3 c4 c5 c6 c7 HX3;go_upto_region 5 with fail
 go_cut [44] (fun bv wx => bv = .bool false ∧ wx = w4)
 case first =>
  rcases HPT.out with ⟨e1, e2⟩ | ⟨P, Q, e1, e2⟩
  ·subst e1 e2;go_wp2_with fail;go_meet;exact ⟨rfl, rfl⟩
  ·subst e1 e2;go_wp2_with fail;go_meet;exact ⟨rfl, rfl⟩
 case rest =>
 obtain ⟨rfl, hw9⟩ := hcut;replace hw9 := hw9.symm;subst hw9;have c0 := HX4.out.c0;have c3 := HX4.out.c3;go_wp2_with fail;refine (znewP (parts := p.P) (l := p.l) (HO.out.below HB4.out)).mono ?_;rintro e w5 ⟨sv, Ds, rfl, hso, hB5, hds⟩;have HSO := hidH hso;have HB45 := hidH hB5;have HDS := hidH hds;have HB5 := hidH (below_trans HB4.out hB5);have HX5 : Hid (Bx w5 X p (.slice oa p.l.length oc)) := HX0.out.below (below_trans HB14.out hB5) HXL.out;obtain ⟨ni, hni⟩ : ∃ ni, ni = newI p.P p.l := ⟨_, rfl⟩;have HNI : Hid (ni = newI p.P p.l) := hni;rw [← hni];clear hso hB5 hds hni c0 c3;have c0 := HX5.out.c0;have c3 := HX5.out.c3;go_wp2_with fail;refine (znewR (parts := p.P) (l := p.l) (HO.out.below HB5.out)).mono ?_;rw [← HNI.out];rintro e w6 ⟨tv, Dt, rfl, hro, hB6, hdt⟩;obtain ⟨h0, hbz0, hln0⟩ := bz_start (w0 := w.heap.size) HB2.out.size HW.out HR.out HSO.out HB45.out HDS.out hro hB6 hdt;have HBZ0 := hidH hbz0;have HLN0 : Hid (lnH h0 = 0) := hln0;have HB6 := hidH (below_trans HB5.out hB6)
 have HST := (show Hid ((sv = .pointer none ∧ tv = .pointer none) ∨ ∃ P Q, sv = .pointer (some ⟨P, 0, none⟩) ∧ tv = .pointer (some ⟨Q, 0, none⟩)) from by
  obtain ⟨D, ⟨_, ⟨_, _, e1, e2⟩ | ⟨S1, S2, Ds, Dt, _, _, s1, s2, _⟩⟩, _⟩ := hbz0
  ·exact .inl ⟨e1, e2⟩
  ·obtain ⟨a, _, _, _, _, e1, _⟩ := s1;obtain ⟨b, _, _, _, _, e2, _⟩ := s2;exact .inr ⟨a, b, e1, e2⟩)
 have hii : (ni != ni) = false := by simp
 clear hro hB6 hdt hbz0 hln0 c0 c3 hnn HW HR HSO HDS HPT;go_upto_region 9 with fail
 go_cut [70] (fun bv wx => bv = .bool false ∧ wx = w6)
 case first =>
  rcases HST.out with ⟨e1, e2⟩ | ⟨P, Q, e1, e2⟩
  ·subst e1 e2;go_wp2_with fail;go_meet;exact ⟨rfl, rfl⟩
  ·subst e1 e2;go_wp2_with fail;go_meet;exact ⟨rfl, rfl⟩
 case rest =>
 obtain ⟨rfl, hw9⟩ := hcut;replace hw9 := hw9.symm;subst hw9;clear hii HST HX4 HX5 HX0 HO;go_wp2_with fail;go_loopw [13] (fun iv wr => ∃ (i : Nat) (o : Option Sc) (h : Option (List Hh)), iv = .int .i64 i ∧ i ≤ l.length ∧ i ≤ 1000 ∧ lnH h ≤ i ∧ Bz w.heap.size (fun _ => False) wr sv tv wv rv p nd o o h h ∧ Below w.heap.size w wr) (fun iv _ => l.length - (intOf iv).toNat)
 case atStart => exact ⟨0, _, h0, rfl, Nat.zero_le _, Nat.zero_le _, by rw [HLN0.out]; exact Nat.le_refl _, HBZ0.out, HB6.out⟩
 case round =>
  clear HBZ0 HLN0 HB6;obtain ⟨i, o, h, rfl, hil, hit, hln, hbz, hbw⟩ := hrel;have HBZ := hidH hbz;have HLN : Hid (lnH h ≤ i ∧ i ≤ 1000) := ⟨hln, hit⟩;have HBW := hidH hbw;clear hbz hbw hln;by_cases hlt : i < l.length ∧ i < 1000
  ·obtain ⟨hl1, hl2⟩ := hlt;have hlti : (i : Int) < (l.length : Int) := by omega
   have hltk : (i : Int) < 1000 := by omega
   have HLT : Hid (i < l.length ∧ i < 1000) := ⟨hl1, hl2⟩;obtain ⟨tb, toff, e1, hcel⟩ := sw_at HV.out hl1;subst e1;have hxm : l[i] ∈ l := List.getElem_mem hl1;have hml := HV.out.ml _ hxm;have hok := HV.out.ok _ hxm;generalize l[i] = x at hcel hml hok;have HOK : Hid (x.ok) := hok;obtain ⟨ea, en, ec, qa, qn, qc, va, vn, vc, ee, eq, ev⟩ := ml_form hml;have HML : Hid (ML w x.m (.slice ea en ec) (.slice qa qn qc) (.slice va vn vc)) := by rw [← ee, ← eq, ← ev]; exact hml
   have hcel2 : ∀ j u, ((#[.int .i64 x.k, .int .i64 x.p, .bool x.f, .int .u64 x.r.k, .float .f64 x.r.x, .int .i64 x.m.K, .int .i64 x.m.F, .int .i64 x.m.T, .int .i64 x.m.B, .int .i64 x.m.A, .int .i64 x.m.C, .slice ea en ec, .slice qa qn qc, .slice va vn vc]).toList)[j]? = some u → w.cell? ⟨tb, toff + i * 14 + j, none⟩ = some u := fun j u hj => hcel j u (by unfold cellsW; rw [ee, eq, ev]; exact hj);have y0 := (HBW.out.cell (p := ⟨tb, toff + i * 14, none⟩) (cell_lt (hcel2 0 _ rfl))).trans (hcel2 0 _ rfl);have y1 := (HBW.out.cell (p := ⟨tb, toff + i * 14 + 1, none⟩) (cell_lt (hcel2 1 _ rfl))).trans (hcel2 1 _ rfl);have y2 := (HBW.out.cell (p := ⟨tb, toff + i * 14 + 2, none⟩) (cell_lt (hcel2 2 _ rfl))).trans (hcel2 2 _ rfl);have y3 := (HBW.out.cell (p := ⟨tb, toff + i * 14 + 3, none⟩) (cell_lt (hcel2 3 _ rfl))).trans (hcel2 3 _ rfl);have y4 := (HBW.out.cell (p := ⟨tb, toff + i * 14 + 4, none⟩) (cell_lt (hcel2 4 _ rfl))).trans (hcel2 4 _ rfl);have y5 := (HBW.out.cell (p := ⟨tb, toff + i * 14 + 5, none⟩) (cell_lt (hcel2 5 _ rfl))).trans (hcel2 5 _ rfl);have y6 := (HBW.out.cell (p := ⟨tb, toff + i * 14 + 6, none⟩) (cell_lt (hcel2 6 _ rfl))).trans (hcel2 6 _ rfl);have y7 := (HBW.out.cell (p := ⟨tb, toff + i * 14 + 7, none⟩) (cell_lt (hcel2 7 _ rfl))).trans (hcel2 7 _ rfl);have y8 := (HBW.out.cell (p := ⟨tb, toff + i * 14 + 8, none⟩) (cell_lt (hcel2 8 _ rfl))).trans (hcel2 8 _ rfl);have y9 := (HBW.out.cell (p := ⟨tb, toff + i * 14 + 9, none⟩) (cell_lt (hcel2 9 _ rfl))).trans (hcel2 9 _ rfl);have y10 := (HBW.out.cell (p := ⟨tb, toff + i * 14 + 10, none⟩) (cell_lt (hcel2 10 _ rfl))).trans (hcel2 10 _ rfl);have y11 := (HBW.out.cell (p := ⟨tb, toff + i * 14 + 11, none⟩) (cell_lt (hcel2 11 _ rfl))).trans (hcel2 11 _ rfl);have y12 := (HBW.out.cell (p := ⟨tb, toff + i * 14 + 12, none⟩) (cell_lt (hcel2 12 _ rfl))).trans (hcel2 12 _ rfl);have y13 := (HBW.out.cell (p := ⟨tb, toff + i * 14 + 13, none⟩) (cell_lt (hcel2 13 _ rfl))).trans (hcel2 13 _ rfl);clear hcel hcel2 hml hok ee eq ev hl1 hl2 hxm;obtain ⟨w4', hw4⟩ : ∃ w4, w4 = wr.alloc (Obj.cells #[.int .i64 x.k, .int .i64 x.p, .bool x.f, .int .u64 x.r.k, .float .f64 x.r.x, .int .i64 x.m.K, .int .i64 x.m.F, .int .i64 x.m.T, .int .i64 x.m.B, .int .i64 x.m.A, .int .i64 x.m.C, .slice ea en ec, .slice qa qn qc, .slice va vn vc] 50) := ⟨_, rfl⟩;obtain ⟨NB, hnb⟩ : ∃ NB, NB = wr.heap.size := ⟨_, rfl⟩;have HW4 : Hid (w4' = wr.alloc (Obj.cells #[.int .i64 x.k, .int .i64 x.p, .bool x.f, .int .u64 x.r.k, .float .f64 x.r.x, .int .i64 x.m.K, .int .i64 x.m.F, .int .i64 x.m.T, .int .i64 x.m.B, .int .i64 x.m.A, .int .i64 x.m.C, .slice ea en ec, .slice qa qn qc, .slice va vn vc] 50)) := hw4;have HNBE : Hid (NB = wr.heap.size) := hnb;have HB4r : Hid (Below wr.heap.size wr w4') := by rw [hw4]; exact below_alloc _ _
   have HBK : Hid (w4'.heap[NB]? = some (.cells #[.int .i64 x.k, .int .i64 x.p, .bool x.f, .int .u64 x.r.k, .float .f64 x.r.x, .int .i64 x.m.K, .int .i64 x.m.F, .int .i64 x.m.T, .int .i64 x.m.B, .int .i64 x.m.A, .int .i64 x.m.C, .slice ea en ec, .slice qa qn qc, .slice va vn vc] 50 (0, 0))) := by show _ = _; rw [hw4, hnb]; exact heap_alloc_new wr _
   have HAN : Hid ((fun x => False ∨ (wr.heap.size ≤ x ∧ x < w4'.heap.size)) NB) := .inr ⟨by rw [hnb]; exact Nat.le_refl _, by rw [hnb, hw4, size_allocC]; omega⟩;have HZ4 : Hid (Bz w.heap.size (fun x => False ∨ (wr.heap.size ≤ x ∧ x < w4'.heap.size)) w4' sv tv wv rv p nd o o h h) := HBZ.out.more HB4r.out;have HBW4 := hidH (below_trans HBW.out HB4r.out);have HML4 := hidH (HML.out.below HBW4.out);clear hw4 hnb;go_upto_region 15 with fail
   rw [← HW4.out, ← HNBE.out];clear y0 y1 y2 y3 y4 y5 y6 y7 y8 y9 y10 y11 y12 y13;have c0 : w4'.cell? ⟨NB, 0, none⟩ = some (.int .i64 x.k) := by rw [blk_cellE HBK.out]; rfl
   go_upto_block 2 with fail;clear c0;go_cut [15, 16, 17, 18, 19, 20] from 87 to 160 (fun _ _ _ _ _ _ wx => ∃ (o : Option Sc) (h : Option (List Hh)), lnH h ≤ i + 1 ∧ Bz w.heap.size (fun _ => False) wx sv tv wv rv p nd o o h h ∧ Below w.heap.size w wx)
   case first =>
    have hkk : x.k = 1 ∨ x.k = 2 ∨ x.k = 3 ∨ x.k = 4 ∨ (x.k ≠ 1 ∧ x.k ≠ 2 ∧ x.k ≠ 3 ∧ x.k ≠ 4) := by omega
    rcases hkk with hk | hk | hk | hk | ⟨hk1, hk2, hk3, hk4⟩
    ·have k1 : (x.k == 1) = true := by simp [hk]
     clear hk;have m5 : w4'.cell? ⟨NB, 5, none⟩ = some (.int .i64 x.m.K) := by rw [blk_cellE HBK.out]; rfl
     have m6 : w4'.cell? ⟨NB, 6, none⟩ = some (.int .i64 x.m.F) := by rw [blk_cellE HBK.out]; rfl
     have m7 : w4'.cell? ⟨NB, 7, none⟩ = some (.int .i64 x.m.T) := by rw [blk_cellE HBK.out]; rfl
     have m8 : w4'.cell? ⟨NB, 8, none⟩ = some (.int .i64 x.m.B) := by rw [blk_cellE HBK.out]; rfl
     have m9 : w4'.cell? ⟨NB, 9, none⟩ = some (.int .i64 x.m.A) := by rw [blk_cellE HBK.out]; rfl
     have m10 : w4'.cell? ⟨NB, 10, none⟩ = some (.int .i64 x.m.C) := by rw [blk_cellE HBK.out]; rfl
     have m11 : w4'.cell? ⟨NB, 11, none⟩ = some (.slice ea en ec) := by rw [blk_cellE HBK.out]; rfl
     have m12 : w4'.cell? ⟨NB, 12, none⟩ = some (.slice qa qn qc) := by rw [blk_cellE HBK.out]; rfl
     have m13 : w4'.cell? ⟨NB, 13, none⟩ = some (.slice va vn vc) := by rw [blk_cellE HBK.out]; rfl
     go_wp2_with fail;refine (bz_take (m := x.m) HZ4.out HML4.out HOK.out.m (by have := HLN.out; omega)).mono ?_;rintro e w5 ⟨a5, M5, lo5, K5, rfl, hm5, hk5, hmk5, hz5, hc5⟩;obtain ⟨aa, ac, rfl⟩ := own_formN hmk5.r.own;obtain ⟨cd, hcd⟩ : ∃ cd, cd = tkC nd x.m o h := ⟨_, rfl⟩;have HCD : Hid (cd = tkC nd x.m o h) := hcd;rw [← hcd];have HM5 : Hid (M5.map (·.m) = tkM p nd x.m o h) := hm5;have HMK5 := hidH hmk5;have HZ5 := hidH hz5;have HBK5 : Hid (w5.heap[NB]? = some (.cells #[.int .i64 x.k, .int .i64 x.p, .bool x.f, .int .u64 x.r.k, .float .f64 x.r.x, .int .i64 x.m.K, .int .i64 x.m.F, .int .i64 x.m.T, .int .i64 x.m.B, .int .i64 x.m.A, .int .i64 x.m.C, .slice ea en ec, .slice qa qn qc, .slice va vn vc] 50 (0, 0))) := blk_chE HBK.out hc5 (fun e => e.1 HAN.out);have HBW5 : Hid (Below w.heap.size w w5) := HBW4.out.trans (hc5.to_below HBW4.out.size (fun z hz => hz.2));have HML5 := hidH (HML.out.below HBW5.out);clear hm5 hk5 hmk5 hz5 hc5 hcd m5 m6 m7 m8 m9 m10 m11 m12 m13;have m5 : w5.cell? ⟨NB, 5, none⟩ = some (.int .i64 x.m.K) := by rw [blk_cellE HBK5.out]; rfl
     have m6 : w5.cell? ⟨NB, 6, none⟩ = some (.int .i64 x.m.F) := by rw [blk_cellE HBK5.out]; rfl
     have m7 : w5.cell? ⟨NB, 7, none⟩ = some (.int .i64 x.m.T) := by rw [blk_cellE HBK5.out]; rfl
     have m8 : w5.cell? ⟨NB, 8, none⟩ = some (.int .i64 x.m.B) := by rw [blk_cellE HBK5.out]; rfl
     have m9 : w5.cell? ⟨NB, 9, none⟩ = some (.int .i64 x.m.A) := by rw [blk_cellE HBK5.out]; rfl
     have m10 : w5.cell? ⟨NB, 10, none⟩ = some (.int .i64 x.m.C) := by rw [blk_cellE HBK5.out]; rfl
     have m11 : w5.cell? ⟨NB, 11, none⟩ = some (.slice ea en ec) := by rw [blk_cellE HBK5.out]; rfl
     have m12 : w5.cell? ⟨NB, 12, none⟩ = some (.slice qa qn qc) := by rw [blk_cellE HBK5.out]; rfl
     have m13 : w5.cell? ⟨NB, 13, none⟩ = some (.slice va vn vc) := by rw [blk_cellE HBK5.out]; rfl
     go_wp2_with fail;refine (bz_rtake (m := x.m) HZ5.out HML5.out HOK.out.m (by have := HLN.out; omega)).mono ?_;rw [← HCD.out];rintro e w6 ⟨a6, M6, lo6, K6, rfl, hm6, hk6, hmk6, hz6, hc6⟩;obtain ⟨ba, bc, rfl⟩ := own_formN hmk6.r.own;have HM6 : Hid (M5.map (·.m) = M6.map (·.m)) := HM5.out.trans hm6.symm;have HMK6 : Hid (Mr w6 lo6 (.slice ba M6.length bc) M6) := hmk6.r;have HMK56 : Hid (Mr w6 lo5 (.slice aa M5.length ac) M5) := (HMK5.out.nk hc6).r;have HZ6 := hidH hz6;have HBW6 : Hid (Below w.heap.size w w6) := HBW5.out.trans (hc6.to_below HBW5.out.size (fun z hz => hz.2));have HQL : Hid (∀ t ∈ M5, t.m.Q.length ≤ 1048576) := fun t ht => bz_q HZ4.out x.m _ (by rw [← HM5.out]; exact List.mem_map_of_mem ht);have hcc : (cd != cd) = false := by simp
     clear hm6 hk6 hmk6 hz6 hc6 m5 m6 m7 m8 m9 m10 m11 m12 m13;go_wp2_with fail;refine (msgs17 HMK56.out HMK6.out HM6.out HQL.out).mono ?_;rintro e w7 ⟨rfl, hb7⟩;have HZ7 := hidH (HZ6.out.below hb7);have HBW7 := hidH (below_trans HBW6.out hb7);clear hb7;go_wp2_with fail;go_meet;exact ⟨o, tkHo p nd x.m o h, Nat.le_trans (tkHo_len p nd x.m o h) (by have := HLN.out; omega), HZ7.out.less (fun _ e => e.elim), HBW7.out⟩
    ·have k1 : (x.k == 1) = false := by simp [hk]
     have k2 : (x.k == 2) = true := by simp [hk]
     clear hk;have m1 : w4'.cell? ⟨NB, 1, none⟩ = some (.int .i64 x.p) := by rw [blk_cellE HBK.out]; rfl
     have m3 : w4'.cell? ⟨NB, 3, none⟩ = some (.int .u64 x.r.k) := by rw [blk_cellE HBK.out]; rfl
     have m4 : w4'.cell? ⟨NB, 4, none⟩ = some (.float .f64 x.r.x) := by rw [blk_cellE HBK.out]; rfl
     go_wp2_with fail;refine (bz_prod HZ4.out x.p HOK.out.r).mono ?_;rintro e w5 ⟨⟨cd, rfl⟩, hz5, hc5⟩;have HZ5 := hidH hz5;have HBK5 : Hid (w5.heap[NB]? = some (.cells #[.int .i64 x.k, .int .i64 x.p, .bool x.f, .int .u64 x.r.k, .float .f64 x.r.x, .int .i64 x.m.K, .int .i64 x.m.F, .int .i64 x.m.T, .int .i64 x.m.B, .int .i64 x.m.A, .int .i64 x.m.C, .slice ea en ec, .slice qa qn qc, .slice va vn vc] 50 (0, 0))) := blk_chE HBK.out hc5 (fun e => e.1 HAN.out);have HBW5 : Hid (Below w.heap.size w w5) := HBW4.out.trans (hc5.to_below HBW4.out.size (fun z hz => hz.2));clear hz5 hc5 m1 m3 m4;have m1 : w5.cell? ⟨NB, 1, none⟩ = some (.int .i64 x.p) := by rw [blk_cellE HBK5.out]; rfl
     have m3 : w5.cell? ⟨NB, 3, none⟩ = some (.int .u64 x.r.k) := by rw [blk_cellE HBK5.out]; rfl
     have m4 : w5.cell? ⟨NB, 4, none⟩ = some (.float .f64 x.r.x) := by rw [blk_cellE HBK5.out]; rfl
     go_wp2_with fail;refine (bz_rprod HZ5.out x.p HOK.out.r).mono ?_;rintro e w6 ⟨⟨cd6, rfl⟩, hz6, hc6⟩;have HZ6 := hidH hz6;have HBW6 : Hid (Below w.heap.size w w6) := HBW5.out.trans (hc6.to_below HBW5.out.size (fun z hz => hz.2));clear hz6 hc6 m1 m3 m4;go_wp2_with fail;go_meet;exact ⟨prodO o x.p x.r, h, by have := HLN.out; omega, HZ6.out.less (fun _ e => e.elim), HBW6.out⟩
    ·have k1 : (x.k == 1) = false := by simp [hk]
     have k2 : (x.k == 2) = false := by simp [hk]
     have k3 : (x.k == 3) = true := by simp [hk]
     clear hk;have m1 : w4'.cell? ⟨NB, 1, none⟩ = some (.int .i64 x.p) := by rw [blk_cellE HBK.out]; rfl
     have m2 : w4'.cell? ⟨NB, 2, none⟩ = some (.bool x.f) := by rw [blk_cellE HBK.out]; rfl
     go_wp2_with fail;refine (bz_switch HZ4.out x.p (!x.f)).mono ?_;rintro e w5 ⟨⟨cd, rfl⟩, hz5, hc5⟩;have HZ5 := hidH hz5;have HBK5 : Hid (w5.heap[NB]? = some (.cells #[.int .i64 x.k, .int .i64 x.p, .bool x.f, .int .u64 x.r.k, .float .f64 x.r.x, .int .i64 x.m.K, .int .i64 x.m.F, .int .i64 x.m.T, .int .i64 x.m.B, .int .i64 x.m.A, .int .i64 x.m.C, .slice ea en ec, .slice qa qn qc, .slice va vn vc] 50 (0, 0))) := blk_chE HBK.out hc5 (fun e => e.1 HAN.out);have HBW5 : Hid (Below w.heap.size w w5) := HBW4.out.trans (hc5.to_below HBW4.out.size (fun z hz => hz.2));clear hz5 hc5 m1 m2;have m1 : w5.cell? ⟨NB, 1, none⟩ = some (.int .i64 x.p) := by rw [blk_cellE HBK5.out]; rfl
     have m2 : w5.cell? ⟨NB, 2, none⟩ = some (.bool x.f) := by rw [blk_cellE HBK5.out]; rfl
     go_wp2_with fail;refine (bz_rswitch HZ5.out x.p (!x.f)).mono ?_;rintro e w6 ⟨⟨cd6, rfl⟩, hz6, hc6⟩;have HZ6 := hidH hz6;have HBW6 : Hid (Below w.heap.size w w6) := HBW5.out.trans (hc6.to_below HBW5.out.size (fun z hz => hz.2));clear hz6 hc6 m1 m2;go_wp2_with fail;go_meet;exact ⟨switchO o x.p (!x.f), h, by have := HLN.out; omega, HZ6.out.less (fun _ e => e.elim), HBW6.out⟩
    ·have k1 : (x.k == 1) = false := by simp [hk]
     have k2 : (x.k == 2) = false := by simp [hk]
     have k3 : (x.k == 3) = false := by simp [hk]
     have k4 : (x.k == 4) = true := by simp [hk]
     clear hk;have m5 : w4'.cell? ⟨NB, 5, none⟩ = some (.int .i64 x.m.K) := by rw [blk_cellE HBK.out]; rfl
     have m6 : w4'.cell? ⟨NB, 6, none⟩ = some (.int .i64 x.m.F) := by rw [blk_cellE HBK.out]; rfl
     have m7 : w4'.cell? ⟨NB, 7, none⟩ = some (.int .i64 x.m.T) := by rw [blk_cellE HBK.out]; rfl
     have m8 : w4'.cell? ⟨NB, 8, none⟩ = some (.int .i64 x.m.B) := by rw [blk_cellE HBK.out]; rfl
     have m9 : w4'.cell? ⟨NB, 9, none⟩ = some (.int .i64 x.m.A) := by rw [blk_cellE HBK.out]; rfl
     have m10 : w4'.cell? ⟨NB, 10, none⟩ = some (.int .i64 x.m.C) := by rw [blk_cellE HBK.out]; rfl
     have m11 : w4'.cell? ⟨NB, 11, none⟩ = some (.slice ea en ec) := by rw [blk_cellE HBK.out]; rfl
     have m12 : w4'.cell? ⟨NB, 12, none⟩ = some (.slice qa qn qc) := by rw [blk_cellE HBK.out]; rfl
     have m13 : w4'.cell? ⟨NB, 13, none⟩ = some (.slice va vn vc) := by rw [blk_cellE HBK.out]; rfl
     go_wp2_with fail;refine (bz_none (m := x.m) HZ4.out).mono ?_;rintro e w5 ⟨rfl, hb5⟩;have HZ5 := hidH (HZ4.out.below hb5);have HBW5 := hidH (below_trans HBW4.out hb5);clear hb5 m5 m6 m7 m8 m9 m10 m11 m12 m13;go_wp2_with fail;go_meet;exact ⟨o, h, by have := HLN.out; omega, HZ5.out.less (fun _ e => e.elim), HBW5.out⟩
    ·have k1 : (x.k == 1) = false := by rw [beq_eq_false_iff_ne]; exact hk1
     have k2 : (x.k == 2) = false := by rw [beq_eq_false_iff_ne]; exact hk2
     have k3 : (x.k == 3) = false := by rw [beq_eq_false_iff_ne]; exact hk3
     have k4 : (x.k == 4) = false := by rw [beq_eq_false_iff_ne]; exact hk4
     clear hk1 hk2 hk3 hk4;go_wp2_with fail;go_meet;exact ⟨o, h, by have := HLN.out; omega, HZ4.out.less (fun _ e => e.elim), HBW4.out⟩
   case rest =>
    clear HZ4 HBK HAN HML HML4 HW4 HNBE HB4r HBW4 HBZ HBW HOK HLN;obtain ⟨o, h, hln, hbz, hbw⟩ := hcut;have HBZ := hidH hbz;have HLN : Hid (lnH h ≤ i + 1 ∧ i < 1000) := ⟨hln, HLT.out.2⟩;have HBW := hidH hbw;clear hbz hbw hln;go_wp2_with fail;refine (bz_held HBZ.out (by have := HLN.out; omega)).mono ?_;rintro e wh1 ⟨va1, rfl, F1, hf1, hm1, hbh1⟩;obtain ⟨fa1, fc1, rfl⟩ := own_formN hf1.own;have HH1 := hidH hf1;have HM1 : Hid (F1.map (·.h) = heO h) := hm1;have HBh1 := hidH (HBZ.out.below hbh1);clear hf1 hm1;go_wp2_with fail;refine (bz_rheld HBh1.out (by have := HLN.out; omega)).mono ?_;rintro e wh2 ⟨va2, rfl, F2, hf2, hm2, hbh2⟩;obtain ⟨fa2, fc2, rfl⟩ := own_formN hf2.own;have HH2 := hidH hf2;have HH12 := hidH (HH1.out.below hbh2);have HM12 : Hid (F1.map (·.h) = F2.map (·.h)) := HM1.out.trans hm2.symm;have HBh2 := hidH (HBh1.out.below hbh2);have hbh12 := below_trans hbh1 hbh2;have HBH12 : Hid _ := hbh12;clear hf2 hm2 hbh1 hbh2 hbh12 HBh1 HM1 HH1;go_wp2_with fail;refine (held17 HH12.out HH2.out HM12.out).mono ?_;rintro e wh3 ⟨rfl, hbh3⟩;have HBh3 := hidH (HBh2.out.below hbh3);have HBH3 := hidH (below_trans HBH12.out hbh3);clear hbh3 HBh2 HH12 HH2 HM12 HBH12;go_wp2_with fail;go_roundw
    case rel => exact ⟨i + 1, o, h, by go_num, HLT.out.1, HLT.out.2, HLN.out.1, HBh3.out, below_trans HBW.out HBH3.out⟩
    case measure => have := HLT.out.1; simp [intOf]; omega
  ·have HBZ9 := HBZ;have hcond : (l.length : Int) ≤ (i : Int) ∨ ((i : Int) < (l.length : Int) ∧ (1000 : Int) ≤ (i : Int)) := by omega
   rcases hcond with hc | ⟨hc1, hc2⟩
   ·have hlti : ¬ (i : Int) < (l.length : Int) := by omega
    clear hc;go_wp2_with fail;refine (bz_held HBZ.out (by have := HLN.out; omega)).mono ?_;rintro e wh1 ⟨va1, rfl, F1, hf1, hm1, hbh1⟩;obtain ⟨fa1, fc1, rfl⟩ := own_formN hf1.own;have HH1 := hidH hf1;have HM1 : Hid (F1.map (·.h) = heO h) := hm1;have HBh1 := hidH (HBZ.out.below hbh1);clear hf1 hm1;go_wp2_with fail;refine (bz_rheld HBh1.out (by have := HLN.out; omega)).mono ?_;rintro e wh2 ⟨va2, rfl, F2, hf2, hm2, hbh2⟩;obtain ⟨fa2, fc2, rfl⟩ := own_formN hf2.own;have HH2 := hidH hf2;have HH12 := hidH (HH1.out.below hbh2);have HM12 : Hid (F1.map (·.h) = F2.map (·.h)) := HM1.out.trans hm2.symm;have HBh2 := hidH (HBh1.out.below hbh2);have hbh12 := below_trans hbh1 hbh2;have HBH12 : Hid _ := hbh12;clear hf2 hm2 hbh1 hbh2 hbh12 HBh1 HM1 HH1;go_wp2_with fail;refine (held17 HH12.out HH2.out HM12.out).mono ?_;rintro e wh3 ⟨rfl, hbh3⟩;have HBh3 := hidH (HBh2.out.below hbh3);have HBH3 := hidH (below_trans HBH12.out hbh3);clear hbh3 HBh2 HH12 HH2 HM12 HBH12;go_wp2_with fail;go_ret;exact ⟨rfl, below_trans HBW.out HBH3.out⟩
   ·have hltk : ¬ (i : Int) < 1000 := by omega
    clear hc2;go_wp2_with fail;refine (bz_held HBZ.out (by have := HLN.out; omega)).mono ?_;rintro e wh1 ⟨va1, rfl, F1, hf1, hm1, hbh1⟩;obtain ⟨fa1, fc1, rfl⟩ := own_formN hf1.own;have HH1 := hidH hf1;have HM1 : Hid (F1.map (·.h) = heO h) := hm1;have HBh1 := hidH (HBZ.out.below hbh1);clear hf1 hm1;go_wp2_with fail;refine (bz_rheld HBh1.out (by have := HLN.out; omega)).mono ?_;rintro e wh2 ⟨va2, rfl, F2, hf2, hm2, hbh2⟩;obtain ⟨fa2, fc2, rfl⟩ := own_formN hf2.own;have HH2 := hidH hf2;have HH12 := hidH (HH1.out.below hbh2);have HM12 : Hid (F1.map (·.h) = F2.map (·.h)) := HM1.out.trans hm2.symm;have HBh2 := hidH (HBh1.out.below hbh2);have hbh12 := below_trans hbh1 hbh2;have HBH12 : Hid _ := hbh12;clear hf2 hm2 hbh1 hbh2 hbh12 HBh1 HM1 HH1;go_wp2_with fail;refine (held17 HH12.out HH2.out HM12.out).mono ?_;rintro e wh3 ⟨rfl, hbh3⟩;have HBh3 := hidH (HBh2.out.below hbh3);have HBH3 := hidH (below_trans HBH12.out hbh3);clear hbh3 HBh2 HH12 HH2 HM12 HBH12;go_wp2_with fail;go_ret;exact ⟨rfl, below_trans HBW.out HBH3.out⟩
end
end Go.Proofs.YtombjgfajbhbbaaGreat
