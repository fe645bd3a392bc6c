/- The reference's Find and Keys. -/
import Derived.Test.YtombjgfajbhbbaaGreatB36
set_option maxRecDepth 100000
set_option maxHeartbeats 16000000
namespace Go.Proofs.YtombjgfajbhbbaaGreat
open Go.RowKit
theorem answered17_all {w : World} {P : Nat} {lv ov : Value} {p : Pn} {nd : Int} {L : List Rwt} {m : Ms} {ea qa pa : Option Addr} {en ec qn qc pn pc : Nat} {k : Nat} {x : Rwt} (h : Rwk w P lv ov p nd L) (hL : L.length ≤ 4096) (hK : m.K = 7) (hcn : ¬ (setB x.h.A k).countP id < p.n) (hF : m.F = 1 + p.W + (k : Int)) (hkn : k < p.n) (hB : in64 m.B) (hA : in64 m.A) (hx : L[plF kR L m.B]? = some x) (hxn : x.h.n = m.B) (hxa : x.h.a = m.A) (hg : x.h.g = true) (hc : m.C = 0) : Calls Tryz.prog 33 #[.pointer (some ⟨P, 0, none⟩), .agg #[.int .i64 m.K, .int .i64 m.F, .int .i64 m.T, .int .i64 m.B, .int .i64 m.A, .int .i64 m.C, .slice ea en ec, .slice qa qn qc, .slice pa pn pc]] w fun e w' => ∃ v, e = .returned v ∧ TkW w P lv ov p nd L (ansH p nd m (L.map (·.h))) v w' := by
 have HX0 : Hid _ := mx_new w m (.slice ea en ec) (.slice qa qn qc) (.slice pa pn pc);have HB0 : Hid _ := below_alloc w (Obj.cells #[.int .i64 m.K, .int .i64 m.F, .int .i64 m.T, .int .i64 m.B, .int .i64 m.A, .int .i64 m.C, .slice ea en ec, .slice qa qn qc, .slice pa pn pc] 48);have HL : Hid (L.length ≤ 4096) := hL;have HMK : Hid (m.K = 7) := hK;have HF : Hid (m.F = 1 + p.W + (k : Int)) := hF;have HKN : Hid (k < p.n) := hkn;have HMB : Hid (in64 m.B) := hB;have HMA : Hid (in64 m.A) := hA;have HPN : Hid (1 ≤ p.n ∧ p.n ≤ 4) := Pn.n_le h.is;obtain ⟨_, ⟨s1, s2⟩, ⟨v1, v2⟩, _⟩ := Pn.is_num h.is;have HRI : Hid (RiseL kR L) := h.rise;obtain ⟨la, lc, e⟩ := own_formN h.row;subst e;have H0 := hidH h;have HX : Hid (L[plF kR L m.B]? = some x) := hx;have HXN : Hid (x.h.n = m.B) := hxn;have HXA : Hid (x.h.a = m.A) := hxa;have HG : Hid (x.h.g = true) := hg;have HC : Hid (m.C = 0) := hc;have hkb : (m.K == 5) = false := by rw [hK]; decide
 have HCN := hidH hcn;clear hcn;have hcb : (m.C != 0) = false := by simp [hc]
 have hfn : fnR L m = ((plF kR L m.B : Nat) : Int) := by unfold fnR; rw [hx]; simp only; rw [if_pos hxn, if_pos hxa]
 have HFN : Hid (fnR L m = ((plF kR L m.B : Nat) : Int)) := hfn;clear h hL hK hF hkn hB hA hx hxn hxa hg hc hfn;go_in;go_upto_region 1 with fail
 obtain ⟨Q, hQ⟩ : ∃ Q, Q = w.heap.size := ⟨_, rfl⟩;have HQ : Hid (Q = w.heap.size) := hQ;rw [← hQ] at HX0 ⊢;clear hQ;generalize w.alloc (Obj.cells #[.int .i64 m.K, .int .i64 m.F, .int .i64 m.T, .int .i64 m.B, .int .i64 m.A, .int .i64 m.C, .slice ea en ec, .slice qa qn qc, .slice pa pn pc] 48) = wx at HX0 HB0 ⊢;have x0 := HX0.out.c0;have x1 := HX0.out.c1;have x2 := HX0.out.c2;have x3 := HX0.out.c3;have x4 := HX0.out.c4;have x5 := HX0.out.c5;have x6 := HX0.out.c6;have x7 := HX0.out.c7;have x8 := HX0.out.c8;go_wp2_with fail;refine (rfind17_walk (m := m) (H0.out.below HB0.out) HL.out).mono ?_;rintro e w3 ⟨rfl, hB3⟩;have HB3 := hidH (below_trans HB0.out hB3);have HX3 : Hid _ := HX0.out.keep hB3;have H := hidH (H0.out.below HB3.out);clear hB3 HX0 HB0 x0 x1 x2 x3 x4 x5 x6 x7 x8;have c9 : w3.cell? ⟨P, 9, none⟩ = some (.slice la L.length lc) := by rw [H.out.cell]; rfl
 have hll : (L.length : Int) ≤ 4096 := by have := HL.out; omega
 rw [HFN.out];have hal := (List.getElem?_eq_some_iff.1 HX.out).1;obtain ⟨a, ha⟩ : ∃ a, a = plF kR L m.B := ⟨_, rfl⟩;have HA : Hid (a = plF kR L m.B) := ha;rw [← ha] at hal ⊢;obtain ⟨g, c, e, hcc, hcel⟩ := H.out.at hal;have ex : L[a] = x := by have h := HX.out; rw [← HA.out, List.getElem?_eq_getElem hal] at h; exact Option.some.inj h
 rw [ex] at hcel;have HAL : Hid (a < L.length) := hal;simp only [Value.slice.injEq] at e;obtain ⟨rfl, _, rfl⟩ := e;have hai : (a : Int) < (L.length : Int) := by omega
 have ha0 : ¬ (a : Int) < 0 := by omega
 have hab : decide ((a : Int) < 0) = false := decide_eq_false ha0;have u4' := (hcel 4 _ (by omega) rfl).1;have u4 : w3.cell? ⟨g, a * 6 + 4, none⟩ = some (.bool x.h.g) := u4';have HRO : Hid (Rwo w3 p x) := H.out.ent x (List.mem_of_getElem? HX.out);have u5 := (hcel 5 _ (by omega) rfl).1;have u2 := (hcel 2 _ (by omega) rfl).1;have hap := HRO.out.app;obtain ⟨ag, ac, hav, _⟩ := row_formN hap (by have h1 := HPN.out; have h2 := HRO.out.al; omega);have HAV : Hid (x.av = .slice (some ⟨ag, 0, none⟩) x.h.A.length ac) := hav;rw [hav] at u5 hap;have uk := own_cellN hap (j := k) (u := .bool (x.h.A.getD k false)) (by have h1 := HRO.out.al; have h2 := HKN.out; rw [List.getElem?_map, List.getElem?_eq_getElem (by omega)]; simp [List.getD_eq_getElem?_getD, List.getElem?_eq_getElem (show k < x.h.A.length by omega)]);obtain ⟨ea2, ec2, hev⟩ := own_formN HRO.out.ends;rw [hev] at u2;have hkA : (k : Int) < (x.h.A.length : Int) := by have h1 := HRO.out.al; have h2 := HKN.out; omega
 have hkn0 : (k : Int) < (p.n : Int) := by have := HKN.out; omega
 rw [HG.out] at u4;clear ha ex hcc u4' hal hcel hap hav hev;have y5 := HX3.out.c5;have q1 : ∀ wz, Below w3.heap.size w3 wz → wz.cell? ⟨Q, 1, none⟩ = some (.int .i64 m.F) := fun wz hb => (HX3.out.keep hb).c1;have q2 : ∀ wz, Below w3.heap.size w3 wz → wz.cell? ⟨P, 2, none⟩ = some (.int .i64 p.W) := fun wz hb => by rw [(H.out.below hb).cell]; rfl
 have hk64 : (k : Int) ≤ 4 := by have h1 := HKN.out; have h2 := HPN.out; omega
 go_upto_region 7 with fail
 refine wp_region_noPanic ?_;refine wp_region_held_drew (S := fun wz => Below w3.heap.size w3 wz) (by kernel_rfl) ?_ fun hHeld => ?_
 ·exact below_drewN w3 1
 refine tkS 0 32 rfl hHeld ?_;refine tkS 1 33 rfl hHeld ?_;refine tkS 2 34 rfl hHeld ?_;refine tkS 3 35 rfl hHeld ?_;refine tkS 4 36 rfl hHeld ?_;refine tkS 5 37 rfl hHeld ?_;refine tkS 6 38 rfl hHeld ?_;refine tkS 7 39 rfl hHeld ?_;refine tkS 8 40 rfl hHeld ?_;refine tkS 9 6 rfl hHeld ?_;refine wpAnyH_done (by kernel_rfl) ?_ _;refine NoPanic.normal ?_;obtain ⟨w4, hw4⟩ : ∃ w4, w4 = w3.drew := ⟨_, rfl⟩;have HB4 : Hid (Below w3.heap.size w3 w4) := by rw [hw4]; exact below_drewN w3 1
 rw [← hw4];have hkk : (0 : Int) ≤ k := by omega
 have H4 : Hid _ := H.out.below HB4.out;have HX4 : Hid _ := HX3.out.keep HB4.out;have y0 := HX4.out.c0;have y1 := HX4.out.c1;have y2 := HX4.out.c2;have y3 := HX4.out.c3;have y4 := HX4.out.c4;have y5 := HX4.out.c5;have y6 := HX4.out.c6;have y7 := HX4.out.c7;have y8 := HX4.out.c8
 have hs1 : IntKind.i64.wrap (IntKind.i64.wrap (m.F - 1) - p.W) = (k : Int) := by
  have h1 := HF.out;obtain ⟨_, ⟨s1, s2⟩, ⟨v1, v2⟩, _⟩ := Pn.is_num H.out.is;have e1 : IntKind.i64.wrap (m.F - 1) = m.F - 1 := wrapU17 (by omega) (by omega);rw [e1];exact (wrapU17 (by omega) (by omega)).trans (by omega)
 clear hw4 q1 q2;try rw [hs1]
 clear hs1 hkk;have c9 : w4.cell? ⟨P, 9, none⟩ = some (.slice (some ⟨g, 0, none⟩) L.length lc) := by rw [H4.out.cell]; rfl
 have e5 := (HB4.out.cell (p := ⟨g, a * 6 + 5, none⟩) (cell_lt u5)).trans u5;have ek := (HB4.out.cell (p := ⟨ag, k, none⟩) (cell_lt uk.1)).trans uk.1;have ez : w4.frozen? ⟨ag, k, none⟩ = false := by rw [(Ch.of_below (D := fun _ => False) HB4.out).frozen (cell_lt uk.1) (fun e => e)]; exact uk.2
 go_upto_region 15 with fail
 have HXa : Hid (L[a]? = some x) := by have h := HX.out; rwa [← HA.out] at h
 have HR5 : Hid _ := H4.out.app1 (k := k) HXa.out HAV.out;have HC5 : Hid _ := ch_set w4 ag k (.bool true);have HIN : Hid (inR x ag) := ⟨(HRO.out.app.lt ag (by rw [HAV.out]; rfl)).1, HRO.out.ha ag (by rw [HAV.out]; rfl)⟩;clear c9 e5 ek ez;generalize w4.setCell ⟨ag, k, none⟩ (.bool true) = w5 at HR5 HC5 ⊢;have hsl : a < (L.set a (appR k x)).length := by rw [List.length_set]; exact HAL.out
 have HRO5 : Hid (Rwo w5 p (appR k x)) := HR5.out.ent _ (List.mem_of_getElem? (i := a) (by rw [List.getElem?_set_self HAL.out]));obtain ⟨g', c', e', _, hcel5⟩ := HR5.out.at hsl;rw [List.length_set] at e';simp only [Value.slice.injEq, Option.some.injEq, Addr.mk.injEq] at e';obtain ⟨⟨rfl, _⟩, _, _⟩ := e';rw [List.getElem_set_self] at hcel5;have v5 := (hcel5 5 _ (by omega) rfl).1;rw [show (appR k x).av = x.av from rfl, HAV.out] at v5;have q5 : ∀ wz, Below w5.heap.size w5 wz → wz.cell? ⟨g, a * 6 + 5, none⟩ = some (.slice (some ⟨ag, 0, none⟩) x.h.A.length ac) := fun wz hb => (hb.cell (p := ⟨g, a * 6 + 5, none⟩) (cell_lt v5)).trans v5;have q9 : ∀ wz, Below w5.heap.size w5 wz → wz.cell? ⟨P, 9, none⟩ = some (.slice (some ⟨g, 0, none⟩) L.length lc) := fun wz hb => by rw [(HR5.out.below hb).cell]; rfl
 have HU2 : Hid (w3.cell? ⟨g, a * 6 + 2, none⟩ = some (.slice ea2 x.h.E.length ec2)) := u2;have z2 := (hcel5 2 _ (by omega) rfl).1;obtain ⟨eb2, fc2, hev5⟩ := own_formN HRO5.out.ends;have HEV : Hid (x.ev = .slice eb2 x.h.E.length fc2) := hev5;rw [show (appR k x).ev = x.ev from rfl, HEV.out] at z2;have HNV : Hid (Nv w5 (.slice eb2 x.h.E.length fc2) x.h.E) := by have h := own_nv HRO5.out.ends HRO5.out.eok; rw [show (appR k x).ev = x.ev from rfl, HEV.out] at h; exact h
 have q2 : ∀ wz, Below w5.heap.size w5 wz → wz.cell? ⟨g, a * 6 + 2, none⟩ = some (.slice eb2 x.h.E.length fc2) := fun wz hb => (hb.cell (p := ⟨g, a * 6 + 2, none⟩) (cell_lt z2)).trans z2;have q1 : ∀ wz, Below w5.heap.size w5 wz → wz.cell? ⟨P, 1, none⟩ = some (.int .i64 p.S) := fun wz hb => by rw [(HR5.out.below hb).cell]; rfl
 have HAP : Hid (w5.ownsRow x.lo 4 1 (.slice (some ⟨ag, 0, none⟩) x.h.A.length ac) (setB x.h.A k).length ((setB x.h.A k).map Value.bool)) := by have h := HRO5.out.app; rw [show (appR k x).av = x.av from rfl, HAV.out] at h; exact h
 have HAL4 : Hid ((setB x.h.A k).length ≤ 4) := by have h1 := HRO5.out.al; have h2 := HPN.out; have h3 : (setB x.h.A k).length = p.n := h1; show _ ≤ _; omega
 have HSN : Hid (p.n = p.S.toNat) := Pn.n_is H.out.is;obtain ⟨cn, hcn⟩ : ∃ cn, cn = (setB x.h.A k).countP id := ⟨_, rfl⟩;have HCE : Hid (cn = (setB x.h.A k).countP id) := hcn;have hcs : ¬ (cn : Int) < p.S := by have h1 := HCN.out; have h2 := HSN.out; have h3 := HPN.out; omega
 clear hcn hcel5 v5 hsl z2 hev5;go_upto_region 15 with fail
 refine wp_region_noPanic ?_;refine wp_region_held_drew (S := fun wz => Below w5.heap.size w5 wz) (by kernel_rfl) ?_ fun hHeld => ?_
 ·exact below_drewN w5 1
 refine tkS 0 77 rfl hHeld ?_;refine tkS 1 78 rfl hHeld ?_;refine tkS 2 79 rfl hHeld ?_;refine tkS 3 80 rfl hHeld ?_;refine tkS 4 81 rfl hHeld ?_;refine tkS 5 82 rfl hHeld ?_;refine tkS 6 83 rfl hHeld ?_;refine tkS 7 84 rfl hHeld ?_;refine tkS 9 86 rfl hHeld ?_;refine tkS 10 87 rfl hHeld ?_;refine tkS 11 88 rfl hHeld ?_;refine tkS 12 89 rfl hHeld ?_;refine tkS 13 90 rfl hHeld ?_;refine rdH 8 85 rfl fun K hK => ?_;go_simp;refine (rcount_walk (B := x.lo) (own_belowC HAP.out (below_drewN w5 1)) HAL4.out).mono ?_;rintro e w6 ⟨rfl, h6⟩;replace h6 := h6.symm;subst h6;rw [← HCE.out];refine hK.out _ _ ?_ fun hHeld => ?_
 ·exact (below_drewN w5 1)
 clear hK K;try simp only [Act.put, zz]
 refine tkS 14 91 rfl hHeld ?_;refine wpAnyH_done (by kernel_rfl) ?_ _;refine NoPanic.normal ?_;obtain ⟨w6, hw6⟩ : ∃ w6, w6 = w5.drewN 1 := ⟨_, rfl⟩;have HB6 : Hid (Below w5.heap.size w5 w6) := by rw [hw6]; exact below_drewN w5 1
 rw [← hw6];clear hw6;have HQag : Hid (¬ Q = ag) := by have h1 := HIN.out.2; have h2 := (H0.out.ent x (List.mem_of_getElem? HX.out)).hi; have h3 := HQ.out; show ¬ _; omega
 have HX6 : Hid _ := (HX4.out.ch HC5.out HQag.out).keep HB6.out;have H6 : Hid _ := HR5.out.below HB6.out;have y0 := HX6.out.c0;have y1 := HX6.out.c1;have y2 := HX6.out.c2;have y3 := HX6.out.c3;have y4 := HX6.out.c4;have y5 := HX6.out.c5;have y6 := HX6.out.c6;have y7 := HX6.out.c7;have y8 := HX6.out.c8;go_wp2_with fail;refine (say17_walk (m := m) 8 0 H6.out).mono ?_;rintro e w7 ⟨rfl, hB7⟩;have HB7 := hidH (below_trans HB6.out hB7);clear hB7 y0 y1 y2 y3 y4 y5 y6 y7 y8;go_upto_region 18 with fail
 have HO8 : Hid (MX (w7.alloc (Obj.cells #[.int .i64 8, .int .i64 nd, .int .i64 0, .int .i64 m.B, .int .i64 m.A, .int .i64 0, .slice none 0 0, .slice none 0 0, .slice none 0 0] 48)) w7.heap.size (sayM nd 8 0 m [] [] []) (.slice none 0 0) (.slice none 0 0) (.slice none 0 0)) := mx_new w7 (sayM nd 8 0 m [] [] []) (.slice none 0 0) (.slice none 0 0) (.slice none 0 0);have HB8 : Hid (Below w7.heap.size w7 (w7.alloc (Obj.cells #[.int .i64 8, .int .i64 nd, .int .i64 0, .int .i64 m.B, .int .i64 m.A, .int .i64 0, .slice none 0 0, .slice none 0 0, .slice none 0 0] 48))) := below_alloc _ _;have HS8 : Hid ((w7.alloc (Obj.cells #[.int .i64 8, .int .i64 nd, .int .i64 0, .int .i64 m.B, .int .i64 m.A, .int .i64 0, .slice none 0 0, .slice none 0 0, .slice none 0 0] 48)).heap.size = w7.heap.size + 1) := size_allocC _ _;obtain ⟨O, hO⟩ : ∃ O, O = w7.heap.size := ⟨_, rfl⟩;have HOE : Hid (O = w7.heap.size) := hO;rw [← hO] at HO8 ⊢;clear hO;generalize w7.alloc (Obj.cells #[.int .i64 8, .int .i64 nd, .int .i64 0, .int .i64 m.B, .int .i64 m.A, .int .i64 0, .slice none 0 0, .slice none 0 0, .slice none 0 0] 48) = w8 at HO8 HB8 HS8 ⊢;have HB58 := hidH (below_trans HB7.out HB8.out);have c9 := q9 w8 HB58.out;have c2 := q2 w8 HB58.out;clear q9 q2 q1 q5;go_wp2_with fail;refine (copied17_walk (HNV.out.below HB58.out) (by have := HRO.out.el; omega)).mono ?_;rintro e w9 ⟨v9, rfl, hrow, hB9⟩;obtain ⟨na, nc, rfl⟩ := own_formN hrow;have HRW := hidH hrow;have HO9 : Hid _ := HO8.out.keep hB9;have HB9 := hidH (below_trans HB58.out hB9);have HS9 : Hid (w8.heap.size ≤ w9.heap.size) := hB9.size;clear hrow hB9 c9 c2;have y0 := HO9.out.c0;have y1 := HO9.out.c1;have y2 := HO9.out.c2;have y3 := HO9.out.c3;have y4 := HO9.out.c4;have y5 := HO9.out.c5;have y6 := HO9.out.c6;have y7 := HO9.out.c7;have y8 := HO9.out.c8;have hz := HO9.out.z 6;go_upto_region 19 with fail
 have HOA : Hid _ := HO9.out.s6 (.slice na x.h.E.length nc);have HCA : Hid _ := ch_set w9 O 6 (.slice na x.h.E.length nc);clear y0 y1 y2 y3 y4 y5 y6 y7 y8 hz;generalize w9.setCell ⟨O, 6, none⟩ (.slice na x.h.E.length nc) = wa at HOA HCA ⊢
 have HBA := (show Hid (Below w5.heap.size w5 wa) from by
  have h1 := HOE.out;have h2 := HB7.out.size;exact HB9.out.trans (HCA.out.to_below HB9.out.size (fun z hz => by rw [hz]; omega)))
 have x0 := HOA.out.c0;have x1 := HOA.out.c1;have x2 := HOA.out.c2;have x3 := HOA.out.c3;have x4 := HOA.out.c4;have x5 := HOA.out.c5;have x6 := HOA.out.c6;have x7 := HOA.out.c7;have x8 := HOA.out.c8;go_wp2_with fail;go_ret;refine ⟨_, rfl, ?_⟩;rw [ans_7 HRI.out HX.out HXN.out HXA.out HG.out HMK.out HC.out HF.out, if_neg HCN.out, ← HA.out];have hbb := below_trans HBA.out (below_alloc wa (Obj.cells #[.int .i64 8, .int .i64 nd, .int .i64 0, .int .i64 m.B, .int .i64 m.A, .int .i64 0, .slice na x.h.E.length nc, .slice none 0 0, .slice none 0 0] 48));have hc0 := (Ch.of_below (D := Rwb P (.slice (some ⟨g, 0, none⟩) L.length lc) ov L) (below_trans HB3.out HB4.out)).trans HC5.out (fun z hz => .inl (.inr (.inr (.inr ⟨x, List.mem_of_getElem? HXa.out, by rw [hz]; exact HIN.out⟩))));refine ⟨[⟨sayM nd 8 0 m x.h.E [] [], .slice na x.h.E.length nc, .slice none 0 0, .slice none 0 0⟩], w5.heap.size, _, _, mr_one (x := ⟨sayM nd 8 0 m x.h.E [] [], .slice na x.h.E.length nc, .slice none 0 0, .slice none 0 0⟩) ⟨?_, World.ownsRow_nil _ _ _ _, World.ownsRow_nil _ _ _ _, ?_⟩ HBA.out.size, rfl, HR5.out.below hbb, rfl, hc0.size, hbb.size, fun z hz => ⟨.inl ?_, HR5.out.lt z hz⟩, hc0.trans (Ch.of_below (D := fun _ => False) hbb) (fun z hz => hz.elim)⟩
 ·exact own_baseC (own_ch HRW.out HCA.out (fun z hz e => by have h1 := (HRW.out.lt z hz).1; have h2 := HOE.out; have h3 := HS8.out; omega)) HB58.out.size
 ·have hnd := H.out.nd;exact say_ok (i64_s (by omega) (by omega)) (i64_s (by omega) (by omega)) (i64_s (by omega) (by omega)) HMB.out HMA.out HRO.out.eok (by intro z hz; simp at hz) (by intro z hz; simp at hz)
 ·rcases hz with e | e | e | ⟨y, hy, e⟩
  ·exact .inl e
  ·exact .inr (.inl e)
  ·exact .inr (.inr (.inl e))
  ·refine .inr (.inr (.inr ?_));rcases List.mem_or_eq_of_mem_set hy with q | q
   ·exact ⟨y, q, e⟩
   ·exact ⟨x, List.mem_of_getElem? HXa.out, by rw [q] at e; exact e⟩
theorem answered17_walk {w : World} {P : Nat} {lv ov : Value} {p : Pn} {nd : Int} {L : List Rwt} {m : Ms} {ea qa pa : Option Addr} {en ec qn qc pn pc : Nat} {k : Nat} (h : Rwk w P lv ov p nd L) (hL : L.length ≤ 4096) (hK : m.K = 5 ∨ m.K = 7) (hF : m.F = 1 + p.W + (k : Int)) (hkn : k < p.n) (hB : in64 m.B) (hA : in64 m.A) : Calls Tryz.prog 33 #[.pointer (some ⟨P, 0, none⟩), .agg #[.int .i64 m.K, .int .i64 m.F, .int .i64 m.T, .int .i64 m.B, .int .i64 m.A, .int .i64 m.C, .slice ea en ec, .slice qa qn qc, .slice pa pn pc]] w fun e w' => ∃ v, e = .returned v ∧ TkW w P lv ov p nd L (ansH p nd m (L.map (·.h))) v w' := by
 by_cases hq : ∀ x, L[plF kR L m.B]? = some x → x.h.n = m.B → x.h.a = m.A → x.h.g = true → m.C ≠ 0
 ·exact answered17_no h hL hK hq
 ·have hq2 : ∃ x, L[plF kR L m.B]? = some x ∧ x.h.n = m.B ∧ x.h.a = m.A ∧ x.h.g = true ∧ m.C = 0 := by
   refine Classical.byContradiction fun hn => hq fun x h1 h2 h3 h4 h5 => hn ⟨x, h1, h2, h3, h4, h5⟩
  obtain ⟨x, hx, h2, h3, h4, h5⟩ := hq2;rcases hK with hK | hK
  ·exact answered17_pairs h hL hK hF hkn hB hA hx h2 h3 h4 h5
  ·by_cases hc : (setB x.h.A k).countP id < p.n
   ·exact answered17_some h hL hK hc hF hkn hB hA hx h2 h3 h4 h5
   ·exact answered17_all h hL hK hc hF hkn hB hA hx h2 h3 h4 h5
theorem rints17 {w : World} {av bv : Value} {a b : List Int} (ha : Nv w av a) (hb : Nv w bv b) :
  Calls Tryz.prog 81 #[av, bv] w fun e w' => e = .returned (.bool (decide (a = b))) ∧ Below w.heap.size w w' := by
 have HA : Hid (Nv w av a) := ha;have HB : Hid (Nv w bv b) := hb;obtain ⟨ao, ca, rfl, hla, _⟩ := ha.form;obtain ⟨bo, cb, rfl, hlb, _⟩ := hb.form;clear ha hb;by_cases hl : a.length = b.length
 ·have hln : ((a.length : Int) != (b.length : Int)) = false := by simp [hl]
  have HL : Hid (a.length = b.length) := hl;clear hl;go_in;go_wp2_with fail;go_loopw [5] (fun iv wr => ∃ k : Nat, k ≤ a.length ∧ iv = .int .i64 k ∧ (∀ i, i < k → nth a i = nth b i) ∧ Below w.heap.size w wr) (fun iv _ => a.length - (intOf iv).toNat)
  case atStart => exact ⟨0, Nat.zero_le _, rfl, fun i hi => by omega, below_same _⟩
  case round =>
   obtain ⟨k, hk, rfl, hall, hB⟩ := hrel;have HALL : Hid (∀ i, i < k → nth a i = nth b i) := hall;have HW := hidH hB;clear hB hall;by_cases hlt : k < a.length
   ·have hltb : k < b.length := by have := HL.out; omega
    obtain ⟨g, off, rfl, c0⟩ := (HA.out.below HW.out).at hlt;obtain ⟨d, doff, rfl, d0⟩ := (HB.out.below HW.out).at hltb;obtain ⟨x, hx⟩ : ∃ x, x = nth a k := ⟨_, rfl⟩;obtain ⟨y, hy⟩ : ∃ y, y = nth b k := ⟨_, rfl⟩;rw [← hx] at c0;rw [← hy] at d0;have HX : Hid (x = nth a k) := hx;have HY : Hid (y = nth b k) := hy;clear hx hy;have hlti : (k : Int) < (a.length : Int) := by omega
    have hltbi : (k : Int) < (b.length : Int) := by omega
    by_cases hle : x = y
    ·have hq : (x != y) = false := by simp [hle]
     have HXY : Hid (x = y) := hle;clear hle;go_wp2_with fail;go_quiet (fail);go_wp2_with fail;go_roundw
     case rel =>
      refine ⟨k + 1, by omega, by go_num, fun i hi => ?_, below_trans HW.out (below_drewN _ _)⟩;by_cases hik : i = k
      ·subst hik; rw [← HX.out, ← HY.out]; exact HXY.out
      ·exact HALL.out i (by omega)
     case measure => simp [intOf]; omega
    ·have hq : (x != y) = true := by simp [hle]
     have HD : Hid (decide (a = b) = false) := by
      show _ = _;refine decide_eq_false fun h => hle ?_;rw [HX.out, HY.out, h]
     go_wp2_with fail;go_quiet (fail);go_wp2_with fail;go_ret;exact ⟨HD.out ▸ rfl, below_trans HW.out (below_drewN _ _)⟩
   ·have hnl : ¬ ((k : Int) < (a.length : Int)) := by omega
    have HD : Hid (decide (a = b) = true) := decide_eq_true (nth_ext HL.out fun i hi => HALL.out i (by omega));go_wp2_with fail;go_ret;exact ⟨HD.out ▸ rfl, HW.out⟩
 ·have hln : ((a.length : Int) != (b.length : Int)) = true := by simp; omega
  have HD : Hid (decide (a = b) = false) := decide_eq_false fun h => hl (by rw [h]);clear hl;go_in;go_wp2_with fail;go_ret;exact ⟨HD.out ▸ rfl, below_same _⟩
section
open Ieee Go.RowKit

theorem rkeys_walkF {ao : Option Addr} {ca : Nat} {l : List Pr} {w : World} (hl : l.length ≤ 11728124029610) (ha : Ql w ao l) :
  Calls Tryz.prog 82 #[.slice ao l.length ca] w fun e w' => ∃ v, e = .returned v ∧ w'.ownsRow w.heap.size 40 1 v l.length ((keyL l).map (Value.int .u64)) ∧ Below w.heap.size w w' := by
 have hli : (l.length : Int) ≤ 11728124029610 := by omega
 have HA : Hid (Ql w ao l) := ha;clear ha hl;go_in;go_wp2_with fail
 have R0 : Ky w l (.slice (some ⟨w.heap.size, 0, none⟩) 0 0) (.int .i64 0) (w.alloc (Obj.cells #[] 40)) :=
  ⟨0, Nat.zero_le _, rfl, by simpa [keyL] using World.ownsRow_lit (base := w.heap.size) (e := 40) (size := 1) w #[] 0 (Nat.le_refl _) (by simp [maxLen]) (by simp), below_alloc _ _⟩
 go_loopw [3, 4] (fun v iv wr => Ky w l v iv wr) (fun _ iv _ => l.length - (intOf iv).toNat)
 case atStart => exact R0
 case round =>
  clear R0;obtain ⟨i, hi, rfl, hown, hB⟩ := hrel;have HOW := hidH hown;have HB := hidH hB;clear hown hB;by_cases hlt : i < l.length
  ·obtain ⟨b, off, rfl, c0, c1, c2⟩ := HA.out.below HB.out i hlt;obtain ⟨p, hpe⟩ : ∃ p, p = l[i] := ⟨_, rfl⟩;rw [← hpe] at c0 c1 c2;have HE : Hid (p = l[i]) := hpe;clear hpe;go_wp2_with (at_builtin; refine wpList_append_sv (by rfl) _ _ 45 (by rfl) w.heap.size 40 .u64 8 Tryz.underlying45 info_u64 _ _ _ (by rfl) (HOW.out.alloc _) _ [(p.k : Int)] (by rfl) (sv_oneF .u64 _ _ _) (by simp [maxLen]; omega) (by simp; omega) (by have := HB.out.size; simp; omega) ?_; intro v' w4 hown' hgrow);have R' := ky_step hlt HE.out HB.out (below_alloc wr (Obj.cells #[.int .u64 p.k] 40)) (HOW.out.alloc _) hgrow hown';clear hown' hgrow;go_wp2_with fail;go_roundw
   case rel => exact R'
   case measure => simp [intOf]; omega
  ·have e : i = l.length := by omega
   have HEND : Hid (wr.ownsRow w.heap.size 40 1 u3 l.length ((keyL l).map (Value.int .u64))) := by
    have := HOW.out;rw [e, List.take_length] at this;exact this
   clear e;go_wp2_with fail;go_ret;exact ⟨_, rfl, HEND.out, HB.out⟩
end
end Go.Proofs.YtombjgfajbhbbaaGreat
