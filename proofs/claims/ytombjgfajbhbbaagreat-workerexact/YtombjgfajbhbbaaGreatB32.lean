/- Contracts of ofStore, ofCoord, Take. -/
import Derived.Test.YtombjgfajbhbbaaGreatB31
set_option maxRecDepth 100000
set_option maxHeartbeats 16000000
namespace Go.Proofs.YtombjgfajbhbbaaGreat
open Go.RowKit
theorem tk_from {w w3 w' : World} {P b : Nat} {ov : Value} {p : Pn} {nd : Int} {L : List At} {r : List Ms × List Hh} {v : Value} (hb : Below w.heap.size w w3) (h : TkR w3 P b ov p nd L r v w') : TkR w P b ov p nd L r v w' := by
 obtain ⟨M, lo, L', h1, h2, h3, h4, h5, h6, h7, h8⟩ := h;have s := hb.size;exact ⟨M, lo, L', h1, h2, h3, h4, by omega, h6, fun x hx => ⟨(h7 x hx).1.imp id (fun q => by omega), (h7 x hx).2⟩, (Ch.of_below hb).trans h8 (fun x hx => .inl hx)⟩
theorem tk_app {w w3 w' : World} {P b : Nat} {ov : Value} {p : Pn} {nd : Int} {L : List At} {r : List Ms} {v : Value} (hn : Wm w P b ov p nd L) (hb : Below w.heap.size w w3) (h : ApR w3 r v w') : TkR w P b ov p nd L (r, L.map (·.h)) v w' := by
 obtain ⟨M, h1, h2, h3⟩ := h;have s := hb.size;exact ⟨M, w3.heap.size, L, h1, h2, hn.below (below_trans hb h3), rfl, s, h3.size, fun x hx => ⟨.inl hx, by have := hn.lt x hx; omega⟩, Ch.of_below (below_trans hb h3)⟩
theorem tk_del {w w3 w' : World} {P b : Nat} {ov : Value} {p : Pn} {nd : Int} {L : List At} {k : Int} (hb : Below w.heap.size w w3) (hg : w3.grownBy w' (some b)) (h : Wm w' P b ov p nd (outL kA L k)) : TkR w P b ov p nd L ([], outL kH (L.map (·.h)) k) (.slice none 0 0) w' := by
 have hc : Ch (fun x => x = b) w3 w' := Ch.of_grown hg (fun x hx => by cases hx; rfl);have s := hb.size;have s2 := hc.size;refine ⟨[], w'.heap.size, outL kA L k, mr_nil _ _, rfl, h, ?_, by omega, Nat.le_refl _, fun x hx => ⟨.inl (bw_out hx), h.lt x hx⟩, (Ch.of_below hb).trans hc (fun x hx => .inl (.inr (.inl hx)))⟩;rw [outL_map (f := kH) (h := At.h)]; rfl
theorem ofStore_walk {w : World} {P b : Nat} {ov : Value} {p : Pn} {nd : Int} {L : List At} {m : Ms} {ea qa pa : Option Addr} {en ec qn qc pn pc : Nat} {k : Nat} (hn : Wm w P b ov p nd L) (hF : m.F = 1 + p.W + (k : Int)) (hkn : k < p.n) (hk : in64 m.B) (hka : in64 m.A) :
  Calls Tryz.prog 29 #[.pointer (some ⟨P, 0, none⟩), .agg #[.int .i64 m.K, .int .i64 m.F, .int .i64 m.T, .int .i64 m.B, .int .i64 m.A, .int .i64 m.C, .slice ea en ec, .slice qa qn qc, .slice pa pn pc]] w fun e w' => ∃ v, e = .returned v ∧ TkR w P b ov p nd L (ansH p nd m (L.map (·.h))) v w' := by
 have HN : Hid (Wm w P b ov p nd L) := hn;have HKA : Hid (in64 m.A) := hka;have HK : Hid (in64 m.B) := hk;have HFK : Hid (m.F = 1 + p.W + (k : Int)) := hF;have HKN : Hid (k < p.n) := hkn;have HTN : Hid ((m.F - (1 + p.W)).toNat = k) := by show _ = _; omega
 have HX0 : Hid _ := mx_new w m (.slice ea en ec) (.slice qa qn qc) (.slice pa pn pc);have HB0 : Hid _ := below_alloc w (Obj.cells #[.int .i64 m.K, .int .i64 m.F, .int .i64 m.T, .int .i64 m.B, .int .i64 m.A, .int .i64 m.C, .slice ea en ec, .slice qa qn qc, .slice pa pn pc] 48);clear hn hka hk hF hkn;go_in;go_upto_region 1 with fail
 obtain ⟨Q, hQ⟩ : ∃ Q, Q = w.heap.size := ⟨_, rfl⟩;have HQ : Hid (Q = w.heap.size) := hQ;rw [← hQ] at HX0 ⊢;clear hQ;generalize w.alloc (Obj.cells #[.int .i64 m.K, .int .i64 m.F, .int .i64 m.T, .int .i64 m.B, .int .i64 m.A, .int .i64 m.C, .slice ea en ec, .slice qa qn qc, .slice pa pn pc] 48) = wx at HX0 HB0 ⊢;have x0 := HX0.out.c0;have x1 := HX0.out.c1;have x2 := HX0.out.c2;have x3 := HX0.out.c3;have x4 := HX0.out.c4;have x5 := HX0.out.c5;have x6 := HX0.out.c6;have x7 := HX0.out.c7;have x8 := HX0.out.c8;go_wp2_with fail;refine (find_walk (m := m) (HN.out.below HB0.out) HK.out).mono ?_;rintro e w3 ⟨he, hB3⟩;have HB3 := hidH (below_trans HB0.out hB3);have HX3 : Hid _ := HX0.out.keep hB3;have HM : Hid (atK kH (L.map (·.h)) m.B = (atK kA L m.B).map (·.h)) := atK_map L m.B;clear hB3 HX0 HB0 x0 x1 x2 x3 x4 x5 x6 x7 x8
 cases hat : atK kA L m.B with
 | none =>
  have HR0 : Hid (ansH p nd m (L.map (·.h)) = ([], L.map (·.h))) := by show _ = _; unfold ansH; rw [HM.out, hat]; rfl
  have e2 : fndA L m = .pointer none := by unfold fndA; rw [hat]
  rw [e2] at he;subst he;clear e2 hat;go_wp2_with fail;go_ret;refine ⟨_, rfl, ?_⟩;rw [HR0.out];exact tk_none HN.out HB3.out
 | some x =>
  by_cases hA : x.h.a = m.A;rotate_left
  ·have HR0 : Hid (ansH p nd m (L.map (·.h)) = ([], L.map (·.h))) := by show _ = _; unfold ansH; rw [HM.out, hat]; exact if_neg (fun h => hA h.1)
   have e2 : fndA L m = .pointer none := by unfold fndA; rw [hat]; exact if_neg hA
   rw [e2] at he;subst he;clear e2 hat;go_wp2_with fail;go_ret;refine ⟨_, rfl, ?_⟩;rw [HR0.out];exact tk_none HN.out HB3.out
  have HXM : Hid (x ∈ L) := (atK_mem hat).1;have e2 : fndA L m = .pointer (some ⟨x.x, 0, none⟩) := by unfold fndA; rw [hat]; exact if_pos hA
  rw [e2] at he;subst he;clear e2;have HA3 : Hid (Ao w3 p x) := (HN.out.below HB3.out).ent x HXM.out;have a4 := HA3.out.cells.2.2.2.2
  cases hg : x.h.g with
  | false =>
   have HR0 : Hid (ansH p nd m (L.map (·.h)) = ([], L.map (·.h))) := by show _ = _; unfold ansH; rw [HM.out, hat]; exact if_neg (fun h => by have h2 : x.h.g = true := h.2.1; rw [hg] at h2; cases h2)
   rw [hg] at a4;clear hat hg;go_wp2_with fail;go_ret;refine ⟨_, rfl, ?_⟩;rw [HR0.out];exact tk_none HN.out HB3.out
  | true =>
   rw [hg] at a4;have x0 := HX3.out.c0;have hK5 : m.K = 5 ∨ m.K = 7 ∨ ¬ (m.K = 5 ∨ m.K = 7) := by omega
   have HANS : Hid ((m.K = 5 ∨ m.K = 7) → ansH p nd m (L.map (·.h)) = if m.C ≠ 0 then ([], outL kH (L.map (·.h)) m.B) else if m.K = 5 then ([sayM nd 6 m.F m [] [] (dealF p x.h.T k)], L.map (·.h)) else ntH p nd m x.h k (L.map (·.h))) := by
    intro h5;unfold ansH ntH;rw [HM.out, hat, HTN.out];exact if_pos ⟨hA, hg, h5⟩
   have HAT : Hid (atK kA L m.B = some x) := hat;rcases hK5 with h5 | h5 | h5;rotate_right
   ·have HR0 : Hid (ansH p nd m (L.map (·.h)) = ([], L.map (·.h))) := by show _ = _; unfold ansH; rw [HM.out, hat]; exact if_neg (fun h => h5 h.2.2)
    have h51 : (m.K != 5) = true := by rw [bne_iff_ne]; omega
    have h71 : (m.K != 7) = true := by rw [bne_iff_ne]; omega
    clear hat hg;go_wp2_with fail;go_ret;refine ⟨_, rfl, ?_⟩;rw [HR0.out];exact tk_none HN.out HB3.out
   ·have HR1 : Hid _ := HANS.out (.inl h5);rw [h5] at x0;have HMK : Hid (m.K = 5) := h5;clear hat hg h5;have x5 := HX3.out.c5;by_cases hC : m.C = 0;rotate_left
    ·have hC1 : (m.C != 0) = true := by rw [bne_iff_ne]; exact hC
     have HR0 : Hid (ansH p nd m (L.map (·.h)) = ([], outL kH (L.map (·.h)) m.B)) := by show _ = _; rw [HR1.out, if_pos hC]
     clear hC;have HN3 : Hid _ := HN.out.below HB3.out;go_upto_region 7 with fail
     have p9 := HN3.out.cells.2.2.2.2.2.2.2.2.2;have x3 := HX3.out.c3;have HSF : Hid (∀ wz, Ch (fun z => z = b) w3 wz → wz.cell? ⟨P, 9, none⟩ = some (.map (some b)) ∧ wz.cell? ⟨Q, 3, none⟩ = some (.int .i64 m.B)) := fun wz h => ⟨h.cell HN3.out.cells.2.2.2.2.2.2.2.2.2 HN3.out.pb, h.cell HX3.out.c3 (by have h1 := HN.out.ltb; have h2 := HQ.out; show ¬ Q = b; omega)⟩;clear p9 x3;refine wp_region_noPanic ?_;refine wp_region_held_drew (S := fun wz => wz.cell? ⟨P, 9, none⟩ = some (.map (some b)) ∧ wz.cell? ⟨Q, 3, none⟩ = some (.int .i64 m.B)) (by kernel_rfl) ?_ fun hHeld => ?_
     ·exact (HSF.out _ (Ch.of_below (below_drewN w3 1)))
     refine tkS 0 29 rfl hHeld ?_;refine tkS 1 30 rfl hHeld ?_;refine tkS 2 31 rfl hHeld ?_;refine tkS 3 32 rfl hHeld ?_;refine tkS 4 33 rfl hHeld ?_;refine tkS 5 34 rfl hHeld ?_;refine wpAnyH_ready (rs := [6]) (by kernel_rfl) (by simp) ?_;refine AllReadyH.cons (o := ⟨none, _, _, _, _, _⟩) rfl (fun K hK => ?_) AllReadyH.nil;obtain ⟨w4, hrun, hown4, hturn4⟩ := World.ownsMap.drop (own_mapB HN3.out.own (below_drewN w3 1)) law_i Tryz.underlying71 (key_i HK.out) 0;have hrun2 : (Builtin.delete_ #[71, 3] 0 #[.map (some b), .int .i64 m.B]).run Tryz.prog w3.drew = .ok (.tuple #[]) w4 := hrun;have hg4 := hturn4.grown;go_simp;refine hK.out _ _ ?_ fun hHeld => ?_
     ·exact (HSF.out _ ((Ch.of_below (below_drewN w3 1)).self (Ch.of_grown hg4 (fun z hz => by cases hz; rfl))))
     clear hK K;try simp only [Act.put, zz]
     refine wpAnyH_done (by kernel_rfl) ?_ _;refine NoPanic.normal ?_;have HW4 : Hid _ := (HN3.out.below (below_drewN w3 1)).del hown4 hg4;go_wp2_with fail;go_ret;refine ⟨_, rfl, ?_⟩;rw [HR0.out];exact tk_del (below_trans HB3.out (below_drewN w3 1)) hg4 HW4.out
    rw [hC] at x5;have HR0 : Hid (ansH p nd m (L.map (·.h)) = ([sayM nd 6 m.F m [] [] (dealF p x.h.T k)], L.map (·.h))) := by show _ = _; rw [HR1.out, if_neg (fun h => h hC), if_pos HMK.out]
    have HMC : Hid (m.C = 0) := hC;clear hC;go_upto_region 10 with fail
    clear x0 x5;have x0 := HX3.out.c0;have x1 := HX3.out.c1;have x2 := HX3.out.c2;have x3 := HX3.out.c3;have x4 := HX3.out.c4;have x5 := HX3.out.c5;have x6 := HX3.out.c6;have x7 := HX3.out.c7;have x8 := HX3.out.c8;go_wp2_with fail;refine (apply_walk (m := m) (HN.out.below HB3.out) HXM.out HFK.out HKN.out HK.out HKA.out).mono ?_;rintro e w4 ⟨v, rfl, hr⟩;have HRR : Hid _ := hr;clear hr x0 x1 x2 x3 x4 x5 x6 x7 x8;go_wp2_with fail;go_ret;refine ⟨_, rfl, ?_⟩;rw [HR0.out];exact tk_app HN.out HB3.out HRR.out
   ·have HR1 : Hid _ := HANS.out (.inr h5);rw [h5] at x0;have HMK : Hid (m.K = 7) := h5;clear hat hg h5;have x5 := HX3.out.c5;by_cases hC : m.C = 0;rotate_left
    ·have hC1 : (m.C != 0) = true := by rw [bne_iff_ne]; exact hC
     have HR0 : Hid (ansH p nd m (L.map (·.h)) = ([], outL kH (L.map (·.h)) m.B)) := by show _ = _; rw [HR1.out, if_pos hC]
     clear hC;have HN3 : Hid _ := HN.out.below HB3.out;go_upto_region 7 with fail
     have p9 := HN3.out.cells.2.2.2.2.2.2.2.2.2;have x3 := HX3.out.c3;have HSF : Hid (∀ wz, Ch (fun z => z = b) w3 wz → wz.cell? ⟨P, 9, none⟩ = some (.map (some b)) ∧ wz.cell? ⟨Q, 3, none⟩ = some (.int .i64 m.B)) := fun wz h => ⟨h.cell HN3.out.cells.2.2.2.2.2.2.2.2.2 HN3.out.pb, h.cell HX3.out.c3 (by have h1 := HN.out.ltb; have h2 := HQ.out; show ¬ Q = b; omega)⟩;clear p9 x3;refine wp_region_noPanic ?_;refine wp_region_held_drew (S := fun wz => wz.cell? ⟨P, 9, none⟩ = some (.map (some b)) ∧ wz.cell? ⟨Q, 3, none⟩ = some (.int .i64 m.B)) (by kernel_rfl) ?_ fun hHeld => ?_
     ·exact (HSF.out _ (Ch.of_below (below_drewN w3 1)))
     refine tkS 0 29 rfl hHeld ?_;refine tkS 1 30 rfl hHeld ?_;refine tkS 2 31 rfl hHeld ?_;refine tkS 3 32 rfl hHeld ?_;refine tkS 4 33 rfl hHeld ?_;refine tkS 5 34 rfl hHeld ?_;refine wpAnyH_ready (rs := [6]) (by kernel_rfl) (by simp) ?_;refine AllReadyH.cons (o := ⟨none, _, _, _, _, _⟩) rfl (fun K hK => ?_) AllReadyH.nil;obtain ⟨w4, hrun, hown4, hturn4⟩ := World.ownsMap.drop (own_mapB HN3.out.own (below_drewN w3 1)) law_i Tryz.underlying71 (key_i HK.out) 0;have hrun2 : (Builtin.delete_ #[71, 3] 0 #[.map (some b), .int .i64 m.B]).run Tryz.prog w3.drew = .ok (.tuple #[]) w4 := hrun;have hg4 := hturn4.grown;go_simp;refine hK.out _ _ ?_ fun hHeld => ?_
     ·exact (HSF.out _ ((Ch.of_below (below_drewN w3 1)).self (Ch.of_grown hg4 (fun z hz => by cases hz; rfl))))
     clear hK K;try simp only [Act.put, zz]
     refine wpAnyH_done (by kernel_rfl) ?_ _;refine NoPanic.normal ?_;have HW4 : Hid _ := (HN3.out.below (below_drewN w3 1)).del hown4 hg4;go_wp2_with fail;go_ret;refine ⟨_, rfl, ?_⟩;rw [HR0.out];exact tk_del (below_trans HB3.out (below_drewN w3 1)) hg4 HW4.out
    rw [hC] at x5;have HR0 : Hid (ansH p nd m (L.map (·.h)) = ntH p nd m x.h k (L.map (·.h))) := by show _ = _; rw [HR1.out, if_neg (fun h => h hC), if_neg (by rw [HMK.out]; decide)]
    have HMC : Hid (m.C = 0) := hC;clear hC;go_upto_region 11 with fail
    clear x0 x5;have x0 := HX3.out.c0;have x1 := HX3.out.c1;have x2 := HX3.out.c2;have x3 := HX3.out.c3;have x4 := HX3.out.c4;have x5 := HX3.out.c5;have x6 := HX3.out.c6;have x7 := HX3.out.c7;have x8 := HX3.out.c8;go_wp2_with fail;refine (note_walk (m := m) (HN.out.below HB3.out) HAT.out HXM.out HFK.out HKN.out HK.out HKA.out).mono ?_;rintro e w4 ⟨v, rfl, hr⟩;have HRR : Hid _ := hr;clear hr x0 x1 x2 x3 x4 x5 x6 x7 x8;go_wp2_with fail;go_ret;refine ⟨_, rfl, ?_⟩;rw [HR0.out];exact tk_from HB3.out HRR.out
def coH (p : Pn) (nd : Int) (S : Sc) (m : Ms) (H : List Hh) : List Ms × List Hh := if m.K = 1 then asgH p nd S m H else if m.K = 3 then goH p nd m H else ([], H)
theorem ofCoord_walk {w : World} {P b : Nat} {ov : Value} {p : Pn} {nd : Int} {L : List At} {D : Nat → Prop} {sb : Nat} {S : Sc} {m : Ms} {ea qa pa : Option Addr} {en ec qn qc pn pc : Nat} (hn : Wm w P b ov p nd L) (hs : Src D w (.pointer (some ⟨sb, 0, none⟩)) S) (hv : Nv w (.slice ea en ec) m.E) (hk : in64 m.B) (hka : in64 m.A) (hL : L.length ≤ 4096) :
  Calls Tryz.prog 28 #[.pointer (some ⟨P, 0, none⟩), .pointer (some ⟨sb, 0, none⟩), .agg #[.int .i64 m.K, .int .i64 m.F, .int .i64 m.T, .int .i64 m.B, .int .i64 m.A, .int .i64 m.C, .slice ea en ec, .slice qa qn qc, .slice pa pn pc]] w fun e w' => ∃ v, e = .returned v ∧ TkR w P b ov p nd L (coH p nd S m (L.map (·.h))) v w' := by
 have HN : Hid (Wm w P b ov p nd L) := hn;have HS := hidH hs;have HV := hidH hv;have HKA : Hid (in64 m.A) := hka;have HK : Hid (in64 m.B) := hk;have HLL : Hid (L.length ≤ 4096) := hL;have HX0 : Hid _ := mx_new w m (.slice ea en ec) (.slice qa qn qc) (.slice pa pn pc);have HB0 : Hid _ := below_alloc w (Obj.cells #[.int .i64 m.K, .int .i64 m.F, .int .i64 m.T, .int .i64 m.B, .int .i64 m.A, .int .i64 m.C, .slice ea en ec, .slice qa qn qc, .slice pa pn pc] 48);clear hn hs hv hka hk hL;have HS1 := hidH (HS.out.below HB0.out);have HV1 := hidH (HV.out.below HB0.out);clear HS HV;go_in;go_upto_region 1 with fail
 obtain ⟨Q, hQ⟩ : ∃ Q, Q = w.heap.size := ⟨_, rfl⟩;rw [← hQ] at HX0 ⊢;clear hQ;generalize w.alloc (Obj.cells #[.int .i64 m.K, .int .i64 m.F, .int .i64 m.T, .int .i64 m.B, .int .i64 m.A, .int .i64 m.C, .slice ea en ec, .slice qa qn qc, .slice pa pn pc] 48) = wx at HX0 HB0 HS1 HV1 ⊢;have x0 := HX0.out.c0;by_cases h1 : m.K = 1
 ·have HR0 : Hid (coH p nd S m (L.map (·.h)) = asgH p nd S m (L.map (·.h))) := if_pos h1;rw [h1] at x0;clear h1;go_upto_region 3 with fail
  clear x0;have x0 := HX0.out.c0;have x1 := HX0.out.c1;have x2 := HX0.out.c2;have x3 := HX0.out.c3;have x4 := HX0.out.c4;have x5 := HX0.out.c5;have x6 := HX0.out.c6;have x7 := HX0.out.c7;have x8 := HX0.out.c8;go_wp2_with fail;refine (assign_walk (HN.out.below HB0.out) HS1.out HV1.out HK.out HKA.out HLL.out).mono ?_;rintro e w4 ⟨v, rfl, hr⟩;have HRR : Hid _ := hr;clear hr x0 x1 x2 x3 x4 x5 x6 x7 x8;go_wp2_with fail;go_ret;refine ⟨_, rfl, ?_⟩;rw [HR0.out];exact tk_from HB0.out HRR.out
 by_cases h3 : m.K = 3
 ·have HR0 : Hid (coH p nd S m (L.map (·.h)) = goH p nd m (L.map (·.h))) := by show _ = _; unfold coH; rw [if_neg h1, if_pos h3]
  rw [h3] at x0;clear h1 h3;go_upto_region 5 with fail
  clear x0;have x0 := HX0.out.c0;have x1 := HX0.out.c1;have x2 := HX0.out.c2;have x3 := HX0.out.c3;have x4 := HX0.out.c4;have x5 := HX0.out.c5;have x6 := HX0.out.c6;have x7 := HX0.out.c7;have x8 := HX0.out.c8;go_wp2_with fail;refine (begin_walk (HN.out.below HB0.out) HV1.out HK.out HKA.out).mono ?_;rintro e w4 ⟨v, rfl, hr⟩;have HRR : Hid _ := hr;clear hr x0 x1 x2 x3 x4 x5 x6 x7 x8;go_wp2_with fail;go_ret;refine ⟨_, rfl, ?_⟩;rw [HR0.out];exact tk_from HB0.out HRR.out
 have HR0 : Hid (coH p nd S m (L.map (·.h)) = ([], L.map (·.h))) := by show _ = _; unfold coH; rw [if_neg h1, if_neg h3]
 have h11 : (m.K == 1) = false := by rw [beq_eq_false_iff_ne]; exact h1
 have h31 : (m.K == 3) = false := by rw [beq_eq_false_iff_ne]; exact h3
 go_wp2_with fail;go_ret;refine ⟨_, rfl, ?_⟩;rw [HR0.out];exact tk_none HN.out HB0.out
theorem sv_nv {w : World} {v : Value} {l : List Int} (h : Sv .i64 w v l) (hl : ∀ x ∈ l, in64 x) : Nv w v l := by
 obtain ⟨ao, cap, e, h1, h2, h3, h4⟩ := h;exact ⟨⟨ao, cap, e, h1, h2, h3, h4⟩, hl⟩
def takC (nd : Int) (m : Ms) : Int := if sndM m = true then (if m.T = nd then 0 else 170) else 150
def takA (p : Pn) (nd : Int) (S : Sc) (m : Ms) (H : List Hh) : List Ms × List Hh := if sndM m = true ∧ m.T = nd then (if p.kind m.F = 1 then coH p nd S m H else if p.kind m.F = 3 then ansH p nd m H else ([], H)) else ([], H)
theorem kind3 {p : Pn} (hp : p.is = true) {f : Int} (h : p.kind f = 3) : ∃ k : Nat, f = 1 + p.W + (k : Int) ∧ k < p.n := by
 have hb := Pn.is_num hp;unfold Pn.kind Pn.nodes at h;rw [hp] at h;simp only [if_true] at h
 split at h
 ·cases h
 ·split at h
  ·cases h
  ·split at h
   ·cases h
   ·refine ⟨(f - (1 + p.W)).toNat, by omega, ?_⟩;rw [Pn.n_is hp];omega
theorem snd_ct {m : Ms} (h : sndM m = true) : in64 m.B ∧ in64 m.A := by
 unfold sndM ctB at h;simp only [Bool.and_eq_true, decide_eq_true_eq] at h;obtain ⟨_, _, ⟨h1, h2⟩, ⟨h3, h4⟩, _⟩ := h;exact ⟨⟨by omega, by omega⟩, ⟨by omega, by omega⟩⟩
theorem take_walk {w : World} {P b : Nat} {ov : Value} {p : Pn} {nd : Int} {L : List At} {D : Nat → Prop} {sb : Nat} {S : Sc} {m : Ms} {ea qa pa : Option Addr} {en ec qn qc pn pc : Nat} (hn : Wm w P b ov p nd L) (hs : Src D w (.pointer (some ⟨sb, 0, none⟩)) S) (hm : ML w m (.slice ea en ec) (.slice qa qn qc) (.slice pa pn pc)) (hok : m.ok) (hL : L.length ≤ 4096) :
  Calls Tryz.prog 9 #[.pointer (some ⟨P, 0, none⟩), .pointer (some ⟨sb, 0, none⟩), .agg #[.int .i64 m.K, .int .i64 m.F, .int .i64 m.T, .int .i64 m.B, .int .i64 m.A, .int .i64 m.C, .slice ea en ec, .slice qa qn qc, .slice pa pn pc]] w fun e w' => ∃ v, e = .returned (.tuple #[v, .int .i64 (takC nd m)]) ∧ TkR w P b ov p nd L (takA p nd S m (L.map (·.h))) v w' := by
 have HN : Hid (Wm w P b ov p nd L) := hn;have HS := hidH hs;have HM := hidH hm;have HLL : Hid (L.length ≤ 4096) := hL;have HNV : Hid (Nv w (.slice ea en ec) m.E) := sv_nv hm.e hok.E;have HX0 : Hid _ := mx_new w m (.slice ea en ec) (.slice qa qn qc) (.slice pa pn pc);have HB0 : Hid _ := below_alloc w (Obj.cells #[.int .i64 m.K, .int .i64 m.F, .int .i64 m.T, .int .i64 m.B, .int .i64 m.A, .int .i64 m.C, .slice ea en ec, .slice qa qn qc, .slice pa pn pc] 48);clear hn hs hm hL hok;go_in;go_upto_region 1 with fail
 obtain ⟨Q, hQ⟩ : ∃ Q, Q = w.heap.size := ⟨_, rfl⟩;rw [← hQ] at HX0 ⊢;clear hQ;generalize w.alloc (Obj.cells #[.int .i64 m.K, .int .i64 m.F, .int .i64 m.T, .int .i64 m.B, .int .i64 m.A, .int .i64 m.C, .slice ea en ec, .slice qa qn qc, .slice pa pn pc] 48) = wx at HX0 HB0 ⊢;have x0 := HX0.out.c0;have x1 := HX0.out.c1;have x2 := HX0.out.c2;have x3 := HX0.out.c3;have x4 := HX0.out.c4;have x5 := HX0.out.c5;have x6 := HX0.out.c6;have x7 := HX0.out.c7;have x8 := HX0.out.c8;go_wp2_with fail;refine (sound_walkJ (HM.out.below HB0.out)).mono ?_;rintro e w3 ⟨he, hB3⟩;have HB3 := hidH (below_trans HB0.out hB3);have HX3 : Hid _ := HX0.out.keep hB3;clear hB3 HX0 HB0 x0 x1 x2 x3 x4 x5 x6 x7 x8
 cases hsn : sndM m with
 | false =>
  rw [hsn] at he;subst he;have HC : Hid (takC nd m = 150 ∧ takA p nd S m (L.map (·.h)) = ([], L.map (·.h))) := by unfold takC takA; rw [hsn]; exact ⟨rfl, rfl⟩
  clear hsn;go_wp2_with fail;go_ret2;refine ⟨.slice none 0 0, by rw [HC.out.1]; rfl, ?_⟩;rw [HC.out.2];exact tk_none HN.out HB3.out
 | true =>
  rw [hsn] at he;subst he;have HCT : Hid (in64 m.B ∧ in64 m.A) := snd_ct hsn;have HN3 : Hid _ := HN.out.below HB3.out;have p8 := HN3.out.cells.2.2.2.2.2.2.2.2.1;have x2 := HX3.out.c2;by_cases hT : m.T = nd;rotate_left
  ·have HC : Hid (takC nd m = 170 ∧ takA p nd S m (L.map (·.h)) = ([], L.map (·.h))) := by unfold takC takA; rw [hsn, if_neg hT]; exact ⟨rfl, if_neg (fun h => hT h.2)⟩
   have hT1 : (m.T != nd) = true := by rw [bne_iff_ne]; exact hT
   clear hsn hT;go_upto_region 5 with fail
   go_quiet (fail);go_wp2_with fail;go_ret2;refine ⟨.slice none 0 0, by rw [HC.out.1]; rfl, ?_⟩;rw [HC.out.2];exact tk_none HN.out (below_trans HB3.out (below_drewN _ _))
  have HC : Hid (takC nd m = 0 ∧ takA p nd S m (L.map (·.h)) = if p.kind m.F = 1 then coH p nd S m (L.map (·.h)) else if p.kind m.F = 3 then ansH p nd m (L.map (·.h)) else ([], L.map (·.h))) := by unfold takC takA; rw [hsn]; exact ⟨(if_pos rfl).trans (if_pos hT), if_pos ⟨rfl, hT⟩⟩
  rw [hT] at x2;clear hsn hT;go_upto_region 5 with fail
  go_quiet (fail);go_upto_region 7 with fail
  generalize hw : w3.drewN nq = w4;have HB4 : Hid (Below w.heap.size w w4) := by rw [← hw]; exact below_trans HB3.out (below_drewN _ _)
  have HX4 : Hid (MX w4 Q m (.slice ea en ec) (.slice qa qn qc) (.slice pa pn pc)) := by have h := HX3.out.keep (below_drewN w3 nq); rw [hw] at h; exact h
  clear hw x2 p8 HX3 HN3;have HN4 : Hid _ := HN.out.below HB4.out;obtain ⟨oa, oc, hov⟩ := own_formN HN.out.ops;subst hov;have c0 := fun wz (h : Below w4.heap.size w4 wz) => (HN4.out.below h).cells.1;have c1 := fun wz (h : Below w4.heap.size w4 wz) => (HN4.out.below h).cells.2.1;have c2 := fun wz (h : Below w4.heap.size w4 wz) => (HN4.out.below h).cells.2.2.1;have c3 := fun wz (h : Below w4.heap.size w4 wz) => (HN4.out.below h).cells.2.2.2.1;have c4 := fun wz (h : Below w4.heap.size w4 wz) => (HN4.out.below h).cells.2.2.2.2.1;have c5 := fun wz (h : Below w4.heap.size w4 wz) => (HN4.out.below h).cells.2.2.2.2.2.1;have c6 := fun wz (h : Below w4.heap.size w4 wz) => (HN4.out.below h).cells.2.2.2.2.2.2.1;have c7 := fun wz (h : Below w4.heap.size w4 wz) => (HN4.out.below h).cells.2.2.2.2.2.2.2.1;have x1 := fun wz (h : Below w4.heap.size w4 wz) => (HX4.out.keep h).c1;have hk3 : p.kind m.F = 1 ∨ p.kind m.F = 3 ∨ (p.kind m.F ≠ 1 ∧ p.kind m.F ≠ 3) := by omega
  rcases hk3 with hkd | hkd | hkd
  ·have HKD : Hid (p.kind m.F = 1) := hkd;have HC2 : Hid (takA p nd S m (L.map (·.h)) = coH p nd S m (L.map (·.h))) := by show _ = _; rw [HC.out.2, if_pos hkd]
   clear hkd;refine wp_region_noPanic ?_;refine wp_region_held_drew (S := fun wz => Below w4.heap.size w4 wz) (by kernel_rfl) ?_ fun hHeld => ?_
   ·exact below_drewN w4 1
   refine tkS 0 24 rfl hHeld ?_;refine tkS 1 25 rfl hHeld ?_;refine tkS 2 26 rfl hHeld ?_;refine tkS 3 27 rfl hHeld ?_;refine tkS 4 28 rfl hHeld ?_;refine tkS 5 29 rfl hHeld ?_;refine rdH 6 30 rfl fun K hK => ?_;go_simp;refine (kind_walk (p := p) m.F (HN4.out.below (below_drewN w4 1)).ov).mono ?_;rintro e w5 ⟨he, hB⟩;rw [HKD.out] at he;subst he;have HB5 := hidH (below_trans HB4.out (below_trans (below_drewN w4 1) hB));have HX5 : Hid _ := HX4.out.keep (below_trans (below_drewN w4 1) hB);have HB45 := hidH (below_trans (below_drewN w4 1) hB);clear hB;refine hK.out _ _ ?_ fun hHeld => ?_
   ·exact HB45.out
   clear hK K;try simp only [Act.put, zz]
   refine wpAnyH_done (by kernel_rfl) ?_ _;refine NoPanic.normal ?_;clear c0 c1 c2 c3 c4 c5 c6 c7 x1;go_upto_region 9 with fail
   have x0 := HX5.out.c0;have x1 := HX5.out.c1;have x2 := HX5.out.c2;have x3 := HX5.out.c3;have x4 := HX5.out.c4;have x5 := HX5.out.c5;have x6 := HX5.out.c6;have x7 := HX5.out.c7;have x8 := HX5.out.c8;go_wp2_with fail;refine (ofCoord_walk (HN.out.below HB5.out) (HS.out.below HB5.out) (HNV.out.below HB5.out) HCT.out.1 HCT.out.2 HLL.out).mono ?_;rintro e w6 ⟨v, rfl, hr⟩;have HRR : Hid _ := hr;clear hr x0 x1 x2 x3 x4 x5 x6 x7 x8;go_wp2_with fail;go_ret2;refine ⟨v, by rw [HC.out.1]; rfl, ?_⟩;rw [HC2.out];exact tk_from HB5.out HRR.out
  ·have HKD : Hid (p.kind m.F = 3) := hkd;have HC2 : Hid (takA p nd S m (L.map (·.h)) = ansH p nd m (L.map (·.h))) := by show _ = _; rw [HC.out.2, if_neg (by rw [hkd]; decide), if_pos hkd]
   obtain ⟨k, hF, hkn⟩ := kind3 HN.out.is hkd;have HFK : Hid (m.F = 1 + p.W + (k : Int) ∧ k < p.n) := ⟨hF, hkn⟩;clear hF hkn;clear hkd;refine wp_region_noPanic ?_;refine wp_region_held_drew (S := fun wz => Below w4.heap.size w4 wz) (by kernel_rfl) ?_ fun hHeld => ?_
   ·exact below_drewN w4 1
   refine tkS 0 24 rfl hHeld ?_;refine tkS 1 25 rfl hHeld ?_;refine tkS 2 26 rfl hHeld ?_;refine tkS 3 27 rfl hHeld ?_;refine tkS 4 28 rfl hHeld ?_;refine tkS 5 29 rfl hHeld ?_;refine rdH 6 30 rfl fun K hK => ?_;go_simp;refine (kind_walk (p := p) m.F (HN4.out.below (below_drewN w4 1)).ov).mono ?_;rintro e w5 ⟨he, hB⟩;rw [HKD.out] at he;subst he;have HB5 := hidH (below_trans HB4.out (below_trans (below_drewN w4 1) hB));have HX5 : Hid _ := HX4.out.keep (below_trans (below_drewN w4 1) hB);have HB45 := hidH (below_trans (below_drewN w4 1) hB);clear hB;refine hK.out _ _ ?_ fun hHeld => ?_
   ·exact HB45.out
   clear hK K;try simp only [Act.put, zz]
   refine wpAnyH_done (by kernel_rfl) ?_ _;refine NoPanic.normal ?_;clear c0 c1 c2 c3 c4 c5 c6 c7 x1;go_upto_region 11 with fail
   have x0 := HX5.out.c0;have x1 := HX5.out.c1;have x2 := HX5.out.c2;have x3 := HX5.out.c3;have x4 := HX5.out.c4;have x5 := HX5.out.c5;have x6 := HX5.out.c6;have x7 := HX5.out.c7;have x8 := HX5.out.c8;go_wp2_with fail;refine (ofStore_walk (HN.out.below HB5.out) HFK.out.1 HFK.out.2 HCT.out.1 HCT.out.2).mono ?_;rintro e w6 ⟨v, rfl, hr⟩;have HRR : Hid _ := hr;clear hr x0 x1 x2 x3 x4 x5 x6 x7 x8;go_wp2_with fail;go_ret2;refine ⟨v, by rw [HC.out.1]; rfl, ?_⟩;rw [HC2.out];exact tk_from HB5.out HRR.out
  ·have HC2 : Hid (takA p nd S m (L.map (·.h)) = ([], L.map (·.h))) := by show _ = _; rw [HC.out.2, if_neg hkd.1, if_neg hkd.2]
   obtain ⟨c, hc⟩ : ∃ c, c = p.kind m.F := ⟨_, rfl⟩;have HKD : Hid (p.kind m.F = c) := hc.symm;have h11 : (c == 1) = false := by rw [beq_eq_false_iff_ne, hc]; exact hkd.1
   have h31 : (c == 3) = false := by rw [beq_eq_false_iff_ne, hc]; exact hkd.2
   clear hkd hc;refine wp_region_noPanic ?_;refine wp_region_held_drew (S := fun wz => Below w4.heap.size w4 wz) (by kernel_rfl) ?_ fun hHeld => ?_
   ·exact below_drewN w4 1
   refine tkS 0 24 rfl hHeld ?_;refine tkS 1 25 rfl hHeld ?_;refine tkS 2 26 rfl hHeld ?_;refine tkS 3 27 rfl hHeld ?_;refine tkS 4 28 rfl hHeld ?_;refine tkS 5 29 rfl hHeld ?_;refine rdH 6 30 rfl fun K hK => ?_;go_simp;refine (kind_walk (p := p) m.F (HN4.out.below (below_drewN w4 1)).ov).mono ?_;rintro e w5 ⟨he, hB⟩;rw [HKD.out] at he;subst he;have HB5 := hidH (below_trans HB4.out (below_trans (below_drewN w4 1) hB));have HX5 : Hid _ := HX4.out.keep (below_trans (below_drewN w4 1) hB);have HB45 := hidH (below_trans (below_drewN w4 1) hB);clear hB;refine hK.out _ _ ?_ fun hHeld => ?_
   ·exact HB45.out
   clear hK K;try simp only [Act.put, zz]
   refine wpAnyH_done (by kernel_rfl) ?_ _;refine NoPanic.normal ?_;go_wp2_with fail;go_ret2;refine ⟨.slice none 0 0, by rw [HC.out.1]; rfl, ?_⟩;rw [HC2.out];exact tk_none HN.out HB5.out
end Go.Proofs.YtombjgfajbhbbaaGreat
