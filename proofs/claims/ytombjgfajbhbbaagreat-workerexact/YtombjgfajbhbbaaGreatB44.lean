/- All calls at no source; a source beside the reference's, or none beside none. -/
import Derived.Test.YtombjgfajbhbbaaGreatB43
import Derived.Test.YtombjgfajbhbbaaGreatB42
import Derived.Test.YtombjgfajbhbbaaGreatB41
set_option maxRecDepth 100000
set_option maxHeartbeats 16000000
namespace Go.Proofs.YtombjgfajbhbbaaGreat
open Go.RowKit
theorem tkw_from {w w3 w' : World} {P : Nat} {lv ov : Value} {p : Pn} {nd : Int} {L : List Rwt} {r : List Ms × List Hh} {v : Value} (hb : Below w.heap.size w w3) (h : TkW w3 P lv ov p nd L r v w') : TkW w P lv ov p nd L r v w' := by
 obtain ⟨M, lo, lv', L', h1, h2, h3, h4, h5, h6, h7, h8⟩ := h;have s := hb.size;exact ⟨M, lo, lv', L', h1, h2, h3, h4, by omega, h6, fun x hx => ⟨(h7 x hx).1.imp id (fun q => by omega), (h7 x hx).2⟩, (Ch.of_below hb).trans h8 (fun x hx => .inl hx)⟩
theorem rtake17_walk {w : World} {P : Nat} {lv ov : Value} {p : Pn} {nd : Int} {L : List Rwt} {D : Nat → Prop} {sb : Nat} {S : Sc} {m : Ms} {ea qa pa : Option Addr} {en ec qn qc pn pc : Nat} (hn : Rwk w P lv ov p nd L) (hs : Rs D w (.pointer (some ⟨sb, 0, none⟩)) S) (hm : ML w m (.slice ea en ec) (.slice qa qn qc) (.slice pa pn pc)) (hok : m.ok) (hL : L.length ≤ 4096) :
  Calls Tryz.prog 10 #[.pointer (some ⟨P, 0, none⟩), .pointer (some ⟨sb, 0, none⟩), .agg #[.int .i64 m.K, .int .i64 m.F, .int .i64 m.T, .int .i64 m.B, .int .i64 m.A, .int .i64 m.C, .slice ea en ec, .slice qa qn qc, .slice pa pn pc]] w fun e w' => ∃ v, e = .returned (.tuple #[v, .int .i64 (takC nd m)]) ∧ TkW w P lv ov p nd L (takA p nd S m (L.map (·.h))) v w' := by
 have HX0 : Hid _ := mx_new w m (.slice ea en ec) (.slice qa qn qc) (.slice pa pn pc);have HB0 : Hid _ := below_alloc w (Obj.cells #[.int .i64 m.K, .int .i64 m.F, .int .i64 m.T, .int .i64 m.B, .int .i64 m.A, .int .i64 m.C, .slice ea en ec, .slice qa qn qc, .slice pa pn pc] 48);have HN := hidH hn;have HS := hidH hs;have HM := hidH hm;have HLL : Hid (L.length ≤ 4096) := hL;have HNV : Hid (Nv w (.slice ea en ec) m.E) := sv_nv hm.e hok.E;obtain ⟨oa, oc, e⟩ := own_formN hn.ops;subst e;clear hn hs hm hL hok;go_in;go_upto_region 1 with fail
 obtain ⟨Q, hQ⟩ : ∃ Q, Q = w.heap.size := ⟨_, rfl⟩;rw [← hQ] at HX0 ⊢;clear hQ;generalize w.alloc (Obj.cells #[.int .i64 m.K, .int .i64 m.F, .int .i64 m.T, .int .i64 m.B, .int .i64 m.A, .int .i64 m.C, .slice ea en ec, .slice qa qn qc, .slice pa pn pc] 48) = wx at HX0 HB0 ⊢;have x0 := HX0.out.c0;have x1 := HX0.out.c1;have x2 := HX0.out.c2;have x3 := HX0.out.c3;have x4 := HX0.out.c4;have x5 := HX0.out.c5;have x6 := HX0.out.c6;have x7 := HX0.out.c7;have x8 := HX0.out.c8;go_wp2_with fail;refine (rmsound_walk (HM.out.below HB0.out)).mono ?_;rintro e w3 ⟨he, hB3⟩;have HB3 := hidH (below_trans HB0.out hB3);have HX3 : Hid _ := HX0.out.keep hB3;clear hB3 HX0 HB0 x0 x1 x2 x3 x4 x5 x6 x7 x8
 cases hsn : sndM m with
 | false =>
  rw [hsn] at he;subst he;have HC : Hid (takC nd m = 150 ∧ takA p nd S m (L.map (·.h)) = ([], L.map (·.h))) := by unfold takC takA; rw [hsn]; exact ⟨rfl, rfl⟩
  clear hsn;go_wp2_with fail;go_ret2;refine ⟨.slice none 0 0, by rw [HC.out.1]; rfl, ?_⟩;rw [HC.out.2];exact tkw_none HN.out HB3.out
 | true =>
  rw [hsn] at he;subst he;have HCT : Hid (in64 m.B ∧ in64 m.A) := snd_ct hsn;have HN3 : Hid _ := HN.out.below HB3.out;have p8 : ∀ wz, Below w3.heap.size w3 wz → wz.cell? ⟨P, 8, none⟩ = some (.int .i64 nd) := fun wz hb => by rw [(HN3.out.below hb).cell]; rfl
  have x2 : ∀ wz, Below w3.heap.size w3 wz → wz.cell? ⟨Q, 2, none⟩ = some (.int .i64 m.T) := fun wz hb => (HX3.out.keep hb).c2;by_cases hT : m.T = nd;rotate_left
  ·have HC : Hid (takC nd m = 170 ∧ takA p nd S m (L.map (·.h)) = ([], L.map (·.h))) := by unfold takC takA; rw [hsn, if_neg hT]; exact ⟨rfl, if_neg (fun h => hT h.2)⟩
   have hT1 : (m.T != nd) = true := by rw [bne_iff_ne]; exact hT
   clear hsn hT;go_upto_region 5 with fail
   refine wp_region_noPanic ?_;refine wp_region_held_drew (S := fun wz => Below w3.heap.size w3 wz) (by kernel_rfl) ?_ fun hHeld => ?_
   ·exact below_drewN w3 1
   refine tkS 0 18 rfl hHeld ?_;refine tkS 1 19 rfl hHeld ?_;refine tkS 2 20 rfl hHeld ?_;refine tkS 3 21 rfl hHeld ?_;refine tkS 4 22 rfl hHeld ?_;refine tkS 5 23 rfl hHeld ?_;refine tkS 6 24 rfl hHeld ?_;refine wpAnyH_done (by kernel_rfl) ?_ _;refine NoPanic.normal ?_;go_wp2_with fail;go_ret2;refine ⟨.slice none 0 0, by rw [HC.out.1]; rfl, ?_⟩;rw [HC.out.2];exact tkw_none HN.out (below_trans HB3.out (below_drewN w3 1))
  have HC : Hid (takC nd m = 0 ∧ takA p nd S m (L.map (·.h)) = if p.kind m.F = 1 then coH p nd S m (L.map (·.h)) else if p.kind m.F = 3 then ansH p nd m (L.map (·.h)) else ([], L.map (·.h))) := by unfold takC takA; rw [hsn]; exact ⟨(if_pos rfl).trans (if_pos hT), if_pos ⟨rfl, hT⟩⟩
  have hT1 : (m.T != nd) = false := by rw [bne_eq_false_iff_eq]; exact hT
  clear hsn hT;go_upto_region 5 with fail
  refine wp_region_noPanic ?_;refine wp_region_held_drew (S := fun wz => Below w3.heap.size w3 wz) (by kernel_rfl) ?_ fun hHeld => ?_
  ·exact below_drewN w3 1
  refine tkS 0 18 rfl hHeld ?_;refine tkS 1 19 rfl hHeld ?_;refine tkS 2 20 rfl hHeld ?_;refine tkS 3 21 rfl hHeld ?_;refine tkS 4 22 rfl hHeld ?_;refine tkS 5 23 rfl hHeld ?_;refine tkS 6 24 rfl hHeld ?_;refine wpAnyH_done (by kernel_rfl) ?_ _;refine NoPanic.normal ?_;clear x2 p8 hT1;go_upto_region 7 with fail
  obtain ⟨w4, hw4⟩ : ∃ w4, w4 = w3.drew := ⟨_, rfl⟩;have HB34 : Hid (Below w3.heap.size w3 w4) := by rw [hw4]; exact below_drewN w3 1
  rw [← hw4];clear hw4;have HB4 := hidH (below_trans HB3.out HB34.out);have HX4 : Hid _ := HX3.out.keep HB34.out;have HN4 : Hid _ := HN.out.below HB4.out;clear HX3 HN3;have c0 : ∀ wz, Below w4.heap.size w4 wz → wz.cell? ⟨P, 0, none⟩ = some (.int .i64 p.P) := fun wz hb => by rw [(HN4.out.below hb).cell]; rfl
  have c1 : ∀ wz, Below w4.heap.size w4 wz → wz.cell? ⟨P, 1, none⟩ = some (.int .i64 p.S) := fun wz hb => by rw [(HN4.out.below hb).cell]; rfl
  have c2 : ∀ wz, Below w4.heap.size w4 wz → wz.cell? ⟨P, 2, none⟩ = some (.int .i64 p.W) := fun wz hb => by rw [(HN4.out.below hb).cell]; rfl
  have c3 : ∀ wz, Below w4.heap.size w4 wz → wz.cell? ⟨P, 3, none⟩ = some (.slice oa p.l.length oc) := fun wz hb => by rw [(HN4.out.below hb).cell]; rfl
  have c4 : ∀ wz, Below w4.heap.size w4 wz → wz.cell? ⟨P, 4, none⟩ = some (.int .i64 p.A) := fun wz hb => by rw [(HN4.out.below hb).cell]; rfl
  have c5 : ∀ wz, Below w4.heap.size w4 wz → wz.cell? ⟨P, 5, none⟩ = some (.int .i64 p.B) := fun wz hb => by rw [(HN4.out.below hb).cell]; rfl
  have c6 : ∀ wz, Below w4.heap.size w4 wz → wz.cell? ⟨P, 6, none⟩ = some (.int .i64 p.N) := fun wz hb => by rw [(HN4.out.below hb).cell]; rfl
  have c7 : ∀ wz, Below w4.heap.size w4 wz → wz.cell? ⟨P, 7, none⟩ = some (.int .i64 p.G) := fun wz hb => by rw [(HN4.out.below hb).cell]; rfl
  have x1 : ∀ wz, Below w4.heap.size w4 wz → wz.cell? ⟨Q, 1, none⟩ = some (.int .i64 m.F) := fun wz hb => (HX4.out.keep hb).c1;obtain ⟨kd, hkd⟩ : ∃ kd, kd = p.kind m.F := ⟨_, rfl⟩;have HKD : Hid (kd = p.kind m.F) := hkd;rw [← hkd] at HC;clear hkd;refine wp_region_noPanic ?_;refine wp_region_held_drew (S := fun wz => Below w4.heap.size w4 wz) (by kernel_rfl) ?_ fun hHeld => ?_
  ·exact below_drewN w4 1
  refine tkS 0 25 rfl hHeld ?_;refine tkS 1 26 rfl hHeld ?_;refine tkS 2 27 rfl hHeld ?_;refine tkS 3 28 rfl hHeld ?_;refine tkS 4 29 rfl hHeld ?_;refine tkS 5 30 rfl hHeld ?_;refine rdH 6 31 rfl fun K hK => ?_;go_simp;refine (rkind_walk (p := p) m.F (HN4.out.below (below_drewN w4 1)).stp).mono ?_;rintro e w5 ⟨he, hB⟩;rw [← HKD.out] at he;subst he;have HB5 := hidH (below_trans HB4.out (below_trans (below_drewN w4 1) hB));have HX5 : Hid _ := HX4.out.keep (below_trans (below_drewN w4 1) hB);have HB45 := hidH (below_trans (below_drewN w4 1) hB);clear hB;refine hK.out _ _ ?_ fun hHeld => ?_
  ·exact HB45.out
  clear hK K;try simp only [Act.put, zz]
  refine tkS 7 8 rfl hHeld ?_;refine wpAnyH_done (by kernel_rfl) ?_ _;refine NoPanic.normal ?_;clear c0 c1 c2 c3 c4 c5 c6 c7 x1 HX4 HN4;go_upto_region 8 with fail
  have x0 := HX5.out.c0;have HIS : Hid (p.is = true) := HN.out.is;have hcase : (m.K = 1 ∧ kd = 1) ∨ (m.K = 3 ∧ kd = 1) ∨ ((m.K = 5 ∨ m.K = 7) ∧ kd = 3) ∨ (¬ (m.K = 1 ∧ kd = 1) ∧ ¬ (m.K = 3 ∧ kd = 1) ∧ ¬ ((m.K = 5 ∨ m.K = 7) ∧ kd = 3)) := by omega
  rcases hcase with ⟨hk, hd⟩ | ⟨hk, hd⟩ | ⟨hk, hd⟩ | ⟨h1, h2, h3⟩
  ·have HC2 : Hid (takA p nd S m (L.map (·.h)) = asgH p nd S m (L.map (·.h))) := by show _ = _; rw [HC.out.2, if_pos hd]; unfold coH; rw [if_pos hk]
   have k1 : (m.K == 1) = true := by simp [hk]
   have d1 : (kd == 1) = true := by simp [hd]
   clear hk hd;have x1 := HX5.out.c1;have x2 := HX5.out.c2;have x3 := HX5.out.c3;have x4 := HX5.out.c4;have x5 := HX5.out.c5;have x6 := HX5.out.c6;have x7 := HX5.out.c7;have x8 := HX5.out.c8;go_wp2_with fail;refine (assign17_walk (HN.out.below HB5.out) (HS.out.below HB5.out) HLL.out (HNV.out.below HB5.out) HCT.out.1 HCT.out.2).mono ?_;rintro e w6 ⟨v, rfl, hr⟩;have HRR : Hid _ := hr;clear hr x0 x1 x2 x3 x4 x5 x6 x7 x8;go_wp2_with fail;go_ret2;refine ⟨v, by rw [HC.out.1]; rfl, ?_⟩;rw [HC2.out];exact tkw_from HB5.out HRR.out
  ·have HC2 : Hid (takA p nd S m (L.map (·.h)) = goH p nd m (L.map (·.h))) := by show _ = _; rw [HC.out.2, if_pos hd]; unfold coH; rw [if_neg (by omega), if_pos hk]
   have k1 : (m.K == 1) = false := by simp [hk]
   have k3 : (m.K == 3) = true := by simp [hk]
   have d1 : (kd == 1) = true := by simp [hd]
   clear hk hd;have x1 := HX5.out.c1;have x2 := HX5.out.c2;have x3 := HX5.out.c3;have x4 := HX5.out.c4;have x5 := HX5.out.c5;have x6 := HX5.out.c6;have x7 := HX5.out.c7;have x8 := HX5.out.c8;go_wp2_with fail;refine (started17_walk (HN.out.below HB5.out) HLL.out (HNV.out.below HB5.out) HCT.out.1 HCT.out.2).mono ?_;rintro e w6 ⟨v, rfl, hr⟩;have HRR : Hid _ := hr;clear hr x0 x1 x2 x3 x4 x5 x6 x7 x8;go_wp2_with fail;go_ret2;refine ⟨v, by rw [HC.out.1]; rfl, ?_⟩;rw [HC2.out];exact tkw_from HB5.out HRR.out
  ·obtain ⟨k, hF, hkn⟩ := kind3 HIS.out (by rw [← HKD.out]; exact hd);have HFK : Hid (m.F = 1 + p.W + (k : Int) ∧ k < p.n) := ⟨hF, hkn⟩;have HMK : Hid (m.K = 5 ∨ m.K = 7) := hk;have HC2 : Hid (takA p nd S m (L.map (·.h)) = ansH p nd m (L.map (·.h))) := by show _ = _; rw [HC.out.2, if_neg (by omega), if_pos hd]
   have d3 : (kd == 3) = true := by simp [hd]
   have k1 : (m.K == 1) = false := by rw [beq_eq_false_iff_ne]; omega
   have k3 : (m.K == 3) = false := by rw [beq_eq_false_iff_ne]; omega
   have hk7 : ((m.K == 5) = true) ∨ ((m.K == 5) = false ∧ (m.K == 7) = true) := by
    rcases hk with e | e
    ·exact .inl (by simp [e])
    ·exact .inr ⟨by simp [e], by simp [e]⟩
   clear hk hd hF hkn;have x1 := HX5.out.c1;have x2 := HX5.out.c2;have x3 := HX5.out.c3;have x4 := HX5.out.c4;have x5 := HX5.out.c5;have x6 := HX5.out.c6;have x7 := HX5.out.c7;have x8 := HX5.out.c8;rcases hk7 with k5 | ⟨k5, k7⟩
   ·go_wp2_with fail;refine (answered17_walk (HN.out.below HB5.out) HLL.out HMK.out HFK.out.1 HFK.out.2 HCT.out.1 HCT.out.2).mono ?_;rintro e w6 ⟨v, rfl, hr⟩;have HRR : Hid _ := hr;clear hr x0 x1 x2 x3 x4 x5 x6 x7 x8;go_wp2_with fail;go_ret2;refine ⟨v, by rw [HC.out.1]; rfl, ?_⟩;rw [HC2.out];exact tkw_from HB5.out HRR.out
   ·go_wp2_with fail;refine (answered17_walk (HN.out.below HB5.out) HLL.out HMK.out HFK.out.1 HFK.out.2 HCT.out.1 HCT.out.2).mono ?_;rintro e w6 ⟨v, rfl, hr⟩;have HRR : Hid _ := hr;clear hr x0 x1 x2 x3 x4 x5 x6 x7 x8;go_wp2_with fail;go_ret2;refine ⟨v, by rw [HC.out.1]; rfl, ?_⟩;rw [HC2.out];exact tkw_from HB5.out HRR.out
  ·have HC2 := (show Hid (takA p nd S m (L.map (·.h)) = ([], L.map (·.h))) from by
    show _ = _;rw [HC.out.2];by_cases q1 : kd = 1
    ·rw [if_pos q1];unfold coH;rw [if_neg (fun e => h1 ⟨e, q1⟩), if_neg (fun e => h2 ⟨e, q1⟩)]
    ·rw [if_neg q1];by_cases q3 : kd = 3
     ·rw [if_pos q3];have hK := fun e => h3 ⟨e, q3⟩;unfold ansH
      split
      ·rw [if_neg (fun e => hK e.2.2)]
      ·rfl
     ·rw [if_neg q3])
   obtain ⟨b1, hb1⟩ : ∃ b, b = (m.K == 1) := ⟨_, rfl⟩;obtain ⟨b3, hb3⟩ : ∃ b, b = (m.K == 3) := ⟨_, rfl⟩;obtain ⟨b5, hb5⟩ : ∃ b, b = (m.K == 5) := ⟨_, rfl⟩;obtain ⟨b7, hb7⟩ : ∃ b, b = (m.K == 7) := ⟨_, rfl⟩;obtain ⟨e1, he1⟩ : ∃ b, b = (kd == 1) := ⟨_, rfl⟩;obtain ⟨e3, he3⟩ : ∃ b, b = (kd == 3) := ⟨_, rfl⟩;have g1 : (b1 && e1) = false := by rw [hb1, he1]; rw [Bool.and_eq_false_iff]; rcases Classical.em (m.K = 1) with q | q; exact .inr (by rw [beq_eq_false_iff_ne]; exact fun z => h1 ⟨q, z⟩); exact .inl (by rw [beq_eq_false_iff_ne]; exact q)
   have g2 : (b3 && e1) = false := by rw [hb3, he1]; rw [Bool.and_eq_false_iff]; rcases Classical.em (m.K = 3) with q | q; exact .inr (by rw [beq_eq_false_iff_ne]; exact fun z => h2 ⟨q, z⟩); exact .inl (by rw [beq_eq_false_iff_ne]; exact q)
   have g3 : ((b5 || b7) && e3) = false := by rw [hb5, hb7, he3]; rw [Bool.and_eq_false_iff]; rcases Classical.em (m.K = 5 ∨ m.K = 7) with q | q; exact .inr (by rw [beq_eq_false_iff_ne]; exact fun z => h3 ⟨q, z⟩); exact .inl (by rw [Bool.or_eq_false_iff, beq_eq_false_iff_ne, beq_eq_false_iff_ne]; exact ⟨fun z => q (.inl z), fun z => q (.inr z)⟩)
   replace hb1 := hb1.symm;replace hb3 := hb3.symm;replace hb5 := hb5.symm;replace hb7 := hb7.symm;replace he1 := he1.symm;replace he3 := he3.symm;clear h1 h2 h3
   cases b1 <;> cases b3 <;> cases b5 <;> cases b7 <;> cases e1 <;> cases e3 <;> first | (exfalso; revert g1 g2 g3; decide) | (go_wp2_with fail; go_ret2; refine ⟨.slice none 0 0, by rw [HC.out.1]; rfl, ?_⟩; rw [HC2.out]; exact tkw_none HN.out HB5.out)
theorem take_nil17 {w : World} (sv : Value) (m : Ms) {ea qa pa : Option Addr} {en ec qn qc pn pc : Nat} : Calls Tryz.prog 9 #[.pointer none, sv, .agg #[.int .i64 m.K, .int .i64 m.F, .int .i64 m.T, .int .i64 m.B, .int .i64 m.A, .int .i64 m.C, .slice ea en ec, .slice qa qn qc, .slice pa pn pc]] w fun e w' => e = .returned (.tuple #[.slice none 0 0, .int .i64 2]) ∧ Below w.heap.size w w' := by
 have HB : Hid (Below w.heap.size w (w.alloc (Obj.cells #[.int .i64 m.K, .int .i64 m.F, .int .i64 m.T, .int .i64 m.B, .int .i64 m.A, .int .i64 m.C, .slice ea en ec, .slice qa qn qc, .slice pa pn pc] 48))) := below_alloc _ _;go_in;go_wp2_with fail;go_ret2;exact ⟨rfl, HB.out⟩
theorem take_none17 {w : World} (P : Nat) (m : Ms) {ea qa pa : Option Addr} {en ec qn qc pn pc : Nat} : Calls Tryz.prog 9 #[.pointer (some ⟨P, 0, none⟩), .pointer none, .agg #[.int .i64 m.K, .int .i64 m.F, .int .i64 m.T, .int .i64 m.B, .int .i64 m.A, .int .i64 m.C, .slice ea en ec, .slice qa qn qc, .slice pa pn pc]] w fun e w' => e = .returned (.tuple #[.slice none 0 0, .int .i64 2]) ∧ Below w.heap.size w w' := by
 have HB : Hid (Below w.heap.size w (w.alloc (Obj.cells #[.int .i64 m.K, .int .i64 m.F, .int .i64 m.T, .int .i64 m.B, .int .i64 m.A, .int .i64 m.C, .slice ea en ec, .slice qa qn qc, .slice pa pn pc] 48))) := below_alloc _ _;go_in;go_wp2_with fail;go_ret2;exact ⟨rfl, HB.out⟩
theorem rtake_nil17 {w : World} (sv : Value) (m : Ms) {ea qa pa : Option Addr} {en ec qn qc pn pc : Nat} : Calls Tryz.prog 10 #[.pointer none, sv, .agg #[.int .i64 m.K, .int .i64 m.F, .int .i64 m.T, .int .i64 m.B, .int .i64 m.A, .int .i64 m.C, .slice ea en ec, .slice qa qn qc, .slice pa pn pc]] w fun e w' => e = .returned (.tuple #[.slice none 0 0, .int .i64 2]) ∧ Below w.heap.size w w' := by
 have HB : Hid (Below w.heap.size w (w.alloc (Obj.cells #[.int .i64 m.K, .int .i64 m.F, .int .i64 m.T, .int .i64 m.B, .int .i64 m.A, .int .i64 m.C, .slice ea en ec, .slice qa qn qc, .slice pa pn pc] 48))) := below_alloc _ _;go_in;go_wp2_with fail;go_ret2;exact ⟨rfl, HB.out⟩
theorem held_nil17 {w : World} : Calls Tryz.prog 17 #[.pointer none] w fun e w' => ∃ v, e = .returned v ∧ HeR w [] v w' := by
 go_in;go_wp2_with fail;go_ret;exact ⟨_, rfl, [], ⟨World.ownsRow_nil _ _ _ _, by simp⟩, rfl, below_same _⟩
theorem rheld_nil17 {w : World} : Calls Tryz.prog 18 #[.pointer none] w fun e w' => ∃ v, e = .returned v ∧ HeR w [] v w' := by
 have HE : Hid (Hr (w.alloc (Obj.cells #[] 68)) w.heap.size (.slice (some ⟨w.heap.size, 0, none⟩) 0 0) []) := hr_empty w;have HB : Hid (Below w.heap.size w (w.alloc (Obj.cells #[] 68))) := below_alloc _ _;go_in;go_wp2_with fail;refine wp_loop_rounds 1 ?_;rw [rounds_succ];go_wp2_with fail;go_ret;exact ⟨_, rfl, [], HE.out, rfl, HB.out⟩
section
open Ieee Go.RowKit

theorem switch_nil (p : Int) (on : Bool) (w : World) : Calls Tryz.prog 14 #[.pointer none, .int .i64 p, .bool on] w fun e w' => e = .returned (.int .i64 2) ∧ w' = w := by
 go_in;go_wp2_with (go_at_call 37; refine (part_nil _ _).mono ?_; rintro e w9 ⟨rfl, h9⟩; have h9 := h9.symm; subst h9);go_ret;exact ⟨rfl, rfl⟩
theorem produce_nil (p : Int) (r : Rcd) (w : World) : Calls Tryz.prog 12 #[.pointer none, .int .i64 p, .agg #[.int .u64 r.k, .float .f64 r.x]] w fun e w' => e = .returned (.int .i64 2) ∧ Below w.heap.size w w' := by
 go_in;go_wp2_with (go_at_call 37; refine (part_nil _ _).mono ?_; rintro e w9 ⟨rfl, h9⟩; have h9 := h9.symm; subst h9);go_ret;exact ⟨rfl, below_alloc _ _⟩
theorem rswitch_nil (p : Int) (on : Bool) (w : World) : Calls Tryz.prog 15 #[.pointer none, .int .i64 p, .bool on] w fun e w' => e = .returned (.int .i64 2) ∧ w' = w := by
 go_in;go_wp2_with fail;go_ret;exact ⟨rfl, rfl⟩
theorem rproduce_nil (p : Int) (r : Rcd) (w : World) : Calls Tryz.prog 13 #[.pointer none, .int .i64 p, .agg #[.int .u64 r.k, .float .f64 r.x]] w fun e w' => e = .returned (.int .i64 2) ∧ Below w.heap.size w w' := by
 go_in;go_wp2_with fail;go_ret;exact ⟨rfl, below_alloc _ _⟩
end
end Go.Proofs.YtombjgfajbhbbaaGreat
