/- The reference's New; all calls at no source. -/
import Derived.Test.YtombjgfajbhbbaaGreatB20
set_option maxRecDepth 100000
set_option maxHeartbeats 16000000
namespace Go.Proofs.YtombjgfajbhbbaaGreat
open Go.RowKit
section
open Ieee Go.RowKit

section

variable {D : Nat → Prop} {w : World} {v : Value} {S : Sc} {sb gp gq : Nat} {lv : Value} {rv : Nat → Value}

theorem RM.addR {w2 : World} {v' : Value} {q n : Nat} {l : List Rcd} {ks : List Nat} (h : RM D w sb gp gq lv rv S) (hq : q < S.np) (hg : w.grownBy w2 (rv q).ownBlock)
  (ho : w2.ownsRow 0 43 2 v' n (flatR l)) (hat : v'.ownBlock = (rv q).ownBlock ∨ v'.ownBlock = some w.heap.size) :
  RM (fun x => D x ∨ v'.ownBlock = some x) (w2.setCell ⟨gp, q, none⟩ v') sb gp gq lv (upd rv q v') { S with logs := upd S.logs q l, keys := ks } := by
 have hn : n = l.length := by have := ho.1; rw [flatR_len] at this; omega
 subst hn;have hb : ∀ x, D x → (rv q).ownBlock ≠ some x → w2.heap[x]? = w.heap[x]? := fun x hx hne => hg.block x (h.dl x hx) (fun e => hne e.symm);have hs : ∀ x, x ≠ gp → (w2.setCell ⟨gp, q, none⟩ v').heap[x]? = w2.heap[x]? := fun x hx => Below.heap_setCell w2 _ _ x hx;have nsb : (rv q).ownBlock ≠ some sb := fun e => (h.a4 q _ hq e).1 rfl;have ngp : (rv q).ownBlock ≠ some gp := fun e => (h.a4 q _ hq e).2.1 rfl;have ngm : (rv q).ownBlock ≠ some gq := fun e => (h.a4 q _ hq e).2.2.1 rfl;have fresh : ∀ x, D x → x ≠ w.heap.size := fun x hx => by have := h.dl x hx; omega
 have vx : ∀ x, v'.ownBlock = some x → (x ≠ sb ∧ x ≠ gp ∧ x ≠ gq ∧ lv.ownBlock ≠ some x) ∧ (∀ p, p < S.np → p ≠ q → (rv p).ownBlock ≠ some x) := by
  intro x hx;rcases hat with e | e
  ·rw [e] at hx;exact ⟨h.a4 q x hq hx, fun p hp hpq => h.a6 q p x hq hp (fun e => hpq e.symm) hx⟩
  ·rw [hx] at e;have hxs : x = w.heap.size := by simpa using e
   exact ⟨⟨fun e => fresh sb h.d1.1 (by omega), fun e => fresh gp h.d1.2.1 (by omega), fun e => fresh gq h.d1.2.2 (by omega), fun e => fresh x (h.d3 x e) hxs⟩, fun p hp _ e => fresh x (h.d2 p x hp e) hxs⟩
 obtain ⟨cur, p1, p2, p3⟩ := h.part;obtain ⟨cuq, q1, q2, q3⟩ := h.off
 refine ⟨by rw [hs _ h.a1, hb _ h.d1.1 nsb]; exact h.head, ⟨cur.setIfInBounds q v', ?_, by simpa using p2, fun p hp => ?_⟩, ⟨cuq, by rw [hs _ h.a3.symm, hb _ h.d1.2.2 ngm]; exact q1, q2, q3⟩, h.list.keep (fun x hx => by rw [hs x (h.a5 x hx).2.1, hb x (h.d3 x hx) (fun e => (h.a4 q x hq e).2.2.2 hx)]), fun p hp => ?_,
  h.a1, h.a2, h.a3, fun p x hp hx => ?_, h.a5, fun p p' x hp hp' hne hx => ?_, ⟨.inl h.d1.1, .inl h.d1.2.1, .inl h.d1.2.2⟩, fun p x hp hx => ?_, fun x hx => .inl (h.d3 x hx), fun x hx => ?_⟩
 ·rw [Sort.setCell_eq];have : w2.heap[gp]? = some (.cells cur 85 (0, 0)) := by rw [hb _ h.d1.2.1 ngp]; exact p1
  simp [Sort.mapBlock, Array.getElem?_modify, this, Sort.onCells]
 ·show _ = some (upd rv q v' p);by_cases e : p = q
  ·subst e;rw [Array.getElem?_setIfInBounds, if_pos rfl, if_pos (by rw [p2]; omega), upd_same]
  ·rw [Array.getElem?_setIfInBounds, if_neg (fun x => e x.symm), upd_other _ _ e]; exact p3 p hp
 ·show (w2.setCell ⟨gp, q, none⟩ v').ownsRow 0 _ 2 (upd rv q v' p) (upd S.logs q l p).length (flatR (upd S.logs q l p));by_cases e : p = q
  ·subst e;rw [upd_same, upd_same];exact row_keep ho (fun x hx => hs x (vx x hx).1.2.1)
  ·rw [upd_other _ _ e, upd_other _ _ e];exact row_keep (h.rows p hp) (fun x hx => by rw [hs x (h.a4 p x hp hx).2.1, hb x (h.d2 p x hp hx) (h.a6 p q x hp hq e hx)])
 ·change (upd rv q v' p).ownBlock = some x at hx;by_cases e : p = q
  ·subst e; rw [upd_same] at hx; exact (vx x hx).1
  ·rw [upd_other _ _ e] at hx; exact h.a4 p x hp hx
 ·change (upd rv q v' p).ownBlock = some x at hx;show (upd rv q v' p').ownBlock ≠ some x;by_cases e : p = q
  ·subst e;rw [upd_same] at hx;rw [upd_other _ _ (fun e => hne e.symm)];exact (vx x hx).2 p' hp' (fun e => hne e.symm)
  ·rw [upd_other _ _ e] at hx;by_cases e' : p' = q
   ·subst e';rw [upd_same];exact fun e2 => (vx x e2).2 p hp e hx
   ·rw [upd_other _ _ e']; exact h.a6 p p' x hp hp' hne hx
 ·change (upd rv q v' p).ownBlock = some x at hx;by_cases e : p = q
  ·subst e; rw [upd_same] at hx; exact .inr hx
  ·rw [upd_other _ _ e] at hx; exact .inl (h.d2 p x hp hx)
 ·have h2 := hg.size
  have : x < w2.heap.size := by
   rcases hx with hx | hx
   ·have := h.dl x hx; omega
   ·exact (ho.lt x hx).2
  simpa [go_sem] using this
def Rp6 (D : Nat → Prop) (w : World) (v : Value) (S : Sc) (p : Int) (r : Rcd) (e : Ending) (w' : World) : Prop :=
 e = .returned (.int .i64 (prodS S p r).1) ∧ (∃ D', Rs D' w' v (prodS S p r).2 ∧ Ch D w w' ∧ ∀ b, D' b → D b ∨ w.heap.size ≤ b)
theorem rp6_same {p : Int} {r : Rcd} {w' : World} {c : Int} (h : Rs D w v S) (hp : prodS S p r = (c, S)) (hb : Below w.heap.size w w') : Rp6 D w v S p r (.returned (.int .i64 c)) w' := by
 unfold Rp6;rw [hp];exact ⟨rfl, D, h.below hb, Ch.of_below hb, fun b hb => .inl hb⟩
theorem rp6_app {q : Nat} {r : Rcd} {w1 w2 wx : World} {v' : Value} {ks : List Nat} (hq : q < S.np) (hl : ¬ 256 ≤ (S.logs q).length) (hr : r.ok) (hok : S.ok) (hv : v = .pointer (some ⟨sb, 0, none⟩))
  (hk : KsOk S r ks) (hc0 : Below w.heap.size w w1) (hs0 : RM D w1 sb gp gq lv rv S) (hb : Below w1.heap.size w1 wx) (ho : w2.ownsRow 0 43 2 v' ((S.logs q).length + 1) (flatR (S.logs q ++ [r]))) (hg : wx.grownBy w2 (rv q).ownBlock) (hat : v'.ownBlock = (rv q).ownBlock ∨ v'.ownBlock = some wx.heap.size) :
  Rp6 D w v S q r (.returned (.int .i64 0)) (w2.setCell ⟨gp, q, none⟩ v') := by
 have hs := hs0.below hb;have hc : Ch D w wx := Ch.of_below (below_trans hc0 hb)
 have hps : prodS S q r = (0, addS S q r ks) := by
  unfold prodS;rw [if_pos ⟨by omega, by omega⟩, if_neg (by simpa using hl)];rcases hk with ⟨h1, h2, h3⟩ | ⟨h1, h2⟩
  ·rw [if_pos h1, if_pos h3, h2]; rfl
  ·rw [if_neg h1, h2]; rfl
 unfold Rp6;rw [hps];refine ⟨rfl, _, ⟨sb, gp, gq, lv, _, hv, hs.addR hq hg ho hat (ks := ks), ok_add hok hq hl hr hk⟩, ?_, ?_⟩
 ·have h1 : Ch (fun x => D x) wx w2 := Ch.of_grown hg (fun x hx => hs.d2 q x hq hx);have h2 : Ch (fun x => D x) w2 (w2.setCell ⟨gp, q, none⟩ v') := Ch.of_grown (grown_set w2 gp _ _) (fun x hx => by cases hx; exact hs.d1.2.1);exact (hc.trans h1 (fun x hx => .inl hx)).trans h2 (fun x hx => .inl hx)
 ·rintro b (hb | hb)
  ·exact .inl hb
  ·rcases hat with e | e
   ·rw [e] at hb; exact .inl (hs.d2 q b hq hb)
   ·rw [hb] at e; simp at e; have := hc.size; right; omega
theorem rproduce_walk (h : Rs D w v S) (p : Int) {r : Rcd} (hr : r.ok) : Calls Tryz.prog 13 #[v, .int .i64 p, .agg #[.int .u64 r.k, .float .f64 r.x]] w fun e w' => Rp6 D w v S p r e w' := by
 have HW : Hid (Rs D w v S) := h;obtain ⟨sb, gp, gq, lv, rv, rfl, h, hok⟩ := h;have HS := hidH h;have HK : Hid S.ok := hok;have HRK : Hid r.ok := hr;have h4 := hok.np4;clear h hok hr;obtain ⟨w0, hw0⟩ : ∃ w0, w0 = w.alloc (Obj.cells #[.int .u64 r.k, .float .f64 r.x] 43) := ⟨_, rfl⟩;have HB0 : Hid (Below w.heap.size w w0) := by show Below _ _ _; rw [hw0]; exact below_alloc _ _
 have HS0 := hidH (HS.out.below HB0.out);have k0 : w0.cell? ⟨w.heap.size, 0, none⟩ = some (.int .u64 r.k) := by rw [hw0]; simp [go_sem]
 have k1 : w0.cell? ⟨w.heap.size, 1, none⟩ = some (.float .f64 r.x) := by rw [hw0]; simp [go_sem]
 have HZ : Hid (w.heap.size < w0.heap.size) := by show _ < _; rw [hw0]; simp
 have HW0 : Hid (w0 = w.alloc (Obj.cells #[.int .u64 r.k, .float .f64 r.x] 43)) := hw0;clear hw0;by_cases hh : hasS S p
 ·obtain ⟨q, rfl, hq⟩ := has_nat hh;obtain ⟨n, hn⟩ : ∃ n, n = (S.logs q).length := ⟨_, rfl⟩;have HN : Hid (n = (S.logs q).length) := hn;obtain ⟨ao, cap, hrv, _⟩ := row_form (HS.out.rows q hq);rw [← hn] at hrv;have HRV : Hid (rv q = .slice ao n cap) := hrv;have hn256 : n ≤ 256 := by rw [hn]; exact HK.out.len q
  have p0 : w0.cell? ⟨gp, q, none⟩ = some (.slice ao n cap) := by rw [HS0.out.p0 hq, hrv]
  have c0 := HS0.out.c0;clear hn hrv hh;by_cases hfull : n = 256
  ·have HP : Hid (prodS S q r = (61, S)) := by
    show _ = _;unfold prodS;rw [if_pos ⟨by omega, by omega⟩, if_pos (by rw [HN.out] at hfull; simp [hfull])]
   have hfb : ((n : Int) == 256) = true := by simp [hfull]
   clear hfull;go_in;go_wp2_with fail;rw [← HW0.out];refine (rhas_ok HS0.out HK.out hq).mono ?_;rintro e w9 ⟨rfl, h9⟩;replace h9 := h9.symm;subst h9;go_wp2_with fail;go_ret;exact rp6_same HW.out HP.out HB0.out
  ·obtain ⟨R, hR⟩ : ∃ R, R = runS S.list r := ⟨_, rfl⟩;have HR : Hid (R = runS S.list r) := hR;have HF : Hid (¬ 256 ≤ (S.logs q).length) := by show ¬ _; rw [← HN.out]; omega
   have hfb : ((n : Int) == 256) = false := by simp; omega
   have hfc : ¬ ((n : Int) = 256) := by omega
   clear hR;have j0 : ∀ wx, Below w0.heap.size w0 wx → wx.cell? ⟨w.heap.size, 0, none⟩ = some (.int .u64 r.k) := fun wx hb => by rw [hb.cell (p := ⟨w.heap.size, 0, none⟩) HZ.out]; exact k0
   have j1 : ∀ wx, Below w0.heap.size w0 wx → wx.cell? ⟨w.heap.size, 1, none⟩ = some (.float .f64 r.x) := fun wx hb => by rw [hb.cell (p := ⟨w.heap.size, 1, none⟩) HZ.out]; exact k1
   have j2 : ∀ wx, Below w0.heap.size w0 wx → wx.cell? ⟨sb, 2, none⟩ = some lv := fun wx hb => (HS0.out.below hb).c2;go_in;go_wp2_with fail;rw [← HW0.out];refine (rhas_ok HS0.out HK.out hq).mono ?_;rintro e w9 ⟨rfl, h9⟩;replace h9 := h9.symm;subst h9;go_wp2_with fail;go_cut [7, 8] (fun kv bv wx => kv = .int .u64 R.2.k ∧ bv = .bool (R.1 == 1) ∧ Below w0.heap.size w0 wx)
   case first =>
    go_region_held3 (fun wx => Below w0.heap.size w0 wx) (first | assumption | exact (Below.refl _ _).drew)
     (first | (go_at_call 41; refine (rkey_walk r HRK.out ((HS0.out.below (by assumption)).list)).mono ?_; rw [← HR.out]; rintro e w5 ⟨rfl, hB3⟩; have hS3 : Below w0.heap.size w0 w5 := below_trans (by assumption) hB3))
    all_goals go_wp2_with fail
    all_goals go_meet
    all_goals exact ⟨rfl, rfl, by assumption⟩
   case rest =>
    obtain ⟨hkv, hbv, hBc⟩ := hcut;subst hkv;subst hbv;clear k0 k1 p0 c0 j2 hfb hfc;have HBC := hidH hBc;clear hBc;have HJ0 : Hid (∀ wx, Below w0.heap.size w0 wx → wx.cell? ⟨w.heap.size, 0, none⟩ = some (.int .u64 r.k)) := j0;have HJ1 : Hid (∀ wx, Below w0.heap.size w0 wx → wx.cell? ⟨w.heap.size, 1, none⟩ = some (.float .f64 r.x)) := j1;clear j0 j1;obtain ⟨fb, hfb0⟩ : ∃ b, b = (R.1 == 1) := ⟨_, rfl⟩;rw [← hfb0];have HFB : Hid (fb = (R.1 == 1)) := hfb0;clear hfb0;go_upto_if 35 with fail;go_cut [9, 10] (fun _ _ wx => ∃ ks, KsOk S r ks ∧ Below w0.heap.size w0 wx)
    case first =>
     by_cases hf : R.1 = 1
     ·have hfb : fb = true := by rw [HFB.out]; simp [hf]
      have HFR : Hid ((runS S.list r).1 = 1) := by show _ = _; rw [← HR.out]; exact hf
      subst hfb;clear hf HFB;go_wp2_with fail;refine (rkeys_walk (HW.out.below (below_trans HB0.out HBC.out))).mono ?_;rintro e w2 ⟨kg, kc, rfl, hU2, hg2, hB2⟩;have HU2 : Hid (Uw w2 kg kc S.keys) := hU2;have HG2 : Hid (wc.heap.size ≤ kg) := hg2;have HB2 := hidH (below_trans HBC.out hB2);obtain ⟨m, hm⟩ : ∃ m, m = S.keys.length := ⟨_, rfl⟩;have HM : Hid (m = S.keys.length) := hm;have HKL : Hid (S.keys.length ≤ 4096) := by show _ ≤ _; have := HK.out.kl; omega
      rw [← hm];clear hU2 hg2 hB2 hm;by_cases h64 : m = 64
      ·have h6b : ((m : Int) == 64) = true := by simp [h64]
       have H64 : Hid (m = 64) := h64;clear h64;go_wp2_with fail;rw [HM.out];refine (rwithk_walk (k := R.2.k) w2 HU2.out HG2.out HK.out.kr HKL.out).mono ?_;rintro e w3 ⟨g3, c3, rfl, hU3, hg3, hB3⟩
       have HB3 : Hid (Below w0.heap.size w0 w3) := by
        have hs := HBC.out.size;exact HB2.out.trans (hB3.mono hs)
       by_cases ht : R.2.k ∈ S.keys
       ·have hl3 : (insK R.2.k S.keys).length = 64 := by rw [insK_old HK.out.kr ht, ← HM.out, H64.out]
        rw [hl3]
        have HKS : Hid (KsOk S r (insK R.2.k S.keys)) := by
         refine .inl ⟨HFR.out, by rw [HR.out], ?_⟩;rw [← HR.out]; exact .inl ht
        clear hU3 hg3 hB3 ht hl3 h6b;go_wp2_with fail;go_meet;exact ⟨_, HKS.out, HB3.out⟩
       ·have hl3 : (insK R.2.k S.keys).length = 65 := by rw [insK_len ht, ← HM.out, H64.out]
        rw [hl3]
        have HP : Hid (prodS S q r = (62, S)) := by
         show _ = _;unfold prodS;rw [if_pos ⟨by omega, by omega⟩, if_neg (by simpa using HF.out), if_pos HFR.out, if_neg (by rw [← HR.out, ← HM.out, H64.out]; rintro (h | h); exact ht h; omega)]
        clear hU3 hg3 hB3 ht hl3 h6b;go_wp2_with fail;go_ret;exact rp6_same HW.out HP.out (below_trans HB0.out HB3.out)
      ·have h6b : ((m : Int) == 64) = false := by simp; omega
       have h6c : ¬ ((m : Int) = 64) := by omega
       have HKS : Hid (KsOk S r (insK R.2.k S.keys)) := by
        refine .inl ⟨HFR.out, by rw [HR.out], ?_⟩;have := HK.out.kl;rw [← HM.out] at this ⊢;exact .inr (by omega)
       clear h64;go_wp2_with fail;go_meet;exact ⟨_, HKS.out, HB2.out⟩
     ·have hfb : fb = false := by rw [HFB.out]; simpa using hf
      have HKS : Hid (KsOk S r S.keys) := .inr ⟨by rw [← HR.out]; exact hf, rfl⟩;subst hfb;clear hf HFB;go_wp2_with fail;go_meet;exact ⟨_, HKS.out, HBC.out⟩
    case rest =>
     obtain ⟨ks, hks, hBt⟩ := hcut;have HKS : Hid (KsOk S r ks) := hks;obtain ⟨wt, hwt⟩ : ∃ wt, wt = wc := ⟨_, rfl⟩;have HBT : Hid (Below w0.heap.size w0 wt) := by show Below _ _ _; rw [hwt]; exact hBt
     clear hks hBt HBC;subst hwt;have HX := hidH (HS0.out.below HBT.out);have HB9 := hidH (below_trans HB0.out HBT.out);have HSF : Hid (∀ wx, Below wt.heap.size wt wx → wx.cell? ⟨sb, 0, none⟩ = some (.slice (some ⟨gp, 0, none⟩) S.np S.np) ∧ wx.cell? ⟨w.heap.size, 0, none⟩ = some (.int .u64 r.k) ∧ wx.cell? ⟨w.heap.size, 1, none⟩ = some (.float .f64 r.x)) := fun wx hb => ⟨(HX.out.below hb).c0, HJ0.out wx (below_trans HBT.out hb), HJ1.out wx (below_trans HBT.out hb)⟩;have HXP : Hid (∀ wx, Below wt.heap.size wt wx → wx.cell? ⟨gp, q, none⟩ = some (.slice ao n cap)) := fun wx hb => by rw [(HX.out.below hb).p0 hq, HRV.out]
     have HXF : Hid (∀ wx, Below wt.heap.size wt wx → wx.frozen? ⟨gp, q, none⟩ = false) := fun wx hb => (HX.out.below hb).soft q;have HOW : Hid (∀ wx, Below wt.heap.size wt wx → wx.ownsRow 0 43 2 (.slice ao n cap) n (flatR (S.logs q))) := fun wx hb => by have := (HX.out.below hb).rows q hq; rw [HRV.out, ← HN.out] at this; exact this
     have HGL : Hid (gp < wt.heap.size) := HX.out.dl gp HX.out.d1.2.1;have HNG : Hid ((Value.slice ao n cap).ownBlock ≠ some gp) := by show _ ≠ _; rw [← HRV.out]; exact fun e => (HX.out.a4 q gp hq e).2.1 rfl
     have HSL : Hid (sb < wt.heap.size) := HX.out.dl sb HX.out.d1.1;have HNS : Hid ((Value.slice ao n cap).ownBlock ≠ some sb) := by show _ ≠ _; rw [← HRV.out]; exact fun e => (HX.out.a4 q sb hq e).1 rfl
     have HWL : Hid (w.heap.size < wt.heap.size) := cell_lt (HJ0.out wt HBT.out);have HNW : Hid ((Value.slice ao n cap).ownBlock ≠ some w.heap.size) := by show _ ≠ _; rw [← HRV.out]; exact fun e => by have := HS.out.dl _ (HS.out.d2 q _ hq e); omega
     have HGW : Hid (w.heap.size ≠ gp) := by show _ ≠ _; have := HS.out.dl gp HS.out.d1.2.1; omega
     have HGS : Hid (sb ≠ gp) := HX.out.a1
     have HSG : Hid (∀ wx w7, Below wt.heap.size wt wx → wx.grownBy w7 (Value.slice ao n cap).ownBlock → (w7.cell? ⟨sb, 0, none⟩ = some (.slice (some ⟨gp, 0, none⟩) S.np S.np) ∧ w7.cell? ⟨w.heap.size, 0, none⟩ = some (.int .u64 r.k) ∧ w7.cell? ⟨w.heap.size, 1, none⟩ = some (.float .f64 r.x)) ∧ w7.cell? ⟨gp, q, none⟩ = some (.slice ao n cap) ∧ w7.frozen? ⟨gp, q, none⟩ = false) := fun wx w7 hb hg => by
      have k : ∀ g i u, g < wt.heap.size → (Value.slice ao n cap).ownBlock ≠ some g → wx.cell? ⟨g, i, none⟩ = some u → w7.cell? ⟨g, i, none⟩ = some u := fun g i u hl hne hc => by
       have hbk : w7.heap[g]? = wx.heap[g]? := hg.block g (Nat.lt_of_lt_of_le hl hb.size) (fun e => hne e.symm);rw [World.cell?_of_block (w := wx) (a := ⟨g, i, none⟩) hbk]; exact hc
      have kf : w7.frozen? ⟨gp, q, none⟩ = false := by
       have hbk : w7.heap[gp]? = wx.heap[gp]? := hg.block gp (Nat.lt_of_lt_of_le HGL.out hb.size) (fun e => HNG.out e.symm);rw [World.frozen?_of_block (w := wx) (a := ⟨gp, q, none⟩) hbk]; exact HXF.out wx hb
      obtain ⟨s0, s1, s2⟩ := HSF.out wx hb;exact ⟨⟨k _ _ _ HSL.out HNS.out s0, k _ _ _ HWL.out HNW.out s1, k _ _ _ HWL.out HNW.out s2⟩, k _ _ _ HGL.out HNG.out (HXP.out wx hb), kf⟩
     have HST : Hid (∀ (w7 : World) (u : Value), (w7.cell? ⟨sb, 0, none⟩ = some (.slice (some ⟨gp, 0, none⟩) S.np S.np) ∧ w7.cell? ⟨w.heap.size, 0, none⟩ = some (.int .u64 r.k) ∧ w7.cell? ⟨w.heap.size, 1, none⟩ = some (.float .f64 r.x)) → ((w7.setCell ⟨gp, q, none⟩ u).cell? ⟨sb, 0, none⟩ = some (.slice (some ⟨gp, 0, none⟩) S.np S.np) ∧ (w7.setCell ⟨gp, q, none⟩ u).cell? ⟨w.heap.size, 0, none⟩ = some (.int .u64 r.k) ∧ (w7.setCell ⟨gp, q, none⟩ u).cell? ⟨w.heap.size, 1, none⟩ = some (.float .f64 r.x))) := fun w7 u h => by
      obtain ⟨s0, s1, s2⟩ := h;exact ⟨by rw [World.cell?_setCell_other _ _ _ _ (by rintro ⟨⟩; exact HGS.out rfl)]; exact s0, by rw [World.cell?_setCell_other _ _ _ _ (by rintro ⟨⟩; exact HGW.out rfl)]; exact s1, by rw [World.cell?_setCell_other _ _ _ _ (by rintro ⟨⟩; exact HGW.out rfl)]; exact s2⟩
     clear HJ0 HJ1;go_wp2_with fail;have hSd : Below wt.heap.size wt wt.drew := (Below.refl _ _).drew;refine wp_region_noPanic ?_;refine wp_region_held_drew (S := fun wx => wx.cell? ⟨sb, 0, none⟩ = some (.slice (some ⟨gp, 0, none⟩) S.np S.np) ∧ wx.cell? ⟨w.heap.size, 0, none⟩ = some (.int .u64 r.k) ∧ wx.cell? ⟨w.heap.size, 1, none⟩ = some (.float .f64 r.x)) (by kernel_rfl) ?_ fun hHeld => ?_
     ·exact HSF.out _ hSd
     refine tvH 0 49 ?_ rfl ?_ (by assumption) ?_;rotate_left
     ·intro w hSw; (try dsimp only at hSw); obtain ⟨s0, s1, s2⟩ := hSw; go_simp; all_goals (with_reducible rfl)
     try simp only [Act.put, zz]
     refine tvH 1 50 ?_ rfl ?_ (by assumption) ?_;rotate_left
     ·intro w hSw; (try dsimp only at hSw); obtain ⟨s0, s1, s2⟩ := hSw; go_simp; all_goals (with_reducible rfl)
     try simp only [Act.put, zz]
     refine tvH 2 51 ?_ rfl ?_ (by assumption) ?_;rotate_left
     ·intro w hSw; (try dsimp only at hSw); obtain ⟨s0, s1, s2⟩ := hSw; go_simp; all_goals (with_reducible rfl)
     try simp only [Act.put, zz]
     refine tvH 3 52 ?_ rfl ?_ (by assumption) ?_;rotate_left
     ·intro w hSw; (try dsimp only at hSw); obtain ⟨s0, s1, s2⟩ := hSw; go_simp; all_goals (with_reducible rfl)
     try simp only [Act.put, zz]
     refine tvH 4 53 ?_ rfl ?_ (by assumption) ?_;rotate_left
     ·intro w hSw; (try dsimp only at hSw); obtain ⟨s0, s1, s2⟩ := hSw; go_simp; all_goals (with_reducible rfl)
     try simp only [Act.put, zz]
     refine tvH 5 54 ?_ rfl ?_ (by assumption) ?_;rotate_left
     ·intro w hSw; (try dsimp only at hSw); obtain ⟨s0, s1, s2⟩ := hSw; go_simp; all_goals (with_reducible rfl)
     try simp only [Act.put, zz]
     refine tvH 6 55 ?_ rfl ?_ (by assumption) ?_;rotate_left
     ·intro w hSw; (try dsimp only at hSw); obtain ⟨s0, s1, s2⟩ := hSw; go_simp; all_goals (with_reducible rfl)
     try simp only [Act.put, zz]
     refine tvH 7 56 ?_ rfl ?_ (by assumption) ?_;rotate_left
     ·intro w hSw; (try dsimp only at hSw); obtain ⟨s0, s1, s2⟩ := hSw; go_simp; all_goals (with_reducible rfl)
     try simp only [Act.put, zz]
     refine tvH 8 57 ?_ rfl ?_ (by assumption) ?_;rotate_left
     ·intro w hSw; (try dsimp only at hSw); obtain ⟨s0, s1, s2⟩ := hSw; go_simp; all_goals (with_reducible rfl)
     try simp only [Act.put, zz]
     refine tvH 9 58 ?_ rfl ?_ (by assumption) ?_;rotate_left
     ·intro w hSw; (try dsimp only at hSw); obtain ⟨s0, s1, s2⟩ := hSw; go_simp; all_goals (with_reducible rfl)
     try simp only [Act.put, zz]
     refine tvH 10 59 ?_ rfl ?_ (by assumption) ?_;rotate_left
     ·intro w hSw; (try dsimp only at hSw); obtain ⟨s0, s1, s2⟩ := hSw; go_simp; all_goals (with_reducible rfl)
     try simp only [Act.put, zz]
     refine tvH 12 61 ?_ rfl ?_ (by assumption) ?_;rotate_left
     ·intro w hSw; (try dsimp only at hSw); obtain ⟨s0, s1, s2⟩ := hSw; go_simp; all_goals (with_reducible rfl)
     try simp only [Act.put, zz]
     refine wpAnyH_ready (rs := [11, 13]) (by kernel_rfl) (by simp) ?_;refine AllReadyH.cons (o := ⟨some 60, _, _, _, _, _⟩) rfl (fun K hK => ?_) (AllReadyH.cons (o := ⟨some 62, _, _, _, _, _⟩) rfl (fun K hK => ?_) AllReadyH.nil)
     ·have xp := HXP.out _ hSd;go_simp;refine hK.out _ _ ?_ fun hHeld => ?_
      ·exact HSF.out _ hSd
      clear hK K xp;try simp only [Act.put, zz]
      refine rdH 13 62 rfl fun K hK => ?_;go_simp;have hS6 : Below wt.heap.size wt (wt.drew.alloc (Obj.cells #[.int .u64 r.k, .float .f64 r.x] 43)) := below_trans hSd (below_alloc _ _);refine hK.out _ _ ?_ fun hHeld => ?_
      ·exact HSF.out _ hS6
      clear hK K;try simp only [Act.put, zz]
      refine rdH 14 63 rfl fun K hK => ?_;refine step_app_own rfl (.tmp 60) (.tmp 62) 85 rfl 43 Tryz.underlying85 info_rec (.slice ao n cap) n (S.logs q) (by simp [Act.eval]) (HOW.out _ hS6) wt.heap.size r (by simp [Act.eval]) (by simp [go_sem]) (by simp [go_sem]) (by omega) ?_;intro v' w7 g1 g2 g3;obtain ⟨ao', cap', hv', _⟩ := row_form g1;subst hv';obtain ⟨t0, z0, z1⟩ := HSG.out _ w7 hS6 g2;refine hK.out _ _ ?_ fun hHeld => ?_
      ·exact t0
      clear hK K;try simp only [Act.put, zz]
      refine tvH 15 64 ?_ rfl ?_ (by assumption) ?_;rotate_left
      ·intro w hSw; (try dsimp only at hSw); obtain ⟨s0, s1, s2⟩ := hSw; go_simp; all_goals (with_reducible rfl)
      try simp only [Act.put, zz]
      refine wpAnyH_ready (rs := [16]) (by kernel_rfl) (by simp) ?_;refine AllReadyH.cons (o := ⟨none, _, _, _, _, _⟩) rfl (fun K hK => ?_) AllReadyH.nil;go_simp;refine hK.out _ _ ?_ fun hHeld => ?_
      ·exact HST.out _ _ t0
      clear hK K;try simp only [Act.put, zz]
      refine wpAnyH_done (by kernel_rfl) ?_ _;refine NoPanic.normal ?_;go_wp2_with fail;go_ret;exact rp6_app (ks := ks) hq HF.out HRK.out HK.out rfl HKS.out HB9.out HX.out hS6 (by rw [← HN.out]; exact g1) (by rw [HRV.out]; exact g2) (by rw [HRV.out]; exact g3)
     ·go_simp;have hS6 : Below wt.heap.size wt (wt.drew.alloc (Obj.cells #[.int .u64 r.k, .float .f64 r.x] 43)) := below_trans hSd (below_alloc _ _);refine hK.out _ _ ?_ fun hHeld => ?_
      ·exact HSF.out _ hS6
      clear hK K;try simp only [Act.put, zz]
      refine rdH 11 60 rfl fun K hK => ?_;have xp := HXP.out _ (below_alloc wt (Obj.cells #[.int .u64 r.k, .float .f64 r.x] 43));go_simp;refine hK.out _ _ ?_ fun hHeld => ?_
      ·exact HSF.out _ hS6
      clear hK K xp;try simp only [Act.put, zz]
      refine rdH 14 63 rfl fun K hK => ?_;refine step_app_own rfl (.tmp 60) (.tmp 62) 85 rfl 43 Tryz.underlying85 info_rec (.slice ao n cap) n (S.logs q) (by simp [Act.eval]) (HOW.out _ hS6) wt.heap.size r (by simp [Act.eval]) (by simp [go_sem]) (by simp [go_sem]) (by omega) ?_;intro v' w7 g1 g2 g3;obtain ⟨ao', cap', hv', _⟩ := row_form g1;subst hv';obtain ⟨t0, z0, z1⟩ := HSG.out _ w7 hS6 g2;refine hK.out _ _ ?_ fun hHeld => ?_
      ·exact t0
      clear hK K;try simp only [Act.put, zz]
      refine tvH 15 64 ?_ rfl ?_ (by assumption) ?_;rotate_left
      ·intro w hSw; (try dsimp only at hSw); obtain ⟨s0, s1, s2⟩ := hSw; go_simp; all_goals (with_reducible rfl)
      try simp only [Act.put, zz]
      refine wpAnyH_ready (rs := [16]) (by kernel_rfl) (by simp) ?_;refine AllReadyH.cons (o := ⟨none, _, _, _, _, _⟩) rfl (fun K hK => ?_) AllReadyH.nil;go_simp;refine hK.out _ _ ?_ fun hHeld => ?_
      ·exact HST.out _ _ t0
      clear hK K;try simp only [Act.put, zz]
      refine wpAnyH_done (by kernel_rfl) ?_ _;refine NoPanic.normal ?_;go_wp2_with fail;go_ret;exact rp6_app (ks := ks) hq HF.out HRK.out HK.out rfl HKS.out HB9.out HX.out hS6 (by rw [← HN.out]; exact g1) (by rw [HRV.out]; exact g2) (by rw [HRV.out]; exact g3)
 ·have HP : Hid (prodS S p r = (60, S)) := by show _ = _; unfold prodS; rw [if_neg hh]
  have HN : Hid (p < 0 ∨ (S.np : Int) ≤ p) := not_has hh;clear hh;go_in;go_wp2_with fail;rw [← HW0.out];refine (rhas_no HS0.out HK.out HN.out).mono ?_;rintro e w9 ⟨rfl, h9⟩;replace h9 := h9.symm;subst h9;go_wp2_with fail;go_ret;exact rp6_same HW.out HP.out HB0.out
end
end
section
open Ieee Go.RowKit

theorem rnew_arg {lv : Value} {parts : Int} {w : World} (hp : parts < 1 ∨ 4 < parts) :
  Calls Tryz.prog 8 #[.int .i64 parts, lv] w fun e w' => e = .returned (.tuple #[.pointer none, .int .i64 1]) ∧ w' = w := by
 by_cases h1 : parts < 1
 ·clear hp;go_in;go_wp2_with fail;go_ret2;exact ⟨rfl, rfl⟩
 ·have h4 : 4 < parts := by omega
  clear hp;go_in;go_wp2_with fail;go_ret2;exact ⟨rfl, rfl⟩
theorem rnew_ops {lv : Value} {parts : Int} {l : List Stp} {w : World} (h1 : 1 ≤ parts) (h4 : parts ≤ 4) (ho : Ov w lv l) (hc : checkB l = false) :
  Calls Tryz.prog 8 #[.int .i64 parts, lv] w fun e w' => e = .returned (.tuple #[.pointer none, .int .i64 30]) ∧ Below w.heap.size w w' := by
 obtain ⟨⟨ao, cap, rfl, g1, g2, g3, g4⟩, g5⟩ := ho;have HO : Hid (Ol w ao l) := g4;have HL : Hid (l.length ≤ maxLen) := Nat.le_trans g1 g2;have HC : Hid (chkI l = 30) := by show _ = _; unfold chkI; rw [hc]; rfl
 clear g1 g2 g3 g4 g5 hc;go_in;go_wp2_with fail;refine (rcheck_walk HL.out HO.out).mono ?_;rw [HC.out];rintro e w1 ⟨rfl, hB⟩;go_wp2_with fail;go_ret2;exact ⟨rfl, hB⟩
theorem rnw_rm {wx : World} {l : List Stp} {n gp gq sb base : Nat} {Z Y : Array Value} {lv : Value} (hn : 1 ≤ n ∧ n ≤ 4) (hZ : Z = madeCells #[.slice none 0 0] (n * 1)) (hY : Y = madeCells #[.bool false] (n * 1)) (hok : ∀ o ∈ l, o.ok)
  (hsb : wx.heap[sb]? = some (.cells #[.slice (some ⟨gp, 0, none⟩) n n, .slice (some ⟨gq, 0, none⟩) n n, lv] 91 (0, 0))) (hgp : wx.heap[gp]? = some (.cells Z 85 (0, 0))) (hgq : wx.heap[gq]? = some (.cells Y 4 (0, 0)))
  (hlv : wx.ownsRow base 80 3 lv l.length (flat l)) : RM (fun x => x = sb ∨ x = gp ∨ x = gq ∨ lv.ownBlock = some x) wx sb gp gq lv (fun _ => .slice none 0 0) (newS n l) := by
 have hlx : ∀ x, lv.ownBlock = some x → ∃ cur, wx.heap[x]? = some (.cells cur 80 (0, 0)) := by
  intro x hx;rcases hlv.2 with ⟨rfl, _⟩ | ⟨g, cap, cur, rfl, _, hg, _⟩
  ·cases hx
  ·simp [Value.ownBlock] at hx; subst hx; exact ⟨cur, hg⟩
 have hz : ∀ p, p < n → Z[p]? = some (.slice none 0 0) := by
  obtain ⟨a, b⟩ := hn;have : n = 1 ∨ n = 2 ∨ n = 3 ∨ n = 4 := by omega
  intro p hp;have hp4 : p = 0 ∨ p = 1 ∨ p = 2 ∨ p = 3 := by omega
  rw [hZ];rcases this with rfl | rfl | rfl | rfl <;> rcases hp4 with rfl | rfl | rfl | rfl <;> first | omega | simp [madeCells]
 have hy : ∀ p, p < n → Y[p]? = some (.bool false) := by
  obtain ⟨a, b⟩ := hn;have : n = 1 ∨ n = 2 ∨ n = 3 ∨ n = 4 := by omega
  intro p hp;have hp4 : p = 0 ∨ p = 1 ∨ p = 2 ∨ p = 3 := by omega
  rw [hY];rcases this with rfl | rfl | rfl | rfl <;> rcases hp4 with rfl | rfl | rfl | rfl <;> first | omega | simp [madeCells]
 refine ⟨hsb, ⟨Z, hgp, ?_, hz⟩, ⟨Y, hgq, ?_, fun p hp => ?_⟩, own_ovS hlv hok, fun p _ => World.ownsRow_nil _ _ _ _, ?_, ?_, ?_, fun p x _ hx => (by cases hx), fun x hx => ?_, fun p q x _ _ _ hx => (by cases hx), ⟨.inl rfl, .inr (.inl rfl), .inr (.inr (.inl rfl))⟩, fun p x _ hx => (by cases hx), fun x hx => .inr (.inr (.inr hx)), ?_⟩
 ·rw [hZ, size_madeCells]; show n * 1 = n; omega
 ·rw [hY, size_madeCells]; show n * 1 = n; omega
 ·change p < n at hp;have e : (newS n l).on p = true := decide_eq_true hp;rw [hy p hp, e]; rfl
 ·rintro rfl; rw [hsb] at hgp; simp at hgp
 ·rintro rfl; rw [hsb] at hgq; simp at hgq
 ·rintro rfl; rw [hgp] at hgq; simp at hgq
 ·obtain ⟨cur, hc⟩ := hlx x hx;refine ⟨?_, ?_, ?_⟩
  ·rintro rfl; rw [hsb] at hc; simp at hc
  ·rintro rfl; rw [hgp] at hc; simp at hc
  ·rintro rfl; rw [hgq] at hc; simp at hc
 ·rintro x (rfl | rfl | rfl | h)
  ·exact (Array.getElem?_eq_some_iff.1 hsb).1
  ·exact (Array.getElem?_eq_some_iff.1 hgp).1
  ·exact (Array.getElem?_eq_some_iff.1 hgq).1
  ·exact (hlv.lt x h).2
theorem info_rrow : (Tryz.prog.info? 85).map (fun i => (i.zero, i.size, i.bytes)) = some (some (.slice none 0 0), 1, 24) := by kernel_rfl
theorem info_boolK : (Tryz.prog.info? 4).map (fun i => (i.zero, i.size, i.bytes)) = some (some (.bool false), 1, 1) := by kernel_rfl
def Nr (w : World) (n : Nat) (l : List Stp) (e : Ending) (w' : World) : Prop :=
 ∃ (v : Value) (D : Nat → Prop), e = .returned (.tuple #[v, .int .i64 0]) ∧ Rs D w' v (newS n l) ∧ Below w.heap.size w w' ∧ ∀ b, D b → w.heap.size ≤ b
theorem nr_end {w w2 wy : World} {n : Nat} {l : List Stp} {gp gq sb : Nat} {Z Y : Array Value} {lv : Value} (hn : 1 ≤ n ∧ n ≤ 4) (hZ : Z = madeCells #[.slice none 0 0] (n * 1)) (hY : Y = madeCells #[.bool false] (n * 1)) (hok : ∀ o ∈ l, o.ok) (hc : checkB l = true)
  (hB2 : Below w.heap.size w w2) (hlv : w2.ownsRow w.heap.size 80 3 lv l.length (flat l)) (hy : Below w2.heap.size w2 wy) (g1 : w.heap.size ≤ gp) (g2 : w.heap.size ≤ gq)
  (hgp : wy.heap[gp]? = some (.cells Z 85 (0, 0))) (hgq : wy.heap[gq]? = some (.cells Y 4 (0, 0))) (hs : sb = wy.heap.size) :
  Nr w n l (.returned (.tuple #[.pointer (some ⟨sb, 0, none⟩), .int .i64 0])) (wy.alloc (Obj.cells #[.slice (some ⟨gp, 0, none⟩) n n, .slice (some ⟨gq, 0, none⟩) n n, lv] 91)).drew := by
 subst hs;have hb := below_alloc wy (Obj.cells #[.slice (some ⟨gp, 0, none⟩) n n, .slice (some ⟨gq, 0, none⟩) n n, lv] 91);have hlv2 : (wy.alloc (Obj.cells #[.slice (some ⟨gp, 0, none⟩) n n, .slice (some ⟨gq, 0, none⟩) n n, lv] 91)).ownsRow w.heap.size 80 3 lv l.length (flat l) := row_keep hlv (fun x hx => (below_trans hy hb).block x (hlv.lt x hx).2);have hR : Rs _ _ _ _ := ⟨_, gp, gq, lv, _, rfl, rnw_rm hn hZ hY hok (heap_alloc_new wy _) (keepP hgp hb) (keepP hgq hb) hlv2, ok_new hn.1 hn.2 hc hok⟩;refine ⟨_, _, rfl, hR.below (Below.refl _ _).drew, (below_trans (below_trans hB2 hy) hb).drew, ?_⟩;rintro b (rfl | rfl | rfl | h)
 ·exact Nat.le_trans hB2.size hy.size
 ·exact g1
 ·exact g2
 ·exact (hlv.lt b h).1
theorem rnew_ok {lv : Value} {n : Nat} {l : List Stp} {w : World} (h1 : 1 ≤ n) (h4 : n ≤ 4) (ho : Ov w lv l) (hc : checkB l = true) :
  Calls Tryz.prog 8 #[.int .i64 n, lv] w fun e w' => Nr w n l e w' := by
 have HV : Hid (Ov w lv l) := ho;obtain ⟨⟨ao, cap, rfl, g1, g2, g3, g4⟩, g5⟩ := ho;have HO : Hid (Ol w ao l) := g4;have HL : Hid (l.length ≤ maxLen) := Nat.le_trans g1 g2;have HC : Hid (chkI l = 0) := by show _ = _; unfold chkI; rw [hc]; rfl
 have HOK : Hid (∀ o ∈ l, o.ok) := g5;have HN : Hid (1 ≤ n ∧ n ≤ 4) := ⟨h1, h4⟩;have HCB : Hid (checkB l = true) := hc
 have HL8 : Hid (l.length ≤ 1048576) := by
  show _ ≤ _;unfold checkB at hc;simp at hc;omega
 obtain ⟨i0, hi0, hz0, hz1, hz2⟩ := info_partsV info_rrow;obtain ⟨j0, hj0, hy0, hy1, hy2⟩ := info_partsV info_boolK;clear g1 g2 g3 g4 g5 hc
 have HMK : Hid (∀ wx, (Instr.makeSlice 88 (.int .i64 n) (.int .i64 n)).run Tryz.prog wx = .ok (.slice (some ⟨wx.heap.size, 0, none⟩) n n) (wx.alloc (.cells (madeCells #[.slice none 0 0] (n * 1)) 85))) := fun wx => by
  have := run_make (P := Tryz.prog) wx 88 85 i0 (.slice none 0 0) Tryz.underlying88 hi0 hz0 .i64 .i64 n n (by omega) (Int.le_refl _) (by rw [hz2]; omega) (by omega);rw [hz1] at this;simp only [Int.toNat_natCast] at this;exact this
 have HMB : Hid (∀ wx, (Instr.makeSlice 89 (.int .i64 n) (.int .i64 n)).run Tryz.prog wx = .ok (.slice (some ⟨wx.heap.size, 0, none⟩) n n) (wx.alloc (.cells (madeCells #[.bool false] (n * 1)) 4))) := fun wx => by
  have := run_make (P := Tryz.prog) wx 89 4 j0 (.bool false) Tryz.underlying89 hj0 hy0 .i64 .i64 n n (by omega) (Int.le_refl _) (by rw [hy2]; omega) (by omega);rw [hy1] at this;simp only [Int.toNat_natCast] at this;exact this
 obtain ⟨Z, hZ⟩ : ∃ Z, Z = madeCells #[.slice none 0 0] (n * 1) := ⟨_, rfl⟩;obtain ⟨Y, hY⟩ : ∃ Y, Y = madeCells #[.bool false] (n * 1) := ⟨_, rfl⟩;rw [← hZ] at HMK;rw [← hY] at HMB;have hmk := HMK.out;have hmb := HMB.out;have HZZ : Hid (Z = madeCells #[.slice none 0 0] (n * 1)) := hZ;have HYY : Hid (Y = madeCells #[.bool false] (n * 1)) := hY;clear hZ hY HMK HMB hi0 hz0 hz1 hz2 hj0 hy0 hy1 hy2;go_in;go_wp2_with fail;refine (rcheck_walk HL.out HO.out).mono ?_;rw [HC.out];rintro e w1 ⟨rfl, hB⟩;have HB1 := hidH hB;have HV1 : Hid (Ov (w1.alloc (Obj.cells #[] 80)) (.slice ao l.length cap) l) := (HV.out.below hB).below (below_alloc _ _);clear hB;go_wp2_with (at_builtin; refine wpList_append_sp (by rfl) _ _ 22 (by rfl) w1.heap.size 80 Tryz.underlying22 info_op _ 0 [] (by rfl) (World.ownsRow_made w1 #[] 0 (Nat.le_refl _) (by simp [maxLen]) (by simp)) _ l (by rfl) HV1.out (by have := HL8.out; simp [maxLen]; omega) (by have := HL8.out; omega) (by simp) ?_; intro v' w2 hown hgrow; obtain ⟨ao2, cap2, hv2, _⟩ := row_form hown; subst hv2)
 have HOW : Hid (w2.ownsRow w.heap.size 80 3 (.slice ao2 l.length cap2) l.length (flat l)) := by
  have h := row_base hown (b' := w.heap.size) (fun x hx => Nat.le_trans HB1.out.size (hown.lt x hx).1);have h2 : w2.ownsRow w.heap.size 80 3 (.slice ao2 l.length cap2) l.length (flat l) := by simpa using h
  exact h2
 have HB2 : Hid (Below w.heap.size w w2) := below_trans HB1.out ((below_alloc w1 (Obj.cells #[] 80)).grown hgrow (by simp) (by simp [Value.ownBlock]));clear hown hgrow;go_wp2_with fail;go_region;all_goals go_wp2_with fail
 all_goals go_ret2
 ·have b1 := below_alloc w2 (Obj.cells Z 85);have b2 := below_alloc (w2.alloc (Obj.cells Z 85)) (Obj.cells Y 4);exact nr_end (gp := w2.heap.size) (gq := w2.heap.size + 1) (sb := w2.heap.size + 1 + 1) HN.out HZZ.out HYY.out HOK.out HCB.out HB2.out HOW.out (below_trans b1 b2) HB2.out.size (by have := HB2.out.size; omega) (keepP (heap_alloc_new w2 _) b2) (by have := heap_alloc_new (w2.alloc (Obj.cells Z 85)) (Obj.cells Y 4); simpa using this) (by simp)
 ·have b1 := below_alloc w2 (Obj.cells Y 4);have b2 := below_alloc (w2.alloc (Obj.cells Y 4)) (Obj.cells Z 85);exact nr_end (gp := w2.heap.size + 1) (gq := w2.heap.size) (sb := w2.heap.size + 1 + 1) HN.out HZZ.out HYY.out HOK.out HCB.out HB2.out HOW.out (below_trans b1 b2) (by have := HB2.out.size; omega) HB2.out.size (by have := heap_alloc_new (w2.alloc (Obj.cells Y 4)) (Obj.cells Z 85); simpa using this) (keepP (heap_alloc_new w2 _) b2) (by simp)
end
end Go.Proofs.YtombjgfajbhbbaaGreat
