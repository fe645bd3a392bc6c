/- Contract of Apply. -/
import Derived.Test.YtcmklbibehnloaaGreatB31
set_option maxRecDepth 100000
set_option maxHeartbeats 16000000
namespace Go.Proofs.YtcmklbibehnloaaGreat
open Go.RowKit
structure Iw (P : Bo) (S : Dk) (W : List (List Nat)) : Prop where
 ok : P.ok S.bl.length
 n8 : P.tab.length = 7
 w8 : W.length = 7
 b64 : S.bl.length ≤ 64
 ov : P.over = false
 dn : S.down = false
 root : bk S.bl P.home = rootB P.gen P.tab
 oth : ∀ g t, rootOf (bk S.bl (1 - P.home)) S.bl.length = some (g, t) → g < P.gen
 pg : ∀ p, p < 7 → (tn P.tab p = 0 ∧ bk W p = []) ∨ (tn P.tab p ≠ 0 ∧ bk W p = bk S.bl (tn P.tab p) ∧ bk W p ≠ [])
theorem Iw.two {P : Bo} {S : Dk} {W : List (List Nat)} (h : Iw P S W) : 16 ≤ S.bl.length := by have := h.ok.tok.2.1; have := h.n8; omega
theorem Iw.turn {P : Bo} {S S' : Dk} {W : List (List Nat)} (h : Iw P S W) (hd : S'.down = false) (hl : S'.bl.length = S.bl.length) (hk : ∀ x, x ∈ P.tab ∨ x < 2 → bk S'.bl x = bk S.bl x) : Iw P S' W := by
 have h2 := h.ok.h2;refine ⟨by rw [hl]; exact h.ok, h.n8, h.w8, by rw [hl]; exact h.b64, h.ov, hd, by rw [hk _ (.inr (by omega))]; exact h.root, fun g t hg => h.oth g t (by rw [hk _ (.inr (by omega)), hl] at hg; exact hg), fun p hp => ?_⟩;rcases h.pg p hp with q | ⟨a, b, c⟩
 ·exact .inl q
 ·exact .inr ⟨a, by rw [hk _ (.inl (tn_mem (by rw [h.n8]; exact hp)))]; exact b, c⟩
theorem Iw.shut {P : Bo} {S : Dk} {W : List (List Nat)} (h : Iw P S W) : shutB P S = false := by unfold shutB; rw [h.ov, h.dn]; rfl
theorem put_iw {P : Bo} {S : Dk} {W : List (List Nat)} {ps : List (Int × List Nat)} (h : Iw P S W) (hL : Lok 7 ps) (hp : ps ≠ []) (hg : P.gen < 1099511627776) :
  (∃ P' S', putO P S ps = (0, P', S') ∧ Iw P' S' (withL W ps) ∧ P'.gen = P.gen + 1 ∧ P'.home = 1 - P.home ∧ S'.wr = S.wr + cntN ps + 1 ∧ S'.rd = S.rd ∧ (∀ x, (x ∈ P.tab ∧ x ≠ 0) ∨ x = P.home → bk S'.bl x = bk S.bl x) ∧ S'.bl.length = S.bl.length ∧ (S.left = -1 → S'.left = -1)) ∨
  (∃ S', putO P S ps = (80, endB P, S') ∧ S'.down = true ∧ Iw P (onS S') W ∧ S.left ≠ -1 ∧ S'.rd = S.rd ∧ S'.wr ≤ S.wr + 8) := by
 have hsh := h.shut;have hL' : Lok P.tab.length ps := by rw [h.n8]; exact hL
 have hfa : faultI P.tab.length ps = 0 := fault_of ps [] hL' (fun _ _ => by simp);have h64 : ∀ x ∈ P.tab, x < 64 := fun x hx => by have h1 := tok_lt h.ok.tok x hx; have h2 := h.b64; omega
 have h16 := h.two;have hh := h.ok.h2;rcases lay_all h.ok.tok h64 ps [] P.tab [] 1 S (LC.start h.ok.tok h.dn) (by rw [List.nil_append]; exact hL') (by simp; exact lok_len hL') with ⟨t, tk, b, S1, hlay, hC⟩ | ⟨S1, tk, hlay, hdn, hlen, hkeep, htk, hlf, hrd, hwr⟩
 ·rw [List.nil_append] at hC;have htok : Tok t S.bl.length := hC.li.tok h.ok.tok;have htl : t.length = 7 := by rw [hC.li.len, h.n8]
  have hrs : (rootB (P.gen + 1) t).length ≤ 1024 := Nat.le_trans (root_short (by omega)) (by omega);have hin : 1 - P.home < S1.bl.length := by rw [hC.len]; omega
  have htk2 : ∀ x, x ∈ tk → 2 ≤ x ∧ x ∉ P.tab := fun x hx => ⟨(hC.li.tk2 x hx).1, (hC.li.tk2 x hx).2.2.2⟩;by_cases hl0 : S1.left = 0
  ·obtain ⟨w1, w2⟩ := write_cut hC.dn hin hl0 hrs;refine .inr ⟨offS S1, by rw [put_cut hsh hfa hp (by omega) hlay (by rw [w1]; omega), w2], rfl, ?_, fun e => by rw [hC.lf e] at hl0; omega, hC.rd, ?_⟩
   ·refine h.turn rfl hC.len (fun x hx => hC.keep x (fun e => ?_));have := htk2 x e;rcases hx with q | q
    ·exact this.2 q
    ·omega
   ·have h1 := hC.wr;have h2 := hC.cnt;have h3 : cntN ps ≤ ps.length := List.length_filter_le _ _;have h4 := lok_len hL;show S1.wr ≤ _;omega
  ·obtain ⟨w1, w2⟩ := write_in hC.dn hin hl0 hrs;have hok : (Bo.mk (P.gen + 1) t (1 - P.home) P.over).ok S.bl.length := ⟨by show 1 ≤ P.gen + 1; omega, by show P.gen + 1 ≤ _; omega, by show t.length ≤ 8; omega, htok, by show 1 - P.home ≤ 1; omega⟩;have hlen : (putS S1 (1 - P.home) (rootB (P.gen + 1) t)).bl.length = S.bl.length := by show (S1.bl.set _ _).length = _; rw [List.length_set]; exact hC.len
   have hbk : ∀ x, x ≠ 1 - P.home → bk (putS S1 (1 - P.home) (rootB (P.gen + 1) t)).bl x = bk S1.bl x := fun x hx => by
    show bk (S1.bl.set _ _) x = _;by_cases hxl : x < S1.bl.length
    ·rw [bk_set hxl, if_neg (fun e => hx e.symm)]
    ·unfold bk;rw [List.getD_eq_getElem?_getD, List.getElem?_eq_none (by simpa using hxl), List.getD_eq_getElem?_getD, List.getElem?_eq_none (by omega)]
   have hnt : ∀ x, x ∈ P.tab → x ≠ 0 → x ≠ 1 - P.home := fun x hx h0 e => by
    obtain ⟨i, hi, e2⟩ := List.getElem_of_mem hx;have h3 := (tok_iff.1 h.ok.tok).2.2.1 i hi;rw [tn_at hi, e2] at h3;omega
   refine .inl ⟨⟨P.gen + 1, t, 1 - P.home, P.over⟩, putS S1 (1 - P.home) (rootB (P.gen + 1) t), by rw [put_ok hsh hfa hp (by omega) hlay w1, w2], ?_, rfl, rfl, ?_, hC.rd, ?_, hlen, fun e => by show decL S1.left = -1; rw [hC.lf e]; rfl⟩
   ·refine ⟨by rw [hlen]; exact hok, htl, by rw [with_len]; exact h.w8, by rw [hlen]; exact h.b64, h.ov, hC.dn, ?_, fun g t' hg => ?_, fun p hp8 => ?_⟩
    ·show bk (S1.bl.set _ _) (1 - P.home) = _;rw [bk_set hin, if_pos rfl]
    ·show g < P.gen + 1;have e1 : 1 - (1 - P.home) = P.home := by omega
     rw [show (Bo.mk (P.gen + 1) t (1 - P.home) P.over).home = 1 - P.home from rfl, e1, hbk P.home (by omega), hC.keep P.home (fun e => by have := (htk2 _ e).1; omega), hlen, h.root, root_back h.ok.g1 h.ok.g40 h.ok.n8 h.b64 h.ok.tok] at hg;simp only [Option.some.injEq, Prod.mk.injEq] at hg;omega
    ·show (tn t p = 0 ∧ _) ∨ (tn t p ≠ 0 ∧ _);by_cases hpm : (p : Int) ∈ ps.map (·.1)
     ·obtain ⟨q, hq, e⟩ := List.mem_map.1 hpm;have hqp : q.1.toNat = p := by omega
      have hw := with_in ps W q hq (fun r hr => by have := hL.pg r hr; have := h.w8; exact ⟨by omega, by omega⟩) hL.nd;have hc := hC.pg q hq;rw [hqp] at hw hc;by_cases hd : q.2 = []
      ·exact .inl ⟨hc.1 hd, by rw [hw]; exact hd⟩
      ·obtain ⟨a, c⟩ := hc.2 hd;have := htk2 _ a;have hn0 : tn t p ≠ 0 := by omega
       refine .inr ⟨hn0, ?_, by rw [hw]; exact hd⟩;have hn1 : tn t p ≠ 1 - P.home := by omega
       rw [hw];show q.2 = bk _ (tn t p);rw [hbk _ hn1]; exact c.symm
     ·have e1 := hC.oth p (by rw [h.n8]; exact hp8) hpm;have e2 := with_out ps W (by rw [h.w8]; exact hp8) (fun r hr => (hL.pg r hr).1) hpm;rw [e1, e2];have hm : tn P.tab p ∈ P.tab := tn_mem (by rw [h.n8]; exact hp8);rcases h.pg p hp8 with q | ⟨a, b', c⟩
      ·exact .inl q
      ·refine .inr ⟨a, ?_, c⟩;rw [b', hbk _ (hnt _ hm a), hC.keep _ (fun e => (htk2 _ e).2 hm)]
   ·show S1.wr + 1 = _;rw [hC.wr, hC.cnt]
   ·intro x hx;rcases hx with ⟨q, h0⟩ | q
    ·rw [hbk x (hnt _ q h0), hC.keep x (fun e => (htk2 _ e).2 q)]
    ·subst q;rw [hbk _ (by omega), hC.keep _ (fun e => by have := (htk2 _ e).1; omega)]
 ·refine .inr ⟨S1, put_lay hsh hfa hp (by omega) hlay, hdn, ?_, hlf, hrd, by rw [h.n8] at hwr; omega⟩;refine h.turn rfl hlen (fun x hx => hkeep x (fun e => ?_));have := htk x e;rcases hx with q | q
  ·exact this.2 q
  ·omega
theorem Iw.rdd {P : Bo} {S S' : Dk} {W : List (List Nat)} {j : Nat} (h : Iw P S W) (hr : Rdd j S S') : Iw P S' W := h.turn (by rw [hr.dn]; exact h.dn) (by rw [hr.bl]) (fun x _ => by rw [hr.bl])
theorem Iw.get {P : Bo} {S : Dk} {W : List (List Nat)} (h : Iw P S W) {p : Nat} (hp : p < 7) : getL P S (p : Int) = bk W p := by
 unfold getL;rw [if_neg (by rw [h.shut]; simp), if_neg (by unfold hasB; rw [h.n8]; simp; omega), Int.toNat_natCast];rcases h.pg p hp with ⟨a, b⟩ | ⟨a, b, c⟩
 ·rw [if_pos a, b]
 ·rw [if_neg a, read_at h.dn (tok_lt h.ok.tok _ (tn_mem (by rw [h.n8]; exact hp))), b]
section
def appA (kind b : Int) : List (List Cl) → List Pr → Int × List (List Cl)
 | Ls, [] => (0, Ls)
 | Ls, p :: r => if (shApp kind b Ls p.k p.v).1 ≠ 0 then shApp kind b Ls p.k p.v else appA kind b (shApp kind b Ls p.k p.v).2 r
theorem appA_bad {kind b : Int} {Ls : List (List Cl)} {l : List Pr} {i : Nat} (hi : i < l.length) (h : (shApp kind b Ls l[i].k l[i].v).1 ≠ 0) : appA kind b Ls (l.drop i) = shApp kind b Ls l[i].k l[i].v := by
 rw [List.drop_eq_getElem_cons hi, appA, if_pos h]
theorem appA_go {kind b : Int} {Ls : List (List Cl)} {l : List Pr} {i : Nat} (hi : i < l.length) (h : (shApp kind b Ls l[i].k l[i].v).1 = 0) : appA kind b Ls (l.drop i) = appA kind b (shApp kind b Ls l[i].k l[i].v).2 (l.drop (i + 1)) := by
 rw [List.drop_eq_getElem_cons hi, appA, if_neg (fun e => e h)]
theorem aheadC_ok {c : Cl} (h : c.ok) (b : Int) : (aheadC c b).ok := by unfold aheadC; split; exact h.2; exact h.1
theorem appC_okB {kind b : Int} {c : Cl} {v : Vl} (hc : c.okB) (hv : v.ok) (hb : -9223372036854775808 ≤ b ∧ b < 9223372036854775808) : (appC kind c b v).okB := by
 unfold appC;have hk : c.ok := ⟨hc.2.1, hc.2.2.1⟩
 split
 ·exact ⟨hc.1, aheadC_ok hk b, mergeV_ok kind (aheadC_ok hk b) hv, hb.1, hb.2⟩
 ·exact ⟨by show (0 : Nat) < _; omega, by show (0 : Nat) < _; omega, by show (0 : Nat) < _; omega, by show _ ≤ (0 : Int); omega, by show (0 : Int) < _; omega⟩
theorem putR_pok {l : List Cl} {c : Cl} (hl : ∀ d ∈ l, d.okB) (hn : l.length ≤ 16) (hc : c.okB) (h : (putR l c).2 = 0) : (∀ d ∈ (putR l c).1, d.okB) ∧ (putR l c).1.length ≤ 16 := by
 unfold putR at h ⊢
 split
 ·simp
 ·split
  ·rename_i hk
   obtain ⟨hi, _⟩ := is_at hk;refine ⟨fun d hd => ?_, by simp; omega⟩;simp only [List.mem_append, List.mem_singleton] at hd;rcases hd with hd | hd | hd
   ·exact hl d (List.mem_of_mem_take hd)
   ·subst hd; exact hc
   ·exact hl d (List.mem_of_mem_drop hd)
  ·split
   ·simp
   ·refine ⟨fun d hd => ?_, by simp; omega⟩;simp only [List.mem_append, List.mem_singleton] at hd;rcases hd with hd | hd | hd
    ·exact hl d (List.mem_of_mem_take hd)
    ·subst hd; exact hc
    ·exact hl d (List.mem_of_mem_drop hd)
theorem shOne_ok {Ls : List (List Cl)} {k i : Nat} {c : Cl} (hp : Pok Ls) (hk : k < 18446744073709551616) (h : shOne Ls k = some (i, c)) : i < 6 ∧ c.okB := by
 unfold shOne at h
 split at h
 ·rename_i j hj
  cases h
  have h1 := shG_lt 6 0 hj;obtain ⟨hi, _⟩ := find_at h1.2.2;refine ⟨by omega, ?_⟩;unfold cellAt;simp only [List.getD_eq_getElem?_getD, List.getElem?_eq_getElem hi, Option.getD_some];exact hp.2.1 _ (by omega) _ (List.getElem_mem _)
 ·split at h
  ·rename_i j hj
   cases h
   have h1 := shG_lt 6 0 hj;exact ⟨by omega, hk, by show (0 : Nat) < _; omega, by show (0 : Nat) < _; omega, by show _ ≤ (0 : Int); omega, by show (0 : Int) < _; omega⟩
  ·cases h
theorem shApp_pok {kind b : Int} {Ls : List (List Cl)} {k : Nat} {v : Vl} (hp : Pok Ls) (hk : k < 18446744073709551616) (hv : v.ok) (hb : -9223372036854775808 ≤ b ∧ b < 9223372036854775808) (h : (shApp kind b Ls k v).1 = 0) : Pok (shApp kind b Ls k v).2 := by
 unfold shApp at h ⊢
 split
 ·exact hp
 ·rename_i i c ho
  obtain ⟨hi, hc⟩ := shOne_ok hp hk ho;rw [ho] at h;simp only at h;by_cases ha : appI kind c b = 0
  ·rw [if_neg (fun e => e ha)] at h ⊢;unfold shPut at h ⊢;have h0 : (putR (pgc Ls i) (appC kind c b v)).2 = 0 := by simp only at h; omega
   obtain ⟨g1, g2⟩ := putR_pok (hp.2.1 i hi) (hp.2.2 i hi) (appC_okB (kind := kind) hc hv hb) h0;refine ⟨by simp [hp.1], fun j hj => ?_, fun j hj => ?_⟩
   ·rw [pgc_set (by rw [hp.1]; exact hj)]
    split
    ·exact g1
    ·exact hp.2.1 j hj
   ·rw [pgc_set (by rw [hp.1]; exact hj)]
    split
    ·exact g2
    ·exact hp.2.2 j hj
  ·rw [if_pos ha]; exact hp
theorem qv_ch {D : Nat → Prop} {w w' : World} {v : Value} {l : List Pr} (h : Qv w v l) (hc : Ch D w w') (hd : l ≠ [] → ∀ x, v.ownBlock = some x → ¬ D x) : Qv w' v l := by
 obtain ⟨⟨ao, cap, e, h1, h2, h3, h4⟩, h5⟩ := h;refine ⟨⟨ao, cap, e, h1, h2, h3, fun i hi => ?_⟩, h5⟩;obtain ⟨b, off, e1, e2, e3, e4⟩ := h4 i hi;have hn : ¬ D b := hd (by rintro rfl; simp at hi) b (by rw [e, e1]; rfl);exact ⟨b, off, e1, hc.cell e2 hn, hc.cell e3 hn, hc.cell e4 hn⟩
theorem qv_lt {w : World} {v : Value} {l : List Pr} (h : Qv w v l) (hl : l ≠ []) {x : Nat} (hx : v.ownBlock = some x) : x < w.heap.size := by
 obtain ⟨⟨ao, cap, e, h1, h2, h3, h4⟩, h5⟩ := h;obtain ⟨b, off, e1, e2, _⟩ := h4 0 (by cases l with | nil => exact absurd rfl hl | cons _ _ => simp);subst e1;subst e
 cases hx
 exact cell_lt e2
def apE (m : Mk) (kind b a : Int) (Ls : List (List Cl)) (l : List Pr) : Option Int :=
 if cntdB b a = false ∨ fitsB kind l = false then some 1
 else if judI m.b m.a b a ≠ 0 then some ((judI m.b m.a b a : Nat) : Int)
 else if toucB m.k l = false then some 132
 else if (appA kind b Ls l).1 ≠ 0 then some (appA kind b Ls l).1 else none
def apL (kind b : Int) (Ls : List (List Cl)) (l : List Pr) : List (Int × List Nat) := chgL Ls (appA kind b Ls l).2 6
theorem ap_arg {m : Mk} {kind b a : Int} {Ls : List (List Cl)} {l : List Pr} (h : cntdB b a = false ∨ fitsB kind l = false) : apE m kind b a Ls l = some 1 := by unfold apE; rw [if_pos h]
theorem ap_jud {m : Mk} {kind b a : Int} {Ls : List (List Cl)} {l : List Pr} (h : ¬ (cntdB b a = false ∨ fitsB kind l = false)) (hj : judI m.b m.a b a ≠ 0) : apE m kind b a Ls l = some ((judI m.b m.a b a : Nat) : Int) := by unfold apE; rw [if_neg h, if_pos hj]
theorem ap_key {m : Mk} {kind b a : Int} {Ls : List (List Cl)} {l : List Pr} (h : ¬ (cntdB b a = false ∨ fitsB kind l = false)) (hj : judI m.b m.a b a = 0) (ht : toucB m.k l = false) : apE m kind b a Ls l = some 132 := by unfold apE; rw [if_neg h, if_neg (fun e => e hj), if_pos ht]
theorem ap_room {m : Mk} {kind b a : Int} {Ls : List (List Cl)} {l : List Pr} (h : ¬ (cntdB b a = false ∨ fitsB kind l = false)) (hj : judI m.b m.a b a = 0) (ht : toucB m.k l = true) (hr : (appA kind b Ls l).1 ≠ 0) : apE m kind b a Ls l = some (appA kind b Ls l).1 := by unfold apE; rw [if_neg h, if_neg (fun e => e hj), if_neg (by rw [ht]; simp), if_pos hr]
theorem ap_put {m : Mk} {kind b a : Int} {Ls : List (List Cl)} {l : List Pr} (h : ¬ (cntdB b a = false ∨ fitsB kind l = false)) (hj : judI m.b m.a b a = 0) (ht : toucB m.k l = true) (hr : (appA kind b Ls l).1 = 0) : apE m kind b a Ls l = none := by unfold apE; rw [if_neg h, if_neg (fun e => e hj), if_neg (by rw [ht]; simp), if_neg (fun e => e hr)]
section

variable {A : Nat → Prop} {w w1 : World} {sv dv : Value} {k : Int} {P : Bo} {S : Dk} {sp : Nat}

theorem ST.kind (h : ST A w (.pointer (some ⟨sp, 0, none⟩)) dv k P S) : w.cell? ⟨sp, 1, none⟩ = some (.int .i64 k) := by
 obtain ⟨sp', bv, e, h1, h2, h3, h4⟩ := h
 cases e
 rw [cell_of_row w sp 1 _ _ (0, 0) h1]; rfl
theorem ST.book (h : ST A w (.pointer (some ⟨sp, 0, none⟩)) dv k P S) : ∃ pb, w.cell? ⟨sp, 0, none⟩ = some (.pointer (some ⟨pb, 0, none⟩)) := by
 obtain ⟨sp', bv, e', h1', h2', ⟨D, pb, tv, e2, _⟩, h4'⟩ := h
 cases e'
 exact ⟨pb, by rw [cell_of_row w sp 0 _ _ (0, 0) h1', e2]; rfl⟩
def ApGot (A : Nat → Prop) (w : World) (sv dv : Value) (k : Int) (P : Bo) (S : Dk) (m : Mk) (Ls : List (List Cl)) (b a : Int) (l : List Pr) (e : Ending) (w' : World) : Prop :=
 (shutB P S = true ∧ ∃ S', e = .returned (.int .i64 80) ∧ ST A w' sv dv k (endB P) S' ∧ Rdd 8 S S' ∧ Ch A w w') ∨
 (shutB P S = false ∧ ∃ c S', apE m k b a Ls l = some c ∧ e = .returned (.int .i64 c) ∧ ST A w' sv dv k P S' ∧ Rdd 8 S S' ∧ Ch A w w') ∨
 (shutB P S = false ∧ apE m k b a Ls l = none ∧ ∃ S' A', Rdd 8 S S' ∧ e = .returned (.int .i64 (putO P S' (apL k b Ls l)).1) ∧ ST A' w' sv dv k (putO P S' (apL k b Ls l)).2.1 (putO P S' (apL k b Ls l)).2.2 ∧ (∀ x, A' x → A x ∨ w.heap.size ≤ x) ∧ Ch A w w')
def ApR (w9 : World) (T13 : Nat) (k b : Int) (Ls : List (List Cl)) (l : List Pr) (iv : Value) (wr : World) : Prop :=
 ∃ (i : Nat) (Lc : List (List Cl)) (g : Nat → Value), iv = .int .i64 i ∧ i ≤ l.length ∧ appA k b Ls l = appA k b Lc (l.drop i) ∧ Pok Lc ∧ SH wr T13 g Lc ∧ Ch (fun x => x = T13) w9 wr
theorem apply_walkS (h : ST A w sv dv k P S) {m : Mk} {Ls : List (List Cl)} (hM : shutB P S = false → decM (getL P S 0) = (m, 0)) (hD : shutB P S = false → decP P S 6 = some Ls) (hrd : S.rd < 4611686018427387000) (hwr : S.wr < 4611686018427387000) {tv : Value} {l : List Pr} (hq : Qv w tv l) (hqA : ∀ x, tv.ownBlock = some x → ¬ A x) (b a : Int) :
  Calls Tryz.prog 31 #[sv, .int .i64 b, .int .i64 a, tv] w (ApGot A w sv dv k P S m Ls b a l) := by
 have HM : Hid (shutB P S = false → decM (getL P S 0) = (m, 0)) := hM;have HD : Hid (shutB P S = false → decP P S 6 = some Ls) := hD;have HRD := hidH hrd;have HWR := hidH hwr;have HPO : Hid (P.ok S.bl.length) := h.ok.1;have H64 : Hid (S.bl.length ≤ 64) := h.b64;have HBY : Hid (∀ p, ∀ c ∈ getL P S p, c < 256) := getL_byt h;obtain ⟨sp, hsp, hsl, hsA⟩ := h.ptr;subst hsp;have HALW : Hid (∀ x, A x → x < w.heap.size) := fun x hx => h.lt hx;have HSPW : Hid (sp < w.heap.size) := hsl;have HSPA : Hid (¬ A sp) := hsA;have HT0 := hidH h;have HQW : Hid (Qv w tv l) := hq;have HQA : Hid (∀ x, tv.ownBlock = some x → ¬ A x) := hqA;have HPR : Hid (∀ o ∈ l, o.ok) := hq.2;obtain ⟨ta, tc, htv, htl, htm⟩ : ∃ ta tc, tv = .slice ta l.length tc ∧ l.length ≤ tc ∧ tc ≤ maxLen := by obtain ⟨⟨ta, tc, e, h1, h2, _⟩, _⟩ := hq; exact ⟨ta, tc, e, h1, h2⟩
 obtain ⟨n, hn⟩ : ∃ n, n = l.length := ⟨_, rfl⟩;rw [← hn] at htv;subst htv;have HN : Hid (n = l.length) := hn;have hni : (n : Int) ≤ 9223372036854775807 := by unfold maxLen at htm; omega
 clear h hM hD hrd hwr hq hqA hsl hsA hn htl htm;go_in;go_wp2_with fail;refine (smark_walk HT0.out (by have := HRD.out; omega)).mono ?_;rintro e w1 ⟨c, m', ov, S1, rfl, ho1, hcase, hst1, hrdd1, hch1⟩
 cases hs : shutB P S
 rotate_left
 ·have hc : c = 80 ∧ m' = zeroM := by
   rcases hcase with ⟨h1, _, h3⟩ | ⟨_, h2, _⟩ | ⟨_, h2, _⟩
   ·exact ⟨h1, h3⟩
   ·rw [hs] at h2; cases h2
   ·rw [hs] at h2; cases h2
  obtain ⟨rfl, rfl⟩ := hc;have HS : Hid (shutB P S = true) := hs;have HT1 : Hid (ST A w1 (.pointer (some ⟨sp, 0, none⟩)) dv k (endB P) S1) := by have h := hst1; unfold getB at h; rw [if_pos hs] at h; exact h
  have HR1 : Hid (Rdd 1 S S1) := hrdd1;have HC1 : Hid (Ch A w w1) := hch1;obtain ⟨oa, on, oc, hov⟩ : ∃ x y z, ov = .slice x y z := by obtain ⟨x, z, e⟩ := own_form8 ho1; exact ⟨x, _, z, e⟩
  subst hov;clear ho1 hcase hst1 hrdd1 hch1 hs;go_wp2_with fail;go_ret;exact .inl ⟨HS.out, S1, rfl, HT1.out.below (below_alloc _ _), HR1.out.mono (by omega), HC1.out.self (Ch.of_below (below_alloc _ _))⟩
 have HS : Hid (shutB P S = false) := hs
 have hc : c = 0 ∧ m' = m := by
  rcases hcase with ⟨_, h2, _⟩ | ⟨_, _, h2, _⟩ | ⟨h1, _, h2⟩
  ·rw [hs] at h2; cases h2
  ·rw [HM.out hs] at h2; exact absurd rfl h2
  ·rw [HM.out hs] at h2; cases h2; exact ⟨h1, rfl⟩
 obtain ⟨rfl, rfl⟩ := hc;rw [getB_ok hs] at hst1;have HT1 := hidH hst1;have HR1 : Hid (Rdd 1 S S1) := hrdd1;have HC1 : Hid (Ch A w w1) := hch1;have HO1 : Hid (Kv w1 ov m'.k) := own_sv ho1;have HQ1 : Hid (Qv w1 (.slice ta n tc) l) := qv_ch HQW.out hch1 (fun _ => HQA.out);obtain ⟨oa, on, oc, hov⟩ : ∃ x y z, ov = .slice x y z := by obtain ⟨x, z, e⟩ := own_form8 ho1; exact ⟨x, _, z, e⟩
 subst hov;clear ho1 hcase hst1 hrdd1 hch1 hs;go_upto_region 2 with fail
 have HB2 : Hid (Below w1.heap.size w1 (w1.alloc (Obj.cells #[.int .i64 m'.b, .int .i64 m'.a, .slice oa on oc] 65))) := below_alloc _ _;have HM2 : Hid _ := mb_new w1 m'.b m'.a (.slice oa on oc);generalize w1.heap.size = T9 at HM2 ⊢;generalize w1.alloc (Obj.cells #[.int .i64 m'.b, .int .i64 m'.a, .slice oa on oc] 65) = w2 at HB2 HM2 ⊢;have HT2 := hidH (HT1.out.below HB2.out);have HC2 : Hid (Ch A w w2) := HC1.out.self (Ch.of_below HB2.out);have HO2 := hidH (HO1.out.below HB2.out);have HQ2 := hidH (HQ1.out.below HB2.out);clear HT1 HC1 HO1 HQ1 HB2;obtain ⟨C, hC⟩ : ∃ C, C = cntdB b a := ⟨_, rfl⟩;have HCC : Hid (C = cntdB b a) := hC;clear hC;go_wp2_with fail;refine (cntd_walk b a _).mono ?_;rw [← HCC.out];rintro e w3 ⟨rfl, hw3⟩;replace hw3 := hw3.symm;subst hw3
 cases C
 ·have HBE : Hid (apE m' k b a Ls l = some 1) := ap_arg (.inl HCC.out.symm);go_wp2_with fail;go_ret;exact .inr (.inl ⟨HS.out, 1, S1, HBE.out, rfl, HT2.out, HR1.out.mono (by omega), HC2.out⟩)
 obtain ⟨R, hR⟩ : ∃ R, R = fitsB k l := ⟨_, rfl⟩;have HRR : Hid (R = fitsB k l) := hR;have k0 := HT2.out.kind;clear hR;go_wp2_with fail;refine (fits_walk HQ2.out k).mono ?_;rw [← HRR.out];rintro e w3 ⟨rfl, hB3⟩;have HT3 := hidH (HT2.out.below hB3);have HC3 : Hid (Ch A w w3) := HC2.out.self (Ch.of_below hB3);have HO3 := hidH (HO2.out.below hB3);have HQ3 := hidH (HQ2.out.below hB3);have HM3 : Hid _ := HM2.out.keep hB3;clear hB3 HT2 HC2 HO2 HQ2 HM2 k0
 cases R
 ·have HBE : Hid (apE m' k b a Ls l = some 1) := ap_arg (.inr HRR.out.symm);go_wp2_with fail;go_ret;exact .inr (.inl ⟨HS.out, 1, S1, HBE.out, rfl, HT3.out, HR1.out.mono (by omega), HC3.out⟩)
 have HGO : Hid (¬ (cntdB b a = false ∨ fitsB k l = false)) := by
  rintro (h | h)
  ·rw [← HCC.out] at h; cases h
  ·rw [← HRR.out] at h; cases h
 have HBB : Hid (-9223372036854775808 ≤ b ∧ b < 9223372036854775808) := by
  have h := HCC.out;unfold cntdB at h;simp at h;show _ ∧ _;omega
 obtain ⟨J, hJ⟩ : ∃ J, J = judI m'.b m'.a b a := ⟨_, rfl⟩;have HJ : Hid (J = judI m'.b m'.a b a) := hJ;clear hJ;have y0 := HM3.out.c0;have y1 := HM3.out.c1;have y2 := HM3.out.c2;go_wp2_with fail;refine (judge_walk m'.b m'.a b a _).mono ?_;rw [← HJ.out];rintro e w4 ⟨rfl, hB4⟩;have HT4 := hidH (HT3.out.below hB4);have HC4 : Hid (Ch A w w4) := HC3.out.self (Ch.of_below hB4);have HO4 := hidH (HO3.out.below hB4);have HQ4 := hidH (HQ3.out.below hB4);have HM4 : Hid _ := HM3.out.keep hB4;clear hB4 HT3 HC3 HO3 HQ3 HM3 y0 y1 y2;by_cases hj1 : J = 0;rotate_left
 ·have hji : ((J : Int) != 0) = true := by rw [bne_iff_ne]; omega
  have HBE : Hid (apE m' k b a Ls l = some ((J : Nat) : Int)) := by show _ = _; rw [HJ.out]; exact ap_jud HGO.out (by rw [← HJ.out]; exact hj1)
  clear hj1;go_wp2_with fail;go_ret;exact .inr (.inl ⟨HS.out, J, S1, HBE.out, rfl, HT4.out, HR1.out.mono (by omega), HC4.out⟩)
 subst hj1;have y0 := HM4.out.c0;have y1 := HM4.out.c1;have y2 := HM4.out.c2;obtain ⟨T, hT⟩ : ∃ T, T = toucB m'.k l := ⟨_, rfl⟩;have HTT : Hid (T = toucB m'.k l) := hT;clear hT;go_wp2_with fail;refine (touches_walk HQ4.out HO4.out m'.b m'.a).mono ?_;rw [← HTT.out];rintro e w5 ⟨rfl, hB5⟩;have HT5 := hidH (HT4.out.below hB5);have HC5 : Hid (Ch A w w5) := HC4.out.self (Ch.of_below hB5);have HQ5 := hidH (HQ4.out.below hB5);clear hB5 HT4 HC4 HO4 HQ4 HM4 y0 y1 y2
 cases T
 ·have HBE : Hid (apE m' k b a Ls l = some 132) := ap_key HGO.out HJ.out.symm HTT.out.symm;go_wp2_with fail;go_ret;exact .inr (.inl ⟨HS.out, 132, S1, HBE.out, rfl, HT5.out, HR1.out.mono (by omega), HC5.out⟩)
 have HS1 : Hid (shutB P S1 = false) := by show _ = _; rw [rdd_shut HR1.out]; exact HS.out
 have HD1 : Hid (decP P S1 6 = some Ls) := by show _ = _; rw [rdd_decP HR1.out]; exact HD.out HS.out
 have HPK : Hid (Pok Ls) := decP_ok6 (HD.out HS.out) HBY.out;go_wp2_with fail;refine (cells_walk HT5.out (by have h1 := HR1.out.rd; have h2 := HRD.out; omega)).mono ?_;rintro e w7 ⟨c, f, S7, rfl, hform, hfr, hcase, hst7, hrdd7, hch7⟩;rw [getB_ok HS1.out] at hst7
 have hc0 : c = 0 ∧ ∀ j, j < 6 → Cv w7 (f j) (pgc Ls j) := by
  rcases hcase with ⟨_, h2⟩ | ⟨_, _, h2⟩ | ⟨h1, _, L', h2, h3⟩
  ·rw [HS1.out] at h2; cases h2
  ·rw [HD1.out] at h2; cases h2
  ·rw [HD1.out] at h2; cases h2; exact ⟨h1, h3⟩
 obtain ⟨rfl, hcv⟩ := hc0;have HT7 := hidH hst7;have HR7 : Hid (Rdd 8 S S7) := (HR1.out.trans hrdd7).mono (by omega);have HC7 : Hid (Ch A w w7) := HC5.out.self hch7;have HV7 := hidH hcv;have HQ7 : Hid (Qv w7 (.slice ta n tc) l) := qv_ch HQ5.out hch7 (fun _ => HQA.out);obtain ⟨a0, n0, p0, e0⟩ := hform 0 (by omega);obtain ⟨a1, n1, p1, e1⟩ := hform 1 (by omega);obtain ⟨a2, n2, p2, e2⟩ := hform 2 (by omega);obtain ⟨a3, n3, p3, e3⟩ := hform 3 (by omega);obtain ⟨a4, n4, p4, e4⟩ := hform 4 (by omega);obtain ⟨a5, n5, p5, e5⟩ := hform 5 (by omega);have HE : Hid (f 0 = .slice a0 n0 p0 ∧ f 1 = .slice a1 n1 p1 ∧ f 2 = .slice a2 n2 p2 ∧ f 3 = .slice a3 n3 p3 ∧ f 4 = .slice a4 n4 p4 ∧ f 5 = .slice a5 n5 p5) := ⟨e0, e1, e2, e3, e4, e5⟩;rw [e0, e1, e2, e3, e4, e5];clear hform hfr hcase hst7 hrdd7 hch7 hcv e0 e1 e2 e3 e4 e5 HT5 HC5 HQ5 HS1 HD1;go_upto_region 12 with fail
 have HB8 : Hid (Below w7.heap.size w7 (w7.alloc (Obj.cells #[.slice a0 n0 p0, .slice a1 n1 p1, .slice a2 n2 p2, .slice a3 n3 p3, .slice a4 n4 p4, .slice a5 n5 p5] 87))) := below_alloc _ _;have HS8 : Hid (SH (w7.alloc (Obj.cells #[.slice a0 n0 p0, .slice a1 n1 p1, .slice a2 n2 p2, .slice a3 n3 p3, .slice a4 n4 p4, .slice a5 n5 p5] 87)) w7.heap.size f Ls) := by have h := sh_lit w7 f HPK.out.1 HV7.out; obtain ⟨e0, e1, e2, e3, e4, e5⟩ := HE.out; rw [e0, e1, e2, e3, e4, e5] at h; exact h
 obtain ⟨T12, hT12⟩ : ∃ T12, T12 = w7.heap.size := ⟨_, rfl⟩;rw [← hT12] at HS8 ⊢;have HT12 : Hid (T12 = w7.heap.size) := hT12;clear hT12;generalize w7.alloc (Obj.cells #[.slice a0 n0 p0, .slice a1 n1 p1, .slice a2 n2 p2, .slice a3 n3 p3, .slice a4 n4 p4, .slice a5 n5 p5] 87) = w8 at HB8 HS8 ⊢;have s0 := HS8.out.c 0 (by omega);rw [HE.out.1] at s0;have s1 := HS8.out.c 1 (by omega);rw [HE.out.2.1] at s1;have s2 := HS8.out.c 2 (by omega);rw [HE.out.2.2.1] at s2;have s3 := HS8.out.c 3 (by omega);rw [HE.out.2.2.2.1] at s3;have s4 := HS8.out.c 4 (by omega);rw [HE.out.2.2.2.2.1] at s4;have s5 := HS8.out.c 5 (by omega);rw [HE.out.2.2.2.2.2] at s5;go_upto_region 15 with fail
 clear s0 s1 s2 s3 s4 s5;have HB9 : Hid (Below w8.heap.size w8 (w8.alloc (Obj.cells #[.slice a0 n0 p0, .slice a1 n1 p1, .slice a2 n2 p2, .slice a3 n3 p3, .slice a4 n4 p4, .slice a5 n5 p5] 87))) := below_alloc _ _;have HS9 : Hid (SH (w8.alloc (Obj.cells #[.slice a0 n0 p0, .slice a1 n1 p1, .slice a2 n2 p2, .slice a3 n3 p3, .slice a4 n4 p4, .slice a5 n5 p5] 87)) w8.heap.size f Ls) := by have h := sh_lit w8 f HPK.out.1 (fun j hj => (HV7.out j hj).below HB8.out); obtain ⟨e0, e1, e2, e3, e4, e5⟩ := HE.out; rw [e0, e1, e2, e3, e4, e5] at h; exact h
 obtain ⟨T13, hT13⟩ : ∃ T13, T13 = w8.heap.size := ⟨_, rfl⟩;rw [← hT13] at HS9 ⊢;have HT13 : Hid (T13 = w8.heap.size) := hT13;clear hT13;generalize w8.alloc (Obj.cells #[.slice a0 n0 p0, .slice a1 n1 p1, .slice a2 n2 p2, .slice a3 n3 p3, .slice a4 n4 p4, .slice a5 n5 p5] 87) = w9 at HB9 HS9 ⊢;have HT9' : Hid (ST A w9 (.pointer (some ⟨sp, 0, none⟩)) dv k P S7) := HT7.out.below (below_trans HB8.out HB9.out);have HQ9 : Hid (Qv w9 (.slice ta n tc) l) := HQ7.out.below (below_trans HB8.out HB9.out);have HC9 : Hid (Ch A w w9) := HC7.out.self (Ch.of_below (below_trans HB8.out HB9.out));have HW78 : Hid (w.heap.size ≤ w7.heap.size ∧ w7.heap.size ≤ w8.heap.size ∧ T12 < w8.heap.size) := ⟨HC7.out.size, HB8.out.size, HS8.out.lt⟩;have HT12w : Hid (w.heap.size ≤ T12) := by have h1 := HT12.out; have h2 := HW78.out.1; show _ ≤ _; omega
 have HT13w : Hid (w.heap.size ≤ T13 ∧ T12 < T13) := by have h1 := HT13.out; have h2 := HW78.out; exact ⟨by omega, by omega⟩
 have HR0 : Hid (ApR w9 T13 k b Ls l (.int .i64 0) w9) := ⟨0, Ls, f, rfl, by omega, rfl, HPK.out, HS9.out, Ch.refl _ _⟩;have HSPT : Hid (¬ sp = T13) := by have h1 := HSPW.out; have h2 := HT13w.out.1; show ¬ _; omega
 go_wp2_with fail;go_loopw [60] (fun iv wr => ApR w9 T13 k b Ls l iv wr) (fun iv _ => n - (intOf iv).toNat)
 case atStart => exact HR0.out
 case round =>
  clear HR0;obtain ⟨i, Lc, g, rfl, hi, happ, hpk, hsh, hch⟩ := hrel;have HAP : Hid (appA k b Ls l = appA k b Lc (l.drop i)) := happ;have HPKc : Hid (Pok Lc) := hpk;have HSH : Hid (SH wr T13 g Lc) := hsh;have HCr : Hid (Ch (fun x => x = T13) w9 wr) := hch;have HTr : Hid (ST A wr (.pointer (some ⟨sp, 0, none⟩)) dv k P S7) := HT9'.out.high hch (fun x hx e => by have h1 := HALW.out x hx; have h2 := HT13w.out.1; omega) HSPT.out;have HCw : Hid (Ch A w wr) := HC9.out.trans hch (fun x hx => by subst hx; exact .inr HT13w.out.1);clear happ hpk hsh hch;by_cases hlt : i < n
  ·have hlti : (i : Int) < (n : Int) := by omega
   have hltd : decide (i < n) = true := decide_eq_true hlt;have hil : i < l.length := by have := HN.out; omega
   have HQr : Hid (Qv wr (.slice ta n tc) l) := qv_ch HQ9.out HCr.out (fun hl x hx e => by have h1 := qv_lt HQW.out hl hx; have h2 := HT13w.out.1; omega);obtain ⟨b0, off, e0, m0, m1, m2⟩ := HQr.out.ql i hil;subst e0;obtain ⟨p, hp⟩ : ∃ p, p = l[i] := ⟨_, rfl⟩;rw [← hp] at m0 m1 m2;have HP : Hid (p = l[i]) := hp;have HPV : Hid p.v.ok := by rw [hp]; exact (HPR.out _ (List.getElem_mem _)).2
   have HPKK : Hid (p.k < 18446744073709551616) := by rw [hp]; exact (HPR.out _ (List.getElem_mem _)).1
   clear hp;go_upto_region 18 with fail
   clear m0 m1 m2;have HQB : Hid _ := qb_new wr p.k p.v;have HB2 : Hid (Below wr.heap.size wr (wr.alloc (Obj.cells #[.int .u64 p.k, .bool p.v.h, .int .u64 p.v.b] 62))) := below_alloc _ _;have HXT' : Hid (¬ wr.heap.size = T13) := by have h1 := HSH.out.lt; show ¬ _; omega
   have HSHd : Hid (SH (wr.alloc (Obj.cells #[.int .u64 p.k, .bool p.v.h, .int .u64 p.v.b] 62)).drew T13 g Lc) := (HSH.out.below HB2.out).below (below_drewN _ 1);have HK2 : Hid ((wr.alloc (Obj.cells #[.int .u64 p.k, .bool p.v.h, .int .u64 p.v.b] 62)).cell? ⟨sp, 1, none⟩ = some (.int .i64 k)) := (HTr.out.below HB2.out).kind;have HT2 := hidH (HTr.out.below HB2.out);have HC29 : Hid (Ch (fun x => x = T13) w9 (wr.alloc (Obj.cells #[.int .u64 p.k, .bool p.v.h, .int .u64 p.v.b] 62))) := HCr.out.self (Ch.of_below HB2.out);have HCw2 : Hid (Ch A w (wr.alloc (Obj.cells #[.int .u64 p.k, .bool p.v.h, .int .u64 p.v.b] 62))) := HCw.out.self (Ch.of_below HB2.out);obtain ⟨X, hX⟩ : ∃ X, X = wr.heap.size := ⟨_, rfl⟩;rw [← hX] at HQB HXT' ⊢;have HXT : Hid (¬ X = T13) := HXT'.out;clear hX HB2 HXT';generalize (wr.alloc (Obj.cells #[.int .u64 p.k, .bool p.v.h, .int .u64 p.v.b] 62)) = w2 at HQB HSHd HK2 HT2 HC29 HCw2 ⊢;have k0 : ∀ wx, Ch (fun x => x = T13) w2 wx → wx.cell? ⟨sp, 1, none⟩ = some (.int .i64 k) := fun wx h => h.cell HK2.out HSPT.out;have q0 : ∀ wx, Ch (fun x => x = T13) w2 wx → wx.cell? ⟨X, 0, none⟩ = some (.int .u64 p.k) := fun wx h => h.cell HQB.out.c0 HXT.out;have q1 : ∀ wx, Ch (fun x => x = T13) w2 wx → wx.cell? ⟨X, 1, none⟩ = some (.bool p.v.h) := fun wx h => h.cell HQB.out.c1 HXT.out;have q2 : ∀ wx, Ch (fun x => x = T13) w2 wx → wx.cell? ⟨X, 2, none⟩ = some (.int .u64 p.v.b) := fun wx h => h.cell HQB.out.c2 HXT.out;go_wp2_with fail;refine wp_region_noPanic ?_;refine wp_region_held_drew (S := fun wx => Ch (fun x => x = T13) w2 wx) (by kernel_rfl) ?_ fun hHeld => ?_
   ·exact Ch.of_below (below_drewN w2 1)
   refine tkS 0 64 rfl hHeld ?_;refine tkS 1 65 rfl hHeld ?_;refine tkS 2 66 rfl hHeld ?_;refine tkS 3 67 rfl hHeld ?_;refine tkS 4 68 rfl hHeld ?_;refine tkS 5 69 rfl hHeld ?_;refine rdH 6 70 rfl fun K hK => ?_;go_simp;refine (sapply_walk (w := w2.drew) HSHd.out HPKc.out.2.1 HPKc.out.2.2 k b HPV.out).mono ?_;rintro e9 w3 ⟨rfl, ⟨g3, hg3, _⟩, hch3⟩;have HG3 := hidH hg3;have HC3 : Hid (Ch (fun x => x = T13) w2 w3) := (Ch.of_below (below_drewN w2 1)).self hch3;clear hg3 hch3;refine hK.out _ _ ?_ fun hHeld => ?_
   ·exact HC3.out
   clear hK K;try simp only [Act.put, zz]
   refine tkS 7 16 rfl hHeld ?_;refine wpAnyH_done (by kernel_rfl) ?_ _;refine NoPanic.normal ?_;obtain ⟨I, hI⟩ : ∃ I, I = (shApp k b Lc p.k p.v).1 := ⟨_, rfl⟩;rw [← hI];have HII : Hid (I = (shApp k b Lc p.k p.v).1) := hI;clear hI k0 q0 q1 q2;by_cases hI0 : I = 0;rotate_left
   ·have hIi : (I != 0) = true := by rw [bne_iff_ne]; exact hI0
    have HAB : Hid (appA k b Ls l = shApp k b Lc p.k p.v) := by show _ = _; rw [HAP.out, HP.out]; exact appA_bad hil (by rw [← HP.out, ← HII.out]; exact hI0)
    have HBE : Hid (apE m' k b a Ls l = some I) := by show _ = _; rw [HII.out, ← HAB.out]; exact ap_room HGO.out HJ.out.symm HTT.out.symm (by rw [HAB.out, ← HII.out]; exact hI0)
    have HTF : Hid (ST A w3 (.pointer (some ⟨sp, 0, none⟩)) dv k P S7) := HT2.out.high HC3.out (fun x hx e => by have h1 := HALW.out x hx; have h2 := HT13w.out.1; omega) HSPT.out;have HCF : Hid (Ch A w w3) := HCw2.out.trans HC3.out (fun x hx => by subst hx; exact .inr HT13w.out.1);clear hI0;go_wp2_with fail;go_ret;exact .inr (.inl ⟨HS.out, I, S7, HBE.out, rfl, HTF.out, HR7.out, HCF.out⟩)
   ·have HREL : Hid (ApR w9 T13 k b Ls l (.int .i64 ((i : Int) + 1)) w3) := by
     refine ⟨i + 1, (shApp k b Lc p.k p.v).2, g3, rfl, hil, ?_, shApp_pok HPKc.out HPKK.out HPV.out HBB.out (by rw [← HII.out]; exact hI0), HG3.out, HC29.out.self HC3.out⟩;rw [HAP.out, HP.out];exact appA_go hil (by rw [← HP.out, ← HII.out]; exact hI0)
    subst hI0;go_wp2_with fail;go_roundw
    case rel => exact HREL.out
    case measure => simp [intOf]; omega
  ·have hlti : ¬ (i : Int) < (n : Int) := by omega
   have HAE : Hid (appA k b Ls l = (0, Lc)) := by show _ = _; rw [HAP.out, List.drop_of_length_le (by have := HN.out; omega)]; rfl
   have HBE : Hid (apE m' k b a Ls l = none) := ap_put HGO.out HJ.out.symm HTT.out.symm (by rw [HAE.out]);have HSHd : Hid (SH wr.drew T13 g Lc) := HSH.out.below (below_drewN _ 1);have HS12r : Hid (SH wr T12 f Ls) := HS8.out.below (HB9.out.trans (HCr.out.to_below HB9.out.size (fun x hx => by have := HT13.out; omega)));have HCVd : Hid (∀ j, j < 6 → Cv wr.drew (f j) (pgc Ls j)) := fun j hj => (HS12r.out.cv j hj).below (below_drewN _ 1);have HSZ : Hid (w.heap.size ≤ wr.drew.heap.size) := HCw.out.size;have HSLr : Hid (sp < wr.heap.size) := by have h1 := HSPW.out; have h2 := HCw.out.size; show _ < _; omega
   have HT12r : Hid (T12 < wr.heap.size) := HS12r.out.lt;have HWR7 : Hid (S7.wr < 4611686018427387904) := by have h1 := HR7.out.wr; have h2 := HWR.out; show _ < _; omega
   obtain ⟨pb, hpb⟩ := HTr.out.book;have HM0r : Hid (wr.cell? ⟨sp, 0, none⟩ = some (.pointer (some ⟨pb, 0, none⟩))) := hpb;clear hpb hlt;go_wp2_with fail;refine wp_region_noPanic ?_;refine wp_region_held_drew (S := fun wx => wx.cell? ⟨sp, 0, none⟩ = some (.pointer (some ⟨pb, 0, none⟩)) ∧ ∀ j, j < 6 → wx.cell? ⟨T12, j, none⟩ = some (f j)) (by kernel_rfl) ?_ fun hHeld => ?_
   ·exact ⟨HM0r.out, HS12r.out.c⟩
   refine tvH 0 75 ?_ rfl ?_ hHeld ?_;rotate_left
   ·intro w hSw; obtain ⟨hSw, hSx⟩ := hSw; (have x0 := hSx 0 (by omega)); (have x1 := hSx 1 (by omega)); (have x2 := hSx 2 (by omega)); (have x3 := hSx 3 (by omega)); (have x4 := hSx 4 (by omega)); (have x5 := hSx 5 (by omega)); rw [HE.out.1] at x0; rw [HE.out.2.1] at x1; rw [HE.out.2.2.1] at x2; rw [HE.out.2.2.2.1] at x3; rw [HE.out.2.2.2.2.1] at x4; rw [HE.out.2.2.2.2.2] at x5; clear hSx; go_simp; all_goals (with_reducible rfl)
   try simp only [Act.put, zz]
   refine tvH 1 76 ?_ rfl ?_ hHeld ?_;rotate_left
   ·intro w hSw; obtain ⟨hSw, hSx⟩ := hSw; (have x0 := hSx 0 (by omega)); (have x1 := hSx 1 (by omega)); (have x2 := hSx 2 (by omega)); (have x3 := hSx 3 (by omega)); (have x4 := hSx 4 (by omega)); (have x5 := hSx 5 (by omega)); rw [HE.out.1] at x0; rw [HE.out.2.1] at x1; rw [HE.out.2.2.1] at x2; rw [HE.out.2.2.2.1] at x3; rw [HE.out.2.2.2.2.1] at x4; rw [HE.out.2.2.2.2.2] at x5; clear hSx; go_simp; all_goals (with_reducible rfl)
   try simp only [Act.put, zz]
   refine tvH 2 77 ?_ rfl ?_ hHeld ?_;rotate_left
   ·intro w hSw; obtain ⟨hSw, hSx⟩ := hSw; (have x0 := hSx 0 (by omega)); (have x1 := hSx 1 (by omega)); (have x2 := hSx 2 (by omega)); (have x3 := hSx 3 (by omega)); (have x4 := hSx 4 (by omega)); (have x5 := hSx 5 (by omega)); rw [HE.out.1] at x0; rw [HE.out.2.1] at x1; rw [HE.out.2.2.1] at x2; rw [HE.out.2.2.2.1] at x3; rw [HE.out.2.2.2.2.1] at x4; rw [HE.out.2.2.2.2.2] at x5; clear hSx; go_simp; all_goals (with_reducible rfl)
   try simp only [Act.put, zz]
   refine tvH 3 78 ?_ rfl ?_ hHeld ?_;rotate_left
   ·intro w hSw; obtain ⟨hSw, hSx⟩ := hSw; (have x0 := hSx 0 (by omega)); (have x1 := hSx 1 (by omega)); (have x2 := hSx 2 (by omega)); (have x3 := hSx 3 (by omega)); (have x4 := hSx 4 (by omega)); (have x5 := hSx 5 (by omega)); rw [HE.out.1] at x0; rw [HE.out.2.1] at x1; rw [HE.out.2.2.1] at x2; rw [HE.out.2.2.2.1] at x3; rw [HE.out.2.2.2.2.1] at x4; rw [HE.out.2.2.2.2.2] at x5; clear hSx; go_simp; all_goals (with_reducible rfl)
   try simp only [Act.put, zz]
   refine tvH 4 79 ?_ rfl ?_ hHeld ?_;rotate_left
   ·intro w hSw; obtain ⟨hSw, hSx⟩ := hSw; (have x0 := hSx 0 (by omega)); (have x1 := hSx 1 (by omega)); (have x2 := hSx 2 (by omega)); (have x3 := hSx 3 (by omega)); (have x4 := hSx 4 (by omega)); (have x5 := hSx 5 (by omega)); rw [HE.out.1] at x0; rw [HE.out.2.1] at x1; rw [HE.out.2.2.1] at x2; rw [HE.out.2.2.2.1] at x3; rw [HE.out.2.2.2.2.1] at x4; rw [HE.out.2.2.2.2.2] at x5; clear hSx; go_simp; all_goals (with_reducible rfl)
   try simp only [Act.put, zz]
   refine rdH 5 80 rfl fun K hK => ?_;go_simp;have hcw := changes_walk (w := wr.drew) (g := f) HSHd.out HPK.out.1 HCVd.out HPKc.out.2.1;rw [HE.out.1, HE.out.2.1, HE.out.2.2.1, HE.out.2.2.2.1, HE.out.2.2.2.2.1, HE.out.2.2.2.2.2] at hcw;refine hcw.mono ?_;clear hcw;rintro e9 w3 ⟨lv, rfl, hwl3, hB3⟩;have HB3 := hidH (below_trans (below_drewN wr 1) hB3);have HWL3 : Hid (WL w.heap.size w3 lv (chgL Ls Lc 6)) := hwl3.low HSZ.out;have HT3 := hidH (HTr.out.below HB3.out);have HM3 : Hid (w3.cell? ⟨sp, 0, none⟩ = some (.pointer (some ⟨pb, 0, none⟩))) := by show _ = _; rw [HB3.out.cell (p := ⟨sp, 0, none⟩) HSLr.out]; exact HM0r.out
   obtain ⟨la, ln, lc, hlv⟩ := wl_form hwl3;subst hlv;clear hwl3 hB3;refine hK.out _ _ ?_ fun hHeld => ?_
   ·exact ⟨HM3.out, fun j hj => (HB3.out.cell (p := ⟨T12, j, none⟩) HT12r.out).trans (HS12r.out.c j hj)⟩
   clear hK K;try simp only [Act.put, zz]
   refine rdH 6 81 rfl fun K hK => ?_;go_simp;obtain ⟨sp', bv', e', h1', h2', h3', h4'⟩ := HT3.out
   cases e'
   have hbv : bv' = .pointer (some ⟨pb, 0, none⟩) := by have h9 := HM3.out; rw [cell_of_row w3 sp 0 _ _ (0, 0) h1'] at h9; simpa using h9
   subst hbv;have HH1 : Hid _ := h1';have HH2 : Hid _ := h2';refine (put_walk9 h3' (HWL3.out.tx HALW.out) HWR7.out).mono ?_;rintro e9 w10 ⟨rfl, ⟨A', hbk, hA'⟩, hc10⟩;have HBK : Hid _ := hbk;have HA' := hidH hA';have HC10 : Hid (Ch A w3 w10) := hc10;have HM10 : Hid (w10.cell? ⟨sp, 0, none⟩ = some (.pointer (some ⟨pb, 0, none⟩))) := hc10.cell HM3.out HH2.out;have HS10 : Hid (∀ j, j < 6 → w10.cell? ⟨T12, j, none⟩ = some (f j)) := fun j hj => hc10.cell ((HB3.out.cell (p := ⟨T12, j, none⟩) HT12r.out).trans (HS12r.out.c j hj)) (fun e => by have h1 := HALW.out _ e; have h2 := HT12w.out; simp only at h1; omega);clear hbk hA' hc10 h1' h2' h3' h4';refine hK.out _ _ ?_ fun hHeld => ?_
   ·exact ⟨HM10.out, HS10.out⟩
   clear hK K;try simp only [Act.put, zz]
   refine tvH 7 8 ?_ rfl ?_ hHeld ?_;rotate_left
   ·intro w hSw; obtain ⟨hSw, hSx⟩ := hSw; (have x0 := hSx 0 (by omega)); (have x1 := hSx 1 (by omega)); (have x2 := hSx 2 (by omega)); (have x3 := hSx 3 (by omega)); (have x4 := hSx 4 (by omega)); (have x5 := hSx 5 (by omega)); rw [HE.out.1] at x0; rw [HE.out.2.1] at x1; rw [HE.out.2.2.1] at x2; rw [HE.out.2.2.2.1] at x3; rw [HE.out.2.2.2.2.1] at x4; rw [HE.out.2.2.2.2.2] at x5; clear hSx; go_simp; all_goals (with_reducible rfl)
   try simp only [Act.put, zz]
   refine wpAnyH_done (by kernel_rfl) ?_ _;refine NoPanic.normal ?_;go_wp2_with fail;go_ret;have HBL : apL k b Ls l = chgL Ls Lc 6 := by unfold apL; rw [HAE.out]
   refine .inr (.inr ⟨HS.out, HBE.out, S7, A', HR7.out, by rw [HBL]; rfl, ?_, fun x hx => ?_, ?_⟩)
   ·rw [HBL];have hl := (Array.getElem?_eq_some_iff.1 HH1.out).1
    exact ⟨sp, _, rfl, by rw [HC10.out.block sp hl HH2.out]; exact HH1.out, fun e => by
     rcases HA'.out sp e with q | q
     ·exact HH2.out q
     ·omega, HBK.out, by
     rw [putO_tab (B := S.bl.length) HPO.out H64.out];exact HTr.out.ok.2⟩
   ·rcases HA'.out x hx with q | q
    ·exact .inl q
    ·have h1 := HB3.out.size; have h2 := HCw.out.size; right; omega
   ·exact (HCw.out.self (Ch.of_below HB3.out)).self HC10.out
end
end
end Go.Proofs.YtcmklbibehnloaaGreat
