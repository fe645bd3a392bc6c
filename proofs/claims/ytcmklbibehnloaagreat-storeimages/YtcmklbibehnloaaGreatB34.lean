/- Whether cells may be those of a store that has a mark: right, whatever they are. -/
import Derived.Test.YtcmklbibehnloaaGreatB33
set_option maxRecDepth 100000
set_option maxHeartbeats 16000000
namespace Go.Proofs.YtcmklbibehnloaaGreat
open Go.RowKit
section
def cntS (P : Bo) (S : Dk) : Nat := P.gen + S.wr + S.rd
structure RS (A : Nat → Prop) (w : World) (sv dv : Value) (k : Int) (P : Bo) (S : Dk) (m : Mk) (Ls : List (List Cl)) : Prop where
 st : ST A w sv dv k P S
 iw : Iw P S (pagesW m Ls)
 gk : Gk k m Ls
 lf : S.left = -1
section

variable {A A' : Nat → Prop} {w w' : World} {sv dv : Value} {k : Int} {P : Bo} {S S' : Dk} {m m' : Mk} {Ls Ls' : List (List Cl)} {j : Nat} {b a : Int} {ks : List Nat}

theorem RS.rdd (h : RS A w sv dv k P S m Ls) (hs : ST A' w' sv dv k P S') (hr : Rdd j S S') : RS A' w' sv dv k P S' m Ls :=
 ⟨hs, h.iw.rdd hr, h.gk, by rw [hr.left]; exact h.lf⟩
theorem RS.below (h : RS A w sv dv k P S m Ls) (hb : Below w.heap.size w w') : RS A w' sv dv k P S m Ls := ⟨h.st.below hb, h.iw, h.gk, h.lf⟩
theorem ST.dsk (h : ST A w sv dv k P S) : ∃ D, Dsk 92 D w dv S ∧ ∀ x, D x → A x := by
 obtain ⟨sp, bv, e, h1, h2, h3, h4⟩ := h;exact Bk.dsk h3
theorem RS.mk0 (h : RS A w sv dv k P S m Ls) : decM (getL P S 0) = (m, 0) := hd_mark h.gk.gd h.iw
theorem RS.ce (h : RS A w sv dv k P S m Ls) : decP P S 6 = some Ls := hd_cells h.gk.gd h.iw
theorem RS.open (h : RS A w sv dv k P S m Ls) : shutB P S = false := h.iw.shut
theorem cnt_rdd {n : Nat} (h : Rdd n S S') : cntS P S' ≤ cntS P S + n := by unfold cntS; rw [h.wr]; have := h.rd; omega
theorem chgM_len (o : Option Mk) : (chgM Ls Ls' o).length ≤ 7 := by
 unfold chgM;have := chg_len Ls Ls' 6;rw [List.length_append]
 cases o <;> simp <;> omega
theorem put_rs {o : Option Mk} (h : Iw P S (pagesW m Ls)) (g : Gd m Ls) (g' : Gd m' Ls') (ho : o = some m' ∨ (o = none ∧ m' = m)) (hl : S.left = -1) (hg : P.gen < 1099511627776) :
  ∃ P' S', putO P S (chgM Ls Ls' o) = (0, P', S') ∧ Iw P' S' (pagesW m' Ls') ∧ S'.left = -1 ∧ P'.gen ≤ P.gen + 1 ∧ S'.wr ≤ S.wr + 8 ∧ S'.rd = S.rd ∧ S'.bl.length = S.bl.length ∧ (chgM Ls Ls' o = [] → S' = S) := by
 by_cases he : chgM Ls Ls' o = []
 ·refine ⟨P, S, ?_, ?_, hl, by omega, by omega, rfl, rfl, fun _ => rfl⟩
  ·rw [he];unfold putO;rw [if_neg (by rw [h.shut]; simp), if_neg (by simp [faultI, faultF]), if_pos rfl]
  ·have := chgM_with (m := m) g.pok.1 g' o ho;rw [he] at this;rw [← this];exact h
 ·rcases put_iw h (chgM_lok g' o) he hg with ⟨P', S', e, i, e2, e3, e4, e5, e6, e7, e8⟩ | ⟨S', e, _, _, q, _⟩
  ·rw [chgM_with g.pok.1 g' o ho] at i;refine ⟨P', S', e, i, e8 hl, by omega, ?_, e5, e7, fun e => absurd e he⟩;have h1 : cntN (chgM Ls Ls' o) ≤ (chgM Ls Ls' o).length := List.length_filter_le _ _;have h2 := chgM_len (Ls := Ls) (Ls' := Ls') o;omega
  ·exact absurd hl q
def Chg (A : Nat → Prop) (w : World) (sv dv : Value) (k : Int) (P : Bo) (S : Dk) (m' : Mk) (Ls' : List (List Cl)) (X : Dk → Prop) (e : Ending) (w' : World) : Prop :=
 e = .returned (.int .i64 0) ∧ ∃ A' P' S', RS A' w' sv dv k P' S' m' Ls' ∧ (∀ x, A' x → A x ∨ w.heap.size ≤ x) ∧ Ch A w w' ∧ cntS P' S' ≤ cntS P S + 17 ∧ S'.bl.length = S.bl.length ∧ X S'
def Not (A : Nat → Prop) (w : World) (sv dv : Value) (k : Int) (P : Bo) (S : Dk) (m : Mk) (Ls : List (List Cl)) (c : Int) (e : Ending) (w' : World) : Prop :=
 e = .returned (.int .i64 c) ∧ ∃ S', RS A w' sv dv k P S' m Ls ∧ Rdd 8 S S' ∧ Ch A w w'
theorem begin_open (h : RS A w sv dv k P S m Ls) (hN : cntS P S < 1000000000) {kv : Value} (hk : Kv w kv ks) (ko : keysOk ks) (hkA : ∀ x, kv.ownBlock = some x → ¬ A x) (hb : b = m.b ∨ b = m.b + 1) (h1 : 1 ≤ b) (hb2 : b ≤ 1099511627776) (ha : 1 ≤ a) (ha2 : a ≤ 1099511627776) (hk64 : ks.length ≤ 64) (hr : risB ks = true) (hm : m.b < b ∨ (b = m.b ∧ m.a < a)) :
  Calls Tryz.prog 30 #[sv, .int .i64 b, .int .i64 a, kv] w (Chg A w sv dv k P S ⟨b, a, ks⟩ (begS Ls m b) fun _ => True) := by
 have hrd : S.rd < 1000000000 := by unfold cntS at hN; omega
 have hwr : S.wr < 1000000000 := by unfold cntS at hN; omega
 have hgn : P.gen < 1000000000 := by unfold cntS at hN; omega
 refine (begin_walk h.st (fun _ => h.mk0) (fun _ => h.ce) (by omega) (by omega) hk ko hkA b a).mono ?_;have hE : begE m b a ks = none := beg_none h1 hb2 ha ha2 hk64 hr hm (by omega);have hs := sound_beg (ks := ks) h1 hb2 ha ha2 hk64 hr;have hg := (beg_good (a := a) (ks := ks) h.gk hb h1 hs ko).1;rintro e w1 (⟨q, _⟩ | ⟨_, c, S', q, _⟩ | ⟨_, _, S', A', hr, rfl, hst, hA', hc⟩)
 ·rw [h.open] at q; cases q
 ·rw [hE] at q; cases q
 ·rw [begL_is] at hst ⊢;obtain ⟨P', S2, e1, e2, e3, e4, e5, e6, e7, _⟩ := put_rs (o := some ⟨b, a, ks⟩) (h.iw.rdd hr) h.gk.gd hg.gd (.inl rfl) (by rw [hr.left]; exact h.lf) (by omega);rw [e1] at hst ⊢;refine ⟨rfl, A', P', S2, ⟨hst, e2, hg, e3⟩, hA', hc, ?_, by rw [e7, hr.bl], trivial⟩;have h4 := hr.wr;have h5 := hr.rd;unfold cntS;omega
theorem begin_not (h : RS A w sv dv k P S m Ls) (hN : cntS P S < 1000000000) {kv : Value} (hk : Kv w kv ks) (ko : keysOk ks) (hkA : ∀ x, kv.ownBlock = some x → ¬ A x) {c : Int} (hE : begE m b a ks = some c) :
  Calls Tryz.prog 30 #[sv, .int .i64 b, .int .i64 a, kv] w (Not A w sv dv k P S m Ls c) := by
 have hrd : S.rd < 1000000000 := by unfold cntS at hN; omega
 have hwr : S.wr < 1000000000 := by unfold cntS at hN; omega
 refine (begin_walk h.st (fun _ => h.mk0) (fun _ => h.ce) (by omega) (by omega) hk ko hkA b a).mono ?_;rintro e w1 (⟨q, _⟩ | ⟨_, c', S', q, rfl, hst, hr, hc⟩ | ⟨_, q, _⟩)
 ·rw [h.open] at q; cases q
 ·rw [hE] at q
  cases q
  exact ⟨rfl, S', h.rdd hst hr, hr, hc⟩
 ·rw [hE] at q; cases q
theorem fits_of {t : List Pr} (h : tabB t = true) (hf : ∀ p ∈ t, fitV k p.v = p.v) : fitsB k t = true := by
 unfold fitsB fitL;rw [h, Bool.and_true, List.all_eq_true];intro p hp;rw [hf p hp];exact eqV_iffS.2 rfl
theorem apply_open (h : RS A w sv dv k P S m Ls) (hN : cntS P S < 1000000000) {tv : Value} {t : List Pr} (hq : Qv w tv t) (hqA : ∀ x, tv.ownBlock = some x → ¬ A x) (h1 : 1 ≤ m.b) (ha : 1 ≤ m.a) (ht : Ta k m t) (hA : ∃ Ls', appA k m.b Ls t = (0, Ls') ∧ Gk k m Ls') :
  Calls Tryz.prog 31 #[sv, .int .i64 m.b, .int .i64 m.a, tv] w (Chg A w sv dv k P S m (appA k m.b Ls t).2 fun S' => (appA k m.b Ls t).2 = Ls → S'.bl = S.bl ∧ S'.wr = S.wr) := by
 have hrd : S.rd < 1000000000 := by unfold cntS at hN; omega
 have hwr : S.wr < 1000000000 := by unfold cntS at hN; omega
 have hgn : P.gen < 1000000000 := by unfold cntS at hN; omega
 obtain ⟨Ls', hA, hg⟩ := hA;have hp := sound_parts h.gk.gd.snd
 have hE : apE m k m.b m.a Ls t = none := by
  refine ap_put ?_ (jud_eq h1 ha) ?_ (by rw [hA])
  ·rintro (q | q)
   ·simp [cntdB] at q; omega
   ·rw [fits_of (tab_iff.2 ⟨ht.1, fun p hp => (ht.2 p hp).2.2.2.2⟩) (fun p hp => (ht.2 p hp).2.2.2.1)] at q; cases q
  ·unfold toucB;rw [List.all_eq_true];exact fun p hp => decide_eq_true (ht.2 p hp).1
 refine (apply_walkS h.st (fun _ => h.mk0) (fun _ => h.ce) (by omega) (by omega) hq hqA m.b m.a).mono ?_;rintro e w1 (⟨q, _⟩ | ⟨_, c, S', q, _⟩ | ⟨_, _, S', A', hr, rfl, hst, hA', hc⟩)
 ·rw [h.open] at q; cases q
 ·rw [hE] at q; cases q
 ·rw [apL_is] at hst ⊢;rw [hA] at hst ⊢;obtain ⟨P', S2, e1, e2, e3, e4, e5, e6, e7, e8⟩ := put_rs (o := none) (h.iw.rdd hr) h.gk.gd hg.gd (.inr ⟨rfl, rfl⟩) (by rw [hr.left]; exact h.lf) (by omega);rw [e1] at hst ⊢;refine ⟨rfl, A', P', S2, ⟨hst, e2, hg, e3⟩, hA', hc, ?_, by rw [e7, hr.bl], fun q => ?_⟩
  ·have h4 := hr.wr;have h5 := hr.rd;unfold cntS;omega
  ·have q2 : Ls' = Ls := q;subst q2;have := e8 (by unfold chgM; rw [chg_self]; rfl);rw [this];exact ⟨hr.bl, hr.wr⟩
theorem apply_not (h : RS A w sv dv k P S m Ls) (hN : cntS P S < 1000000000) {tv : Value} {t : List Pr} (hq : Qv w tv t) (hqA : ∀ x, tv.ownBlock = some x → ¬ A x) {c : Int} (hE : apE m k b a Ls t = some c) :
  Calls Tryz.prog 31 #[sv, .int .i64 b, .int .i64 a, tv] w (Not A w sv dv k P S m Ls c) := by
 have hrd : S.rd < 1000000000 := by unfold cntS at hN; omega
 have hwr : S.wr < 1000000000 := by unfold cntS at hN; omega
 refine (apply_walkS h.st (fun _ => h.mk0) (fun _ => h.ce) (by omega) (by omega) hq hqA b a).mono ?_;rintro e w1 (⟨q, _⟩ | ⟨_, c', S', q, rfl, hst, hr, hc⟩ | ⟨_, q, _⟩)
 ·rw [h.open] at q; cases q
 ·rw [hE] at q
  cases q
  exact ⟨rfl, S', h.rdd hst hr, hr, hc⟩
 ·rw [hE] at q; cases q
theorem query_rs (h : RS A w sv dv k P S m Ls) (hN : cntS P S < 1000000000) (key : Nat) (n : Int) :
  Calls Tryz.prog 27 #[sv, .int .u64 key, .int .i64 n] w fun e w' => e = .returned (.tuple #[.agg #[.bool (shRes Ls key n).h, .int .u64 (shRes Ls key n).b], .int .i64 0]) ∧ ∃ S', RS A w' sv dv k P S' m Ls ∧ Rdd 6 S S' ∧ Ch A w w' := by
 have hrd : S.rd < 1000000000 := by unfold cntS at hN; omega
 refine (query_walk h.st (fun _ => h.ce) (by omega) key n).mono ?_;rintro e w1 ⟨c, v, S', rfl, ⟨q, _⟩ | ⟨_, rfl, rfl⟩, hst, hr, hc⟩
 ·rw [h.open] at q; cases q
 ·rw [getB_ok h.open] at hst;exact ⟨rfl, S', h.rdd hst hr, hr, hc⟩
theorem mark_rs (h : RS A w sv dv k P S m Ls) (hN : cntS P S < 1000000000) :
  Calls Tryz.prog 33 #[sv] w fun e w' => ∃ v, e = .returned (.tuple #[.agg #[.int .i64 m.b, .int .i64 m.a, v], .int .i64 0]) ∧ w'.ownsRow w.heap.size 37 1 v m.k.length ((ib m.k).map (Value.int .u64)) ∧ ∃ S', RS A w' sv dv k P S' m Ls ∧ Rdd 1 S S' ∧ Ch A w w' := by
 have hrd : S.rd < 1000000000 := by unfold cntS at hN; omega
 refine (smark_walk h.st (by omega)).mono ?_;rintro e w1 ⟨c, m1, v, S', rfl, ho, hh, hst, hr, hc⟩;rw [getB_ok h.open] at hst;rcases hh with ⟨_, q, _⟩ | ⟨_, _, q, _⟩ | ⟨rfl, _, q⟩
 ·rw [h.open] at q; cases q
 ·rw [h.mk0] at q; simp at q
 ·rw [h.mk0] at q
  cases q
  exact ⟨v, rfl, ho, S', h.rdd hst hr, hr, hc⟩
end
end
theorem ins_flat {Ls : List (List Cl)} {c : Cl} (h6 : Ls.length = 6) (h : c ∈ Ls.flatten) : InS Ls c := by
 obtain ⟨l, hl, hc⟩ := List.mem_flatten.1 h;obtain ⟨i, hi, rfl⟩ := List.mem_iff_getElem.1 hl;exact ⟨i, by omega, by rw [pgc_get hi]; exact hc⟩
theorem mc_cells {w : World} {g : Nat} {d : List Cl} (h : Mc w g d) {i : Nat} (hi : i < d.length) : w.cell? ⟨g, i * 6, none⟩ = some (.int .u64 d[i].k) ∧ w.cell? ⟨g, i * 6 + 1, none⟩ = some (.bool d[i].p.h) ∧ w.cell? ⟨g, i * 6 + 2, none⟩ = some (.int .u64 d[i].p.b) ∧ w.cell? ⟨g, i * 6 + 3, none⟩ = some (.bool d[i].c.h) ∧ w.cell? ⟨g, i * 6 + 4, none⟩ = some (.int .u64 d[i].c.b) ∧ w.cell? ⟨g, i * 6 + 5, none⟩ = some (.int .i64 d[i].n) :=
 ⟨(h i 0 hi (by omega)).1, (h i 1 hi (by omega)).1, (h i 2 hi (by omega)).1, (h i 3 hi (by omega)).1, (h i 4 hi (by omega)).1, (h i 5 hi (by omega)).1⟩
theorem mc_below {w w' : World} {g : Nat} {d : List Cl} (h : Mc w g d) (hb : Below w.heap.size w w') (hg : g < w.heap.size) : Mc w' g d := fun i j hi hj => by
 rw [hb.cell (p := ⟨g, i * 6 + j, none⟩) hg, hb.frozen (p := ⟨g, i * 6 + j, none⟩) hg];exact h i j hi hj
structure RSX (A : Nat → Prop) (w : World) (sv dv : Value) (k : Int) (P : Bo) (S : Dk) (m : Mk) (Ls : List (List Cl)) : Prop where
 st : ST A w sv dv k P S
 iw : Iw P S (pagesW m Ls)
 gk : Gk k m Ls
theorem frozen_ch {D : Nat → Prop} {w w' : World} (hc : Ch D w w') {p : Addr} (hl : p.block < w.heap.size) (hd : ¬ D p.block) : w'.frozen? p = w.frozen? p := by
 have e := hc.block _ hl hd;unfold World.frozen?;rw [e]
theorem rdS_rdd (S : Dk) : ∀ j, Rdd j S (rdS S j) := by
 intro j
 induction j with
 | zero => exact Rdd.refl _
 | succ j ih =>
  refine ih.trans (j := 1) ?_;show Rdd 1 (rdS S j) (readS (rdS S j) j);unfold readS
  split
  ·exact ⟨(rdS S j).rd + 1, rfl, by omega, by omega⟩
  ·exact Rdd.refl _
def besB (mb : Int) (ks : List Nat) (c : Cl) : Bool := decide (c.n < mb) || (decide (c.n = mb) && decide (c.k ∈ ks))
def celB (k : Int) (m : Mk) (c : Cl) : Bool := fitC k c && !empC c && besB m.b m.k c
def OkS (k : Int) (m : Mk) (Ls : List (List Cl)) : Prop := (∀ c ∈ Ls.flatten, celB k m c = true) ∧ Ls.flatten.Pairwise (fun a b => a.k ≠ b.k)
def RgGot (k : Int) (m : Mk) (Ls : List (List Cl)) (w : World) (e : Ending) (w' : World) : Prop := ∃ b : Bool, e = .returned (.bool b) ∧ (b = true ↔ OkS k m Ls) ∧ Below w.heap.size w w'
def dupB (d : List Cl) (i : Nat) : Bool := decide (0 < i) && ((d.getD (i - 1) zeroC).k == (d.getD i zeroC).k)
def Pd (k : Int) (m : Mk) (d : List Cl) (i : Nat) : Prop := dupB d i = false ∧ celB k m (d.getD i zeroC) = true
theorem getD_at {d : List Cl} {i : Nat} (h : i < d.length) : d.getD i zeroC = d[i] := by simp [List.getD, h]
theorem ok_iff {k : Int} {m : Mk} {Ls : List (List Cl)} {d : List Cl} (hd : SrtOf Ls.flatten d) : (∀ i, i < d.length → Pd k m d i) ↔ OkS k m Ls := by
 constructor
 ·intro h;refine ⟨fun c hc => ?_, ?_⟩
  ·obtain ⟨i, hi, rfl⟩ := List.mem_iff_getElem.1 (hd.1.mem_iff.2 hc);have := (h i hi).2;rwa [getD_at hi] at this
  ·refine (hd.1.pairwise_iff (fun h => Ne.symm h)).1 (List.pairwise_iff_getElem.2 fun i j hi hj hij => ?_);have h1 := List.pairwise_iff_getElem.1 hd.2;obtain ⟨l, rfl⟩ : ∃ l, j = l + 1 := ⟨j - 1, by omega⟩;have h2 := (h (l + 1) hj).1;unfold dupB at h2;rw [decide_eq_true (by omega), Bool.true_and, getD_at hj, show l + 1 - 1 = l by omega, getD_at (by omega)] at h2;have h3 : d[l].k ≠ d[l + 1].k := by simpa using h2
   have h4 := h1 l (l + 1) (by omega) hj (by omega)
   have h5 : d[i].k ≤ d[l].k := by
    rcases Nat.lt_or_ge i l with q | q
    ·exact h1 i l hi (by omega) q
    ·obtain rfl : i = l := by omega
     exact Nat.le_refl _
   omega
 ·rintro ⟨h1, h2⟩ i hi;refine ⟨?_, by rw [getD_at hi]; exact h1 _ (hd.1.mem_iff.1 (List.getElem_mem hi))⟩;unfold dupB
  cases i with
  | zero => rfl
  | succ j =>
   rw [decide_eq_true (by omega), Bool.true_and, getD_at hi, show j + 1 - 1 = j by omega, getD_at (by omega)];have := List.pairwise_iff_getElem.1 ((hd.1.pairwise_iff (fun h => Ne.symm h)).2 h2) j (j + 1) (by omega) hi (by omega);simpa using this
theorem beside_any {w : World} {kv : Value} {ks : List Nat} (hk : Kv w kv ks) (mb ma : Int) (c : Cl) :
  Calls Tryz.prog 99 #[.agg #[.int .i64 mb, .int .i64 ma, kv], .agg #[.int .u64 c.k, .bool c.p.h, .int .u64 c.p.b, .bool c.c.h, .int .u64 c.c.b, .int .i64 c.n]] w fun e w' => e = .returned (.bool (besB mb ks c)) ∧ Below w.heap.size w w' := by
 obtain ⟨ka, kn, kc, rfl⟩ := sv_any hk;have HB0 : Hid (Below w.heap.size w ((w.alloc (Obj.cells #[.int .i64 mb, .int .i64 ma, .slice ka kn kc] 65)).alloc (Obj.cells #[.int .u64 c.k, .bool c.p.h, .int .u64 c.p.b, .bool c.c.h, .int .u64 c.c.b, .int .i64 c.n] 114))) := below_trans (below_alloc _ _) (below_alloc _ _);have HK : Hid (Kv ((w.alloc (Obj.cells #[.int .i64 mb, .int .i64 ma, .slice ka kn kc] 65)).alloc (Obj.cells #[.int .u64 c.k, .bool c.p.h, .int .u64 c.p.b, .bool c.c.h, .int .u64 c.c.b, .int .i64 c.n] 114)) (.slice ka kn kc) ks) := hk.below HB0.out;have HM : Hid (MB ((w.alloc (Obj.cells #[.int .i64 mb, .int .i64 ma, .slice ka kn kc] 65)).alloc (Obj.cells #[.int .u64 c.k, .bool c.p.h, .int .u64 c.p.b, .bool c.c.h, .int .u64 c.c.b, .int .i64 c.n] 114)) w.heap.size mb ma (.slice ka kn kc)) := (mb_new w mb ma (.slice ka kn kc)).keep (below_alloc _ _)
 have HC : Hid (CB ((w.alloc (Obj.cells #[.int .i64 mb, .int .i64 ma, .slice ka kn kc] 65)).alloc (Obj.cells #[.int .u64 c.k, .bool c.p.h, .int .u64 c.p.b, .bool c.c.h, .int .u64 c.c.b, .int .i64 c.n] 114)) (w.heap.size + 1) c) := by
  have h := cb_new (w.alloc (Obj.cells #[.int .i64 mb, .int .i64 ma, .slice ka kn kc] 65)) c;rwa [size_allocC] at h
 clear hk;by_cases hlt : c.n < mb
 ·rw [show besB mb ks c = true by unfold besB; rw [decide_eq_true hlt]; rfl];go_in;go_upto_region 1 with fail
  obtain ⟨R, hR⟩ : ∃ R, R = w.heap.size := ⟨_, rfl⟩;obtain ⟨T, hT⟩ : ∃ T, T = w.heap.size + 1 := ⟨_, rfl⟩;rw [← hT] at HC ⊢;rw [← hR] at HM ⊢;generalize ((w.alloc (Obj.cells #[.int .i64 mb, .int .i64 ma, .slice ka kn kc] 65)).alloc (Obj.cells #[.int .u64 c.k, .bool c.p.h, .int .u64 c.p.b, .bool c.c.h, .int .u64 c.c.b, .int .i64 c.n] 114)) = w0 at HB0 HK HM HC ⊢;clear hR hT;obtain ⟨c0, c1, c2, _⟩ := HM.out;obtain ⟨d0, d1, d2, d3, d4, d5, _⟩ := HC.out;go_wp2_with fail;go_ret;exact ⟨rfl, HB0.out⟩
 ·by_cases he : c.n = mb
  ·have heq : (c.n == mb) = true := by rw [he]; simp
   have HE : Hid (besB mb ks c = decide (c.k ∈ ks)) := by show _ = _; unfold besB; rw [decide_eq_false hlt, decide_eq_true he]; simp
   rw [HE.out];clear he
   cases hb : decide (c.k ∈ ks)
   all_goals
    go_in;go_upto_region 1 with fail
    obtain ⟨R, hR⟩ : ∃ R, R = w.heap.size := ⟨_, rfl⟩;obtain ⟨T, hT⟩ : ∃ T, T = w.heap.size + 1 := ⟨_, rfl⟩;rw [← hT] at HC ⊢;rw [← hR] at HM ⊢;generalize ((w.alloc (Obj.cells #[.int .i64 mb, .int .i64 ma, .slice ka kn kc] 65)).alloc (Obj.cells #[.int .u64 c.k, .bool c.p.h, .int .u64 c.p.b, .bool c.c.h, .int .u64 c.c.b, .int .i64 c.n] 114)) = w0 at HB0 HK HM HC ⊢;clear hR hT;obtain ⟨c0, c1, c2, _⟩ := HM.out;obtain ⟨d0, d1, d2, d3, d4, d5, _⟩ := HC.out;go_wp2_with fail;refine (has_walkM HK.out mb ma c.k).mono ?_;rw [hb];rintro e w1 ⟨rfl, hb⟩;have HB1 := hidH (below_trans HB0.out hb);clear hb;go_wp2_with fail;go_ret;exact ⟨rfl, HB1.out⟩
  ·have heq : (c.n == mb) = false := by rw [beq_eq_false_iff_ne]; exact he
   rw [show besB mb ks c = false by unfold besB; rw [decide_eq_false hlt, decide_eq_false he]; rfl];go_in;go_upto_region 1 with fail
   obtain ⟨R, hR⟩ : ∃ R, R = w.heap.size := ⟨_, rfl⟩;obtain ⟨T, hT⟩ : ∃ T, T = w.heap.size + 1 := ⟨_, rfl⟩;rw [← hT] at HC ⊢;rw [← hR] at HM ⊢;generalize ((w.alloc (Obj.cells #[.int .i64 mb, .int .i64 ma, .slice ka kn kc] 65)).alloc (Obj.cells #[.int .u64 c.k, .bool c.p.h, .int .u64 c.p.b, .bool c.c.h, .int .u64 c.c.b, .int .i64 c.n] 114)) = w0 at HB0 HK HM HC ⊢;clear hR hT;obtain ⟨c0, c1, c2, _⟩ := HM.out;obtain ⟨d0, d1, d2, d3, d4, d5, _⟩ := HC.out;go_wp2_with fail;go_ret;exact ⟨rfl, HB0.out⟩
theorem right_any {w : World} {Q : Nat} {f : Nat → Value} {Ls : List (List Cl)} {k : Int} {m : Mk} {kv : Value} (h : SH w Q f Ls) (hk : Kv w kv m.k) (hle : ∀ i, i < 6 → (pgc Ls i).length ≤ 16) (hcok : ∀ c ∈ Ls.flatten, c.okB) :
  Calls Tryz.prog 46 #[.pointer (some ⟨Q, 0, none⟩), .int .i64 k, .agg #[.int .i64 m.b, .int .i64 m.a, kv]] w (RgGot k m Ls w) := by
 obtain ⟨ka, kn, kc, rfl⟩ := sv_any hk;have HB0 : Hid (Below w.heap.size w (w.alloc (Obj.cells #[.int .i64 m.b, .int .i64 m.a, .slice ka kn kc] 65))) := below_alloc _ _;have HM0 : Hid (MB (w.alloc (Obj.cells #[.int .i64 m.b, .int .i64 m.a, .slice ka kn kc] 65)) w.heap.size m.b m.a (.slice ka kn kc)) := mb_new w m.b m.a (.slice ka kn kc);have HK0 : Hid (Kv (w.alloc (Obj.cells #[.int .i64 m.b, .int .i64 m.a, .slice ka kn kc] 65)) (.slice ka kn kc) m.k) := hk.below HB0.out;have HS0 : Hid (SH (w.alloc (Obj.cells #[.int .i64 m.b, .int .i64 m.a, .slice ka kn kc] 65)) Q f Ls) := h.below HB0.out;have HLE := hidH hle;have HCO := hidH hcok;have HL6 : Hid (Ls.length = 6) := h.len;clear h hk hle hcok;go_in;go_upto_region 1 with fail
 generalize hN : w.heap.size = N at HM0 ⊢;have HN : Hid (w.heap.size = N) := hN;clear hN;generalize (w.alloc (Obj.cells #[.int .i64 m.b, .int .i64 m.a, .slice ka kn kc] 65)) = w0 at HB0 HM0 HK0 HS0 ⊢;go_wp2_with fail;refine (sorted_walkS HS0.out HLE.out).mono ?_;rintro e w1 ⟨ao, cap, d, rfl, hdc, hcm, hsr, hmc, hnn, hB1⟩;have HX : Hid (d.length ≤ cap ∧ cap ≤ maxLen ∧ SrtOf Ls.flatten d) := ⟨hdc, hcm, hsr⟩;have HMC : Hid (d ≠ [] → ∃ g, ao = some ⟨g, 0, none⟩ ∧ g < w1.heap.size ∧ Mc w1 g d) := fun q => by obtain ⟨g, a, _, b, c⟩ := hmc q; exact ⟨g, a, b, c⟩
 have HB1 := hidH hB1;obtain ⟨n, hn⟩ : ∃ n, n = d.length := ⟨_, rfl⟩;rw [← hn];have HND : Hid (n = d.length) := hn;have hni : (n : Int) ≤ 9223372036854775807 := by simp only [maxLen] at hcm; omega
 clear hdc hcm hsr hmc hnn hB1 hn;go_wp2_with fail;go_loopw [14] (fun iv wr => ∃ i : Nat, iv = .int .i64 i ∧ i ≤ n ∧ (∀ j, j < i → Pd k m d j) ∧ Below w1.heap.size w1 wr) (fun iv _ => n - (intOf iv).toNat)
 case atStart => exact ⟨0, rfl, by omega, fun j hj => by omega, Below.refl _ _⟩
 case round =>
  obtain ⟨i, rfl, hi, hPd, hB⟩ := hrel;have HPD := hidH hPd;clear hPd;have HB := hidH hB;have HBW := hidH (below_trans HB0.out (below_trans HB1.out hB));clear hB;by_cases hlt : i < n;rotate_left
  ·have hlti : ¬ (i : Int) < (n : Int) := by omega
   have hni : i = n := by omega
   have HEND : Hid (∀ j, j < d.length → Pd k m d j) := fun j hj => HPD.out j (by have := HND.out; omega);go_wp2_with fail;go_ret;exact ⟨true, rfl, ⟨fun _ => (ok_iff HX.out.2.2).1 HEND.out, fun _ => rfl⟩, HBW.out⟩
  ·have hlti : (i : Int) < (n : Int) := by omega
   have hil : i < d.length := by have := HND.out; omega
   obtain ⟨g, rfl, hgl, hmc⟩ := HMC.out (fun e => by rw [e] at hil; simp at hil);have HGL : Hid (g < w1.heap.size) := hgl;have HMR : Hid (Mc wr g d) := mc_below hmc HB.out hgl;obtain ⟨m0, m1, m2, m3, m4, m5⟩ := mc_cells HMR.out hil;obtain ⟨c, hc⟩ : ∃ c, c = d[i] := ⟨_, rfl⟩;rw [← hc] at m0 m1 m2 m3 m4 m5;have HC : Hid (c = d[i]) := hc;have HIN : Hid (c ∈ Ls.flatten) := HX.out.2.2.1.mem_iff.1 (by rw [hc]; exact List.getElem_mem hil);have HGD : Hid (d.getD i zeroC = c) := by show _ = _; rw [hc]; simp [List.getD, hil]
   clear hc hgl hmc;go_upto_region 5 with fail
   clear m0 m1 m2 m3 m4 m5;have HCB : Hid (CB (wr.alloc (Obj.cells #[.int .u64 c.k, .bool c.p.h, .int .u64 c.p.b, .bool c.c.h, .int .u64 c.c.b, .int .i64 c.n] 114)) wr.heap.size c) := cb_new wr c;have HBC : Hid (Below wr.heap.size wr (wr.alloc (Obj.cells #[.int .u64 c.k, .bool c.p.h, .int .u64 c.p.b, .bool c.c.h, .int .u64 c.c.b, .int .i64 c.n] 114))) := below_alloc _ _;generalize hXX : wr.heap.size = X at HCB ⊢;have HXX : Hid (wr.heap.size = X) := hXX;clear hXX;generalize (wr.alloc (Obj.cells #[.int .u64 c.k, .bool c.p.h, .int .u64 c.p.b, .bool c.c.h, .int .u64 c.c.b, .int .i64 c.n] 114)) = w2 at HCB HBC ⊢;have HM2 : Hid (MB w2 N m.b m.a (.slice ka kn kc)) := HM0.out.keep (below_trans HB1.out (below_trans HB.out HBC.out));have HK2 : Hid (Kv w2 (.slice ka kn kc) m.k) := HK0.out.below (below_trans HB1.out (below_trans HB.out HBC.out));have HMD : Hid (Mc w2 g d) := mc_below HMR.out HBC.out (Nat.lt_of_lt_of_le HGL.out HB.out.size);have HB2 := hidH (below_trans HB.out HBC.out);have HOUT : Hid (¬ Pd k m d i → ¬ OkS k m Ls) := fun h h2 => h ((ok_iff HX.out.2.2).2 h2 i hil);go_cut [31] (fun v wx => v = .bool (dupB d i) ∧ Below w2.heap.size w2 wx)
   case first =>
    have d0 : ∀ wx, Below w2.heap.size w2 wx → wx.cell? ⟨X, 0, none⟩ = some (.int .u64 c.k) := fun wx h => (HCB.out.keep h).c0;by_cases hz : i = 0
    ·have hg1 : ¬ (0 : Int) < (i : Int) := by omega
     have hg2 : ¬ 0 < i := by omega
     have hg3 : decide (0 < i) = false := decide_eq_false hg2;have HDU : Hid (dupB d i = false) := by show _ = _; unfold dupB; rw [hg3]; rfl
     clear hz;refine wp_region_noPanic ?_;refine wp_region_held_drew (S := fun wx => Below w2.heap.size w2 wx) (by kernel_rfl) ?_ fun hHeld => ?_
     ·exact (Below.refl _ _).drew
     refine tkS 0 19 rfl hHeld ?_;refine tkS 1 20 rfl hHeld ?_;refine tkS 2 21 rfl hHeld ?_;refine tuH 3 22 rfl hHeld ?_;try simp only [Act.put, zz]
     refine tuH 4 23 rfl hHeld ?_;try simp only [Act.put, zz]
     refine tuH 5 24 rfl hHeld ?_;try simp only [Act.put, zz]
     refine tuH 6 25 rfl hHeld ?_;try simp only [Act.put, zz]
     refine tuH 7 26 rfl hHeld ?_;try simp only [Act.put, zz]
     refine tuH 8 27 rfl hHeld ?_;try simp only [Act.put, zz]
     refine tuH 9 28 rfl hHeld ?_;try simp only [Act.put, zz]
     refine tuH 10 29 rfl hHeld ?_;try simp only [Act.put, zz]
     refine tuH 11 30 rfl hHeld ?_;try simp only [Act.put, zz]
     refine tkS 12 31 rfl hHeld ?_;refine wpAnyH_done (by kernel_rfl) ?_ _;refine NoPanic.normal ?_;go_wp2_with fail;go_meet;exact ⟨by rw [HDU.out], hHeld⟩
    ·obtain ⟨j, hj⟩ : ∃ j, i = j + 1 := ⟨i - 1, by omega⟩;have HIJ : Hid (i = j + 1) := hj;have hg1 : (0 : Int) < (i : Int) := by omega
     have hg2 : 0 < i := by omega
     have hg3 : decide (0 < i) = true := decide_eq_true hg2;have hw : IntKind.i64.wrap ((i : Int) - 1) = (j : Int) := by rw [IntKind.wrap_i64]; omega
     have hj0 : (0 : Int) ≤ (j : Int) := by omega
     have hjn : (j : Int) < (n : Int) := by omega
     have hjn' : j < n := by omega
     have hjl : j + 1 < d.length := by have := HIJ.out; omega
     obtain ⟨q, hq⟩ : ∃ q, q = d[j].k := ⟨_, rfl⟩;have HQ0 : Hid (w2.cell? ⟨g, j * 6, none⟩ = some (.int .u64 q)) := by rw [hq]; exact (mc_cells HMD.out (show j < d.length by omega)).1
     have k0 : ∀ wx, Below w2.heap.size w2 wx → wx.cell? ⟨g, j * 6, none⟩ = some (.int .u64 q) := fun wx h => by rw [h.cell (p := ⟨g, j * 6, none⟩) (cell_lt HQ0.out)]; exact HQ0.out
     have HDU : Hid (dupB d i = (q == c.k)) := by
      show _ = _;unfold dupB;rw [hg3, HGD.out, hq, show i - 1 = j by omega];simp [List.getD, show j < d.length by omega]
     by_cases hqc : q = c.k
     ·have hnb : ((q : Int) == (c.k : Int)) = true := by rw [hqc]; simp
      have hnb' : (q == c.k) = true := by rw [hqc]; simp
      clear hz hj hq hjl hqc;refine wp_region_noPanic ?_;refine wp_region_held_drew (S := fun wx => Below w2.heap.size w2 wx) (by kernel_rfl) ?_ fun hHeld => ?_
      ·exact (Below.refl _ _).drew
      refine tkS 0 19 rfl hHeld ?_;refine tkS 1 20 rfl hHeld ?_;refine tkS 2 21 rfl hHeld ?_;refine tkS 3 22 rfl hHeld ?_;refine tkS 4 23 rfl hHeld ?_;refine tkS 5 24 rfl hHeld ?_;refine tkS 6 25 rfl hHeld ?_;refine tkS 7 26 rfl hHeld ?_;refine tkS 8 27 rfl hHeld ?_;refine tkS 9 28 rfl hHeld ?_;refine tkS 10 29 rfl hHeld ?_;refine tkS 11 30 rfl hHeld ?_;refine tkS 12 31 rfl hHeld ?_;refine wpAnyH_done (by kernel_rfl) ?_ _;refine NoPanic.normal ?_;go_wp2_with fail;go_meet;exact ⟨by rw [HDU.out, hnb'], hHeld⟩
     ·have hnb : ((q : Int) == (c.k : Int)) = false := by rw [beq_eq_false_iff_ne]; omega
      have hnb' : (q == c.k) = false := by rw [beq_eq_false_iff_ne]; exact hqc
      clear hz hj hq hjl hqc;refine wp_region_noPanic ?_;refine wp_region_held_drew (S := fun wx => Below w2.heap.size w2 wx) (by kernel_rfl) ?_ fun hHeld => ?_
      ·exact (Below.refl _ _).drew
      refine tkS 0 19 rfl hHeld ?_;refine tkS 1 20 rfl hHeld ?_;refine tkS 2 21 rfl hHeld ?_;refine tkS 3 22 rfl hHeld ?_;refine tkS 4 23 rfl hHeld ?_;refine tkS 5 24 rfl hHeld ?_;refine tkS 6 25 rfl hHeld ?_;refine tkS 7 26 rfl hHeld ?_;refine tkS 8 27 rfl hHeld ?_;refine tkS 9 28 rfl hHeld ?_;refine tkS 10 29 rfl hHeld ?_;refine tkS 11 30 rfl hHeld ?_;refine tkS 12 31 rfl hHeld ?_;refine wpAnyH_done (by kernel_rfl) ?_ _;refine NoPanic.normal ?_;go_wp2_with fail;go_meet;exact ⟨by rw [HDU.out, hnb'], hHeld⟩
   case rest =>
    rename_i wy
    obtain ⟨hdv, hb⟩ := hcut;have HBy := hidH hb;clear hb
    cases hdu : dupB d i
    rotate_left
    ·rw [hdu] at hdv;subst hdv;have HFA : Hid (¬ OkS k m Ls) := HOUT.out (fun h => by rw [h.1] at hdu; cases hdu);have HBF := hidH (below_trans HB0.out (below_trans HB1.out (below_trans HB2.out HBy.out)));go_wp2_with fail;go_ret;exact ⟨false, rfl, ⟨fun h => (by cases h), fun h => absurd h HFA.out⟩, HBF.out⟩
    rw [hdu] at hdv;subst hdv;have HDU : Hid (dupB d i = false) := hdu;clear hdu;obtain ⟨d0, d1, d2, d3, d4, d5, _⟩ := HCB.out.keep HBy.out;have HOK : Hid c.okB := HCO.out c HIN.out;have HCE : Hid (celB k m c = (fitC k c && !empC c && besB m.b m.k c)) := rfl;have HNO : Hid (celB k m c = false → ¬ OkS k m Ls) := fun h => HOUT.out (fun h2 => by have := h2.2; rw [HGD.out, h] at this; cases this)
    cases hf : fitC k c
    ·have HFA : Hid (¬ OkS k m Ls) := HNO.out (by rw [HCE.out, hf]; rfl);go_wp2_with fail;refine (cfit_walk k (c := c) ⟨HOK.out.2.1, HOK.out.2.2.1⟩ _).mono ?_;rw [hf];rintro e w3 ⟨rfl, hb⟩;have HBF := hidH (below_trans HB0.out (below_trans HB1.out (below_trans HB2.out (below_trans HBy.out hb))));clear hb d0 d1 d2 d3 d4 d5;go_wp2_with fail;go_ret;exact ⟨false, rfl, ⟨fun h => (by cases h), fun h => absurd h HFA.out⟩, HBF.out⟩
    go_wp2_with fail;refine (cfit_walk k (c := c) ⟨HOK.out.2.1, HOK.out.2.2.1⟩ _).mono ?_;rw [hf];rintro e w3 ⟨rfl, hb⟩;have HB3 := hidH (below_trans HBy.out hb);clear hb d0 d1 d2 d3 d4 d5;obtain ⟨d0, d1, d2, d3, d4, d5, _⟩ := HCB.out.keep HB3.out
    cases hm : empC c
    rotate_left
    ·have HFA : Hid (¬ OkS k m Ls) := HNO.out (by rw [HCE.out, hf, hm]; rfl);go_wp2_with fail;refine (empty_walk c _).mono ?_;rw [hm];rintro e w4 ⟨rfl, hb⟩;have HBF := hidH (below_trans HB0.out (below_trans HB1.out (below_trans HB2.out (below_trans HB3.out hb))));clear hb d0 d1 d2 d3 d4 d5;go_wp2_with fail;go_ret;exact ⟨false, rfl, ⟨fun h => (by cases h), fun h => absurd h HFA.out⟩, HBF.out⟩
    go_wp2_with fail;refine (empty_walk c _).mono ?_;rw [hm];rintro e w4 ⟨rfl, hb⟩;have HB4 := hidH (below_trans HB3.out hb);clear hb d0 d1 d2 d3 d4 d5;obtain ⟨d0, d1, d2, d3, d4, d5, _⟩ := HCB.out.keep HB4.out;obtain ⟨c0, c1, c2, _⟩ := HM2.out.keep HB4.out
    cases hbs : besB m.b m.k c
    ·have HFA : Hid (¬ OkS k m Ls) := HNO.out (by rw [HCE.out, hf, hm, hbs]; rfl);go_wp2_with fail;refine (beside_any (HK2.out.below HB4.out) m.b m.a c).mono ?_;rw [hbs];rintro e w5 ⟨rfl, hb⟩;have HBF := hidH (below_trans HB0.out (below_trans HB1.out (below_trans HB2.out (below_trans HB4.out hb))));clear hb d0 d1 d2 d3 d4 d5 c0 c1 c2;go_wp2_with fail;go_ret;exact ⟨false, rfl, ⟨fun h => (by cases h), fun h => absurd h HFA.out⟩, HBF.out⟩
    ·have HPI : Hid (∀ j, j < i + 1 → Pd k m d j) := fun j hj => by
      rcases Nat.lt_or_ge j i with h | h
      ·exact HPD.out j h
      ·obtain rfl : j = i := by omega
       exact ⟨HDU.out, by rw [HGD.out, HCE.out, hf, hm, hbs]; rfl⟩
     go_wp2_with fail;refine (beside_any (HK2.out.below HB4.out) m.b m.a c).mono ?_;rw [hbs];rintro e w5 ⟨rfl, hb⟩;have HB5 := hidH (below_trans HB2.out (below_trans HB4.out hb));clear hb d0 d1 d2 d3 d4 d5 c0 c1 c2;go_wp2_with fail;go_roundw
     case rel => exact ⟨i + 1, by go_num, hlt, HPI.out, HB5.out⟩
     case measure => simp [intOf]; omega
end Go.Proofs.YtcmklbibehnloaaGreat
