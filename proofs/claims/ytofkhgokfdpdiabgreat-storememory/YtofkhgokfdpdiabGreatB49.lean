/- awake. -/
import Derived.Test.YtofkhgokfdpdiabGreatB48
import Derived.Test.YtofkhgokfdpdiabGreatB47
import Derived.Test.YtofkhgokfdpdiabGreatB02
set_option maxRecDepth 100000
set_option maxHeartbeats 16000000
namespace Go.Proofs.YtofkhgokfdpdiabGreat
section
open Go.RowKit

structure Dn (A : Nat → Prop) (w : World) (sv dv : Value) (k : Int) (P : Bo) (S : Dk) (m : Mk) (Ls : List (List Cl)) : Prop where
 st : ST A w sv dv k (endB P) S
 dn : S.down = true
 iw : Iw P (onS S) (pagesW m Ls)
 gk : Gk k m Ls
section

variable {A A' D : Nat → Prop} {w w' : World} {sv dv : Value} {k : Int} {P P' : Bo} {S S' : Dk} {m m' : Mk} {Ls Ls' : List (List Cl)} {j : Nat} {b a : Int} {ks : List Nat}

theorem RSX.below (h : RSX A w sv dv k P S m Ls) (hb : Below w.heap.size w w') : RSX A w' sv dv k P S m Ls := ⟨h.st.below hb, h.iw, h.gk⟩
theorem Dn.below (h : Dn A w sv dv k P S m Ls) (hb : Below w.heap.size w w') : Dn A w' sv dv k P S m Ls := ⟨h.st.below hb, h.dn, h.iw, h.gk⟩
theorem RS.x (h : RS A w sv dv k P S m Ls) : RSX A w sv dv k P S m Ls := ⟨h.st, h.iw, h.gk⟩
theorem put_rsx {o : Option Mk} (h : Iw P S (pagesW m Ls)) (g : Gd m Ls) (g' : Gd m' Ls') (ho : o = some m' ∨ (o = none ∧ m' = m)) (hg : P.gen < 1099511627776) :
  (∃ P' S', putO P S (chgM Ls Ls' o) = (0, P', S') ∧ Iw P' S' (pagesW m' Ls') ∧ P'.gen ≤ P.gen + 1 ∧ S'.wr ≤ S.wr + 8 ∧ S'.rd = S.rd ∧ (S.left = -1 → S'.left = -1)) ∨
  (∃ S', putO P S (chgM Ls Ls' o) = (80, endB P, S') ∧ S'.down = true ∧ Iw P (onS S') (pagesW m Ls) ∧ S.left ≠ -1 ∧ S'.rd = S.rd ∧ S'.wr ≤ S.wr + 8) := by
 by_cases he : chgM Ls Ls' o = []
 ·left
  refine ⟨P, S, ?_, ?_, by omega, by omega, rfl, fun h => h⟩
  ·rw [he]
   unfold putO
   rw [if_neg (by rw [h.shut]; simp), if_neg (by simp [faultI, faultF]), if_pos rfl]
  ·have := chgM_with (m := m) g.pok.1 g' o ho
   rw [he] at this
   rw [← this]
   exact h
 ·rcases put_iw h (chgM_lok g' o) he hg with ⟨P', S', e, i, e2, e3, e4, e5, e6, e7, e8⟩ | ⟨S', e, e1, e2, e3, e4, e5⟩
  ·rw [chgM_with g.pok.1 g' o ho] at i
   refine .inl ⟨P', S', e, i, by omega, ?_, e5, e8⟩
   have h1 : cntN (chgM Ls Ls' o) ≤ (chgM Ls Ls' o).length := List.length_filter_le _ _
   have h2 := chgM_len (Ls := Ls) (Ls' := Ls') o
   omega
  ·exact .inr ⟨S', e, e1, e2, e3, e4, e5⟩
def CutGot (A : Nat → Prop) (w : World) (sv dv : Value) (k : Int) (P : Bo) (S : Dk) (m : Mk) (Ls : List (List Cl)) (m' : Mk) (Ls' : List (List Cl)) (e : Ending) (w' : World) : Prop :=
 ∃ A' P' S', (∀ x, A' x → A x ∨ w.heap.size ≤ x) ∧ Ch A w w' ∧ cntS P' S' ≤ cntS P S + 17 ∧
  ((e = .returned (.int .i64 0) ∧ RSX A' w' sv dv k P' S' m' Ls' ∧ (S.left = -1 → S'.left = -1)) ∨ (e = .returned (.int .i64 80) ∧ Dn A' w' sv dv k P' S' m Ls ∧ S.left ≠ -1))
theorem begin_cut (h : RSX A w sv dv k P S m Ls) (hN : cntS P S < 1000000000) {kv : Value} (hk : Kv w kv ks) (ko : keysOk ks) (hkA : ∀ x, kv.ownBlock = some x → ¬ A x) (hb : b = m.b ∨ b = m.b + 1) (h1 : 1 ≤ b) (hb2 : b ≤ 1099511627776) (ha : 1 ≤ a) (ha2 : a ≤ 1099511627776) (hk64 : ks.length ≤ 64) (hr : risB ks = true) (hm : m.b < b ∨ (b = m.b ∧ m.a < a)) :
  Calls Tryz.prog 12 #[sv, .int .i64 b, .int .i64 a, kv] w (CutGot A w sv dv k P S m Ls ⟨b, a, ks⟩ (begS Ls m b)) := by
 have hrd : S.rd < 1000000000 := by unfold cntS at hN; omega
 have hwr : S.wr < 1000000000 := by unfold cntS at hN; omega
 have hgn : P.gen < 1000000000 := by unfold cntS at hN; omega
 refine (begin_walk h.st (fun _ => hd_mark h.gk.gd h.iw) (fun _ => hd_cells h.gk.gd h.iw) (by omega) (by omega) hk ko hkA b a).mono ?_
 have hE : begE m b a ks = none := beg_none h1 hb2 ha ha2 hk64 hr hm (by omega)
 have hg := (beg_good (a := a) (ks := ks) h.gk hb h1 (sound_beg h1 hb2 ha ha2 hk64 hr) ko).1
 rintro e w1 (⟨q, _⟩ | ⟨_, c, S', q, _⟩ | ⟨_, _, S', A', hr, rfl, hst, hA', hc⟩)
 ·rw [h.iw.shut] at q; cases q
 ·rw [hE] at q; cases q
 ·rw [begL_is] at hst ⊢
  have h4 := hr.wr
  have h5 := hr.rd
  rcases put_rsx (o := some ⟨b, a, ks⟩) (h.iw.rdd hr) h.gk.gd hg.gd (.inl rfl) (by omega) with ⟨P', S2, e1, e2, e4, e5, e6, e7⟩ | ⟨S2, e1, e2, e3, e4, e5, e6⟩
  ·rw [e1] at hst ⊢
   exact ⟨A', P', S2, hA', hc, by unfold cntS; omega, .inl ⟨rfl, ⟨hst, e2, hg⟩, fun q => e7 (by rw [hr.left]; exact q)⟩⟩
  ·rw [e1] at hst ⊢
   exact ⟨A', P, S2, hA', hc, by unfold cntS; omega, .inr ⟨rfl, ⟨hst, e2, e3, h.gk⟩, by rw [← hr.left]; exact e4⟩⟩
theorem apply_cut (h : RSX A w sv dv k P S m Ls) (hN : cntS P S < 1000000000) {tv : Value} {t : List Pr} (hq : Qv w tv t) (hqA : ∀ x, tv.ownBlock = some x → ¬ A x) (h1 : 1 ≤ m.b) (ha : 1 ≤ m.a) (ht : Ta k m t) (hA : ∃ Ls', appA k m.b Ls t = (0, Ls') ∧ Gk k m Ls') :
  Calls Tryz.prog 13 #[sv, .int .i64 m.b, .int .i64 m.a, tv] w (CutGot A w sv dv k P S m Ls m (appA k m.b Ls t).2) := by
 have hrd : S.rd < 1000000000 := by unfold cntS at hN; omega
 have hwr : S.wr < 1000000000 := by unfold cntS at hN; omega
 have hgn : P.gen < 1000000000 := by unfold cntS at hN; omega
 obtain ⟨Ls', hA, hg⟩ := hA
 have hp := sound_parts h.gk.gd.snd
 have hE : apE m k m.b m.a Ls t = none := by
  refine ap_put ?_ (jud_eq h1 ha) ?_ (by rw [hA])
  ·rintro (q | q)
   ·simp [cntdB] at q; omega
   ·rw [fits_of (tab_iff.2 ⟨ht.1, fun p hp => (ht.2 p hp).2.2.2.2⟩) (fun p hp => (ht.2 p hp).2.2.2.1)] at q; cases q
  ·unfold toucB
   rw [List.all_eq_true]
   exact fun p hp => decide_eq_true (ht.2 p hp).1
 refine (apply_walkS h.st (fun _ => hd_mark h.gk.gd h.iw) (fun _ => hd_cells h.gk.gd h.iw) (by omega) (by omega) hq hqA m.b m.a).mono ?_
 rintro e w1 (⟨q, _⟩ | ⟨_, c, S', q, _⟩ | ⟨_, _, S', A', hr, rfl, hst, hA', hc⟩)
 ·rw [h.iw.shut] at q; cases q
 ·rw [hE] at q; cases q
 ·rw [apL_is] at hst ⊢
  rw [hA] at hst ⊢
  have h4 := hr.wr
  have h5 := hr.rd
  rcases put_rsx (o := none) (h.iw.rdd hr) h.gk.gd hg.gd (.inr ⟨rfl, rfl⟩) (by omega) with ⟨P', S2, e1, e2, e4, e5, e6, e7⟩ | ⟨S2, e1, e2, e3, e4, e5, e6⟩
  ·rw [e1] at hst ⊢
   exact ⟨A', P', S2, hA', hc, by unfold cntS; omega, .inl ⟨rfl, ⟨hst, e2, hg⟩, fun q => e7 (by rw [hr.left]; exact q)⟩⟩
  ·rw [e1] at hst ⊢
   exact ⟨A', P, S2, hA', hc, by unfold cntS; omega, .inr ⟨rfl, ⟨hst, e2, e3, h.gk⟩, by rw [← hr.left]; exact e4⟩⟩
theorem smark_dn (h : Dn A w sv dv k P S m Ls) (hN : S.rd < 4000000000) :
  Calls Tryz.prog 9 #[sv] w fun e w' => ∃ v, e = .returned (.tuple #[.agg #[.int .i64 0, .int .i64 0, v], .int .i64 80]) ∧ (∃ x y z, v = .slice x y z) ∧ ∃ S', Dn A w' sv dv k P S' m Ls ∧ Rdd 1 S S' ∧ Ch A w w' := by
 have hs : shutB (endB P) S = true := by unfold shutB; rw [h.dn]; simp
 refine (smark_walk h.st (by omega)).mono ?_
 rintro e w1 ⟨c, m1, v, S', rfl, ho, hh, hst, hr, hc⟩
 rcases hh with ⟨rfl, _, rfl⟩ | ⟨_, q, _⟩ | ⟨_, q, _⟩
 ·have e1 : getB (endB P) S = endB P := by unfold getB; rw [if_pos hs]; rfl
  rw [e1] at hst
  refine ⟨v, rfl, ?_, S', ⟨hst, by rw [hr.dn]; exact h.dn, h.iw.turn rfl (by show S'.bl.length = S.bl.length; rw [hr.bl]) (fun x _ => by show bk S'.bl x = bk S.bl x; rw [hr.bl]), h.gk⟩, hr, hc⟩
  obtain ⟨x, z, e⟩ := own_form8 ho
  exact ⟨x, _, z, e⟩
 ·rw [hs] at q; cases q
 ·rw [hs] at q; cases q
theorem srt_eq (h6 : Ls.length = 6) (h : Lk Ls) {d e : List Cl} (hd : SrtOf Ls.flatten d) (he : SrtOf Ls.flatten e) : d = e := by
 have hp : d.Perm e := hd.1.trans he.1.symm
 have nd := (hd.1.pairwise_iff (fun h => Ne.symm h)).2 (flat_ne h6 h)
 have ne := (he.1.pairwise_iff (fun h => Ne.symm h)).2 (flat_ne h6 h)
 have sd : d.Pairwise (fun a b => a.k < b.k) := (hd.2.and nd).imp (fun h => by omega)
 have se : e.Pairwise (fun a b => a.k < b.k) := (he.2.and ne).imp (fun h => by omega)
 clear hd he nd ne
 induction d generalizing e with
 | nil => exact (List.nil_perm.1 hp).symm
 | cons x r ih =>
  cases e with
  | nil => exact absurd hp (by simp)
  | cons y s =>
   obtain ⟨x1, x2⟩ := List.pairwise_cons.1 sd
   obtain ⟨y1, y2⟩ := List.pairwise_cons.1 se
   have hxy : x = y := by
    have hx : x ∈ y :: s := hp.mem_iff.1 (by simp)
    have hy : y ∈ x :: r := hp.mem_iff.2 (by simp)
    rcases List.mem_cons.1 hx with q | q
    ·exact q
    ·rcases List.mem_cons.1 hy with p | p
     ·exact p.symm
     ·have h1 := y1 x q; have h2 := x1 y p; omega
   subst hxy
   rw [ih (List.Perm.cons_inv hp) x2 y2]
def Cw (w : World) (v : Value) (d : List Cl) : Prop := ∃ ao cap, v = .slice ao d.length cap ∧ d.length ≤ cap ∧ cap ≤ maxLen ∧ (d ≠ [] → ∃ g, ao = some ⟨g, 0, none⟩ ∧ g < w.heap.size ∧ Mc w g d)
theorem cw_ch {v : Value} {d : List Cl} (h : Cw w v d) (hc : Ch D w w') (hd : d ≠ [] → ∀ x, v.ownBlock = some x → ¬ D x) : Cw w' v d := by
 obtain ⟨ao, cap, rfl, h1, h2, h3⟩ := h
 refine ⟨ao, cap, rfl, h1, h2, fun q => ?_⟩
 obtain ⟨g, rfl, hg, hm⟩ := h3 q
 have hn : ¬ D g := hd q g rfl
 refine ⟨g, rfl, Nat.lt_of_lt_of_le hg hc.size, fun i j hi hj => ?_⟩
 have e := hc.block g hg hn
 have := hm i j hi hj
 unfold World.cell? World.frozen? at this ⊢
 simp only [e]
 exact this
theorem cw_below {v : Value} {d : List Cl} (h : Cw w v d) (hb : Below w.heap.size w w') : Cw w' v d := cw_ch (D := fun _ => False) h (Ch.of_below hb) (fun _ _ _ e => e)
theorem scells_rsx (h : RSX A w sv dv k P S m Ls) (hN : S.rd < 4000000000) :
  Calls Tryz.prog 10 #[sv] w fun e w' => ∃ v d, e = .returned (.tuple #[v, .int .i64 0]) ∧ SrtOf Ls.flatten d ∧ Cw w' v d ∧ (d ≠ [] → ∀ x, v.ownBlock = some x → w.heap.size ≤ x ∧ x < w'.heap.size) ∧ ∃ S', ST A w' sv dv k P S' ∧ Rdd 6 S S' ∧ Ch A w w' := by
 refine (scells_walk h.st (fun _ => hd_cells h.gk.gd h.iw) h.gk.gd.pok.2.2 (by omega)).mono ?_
 rintro e w1 ⟨S', hst, hr, hc, ⟨q, _⟩ | ⟨_, ao, cap, d, rfl, h1, h2, h3, h4, _⟩⟩
 ·rw [h.iw.shut] at q; cases q
 ·rw [getB_ok h.iw.shut] at hst
  refine ⟨_, d, rfl, h3, ⟨ao, cap, rfl, h1, h2, fun q => ?_⟩, fun q x hx => ?_, S', hst, hr, hc⟩
  ·obtain ⟨g, e, _, g2, g3⟩ := h4 q
   exact ⟨g, e, g2, g3⟩
  ·obtain ⟨g, e, g1, g2, _⟩ := h4 q
   subst e
   simp [Value.ownBlock] at hx
   subst hx
   exact ⟨g1, g2⟩
end
end
section
open Go.RowKit

def RoR (k : Int) (jobs : List Jb) (w : World) (sp sb : Nat) (i : Nat) (wr : World) : Prop :=
 ∃ A P S m Ls, RW A wr (.pointer (some ⟨sp, 0, none⟩)) (.pointer (some ⟨sb, 0, none⟩)) k P S m Ls (rowB (jobs.take i) : Nat) i (rowF k (jobs.take i)) ∧ (∀ x, A x → w.heap.size ≤ x) ∧ w.heap.size ≤ sp ∧ cntS P S ≤ 12 + 34 * i ∧ S.bl.length = 16 ∧ Below w.heap.size w wr
def RoGot (k : Int) (js : List Jb) (w : World) (e : Ending) (w' : World) : Prop :=
 ∃ sp sb, e = .returned (.tuple #[.pointer (some ⟨sb, 0, none⟩), .pointer (some ⟨sp, 0, none⟩), .int .i64 (rowB js : Nat)]) ∧ RoR k js w sp sb js.length w'
theorem ror_start {k : Int} {w w1 : World} {A : Nat → Prop} {P : Bo} {S : Dk} {sp sb : Nat} (jobs : List Jb) (hr : RS A w1 (.pointer (some ⟨sp, 0, none⟩)) (.pointer (some ⟨sb, 0, none⟩)) k P S zeroM noS) (hA : ∀ x, A x → w.heap.size ≤ x) (hsp : w.heap.size ≤ sp) (hc : cntS P S ≤ 12) (hb : S.bl.length = 16) (hB : Below w.heap.size w w1) : RoR k jobs w sp sb 0 w1 :=
 ⟨A, P, S, zeroM, noS, ⟨hr, fun c hc => absurd hc (in_no c), fun x => hr.gk.lk.res0 (fun c hc => absurd hc (in_no c)) _, .inr rfl, Int.le_refl _, by simp [rowB], by simp [rowB]⟩, hA, hsp, by omega, hb, hB⟩
theorem ror_take {k : Int} {jobs : List Jb} {w wr : World} {sp sb i : Nat} (h : RoR k jobs w sp sb i wr) (hi : i ≤ jobs.length) : RoR k (jobs.take i) w sp sb (jobs.take i).length wr := by
 unfold RoR at h ⊢
 rw [List.length_take, Nat.min_eq_left hi, List.take_take, Nat.min_self]
 exact h
theorem rowed_walk {k : Int} (hk : knownB k = true) {w : World} {jv : Value} {jobs : List Jb} (hj : Jv w jv jobs) :
  Calls Tryz.prog 7 #[.int .i64 k, jv] w (RoGot k (jobs.take 60) w) := by
 have HK : Hid (knownB k = true) := hk
 obtain ⟨jo, jc, rfl, j1, j2, j3⟩ := hj
 obtain ⟨n, hn⟩ : ∃ n, n = jobs.length := ⟨_, rfl⟩
 rw [← hn] at j1 ⊢
 have HN : Hid (n = jobs.length) := hn
 have hni : (n : Int) ≤ 9223372036854775807 := by simp only [maxLen] at j2; omega
 have HJ : Hid (Jl w jo jobs) := j3
 clear hk hn j1 j2 j3
 go_in
 go_wp2_with fail
 refine (fresh_walk HK.out w).mono ?_
 rintro e w1 ⟨A, P, S, sp, sb, rfl, hrs, hA, hsp, hcn, hbl, hB⟩
 have HS : Hid (RoR k jobs w sp sb 0 w1) := ror_start jobs hrs hA hsp hcn hbl hB
 clear hrs hA hsp hcn hbl hB
 go_wp2_with fail
 go_loopw [9, 10] (fun bv iv wr => ∃ i : Nat, iv = .int .i64 i ∧ bv = .int .i64 (rowB (jobs.take i) : Nat) ∧ i ≤ 60 ∧ i ≤ n ∧ RoR k jobs w sp sb i wr) (fun _ iv _ => 60 - (intOf iv).toNat)
 case atStart => exact ⟨0, rfl, rfl, by omega, by omega, HS.out⟩
 case round =>
  obtain ⟨i, rfl, rfl, hi60, hin, hro⟩ := hrel
  have HRO := hidH hro
  obtain ⟨B, hBt⟩ : ∃ B, B = rowB (jobs.take i) := ⟨_, rfl⟩
  rw [← hBt]
  have HBT : Hid (B = rowB (jobs.take i)) := hBt
  have hBle : (B : Int) ≤ 61 := by have := rowB_le (jobs.take i); rw [List.length_take] at this; omega
  clear hro hBt
  by_cases hlt : i < n
  rotate_left
  ·have hlti : ¬ (i : Int) < (n : Int) := by omega
   have HE : Hid (jobs.take 60 = jobs.take i) := by show _ = _; rw [List.take_of_length_le (by rw [← HN.out]; omega), List.take_of_length_le (by rw [← HN.out]; omega)]
   go_wp2_with fail
   refine bodyPost_ret (v := .tuple #[.pointer (some ⟨sb, 0, none⟩), .pointer (some ⟨sp, 0, none⟩), .int .i64 (B : Nat)]) (by simp [results, Tryz.results7, go_sem]) rfl ?_
   rw [HE.out]
   refine ⟨sp, sb, ?_, ror_take HRO.out (by rw [← HN.out]; exact hin)⟩
   rw [← HBT.out]
  by_cases h60 : i < 60
  rotate_left
  ·have hlti : (i : Int) < (n : Int) := by omega
   have h60i : ¬ (i : Int) < 60 := by omega
   have HE : Hid (i = 60) := by show _ = _; omega
   go_wp2_with fail
   refine bodyPost_ret (v := .tuple #[.pointer (some ⟨sb, 0, none⟩), .pointer (some ⟨sp, 0, none⟩), .int .i64 (B : Nat)]) (by simp [results, Tryz.results7, go_sem]) rfl ?_
   rw [← HE.out]
   refine ⟨sp, sb, ?_, ror_take HRO.out (by rw [← HN.out]; exact hin)⟩
   rw [← HBT.out]
  have hlti : (i : Int) < (n : Int) := by omega
  have h60i : (i : Int) < 60 := by omega
  have hlt' : i < jobs.length := by rw [← HN.out]; exact hlt
  obtain ⟨A, P, S, m, Ls, hrw, hA, hsp, hcn, hbl, hB⟩ := HRO.out
  have HRW : Hid (RW A wr (.pointer (some ⟨sp, 0, none⟩)) (.pointer (some ⟨sb, 0, none⟩)) k P S m Ls (B : Nat) i (rowF k (jobs.take i))) := by rw [HBT.out]; exact hrw
  have HA := hidH hA
  have HSP : Hid (w.heap.size ≤ sp) := hsp
  have HC := hidH hcn
  have HL : Hid (S.bl.length = 16) := hbl
  have HB := hidH hB
  obtain ⟨b, off, rv, mv, rfl, c0, c1, c2, c3, hrv, hmv⟩ := HJ.out.below HB.out i hlt'
  obtain ⟨j, hjj⟩ : ∃ j, j = jobs[i] := ⟨_, rfl⟩
  rw [← hjj] at c2 c3 hrv hmv
  have HJJ : Hid (j = jobs[i]) := hjj
  have HRV : Hid (Rv wr rv j.r) := hrv
  have HMV : Hid (Kv wr mv j.m) := hmv
  obtain ⟨ra, rn, rc, rfl⟩ : ∃ x y z, rv = .slice x y z := by obtain ⟨⟨x, z, e, _⟩, _⟩ := hrv; exact ⟨x, _, z, e⟩
  obtain ⟨ma, mn, mc, rfl⟩ := sv_any hmv
  obtain ⟨jf, hjf⟩ : ∃ f, f = j.f := ⟨_, rfl⟩
  obtain ⟨js, hjs⟩ : ∃ s, s = j.s := ⟨_, rfl⟩
  rw [← hjf] at c2
  rw [← hjs] at c3
  have HJF : Hid (jf = j.f) := hjf
  have HJS : Hid (js = j.s) := hjs
  clear hrw hA hsp hcn hbl hB hrv hmv hjj hjf hjs HRO
  go_wp2_with fail
  refine (part_walk HK.out HRV.out HMV.out jf js).mono ?_
  rintro e w2 ⟨tv, kv, rfl, hqv, hqb, hkv, hb2⟩
  have HTA : Hid (Ta k ⟨(B : Nat), (i : Int) + 1, ptK k j.r j.m⟩ (ptT k j.r)) := pt_ta HK.out HRV.out.2 _ _ _
  have HKV : Hid (Kv w2 kv (ptK k j.r j.m)) := own_sv hkv
  have HRW2 := hidH (HRW.out.below hb2)
  have HAL : Hid (∀ x, A x → x < wr.heap.size) := fun x hx => HRW.out.rs.st.lt hx
  have HKA : Hid (∀ x, kv.ownBlock = some x → ¬ A x) := fun x hx hA => by have h1 := (hkv.lt x hx).1; have h2 := HAL.out x hA; omega
  have HQ := hidH hqv
  have HQB : Hid (∀ x, tv.ownBlock = some x → wr.heap.size ≤ x ∧ x < w2.heap.size) := hqb
  have HB2 := hidH hb2
  have HWB2 := hidH (below_trans HB.out hb2)
  obtain ⟨ta, tn, tc, rfl⟩ : ∃ x y z, tv = .slice x y z := by obtain ⟨⟨x, z, e, _⟩, _⟩ := hqv; exact ⟨x, _, z, e⟩
  obtain ⟨ka, kn, kc, rfl⟩ := sv_any HKV.out
  have c2' : w2.cell? ⟨b, off + i * 4 + 2, none⟩ = some (.bool jf) := by rw [hb2.cell (p := ⟨b, off + i * 4 + 2, none⟩) (cell_lt c2)]; exact c2
  have c3' : w2.cell? ⟨b, off + i * 4 + 3, none⟩ = some (.bool js) := by rw [hb2.cell (p := ⟨b, off + i * 4 + 3, none⟩) (cell_lt c3)]; exact c3
  have HBW : Hid (b < w.heap.size) := by obtain ⟨b', off', _, _, e, d0, _⟩ := HJ.out i hlt'; cases e; exact cell_lt d0
  clear hqv hqb hkv hb2 c0 c1 c2 c3
  go_wp2_with fail
  refine (begin_row HRW2.out (by have := HC.out; omega) (by omega) HKV.out (ptK_ok _ _ _) HKA.out (a := (i : Int) + 1) (by omega) (by omega) (ptK_len _ _ _) (ptK_ris _ _ _)).mono ?_
  rintro e w3 ⟨rfl, A3, P3, S3, L3, hrs3, low3, val3, hA3, hc3, hcn3, hbl3⟩
  have HRS3 := hidH hrs3
  have HLO3 : Hid (Low L3) := low3
  have HVA3 : Hid (∀ x n, (B : Int) - 1 ≤ n → shRes L3 x n = rowF k (jobs.take i) x) := val3
  have HA3 : Hid (∀ x, A3 x → w.heap.size ≤ x) := fun x hx => by
   rcases hA3 x hx with q | q
   ·exact HA.out x q
   ·have := HWB2.out.size; omega
  have HQA : Hid (∀ x, (Value.slice ta tn tc).ownBlock = some x → ¬ A3 x) := fun x hx hA => by
   have h1 := HQB.out x hx
   rcases hA3 x hA with q | q
   ·have := HAL.out x q; omega
   ·omega
  have HC3 : Hid (cntS P3 S3 ≤ 12 + 34 * i + 17 ∧ S3.bl.length = 16) := by have := HC.out; have := HL.out; exact ⟨by omega, by omega⟩
  have HWB3 : Hid (Below w.heap.size w w3) := HWB2.out.trans (hc3.to_below HWB2.out.size HA.out)
  have HQ3 : Hid (Qv w3 (.slice ta tn tc) (ptT k j.r)) := qv_ch HQ.out hc3 (fun _ x hx hA => by have h1 := HQB.out x hx; have := HAL.out x hA; omega)
  have d2 : w3.cell? ⟨b, off + i * 4 + 2, none⟩ = some (.bool jf) := hc3.cell c2' (fun e => by have h1 := HA.out b e; have h2 := HBW.out; omega)
  have d3 : w3.cell? ⟨b, off + i * 4 + 3, none⟩ = some (.bool js) := hc3.cell c3' (fun e => by have h1 := HA.out b e; have h2 := HBW.out; omega)
  clear hrs3 low3 val3 hA3 hc3 hcn3 hbl3 c2' c3' HQ HQB HRW2 HRW HWB2 HB2 HA HAL HKA HC HL
  go_upto_if 52 with fail
  go_cut [58] (fun _ wx => ∃ A4 P4 S4 L4, RS A4 wx (.pointer (some ⟨sp, 0, none⟩)) (.pointer (some ⟨sb, 0, none⟩)) k P4 S4 ⟨(B : Nat), (i : Int) + 1, ptK k j.r j.m⟩ L4 ∧ Low L4 ∧ (∀ x, shRes L4 x ((B : Int) - 1) = rowF k (jobs.take i) x) ∧ (∀ x, shRes L4 x (B : Int) = (if js = true then rowF k (jobs.take i) else addF k (rowF k (jobs.take i)) (ptT k j.r)) x) ∧ (∀ x, A4 x → w.heap.size ≤ x) ∧ cntS P4 S4 ≤ 12 + 34 * i + 34 ∧ S4.bl.length = 16 ∧ Below w.heap.size w wx ∧ wx.cell? ⟨b, off + i * 4 + 2, none⟩ = some (.bool jf))
  case first =>
   cases js
   ·go_wp2_with fail
    refine (apply_row HRS3.out HLO3.out HVA3.out (by have := HC3.out.1; omega) HQ3.out HQA.out (by show (1 : Int) ≤ (B : Nat); have := HBT.out; unfold rowB at this; omega) (by show (1 : Int) ≤ (i : Int) + 1; omega) HTA.out).mono ?_
    rintro e w4 ⟨rfl, A4, P4, S4, L4, q1, q2, q3, q4, _, q5, q6, q7, q8⟩
    have HR : Hid _ := q1
    have d4 : w4.cell? ⟨b, off + i * 4 + 2, none⟩ = some (.bool jf) := q6.cell d2 (fun e => by have h1 := HA3.out b e; have h2 := HBW.out; omega)
    go_wp2_with fail
    go_meet
    refine ⟨A4, P4, S4, L4, q1, q2, q3, q4, fun x hx => ?_, by have := HC3.out.1; omega, by have := HC3.out.2; omega, HWB3.out.trans (q6.to_below HWB3.out.size HA3.out), d4⟩
    rcases q5 x hx with z | z
    ·exact HA3.out x z
    ·have := HWB3.out.size; omega
   ·go_wp2_with fail
    go_meet
    exact ⟨A3, P3, S3, L3, HRS3.out, HLO3.out, fun x => HVA3.out x _ (Int.le_refl _), fun x => HVA3.out x _ (by omega), HA3.out, by have := HC3.out.1; omega, HC3.out.2, HWB3.out, d2⟩
  case rest =>
   obtain ⟨A4, P4, S4, L4, q1, q2, q3, q4, q5, q6, q7, q8, d4⟩ := hcut
   have HT : Hid (jobs.take (i + 1) = jobs.take i ++ [j]) := by rw [HJJ.out]; exact List.take_succ_eq_append_getElem hlt'
   have HR : Hid (∀ b2 : Int, (b2 = (B : Nat) ∧ jf = true) ∨ (b2 = (B : Int) + 1 ∧ jf = false) → ∃ Bn : Nat, b2 = Bn ∧ Bn = rowB (jobs.take (i + 1)) ∧ RoR k jobs w sp sb (i + 1) wc) := by
    show ∀ b2 : Int, (b2 = (B : Nat) ∧ jf = true) ∨ (b2 = (B : Int) + 1 ∧ jf = false) → ∃ Bn : Nat, b2 = Bn ∧ Bn = rowB (jobs.take (i + 1)) ∧ RoR k jobs w sp sb (i + 1) wc
    intro b2 hb2
    have e1 : rowB (jobs.take (i + 1)) = B + (if jf = true then 0 else 1) := by rw [HT.out, rowB_snoc, ← HBT.out, ← HJF.out]
    have e2 : rowF k (jobs.take (i + 1)) = jobF k (rowF k (jobs.take i)) j := by rw [HT.out, rowF_snoc]
    refine ⟨rowB (jobs.take (i + 1)), ?_, rfl, A4, P4, S4, _, L4, ⟨q1, q2, fun x => ?_, ?_, ?_, ?_, ?_⟩, q5, HSP.out, by omega, q7, q8⟩
    ·rw [e1]; rcases hb2 with ⟨h1, h2⟩ | ⟨h1, h2⟩ <;> rw [h1, h2] <;> simp
    ·rw [e1, e2]
     unfold jobF
     rw [← HJF.out, ← HJS.out]
     rcases hb2 with ⟨_, h2⟩ | ⟨_, h2⟩
     ·rw [h2, if_pos rfl, if_pos rfl]; exact q3 x
     ·rw [h2, if_neg (by simp), if_neg (by simp)]
      have := q4 x
      rw [show ((B + 1 : Nat) : Int) - 1 = (B : Int) by omega]
      exact this
    ·show ((B : Nat) : Int) = _ ∨ ((B : Nat) : Int) = _
     rw [e1]
     rcases hb2 with ⟨_, h2⟩ | ⟨_, h2⟩
     ·left; rw [h2]; simp
     ·right; rw [h2]; simp
    ·show (i : Int) + 1 ≤ ((i + 1 : Nat) : Int); omega
    ·rw [e1]; have := HBT.out; unfold rowB at this; omega
    ·have := rowB_le (jobs.take (i + 1)); rw [List.length_take] at this; omega
   clear q1 q2 q3 q4 q5 q6 q7 q8
   cases jf
   ·obtain ⟨Bn, h1, h2, h3⟩ := HR.out ((B : Int) + 1) (.inr ⟨rfl, rfl⟩)
    have H1 : Hid ((B : Int) + 1 = (Bn : Nat)) := h1
    have H2 : Hid (Bn = rowB (jobs.take (i + 1))) := h2
    have H3 := hidH h3
    clear h1 h2 h3
    go_wp2_with fail
    go_roundw
    case rel => exact ⟨i + 1, by simp, by rw [H1.out, H2.out], by omega, by omega, H3.out⟩
    case measure => simp [intOf]; omega
   ·obtain ⟨Bn, h1, h2, h3⟩ := HR.out (B : Int) (.inl ⟨rfl, rfl⟩)
    have H1 : Hid ((B : Int) = (Bn : Nat)) := h1
    have H2 : Hid (Bn = rowB (jobs.take (i + 1))) := h2
    have H3 := hidH h3
    clear h1 h2 h3
    go_wp2_with fail
    go_roundw
    case rel => exact ⟨i + 1, by simp, by rw [H1.out, H2.out], by omega, by omega, H3.out⟩
    case measure => simp [intOf]; omega
end
section
open Go.RowKit

theorem some_walkS (b : Nat) (w : World) : Calls Tryz.prog 23 #[.int .u64 b] w fun e w' => e = .returned (.agg #[.bool true, .int .u64 b]) ∧ Below w.heap.size w w' := by
 go_in
 go_wp2_with fail
 refine bodyPost_ret (v := .agg #[.bool true, .int .u64 b]) (by simp [results, Tryz.results23, go_sem]) rfl ⟨rfl, below_alloc _ _⟩
theorem pair_walkS (k b : Nat) (w : World) : Calls Tryz.prog 20 #[.int .u64 k, .int .u64 b] w fun e w' => e = .returned (.agg #[.int .u64 k, .bool true, .int .u64 b]) ∧ Below w.heap.size w w' := by
 go_in
 go_wp2_with fail
 have c0 : (w.alloc (Obj.cells #[.int .u64 0, .bool false, .int .u64 0] 60)).cell? ⟨w.heap.size, 0, none⟩ = some (.int .u64 0) := by simp [go_sem]
 have c1 : (w.alloc (Obj.cells #[.int .u64 0, .bool false, .int .u64 0] 60)).cell? ⟨w.heap.size, 1, none⟩ = some (.bool false) := by simp [go_sem]
 have c2 : (w.alloc (Obj.cells #[.int .u64 0, .bool false, .int .u64 0] 60)).cell? ⟨w.heap.size, 2, none⟩ = some (.int .u64 0) := by simp [go_sem]
 have z0 : ∀ j, (w.alloc (Obj.cells #[.int .u64 0, .bool false, .int .u64 0] 60)).frozen? ⟨w.heap.size, j, none⟩ = false := by intro j; simp [go_sem]
 have HB0 : Hid (Below w.heap.size w (w.alloc (Obj.cells #[.int .u64 0, .bool false, .int .u64 0] 60))) := below_alloc _ _
 generalize w.alloc (Obj.cells #[.int .u64 0, .bool false, .int .u64 0] 60) = w0 at HB0 c0 c1 c2 z0 ⊢
 refine (some_walkS b w0).mono ?_
 rintro e w1 ⟨rfl, hB1⟩
 have d0 : w1.cell? ⟨w.heap.size, 0, none⟩ = some (.int .u64 0) := by rw [hB1.cell (p := ⟨w.heap.size, 0, none⟩) (cell_lt c0)]; exact c0
 have d1 : w1.cell? ⟨w.heap.size, 1, none⟩ = some (.bool false) := by rw [hB1.cell (p := ⟨w.heap.size, 1, none⟩) (cell_lt c1)]; exact c1
 have d2 : w1.cell? ⟨w.heap.size, 2, none⟩ = some (.int .u64 0) := by rw [hB1.cell (p := ⟨w.heap.size, 2, none⟩) (cell_lt c2)]; exact c2
 have y0 : w1.frozen? ⟨w.heap.size, 0, none⟩ = false := by rw [hB1.frozen (p := ⟨w.heap.size, 0, none⟩) (cell_lt c0)]; exact z0 0
 have y1 : w1.frozen? ⟨w.heap.size, 1, none⟩ = false := by rw [hB1.frozen (p := ⟨w.heap.size, 1, none⟩) (cell_lt c1)]; exact z0 1
 have y2 : w1.frozen? ⟨w.heap.size, 2, none⟩ = false := by rw [hB1.frozen (p := ⟨w.heap.size, 2, none⟩) (cell_lt c2)]; exact z0 2
 have HB1 := hidH (below_trans HB0.out hB1)
 clear hB1 c0 c1 c2 z0
 obtain ⟨R, hR⟩ : ∃ R, R = w.heap.size := ⟨_, rfl⟩
 have HR : Hid (R = w.heap.size) := hR
 rw [← hR] at d0 d1 d2 y0 y1 y2 ⊢
 clear hR
 go_wp2_with fail
 refine bodyPost_ret (v := .agg #[.int .u64 k, .bool true, .int .u64 b]) (by simp [results, Tryz.results20, go_sem, d0, d1, d2]) rfl ⟨rfl, ?_⟩
 rw [← HR.out]
 have h := HB1.out
 rw [← HR.out] at h
 exact ((h.setCell (Nat.le_refl _) _).setCell (Nat.le_refl _) _).setCell (Nat.le_refl _) _
theorem marks_same {w : World} {av bv : Value} {ks : List Nat} (ha : Kv w av ks) (hb : Kv w bv ks) (b a : Int) :
  Calls Tryz.prog 18 #[.agg #[.int .i64 b, .int .i64 a, av], .agg #[.int .i64 b, .int .i64 a, bv]] w fun e w' => e = .returned (.bool true) ∧ Below w.heap.size w w' := by
 obtain ⟨aa, ac, rfl, al, am⟩ := kv_form ha
 obtain ⟨ba, bc, rfl, bl, bm⟩ := kv_form hb
 obtain ⟨n, hn⟩ : ∃ n, n = ks.length := ⟨_, rfl⟩
 rw [← hn] at ha hb al ⊢
 have HN : Hid (n = ks.length) := hn
 have hni : (n : Int) ≤ 9223372036854775807 := by simp only [maxLen] at am; omega
 have HB0 : Hid (Below w.heap.size w ((w.alloc (Obj.cells #[.int .i64 b, .int .i64 a, .slice aa n ac] 42)).alloc (Obj.cells #[.int .i64 b, .int .i64 a, .slice ba n bc] 42))) := below_trans (below_alloc _ _) (below_alloc _ _)
 have HA : Hid (Kv ((w.alloc (Obj.cells #[.int .i64 b, .int .i64 a, .slice aa n ac] 42)).alloc (Obj.cells #[.int .i64 b, .int .i64 a, .slice ba n bc] 42)) (.slice aa n ac) ks) := ha.below HB0.out
 have HB : Hid (Kv ((w.alloc (Obj.cells #[.int .i64 b, .int .i64 a, .slice aa n ac] 42)).alloc (Obj.cells #[.int .i64 b, .int .i64 a, .slice ba n bc] 42)) (.slice ba n bc) ks) := hb.below HB0.out
 have HM1 : Hid (MB ((w.alloc (Obj.cells #[.int .i64 b, .int .i64 a, .slice aa n ac] 42)).alloc (Obj.cells #[.int .i64 b, .int .i64 a, .slice ba n bc] 42)) w.heap.size b a (.slice aa n ac)) := (mb_new w b a (.slice aa n ac)).keep (below_alloc _ _)
 have HM2 : Hid (MB ((w.alloc (Obj.cells #[.int .i64 b, .int .i64 a, .slice aa n ac] 42)).alloc (Obj.cells #[.int .i64 b, .int .i64 a, .slice ba n bc] 42)) (w.heap.size + 1) b a (.slice ba n bc)) := by
  have h := mb_new (w.alloc (Obj.cells #[.int .i64 b, .int .i64 a, .slice aa n ac] 42)) b a (.slice ba n bc)
  rwa [size_allocC] at h
 clear ha hb hn al am bl bm
 go_in
 go_upto_region 1 with fail
 obtain ⟨R, hR⟩ : ∃ R, R = w.heap.size := ⟨_, rfl⟩
 obtain ⟨T, hT⟩ : ∃ T, T = w.heap.size + 1 := ⟨_, rfl⟩
 rw [← hT] at HM2 ⊢
 rw [← hR] at HM1 ⊢
 generalize (w.alloc (Obj.cells #[.int .i64 b, .int .i64 a, .slice aa n ac] 42)).alloc (Obj.cells #[.int .i64 b, .int .i64 a, .slice ba n bc] 42) = w0 at HB0 HA HB HM1 HM2 ⊢
 clear hR hT
 obtain ⟨c0, c1, c2, _⟩ := HM1.out
 obtain ⟨d0, d1, d2, _⟩ := HM2.out
 have hbb : (b != b) = false := by simp
 have haa : (a != a) = false := by simp
 go_wp2_with fail
 go_loopw [5] (fun iv wr => ∃ i : Nat, iv = .int .i64 i ∧ i ≤ n ∧ Below w0.heap.size w0 wr) (fun iv _ => n - (intOf iv).toNat)
 case atStart => exact ⟨0, rfl, by omega, Below.refl _ _⟩
 case round =>
  obtain ⟨i, rfl, hin, hB⟩ := hrel
  have HW := hidH hB
  have k2 : wr.cell? ⟨R, 2, none⟩ = some (.slice aa n ac) := by rw [hB.cell (p := ⟨R, 2, none⟩) (cell_lt c2)]; exact c2
  have l2 : wr.cell? ⟨T, 2, none⟩ = some (.slice ba n bc) := by rw [hB.cell (p := ⟨T, 2, none⟩) (cell_lt d2)]; exact d2
  clear hB c0 c1 c2 d0 d1 d2
  by_cases hlt : i < n
  ·have hlti : (i : Int) < (n : Int) := by omega
   have hlk : i < ks.length := by rw [← HN.out]; exact hlt
   obtain ⟨p, po, hp, m0⟩ := kv_get (HA.out.below HW.out) hlk
   obtain ⟨q, qo, hq, m1⟩ := kv_get (HB.out.below HW.out) hlk
   subst hp hq
   obtain ⟨x, hx⟩ : ∃ x, x = ks[i] := ⟨_, rfl⟩
   rw [← hx] at m0 m1
   have hne : ((x : Int) != (x : Int)) = false := by simp
   clear hx
   go_wp2_with fail
   go_quiet (fail)
   go_wp2_with fail
   go_roundw
   case rel => exact ⟨i + 1, by go_num, by omega, below_trans HW.out (below_drewN _ _)⟩
   case measure => simp [intOf]; omega
  ·have hlti : ¬ (i : Int) < (n : Int) := by omega
   go_wp2_with fail
   go_ret
   exact ⟨rfl, below_trans HB0.out HW.out⟩
end
section
open Go.RowKit

theorem kv_2 (w : World) (x y : Nat) : Kv (w.alloc (Obj.cells #[.int .u64 (x : Int), .int .u64 (y : Int)] 33)) (.slice (some ⟨w.heap.size, 0, none⟩) 2 2) [x, y] := by
 refine ⟨_, 2, rfl, Nat.le_refl _, by simp [maxLen], by simp, fun i hi => ?_⟩
 have h : i = 0 ∨ i = 1 := by simp [ib] at hi; omega
 rcases h with rfl | rfl <;> exact ⟨w.heap.size, 0, rfl, by simp [go_sem, ib]⟩
theorem kv_1 (w : World) (x : Nat) : Kv (w.alloc (Obj.cells #[.int .u64 (x : Int)] 33)) (.slice (some ⟨w.heap.size, 0, none⟩) 1 1) [x] := by
 refine ⟨_, 1, rfl, Nat.le_refl _, by simp [maxLen], by simp, fun i hi => ?_⟩
 have h : i = 0 := by simp [ib] at hi; omega
 subst h
 exact ⟨w.heap.size, 0, rfl, by simp [go_sem, ib]⟩
theorem qv_1 (w : World) (p : Pr) (hp : p.ok) : Qv (w.alloc (Obj.cells #[.int .u64 p.k, .bool p.v.h, .int .u64 p.v.b] 60)) (.slice (some ⟨w.heap.size, 0, none⟩) 1 1) [p] := by
 refine ⟨⟨_, 1, rfl, Nat.le_refl _, by simp [maxLen], by simp, fun i hi => ?_⟩, fun o ho => by simp at ho; subst ho; exact hp⟩
 have h : i = 0 := by simp at hi; omega
 subst h
 exact ⟨w.heap.size, 0, rfl, by simp [go_sem], by simp [go_sem], by simp [go_sem]⟩
theorem qv_0 (w : World) : Qv w (.slice none 0 0) [] := ⟨⟨none, 0, rfl, Nat.le_refl _, by simp [maxLen], fun _ => rfl, fun i hi => by simp at hi⟩, by simp⟩
def awT : List Pr := [⟨2, ⟨true, 3⟩⟩]
def awL : List (List Cl) := [[⟨2, noV, ⟨true, 3⟩, 1⟩], [], [], [], [], []]
theorem aw_beg : begS noS zeroM 1 = noS := rfl
theorem aw_app : appA 1 1 noS awT = (0, awL) := by rfl
theorem aw_revS : begS awL ⟨1, 4, [2, 9]⟩ 1 = noS := by rfl
theorem aw_q1 : shRes awL 2 1 = ⟨true, 3⟩ := by rfl
theorem aw_q0 : shRes awL 2 0 = ⟨false, 0⟩ := by rfl
theorem aw_q2 : shRes noS 2 1 = ⟨false, 0⟩ := by rfl
theorem aw_ta : Ta 1 ⟨1, 4, [2, 9]⟩ awT := by
 refine ⟨by simp [awT, Rise], fun p hp => ?_⟩
 simp [awT] at hp
 subst hp
 exact ⟨by simp, by decide, by show (3 : Nat) < _; decide, rfl, rfl⟩
theorem aw_fen : apE ⟨1, 4, [2, 9]⟩ 1 1 3 awL [] = some 130 := by rfl
theorem low_no : Low noS := fun c hc => absurd hc (in_no c)
theorem used_no {P : Bo} {S : Dk} {m : Mk} (hm : soundBM m = true) (h : Iw P S (pagesW m noS)) : usedN P.tab = 1 := by
 have h0 : tn P.tab 0 ≠ 0 := by
  rcases h.pg 0 (by omega) with ⟨_, b⟩ | ⟨a, _⟩
  ·rw [bk_zero] at b; exact absurd b (encM_ne hm)
  ·exact a
 have hz : ∀ i, i < 6 → tn P.tab (i + 1) = 0 := fun i hi => by
  rcases h.pg (i + 1) (by omega) with ⟨a, _⟩ | ⟨_, _, c⟩
  ·exact a
  ·rw [bk_succ, pgc_no] at c; exact absurd rfl c
 have hl := h.n8
 have e : ∀ k, k ≤ 6 → usedN (P.tab.take (k + 1)) = 1 := by
  intro k
  induction k with
  | zero =>
   intro _
   rw [used_take (by omega), if_neg h0]
   rfl
  | succ k ih =>
   intro hk
   rw [used_take (by omega), ih (by omega), if_pos (hz k (by omega))]
 have := e 6 (Nat.le_refl _)
 rwa [List.take_of_length_le (by omega)] at this
theorem flat_no {d : List Cl} (h : SrtOf noS.flatten d) : d = [] := by
 have : noS.flatten = [] := rfl
 rw [this] at h
 exact List.Perm.eq_nil h.1
structure AwS (w0 : World) (A : Nat → Prop) (P : Bo) (S : Dk) (sp sb T5 T7 T11 T13 : Nat) (kv : Value) (w : World) : Prop where
 bb : Below w0.heap.size w0 w
 rs : RS A w (.pointer (some ⟨sp, 0, none⟩)) (.pointer (some ⟨sb, 0, none⟩)) 1 P S ⟨1, 6, [9]⟩ noS
 a5 : w.cell? ⟨T5, 0, none⟩ = some (.bool true)
 b5 : w.cell? ⟨T5, 1, none⟩ = some (.int .u64 3)
 a7 : w.cell? ⟨T7, 0, none⟩ = some (.bool false)
 b7 : w.cell? ⟨T7, 1, none⟩ = some (.int .u64 0)
 a11 : w.cell? ⟨T11, 0, none⟩ = some (.bool false)
 b11 : w.cell? ⟨T11, 1, none⟩ = some (.int .u64 0)
 m0 : w.cell? ⟨T13, 0, none⟩ = some (.int .i64 1)
 m1 : w.cell? ⟨T13, 1, none⟩ = some (.int .i64 6)
 m2 : w.cell? ⟨T13, 2, none⟩ = some kv
 kvs : Kv w kv [9]
theorem AwS.below {A : Nat → Prop} {P : Bo} {S : Dk} {sp sb T5 T7 T11 T13 : Nat} {kv : Value} {w0 w w' : World} (h : AwS w0 A P S sp sb T5 T7 T11 T13 kv w) (hb : Below w.heap.size w w') : AwS w0 A P S sp sb T5 T7 T11 T13 kv w' :=
 ⟨below_trans h.bb hb, h.rs.below hb, by rw [hb.cell (p := ⟨T5, 0, none⟩) (cell_lt h.a5)]; exact h.a5, by rw [hb.cell (p := ⟨T5, 1, none⟩) (cell_lt h.b5)]; exact h.b5, by rw [hb.cell (p := ⟨T7, 0, none⟩) (cell_lt h.a7)]; exact h.a7, by rw [hb.cell (p := ⟨T7, 1, none⟩) (cell_lt h.b7)]; exact h.b7, by rw [hb.cell (p := ⟨T11, 0, none⟩) (cell_lt h.a11)]; exact h.a11, by rw [hb.cell (p := ⟨T11, 1, none⟩) (cell_lt h.b11)]; exact h.b11, by rw [hb.cell (p := ⟨T13, 0, none⟩) (cell_lt h.m0)]; exact h.m0, by rw [hb.cell (p := ⟨T13, 1, none⟩) (cell_lt h.m1)]; exact h.m1, by rw [hb.cell (p := ⟨T13, 2, none⟩) (cell_lt h.m2)]; exact h.m2, h.kvs.below hb⟩
section

variable {w0 w : World} {A : Nat → Prop} {P : Bo} {S : Dk} {sp sb T5 T7 T11 T13 : Nat} {kv : Value}

theorem aw_held (h : AwS w0 A P S sp sb T5 T7 T11 T13 kv w) : w.cell? ⟨T5, 0, none⟩ = some (.bool true) ∧ w.cell? ⟨T5, 1, none⟩ = some (.int .u64 3) ∧ w.cell? ⟨T7, 0, none⟩ = some (.bool false) ∧ w.cell? ⟨T7, 1, none⟩ = some (.int .u64 0) ∧ w.cell? ⟨T11, 0, none⟩ = some (.bool false) ∧ w.cell? ⟨T11, 1, none⟩ = some (.int .u64 0) ∧ w.cell? ⟨T13, 0, none⟩ = some (.int .i64 1) ∧ w.cell? ⟨T13, 1, none⟩ = some (.int .i64 6) ∧ w.cell? ⟨T13, 2, none⟩ = some kv ∧ Hid (AwS w0 A P S sp sb T5 T7 T11 T13 kv w) :=
 ⟨h.a5, h.b5, h.a7, h.b7, h.a11, h.b11, h.m0, h.m1, h.m2, h⟩
theorem aw_used (h : AwS w0 A P S sp sb T5 T7 T11 T13 kv w) : Calls Tryz.prog 24 #[.pointer (some ⟨sp, 0, none⟩)] w fun e w' => e = .returned (.int .i64 1) ∧ w' = w := by
 have hu := used_no (m := ⟨1, 6, [9]⟩) rfl h.rs.iw
 have c := sused_walk h.rs.st
 rw [hu] at c
 exact c
theorem aw_ended (h : AwS w0 A P S sp sb T5 T7 T11 T13 kv w) : Calls Tryz.prog 15 #[.pointer (some ⟨sp, 0, none⟩)] w fun e w' => e = .returned (.bool false) ∧ w' = w := by
 have c := sended_walk h.rs.st
 rw [h.rs.iw.ov] at c
 exact c
end
end
end Go.Proofs.YtofkhgokfdpdiabGreat
