/- The reference's store: Used, Ended, numbers, mark. -/
import Derived.Test.YtcmklbibehnloaaGreatB37
set_option maxRecDepth 100000
set_option maxHeartbeats 16000000
namespace Go.Proofs.YtcmklbibehnloaaGreat
open Go.RowKit
theorem bv_belowBM {w w' : World} {v : Value} {l : List Nat} {B : Nat} (h : Bv w v l) (hm : ∀ x, v.ownBlock = some x → l ≠ [] → x < B) (hb : Below B w w') : Bv w' v l := by
 obtain ⟨⟨ao, cap, e, h1, h2, h3, h4⟩, h5⟩ := h;refine ⟨⟨ao, cap, e, h1, h2, h3, fun i hi => ?_⟩, h5⟩;obtain ⟨b, off, e1, e2⟩ := h4 i hi;have hne : l ≠ [] := by rintro rfl; simp [ib] at hi
 exact ⟨b, off, e1, by rw [hb.cell (p := ⟨b, off + i, none⟩) (hm b (by rw [e, e1]; rfl) hne)]; exact e2⟩
theorem cntL_err0 {l : List Nat} {e : Nat} (h : Wm.take l = (0, 0, e)) (he : e ≠ 0) : cntL l = (e, 0, []) := by simp [cntL, h, he]
theorem cntL_far {l : List Nat} {x n : Nat} (h : Wm.take l = (x, n, 0)) (hx : 1099511627776 < x) : cntL l = (4, 0, []) := by simp [cntL, h, hx]
theorem cntL_ok {l : List Nat} {x n : Nat} (h : Wm.take l = (x, n, 0)) (hx : ¬ 1099511627776 < x) : cntL l = (0, x, l.drop n) := by simp [cntL, h, hx]
def CntGot (r : Nat × Nat × List Nat) (v : Value) (w : World) (e : Ending) (w' : World) : Prop :=
 ∃ u, e = .returned (.tuple #[.int .i64 (r.2.1 : Nat), u, .int .i64 (r.1 : Nat)]) ∧ Bv w' u r.2.2 ∧ Sb u v ∧ Below w.heap.size w w'
theorem rcount_bad {w : World} {v : Value} {l : List Nat} {e : Nat} (h : Bv w v l) (ht : Wm.take l = (0, 0, e)) (he : e ≠ 0) : Calls Tryz.prog 173 #[v] w (CntGot (cntL l) v w) := by
 have HV : Hid (Bv w v l) := h;have HQ : Hid (cntL l = (e, 0, [])) := cntL_err0 ht he;have HT : Hid _ := t3_litB ht;have hei : ((e : Int) != 0) = true := by rw [bne_iff_ne]; omega
 clear h ht he;go_in;go_wp2_with fail;refine (rtake_walk HV.out).mono ?_;rw [HT.out];rintro e9 w2 ⟨rfl, hw2⟩;replace hw2 := hw2.symm;subst hw2;go_wp2_with fail;go_ret3;exact ⟨_, by rw [HQ.out]; rfl, by rw [HQ.out]; exact Bv.nil _, sb_nil _, Below.refl _ _⟩
theorem rcount_far {w : World} {v : Value} {l : List Nat} {x n : Nat} (h : Bv w v l) (ht : Wm.take l = (x, n, 0)) (hx : 1099511627776 < x) : Calls Tryz.prog 173 #[v] w (CntGot (cntL l) v w) := by
 have HV : Hid (Bv w v l) := h;have HQ : Hid (cntL l = (4, 0, [])) := cntL_far ht hx;have HT : Hid _ := t3_litB ht;have hxi : decide ((1099511627776 : Int) < (x : Int)) = true := decide_eq_true (by omega);clear h ht hx;go_in;go_wp2_with fail;refine (rtake_walk HV.out).mono ?_;rw [HT.out];rintro e9 w2 ⟨rfl, hw2⟩;replace hw2 := hw2.symm;subst hw2;go_wp2_with fail;go_ret3;exact ⟨_, by rw [HQ.out]; rfl, by rw [HQ.out]; exact Bv.nil _, sb_nil _, Below.refl _ _⟩
theorem rcount_ok {w : World} {l : List Nat} {x n b off cap : Nat} (h : Bv w (.slice (some ⟨b, off, none⟩) l.length cap) l) (ht : Wm.take l = (x, n, 0)) (hx : ¬ 1099511627776 < x) (hn : n ≤ l.length) : Calls Tryz.prog 173 #[.slice (some ⟨b, off, none⟩) l.length cap] w (CntGot (cntL l) (.slice (some ⟨b, off, none⟩) l.length cap) w) := by
 have HV := hidH h;have HQ : Hid (cntL l = (0, x, l.drop n)) := cntL_ok ht hx;have HT : Hid _ := t3_litB ht;have hxi : decide ((1099511627776 : Int) < (x : Int)) = false := decide_eq_false (by omega);have hwx : IntKind.i64.wrap (x : Int) = (x : Int) := by rw [IntKind.wrap_i64]; omega
 obtain ⟨_, hlc, hmx⟩ := bv_le h;unfold maxLen at hmx;have hci : (cap : Int) ≤ 9223372036854775807 := by omega
 have hli : (l.length : Int) ≤ (cap : Int) := by omega
 have hnl : (n : Int) ≤ (l.length : Int) := by omega
 have hnc : (n : Int) ≤ (cap : Int) := by omega
 have HN : Hid (n ≤ l.length) := hn;obtain ⟨k1, k2⟩ := bv_cut h n hn;clear h ht hx hmx hlc hn;by_cases hc : cap = n
 ·have K : Hid (Bv w (.slice (some ⟨b, off, none⟩) (l.length - n) 0) (l.drop n)) := k1 hc;clear k1 k2;subst hc;go_in;go_wp2_with fail;refine (rtake_walk HV.out).mono ?_;rw [HT.out];rintro e9 w2 ⟨rfl, hw2⟩;replace hw2 := hw2.symm;subst hw2;go_wp2_with fail;go_quiet (fail);go_wp2_with fail;go_ret3;exact ⟨_, by rw [HQ.out]; rfl, by rw [HQ.out]; exact K.out.below (below_drewN _ _), sb_cut0, below_drewN _ _⟩
 ·have K : Hid (Bv w (.slice (some ⟨b, off + n, none⟩) (l.length - n) (cap - n)) (l.drop n)) := by show Bv _ _ _; simpa [WideShapes.add_plain] using k2 hc
  have hcn : ¬ (cap : Int) = (n : Int) := by omega
  clear k1 k2;go_in;go_wp2_with fail;refine (rtake_walk HV.out).mono ?_;rw [HT.out];rintro e9 w2 ⟨rfl, hw2⟩;replace hw2 := hw2.symm;subst hw2;go_wp2_with fail;go_quiet (fail);go_wp2_with fail;go_ret3;exact ⟨.slice (some ⟨b, off + n, none⟩) (l.length - n) (cap - n), by rw [HQ.out]; rfl, by rw [HQ.out]; exact K.out.below (below_drewN _ _), fun y hy => by simpa [Value.ownBlock] using hy, below_drewN _ _⟩
theorem rcount_walk {w : World} {v : Value} {l : List Nat} (h : Bv w v l) : Calls Tryz.prog 173 #[v] w (CntGot (cntL l) v w) := by
 rcases Wm.take_form l h.2 with ⟨e, ht, h34⟩ | ⟨x, n, ht, hx, hn1, hn2, hn3⟩
 ·exact rcount_bad h ht (by omega)
 ·by_cases hx : 1099511627776 < x
  ·exact rcount_far h ht hx
  ·rcases bv_cases h with ⟨rfl, _⟩ | ⟨b, off, cap, rfl, _⟩
   ·simp at hn2; omega
   ·exact rcount_ok h ht hx hn2
structure DR (N : Nat) (w0 w : World) (v : Value) (l : List Nat) : Prop where
 n : N = w0.heap.size
 z : MB w N 0 0 (.slice none 0 0)
 bv : Bv w v l
 m : ∀ x, v.ownBlock = some x → l ≠ [] → x < N
 below : Below N w0 w
theorem DR.turn {N : Nat} {w0 w w' : World} {v u : Value} {l r : List Nat} (h : DR N w0 w v l) (hb : Bv w' u r) (hs : Sb u v) (hr : r ≠ [] → l ≠ []) (hB : Below w.heap.size w w') : DR N w0 w' u r :=
 ⟨h.n, h.z.keep hB, hb, fun x hx hne => h.m x (hs x hx) (hr hne), h.below.trans (hB.mono (Nat.le_of_lt (cell_lt h.z.c0)))⟩
theorem DR.grow {N : Nat} {w0 w w' : World} {v : Value} {l : List Nat} (h : DR N w0 w v l) (hB : Below (N + 1) w w') : DR N w0 w' v l :=
 ⟨h.n, h.z.belowB hB (by omega), bv_belowBM h.bv (fun x hx hne => by have := h.m x hx hne; omega) hB, h.m, h.below.trans (hB.mono (by omega))⟩
theorem below_set3n {w : World} {N : Nat} (x y z : Value) (h : N < w.heap.size) : Below N w (((w.setCell ⟨N, 0, none⟩ x).setCell ⟨N, 1, none⟩ y).setCell ⟨N, 2, none⟩ z) := by
 have k1 := ch_set w N 0 x;have k2 := ch_set (w.setCell ⟨N, 0, none⟩ x) N 1 y;have k3 := ch_set ((w.setCell ⟨N, 0, none⟩ x).setCell ⟨N, 1, none⟩ y) N 2 z;exact (((k1.self k2).self k3).to_below (Nat.le_of_lt h) (fun x hx => by omega))
theorem DR.bad {N : Nat} {w0 w : World} {v : Value} {l L : List Nat} {e : Nat} {x : Int} (h : DR N w0 w v l) (hd : (decM L).2 = e) (he : e ≠ 0) (hx : x = e) :
  DGot L w0 (.returned (.tuple #[.agg #[.int .i64 0, .int .i64 0, .slice none 0 0], .int .i64 x])) (((w.setCell ⟨N, 0, none⟩ (.int .i64 0)).setCell ⟨N, 1, none⟩ (.int .i64 0)).setCell ⟨N, 2, none⟩ (.slice none 0 0)) :=
 dgot_bad hd he hx (by rw [← h.n]; exact h.below.trans (below_set3n _ _ _ (cell_lt h.z.c0)))
theorem cnt_ne {l : List Nat} (h : (cntL l).2.2 ≠ []) : l ≠ [] := by
 rintro rfl;apply h;unfold cntL
 split
 ·rfl
 ·split
  ·rfl
  ·simp
def RKc (x : Nat) (l0 : List Nat) (N : Nat) (w : World) (bv kv iv : Value) (wr : World) : Prop :=
 ∃ (i : Nat) (acc l : List Nat), iv = .int .i64 i ∧ i ≤ x ∧ KAt (keyS x l0) x i acc l 0 ∧ DR N w wr bv l ∧ wr.ownsRow (N + 1) 37 1 kv acc.length ((ib acc).map (Value.int .u64))
theorem kat_acc {D : Nat × List Nat × List Nat} {n i : Nat} {acc l : List Nat} (h : KAt D n i acc l 0) : acc.length = i := by
 rcases h with ⟨_, h, _⟩ | ⟨h, _⟩
 ·exact h
 ·exact absurd rfl h
theorem kat_fault {D : Nat × List Nat × List Nat} {n i e : Nat} {acc l : List Nat} (h : KAt D n i acc l 0) (hi : i < n) (ht : Wm.take l = (0, 0, e)) (he : e ≠ 0) : D.1 = e := by
 have := kat_step h hi;rw [numF_eq, ht] at this;rcases this with ⟨q, _⟩ | ⟨_, q⟩
 ·exact absurd q he
 ·exact q
theorem kat_good {D : Nat × List Nat × List Nat} {n i y k : Nat} {acc l : List Nat} (h : KAt D n i acc l 0) (hi : i < n) (ht : Wm.take l = (y, k, 0)) : KAt D n (i + 1) (acc ++ [y]) (l.drop k) 0 := by
 have := kat_step h hi;rw [numF_eq] at this;unfold numL at this;rw [ht] at this;exact this
theorem kat_end {D : Nat × List Nat × List Nat} {n : Nat} {acc l : List Nat} (h : KAt D n n acc l 0) : D = (0, acc, l) := by
 rcases h with ⟨_, _, h2, h3⟩ | ⟨h, _⟩
 ·rw [Nat.sub_self] at h2 h3;simp only [keyS] at h2 h3;obtain ⟨a, b⟩ := h3 h2;obtain ⟨d1, d2, d3⟩ := D
  simp_all
 ·exact absurd rfl h
theorem decM_a {l l1 : List Nat} {e x : Nat} (h : cntL l = (e, x, l1)) (he : e ≠ 0) : (decM l).2 = e := by simp [decM, h, he]
theorem decM_b {l l1 : List Nat} {x : Nat} (h : cntL l = (0, x, l1)) : decM l = decA x l1 := by simp [decM, h]
theorem decA_a {l l1 : List Nat} {b e x : Nat} (h : cntL l = (e, x, l1)) (he : e ≠ 0) : (decA b l).2 = e := by simp [decA, h, he]
theorem decA_b {l l1 : List Nat} {b x : Nat} (h : cntL l = (0, x, l1)) : decA b l = decK b x l1 := by simp [decA, h]
theorem decK_a {l : List Nat} {b a e : Nat} (h : Wm.take l = (0, 0, e)) (he : e ≠ 0) : (decK b a l).2 = e := by simp [decK, h, he]
theorem decK_b {l : List Nat} {b a x n : Nat} (h : Wm.take l = (x, n, 0)) (hx : 64 < x) : (decK b a l).2 = 6 := by simp [decK, h, hx]
theorem decK_c {l : List Nat} {b a x n : Nat} (h : Wm.take l = (x, n, 0)) (hx : ¬ 64 < x) : decK b a l = decE b a (keyS x (l.drop n)) := by simp [decK, h, hx]
theorem decE_a {b a e : Nat} {r : Nat × List Nat × List Nat} (h : r.1 = e) (he : e ≠ 0) : (decE b a r).2 = e := by simp [decE, h, he]
theorem decE_b {b a : Nat} {ks l : List Nat} (h : l.length ≠ 0) : (decE b a (0, ks, l)).2 = 5 := by simp only [decE]; rw [if_neg (by simp), if_pos h]
theorem decE_c {b a : Nat} {ks l : List Nat} (h : l.length = 0) (hs : soundBM ⟨b, a, ks⟩ = false) : (decE b a (0, ks, l)).2 = 1 := by simp only [decE]; rw [if_neg (by simp), if_neg (by omega), if_pos hs]
theorem decE_d {b a : Nat} {ks l : List Nat} (h : l.length = 0) (hs : soundBM ⟨b, a, ks⟩ = true) : decE b a (0, ks, l) = (⟨b, a, ks⟩, 0) := by simp only [decE]; rw [if_neg (by simp), if_neg (by omega), if_neg (by simp [hs])]
theorem rmdec_walk {w : World} {v : Value} {l : List Nat} (hv : Bv w v l) :
  Calls Tryz.prog 112 #[v] w (DGot l w) := by
 obtain ⟨N, hN⟩ : ∃ N, N = w.heap.size := ⟨_, rfl⟩
 have H0 : Hid (DR N w (w.alloc (Obj.cells #[.int .i64 0, .int .i64 0, .slice none 0 0] 65)) v l) :=
  ⟨hN, by rw [hN]; exact mb_new w 0 0 (.slice none 0 0), hv.below (below_alloc _ _), fun x hx hne => by rw [hN]; exact bv_block hv x hx hne, by rw [hN]; exact below_alloc _ _⟩
 have HND : Hid (N = w.heap.size) := hN;clear hv;go_in;go_upto_region 1 with fail
 rw [← hN];clear hN;generalize w.alloc (Obj.cells #[.int .i64 0, .int .i64 0, .slice none 0 0] 65) = w0 at H0 ⊢;obtain ⟨e1, xb, l1, hc1⟩ : ∃ e x r, cntL l = (e, x, r) := ⟨_, _, _, rfl⟩;have HC1 : Hid (cntL l = (e1, xb, l1)) := hc1;clear hc1;go_wp2_with fail;refine (rcount_walk H0.out.bv).mono ?_;rw [HC1.out];rintro e9 w1 ⟨u1, rfl, hb1, hs1, hB1⟩;have H1 : Hid (DR N w w1 u1 l1) := H0.out.turn hb1 hs1 (fun h => cnt_ne (by rw [HC1.out]; exact h)) hB1;clear hb1 hs1 hB1 H0;have z0 := H1.out.z.c0;have z1 := H1.out.z.c1;have z2 := H1.out.z.c2;have y0 := H1.out.z.z 0;have y1 := H1.out.z.z 1;have y2 := H1.out.z.z 2;by_cases he1 : e1 = 0;rotate_left
 ·have HQ : Hid _ := decM_a HC1.out he1;have HNE : Hid (e1 ≠ 0) := he1;have hei : ((e1 : Int) != 0) = true := by rw [bne_iff_ne]; omega
  clear he1;go_wp2_with fail
  (try simp only [Exit.inBlock, Exit.then])
  refine bodyPost_ret (v := .tuple #[.agg #[.int .i64 0, .int .i64 0, .slice none 0 0], .int .i64 (e1 : Nat)]) (by rw [results_cell_tmp rfl]; go_simp) rfl ?_;exact H1.out.bad HQ.out HNE.out rfl
 subst he1;have HD1 : Hid _ := decM_b HC1.out;clear HC1;obtain ⟨e2, xa, l2, hc2⟩ : ∃ e x r, cntL l1 = (e, x, r) := ⟨_, _, _, rfl⟩;have HC2 : Hid (cntL l1 = (e2, xa, l2)) := hc2;clear hc2;go_wp2_with fail;refine (rcount_walk H1.out.bv).mono ?_;rw [HC2.out];rintro e9 w2 ⟨u2, rfl, hb2, hs2, hB2⟩;have H2 : Hid (DR N w w2 u2 l2) := H1.out.turn hb2 hs2 (fun h => cnt_ne (by rw [HC2.out]; exact h)) hB2;clear hb2 hs2 hB2 H1 z0 z1 z2 y0 y1 y2;have z0 := H2.out.z.c0;have z1 := H2.out.z.c1;have z2 := H2.out.z.c2;have y0 := H2.out.z.z 0;have y1 := H2.out.z.z 1;have y2 := H2.out.z.z 2;by_cases he2 : e2 = 0;rotate_left
 ·have HQ : Hid ((decM l).2 = e2) := by show _ = _; rw [HD1.out]; exact decA_a HC2.out he2
  have HNE : Hid (e2 ≠ 0) := he2;have hei : ((e2 : Int) != 0) = true := by rw [bne_iff_ne]; omega
  clear he2;go_wp2_with fail
  (try simp only [Exit.inBlock, Exit.then])
  refine bodyPost_ret (v := .tuple #[.agg #[.int .i64 0, .int .i64 0, .slice none 0 0], .int .i64 (e2 : Nat)]) (by rw [results_cell_tmp rfl]; go_simp) rfl ?_;exact H2.out.bad HQ.out HNE.out rfl
 subst he2;have HD2 : Hid (decM l = decK xb xa l2) := by show _ = _; rw [HD1.out]; exact decA_b HC2.out
 clear HC2 HD1;go_wp2_with fail;refine (rtake_walk H2.out.bv).mono ?_;rcases Wm.take_form l2 H2.out.bv.2 with ⟨e, ht, h34⟩ | ⟨x, n, ht, hx, hn1, hn2, hn3⟩
 ·have he : e ≠ 0 := by omega
  have HQ : Hid ((decM l).2 = e) := by show _ = _; rw [HD2.out]; exact decK_a ht he
  rw [t3_litB ht];rintro e9 w3 ⟨rfl, hw3⟩;have hei : ((e : Int) != 0) = true := by rw [bne_iff_ne]; omega
  have HNE : Hid (e ≠ 0) := he;replace hw3 := hw3.symm;subst hw3;clear he h34 ht;go_wp2_with fail
  (try simp only [Exit.inBlock, Exit.then])
  refine bodyPost_ret (v := .tuple #[.agg #[.int .i64 0, .int .i64 0, .slice none 0 0], .int .i64 (e : Nat)]) (by rw [results_cell_tmp rfl]; go_simp) rfl ?_;exact H2.out.bad HQ.out HNE.out rfl
 rw [t3_litB ht];rintro e9 w3 ⟨rfl, hw3⟩;replace hw3 := hw3.symm;subst hw3;by_cases h64 : 64 < x
 ·have HQ : Hid ((decM l).2 = 6) := by show _ = _; rw [HD2.out]; exact decK_b ht h64
  have h64i : (64 : Int) < (x : Int) := by omega
  clear hn1 hn2 hn3 ht hx h64;go_wp2_with fail
  (try simp only [Exit.inBlock, Exit.then])
  refine bodyPost_ret (v := .tuple #[.agg #[.int .i64 0, .int .i64 0, .slice none 0 0], .int .i64 6]) (by rw [results_cell_tmp rfl]; go_simp) rfl ?_;exact H2.out.bad HQ.out (by decide) rfl
 have h64i : ¬ (64 : Int) < (x : Int) := by omega
 have HD3 : Hid (decM l = decE xb xa (keyS x (l2.drop n))) := by show _ = _; rw [HD2.out]; exact decK_c ht h64
 have H64 : Hid (x ≤ 64) := by show _ ≤ _; omega
 have hwx : IntKind.i64.wrap (x : Int) = (x : Int) := by rw [IntKind.wrap_i64]; omega
 have HN2 : Hid (n ≤ l2.length) := hn2;have hne2 : l2 ≠ [] := by rintro rfl; simp at hn2; omega
 have HNE2 : Hid (l2 ≠ []) := hne2;clear hn1 hn3 ht hx h64 HD2;rcases bv_cases H2.out.bv with ⟨h0, _⟩ | ⟨b, off, cap, rfl, hp, hcl, hcm, _⟩
 ·exact absurd h0 hne2
 have hnl : (n : Int) ≤ (l2.length : Int) := by omega
 have hnc : (n : Int) ≤ (cap : Int) := by omega
 have hli : (l2.length : Int) ≤ (cap : Int) := by omega
 have hci : (cap : Int) ≤ 9223372036854775807 := by unfold maxLen at hcm; omega
 clear hn2 hne2 hp hcl hcm;go_upto_region 12 with fail
 go_cut [0] (fun u wx => DR N w w2 u (l2.drop n) ∧ wx = w2)
 case first =>
  obtain ⟨k1, k2⟩ := bv_cut H2.out.bv n HN2.out;by_cases hc : cap = n
  ·have K := k1 hc;have K' := H2.out.turn K sb_cut0 (fun _ => HNE2.out) (Below.refl _ _);clear k1 k2 K;subst hc;go_wp2_with fail;go_meet;exact ⟨K', rfl⟩
  ·have K := k2 hc;have K' := H2.out.turn K sb_cutm (fun _ => HNE2.out) (Below.refl _ _);clear k1 k2 K;go_wp2_with fail;go_meet;exact ⟨by simpa [WideShapes.add_plain] using K', rfl⟩
 case rest =>
  obtain ⟨hD, h2⟩ := hcut;replace h2 := h2.symm;subst h2;obtain ⟨l0, hl0⟩ : ∃ l0, l0 = l2.drop n := ⟨_, rfl⟩;rw [← hl0] at hD HD3
  have HST : Hid (RKc x l0 N w u0 (.slice (some ⟨w2.heap.size, 0, none⟩) 0 0) (.int .i64 0) (w2.alloc (.cells #[] 37))) :=
   ⟨0, [], l0, rfl, by omega, kat_start x l0, hD.turn (hD.bv.below (below_alloc _ _)) (Sb.refl _) id (below_alloc _ _), own_baseC (World.ownsRow_made w2 #[] 0 (Nat.le_refl _) (by simp [maxLen]) rfl) (by have := cell_lt hD.z.c0; simp only at this; omega)⟩
  clear hl0 hD H2 hnl hnc hli z0 z1 z2 y0 y1 y2;go_wp2_with fail;go_loopw [0, 9, 10] (fun bv kv iv wr => RKc x l0 N w bv kv iv wr) (fun _ _ iv _ => x - (intOf iv).toNat)
  case atStart => exact HST.out
  case round =>
   clear HST;obtain ⟨i, acc, l', rfl, hix, hat, hdr, hown⟩ := hrel;have HAT := hidH hat;have HDR : Hid (DR N w wr u0 l') := hdr;have HO := hidH hown;have z0 := hdr.z.c0;have z1 := hdr.z.c1;have z2 := hdr.z.c2;have y0 := hdr.z.z 0;have y1 := hdr.z.z 1;have y2 := hdr.z.z 2;clear hat hdr hown;by_cases hlt : i < x
   ·have hlti : (i : Int) < (x : Int) := by omega
    go_wp2_with fail;refine (rtake_walk HDR.out.bv).mono ?_;rcases Wm.take_form l' HDR.out.bv.2 with ⟨e, ht, h34⟩ | ⟨y, k, ht, hy, hk1, hk2, hk3⟩
    ·have he : e ≠ 0 := by omega
     have HQ : Hid ((decM l).2 = e) := by show _ = _; rw [HD3.out]; exact decE_a (kat_fault HAT.out hlt ht he) he
     rw [t3_litB ht];rintro e9 w3 ⟨rfl, hw3⟩;have hei : ((e : Int) != 0) = true := by rw [bne_iff_ne]; omega
     have HNE : Hid (e ≠ 0) := he;replace hw3 := hw3.symm;subst hw3;clear he h34 ht;go_wp2_with fail
     (try simp only [Exit.inBlock, Exit.then])
     refine bodyPost_ret (v := .tuple #[.agg #[.int .i64 0, .int .i64 0, .slice none 0 0], .int .i64 (e : Nat)]) (by rw [results_cell_tmp rfl]; go_simp) rfl ?_;exact HDR.out.bad HQ.out HNE.out rfl
    ·rw [t3_litB ht];rintro e9 w3 ⟨rfl, hw3⟩;replace hw3 := hw3.symm;subst hw3;have HNX : Hid (KAt (keyS x l0) x (i + 1) (acc ++ [y]) (l'.drop k) 0) := kat_good HAT.out hlt ht;have HK2 : Hid (k ≤ l'.length) := hk2;have hne : l' ≠ [] := by rintro rfl; simp at hk2; omega
     have HNE : Hid (l' ≠ []) := hne;have HLE : Hid (acc.length ≤ 64) := by show _ ≤ _; have := kat_acc HAT.out; have := H64.out; omega
     rcases bv_cases HDR.out.bv with ⟨h0, _⟩ | ⟨b, off, cap, rfl, hp, hcl, hcm, _⟩
     ·exact absurd h0 hne
     have hnl : (k : Int) ≤ (l'.length : Int) := by omega
     have hnc : (k : Int) ≤ (cap : Int) := by omega
     have hli : (l'.length : Int) ≤ (cap : Int) := by omega
     have hci : (cap : Int) ≤ 9223372036854775807 := by unfold maxLen at hcm; omega
     have HNW : Hid (N + 1 ≤ wr.heap.size) := cell_lt z0;clear hk1 hk2 hk3 hy ht hne hp hcl hcm HAT z0 z1 z2 y0 y1 y2;go_upto_region 21 with (at_builtin; refine wpList_append_sv (by rfl) (.tmp 68) (.tmp 70) 38 (by rfl) (N + 1) 37 .u64 8 Tryz.underlying38 info_u64M _ _ _ (by rfl) (HO.out.alloc _) _ [_] (by rfl) (sv_one .u64 _ _ _) (by have := HLE.out; simp only [maxLen, List.length_singleton]; omega) (by have := HLE.out; simp only [List.length_singleton]; omega) (by rw [size_allocC]; have := HNW.out; omega) ?_; intro v6 w6 hown hgrow)
     have hg6 : Below (N + 1) wr w6 := ((below_alloc wr _).mono HNW.out).trans (grown_belowC (HO.out.alloc _) hgrow (by rw [size_allocC]; have := HNW.out; omega));have HD6 : Hid (DR N w w6 (.slice (some ⟨b, off, none⟩) l'.length cap) l') := HDR.out.grow hg6;have HO6 : Hid (w6.ownsRow (N + 1) 37 1 v6 (acc ++ [y]).length ((ib (acc ++ [y])).map (Value.int .u64))) := by show World.ownsRow _ _ _ _ _ _ _; rw [List.length_append, ib_append, List.map_append]; exact hown
     clear hown hgrow hg6 HDR HO;obtain ⟨k1, k2⟩ := bv_cut HD6.out.bv k HK2.out;by_cases hc : cap = k
     ·have K := k1 hc;have K' := HD6.out.turn K sb_cut0 (fun _ => HNE.out) (Below.refl _ _);have HREL : Hid (RKc x l0 N w (.slice (some ⟨b, off, none⟩) (l'.length - k) 0) v6 (.int .i64 ((i : Int) + 1)) w6) := ⟨i + 1, acc ++ [y], l'.drop k, rfl, hlt, HNX.out, K', HO6.out⟩;clear k1 k2 K K';subst hc;go_wp2_with fail;go_roundw
      case rel => exact HREL.out
      case measure => simp [intOf]; omega
     ·have K := k2 hc;have K' := HD6.out.turn K sb_cutm (fun _ => HNE.out) (Below.refl _ _);have HREL : Hid (RKc x l0 N w (.slice (some ⟨b, off + k, none⟩) (l'.length - k) (cap - k)) v6 (.int .i64 ((i : Int) + 1)) w6) := ⟨i + 1, acc ++ [y], l'.drop k, rfl, hlt, HNX.out, by simpa [WideShapes.add_plain] using K', HO6.out⟩;clear k1 k2 K K';go_wp2_with fail;go_roundw
      case rel => exact HREL.out
      case measure => simp [intOf]; omega
   ·have hlti : ¬ (i : Int) < (x : Int) := by omega
    obtain rfl : i = x := by omega
    have HK : Hid (decM l = decE xb xa (0, acc, l')) := by show _ = _; rw [HD3.out, kat_end HAT.out]
    obtain ⟨va, vn, vc, hvv⟩ := bv_any HDR.out.bv;subst hvv;obtain ⟨hln, _, _⟩ := bv_le HDR.out.bv;have HLN : Hid (vn = l'.length) := hln;clear hln hlt hix HAT;by_cases hll : vn = 0;rotate_left
    ·have HQ : Hid ((decM l).2 = 5) := by show _ = _; rw [HK.out]; exact decE_b (by rw [← HLN.out]; exact hll)
     have hpos : (0 : Int) < (vn : Int) := by omega
     clear hll;go_wp2_with fail
     (try simp only [Exit.inBlock, Exit.then])
     refine bodyPost_ret (v := .tuple #[.agg #[.int .i64 0, .int .i64 0, .slice none 0 0], .int .i64 5]) (by rw [results_cell_tmp rfl]; go_simp) rfl ?_;exact HDR.out.bad HQ.out (by decide) rfl
    subst hll;obtain ⟨ka, kn, kc, hkv⟩ := sv_any (own_sv HO.out);subst hkv;go_upto_region 25 with fail
    have HM : Hid _ := mb_new wr xb xa (.slice ka kn kc);have HDD : Hid (DR N w (wr.alloc (Obj.cells #[.int .i64 xb, .int .i64 xa, .slice ka kn kc] 65)) (.slice va 0 vc) l') := HDR.out.turn (HDR.out.bv.below (below_alloc _ _)) (Sb.refl _) id (below_alloc _ _);have HOO : Hid _ := own_belowC HO.out (below_alloc wr (Obj.cells #[.int .i64 xb, .int .i64 xa, .slice ka kn kc] 65));obtain ⟨P, hP⟩ : ∃ P, P = wr.heap.size := ⟨_, rfl⟩;rw [← hP] at HM ⊢;have HPN : Hid (N < P) := by show _ < _; rw [hP]; exact cell_lt z0
    clear hP HDR HO z0 z1 z2 y0 y1 y2;generalize wr.alloc (Obj.cells #[.int .i64 xb, .int .i64 xa, .slice ka kn kc] 65) = w4 at HM HDD HOO ⊢;have m0 := HM.out.c0;have m1 := HM.out.c1;have m2 := HM.out.c2;go_wp2_with fail;refine (rsound_walk (own_sv HOO.out) xb xa).mono ?_;obtain ⟨S, hS⟩ : ∃ S, S = soundBM ⟨xb, xa, acc⟩ := ⟨_, rfl⟩;rw [← hS];rintro e9 w5 ⟨rfl, hB5⟩;have HD5 : Hid (DR N w w5 (.slice va 0 vc) l') := HDD.out.turn (HDD.out.bv.below hB5) (Sb.refl _) id hB5;have HO5 : Hid _ := own_belowC HOO.out hB5;have HM5 : Hid _ := HM.out.keep hB5;clear hB5 HDD HOO HM m0 m1 m2;have z0 := HD5.out.z.c0;have z1 := HD5.out.z.c1;have z2 := HD5.out.z.c2;have y0 := HD5.out.z.z 0;have y1 := HD5.out.z.z 1;have y2 := HD5.out.z.z 2
    cases S
    ·have HQ : Hid ((decM l).2 = 1) := by show _ = _; rw [HK.out]; exact decE_c HLN.out.symm hS.symm
     clear hS;go_wp2_with fail
     (try simp only [Exit.inBlock, Exit.then])
     refine bodyPost_ret (v := .tuple #[.agg #[.int .i64 0, .int .i64 0, .slice none 0 0], .int .i64 1]) (by rw [results_cell_tmp rfl]; go_simp) rfl ?_;exact HD5.out.bad HQ.out (by decide) rfl
    ·have HQ : Hid (decM l = (⟨xb, xa, acc⟩, 0)) := by show _ = _; rw [HK.out]; exact decE_d HLN.out.symm hS.symm
     clear hS;have m0 := HM5.out.c0;have m1 := HM5.out.c1;have m2 := HM5.out.c2;go_wp2_with fail
     (try simp only [Exit.inBlock, Exit.then])
     refine bodyPost_ret (v := .tuple #[.agg #[.int .i64 xb, .int .i64 xa, .slice ka kn kc], .int .i64 0]) (by rw [results_cell_tmp rfl]; go_simp) rfl ?_;have k1 := ch_set w5 N 0 (.int .i64 xb);have k2 := ch_set (w5.setCell ⟨N, 0, none⟩ (.int .i64 xb)) N 1 (.int .i64 xa);have k3 := ch_set ((w5.setCell ⟨N, 0, none⟩ (.int .i64 xb)).setCell ⟨N, 1, none⟩ (.int .i64 xa)) N 2 (.slice ka kn kc);have k := (k1.self k2).self k3
     exact dgot_ok HQ.out (own_baseC (own_ch HO5.out k (fun x hx => by omega)) (by rw [← HND.out]; omega)) (by
      rw [← HND.out];exact HD5.out.below.trans (below_set3n _ _ _ (cell_lt z0)))
section
def RT (A : Nat → Prop) (w : World) (tv xv : Value) (k : Int) (P : Bo) (S : Dk) : Prop :=
 ∃ tp bv, tv = .pointer (some ⟨tp, 0, none⟩) ∧ w.heap[tp]? = some (.cells #[bv, .int .i64 k] 102 (0, 0)) ∧ ¬ A tp ∧ BQ A w bv xv P S ∧ P.tab.length = 7
section

variable {A E : Nat → Prop} {w w' : World} {tv xv : Value} {k : Int} {P : Bo} {S : Dk}

theorem RT.ch (h : RT A w tv xv k P S) (hc : Ch E w w') (hE : ∀ x, x < w.heap.size → ¬ E x) : RT A w' tv xv k P S := by
 obtain ⟨tp, bv, e, h1, h2, h3, h4⟩ := h;have hl := (Array.getElem?_eq_some_iff.1 h1).1;exact ⟨tp, bv, e, by rw [hc.block tp hl (hE tp hl)]; exact h1, h2, h3.ch hc (fun x hx => hE x (h3.lt hx)), h4⟩
theorem RT.below (h : RT A w tv xv k P S) (hb : Below w.heap.size w w') : RT A w' tv xv k P S := h.ch (E := fun _ => False) (Ch.of_below hb) (fun _ _ h => h)
theorem RT.lt (h : RT A w tv xv k P S) {x : Nat} (hx : A x) : x < w.heap.size := by
 obtain ⟨tp, bv, e, h1, h2, h3, h4⟩ := h;exact h3.lt hx
theorem rcheck_nil : Calls Tryz.prog 64 #[.pointer none] w fun e w' => e = .returned (.int .i64 2) ∧ w' = w := by
 go_in;go_wp2_with fail;go_ret;exact ⟨rfl, rfl⟩
theorem rcheck_ok (h : RT A w tv xv k P S) (hs : shutB P S = false) : Calls Tryz.prog 64 #[tv] w fun e w' => e = .returned (.int .i64 0) ∧ w' = w := by
 obtain ⟨tp, bv, rfl, h1, h2, ⟨D, pb, uv, rfl, h3⟩, h4⟩ := h;have HD : Hid (Dsk 94 D w xv S) := h3.dsk;unfold shutB at hs;rw [Bool.or_eq_false_iff] at hs;have HDN : Hid (S.down = false) := hs.2;have c0 := mq0 h3;have c4 := mq4 h3;rw [hs.1] at c4;have t0 : w.cell? ⟨tp, 0, none⟩ = some (.pointer (some ⟨pb, 0, none⟩)) := by rw [cell_of_row w tp 0 _ _ (0, 0) h1]; rfl
 clear h1 h2 h3 h4 hs;go_in;go_wp2_with fail;refine (rdown_walk HD.out).mono ?_;rw [HDN.out];rintro e w9 ⟨rfl, h9⟩;have h9 := h9.symm;subst h9;go_wp2_with fail;go_ret;exact ⟨rfl, rfl⟩
theorem rcheck_shut (h : RT A w tv xv k P S) (hs : shutB P S = true) : Calls Tryz.prog 64 #[tv] w fun e w' => e = .returned (.int .i64 80) ∧ RT A w' tv xv k (endB P) S ∧ Ch A w w' := by
 obtain ⟨tp, bv, rfl, h1, h2, ⟨D, pb, uv, rfl, h3⟩, h4⟩ := h;have HD : Hid (Dsk 94 D w xv S) := h3.dsk;have hne : tp ≠ pb := fun e => h2 (e ▸ h3.ab);have hl := (Array.getElem?_eq_some_iff.1 h1).1;have HC : Hid (Ch A w (w.setCell ⟨pb, 4, none⟩ (.bool true))) := h3.chput _ _;have HE : Hid (RT A (w.setCell ⟨pb, 4, none⟩ (.bool true)) (.pointer (some ⟨tp, 0, none⟩)) xv k (endB P) S) := ⟨tp, _, rfl, by rw [HC.out.block tp hl h2]; exact h1, h2, ⟨D, pb, uv, rfl, mq_end h3⟩, h4⟩;have HM : Hid (RT A w (.pointer (some ⟨tp, 0, none⟩)) xv k P S) := ⟨tp, _, rfl, h1, h2, ⟨D, pb, uv, rfl, h3⟩, h4⟩;have c0 := mq0 h3;have c4 := mq4 h3;have f4 := h3.soft 4;have t0 : w.cell? ⟨tp, 0, none⟩ = some (.pointer (some ⟨pb, 0, none⟩)) := by rw [cell_of_row w tp 0 _ _ (0, 0) h1]; rfl
 have t1 : (w.setCell ⟨pb, 4, none⟩ (.bool true)).cell? ⟨tp, 0, none⟩ = some (.pointer (some ⟨pb, 0, none⟩)) := by rw [World.cell?_setCell_other _ _ _ _ (by intro q; cases q)]; exact t0
 have e4 := mq4 (mq_end h3)
 cases hd : S.down
 ·have HDN : Hid (S.down = false) := hd;have ho : P.over = true := by unfold shutB at hs; rw [hd, Bool.or_false] at hs; exact hs
  have HPE : Hid (endB P = P) := by show _ = _; obtain ⟨a, b, c, d⟩ := P; simp only at ho; subst ho; rfl
  rw [ho] at c4;clear h1 h2 h3 h4 hs ho hd e4 t1 hne hl;go_in;go_wp2_with fail;refine (rdown_walk HD.out).mono ?_;rw [HDN.out];rintro e w9 ⟨rfl, h9⟩;have h9 := h9.symm;subst h9;go_wp2_with fail;go_ret;exact ⟨rfl, by rw [HPE.out]; exact HM.out, Ch.refl _ _⟩
 ·have HDN : Hid (S.down = true) := hd;have e4' : (w.setCell ⟨pb, 4, none⟩ (.bool true)).cell? ⟨pb, 4, none⟩ = some (.bool true) := e4;clear h1 h2 h3 h4 hs hd e4 hne hl;go_in;go_wp2_with fail;refine (rdown_walk HD.out).mono ?_;rw [HDN.out];rintro e w9 ⟨rfl, h9⟩;have h9 := h9.symm;subst h9;go_wp2_with fail;go_ret;exact ⟨rfl, HE.out, HC.out⟩
end
end
section
theorem results_cell1 {fn : Func} {p : Tmp} {ty : TypeId} (h : fn.results = #[.cell p ty]) (tmps : Array Value) (P : Program) (w : World) :
  (results fn tmps).run P w = ((asAddr (tmps.getD p undef)).run P w).andThen fun a w₁ => (loadVar ty a).run P w₁ := by
 simp only [results, h];simp [Sem.run_bind, Result.andThen]
section

variable {A : Nat → Prop} {w w' : World} {sv dv : Value} {k : Int} {P : Bo} {S : Dk} {sp : Nat}

theorem RT.ptr (h : RT A w sv dv k P S) : ∃ sp, sv = .pointer (some ⟨sp, 0, none⟩) ∧ sp < w.heap.size ∧ ¬ A sp := by
 obtain ⟨sp, bv, e, h1, h2, _⟩ := h;exact ⟨sp, e, (Array.getElem?_eq_some_iff.1 h1).1, h2⟩
theorem RT.setB (h : RT A w sv dv k P S) {g i : Nat} {v : Value} (hg : ∀ x, x < w.heap.size → A x → x ≠ g) (hp : ∀ sp, sv = .pointer (some ⟨sp, 0, none⟩) → sp ≠ g) : RT A (w.setCell ⟨g, i, none⟩ v) sv dv k P S := by
 obtain ⟨sp, bv, e, h1, h2, h3, h4⟩ := h;have hc := ch_set w g i v;have hl := (Array.getElem?_eq_some_iff.1 h1).1;exact ⟨sp, bv, e, by rw [hc.block sp hl (hp sp e)]; exact h1, h2, h3.ch hc (fun x hx => hg x (h3.lt hx) hx), h4⟩
theorem RT.three (h : RT A w (.pointer (some ⟨sp, 0, none⟩)) dv k P S) {g : Nat} (hg : ¬ A g) (hp : sp ≠ g) (a b c : Value) : RT A (((w.setCell ⟨g, 0, none⟩ a).setCell ⟨g, 1, none⟩ b).setCell ⟨g, 2, none⟩ c) (.pointer (some ⟨sp, 0, none⟩)) dv k P S := by
 have s : ∀ {x : World} (i : Nat) (u : Value), RT A x (.pointer (some ⟨sp, 0, none⟩)) dv k P S → RT A (x.setCell ⟨g, i, none⟩ u) (.pointer (some ⟨sp, 0, none⟩)) dv k P S := fun i u hx => hx.setB (fun y _ hA e => by subst e; exact hg hA) (fun s e => by cases e; exact hp);exact s _ _ (s _ _ (s _ _ h))
theorem rsused_nil (w : World) : Calls Tryz.prog 56 #[.pointer none] w fun e w' => e = .returned (.int .i64 0) ∧ w' = w := by
 go_in;go_wp2_with fail;go_ret;exact ⟨rfl, rfl⟩
theorem rsused_walk (h : RT A w sv dv k P S) : Calls Tryz.prog 56 #[sv] w fun e w' => e = .returned (.int .i64 (usedN P.tab)) ∧ w' = w := by
 obtain ⟨sp, bv, rfl, h1, h2, h3, h4⟩ := h;have HB : Hid (BQ A w bv dv P S) := h3;have m0 : w.cell? ⟨sp, 0, none⟩ = some bv := by rw [cell_of_row w sp 0 _ _ (0, 0) h1]; rfl
 obtain ⟨D, pb, tv, hbv, _⟩ := h3;subst hbv;clear h1 h2 h4;go_in;go_wp2_with fail;refine (rused_walk HB.out).mono ?_;rintro e w2 ⟨rfl, hw2⟩;replace hw2 := hw2.symm;subst hw2;go_wp2_with fail;go_ret;exact ⟨rfl, rfl⟩
theorem rsended_nil (w : World) : Calls Tryz.prog 57 #[.pointer none] w fun e w' => e = .returned (.bool false) ∧ w' = w := by
 go_in;go_wp2_with fail;go_ret;exact ⟨rfl, rfl⟩
theorem rsended_walk (h : RT A w sv dv k P S) : Calls Tryz.prog 57 #[sv] w fun e w' => e = .returned (.bool P.over) ∧ w' = w := by
 obtain ⟨sp, bv, rfl, h1, h2, h3, h4⟩ := h;have HB : Hid (BQ A w bv dv P S) := h3;have m0 : w.cell? ⟨sp, 0, none⟩ = some bv := by rw [cell_of_row w sp 0 _ _ (0, 0) h1]; rfl
 obtain ⟨D, pb, tv, hbv, _⟩ := h3;subst hbv;clear h1 h2 h4;go_in;go_wp2_with fail;refine (rended_walk HB.out).mono ?_;rintro e w2 ⟨rfl, hw2⟩;replace hw2 := hw2.symm;subst hw2;go_wp2_with fail;go_ret;exact ⟨rfl, rfl⟩
def RmGot (A : Nat → Prop) (w : World) (sv dv : Value) (k : Int) (P : Bo) (S : Dk) (e : Ending) (w' : World) : Prop :=
 ∃ (v : Value), e = .returned (.agg #[.int .i64 (decM (getL P S 0)).1.b, .int .i64 (decM (getL P S 0)).1.a, v]) ∧ w'.ownsRow w.heap.size 37 1 v (decM (getL P S 0)).1.k.length ((ib (decM (getL P S 0)).1.k).map (Value.int .u64)) ∧
  RT A w' sv dv k P (getS P S 0) ∧ Ch A w w'
theorem rgetL_lt (h : RT A w sv dv k P S) (p : Int) : (getL P S p).length ≤ 1024 ∧ ∀ c ∈ getL P S p, c < 256 := by
 obtain ⟨sp, bv, e, h1, h2, ⟨D, pb, tv, e2, hb⟩, h4⟩ := h;have hk := hb.dsk.good;unfold getL
 split
 ·simp
 ·split
  ·simp
  ·split
   ·simp
   ·exact read_fit hk _
theorem rsmark_walk (h : RT A w sv dv k P S) (hs : shutB P S = false) (hrd : S.rd < 4611686018427387904) : Calls Tryz.prog 119 #[sv] w (RmGot A w sv dv k P S) := by
 have HRD : Hid (S.rd < 9223372036854775807) := by show _ < _; omega
 have HS : Hid (shutB P S = false) := hs;have HLT : Hid _ := (rgetL_lt h 0).2;obtain ⟨sp, bv, rfl, h1, h2, h3, h4⟩ := h;have H1 : Hid (w.heap[sp]? = some (.cells #[bv, .int .i64 k] 102 (0, 0))) := h1;have H2 : Hid (¬ A sp) := h2;have H4 : Hid (P.tab.length = 7) := h4;have HAL : Hid (∀ x, A x → x < w.heap.size) := fun x hx => h3.lt hx;have hsl := (Array.getElem?_eq_some_iff.1 h1).1;have HSP : Hid (sp < w.heap.size) := hsl;have HB : Hid (Below w.heap.size w (w.alloc (Obj.cells #[.int .i64 0, .int .i64 0, .slice none 0 0] 65))) := below_alloc _ _;have HR0 : Hid _ := mb_new w 0 0 (.slice none 0 0);have HQ0 : Hid (BQ A (w.alloc (Obj.cells #[.int .i64 0, .int .i64 0, .slice none 0 0] 65)) bv dv P S) := h3.ch (E := fun _ => False) (Ch.of_below HB.out) (fun _ _ h => h)
 have m0 : (w.alloc (Obj.cells #[.int .i64 0, .int .i64 0, .slice none 0 0] 65)).cell? ⟨sp, 0, none⟩ = some bv := by
  have g : (w.alloc (Obj.cells #[.int .i64 0, .int .i64 0, .slice none 0 0] 65)).heap[sp]? = some (.cells #[bv, .int .i64 k] 102 (0, 0)) := by rw [(Ch.of_below HB.out (D := fun _ => False)).block sp hsl (fun h => h)]; exact h1
  rw [cell_of_row _ sp 0 _ _ (0, 0) g]; rfl
 obtain ⟨D, pb, tv, hbv, _⟩ := h3;subst hbv;clear h1 h2 h4 hrd hs hsl;go_in;go_upto_region 1 with fail
 obtain ⟨R, hR⟩ : ∃ R, R = w.heap.size := ⟨_, rfl⟩;rw [← hR] at HR0 ⊢;have HR : Hid (R = w.heap.size) := hR;clear hR;generalize w.alloc (Obj.cells #[.int .i64 0, .int .i64 0, .slice none 0 0] 65) = w0 at HR0 HQ0 HB m0 ⊢;have HNA : Hid (¬ A R) := fun e => by have h1 := HAL.out _ e; have h2 := HR.out; omega
 go_wp2_with fail;refine (rget_walk HQ0.out 0 HRD.out).mono ?_;rintro e w2 ⟨r, rfl, ho, hb2, hc2⟩;have HV2 : Hid (Bv w2 r (getL P S 0)) := own_bv ho HLT.out;obtain ⟨⟨⟨B, M, K⟩, E⟩, hD⟩ : ∃ D, decM (getL P S 0) = D := ⟨_, rfl⟩;have HD : Hid (decM (getL P S 0) = (⟨B, M, K⟩, E)) := hD;have HC2 : Hid (Ch A w w2) := (Ch.of_below HB.out).self hc2
 have HT2 : Hid (RT A w2 (.pointer (some ⟨sp, 0, none⟩)) dv k P (getS P S 0)) :=
  ⟨sp, _, rfl, by rw [HC2.out.block sp HSP.out H2.out]; exact H1.out, H2.out, by have := hb2; rw [getB_ok HS.out] at this; exact this, H4.out⟩
 have HR2 : Hid _ := HR0.out.ch hc2 HNA.out;clear ho hb2 hc2 hD m0;go_wp2_with fail;refine (rmdec_walk HV2.out).mono ?_;unfold DGot;rw [HD.out];rintro e w3 ⟨v3, rfl, ho3, hB3⟩;have HT3 := hidH (HT2.out.below hB3);have HC3 : Hid (Ch A w w3) := HC2.out.self (Ch.of_below hB3);have HR3 : Hid _ := HR2.out.keep hB3;have HRL : Hid (R < w2.heap.size) := cell_lt HR2.out.c0;have HOR : Hid (w3.ownsRow (R + 1) 37 1 v3 K.length ((ib K).map (Value.int .u64))) := own_baseC ho3 HRL.out;obtain ⟨va, vn, vc, hvv⟩ : ∃ x y z, v3 = .slice x y z := by obtain ⟨x, z, e⟩ := own_form8 ho3; exact ⟨x, _, z, e⟩
 subst hvv;clear ho3 hB3 HT2 HC2 HR2 HV2;go_upto_region 3 with fail
 have HT4 : Hid (RT A (w3.alloc (Obj.cells #[.int .i64 B, .int .i64 M, .slice va vn vc] 65)) (.pointer (some ⟨sp, 0, none⟩)) dv k P (getS P S 0)) := HT3.out.below (below_alloc w3 (Obj.cells #[.int .i64 B, .int .i64 M, .slice va vn vc] 65));have HC4 : Hid _ := HC3.out.self (Ch.of_below (below_alloc w3 (Obj.cells #[.int .i64 B, .int .i64 M, .slice va vn vc] 65)));have HR4 : Hid _ := HR3.out.keep (below_alloc w3 (Obj.cells #[.int .i64 B, .int .i64 M, .slice va vn vc] 65));have HO4 : Hid _ := own_belowC HOR.out (below_alloc w3 (Obj.cells #[.int .i64 B, .int .i64 M, .slice va vn vc] 65));have HM4 : Hid _ := mb_new w3 B M (.slice va vn vc);generalize w3.heap.size = X at HM4 ⊢;generalize w3.alloc (Obj.cells #[.int .i64 B, .int .i64 M, .slice va vn vc] 65) = w4 at HT4 HC4 HR4 HO4 HM4 ⊢;have r0 := HR4.out.c0;have r1 := HR4.out.c1;have r2 := HR4.out.c2;have z0 := HR4.out.z 0;have z1 := HR4.out.z 1;have z2 := HR4.out.z 2;have x0 := HM4.out.c0;have x1 := HM4.out.c1;have x2 := HM4.out.c2;have HFIN : Hid _ := ch_three HC4.out (.inr (by rw [HR.out]; exact Nat.le_refl _)) (g := R) (.int .i64 B) (.int .i64 M) (.slice va vn vc);have HTF : Hid _ := HT4.out.three HNA.out (by have h1 := HSP.out; have h2 := HR.out; omega) (.int .i64 B) (.int .i64 M) (.slice va vn vc);have HOF : Hid _ := own_ch HO4.out (ch_three (D := fun x => x = R) (Ch.refl _ w4) (.inl rfl) (g := R) (.int .i64 B) (.int .i64 M) (.slice va vn vc)) (fun x hx => by omega);clear HT3 HC3 HR3 HOR HRL;go_wp2_with fail
 (try simp only [Exit.inBlock, Exit.then])
 refine bodyPost_ret (v := .agg #[.int .i64 B, .int .i64 M, .slice va vn vc]) (by rw [results_cell1 rfl]; go_simp) rfl ?_;unfold RmGot;rw [HD.out];exact ⟨_, rfl, own_baseC HOF.out (by rw [← HR.out]; omega), HTF.out, HFIN.out⟩
end
end
end Go.Proofs.YtcmklbibehnloaaGreat
