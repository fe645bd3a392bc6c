/- Contract of mark's Decode. -/
import Derived.Test.YtofkhgokfdpdiabGreatB28
set_option maxRecDepth 100000
set_option maxHeartbeats 16000000
namespace Go.Proofs.YtofkhgokfdpdiabGreat
section
open Go.RowKit
/-! The mathematics: the reader's faults are decM's. -/
theorem cntF_old {l : List Nat} {f : Nat} (h : f ≠ 0) : cntF l f = f := by unfold cntF numF; rw [refu_old h, refu_old h]
theorem lngF_old {l : List Nat} {f : Nat} (h : f ≠ 0) : lngF l f = f := by unfold lngF numF; rw [refu_old h, refu_old h]
theorem cntF_new (l : List Nat) : cntF l 0 = (cntL l).1 := by
 unfold cntF numF cntL
 by_cases h : (Wm.take l).2.2 = 0
 ·rw [h]
  by_cases h2 : 1099511627776 < (Wm.take l).1 <;> simp [refu, h2]
 ·simp [refu, h]
theorem cntL_num {l : List Nat} (h : (cntL l).1 = 0) : (cntL l).2.1 = (Wm.take l).1 ∧ (cntL l).2.2 = numL l ∧ (Wm.take l).1 ≤ 1099511627776 := by
 unfold cntL at h ⊢
 by_cases h1 : (Wm.take l).2.2 = 0
 ·by_cases h2 : 1099511627776 < (Wm.take l).1
  ·simp [h1, h2] at h
  ·simp [h1, h2, numL]; omega
 ·simp [h1] at h
theorem lngF_new (l : List Nat) : lngF l 0 = if (Wm.take l).2.2 ≠ 0 then (Wm.take l).2.2 else if 64 < (Wm.take l).1 then 6 else 0 := by
 unfold lngF numF
 by_cases h : (Wm.take l).2.2 = 0
 ·rw [h]
  by_cases h2 : 64 < (Wm.take l).1 <;> simp [refu, h2]
 ·simp [refu, h]
theorem wrap_cnt {x : Nat} (h : x ≤ 1099511627776) : wrap64 (x : Int) = (x : Int) := by unfold wrap64; omega
def endF (b a : Int) (ks l' : List Nat) (f' : Nat) : Nat := refu (!soundBM ⟨b, a, ks⟩) 1 (refu (decide (0 < l'.length)) 5 f')
theorem endF_old {b a : Int} {ks l' : List Nat} {f : Nat} (h : f ≠ 0) : endF b a ks l' f = f := by unfold endF; rw [refu_old (by rw [refu_old h]; exact h), refu_old h]
theorem kleft_old {x f1 f' : Nat} {l1 ks l' : List Nat} (h : KLeft x f1 l1 ks l' f') (h0 : f1 ≠ 0) : f' = f1 := by
 rcases h with ⟨_, h⟩ | ⟨h, _⟩
 ·exact h
 ·exact absurd h h0
theorem dec_end {l ks l' : List Nat} {f' : Nat} (hk : KLeft (Wm.take (numL (numL l))).1 (lngF (numL (numL l)) (cntF (numL l) (cntF l 0))) (numL (numL (numL l))) ks l' f') :
  (endF (wrap64 ((Wm.take l).1 : Nat)) (wrap64 ((Wm.take (numL l)).1 : Nat)) ks l' f' ≠ 0 → (decM l).2 = endF (wrap64 ((Wm.take l).1 : Nat)) (wrap64 ((Wm.take (numL l)).1 : Nat)) ks l' f') ∧
  (endF (wrap64 ((Wm.take l).1 : Nat)) (wrap64 ((Wm.take (numL l)).1 : Nat)) ks l' f' = 0 → decM l = (⟨wrap64 ((Wm.take l).1 : Nat), wrap64 ((Wm.take (numL l)).1 : Nat), ks⟩, 0)) := by
 rw [cntF_new] at hk
 by_cases h1 : (cntL l).1 = 0
 ·obtain ⟨a1, a2, a3⟩ := cntL_num h1
  rw [h1, cntF_new] at hk
  rw [wrap_cnt a3]
  unfold decM
  rw [if_neg (by omega), a1, a2]
  unfold decA
  by_cases h2 : (cntL (numL l)).1 = 0
  ·obtain ⟨b1, b2, b3⟩ := cntL_num h2
   rw [h2, lngF_new] at hk
   rw [wrap_cnt b3, if_neg (by omega), b1, b2]
   unfold decK
   by_cases h3 : (Wm.take (numL (numL l))).2.2 = 0
   ·rw [if_neg (by omega)] at hk ⊢
    by_cases h4 : 64 < (Wm.take (numL (numL l))).1
    ·rw [if_pos h4] at hk ⊢
     have e := kleft_old hk (by decide)
     subst e
     rw [endF_old (by decide)]
     exact ⟨fun _ => rfl, fun h => absurd h (by decide)⟩
    ·rw [if_neg h4] at hk ⊢
     rw [show (numL (numL l)).drop (Wm.take (numL (numL l))).2.1 = numL (numL (numL l)) from rfl]
     rcases hk with ⟨h, _⟩ | ⟨_, ⟨e1, e2, e3, e4⟩ | ⟨e1, e2⟩⟩
     ·exact absurd rfl h
     ·subst e1
      unfold decE
      rw [if_neg (by omega), ← e3, ← e4]
      by_cases h5 : l'.length = 0
      ·rw [if_neg (by omega)]
       unfold endF
       rw [show decide (0 < l'.length) = false from decide_eq_false (by omega), refu_no]
       cases hs : soundBM ⟨((Wm.take l).1 : Nat), ((Wm.take (numL l)).1 : Nat), ks⟩
       ·rw [if_pos rfl]
        exact ⟨fun _ => rfl, fun h => absurd h (by decide)⟩
       ·rw [if_neg (by simp)]
        exact ⟨fun h => absurd rfl h, fun _ => rfl⟩
      ·rw [if_pos h5]
       unfold endF
       rw [show decide (0 < l'.length) = true from decide_eq_true (by omega), refu_yes, refu_old (by decide)]
       exact ⟨fun _ => rfl, fun h => absurd h (by decide)⟩
     ·rw [endF_old e1]
      unfold decE
      rw [if_pos (by rw [e2]; exact e1), e2]
      exact ⟨fun _ => rfl, fun h => absurd h e1⟩
   ·rw [if_pos h3] at hk ⊢
    have e := kleft_old hk h3
    rw [e, endF_old h3]
    exact ⟨fun _ => rfl, fun h => absurd h h3⟩
  ·rw [lngF_old h2] at hk
   have e := kleft_old hk h2
   rw [e, endF_old h2, if_pos h2]
   exact ⟨fun _ => rfl, fun h => absurd h h2⟩
 ·rw [cntF_old h1, lngF_old h1] at hk
  have e := kleft_old hk h1
  rw [e, endF_old h1]
  unfold decM
  rw [if_pos h1]
  exact ⟨fun _ => rfl, fun h => absurd h h1⟩
/-! The blocks of Decode: N its result, N + 1 the reader, N + 2 the mark. -/
theorem MB.ch {D : Nat → Prop} {w w' : World} {P : Nat} {b a : Int} {v : Value} (h : MB w P b a v) (hc : Ch D w w') (hd : ¬ D P) : MB w' P b a v :=
 ⟨hc.cell h.c0 hd, hc.cell h.c1 hd, hc.cell h.c2 hd, fun j => by
  have e := hc.block P (cell_lt h.c0) hd
  have hz := h.z j
  unfold World.frozen? at hz ⊢
  rw [e]; exact hz⟩
theorem MB.set0 {w : World} {P : Nat} {b a : Int} {v : Value} (h : MB w P b a v) (x : Int) : MB (w.setCell ⟨P, 0, none⟩ (.int .i64 x)) P x a v :=
 ⟨by simp [go_sem, h.c0], by rw [World.cell?_setCell_other _ _ _ _ (by rintro ⟨⟩)]; exact h.c1, by rw [World.cell?_setCell_other _ _ _ _ (by rintro ⟨⟩)]; exact h.c2, fun j => by simpa [go_sem] using h.z j⟩
theorem MB.set1 {w : World} {P : Nat} {b a : Int} {v : Value} (h : MB w P b a v) (x : Int) : MB (w.setCell ⟨P, 1, none⟩ (.int .i64 x)) P b x v :=
 ⟨by rw [World.cell?_setCell_other _ _ _ _ (by rintro ⟨⟩)]; exact h.c0, by simp [go_sem, h.c1], by rw [World.cell?_setCell_other _ _ _ _ (by rintro ⟨⟩)]; exact h.c2, fun j => by simpa [go_sem] using h.z j⟩
theorem MB.set2 {w : World} {P : Nat} {b a : Int} {v : Value} (h : MB w P b a v) (x : Value) : MB (w.setCell ⟨P, 2, none⟩ x) P b a x :=
 ⟨by rw [World.cell?_setCell_other _ _ _ _ (by rintro ⟨⟩)]; exact h.c0, by rw [World.cell?_setCell_other _ _ _ _ (by rintro ⟨⟩)]; exact h.c1, by simp [go_sem, h.c2], fun j => by simpa [go_sem] using h.z j⟩
theorem mark_sizeS (w : World) (p : Addr) (u : Value) : (w.setCell p u).heap.size = w.heap.size := by simp [go_sem]
structure DS (N : Nat) (w0 w : World) (v : Value) (l : List Nat) (f : Nat) (b a : Int) (kv : Value) : Prop where
 n : N = w0.heap.size
 rd : RDM N w (N + 1) v l f
 q : MB w (N + 2) b a kv
 kvs : ∀ x, kv ≠ .int .u8 x
 z : MB w N 0 0 (.slice none 0 0)
 below : Below N w0 w
theorem DS.turn {N : Nat} {w0 w w' : World} {v v' : Value} {l l' : List Nat} {f f' : Nat} {b a : Int} {kv : Value} (h : DS N w0 w v l f b a kv) (hr : RDM N w' (N + 1) v' l' f') (hc : Ch (fun x => x = N + 1) w w') : DS N w0 w' v' l' f' b a kv :=
 ⟨h.n, hr, h.q.ch hc (by simp), h.kvs, h.z.ch hc (by simp), h.below.trans (hc.to_below (Nat.le_of_lt (cell_lt h.z.c0)) (fun x hx => by omega))⟩
theorem DS.old {N : Nat} {w0 w w' : World} {v : Value} {l : List Nat} {f : Nat} {b a : Int} {kv : Value} (h : DS N w0 w v l f b a kv) (hb : Below w.heap.size w w') : DS N w0 w' v l f b a kv :=
 h.turn (h.rd.below hb) (Ch.of_below hb)
theorem DS.s0 {N : Nat} {w0 w : World} {v : Value} {l : List Nat} {f : Nat} {b a : Int} {kv : Value} (h : DS N w0 w v l f b a kv) (x : Int) : DS N w0 (w.setCell ⟨N + 2, 0, none⟩ (.int .i64 x)) v l f x a kv :=
 ⟨h.n, h.rd.setB (by omega) h.q.c0 (by intro x e; cases e) _, h.q.set0 x, h.kvs, h.z.ch (ch_set w (N + 2) 0 _) (by omega), h.below.trans ((ch_set w (N + 2) 0 _).to_below (Nat.le_of_lt (cell_lt h.z.c0)) (fun x hx => by omega))⟩
theorem DS.s1 {N : Nat} {w0 w : World} {v : Value} {l : List Nat} {f : Nat} {b a : Int} {kv : Value} (h : DS N w0 w v l f b a kv) (x : Int) : DS N w0 (w.setCell ⟨N + 2, 1, none⟩ (.int .i64 x)) v l f b x kv :=
 ⟨h.n, h.rd.setB (by omega) h.q.c1 (by intro x e; cases e) _, h.q.set1 x, h.kvs, h.z.ch (ch_set w (N + 2) 1 _) (by omega), h.below.trans ((ch_set w (N + 2) 1 _).to_below (Nat.le_of_lt (cell_lt h.z.c0)) (fun x hx => by omega))⟩
theorem DS.s2 {N : Nat} {w0 w : World} {v : Value} {l : List Nat} {f : Nat} {b a : Int} {kv : Value} (h : DS N w0 w v l f b a kv) (x : Value) (hx : ∀ y, x ≠ .int .u8 y) : DS N w0 (w.setCell ⟨N + 2, 2, none⟩ x) v l f b a x :=
 ⟨h.n, h.rd.setB (by omega) h.q.c2 h.kvs _, h.q.set2 x, hx, h.z.ch (ch_set w (N + 2) 2 _) (by omega), h.below.trans ((ch_set w (N + 2) 2 _).to_below (Nat.le_of_lt (cell_lt h.z.c0)) (fun x hx => by omega))⟩
def DGot (l : List Nat) (w : World) (e : Ending) (w' : World) : Prop :=
 ∃ v, e = .returned (.tuple #[.agg #[.int .i64 (decM l).1.b, .int .i64 (decM l).1.a, v], .int .i64 ((decM l).2 : Nat)]) ∧ w'.ownsRow w.heap.size 33 1 v (decM l).1.k.length ((ib (decM l).1.k).map (Value.int .u64)) ∧ Below w.heap.size w w'
theorem dgot_bad {l : List Nat} {w w' : World} {e : Nat} {x : Int} (h : (decM l).2 = e) (h0 : e ≠ 0) (hx : x = e) (hb : Below w.heap.size w w') : DGot l w (.returned (.tuple #[.agg #[.int .i64 0, .int .i64 0, .slice none 0 0], .int .i64 x])) w' := by
 subst hx
 have hz := decM_bad (l := l) (by rw [h]; exact h0)
 exact ⟨_, by rw [hz, h]; rfl, by rw [hz]; exact ⟨rfl, .inl ⟨rfl, rfl⟩⟩, hb⟩
theorem dgot_ok {l ks : List Nat} {b a : Int} {v : Value} {w w' : World} (h : decM l = (⟨b, a, ks⟩, 0)) (ho : w'.ownsRow w.heap.size 33 1 v ks.length ((ib ks).map (Value.int .u64))) (hb : Below w.heap.size w w') : DGot l w (.returned (.tuple #[.agg #[.int .i64 b, .int .i64 a, v], .int .i64 0])) w' :=
 ⟨v, by rw [h]; rfl, by rw [h]; exact ho, hb⟩
theorem bv_block {w : World} {v : Value} {l : List Nat} (hv : Bv w v l) : ∀ x, v.ownBlock = some x → l ≠ [] → x < w.heap.size := by
 intro x hx hne
 obtain ⟨⟨ao, cap, e, h1, h2, h3, h4⟩, h5⟩ := hv
 obtain ⟨b, off, e1, e2⟩ := h4 0 (by rw [ib_len]; cases l with | nil => exact absurd rfl hne | cons _ _ => simp)
 subst e1
 subst e
 cases hx
 exact cell_lt e2
theorem ds_new {w : World} {v : Value} {l : List Nat} (hv : Bv w v l) :
  DS w.heap.size w (((w.alloc (Obj.cells #[.int .i64 0, .int .i64 0, .slice none 0 0] 42)).alloc (Obj.cells #[v, .int .i64 0] 127)).alloc (Obj.cells #[.int .i64 0, .int .i64 0, .slice none 0 0] 42)) v l 0 0 0 (.slice none 0 0) := by
 have hB : Below w.heap.size w (((w.alloc (Obj.cells #[.int .i64 0, .int .i64 0, .slice none 0 0] 42)).alloc (Obj.cells #[v, .int .i64 0] 127)).alloc (Obj.cells #[.int .i64 0, .int .i64 0, .slice none 0 0] 42)) :=
  below_trans (below_trans (below_alloc _ _) (below_alloc _ _)) (below_alloc _ _)
 refine ⟨rfl, ⟨by simp [go_sem], by simp [go_sem], by intro j; simp [go_sem], hv.below hB, bv_block hv⟩, ?_, (by intro x e; cases e), ?_, hB⟩
 ·have h := mb_new ((w.alloc (Obj.cells #[.int .i64 0, .int .i64 0, .slice none 0 0] 42)).alloc (Obj.cells #[v, .int .i64 0] 127)) 0 0 (.slice none 0 0)
  rw [size_allocC, size_allocC] at h
  exact h
 ·exact ((mb_new w 0 0 (.slice none 0 0)).keep (below_alloc _ _)).keep (below_alloc _ _)
theorem below_set3 {w : World} {N : Nat} {x y z : Value} (h : N < w.heap.size) : Below N w (((w.setCell ⟨N, 0, none⟩ x).setCell ⟨N, 1, none⟩ y).setCell ⟨N, 2, none⟩ z).drew := by
 have k1 := ch_set w N 0 x
 have k2 := ch_set (w.setCell ⟨N, 0, none⟩ x) N 1 y
 have k3 := ch_set ((w.setCell ⟨N, 0, none⟩ x).setCell ⟨N, 1, none⟩ y) N 2 z
 exact (((k1.self k2).self k3).to_below (Nat.le_of_lt h) (fun x hx => by omega)).drew
theorem slice_notu8 {ao : Option Addr} {n cap : Nat} : ∀ x, Value.slice ao n cap ≠ .int .u8 x := by intro x e; cases e
theorem mdec_walk {w : World} {v : Value} {l : List Nat} (hv : Bv w v l) :
  Calls Tryz.prog 29 #[v] w (DGot l w) := by
 obtain ⟨N, hN⟩ : ∃ N, N = w.heap.size := ⟨_, rfl⟩
 have H0 := ds_new hv
 rw [← hN] at H0
 replace H0 : Hid _ := H0
 obtain ⟨ao, n, cap, rfl⟩ := bv_any hv
 clear hv
 go_in
 go_upto_region 3 with fail
 rw [← hN, show N + 1 + 1 = N + 2 from rfl]
 have HN : Hid (N = w.heap.size) := hN
 clear hN
 generalize (((w.alloc (Obj.cells #[.int .i64 0, .int .i64 0, .slice none 0 0] 42)).alloc (Obj.cells #[.slice ao n cap, .int .i64 0] 127)).alloc (Obj.cells #[.int .i64 0, .int .i64 0, .slice none 0 0] 42)) = w1 at H0 ⊢
 go_wp2_with fail
 refine (count_walk H0.out.rd).mono ?_
 rintro e9 w2 ⟨rfl, ⟨v2, hR2⟩, hC2⟩
 have H2 : Hid _ := H0.out.turn hR2 hC2
 clear hR2 hC2 H0
 have HE : Hid _ := @dec_end l
 obtain ⟨xb, hxb⟩ : ∃ xb, xb = wrap64 ((Wm.take l).1 : Nat) := ⟨_, rfl⟩
 rw [← hxb] at HE ⊢
 clear hxb
 obtain ⟨l2, hl2⟩ : ∃ l2, l2 = numL l := ⟨_, rfl⟩
 obtain ⟨f2, hf2⟩ : ∃ f2, f2 = cntF l 0 := ⟨_, rfl⟩
 rw [← hl2, ← hf2] at H2
 rw [← hl2, ← hf2] at HE
 clear hl2 hf2
 have c0 := H2.out.q.c0
 have z0 := H2.out.q.z 0
 have H3 : Hid _ := H2.out.s0 xb
 clear H2
 go_wp2_with fail
 refine (count_walk H3.out.rd).mono ?_
 clear c0 z0
 rintro e9 w4 ⟨rfl, ⟨v4, hR4⟩, hC4⟩
 have H4 : Hid _ := H3.out.turn hR4 hC4
 clear hR4 hC4 H3
 obtain ⟨xa, hxa⟩ : ∃ xa, xa = wrap64 ((Wm.take l2).1 : Nat) := ⟨_, rfl⟩
 rw [← hxa] at HE ⊢
 clear hxa
 obtain ⟨l4, hl4⟩ : ∃ l4, l4 = numL l2 := ⟨_, rfl⟩
 obtain ⟨f4, hf4⟩ : ∃ f4, f4 = cntF l2 f2 := ⟨_, rfl⟩
 rw [← hl4, ← hf4] at H4
 rw [← hl4, ← hf4] at HE
 clear hl4 hf4
 have c0 := H4.out.q.c1
 have z0 := H4.out.q.z 1
 have H5 : Hid _ := H4.out.s1 xa
 clear H4
 go_wp2_with fail
 refine (keys_walkM H5.out.rd (by omega)).mono ?_
 clear c0 z0
 rintro e9 w6 ⟨kv, v6, ks, l6, f6, rfl, hO, hR6, hC6, hKL⟩
 have HEE : Hid _ := HE.out hKL
 clear hKL HE
 have H6 : Hid _ := H5.out.turn hR6 hC6
 have h1 : N + 2 < w4.heap.size := by have := cell_lt H5.out.q.c0; rw [mark_sizeS] at this; exact this
 have HO6 : Hid (w6.ownsRow (N + 3) 33 1 kv ks.length ((ib ks).map (Value.int .u64))) := own_baseC hO (by rw [mark_sizeS]; omega)
 clear h1
 clear hO hR6 hC6 H5
 obtain ⟨ka, kn, kc, rfl⟩ := sv_any (own_sv HO6.out)
 have c0 := H6.out.q.c2
 have z0 := H6.out.q.z 2
 have H7 : Hid _ := H6.out.s2 (.slice ka kn kc) slice_notu8
 have HO7 : Hid _ := own_ch HO6.out (ch_set w6 (N + 2) 2 (.slice ka kn kc)) (fun x hx => by omega)
 clear H6 HO6
 obtain ⟨ra, rn, rc, hvv⟩ := bv_any H7.out.rd.bv
 subst hvv
 obtain ⟨hln, _, _⟩ := bv_le H7.out.rd.bv
 have HLN : Hid (rn = l6.length) := hln
 clear hln
 go_upto_region 6 with fail
 generalize w6.setCell ⟨N + 2, 2, none⟩ (.slice ka kn kc) = w7 at H7 HO7 ⊢
 clear c0 z0
 have s0 := H7.out.rd.c0
 go_wp2_with fail
 refine (refuse_walkM H7.out.rd _ 5).mono ?_
 rw [show refu (decide (0 < rn)) 5 f6 = refu (decide (0 < l6.length)) 5 f6 by rw [HLN.out]]
 rintro e9 w8 ⟨rfl, hR8, hC8⟩
 have H8 : Hid _ := H7.out.turn hR8 hC8
 have HO8 : Hid _ := own_ch HO7.out hC8 (fun x hx => by omega)
 clear hR8 hC8 H7 HO7 s0
 have q0 := H8.out.q.c0
 have q1 := H8.out.q.c1
 have q2 := H8.out.q.c2
 go_wp2_with fail
 refine (sound_walkM (own_sv HO8.out) xb xa).mono ?_
 rintro e9 w9 ⟨rfl, hB9⟩
 have H9 : Hid _ := H8.out.old hB9
 have HO9 : Hid _ := own_belowC HO8.out hB9
 clear hB9 H8 HO8 q0 q1 q2
 go_wp2_with fail
 refine (refuse_walkM H9.out.rd _ 1).mono ?_
 rw [show refu (!soundBM ⟨xb, xa, ks⟩) 1 (refu (decide (0 < l6.length)) 5 f6) = endF xb xa ks l6 f6 from rfl]
 rintro e9 w10 ⟨rfl, hR10, hC10⟩
 have H10 : Hid _ := H9.out.turn hR10 hC10
 have HO10 : Hid _ := own_ch HO9.out hC10 (fun x hx => by omega)
 clear hR10 hC10 H9 HO9
 obtain ⟨F, hF⟩ : ∃ F, F = endF xb xa ks l6 f6 := ⟨_, rfl⟩
 rw [← hF] at H10 HEE
 clear hF
 have s1 := H10.out.rd.c1
 have z0 := H10.out.z.c0
 have z1 := H10.out.z.c1
 have z2 := H10.out.z.c2
 have y0 := H10.out.z.z 0
 have y1 := H10.out.z.z 1
 have y2 := H10.out.z.z 2
 by_cases hf : F = 0
 ·subst hf
  have HD : Hid _ := HEE.out.2 rfl
  have q0 := H10.out.q.c0
  have q1 := H10.out.q.c1
  have q2 := H10.out.q.c2
  clear HEE
  go_wp2_with fail
  (try simp only [Exit.inBlock, Exit.then])
  refine bodyPost_ret (v := .tuple #[.agg #[.int .i64 xb, .int .i64 xa, .slice ka kn kc], .int .i64 0]) (by rw [results_cell_tmp rfl]; go_simp) rfl ?_
  have k1 := ch_set w10 N 0 (.int .i64 xb)
  have k2 := ch_set (w10.setCell ⟨N, 0, none⟩ (.int .i64 xb)) N 1 (.int .i64 xa)
  have k3 := ch_set ((w10.setCell ⟨N, 0, none⟩ (.int .i64 xb)).setCell ⟨N, 1, none⟩ (.int .i64 xa)) N 2 (.slice ka kn kc)
  have k := (k1.self k2).self k3
  exact dgot_ok HD.out (own_baseC (own_ch HO10.out k (fun x hx => by omega)) (by rw [← HN.out]; omega)) (by
   rw [← HN.out]
   exact H10.out.below.trans (k.to_below (Nat.le_of_lt (cell_lt z0)) (fun x hx => by omega)))
 ·have HNE : Hid (F ≠ 0) := hf
  have HD : Hid _ := HEE.out.1 hf
  have hfi : (((F : Nat) : Int) != 0) = true := by rw [bne_iff_ne]; omega
  have s2 : ∀ n, (w10.drewN n).cell? ⟨N + 1, 1, none⟩ = some (.int .i64 (F : Nat)) := fun _ => s1
  clear HEE
  go_wp2_with fail
  go_region_with (fail)
  all_goals
   go_wp2_with fail
   (try simp only [Exit.inBlock, Exit.then])
   refine bodyPost_ret (v := .tuple #[.agg #[.int .i64 0, .int .i64 0, .slice none 0 0], .int .i64 (F : Nat)]) (by rw [results_cell_tmp rfl]; go_simp) rfl ?_
   exact dgot_bad HD.out HNE.out rfl (by
    rw [← HN.out]
    exact H10.out.below.trans (below_set3 (cell_lt z0)))
end
end Go.Proofs.YtofkhgokfdpdiabGreat
