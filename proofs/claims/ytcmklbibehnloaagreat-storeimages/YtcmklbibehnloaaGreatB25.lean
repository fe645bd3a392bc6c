/- A store in memory; contracts of page, cells, Mark, Used, Ended. -/
import Derived.Test.YtcmklbibehnloaaGreatB24
import Derived.Test.YtcmklbibehnloaaGreatB23
set_option maxRecDepth 100000
set_option maxHeartbeats 16000000
namespace Go.Proofs.YtcmklbibehnloaaGreat
open Go.RowKit
/-! The mathematics: the reader's faults are decM's. -/
theorem cntF_old {l : List Nat} {f : Nat} (h : f ≠ 0) : cntF l f = f := by unfold cntF numF; rw [refu_old h, refu_old h]
theorem lngF_old {l : List Nat} {f : Nat} (h : f ≠ 0) : lngF l f = f := by unfold lngF numF; rw [refu_old h, refu_old h]
theorem cntF_new (l : List Nat) : cntF l 0 = (cntL l).1 := by
 unfold cntF numF cntL;by_cases h : (Wm.take l).2.2 = 0
 ·rw [h];by_cases h2 : 1099511627776 < (Wm.take l).1 <;> simp [refu, h2]
 ·simp [refu, h]
theorem cntL_num {l : List Nat} (h : (cntL l).1 = 0) : (cntL l).2.1 = (Wm.take l).1 ∧ (cntL l).2.2 = numL l ∧ (Wm.take l).1 ≤ 1099511627776 := by
 unfold cntL at h ⊢;by_cases h1 : (Wm.take l).2.2 = 0
 ·by_cases h2 : 1099511627776 < (Wm.take l).1
  ·simp [h1, h2] at h
  ·simp [h1, h2, numL]; omega
 ·simp [h1] at h
theorem lngF_new (l : List Nat) : lngF l 0 = if (Wm.take l).2.2 ≠ 0 then (Wm.take l).2.2 else if 64 < (Wm.take l).1 then 6 else 0 := by
 unfold lngF numF;by_cases h : (Wm.take l).2.2 = 0
 ·rw [h];by_cases h2 : 64 < (Wm.take l).1 <;> simp [refu, h2]
 ·simp [refu, h]
theorem wrap_cnt {x : Nat} (h : x ≤ 1099511627776) : wrap64 (x : Int) = (x : Int) := by unfold wrap64; omega
def endF (b a : Int) (ks l' : List Nat) (f' : Nat) : Nat := refu (!soundBM ⟨b, a, ks⟩) 1 (refu (decide (0 < l'.length)) 5 f')
theorem endF_old {b a : Int} {ks l' : List Nat} {f : Nat} (h : f ≠ 0) : endF b a ks l' f = f := by unfold endF; rw [refu_old (by rw [refu_old h]; exact h), refu_old h]
theorem kleft_old {x f1 f' : Nat} {l1 ks l' : List Nat} (h : KLeft x f1 l1 ks l' f') (h0 : f1 ≠ 0) : f' = f1 := by
 rcases h with ⟨_, h⟩ | ⟨h, _⟩
 ·exact h
 ·exact absurd h h0
theorem dec_end {l ks l' : List Nat} {f' : Nat} (hk : KLeft (Wm.take (numL (numL l))).1 (lngF (numL (numL l)) (cntF (numL l) (cntF l 0))) (numL (numL (numL l))) ks l' f') :
  (endF (wrap64 ((Wm.take l).1 : Nat)) (wrap64 ((Wm.take (numL l)).1 : Nat)) ks l' f' ≠ 0 → (decM l).2 = endF (wrap64 ((Wm.take l).1 : Nat)) (wrap64 ((Wm.take (numL l)).1 : Nat)) ks l' f') ∧
  (endF (wrap64 ((Wm.take l).1 : Nat)) (wrap64 ((Wm.take (numL l)).1 : Nat)) ks l' f' = 0 → decM l = (⟨wrap64 ((Wm.take l).1 : Nat), wrap64 ((Wm.take (numL l)).1 : Nat), ks⟩, 0)) := by
 rw [cntF_new] at hk;by_cases h1 : (cntL l).1 = 0
 ·obtain ⟨a1, a2, a3⟩ := cntL_num h1;rw [h1, cntF_new] at hk;rw [wrap_cnt a3];unfold decM;rw [if_neg (by omega), a1, a2];unfold decA;by_cases h2 : (cntL (numL l)).1 = 0
  ·obtain ⟨b1, b2, b3⟩ := cntL_num h2;rw [h2, lngF_new] at hk;rw [wrap_cnt b3, if_neg (by omega), b1, b2];unfold decK;by_cases h3 : (Wm.take (numL (numL l))).2.2 = 0
   ·rw [if_neg (by omega)] at hk ⊢;by_cases h4 : 64 < (Wm.take (numL (numL l))).1
    ·rw [if_pos h4] at hk ⊢;have e := kleft_old hk (by decide);subst e;rw [endF_old (by decide)];exact ⟨fun _ => rfl, fun h => absurd h (by decide)⟩
    ·rw [if_neg h4] at hk ⊢;rw [show (numL (numL l)).drop (Wm.take (numL (numL l))).2.1 = numL (numL (numL l)) from rfl];rcases hk with ⟨h, _⟩ | ⟨_, ⟨e1, e2, e3, e4⟩ | ⟨e1, e2⟩⟩
     ·exact absurd rfl h
     ·subst e1;unfold decE;rw [if_neg (by omega), ← e3, ← e4];by_cases h5 : l'.length = 0
      ·rw [if_neg (by omega)];unfold endF;rw [show decide (0 < l'.length) = false from decide_eq_false (by omega), refu_no]
       cases hs : soundBM ⟨((Wm.take l).1 : Nat), ((Wm.take (numL l)).1 : Nat), ks⟩
       ·rw [if_pos rfl];exact ⟨fun _ => rfl, fun h => absurd h (by decide)⟩
       ·rw [if_neg (by simp)];exact ⟨fun h => absurd rfl h, fun _ => rfl⟩
      ·rw [if_pos h5];unfold endF;rw [show decide (0 < l'.length) = true from decide_eq_true (by omega), refu_yes, refu_old (by decide)];exact ⟨fun _ => rfl, fun h => absurd h (by decide)⟩
     ·rw [endF_old e1];unfold decE;rw [if_pos (by rw [e2]; exact e1), e2];exact ⟨fun _ => rfl, fun h => absurd h e1⟩
   ·rw [if_pos h3] at hk ⊢;have e := kleft_old hk h3;rw [e, endF_old h3];exact ⟨fun _ => rfl, fun h => absurd h h3⟩
  ·rw [lngF_old h2] at hk;have e := kleft_old hk h2;rw [e, endF_old h2, if_pos h2];exact ⟨fun _ => rfl, fun h => absurd h h2⟩
 ·rw [cntF_old h1, lngF_old h1] at hk;have e := kleft_old hk h1;rw [e, endF_old h1];unfold decM;rw [if_pos h1];exact ⟨fun _ => rfl, fun h => absurd h h1⟩
/-! The blocks of Decode: N its result, N + 1 the reader, N + 2 the mark. -/
theorem MB.ch {D : Nat → Prop} {w w' : World} {P : Nat} {b a : Int} {v : Value} (h : MB w P b a v) (hc : Ch D w w') (hd : ¬ D P) : MB w' P b a v :=
 ⟨hc.cell h.c0 hd, hc.cell h.c1 hd, hc.cell h.c2 hd, fun j => by
  have e := hc.block P (cell_lt h.c0) hd;have hz := h.z j;unfold World.frozen? at hz ⊢;rw [e]; exact hz⟩
theorem MB.set0 {w : World} {P : Nat} {b a : Int} {v : Value} (h : MB w P b a v) (x : Int) : MB (w.setCell ⟨P, 0, none⟩ (.int .i64 x)) P x a v :=
 ⟨by simp [go_sem, h.c0], by rw [World.cell?_setCell_other _ _ _ _ (by rintro ⟨⟩)]; exact h.c1, by rw [World.cell?_setCell_other _ _ _ _ (by rintro ⟨⟩)]; exact h.c2, fun j => by simpa [go_sem] using h.z j⟩
theorem MB.set1 {w : World} {P : Nat} {b a : Int} {v : Value} (h : MB w P b a v) (x : Int) : MB (w.setCell ⟨P, 1, none⟩ (.int .i64 x)) P b x v :=
 ⟨by rw [World.cell?_setCell_other _ _ _ _ (by rintro ⟨⟩)]; exact h.c0, by simp [go_sem, h.c1], by rw [World.cell?_setCell_other _ _ _ _ (by rintro ⟨⟩)]; exact h.c2, fun j => by simpa [go_sem] using h.z j⟩
theorem MB.set2 {w : World} {P : Nat} {b a : Int} {v : Value} (h : MB w P b a v) (x : Value) : MB (w.setCell ⟨P, 2, none⟩ x) P b a x :=
 ⟨by rw [World.cell?_setCell_other _ _ _ _ (by rintro ⟨⟩)]; exact h.c0, by rw [World.cell?_setCell_other _ _ _ _ (by rintro ⟨⟩)]; exact h.c1, by simp [go_sem, h.c2], fun j => by simpa [go_sem] using h.z j⟩
theorem mark_sizeS (w : World) (p : Addr) (u : Value) : (w.setCell p u).heap.size = w.heap.size := by simp [go_sem]
structure DS (N : Nat) (w0 w : World) (v : Value) (l : List Nat) (f : Nat) (b a : Int) (kv : Value) : Prop where
 n : N = w0.heap.size
 rd : RDM N w (N + 1) v l f
 q : MB w (N + 2) b a kv
 kvs : ∀ x, kv ≠ .int .u8 x
 z : MB w N 0 0 (.slice none 0 0)
 below : Below N w0 w
theorem DS.turn {N : Nat} {w0 w w' : World} {v v' : Value} {l l' : List Nat} {f f' : Nat} {b a : Int} {kv : Value} (h : DS N w0 w v l f b a kv) (hr : RDM N w' (N + 1) v' l' f') (hc : Ch (fun x => x = N + 1) w w') : DS N w0 w' v' l' f' b a kv :=
 ⟨h.n, hr, h.q.ch hc (by simp), h.kvs, h.z.ch hc (by simp), h.below.trans (hc.to_below (Nat.le_of_lt (cell_lt h.z.c0)) (fun x hx => by omega))⟩
theorem DS.old {N : Nat} {w0 w w' : World} {v : Value} {l : List Nat} {f : Nat} {b a : Int} {kv : Value} (h : DS N w0 w v l f b a kv) (hb : Below w.heap.size w w') : DS N w0 w' v l f b a kv :=
 h.turn (h.rd.below hb) (Ch.of_below hb)
theorem DS.s0 {N : Nat} {w0 w : World} {v : Value} {l : List Nat} {f : Nat} {b a : Int} {kv : Value} (h : DS N w0 w v l f b a kv) (x : Int) : DS N w0 (w.setCell ⟨N + 2, 0, none⟩ (.int .i64 x)) v l f x a kv :=
 ⟨h.n, h.rd.setB (by omega) h.q.c0 (by intro x e; cases e) _, h.q.set0 x, h.kvs, h.z.ch (ch_set w (N + 2) 0 _) (by omega), h.below.trans ((ch_set w (N + 2) 0 _).to_below (Nat.le_of_lt (cell_lt h.z.c0)) (fun x hx => by omega))⟩
theorem DS.s1 {N : Nat} {w0 w : World} {v : Value} {l : List Nat} {f : Nat} {b a : Int} {kv : Value} (h : DS N w0 w v l f b a kv) (x : Int) : DS N w0 (w.setCell ⟨N + 2, 1, none⟩ (.int .i64 x)) v l f b x kv :=
 ⟨h.n, h.rd.setB (by omega) h.q.c1 (by intro x e; cases e) _, h.q.set1 x, h.kvs, h.z.ch (ch_set w (N + 2) 1 _) (by omega), h.below.trans ((ch_set w (N + 2) 1 _).to_below (Nat.le_of_lt (cell_lt h.z.c0)) (fun x hx => by omega))⟩
theorem DS.s2 {N : Nat} {w0 w : World} {v : Value} {l : List Nat} {f : Nat} {b a : Int} {kv : Value} (h : DS N w0 w v l f b a kv) (x : Value) (hx : ∀ y, x ≠ .int .u8 y) : DS N w0 (w.setCell ⟨N + 2, 2, none⟩ x) v l f b a x :=
 ⟨h.n, h.rd.setB (by omega) h.q.c2 h.kvs _, h.q.set2 x, hx, h.z.ch (ch_set w (N + 2) 2 _) (by omega), h.below.trans ((ch_set w (N + 2) 2 _).to_below (Nat.le_of_lt (cell_lt h.z.c0)) (fun x hx => by omega))⟩
def DGot (l : List Nat) (w : World) (e : Ending) (w' : World) : Prop :=
 ∃ v, e = .returned (.tuple #[.agg #[.int .i64 (decM l).1.b, .int .i64 (decM l).1.a, v], .int .i64 ((decM l).2 : Nat)]) ∧ w'.ownsRow w.heap.size 37 1 v (decM l).1.k.length ((ib (decM l).1.k).map (Value.int .u64)) ∧ Below w.heap.size w w'
theorem dgot_bad {l : List Nat} {w w' : World} {e : Nat} {x : Int} (h : (decM l).2 = e) (h0 : e ≠ 0) (hx : x = e) (hb : Below w.heap.size w w') : DGot l w (.returned (.tuple #[.agg #[.int .i64 0, .int .i64 0, .slice none 0 0], .int .i64 x])) w' := by
 subst hx;have hz := decM_bad (l := l) (by rw [h]; exact h0);exact ⟨_, by rw [hz, h]; rfl, by rw [hz]; exact ⟨rfl, .inl ⟨rfl, rfl⟩⟩, hb⟩
theorem dgot_ok {l ks : List Nat} {b a : Int} {v : Value} {w w' : World} (h : decM l = (⟨b, a, ks⟩, 0)) (ho : w'.ownsRow w.heap.size 37 1 v ks.length ((ib ks).map (Value.int .u64))) (hb : Below w.heap.size w w') : DGot l w (.returned (.tuple #[.agg #[.int .i64 b, .int .i64 a, v], .int .i64 0])) w' :=
 ⟨v, by rw [h]; rfl, by rw [h]; exact ho, hb⟩
theorem bv_block {w : World} {v : Value} {l : List Nat} (hv : Bv w v l) : ∀ x, v.ownBlock = some x → l ≠ [] → x < w.heap.size := by
 intro x hx hne;obtain ⟨⟨ao, cap, e, h1, h2, h3, h4⟩, h5⟩ := hv;obtain ⟨b, off, e1, e2⟩ := h4 0 (by rw [ib_len]; cases l with | nil => exact absurd rfl hne | cons _ _ => simp);subst e1;subst e
 cases hx
 exact cell_lt e2
theorem ds_new {w : World} {v : Value} {l : List Nat} (hv : Bv w v l) :
  DS w.heap.size w (((w.alloc (Obj.cells #[.int .i64 0, .int .i64 0, .slice none 0 0] 65)).alloc (Obj.cells #[v, .int .i64 0] 173)).alloc (Obj.cells #[.int .i64 0, .int .i64 0, .slice none 0 0] 65)) v l 0 0 0 (.slice none 0 0) := by
 have hB : Below w.heap.size w (((w.alloc (Obj.cells #[.int .i64 0, .int .i64 0, .slice none 0 0] 65)).alloc (Obj.cells #[v, .int .i64 0] 173)).alloc (Obj.cells #[.int .i64 0, .int .i64 0, .slice none 0 0] 65)) :=
  below_trans (below_trans (below_alloc _ _) (below_alloc _ _)) (below_alloc _ _)
 refine ⟨rfl, ⟨by simp [go_sem], by simp [go_sem], by intro j; simp [go_sem], hv.below hB, bv_block hv⟩, ?_, (by intro x e; cases e), ?_, hB⟩
 ·have h := mb_new ((w.alloc (Obj.cells #[.int .i64 0, .int .i64 0, .slice none 0 0] 65)).alloc (Obj.cells #[v, .int .i64 0] 173)) 0 0 (.slice none 0 0);rw [size_allocC, size_allocC] at h;exact h
 ·exact ((mb_new w 0 0 (.slice none 0 0)).keep (below_alloc _ _)).keep (below_alloc _ _)
theorem below_set3 {w : World} {N : Nat} {x y z : Value} (h : N < w.heap.size) : Below N w (((w.setCell ⟨N, 0, none⟩ x).setCell ⟨N, 1, none⟩ y).setCell ⟨N, 2, none⟩ z).drew := by
 have k1 := ch_set w N 0 x;have k2 := ch_set (w.setCell ⟨N, 0, none⟩ x) N 1 y;have k3 := ch_set ((w.setCell ⟨N, 0, none⟩ x).setCell ⟨N, 1, none⟩ y) N 2 z;exact (((k1.self k2).self k3).to_below (Nat.le_of_lt h) (fun x hx => by omega)).drew
theorem slice_notu8 {ao : Option Addr} {n cap : Nat} : ∀ x, Value.slice ao n cap ≠ .int .u8 x := by intro x e; cases e
theorem mdec_walk {w : World} {v : Value} {l : List Nat} (hv : Bv w v l) :
  Calls Tryz.prog 78 #[v] w (DGot l w) := by
 obtain ⟨N, hN⟩ : ∃ N, N = w.heap.size := ⟨_, rfl⟩;have H0 := ds_new hv;rw [← hN] at H0;replace H0 : Hid _ := H0;obtain ⟨ao, n, cap, rfl⟩ := bv_any hv;clear hv;go_in;go_upto_region 3 with fail
 rw [← hN, show N + 1 + 1 = N + 2 from rfl];have HN : Hid (N = w.heap.size) := hN;clear hN;generalize (((w.alloc (Obj.cells #[.int .i64 0, .int .i64 0, .slice none 0 0] 65)).alloc (Obj.cells #[.slice ao n cap, .int .i64 0] 173)).alloc (Obj.cells #[.int .i64 0, .int .i64 0, .slice none 0 0] 65)) = w1 at H0 ⊢;go_wp2_with fail;refine (count_walk H0.out.rd).mono ?_;rintro e9 w2 ⟨rfl, ⟨v2, hR2⟩, hC2⟩;have H2 : Hid _ := H0.out.turn hR2 hC2;clear hR2 hC2 H0;have HE : Hid _ := @dec_end l;obtain ⟨xb, hxb⟩ : ∃ xb, xb = wrap64 ((Wm.take l).1 : Nat) := ⟨_, rfl⟩;rw [← hxb] at HE ⊢;clear hxb;obtain ⟨l2, hl2⟩ : ∃ l2, l2 = numL l := ⟨_, rfl⟩;obtain ⟨f2, hf2⟩ : ∃ f2, f2 = cntF l 0 := ⟨_, rfl⟩;rw [← hl2, ← hf2] at H2;rw [← hl2, ← hf2] at HE;clear hl2 hf2;have c0 := H2.out.q.c0;have z0 := H2.out.q.z 0;have H3 : Hid _ := H2.out.s0 xb;clear H2;go_wp2_with fail;refine (count_walk H3.out.rd).mono ?_;clear c0 z0;rintro e9 w4 ⟨rfl, ⟨v4, hR4⟩, hC4⟩;have H4 : Hid _ := H3.out.turn hR4 hC4;clear hR4 hC4 H3;obtain ⟨xa, hxa⟩ : ∃ xa, xa = wrap64 ((Wm.take l2).1 : Nat) := ⟨_, rfl⟩;rw [← hxa] at HE ⊢;clear hxa;obtain ⟨l4, hl4⟩ : ∃ l4, l4 = numL l2 := ⟨_, rfl⟩;obtain ⟨f4, hf4⟩ : ∃ f4, f4 = cntF l2 f2 := ⟨_, rfl⟩;rw [← hl4, ← hf4] at H4;rw [← hl4, ← hf4] at HE;clear hl4 hf4;have c0 := H4.out.q.c1;have z0 := H4.out.q.z 1;have H5 : Hid _ := H4.out.s1 xa;clear H4;go_wp2_with fail;refine (keys_walkM H5.out.rd (by omega)).mono ?_;clear c0 z0;rintro e9 w6 ⟨kv, v6, ks, l6, f6, rfl, hO, hR6, hC6, hKL⟩;have HEE : Hid _ := HE.out hKL;clear hKL HE;have H6 : Hid _ := H5.out.turn hR6 hC6;have h1 : N + 2 < w4.heap.size := by have := cell_lt H5.out.q.c0; rw [mark_sizeS] at this; exact this
 have HO6 : Hid (w6.ownsRow (N + 3) 37 1 kv ks.length ((ib ks).map (Value.int .u64))) := own_baseC hO (by rw [mark_sizeS]; omega);clear h1;clear hO hR6 hC6 H5;obtain ⟨ka, kn, kc, rfl⟩ := sv_any (own_sv HO6.out);have c0 := H6.out.q.c2;have z0 := H6.out.q.z 2;have H7 : Hid _ := H6.out.s2 (.slice ka kn kc) slice_notu8;have HO7 : Hid _ := own_ch HO6.out (ch_set w6 (N + 2) 2 (.slice ka kn kc)) (fun x hx => by omega);clear H6 HO6;obtain ⟨ra, rn, rc, hvv⟩ := bv_any H7.out.rd.bv;subst hvv;obtain ⟨hln, _, _⟩ := bv_le H7.out.rd.bv;have HLN : Hid (rn = l6.length) := hln;clear hln;go_upto_region 6 with fail
 generalize w6.setCell ⟨N + 2, 2, none⟩ (.slice ka kn kc) = w7 at H7 HO7 ⊢;clear c0 z0;have s0 := H7.out.rd.c0;go_wp2_with fail;refine (refuse_walkM H7.out.rd _ 5).mono ?_;rw [show refu (decide (0 < rn)) 5 f6 = refu (decide (0 < l6.length)) 5 f6 by rw [HLN.out]];rintro e9 w8 ⟨rfl, hR8, hC8⟩;have H8 : Hid _ := H7.out.turn hR8 hC8;have HO8 : Hid _ := own_ch HO7.out hC8 (fun x hx => by omega);clear hR8 hC8 H7 HO7 s0;have q0 := H8.out.q.c0;have q1 := H8.out.q.c1;have q2 := H8.out.q.c2;go_wp2_with fail;refine (sound_walkM (own_sv HO8.out) xb xa).mono ?_;rintro e9 w9 ⟨rfl, hB9⟩;have H9 : Hid _ := H8.out.old hB9;have HO9 : Hid _ := own_belowC HO8.out hB9;clear hB9 H8 HO8 q0 q1 q2;go_wp2_with fail;refine (refuse_walkM H9.out.rd _ 1).mono ?_;rw [show refu (!soundBM ⟨xb, xa, ks⟩) 1 (refu (decide (0 < l6.length)) 5 f6) = endF xb xa ks l6 f6 from rfl];rintro e9 w10 ⟨rfl, hR10, hC10⟩;have H10 : Hid _ := H9.out.turn hR10 hC10;have HO10 : Hid _ := own_ch HO9.out hC10 (fun x hx => by omega);clear hR10 hC10 H9 HO9;obtain ⟨F, hF⟩ : ∃ F, F = endF xb xa ks l6 f6 := ⟨_, rfl⟩;rw [← hF] at H10 HEE;clear hF;have s1 := H10.out.rd.c1;have z0 := H10.out.z.c0;have z1 := H10.out.z.c1;have z2 := H10.out.z.c2;have y0 := H10.out.z.z 0;have y1 := H10.out.z.z 1;have y2 := H10.out.z.z 2;by_cases hf : F = 0
 ·subst hf;have HD : Hid _ := HEE.out.2 rfl;have q0 := H10.out.q.c0;have q1 := H10.out.q.c1;have q2 := H10.out.q.c2;clear HEE;go_wp2_with fail
  (try simp only [Exit.inBlock, Exit.then])
  refine bodyPost_ret (v := .tuple #[.agg #[.int .i64 xb, .int .i64 xa, .slice ka kn kc], .int .i64 0]) (by rw [results_cell_tmp rfl]; go_simp) rfl ?_;have k1 := ch_set w10 N 0 (.int .i64 xb);have k2 := ch_set (w10.setCell ⟨N, 0, none⟩ (.int .i64 xb)) N 1 (.int .i64 xa);have k3 := ch_set ((w10.setCell ⟨N, 0, none⟩ (.int .i64 xb)).setCell ⟨N, 1, none⟩ (.int .i64 xa)) N 2 (.slice ka kn kc);have k := (k1.self k2).self k3
  exact dgot_ok HD.out (own_baseC (own_ch HO10.out k (fun x hx => by omega)) (by rw [← HN.out]; omega)) (by
   rw [← HN.out];exact H10.out.below.trans (k.to_below (Nat.le_of_lt (cell_lt z0)) (fun x hx => by omega)))
 ·have HNE : Hid (F ≠ 0) := hf;have HD : Hid _ := HEE.out.1 hf;have hfi : (((F : Nat) : Int) != 0) = true := by rw [bne_iff_ne]; omega
  have s2 : ∀ n, (w10.drewN n).cell? ⟨N + 1, 1, none⟩ = some (.int .i64 (F : Nat)) := fun _ => s1;clear HEE;go_wp2_with fail;go_region_with (fail)
  all_goals
   go_wp2_with fail
   (try simp only [Exit.inBlock, Exit.then])
   refine bodyPost_ret (v := .tuple #[.agg #[.int .i64 0, .int .i64 0, .slice none 0 0], .int .i64 (F : Nat)]) (by rw [results_cell_tmp rfl]; go_simp) rfl ?_
   exact dgot_bad HD.out HNE.out rfl (by
    rw [← HN.out];exact H10.out.below.trans (below_set3 (cell_lt z0)))
section
def Rdd (k : Nat) (S S' : Dk) : Prop := ∃ r, S' = { S with rd := r } ∧ S.rd ≤ r ∧ r ≤ S.rd + k
section

variable {k j : Nat} {P : Bo} {S S' S'' : Dk} {p : Int}

theorem Rdd.refl (S : Dk) : Rdd k S S := ⟨S.rd, rfl, Nat.le_refl _, Nat.le_add_right _ _⟩
theorem Rdd.trans (h : Rdd k S S') (h' : Rdd j S' S'') : Rdd (k + j) S S'' := by
 obtain ⟨r, rfl, h1, h2⟩ := h;obtain ⟨s, rfl, h3, h4⟩ := h';exact ⟨s, rfl, Nat.le_trans h1 h3, by simp only at h4; omega⟩
theorem Rdd.mono (h : Rdd k S S') (hj : k ≤ j) : Rdd j S S' := by obtain ⟨r, e, h1, h2⟩ := h; exact ⟨r, e, h1, by omega⟩
theorem Rdd.bl (h : Rdd k S S') : S'.bl = S.bl := by obtain ⟨r, rfl, _⟩ := h; rfl
theorem Rdd.dn (h : Rdd k S S') : S'.down = S.down := by obtain ⟨r, rfl, _⟩ := h; rfl
theorem Rdd.wr (h : Rdd k S S') : S'.wr = S.wr := by obtain ⟨r, rfl, _⟩ := h; rfl
theorem Rdd.left (h : Rdd k S S') : S'.left = S.left := by obtain ⟨r, rfl, _⟩ := h; rfl
theorem Rdd.rd (h : Rdd k S S') : S'.rd ≤ S.rd + k := by obtain ⟨r, rfl, _, h⟩ := h; exact h
theorem rdd_ref (h : Rdd k S S') (i : Int) : refI S' i = refI S i := by unfold refI; rw [h.dn, h.bl]
theorem rdd_shut (h : Rdd k S S') : shutB P S' = shutB P S := by unfold shutB; rw [h.dn]
theorem rdd_getL (h : Rdd k S S') : getL P S' p = getL P S p := by unfold getL readL; rw [rdd_shut h, rdd_ref h, h.bl]
theorem getS_rdd : Rdd 1 S (getS P S p) := by
 unfold getS
 split
 ·exact Rdd.refl _
 ·split
  ·exact Rdd.refl _
  ·split
   ·exact Rdd.refl _
   ·unfold readS
    split
    ·exact ⟨S.rd + 1, rfl, by omega, Nat.le_refl _⟩
    ·exact Rdd.refl _
theorem getI_ok (hs : shutB P S = false) (h7 : P.tab.length = 7) (hk : P.ok S.bl.length) (h0 : 0 ≤ p) (hp : p < 7) : getI P S p = 0 := by
 have hd : S.down = false := by cases e : S.down; rfl; simp [shutB, e] at hs
 unfold getI;rw [if_neg (by rw [hs]; simp), if_neg (by unfold hasB; simp; omega)]
 split
 ·rfl
 ·rename_i hn
  have hi : p.toNat < P.tab.length := by omega
  exact ref_in hd (tok_lt hk.tok _ (tn_mem hi))
theorem getI_shut (hs : shutB P S = true) : getI P S p = 80 := by unfold getI; rw [if_pos hs]
theorem getB_ok (hs : shutB P S = false) : getB P S = P := by unfold getB; rw [if_neg (by rw [hs]; simp)]
end

def ST (A : Nat → Prop) (w : World) (sv dv : Value) (k : Int) (P : Bo) (S : Dk) : Prop :=
 ∃ sp bv, sv = .pointer (some ⟨sp, 0, none⟩) ∧ w.heap[sp]? = some (.cells #[bv, .int .i64 k] 84 (0, 0)) ∧ ¬ A sp ∧ BP A w bv dv P S ∧ P.tab.length = 7
section

variable {A : Nat → Prop} {w w' : World} {sv dv : Value} {k : Int} {P : Bo} {S : Dk}

theorem ST.ch {E : Nat → Prop} (h : ST A w sv dv k P S) (hc : Ch E w w') (hE : ∀ x, x < w.heap.size → ¬ E x) : ST A w' sv dv k P S := by
 obtain ⟨sp, bv, e, h1, h2, h3, h4⟩ := h;have hl := (Array.getElem?_eq_some_iff.1 h1).1;exact ⟨sp, bv, e, by rw [hc.block sp hl (hE sp hl)]; exact h1, h2, h3.ch hc (fun x hx => hE x (h3.lt hx)), h4⟩
theorem ST.below (h : ST A w sv dv k P S) (hb : Below w.heap.size w w') : ST A w' sv dv k P S := h.ch (E := fun _ => False) (Ch.of_below hb) (fun _ _ h => h)
theorem ST.lt (h : ST A w sv dv k P S) {x : Nat} (hx : A x) : x < w.heap.size := by
 obtain ⟨sp, bv, e, h1, h2, h3, h4⟩ := h;exact h3.lt hx
theorem ST.ok (h : ST A w sv dv k P S) : P.ok S.bl.length ∧ P.tab.length = 7 := by
 obtain ⟨sp, bv, e, h1, h2, h3, h4⟩ := h;exact ⟨h3.good, h4⟩
theorem ST.setB (h : ST A w sv dv k P S) {g i : Nat} {v : Value} (hg : ∀ x, x < w.heap.size → A x → x ≠ g) (hp : ∀ sp, sv = .pointer (some ⟨sp, 0, none⟩) → sp ≠ g) : ST A (w.setCell ⟨g, i, none⟩ v) sv dv k P S := by
 obtain ⟨sp, bv, e, h1, h2, h3, h4⟩ := h;have hc := ch_set w g i v;have hl := (Array.getElem?_eq_some_iff.1 h1).1;exact ⟨sp, bv, e, by rw [hc.block sp hl (hp sp e)]; exact h1, h2, h3.ch hc (fun x hx => hg x (h3.lt hx) hx), h4⟩
def PgGot (A : Nat → Prop) (w : World) (sv dv : Value) (k : Int) (P : Bo) (S : Dk) (p : Int) (e : Ending) (w' : World) : Prop :=
 ∃ r, e = .returned (.tuple #[r, .int .i64 (getI P S p)]) ∧ w'.ownsRow w.heap.size 5 1 r (getL P S p).length (cb (getL P S p)) ∧ ST A w' sv dv k (getB P S) (getS P S p) ∧ Ch A w w'
theorem page_nil (p : Int) (w : World) : Calls Tryz.prog 77 #[.pointer none, .int .i64 p] w fun e w' => e = .returned (.tuple #[.slice none 0 0, .int .i64 2]) ∧ w' = w := by
 go_in;go_wp2_with fail;go_ret2;exact ⟨rfl, rfl⟩
theorem page_walk (h : ST A w sv dv k P S) (p : Int) (hrd : S.rd < 9223372036854775807) : Calls Tryz.prog 77 #[sv, .int .i64 p] w (PgGot A w sv dv k P S p) := by
 obtain ⟨sp, bv, rfl, h1, h2, h3, h4⟩ := h;have HB : Hid (BP A w bv dv P S) := h3;have H1 : Hid (w.heap[sp]? = some (.cells #[bv, .int .i64 k] 84 (0, 0))) := h1;have H2 : Hid (¬ A sp) := h2;have H4 : Hid (P.tab.length = 7) := h4;have HRD := hidH hrd;have m0 : w.cell? ⟨sp, 0, none⟩ = some bv := by rw [cell_of_row w sp 0 _ _ (0, 0) h1]; rfl
 obtain ⟨D, pb, tv, hbv, _⟩ := h3;subst hbv;clear h1 h2 h4 hrd;go_in;go_wp2_with fail;refine (get_walk HB.out p HRD.out).mono ?_;rintro e w2 ⟨r, rfl, ho, hb, hc⟩;clear m0;go_wp2_with fail;go_ret2;have hl := (Array.getElem?_eq_some_iff.1 H1.out).1;exact ⟨r, rfl, ho, ⟨sp, _, rfl, by rw [hc.block sp hl H2.out]; exact H1.out, H2.out, hb, by unfold getB; split; exact H4.out; exact H4.out⟩, hc⟩
end

def decP (P : Bo) (S : Dk) : Nat → Option (List (List Cl))
 | 0 => some []
 | k + 1 => match decP P S k with
  | none => none
  | some l => if (decode (getL P S (1 + (k : Int)))).2 = 0 then some (l ++ [(decode (getL P S (1 + (k : Int)))).1]) else none
theorem decP_len {P : Bo} {S : Dk} : ∀ {k : Nat} {l : List (List Cl)}, decP P S k = some l → l.length = k := by
 intro k
 induction k with
 | zero => intro l h; cases h; rfl
 | succ k ih =>
  intro l h;unfold decP at h
  split at h
  ·cases h
  ·rename_i l' hl
   split at h
   ·cases h; simp [ih hl]
   ·cases h
theorem decP_no {P : Bo} {S : Dk} {k : Nat} (h : decP P S k = none) : ∀ j, decP P S (k + j) = none := by
 intro j
 induction j with
 | zero => exact h
 | succ j ih => rw [← Nat.add_assoc]; unfold decP; rw [ih]
theorem decP_bad {P : Bo} {S : Dk} {i : Nat} {l : List (List Cl)} (hi : i < 6) (h : decP P S i = some l) (hd : (decode (getL P S (1 + (i : Int)))).2 ≠ 0) : decP P S 6 = none := by
 have h1 : decP P S (i + 1) = none := by unfold decP; rw [h]; exact if_neg hd
 have h2 := decP_no h1 (6 - (i + 1));rw [show i + 1 + (6 - (i + 1)) = 6 by omega] at h2;exact h2
theorem decP_ok {P : Bo} {S : Dk} {i : Nat} {l : List (List Cl)} (h : decP P S i = some l) (hd : (decode (getL P S (1 + (i : Int)))).2 = 0) : decP P S (i + 1) = some (l ++ [(decode (getL P S (1 + (i : Int)))).1]) := by
 unfold decP; rw [h]; exact if_pos hd
theorem pad_set {l : List (List Cl)} {i : Nat} {x : List Cl} (hi : i < 6) (h : l.length = i) : (l ++ List.replicate (6 - i) []).set i x = (l ++ [x]) ++ List.replicate (6 - (i + 1)) [] := by
 rw [List.set_append_right _ _ (by omega), h, Nat.sub_self, show 6 - i = (6 - (i + 1)) + 1 by omega, List.replicate_succ, List.set_cons_zero];simp
theorem pad_at {l : List (List Cl)} {n j : Nat} : pgc (l ++ List.replicate n []) j = pgc l j := by
 unfold pgc;rw [List.getD_eq_getElem?_getD, List.getD_eq_getElem?_getD, List.getElem?_append]
 split
 ·rfl
 ·rename_i h
  rw [List.getElem?_replicate, List.getElem?_eq_none (l := l) (by omega)]
  split <;> rfl
theorem getL_lt {A : Nat → Prop} {w : World} {sv dv : Value} {k : Int} {P : Bo} {S : Dk} (h : ST A w sv dv k P S) (p : Int) : (getL P S p).length ≤ 1024 ∧ ∀ c ∈ getL P S p, c < 256 := by
 obtain ⟨sp, bv, e, h1, h2, ⟨D, pb, tv, e2, hb⟩, h4⟩ := h;have hk := hb.dsk.good;unfold getL
 split
 ·simp
 ·split
  ·simp
  ·split
   ·simp
   ·exact read_fit hk _
def nilS : Nat → Value := fun _ => .slice none 0 0
theorem nil_page (j : Nat) : pgc (List.replicate 6 []) j = [] := by
 unfold pgc;rw [List.getD_eq_getElem?_getD, List.getElem?_replicate]
 split <;> rfl
theorem sh_new (w : World) : SH (w.alloc (Obj.cells #[.slice none 0 0, .slice none 0 0, .slice none 0 0, .slice none 0 0, .slice none 0 0, .slice none 0 0] 87)) w.heap.size nilS (List.replicate 6 []) := by
 refine ⟨by simp, fun i hi => ?_, fun j => by simp [go_sem], fun i hi => by rw [nil_page]; exact Cv.nil _⟩;have : i = 0 ∨ i = 1 ∨ i = 2 ∨ i = 3 ∨ i = 4 ∨ i = 5 := by omega
 rcases this with rfl | rfl | rfl | rfl | rfl | rfl <;> simp [go_sem, nilS]
def ShGot (A : Nat → Prop) (w : World) (sv dv : Value) (k : Int) (P : Bo) (S : Dk) (e : Ending) (w' : World) : Prop :=
 ∃ (c : Nat) (f : Nat → Value) (S' : Dk), e = .returned (.tuple #[.agg #[f 0, f 1, f 2, f 3, f 4, f 5], .int .i64 c]) ∧ (∀ j, j < 6 → ∃ a n q, f j = .slice a n q) ∧ (∀ j, j < 6 → ∀ x, (f j).ownBlock = some x → w.heap.size ≤ x) ∧
  ((c = 80 ∧ shutB P S = true) ∨ (c = 133 ∧ shutB P S = false ∧ decP P S 6 = none) ∨ (c = 0 ∧ shutB P S = false ∧ ∃ Ls, decP P S 6 = some Ls ∧ ∀ j, j < 6 → Cv w' (f j) (pgc Ls j))) ∧ ST A w' sv dv k (getB P S) S' ∧ Rdd 6 S S' ∧ Ch A w w'
section

variable {A : Nat → Prop} {w w' : World} {sv dv : Value} {k : Int} {P : Bo} {S : Dk} {sp : Nat}

theorem ch_six {D : Nat → Prop} {w0 w1 : World} {g : Nat} (h : Ch D w0 w1) (hg : D g ∨ w0.heap.size ≤ g) (a b c d e f : Value) : Ch D w0 ((((((w1.setCell ⟨g, 0, none⟩ a).setCell ⟨g, 1, none⟩ b).setCell ⟨g, 2, none⟩ c).setCell ⟨g, 3, none⟩ d).setCell ⟨g, 4, none⟩ e).setCell ⟨g, 5, none⟩ f) := by
 have s : ∀ {x : World} (i : Nat) (u : Value), Ch D w0 x → Ch D w0 (x.setCell ⟨g, i, none⟩ u) := fun i u hx => hx.trans (ch_set _ g i u) (fun y hy => by subst hy; exact hg);exact s _ _ (s _ _ (s _ _ (s _ _ (s _ _ (s _ _ h)))))
theorem ST.six (h : ST A w (.pointer (some ⟨sp, 0, none⟩)) dv k P S) {g : Nat} (hg : ¬ A g) (hp : sp ≠ g) (a b c d e f : Value) : ST A ((((((w.setCell ⟨g, 0, none⟩ a).setCell ⟨g, 1, none⟩ b).setCell ⟨g, 2, none⟩ c).setCell ⟨g, 3, none⟩ d).setCell ⟨g, 4, none⟩ e).setCell ⟨g, 5, none⟩ f) (.pointer (some ⟨sp, 0, none⟩)) dv k P S := by
 have s : ∀ {x : World} (i : Nat) (u : Value), ST A x (.pointer (some ⟨sp, 0, none⟩)) dv k P S → ST A (x.setCell ⟨g, i, none⟩ u) (.pointer (some ⟨sp, 0, none⟩)) dv k P S := fun i u hx => hx.setB (fun y _ hA e => by subst e; exact hg hA) (fun s e => by cases e; exact hp);exact s _ _ (s _ _ (s _ _ (s _ _ (s _ _ (s _ _ h)))))
theorem SH.chA {D : Nat → Prop} {w w1 : World} {Q : Nat} {f : Nat → Value} {Ls : List (List Cl)} (h : SH w Q f Ls) (hc : Ch D w w1) (hq : ¬ D Q) (hf : ∀ j, j < 6 → ∀ x, (f j).ownBlock = some x → ¬ D x) : SH w1 Q f Ls :=
 ⟨h.len, fun i hi => hc.cell (h.c i hi) hq, fun j => by
  have e := hc.block Q h.lt hq;have hz := h.z j;unfold World.frozen? at hz ⊢;rw [e]; exact hz, fun i hi => (h.cv i hi).ch hc (hf i hi)⟩
theorem Cv.sixS {w : World} {R : Nat} {f : Nat → Value} {Ls : List (List Cl)} {v : Value} {l : List Cl} (h : Cv w v l) (hR : SH w R f Ls) (a b c d e g : Value) : Cv ((((((w.setCell ⟨R, 0, none⟩ a).setCell ⟨R, 1, none⟩ b).setCell ⟨R, 2, none⟩ c).setCell ⟨R, 3, none⟩ d).setCell ⟨R, 4, none⟩ e).setCell ⟨R, 5, none⟩ g) v l := by
 have n : ∀ i, i < 6 → ∀ c : Cl, f i ∉ clF c := fun i hi c => by obtain ⟨x, y, e⟩ := hR.form hi; rw [e]; exact slice_noCl c
 have o : ∀ {x : World} {i j : Nat} (u : Value), i ≠ j → x.cell? ⟨R, j, none⟩ = some (f j) → (x.setCell ⟨R, i, none⟩ u).cell? ⟨R, j, none⟩ = some (f j) := fun u hij hx => by rw [World.cell?_setCell_other _ _ _ _ (by rintro ⟨⟩; exact hij rfl)]; exact hx
 have h1 := h.set (hR.c 0 (by omega)) (n 0 (by omega)) a;have h2 := h1.set (o a (by omega) (hR.c 1 (by omega))) (n 1 (by omega)) b;have h3 := h2.set (o b (by omega) (o a (by omega) (hR.c 2 (by omega)))) (n 2 (by omega)) c;have h4 := h3.set (o c (by omega) (o b (by omega) (o a (by omega) (hR.c 3 (by omega))))) (n 3 (by omega)) d;have h5 := h4.set (o d (by omega) (o c (by omega) (o b (by omega) (o a (by omega) (hR.c 4 (by omega)))))) (n 4 (by omega)) e;exact h5.set (o e (by omega) (o d (by omega) (o c (by omega) (o b (by omega) (o a (by omega) (hR.c 5 (by omega))))))) (n 5 (by omega)) g
def CRel (A : Nat → Prop) (w : World) (sv dv : Value) (k : Int) (P : Bo) (S : Dk) (R Q : Nat) (iv : Value) (wr : World) : Prop :=
 ∃ (i : Nat) (f : Nat → Value) (l : List (List Cl)) (S' : Dk), iv = .int .i64 i ∧ i ≤ 6 ∧ decP P S i = some l ∧ SH wr Q f (l ++ List.replicate (6 - i) []) ∧ (∀ j, j < 6 → ∀ x, (f j).ownBlock = some x → w.heap.size ≤ x) ∧ SH wr R nilS (List.replicate 6 []) ∧ ST A wr sv dv k P S' ∧ Rdd i S S' ∧ Ch A w wr
theorem ST.out (h : ST A w sv dv k P S) {w1 : World} {D : Nat → Prop} (hc : Ch D w w1) (hd : ∀ x, D x → w.heap.size ≤ x) : ST A w1 sv dv k P S := h.ch hc (fun x hx e => by have := hd x e; omega)
theorem cells_open (h : ST A w sv dv k P S) (hs : shutB P S = false) (hrd : S.rd < 4611686018427387904) : Calls Tryz.prog 45 #[sv] w (ShGot A w sv dv k P S) := by
 have HS : Hid (shutB P S = false) := hs;have HRD := hidH hrd;have HST : Hid (ST A w sv dv k P S) := h;have HOK : Hid (P.ok S.bl.length ∧ P.tab.length = 7) := h.ok;obtain ⟨sp, hsp⟩ : ∃ sp, sv = .pointer (some ⟨sp, 0, none⟩) := by obtain ⟨sp, bv, e, _⟩ := h; exact ⟨sp, e⟩
 have HSP : Hid (sp < w.heap.size) := by
  obtain ⟨sp', bv, e, h1, _⟩ := h;rw [hsp] at e
  cases e
  exact (Array.getElem?_eq_some_iff.1 h1).1
 have HAL : Hid (∀ x, A x → x < w.heap.size) := fun x hx => h.lt hx;subst hsp;have R1 := sh_new w;have Q1 := sh_new (w.alloc (Obj.cells #[.slice none 0 0, .slice none 0 0, .slice none 0 0, .slice none 0 0, .slice none 0 0, .slice none 0 0] 87));rw [size_allocC] at Q1;have HB : Hid (Below w.heap.size w ((w.alloc (Obj.cells #[.slice none 0 0, .slice none 0 0, .slice none 0 0, .slice none 0 0, .slice none 0 0, .slice none 0 0] 87)).alloc (Obj.cells #[.slice none 0 0, .slice none 0 0, .slice none 0 0, .slice none 0 0, .slice none 0 0, .slice none 0 0] 87))) := below_trans (below_alloc _ _) (below_alloc _ _)
 have H0 : Hid (CRel A w (.pointer (some ⟨sp, 0, none⟩)) dv k P S w.heap.size (w.heap.size + 1) (.int .i64 0) ((w.alloc (Obj.cells #[.slice none 0 0, .slice none 0 0, .slice none 0 0, .slice none 0 0, .slice none 0 0, .slice none 0 0] 87)).alloc (Obj.cells #[.slice none 0 0, .slice none 0 0, .slice none 0 0, .slice none 0 0, .slice none 0 0, .slice none 0 0] 87))) :=
  ⟨0, nilS, [], S, rfl, by omega, rfl, Q1, fun j _ x hx => (by cases hx), R1.below (below_alloc _ _), h.below HB.out, Rdd.refl _, Ch.of_below HB.out⟩
 clear h hs hrd R1 Q1;go_in;go_upto_region 2 with fail
 obtain ⟨R, hR⟩ : ∃ R, R = w.heap.size := ⟨_, rfl⟩;rw [← hR] at H0 ⊢;have HR : Hid (R = w.heap.size) := hR;clear hR;generalize (w.alloc (Obj.cells #[.slice none 0 0, .slice none 0 0, .slice none 0 0, .slice none 0 0, .slice none 0 0, .slice none 0 0] 87)).alloc (Obj.cells #[.slice none 0 0, .slice none 0 0, .slice none 0 0, .slice none 0 0, .slice none 0 0, .slice none 0 0] 87) = w0 at H0 HB ⊢;obtain ⟨Q, hQ⟩ : ∃ Q, Q = R + 1 := ⟨_, rfl⟩;rw [← hQ] at H0 ⊢;have HQ : Hid (Q = R + 1) := hQ;clear hQ;go_wp2_with fail;go_loopw [9] (fun iv wr => CRel A w (.pointer (some ⟨sp, 0, none⟩)) dv k P S R Q iv wr) (fun iv _ => 6 - (intOf iv).toNat)
 case atStart => exact H0.out
 case round =>
  clear H0;obtain ⟨i, f, l, S', rfl, hi, hdec, hq, hfr, hr, hst, hrdd, hch⟩ := hrel;have HDEC : Hid (decP P S i = some l) := hdec;have HSQ := hidH hq;have HFR : Hid (∀ j, j < 6 → ∀ x, (f j).ownBlock = some x → w.heap.size ≤ x) := hfr;have HSR := hidH hr;have HT := hidH hst;have HRD' : Hid (Rdd i S S') := hrdd;have HC : Hid (Ch A w wr) := hch;clear hdec hq hfr hr hst hrdd hch;by_cases hlt : i < 6
  ·have hlti : (i : Int) < 6 := by omega
   have hw1 : IntKind.i64.wrap (1 + (i : Int)) = 1 + (i : Int) := by rw [IntKind.wrap_i64]; omega
   go_wp2_with fail;refine (page_walk HT.out (1 + (i : Int)) (by have h1 := HRD'.out.rd; have h2 := HRD.out; omega)).mono ?_;unfold PgGot;rw [getI_ok (by rw [rdd_shut HRD'.out]; exact HS.out) HOK.out.2 (by rw [HRD'.out.bl]; exact HOK.out.1) (by omega) (by omega), getB_ok (by rw [rdd_shut HRD'.out]; exact HS.out), rdd_getL HRD'.out];rintro e w2 ⟨r, rfl, ho, hst2, hc2⟩;have hL := (getL_lt hst2 (1 + (i : Int))).2;rw [rdd_getL (HRD'.out.trans getS_rdd)] at hL;obtain ⟨D, hD⟩ : ∃ D, D = decode (getL P S (1 + (i : Int))) := ⟨_, rfl⟩;have HV2 : Hid (Bv w2 r (getL P S (1 + (i : Int)))) := own_bv ho hL;have HD : Hid (D = decode (getL P S (1 + (i : Int)))) := hD;have HT2 := hidH hst2;have HRD2 : Hid (Rdd (i + 1) S (getS P S' (1 + (i : Int)))) := HRD'.out.trans getS_rdd;have HRQ : Hid (w.heap.size ≤ R ∧ w.heap.size ≤ Q) := by have h1 := HR.out; have h2 := HQ.out; exact ⟨by omega, by omega⟩
   have HNA : Hid (¬ A R ∧ ¬ A Q) := ⟨fun e => by have := HAL.out _ e; have := HRQ.out.1; omega, fun e => by have := HAL.out _ e; have := HRQ.out.2; omega⟩;have HSQ2 : Hid (SH w2 Q f (l ++ List.replicate (6 - i) [])) := HSQ.out.chA hc2 HNA.out.2 (fun j hj x hx e => by have h1 := HFR.out j hj x hx; have h2 := HAL.out x e; omega);have HSR2 : Hid (SH w2 R nilS (List.replicate 6 [])) := HSR.out.chA hc2 HNA.out.1 (fun j hj x hx e => (by cases hx));have HC2 : Hid (Ch A w w2) := HC.out.self hc2;generalize getS P S' (1 + (i : Int)) = S2 at HT2 HRD2;clear ho hst2 hc2 hL hD HT HRD' HSQ HSR HC;go_wp2_with fail;refine (decode_walk HV2.out).mono ?_;unfold DecGot;rw [← HD.out];rintro e w3 ⟨v3, rfl, ho3, hB3⟩;have HT3 := hidH (HT2.out.below hB3);have HSQ3 := hidH (HSQ2.out.below hB3);have HSR3 := hidH (HSR2.out.below hB3);have HC3 : Hid (Ch A w w3) := HC2.out.self (Ch.of_below hB3);have HV3 : Hid (Cv w3 v3 D.1) := (own_cv ho3).1;have HF3 : Hid (∀ x, v3.ownBlock = some x → w.heap.size ≤ x) := fun x hx => by have h1 := (ho3.lt x hx).1; have h2 := HC2.out.size; omega
   clear ho3 hB3 HT2 HSQ2 HSR2 HC2 HV2;have HSI : Hid (S2.rd ≤ S.rd + 6) := by have h1 := HRD2.out.rd; show _ ≤ _; omega
   by_cases hde : D.2 = 0;rotate_left
   ·have HNO : Hid (decP P S 6 = none) := decP_bad hlt HDEC.out (by rw [← HD.out]; exact hde);have hdi : ((D.2 : Int) != 0) = true := by rw [bne_iff_ne]; omega
    have HFIN : Hid (Ch A w ((((((w3.setCell ⟨R, 0, none⟩ (.slice none 0 0)).setCell ⟨R, 1, none⟩ (.slice none 0 0)).setCell ⟨R, 2, none⟩ (.slice none 0 0)).setCell ⟨R, 3, none⟩ (.slice none 0 0)).setCell ⟨R, 4, none⟩ (.slice none 0 0)).setCell ⟨R, 5, none⟩ (.slice none 0 0))) := ch_six HC3.out (.inr HRQ.out.1) _ _ _ _ _ _;have HTF : Hid (ST A ((((((w3.setCell ⟨R, 0, none⟩ (.slice none 0 0)).setCell ⟨R, 1, none⟩ (.slice none 0 0)).setCell ⟨R, 2, none⟩ (.slice none 0 0)).setCell ⟨R, 3, none⟩ (.slice none 0 0)).setCell ⟨R, 4, none⟩ (.slice none 0 0)).setCell ⟨R, 5, none⟩ (.slice none 0 0)) (.pointer (some ⟨sp, 0, none⟩)) dv k P S2) := HT3.out.six HNA.out.1 (by have h1 := HSP.out; have h2 := HRQ.out.1; omega) _ _ _ _ _ _;have r0 := HSR3.out.c 0 (by omega);have r1 := HSR3.out.c 1 (by omega);have r2 := HSR3.out.c 2 (by omega);have r3 := HSR3.out.c 3 (by omega);have r4 := HSR3.out.c 4 (by omega);have r5 := HSR3.out.c 5 (by omega);have z0 := HSR3.out.z 0;have z1 := HSR3.out.z 1;have z2 := HSR3.out.z 2;have z3 := HSR3.out.z 3;have z4 := HSR3.out.z 4;have z5 := HSR3.out.z 5;unfold nilS at r0 r1 r2 r3 r4 r5;clear hde;go_wp2_with fail
    (try simp only [Exit.inBlock, Exit.then])
    refine bodyPost_ret (v := .tuple #[.agg #[.slice none 0 0, .slice none 0 0, .slice none 0 0, .slice none 0 0, .slice none 0 0, .slice none 0 0], .int .i64 133]) (by rw [results_cell_tmp rfl]; go_simp) rfl ?_;exact ⟨133, nilS, S2, rfl, fun j _ => ⟨_, _, _, rfl⟩, fun j _ x hx => (by cases hx), .inr (.inl ⟨rfl, HS.out, HNO.out⟩), by rw [getB_ok HS.out]; exact HTF.out, HRD2.out.mono (by omega), HFIN.out⟩
   ·have HNX : Hid (decP P S (i + 1) = some (l ++ [D.1])) := by have h := decP_ok HDEC.out (by rw [← HD.out]; exact hde); rw [← HD.out] at h; exact h
    have hdi : ((D.2 : Int) != 0) = false := by rw [bne_eq_false_iff_eq]; omega
    obtain ⟨va, vc, hvv⟩ := HV3.out.form;obtain ⟨vn, hvn⟩ : ∃ vn, vn = D.1.length := ⟨_, rfl⟩;rw [← hvn] at hvv;subst hvv;have q0 := HSQ3.out.c i hlt;have q1 := HSQ3.out.z i
    have HREL : Hid (CRel A w (.pointer (some ⟨sp, 0, none⟩)) dv k P S R Q (.int .i64 ((i : Int) + 1)) (w3.setCell ⟨Q, i, none⟩ (.slice va vn vc))) := by
     refine ⟨i + 1, upd f i (.slice va vn vc), l ++ [D.1], S2, rfl, hlt, HNX.out, ?_, ?_, ?_, ?_, HRD2.out, HC3.out.trans (ch_set w3 Q i _) (fun x hx => by subst hx; exact .inr HRQ.out.2)⟩
     ·have h := HSQ3.out.set hlt HV3.out;rw [pad_set hlt (decP_len HDEC.out)] at h;exact h
     ·intro j hj x hx;unfold upd at hx;by_cases q : i = j
      ·rw [if_pos q] at hx; exact HF3.out x hx
      ·rw [if_neg q] at hx; exact HFR.out j hj x hx
     ·exact HSR3.out.chA (ch_set w3 Q i _) (by have := HQ.out; omega) (fun j hj x hx e => (by cases hx))
     ·exact HT3.out.setB (fun x hx hA e => by subst e; exact HNA.out.2 hA) (fun s e => by cases e; have h1 := HSP.out; have h2 := HRQ.out.2; omega)
    clear hde hvn;go_wp2_with fail;go_roundw
    case rel => exact HREL.out
    case measure => simp [intOf]; omega
  ·have hlti : ¬ (i : Int) < 6 := by omega
   obtain rfl : i = 6 := by omega
   have HRQ : Hid (w.heap.size ≤ R ∧ w.heap.size ≤ Q) := by have h1 := HR.out; have h2 := HQ.out; exact ⟨by omega, by omega⟩
   have HNA : Hid (¬ A R ∧ ¬ A Q) := ⟨fun e => by have := HAL.out _ e; have := HRQ.out.1; omega, fun e => by have := HAL.out _ e; have := HRQ.out.2; omega⟩;have r0 := HSR.out.c 0 (by omega);have r1 := HSR.out.c 1 (by omega);have r2 := HSR.out.c 2 (by omega);have r3 := HSR.out.c 3 (by omega);have r4 := HSR.out.c 4 (by omega);have r5 := HSR.out.c 5 (by omega);have z0 := HSR.out.z 0;have z1 := HSR.out.z 1;have z2 := HSR.out.z 2;have z3 := HSR.out.z 3;have z4 := HSR.out.z 4;have z5 := HSR.out.z 5;unfold nilS at r0 r1 r2 r3 r4 r5;have HFORM : Hid (∀ j, j < 6 → ∃ a n q, f j = .slice a n q) := fun j hj => by obtain ⟨a, q, e⟩ := HSQ.out.form hj; exact ⟨a, _, q, e⟩
   obtain ⟨a0, n0, p0, e0⟩ := HFORM.out 0 (by omega);obtain ⟨a1, n1, p1, e1⟩ := HFORM.out 1 (by omega);obtain ⟨a2, n2, p2, e2⟩ := HFORM.out 2 (by omega);obtain ⟨a3, n3, p3, e3⟩ := HFORM.out 3 (by omega);obtain ⟨a4, n4, p4, e4⟩ := HFORM.out 4 (by omega);obtain ⟨a5, n5, p5, e5⟩ := HFORM.out 5 (by omega);have q0 := HSQ.out.c 0 (by omega);have q1 := HSQ.out.c 1 (by omega);have q2 := HSQ.out.c 2 (by omega);have q3 := HSQ.out.c 3 (by omega);have q4 := HSQ.out.c 4 (by omega);have q5 := HSQ.out.c 5 (by omega);rw [e0] at q0;rw [e1] at q1;rw [e2] at q2;rw [e3] at q3;rw [e4] at q4;rw [e5] at q5;have HE : Hid (f 0 = .slice a0 n0 p0 ∧ f 1 = .slice a1 n1 p1 ∧ f 2 = .slice a2 n2 p2 ∧ f 3 = .slice a3 n3 p3 ∧ f 4 = .slice a4 n4 p4 ∧ f 5 = .slice a5 n5 p5) := ⟨e0, e1, e2, e3, e4, e5⟩;have HFIN : Hid (Ch A w ((((((wr.setCell ⟨R, 0, none⟩ (.slice a0 n0 p0)).setCell ⟨R, 1, none⟩ (.slice a1 n1 p1)).setCell ⟨R, 2, none⟩ (.slice a2 n2 p2)).setCell ⟨R, 3, none⟩ (.slice a3 n3 p3)).setCell ⟨R, 4, none⟩ (.slice a4 n4 p4)).setCell ⟨R, 5, none⟩ (.slice a5 n5 p5))) := ch_six HC.out (.inr HRQ.out.1) _ _ _ _ _ _;have HTF : Hid (ST A ((((((wr.setCell ⟨R, 0, none⟩ (.slice a0 n0 p0)).setCell ⟨R, 1, none⟩ (.slice a1 n1 p1)).setCell ⟨R, 2, none⟩ (.slice a2 n2 p2)).setCell ⟨R, 3, none⟩ (.slice a3 n3 p3)).setCell ⟨R, 4, none⟩ (.slice a4 n4 p4)).setCell ⟨R, 5, none⟩ (.slice a5 n5 p5)) (.pointer (some ⟨sp, 0, none⟩)) dv k P S') := HT.out.six HNA.out.1 (by have h1 := HSP.out; have h2 := HRQ.out.1; omega) _ _ _ _ _ _
   have HCV : Hid (∀ j, j < 6 → Cv ((((((wr.setCell ⟨R, 0, none⟩ (.slice a0 n0 p0)).setCell ⟨R, 1, none⟩ (.slice a1 n1 p1)).setCell ⟨R, 2, none⟩ (.slice a2 n2 p2)).setCell ⟨R, 3, none⟩ (.slice a3 n3 p3)).setCell ⟨R, 4, none⟩ (.slice a4 n4 p4)).setCell ⟨R, 5, none⟩ (.slice a5 n5 p5)) (f j) (pgc l j)) := fun j hj => by
    have h := HSQ.out.cv j hj;rw [pad_at] at h;exact h.sixS HSR.out _ _ _ _ _ _
   clear e0 e1 e2 e3 e4 e5;go_wp2_with fail
   (try simp only [Exit.inBlock, Exit.then])
   refine bodyPost_ret (v := .tuple #[.agg #[.slice a0 n0 p0, .slice a1 n1 p1, .slice a2 n2 p2, .slice a3 n3 p3, .slice a4 n4 p4, .slice a5 n5 p5], .int .i64 0]) (by rw [results_cell_tmp rfl]; go_simp) rfl ?_;obtain ⟨e0, e1, e2, e3, e4, e5⟩ := HE.out;exact ⟨0, f, S', by rw [e0, e1, e2, e3, e4, e5]; rfl, HFORM.out, HFR.out, .inr (.inr ⟨rfl, HS.out, l, HDEC.out, HCV.out⟩), by rw [getB_ok HS.out]; exact HTF.out, HRD'.out, HFIN.out⟩
end
end
end Go.Proofs.YtcmklbibehnloaaGreat
