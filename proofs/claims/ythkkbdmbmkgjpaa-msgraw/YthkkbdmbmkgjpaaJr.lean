/- Contract of the reference's body. -/
import Derived.Test.YthkkbdmbmkgjpaaJq

import Derived.Test.YthkkbdmbmkgjpaaWl

import Derived.Test.YthkkbdmbmkgjpaaJh

import Derived.Test.YthkkbdmbmkgjpaaJd

namespace Go.Proofs.Ythkkbdmbmkgjpaa

open Go.RowKit



/-- What the reference's body leaves. -/
def BGot (r : Nat × Ms × List Nat) (w : World) (e : Ending) (w' : World) : Prop :=
  ∃ mm ev qv pv u, e = .returned (.tuple #[.agg #[.int .i64 mm.K, .int .i64 mm.F, .int .i64 mm.T, .int .i64 mm.B, .int .i64 mm.A, .int .i64 mm.C, ev, qv, pv], u, .int .i64 (r.1 : Nat)]) ∧ ((∃ a n c, ev = .slice a n c) ∧ (∃ a n c, qv = .slice a n c) ∧ (∃ a n c, pv = .slice a n c)) ∧ Below w.heap.size w w' ∧
    (r.1 = 0 → mm = r.2.1 ∧ w'.ownsRow w.heap.size 3 1 ev r.2.1.E.length (r.2.1.E.map (Value.int .i64)) ∧ w'.ownsRow w.heap.size 38 1 qv r.2.1.Q.length ((ib r.2.1.Q).map (Value.int .u64)) ∧ w'.ownsRow w.heap.size 42 3 pv r.2.1.P.length (flatQ r.2.1.P) ∧ Bv w' u r.2.2 ∧ ∀ x, u.ownBlock = some x → r.2.2 ≠ [] → x < w.heap.size)
/-- Where body stands: its message at N, its answer's at N + 1, the bytes left in bv. -/
structure RB (N : Nat) (w0 w : World) (m : Ms) (ev qv pv y : Value) (l : List Nat) : Prop where
  n : N = w0.heap.size
  mx : MX w N m ev qv pv
  rx : ∃ x a b c, MX w (N + 1) x a b c
  bv : Bv w y l
  bm : ∀ x, y.ownBlock = some x → l ≠ [] → x < N
  below : Below N w0 w
theorem RB.old {N : Nat} {w0 w w' : World} {m : Ms} {ev qv pv bv : Value} {l : List Nat} (h : RB N w0 w m ev qv pv bv l) (hb : Below w.heap.size w w') : RB N w0 w' m ev qv pv bv l :=
  ⟨h.n, h.mx.keep hb, by obtain ⟨x, a, b, c, q⟩ := h.rx; exact ⟨x, a, b, c, q.keep hb⟩, h.bv.below hb, h.bm, h.below.trans (hb.mono (Nat.le_of_lt (cell_lt h.mx.c0)))⟩
theorem RB.cut {N : Nat} {w0 w w' : World} {m : Ms} {ev qv pv bv u : Value} {l r : List Nat} (h : RB N w0 w m ev qv pv bv l) (hb : Below w.heap.size w w') (hu : Bv w' u r) (hs : Sb u bv) (hr : r ≠ [] → l ≠ []) : RB N w0 w' m ev qv pv u r :=
  ⟨h.n, h.mx.keep hb, by obtain ⟨x, a, b, c, q⟩ := h.rx; exact ⟨x, a, b, c, q.keep hb⟩, hu, fun x hx hne => h.bm x (hs x hx) (hr hne), h.below.trans (hb.mono (Nat.le_of_lt (cell_lt h.mx.c0)))⟩
/-- What lies at N + 2 and behind may turn. -/
theorem RB.grow {N : Nat} {w0 w w' : World} {m : Ms} {ev qv pv bv : Value} {l : List Nat} (h : RB N w0 w m ev qv pv bv l) (hb : Below (N + 2) w w') : RB N w0 w' m ev qv pv bv l :=
  ⟨h.n, h.mx.belowB hb (by omega), by obtain ⟨x, a, b, c, q⟩ := h.rx; exact ⟨x, a, b, c, q.belowB hb (by omega)⟩, bv_belowB h.bv (fun x hx hne => by have := h.bm x hx hne; omega) hb, h.bm, h.below.trans (hb.mono (by omega))⟩
/-- A cell of the message written over. -/
theorem RB.set {N j : Nat} {w0 w : World} {m m' : Ms} {ev qv pv bv a b c u : Value} {l : List Nat} (h : RB N w0 w m ev qv pv bv l) (k : MX (w.setCell ⟨N, j, none⟩ u) N m' a b c) : RB N w0 (w.setCell ⟨N, j, none⟩ u) m' a b c bv l :=
  ⟨h.n, k, by obtain ⟨x, a, b, c, q⟩ := h.rx; exact ⟨x, a, b, c, q.ch (ch_set _ _ _ _) (by simp)⟩, bv_belowB h.bv h.bm ((ch_set _ _ _ _).to_below (Nat.le_of_lt (cell_lt h.mx.c0)) (fun x hx => by omega)), h.bm, h.below.trans ((ch_set _ _ _ _).to_below (Nat.le_of_lt (cell_lt h.mx.c0)) (fun x hx => by omega))⟩
/-- The answer laid. -/
theorem RB.out {N : Nat} {w0 w : World} {m : Ms} {ev qv pv bv : Value} {l : List Nat} (h : RB N w0 w m ev qv pv bv l) : MX (setM w (N + 1) m ev qv pv) (N + 1) m ev qv pv ∧ Ch (fun x => x = N + 1) w (setM w (N + 1) m ev qv pv) ∧ Below N w0 (setM w (N + 1) m ev qv pv) ∧ Bv (setM w (N + 1) m ev qv pv) bv l := by
  obtain ⟨x, a, b, c, q⟩ := h.rx
  have hc := ch_setM w (N + 1) m ev qv pv
  have hb : Below N w (setM w (N + 1) m ev qv pv) := hc.to_below (Nat.le_of_lt (cell_lt h.mx.c0)) (fun x hx => by omega)
  exact ⟨q.over m ev qv pv, hc, h.below.trans hb, bv_belowB h.bv h.bm hb⟩
theorem rb_new {w : World} {m : Ms} {ev qv pv bv : Value} {l : List Nat} (h : Bv w bv l) :
    RB w.heap.size w ((w.alloc (Obj.cells #[.int .i64 m.K, .int .i64 m.F, .int .i64 m.T, .int .i64 m.B, .int .i64 m.A, .int .i64 m.C, ev, qv, pv] 26)).alloc (Obj.cells #[.int .i64 0, .int .i64 0, .int .i64 0, .int .i64 0, .int .i64 0, .int .i64 0, .slice none 0 0, .slice none 0 0, .slice none 0 0] 26)) m ev qv pv bv l := by
  have hb := below_trans (below_alloc w (Obj.cells #[.int .i64 m.K, .int .i64 m.F, .int .i64 m.T, .int .i64 m.B, .int .i64 m.A, .int .i64 m.C, ev, qv, pv] 26)) (below_alloc _ (Obj.cells #[.int .i64 0, .int .i64 0, .int .i64 0, .int .i64 0, .int .i64 0, .int .i64 0, .slice none 0 0, .slice none 0 0, .slice none 0 0] 26))
  refine ⟨rfl, (mx_new w m ev qv pv).keep (below_alloc _ _), ⟨zeroMs, .slice none 0 0, .slice none 0 0, .slice none 0 0, ?_⟩, h.below hb, bv_block h, hb⟩
  have k := mx_new (w.alloc (Obj.cells #[.int .i64 m.K, .int .i64 m.F, .int .i64 m.T, .int .i64 m.B, .int .i64 m.A, .int .i64 m.C, ev, qv, pv] 26)) zeroMs (.slice none 0 0) (.slice none 0 0) (.slice none 0 0)
  rw [size_allocC] at k
  exact k
theorem bad_got {r : Nat × Ms × List Nat} {u ev qv pv : Value} {w w' : World} {mm : Ms} {e : Nat} (h : r.1 = e) (h0 : e ≠ 0) (he : ∃ a n c, ev = .slice a n c) (hq : ∃ a n c, qv = .slice a n c) (hp : ∃ a n c, pv = .slice a n c) (hb : Below w.heap.size w w') :
    BGot r w (.returned (.tuple #[.agg #[.int .i64 mm.K, .int .i64 mm.F, .int .i64 mm.T, .int .i64 mm.B, .int .i64 mm.A, .int .i64 mm.C, ev, qv, pv], u, .int .i64 e])) w' := ⟨mm, ev, qv, pv, u, by rw [h], ⟨he, hq, hp⟩, hb, fun q => absurd (h.symm.trans q) h0⟩
theorem own_form {w : World} {base e s n : Nat} {v : Value} {xs : List Value} (h : w.ownsRow base e s v n xs) : ∃ a n c, v = .slice a n c := by
  rcases h.2 with ⟨rfl, _⟩ | ⟨g, cap, cur, rfl, _⟩ <;> exact ⟨_, _, _, rfl⟩
theorem man_ne {l : List Nat} (h : (manL l).2.2 ≠ []) : l ≠ [] := by
  rintro rfl
  apply h
  unfold manL
  repeat' split
  all_goals simp
theorem cnt_ne {l : List Nat} (h : (cntL l).2.2 ≠ []) : l ≠ [] := by
  rintro rfl
  apply h
  unfold cntL
  repeat' split
  all_goals simp
theorem drop_ne {l : List Nat} {n : Nat} (h : l.drop n ≠ []) : l ≠ [] := by rintro rfl; simp at h
theorem mx_as5 {w : World} {P : Nat} {m : Ms} {a b c : Value} (h : MX w P m a b c) {e : List Int} {q : List Nat} {p : List Pr} : MX w P ⟨m.K, m.F, m.T, m.B, m.A, m.C, e, q, p⟩ a b c := ⟨h.c0, h.c1, h.c2, h.c3, h.c4, h.c5, h.c6, h.c7, h.c8, h.z⟩
theorem nil_slice : ∃ a n c, (Value.slice none 0 0) = .slice a n c := ⟨_, _, _, rfl⟩


set_option maxRecDepth 100000 in
set_option maxHeartbeats 8000000 in
theorem body_walk {w : World} {bv : Value} {l : List Nat} (h : Bv w bv l) (h5 : Hd) (hK : 1 ≤ h5.K ∧ h5.K ≤ 8) :
    Calls Try.prog 42 #[.agg #[.int .i64 (h5.ms 0 [] [] []).K, .int .i64 (h5.ms 0 [] [] []).F, .int .i64 (h5.ms 0 [] [] []).T, .int .i64 (h5.ms 0 [] [] []).B, .int .i64 (h5.ms 0 [] [] []).A, .int .i64 (h5.ms 0 [] [] []).C, .slice none 0 0, .slice none 0 0, .slice none 0 0], bv] w (BGot (bodL h5 l) w) := by
  have HI := rb_new (m := h5.ms 0 [] [] []) (ev := .slice none 0 0) (qv := .slice none 0 0) (pv := .slice none 0 0) h
  have HLB : Hid (∀ c ∈ l, c < 256) := h.2
  have HK : Hid (fld (h5.K : Int) ≠ 0) := fld_some hK
  obtain ⟨K, F, T, B, A⟩ := h5
  obtain ⟨ba, bn, bc, rfl⟩ := bv_any h
  replace HI : Hid _ := HI
  obtain ⟨i0, hi0, hz0, hz1, hz2⟩ := info_partsQ info_pair
  have HI0 : Hid (Try.prog.info? 42 = some i0) := hi0
  have HZ0 : Hid (i0.zero = some (.agg #[.int .u64 0, .bool false, .int .u64 0])) := hz0
  have HZ1 : Hid (i0.size = 3) := hz1
  have HZ2 : Hid (i0.bytes = 24) := hz2
  clear hi0 hz0 hz1 hz2
  clear h hK
  simp only [Hd.ms] at HI HK ⊢
  go_enter Try.func42, Try.ntmps42
  go_upto_region 1 with fail
  obtain ⟨N, hN⟩ : ∃ N, N = w.heap.size := ⟨_, rfl⟩
  rw [← hN] at HI ⊢
  have HN : Hid (N = w.heap.size) := hN
  clear hN
  generalize (w.alloc (Obj.cells #[.int .i64 (K : Int), .int .i64 (F : Int), .int .i64 (T : Int), .int .i64 (B : Int), .int .i64 (A : Int), .int .i64 0, .slice none 0 0, .slice none 0 0, .slice none 0 0] 26)).alloc (Obj.cells #[.int .i64 0, .int .i64 0, .int .i64 0, .int .i64 0, .int .i64 0, .int .i64 0, .slice none 0 0, .slice none 0 0, .slice none 0 0] 26) = w1 at HI ⊢
  have c0 : w1.cell? ⟨N, 0, none⟩ = some (.int .i64 (K : Int)) := HI.out.mx.c0
  go_wp2_with fail
  refine (field_walk (K : Int) _).mono ?_
  rintro e w2 ⟨rfl, hw2⟩
  replace hw2 := hw2.symm
  subst hw2
  clear c0
  rcases fld_cases (K : Int) with hf | hf | hf | hf | hf
  · exact absurd hf HK.out
  · rw [hf]
    have HBO : Hid (bodL ⟨K, F, T, B, A⟩ l = if (endL l).1 ≠ 0 then ((endL l).1, zeroMs, []) else (0, (⟨K, F, T, B, A⟩ : Hd).ms 0 (ib (endL l).2.1) [] [], (endL l).2.2)) := bod_1 hf
    clear hf HK
    obtain ⟨q, p, er, hq⟩ : ∃ q p er, Wm.takeNums l 4 = (q, p, er) := ⟨_, _, _, rfl⟩
    have HQ : Hid (Wm.takeNums l 4 = (q, p, er)) := hq
    go_wp2_with fail
    refine (rtakenums_walk 4 HI.out.bv (by decide)).mono ?_
    rw [HQ.out]
    rintro e9 w3 ⟨ao2, cap2, he, ho, hB⟩
    have HI3 : Hid _ := HI.out.old hB
    have HO3 : Hid (w3.ownsRow (N + 2) 3 1 (.slice ao2 (ib q).length cap2) q.length ((ib q).map (Value.int .i64))) := own_baseC ho (by obtain ⟨_, _, _, _, k⟩ := HI.out.rx; exact cell_lt k.c0)
    obtain ⟨qn2, hqn⟩ : ∃ x, x = (ib q).length := ⟨_, rfl⟩
    rw [← hqn] at HO3
    simp only [← hqn] at he
    subst he
    clear ho hB HI hqn
    by_cases h0 : er = 0
    · subst h0
      have HD : Hid (endL l = (0, q, l.drop p)) := by show _ = _; unfold endL; rw [hq]; simp
      have hple := (tn_le HLB.out hq).1
      have HPL : Hid (p ≤ l.length) := hple
      have HR1 : Hid (bodL ⟨K, F, T, B, A⟩ l = (0, ⟨K, F, T, B, A, 0, ib q, [], []⟩, l.drop p)) := by show _ = _; rw [HBO.out, HD.out, if_neg (by simp)]; rfl
      obtain ⟨hbn, hbl, hbm⟩ := bv_le HI3.out.bv
      unfold maxLen at hbm
      have hci : (bc : Int) ≤ 9223372036854775807 := by omega
      have hli : (bn : Int) ≤ (bc : Int) := by omega
      have hpn : (p : Int) ≤ (bn : Int) := by omega
      have hpc : (p : Int) ≤ (bc : Int) := by omega
      have HBN : Hid (bn = l.length) := hbn
      clear hq hple hbn hbl hbm
      have c6 := HI3.out.mx.c6; have zz6 := HI3.out.mx.z 6
      have HI4 : Hid (RB N w (w3.setCell ⟨N, 6, none⟩ (.slice ao2 qn2 cap2)) ⟨K, F, T, B, A, 0, ib q, [], []⟩ (.slice ao2 qn2 cap2) (.slice none 0 0) (.slice none 0 0) (.slice ba bn bc) l) := HI3.out.set (mx_as5 (HI3.out.mx.s6 _))
      have HO4 : Hid ((w3.setCell ⟨N, 6, none⟩ (.slice ao2 qn2 cap2)).ownsRow (N + 2) 3 1 (.slice ao2 qn2 cap2) q.length ((ib q).map (Value.int .i64))) := own_ch HO3.out (ch_set _ _ _ _) (fun x hx => by omega)
      go_upto_region 7 with fail
      generalize w3.setCell ⟨N, 6, none⟩ (.slice ao2 qn2 cap2) = w4 at HI4 HO4 ⊢
      clear c6 zz6 HI3 HO3
      by_cases hcp : bc = p
      · have HLP : Hid (bc = p) := hcp
        subst hcp
        obtain ⟨rn, ra, rb, rc, hrx⟩ := HI4.out.rx
        have d0 := hrx.c0; have z0 := hrx.z 0
        have d1 := hrx.c1; have z1 := hrx.z 1
        have d2 := hrx.c2; have z2 := hrx.z 2
        have d3 := hrx.c3; have z3 := hrx.z 3
        have d4 := hrx.c4; have z4 := hrx.z 4
        have d5 := hrx.c5; have z5 := hrx.z 5
        have d6 := hrx.c6; have z6 := hrx.z 6
        have d7 := hrx.c7; have z7 := hrx.z 7
        have d8 := hrx.c8; have z8 := hrx.z 8
        clear hrx
        have HO := HI4.out.out
        unfold setM at HO
        replace HO : Hid (MX (((((((((w4.setCell ⟨N + 1, 0, none⟩ (.int .i64 (K : Int))).setCell ⟨N + 1, 1, none⟩ (.int .i64 (F : Int))).setCell ⟨N + 1, 2, none⟩ (.int .i64 (T : Int))).setCell ⟨N + 1, 3, none⟩ (.int .i64 (B : Int))).setCell ⟨N + 1, 4, none⟩ (.int .i64 (A : Int))).setCell ⟨N + 1, 5, none⟩ (.int .i64 0)).setCell ⟨N + 1, 6, none⟩ (.slice ao2 qn2 cap2)).setCell ⟨N + 1, 7, none⟩ (.slice none 0 0)).setCell ⟨N + 1, 8, none⟩ (.slice none 0 0)) (N + 1) ⟨K, F, T, B, A, 0, ib q, [], []⟩ (.slice ao2 qn2 cap2) (.slice none 0 0) (.slice none 0 0) ∧ Ch (fun x => x = N + 1) w4 (((((((((w4.setCell ⟨N + 1, 0, none⟩ (.int .i64 (K : Int))).setCell ⟨N + 1, 1, none⟩ (.int .i64 (F : Int))).setCell ⟨N + 1, 2, none⟩ (.int .i64 (T : Int))).setCell ⟨N + 1, 3, none⟩ (.int .i64 (B : Int))).setCell ⟨N + 1, 4, none⟩ (.int .i64 (A : Int))).setCell ⟨N + 1, 5, none⟩ (.int .i64 0)).setCell ⟨N + 1, 6, none⟩ (.slice ao2 qn2 cap2)).setCell ⟨N + 1, 7, none⟩ (.slice none 0 0)).setCell ⟨N + 1, 8, none⟩ (.slice none 0 0)) ∧ Below N w (((((((((w4.setCell ⟨N + 1, 0, none⟩ (.int .i64 (K : Int))).setCell ⟨N + 1, 1, none⟩ (.int .i64 (F : Int))).setCell ⟨N + 1, 2, none⟩ (.int .i64 (T : Int))).setCell ⟨N + 1, 3, none⟩ (.int .i64 (B : Int))).setCell ⟨N + 1, 4, none⟩ (.int .i64 (A : Int))).setCell ⟨N + 1, 5, none⟩ (.int .i64 0)).setCell ⟨N + 1, 6, none⟩ (.slice ao2 qn2 cap2)).setCell ⟨N + 1, 7, none⟩ (.slice none 0 0)).setCell ⟨N + 1, 8, none⟩ (.slice none 0 0)) ∧ Bv (((((((((w4.setCell ⟨N + 1, 0, none⟩ (.int .i64 (K : Int))).setCell ⟨N + 1, 1, none⟩ (.int .i64 (F : Int))).setCell ⟨N + 1, 2, none⟩ (.int .i64 (T : Int))).setCell ⟨N + 1, 3, none⟩ (.int .i64 (B : Int))).setCell ⟨N + 1, 4, none⟩ (.int .i64 (A : Int))).setCell ⟨N + 1, 5, none⟩ (.int .i64 0)).setCell ⟨N + 1, 6, none⟩ (.slice ao2 qn2 cap2)).setCell ⟨N + 1, 7, none⟩ (.slice none 0 0)).setCell ⟨N + 1, 8, none⟩ (.slice none 0 0)) (.slice ba bn bc) l) := HO
        have k0 : ∀ wx, Below (N + 1) w4 wx → wx.cell? ⟨N, 0, none⟩ = some (.int .i64 (K : Int)) := fun wx hx => (HI4.out.mx.belowB hx (by omega)).c0
        have k1 : ∀ wx, Below (N + 1) w4 wx → wx.cell? ⟨N, 1, none⟩ = some (.int .i64 (F : Int)) := fun wx hx => (HI4.out.mx.belowB hx (by omega)).c1
        have k2 : ∀ wx, Below (N + 1) w4 wx → wx.cell? ⟨N, 2, none⟩ = some (.int .i64 (T : Int)) := fun wx hx => (HI4.out.mx.belowB hx (by omega)).c2
        have k3 : ∀ wx, Below (N + 1) w4 wx → wx.cell? ⟨N, 3, none⟩ = some (.int .i64 (B : Int)) := fun wx hx => (HI4.out.mx.belowB hx (by omega)).c3
        have k4 : ∀ wx, Below (N + 1) w4 wx → wx.cell? ⟨N, 4, none⟩ = some (.int .i64 (A : Int)) := fun wx hx => (HI4.out.mx.belowB hx (by omega)).c4
        have k5 : ∀ wx, Below (N + 1) w4 wx → wx.cell? ⟨N, 5, none⟩ = some (.int .i64 0) := fun wx hx => (HI4.out.mx.belowB hx (by omega)).c5
        have k6 : ∀ wx, Below (N + 1) w4 wx → wx.cell? ⟨N, 6, none⟩ = some (.slice ao2 qn2 cap2) := fun wx hx => (HI4.out.mx.belowB hx (by omega)).c6
        have k7 : ∀ wx, Below (N + 1) w4 wx → wx.cell? ⟨N, 7, none⟩ = some (.slice none 0 0) := fun wx hx => (HI4.out.mx.belowB hx (by omega)).c7
        have k8 : ∀ wx, Below (N + 1) w4 wx → wx.cell? ⟨N, 8, none⟩ = some (.slice none 0 0) := fun wx hx => (HI4.out.mx.belowB hx (by omega)).c8
        have hN1 : N + 1 ≤ w4.heap.size := cell_lt HI4.out.mx.c0
        have HN1 : Hid _ := hN1
        clear hN1
        go_wp2_with fail
        refine wp_region_noPanic ?_
        refine wp_region_held_drew (S := fun wx => Below (N + 1) w4 wx) (by kernel_rfl) ?_ (fun hHeld => ?_)
        · exact ((Below.refl (N + 1) w4).drew)
        refine wpAnyH_take (i := 0) (oi := ⟨some 38, _, _, _, _, _⟩) (v := ?_) rfl (by kernel_rfl) (by kernel_rfl) (by kernel_rfl) (fun _ _ _ h => h) (Or.inl ⟨by rfl, ?_⟩) hHeld ?_
        rotate_left
        · intro w hSw; (try dsimp only at hSw); go_simp; all_goals (with_reducible rfl)
        try simp only [Act.put, List.setIfInBounds_toArray, List.set_cons_zero, List.set_cons_succ]
        refine wpAnyH_take (i := 1) (oi := ⟨some 39, _, _, _, _, _⟩) (v := ?_) rfl (by kernel_rfl) (by kernel_rfl) (by kernel_rfl) (fun _ _ _ h => h) (Or.inl ⟨by rfl, ?_⟩) hHeld ?_
        rotate_left
        · intro w hSw; (try dsimp only at hSw); go_simp; all_goals (with_reducible rfl)
        try simp only [Act.put, List.setIfInBounds_toArray, List.set_cons_zero, List.set_cons_succ]
        refine wpAnyH_take (i := 2) (oi := ⟨some 40, _, _, _, _, _⟩) (v := ?_) rfl (by kernel_rfl) (by kernel_rfl) (by kernel_rfl) (fun _ _ _ h => h) (Or.inl ⟨by rfl, ?_⟩) hHeld ?_
        rotate_left
        · intro w hSw; (try dsimp only at hSw); go_simp; all_goals (with_reducible rfl)
        try simp only [Act.put, List.setIfInBounds_toArray, List.set_cons_zero, List.set_cons_succ]
        refine wpAnyH_take (i := 3) (oi := ⟨some 41, _, _, _, _, _⟩) (v := ?_) rfl (by kernel_rfl) (by kernel_rfl) (by kernel_rfl) (fun _ _ _ h => h) (Or.inl ⟨by rfl, ?_⟩) hHeld ?_
        rotate_left
        · intro w hSw; (try dsimp only at hSw); go_simp; all_goals (with_reducible rfl)
        try simp only [Act.put, List.setIfInBounds_toArray, List.set_cons_zero, List.set_cons_succ]
        refine wpAnyH_ready (rs := [4]) (by kernel_rfl) (by simp) ?_
        refine AllReadyH.cons (o := ⟨none, _, _, _, _, _⟩) rfl (fun K hK => ?_) AllReadyH.nil
        go_simp
        refine hK.out _ _ ?_ (fun hHeld => ?_)
        · exact ((HO.out.2.1.to_below HN1.out (fun x hx => by omega)).drew)
        clear hK K
        try simp only [Act.put, List.setIfInBounds_toArray, List.set_cons_zero, List.set_cons_succ]
        refine wpAnyH_take (i := 5) (oi := ⟨some 5, _, _, _, _, _⟩) (v := ?_) rfl (by kernel_rfl) (by kernel_rfl) (by kernel_rfl) (fun _ _ _ h => h) (Or.inl ⟨by rfl, ?_⟩) hHeld ?_
        rotate_left
        · intro w hSw; (try dsimp only at hSw); go_simp; all_goals (with_reducible rfl)
        try simp only [Act.put, List.setIfInBounds_toArray, List.set_cons_zero, List.set_cons_succ]
        refine wpAnyH_take (i := 6) (oi := ⟨some 6, _, _, _, _, _⟩) (v := ?_) rfl (by kernel_rfl) (by kernel_rfl) (by kernel_rfl) (fun _ _ _ h => h) (Or.inl ⟨by rfl, ?_⟩) hHeld ?_
        rotate_left
        · intro w hSw; (try dsimp only at hSw); go_simp; all_goals (with_reducible rfl)
        try simp only [Act.put, List.setIfInBounds_toArray, List.set_cons_zero, List.set_cons_succ]
        refine wpAnyH_done (by kernel_rfl) ?_ _
        refine NoPanic.normal ?_
        go_wp2_with fail
        generalize ((((((((w4.setCell ⟨N + 1, 0, none⟩ (.int .i64 (K : Int))).setCell ⟨N + 1, 1, none⟩ (.int .i64 (F : Int))).setCell ⟨N + 1, 2, none⟩ (.int .i64 (T : Int))).setCell ⟨N + 1, 3, none⟩ (.int .i64 (B : Int))).setCell ⟨N + 1, 4, none⟩ (.int .i64 (A : Int))).setCell ⟨N + 1, 5, none⟩ (.int .i64 0)).setCell ⟨N + 1, 6, none⟩ (.slice ao2 qn2 cap2)).setCell ⟨N + 1, 7, none⟩ (.slice none 0 0)).setCell ⟨N + 1, 8, none⟩ (.slice none 0 0) = w9 at HO ⊢
        obtain ⟨hm9, hc9, hb9, hv9⟩ := HO.out
        have y0 : w9.cell? ⟨N + 1, 0, none⟩ = some (.int .i64 (K : Int)) := hm9.c0
        have y1 : w9.cell? ⟨N + 1, 1, none⟩ = some (.int .i64 (F : Int)) := hm9.c1
        have y2 : w9.cell? ⟨N + 1, 2, none⟩ = some (.int .i64 (T : Int)) := hm9.c2
        have y3 : w9.cell? ⟨N + 1, 3, none⟩ = some (.int .i64 (B : Int)) := hm9.c3
        have y4 : w9.cell? ⟨N + 1, 4, none⟩ = some (.int .i64 (A : Int)) := hm9.c4
        have y5 : w9.cell? ⟨N + 1, 5, none⟩ = some (.int .i64 0) := hm9.c5
        have y6 : w9.cell? ⟨N + 1, 6, none⟩ = some (.slice ao2 qn2 cap2) := hm9.c6
        have y7 : w9.cell? ⟨N + 1, 7, none⟩ = some (.slice none 0 0) := hm9.c7
        have y8 : w9.cell? ⟨N + 1, 8, none⟩ = some (.slice none 0 0) := hm9.c8
        have HBW : Hid (Below w.heap.size w w9) := by have k := hb9; rw [HN.out] at k; exact k
        refine bodyPost_ret (v := .tuple #[.agg #[.int .i64 (K : Int), .int .i64 (F : Int), .int .i64 (T : Int), .int .i64 (B : Int), .int .i64 (A : Int), .int .i64 0, .slice ao2 qn2 cap2, .slice none 0 0, .slice none 0 0], .slice ba (bn - bc) 0, .int .i64 0]) (by simp [results, Try.results42, go_sem, y0, y1, y2, y3, y4, y5, y6, y7, y8]) rfl ?_
        have hown9 := own_ch HO4.out hc9 (fun x hx => by omega)
        obtain ⟨q1, q2⟩ := bv_cut hv9 bc HPL.out
        have hu : Bv w9 (.slice ba (bn - bc) 0) (l.drop bc) := q1 rfl
        refine ⟨⟨K, F, T, B, A, 0, ib q, [], []⟩, (.slice ao2 qn2 cap2), .slice none 0 0, .slice none 0 0, .slice ba (bn - bc) 0, by rw [HR1.out]; rfl, ⟨⟨_, _, _, rfl⟩, nil_slice, nil_slice⟩, HBW.out.drew, fun _ => ?_⟩
        rw [HR1.out]
        refine ⟨rfl, ?_, own_nil, own_nil, hu.below (below_drewN _ 1), fun x hx hne => ?_⟩
        · have k := own_baseC (base' := w.heap.size) hown9 (by have := HN.out; omega); rw [← ib_len q] at k; exact own_belowC k (below_drewN _ 1)
        · have k := HI4.out.bm x (sb_cut0 x hx) (drop_ne hne); rw [← HN.out]; exact k
      · have hcn : ¬ (bc : Int) = (p : Int) := by omega
        obtain ⟨rn, ra, rb, rc, hrx⟩ := HI4.out.rx
        have d0 := hrx.c0; have z0 := hrx.z 0
        have d1 := hrx.c1; have z1 := hrx.z 1
        have d2 := hrx.c2; have z2 := hrx.z 2
        have d3 := hrx.c3; have z3 := hrx.z 3
        have d4 := hrx.c4; have z4 := hrx.z 4
        have d5 := hrx.c5; have z5 := hrx.z 5
        have d6 := hrx.c6; have z6 := hrx.z 6
        have d7 := hrx.c7; have z7 := hrx.z 7
        have d8 := hrx.c8; have z8 := hrx.z 8
        clear hrx
        have HO := HI4.out.out
        unfold setM at HO
        replace HO : Hid (MX (((((((((w4.setCell ⟨N + 1, 0, none⟩ (.int .i64 (K : Int))).setCell ⟨N + 1, 1, none⟩ (.int .i64 (F : Int))).setCell ⟨N + 1, 2, none⟩ (.int .i64 (T : Int))).setCell ⟨N + 1, 3, none⟩ (.int .i64 (B : Int))).setCell ⟨N + 1, 4, none⟩ (.int .i64 (A : Int))).setCell ⟨N + 1, 5, none⟩ (.int .i64 0)).setCell ⟨N + 1, 6, none⟩ (.slice ao2 qn2 cap2)).setCell ⟨N + 1, 7, none⟩ (.slice none 0 0)).setCell ⟨N + 1, 8, none⟩ (.slice none 0 0)) (N + 1) ⟨K, F, T, B, A, 0, ib q, [], []⟩ (.slice ao2 qn2 cap2) (.slice none 0 0) (.slice none 0 0) ∧ Ch (fun x => x = N + 1) w4 (((((((((w4.setCell ⟨N + 1, 0, none⟩ (.int .i64 (K : Int))).setCell ⟨N + 1, 1, none⟩ (.int .i64 (F : Int))).setCell ⟨N + 1, 2, none⟩ (.int .i64 (T : Int))).setCell ⟨N + 1, 3, none⟩ (.int .i64 (B : Int))).setCell ⟨N + 1, 4, none⟩ (.int .i64 (A : Int))).setCell ⟨N + 1, 5, none⟩ (.int .i64 0)).setCell ⟨N + 1, 6, none⟩ (.slice ao2 qn2 cap2)).setCell ⟨N + 1, 7, none⟩ (.slice none 0 0)).setCell ⟨N + 1, 8, none⟩ (.slice none 0 0)) ∧ Below N w (((((((((w4.setCell ⟨N + 1, 0, none⟩ (.int .i64 (K : Int))).setCell ⟨N + 1, 1, none⟩ (.int .i64 (F : Int))).setCell ⟨N + 1, 2, none⟩ (.int .i64 (T : Int))).setCell ⟨N + 1, 3, none⟩ (.int .i64 (B : Int))).setCell ⟨N + 1, 4, none⟩ (.int .i64 (A : Int))).setCell ⟨N + 1, 5, none⟩ (.int .i64 0)).setCell ⟨N + 1, 6, none⟩ (.slice ao2 qn2 cap2)).setCell ⟨N + 1, 7, none⟩ (.slice none 0 0)).setCell ⟨N + 1, 8, none⟩ (.slice none 0 0)) ∧ Bv (((((((((w4.setCell ⟨N + 1, 0, none⟩ (.int .i64 (K : Int))).setCell ⟨N + 1, 1, none⟩ (.int .i64 (F : Int))).setCell ⟨N + 1, 2, none⟩ (.int .i64 (T : Int))).setCell ⟨N + 1, 3, none⟩ (.int .i64 (B : Int))).setCell ⟨N + 1, 4, none⟩ (.int .i64 (A : Int))).setCell ⟨N + 1, 5, none⟩ (.int .i64 0)).setCell ⟨N + 1, 6, none⟩ (.slice ao2 qn2 cap2)).setCell ⟨N + 1, 7, none⟩ (.slice none 0 0)).setCell ⟨N + 1, 8, none⟩ (.slice none 0 0)) (.slice ba bn bc) l) := HO
        have k0 : ∀ wx, Below (N + 1) w4 wx → wx.cell? ⟨N, 0, none⟩ = some (.int .i64 (K : Int)) := fun wx hx => (HI4.out.mx.belowB hx (by omega)).c0
        have k1 : ∀ wx, Below (N + 1) w4 wx → wx.cell? ⟨N, 1, none⟩ = some (.int .i64 (F : Int)) := fun wx hx => (HI4.out.mx.belowB hx (by omega)).c1
        have k2 : ∀ wx, Below (N + 1) w4 wx → wx.cell? ⟨N, 2, none⟩ = some (.int .i64 (T : Int)) := fun wx hx => (HI4.out.mx.belowB hx (by omega)).c2
        have k3 : ∀ wx, Below (N + 1) w4 wx → wx.cell? ⟨N, 3, none⟩ = some (.int .i64 (B : Int)) := fun wx hx => (HI4.out.mx.belowB hx (by omega)).c3
        have k4 : ∀ wx, Below (N + 1) w4 wx → wx.cell? ⟨N, 4, none⟩ = some (.int .i64 (A : Int)) := fun wx hx => (HI4.out.mx.belowB hx (by omega)).c4
        have k5 : ∀ wx, Below (N + 1) w4 wx → wx.cell? ⟨N, 5, none⟩ = some (.int .i64 0) := fun wx hx => (HI4.out.mx.belowB hx (by omega)).c5
        have k6 : ∀ wx, Below (N + 1) w4 wx → wx.cell? ⟨N, 6, none⟩ = some (.slice ao2 qn2 cap2) := fun wx hx => (HI4.out.mx.belowB hx (by omega)).c6
        have k7 : ∀ wx, Below (N + 1) w4 wx → wx.cell? ⟨N, 7, none⟩ = some (.slice none 0 0) := fun wx hx => (HI4.out.mx.belowB hx (by omega)).c7
        have k8 : ∀ wx, Below (N + 1) w4 wx → wx.cell? ⟨N, 8, none⟩ = some (.slice none 0 0) := fun wx hx => (HI4.out.mx.belowB hx (by omega)).c8
        have hN1 : N + 1 ≤ w4.heap.size := cell_lt HI4.out.mx.c0
        have HN1 : Hid _ := hN1
        clear hN1
        go_wp2_with fail
        refine wp_region_noPanic ?_
        refine wp_region_held_drew (S := fun wx => Below (N + 1) w4 wx) (by kernel_rfl) ?_ (fun hHeld => ?_)
        · exact ((Below.refl (N + 1) w4).drew)
        refine wpAnyH_take (i := 0) (oi := ⟨some 38, _, _, _, _, _⟩) (v := ?_) rfl (by kernel_rfl) (by kernel_rfl) (by kernel_rfl) (fun _ _ _ h => h) (Or.inl ⟨by rfl, ?_⟩) hHeld ?_
        rotate_left
        · intro w hSw; (try dsimp only at hSw); go_simp; all_goals (with_reducible rfl)
        try simp only [Act.put, List.setIfInBounds_toArray, List.set_cons_zero, List.set_cons_succ]
        refine wpAnyH_take (i := 1) (oi := ⟨some 39, _, _, _, _, _⟩) (v := ?_) rfl (by kernel_rfl) (by kernel_rfl) (by kernel_rfl) (fun _ _ _ h => h) (Or.inl ⟨by rfl, ?_⟩) hHeld ?_
        rotate_left
        · intro w hSw; (try dsimp only at hSw); go_simp; all_goals (with_reducible rfl)
        try simp only [Act.put, List.setIfInBounds_toArray, List.set_cons_zero, List.set_cons_succ]
        refine wpAnyH_take (i := 2) (oi := ⟨some 40, _, _, _, _, _⟩) (v := ?_) rfl (by kernel_rfl) (by kernel_rfl) (by kernel_rfl) (fun _ _ _ h => h) (Or.inl ⟨by rfl, ?_⟩) hHeld ?_
        rotate_left
        · intro w hSw; (try dsimp only at hSw); go_simp; all_goals (with_reducible rfl)
        try simp only [Act.put, List.setIfInBounds_toArray, List.set_cons_zero, List.set_cons_succ]
        refine wpAnyH_take (i := 3) (oi := ⟨some 41, _, _, _, _, _⟩) (v := ?_) rfl (by kernel_rfl) (by kernel_rfl) (by kernel_rfl) (fun _ _ _ h => h) (Or.inl ⟨by rfl, ?_⟩) hHeld ?_
        rotate_left
        · intro w hSw; (try dsimp only at hSw); go_simp; all_goals (with_reducible rfl)
        try simp only [Act.put, List.setIfInBounds_toArray, List.set_cons_zero, List.set_cons_succ]
        refine wpAnyH_ready (rs := [4]) (by kernel_rfl) (by simp) ?_
        refine AllReadyH.cons (o := ⟨none, _, _, _, _, _⟩) rfl (fun K hK => ?_) AllReadyH.nil
        go_simp
        refine hK.out _ _ ?_ (fun hHeld => ?_)
        · exact ((HO.out.2.1.to_below HN1.out (fun x hx => by omega)).drew)
        clear hK K
        try simp only [Act.put, List.setIfInBounds_toArray, List.set_cons_zero, List.set_cons_succ]
        refine wpAnyH_take (i := 5) (oi := ⟨some 5, _, _, _, _, _⟩) (v := ?_) rfl (by kernel_rfl) (by kernel_rfl) (by kernel_rfl) (fun _ _ _ h => h) (Or.inl ⟨by rfl, ?_⟩) hHeld ?_
        rotate_left
        · intro w hSw; (try dsimp only at hSw); go_simp; all_goals (with_reducible rfl)
        try simp only [Act.put, List.setIfInBounds_toArray, List.set_cons_zero, List.set_cons_succ]
        refine wpAnyH_take (i := 6) (oi := ⟨some 6, _, _, _, _, _⟩) (v := ?_) rfl (by kernel_rfl) (by kernel_rfl) (by kernel_rfl) (fun _ _ _ h => h) (Or.inl ⟨by rfl, ?_⟩) hHeld ?_
        rotate_left
        · intro w hSw; (try dsimp only at hSw); go_simp; all_goals (with_reducible rfl)
        try simp only [Act.put, List.setIfInBounds_toArray, List.set_cons_zero, List.set_cons_succ]
        refine wpAnyH_done (by kernel_rfl) ?_ _
        refine NoPanic.normal ?_
        go_wp2_with fail
        generalize ((((((((w4.setCell ⟨N + 1, 0, none⟩ (.int .i64 (K : Int))).setCell ⟨N + 1, 1, none⟩ (.int .i64 (F : Int))).setCell ⟨N + 1, 2, none⟩ (.int .i64 (T : Int))).setCell ⟨N + 1, 3, none⟩ (.int .i64 (B : Int))).setCell ⟨N + 1, 4, none⟩ (.int .i64 (A : Int))).setCell ⟨N + 1, 5, none⟩ (.int .i64 0)).setCell ⟨N + 1, 6, none⟩ (.slice ao2 qn2 cap2)).setCell ⟨N + 1, 7, none⟩ (.slice none 0 0)).setCell ⟨N + 1, 8, none⟩ (.slice none 0 0) = w9 at HO ⊢
        obtain ⟨hm9, hc9, hb9, hv9⟩ := HO.out
        have y0 : w9.cell? ⟨N + 1, 0, none⟩ = some (.int .i64 (K : Int)) := hm9.c0
        have y1 : w9.cell? ⟨N + 1, 1, none⟩ = some (.int .i64 (F : Int)) := hm9.c1
        have y2 : w9.cell? ⟨N + 1, 2, none⟩ = some (.int .i64 (T : Int)) := hm9.c2
        have y3 : w9.cell? ⟨N + 1, 3, none⟩ = some (.int .i64 (B : Int)) := hm9.c3
        have y4 : w9.cell? ⟨N + 1, 4, none⟩ = some (.int .i64 (A : Int)) := hm9.c4
        have y5 : w9.cell? ⟨N + 1, 5, none⟩ = some (.int .i64 0) := hm9.c5
        have y6 : w9.cell? ⟨N + 1, 6, none⟩ = some (.slice ao2 qn2 cap2) := hm9.c6
        have y7 : w9.cell? ⟨N + 1, 7, none⟩ = some (.slice none 0 0) := hm9.c7
        have y8 : w9.cell? ⟨N + 1, 8, none⟩ = some (.slice none 0 0) := hm9.c8
        have HBW : Hid (Below w.heap.size w w9) := by have k := hb9; rw [HN.out] at k; exact k
        refine bodyPost_ret (v := .tuple #[.agg #[.int .i64 (K : Int), .int .i64 (F : Int), .int .i64 (T : Int), .int .i64 (B : Int), .int .i64 (A : Int), .int .i64 0, .slice ao2 qn2 cap2, .slice none 0 0, .slice none 0 0], .slice (ba.map fun a => a.add p) (bn - p) (bc - p), .int .i64 0]) (by simp [results, Try.results42, go_sem, y0, y1, y2, y3, y4, y5, y6, y7, y8]) rfl ?_
        have hown9 := own_ch HO4.out hc9 (fun x hx => by omega)
        obtain ⟨q1, q2⟩ := bv_cut hv9 p HPL.out
        have hu : Bv w9 (.slice (ba.map fun a => a.add p) (bn - p) (bc - p)) (l.drop p) := q2 hcp
        refine ⟨⟨K, F, T, B, A, 0, ib q, [], []⟩, (.slice ao2 qn2 cap2), .slice none 0 0, .slice none 0 0, .slice (ba.map fun a => a.add p) (bn - p) (bc - p), by rw [HR1.out]; rfl, ⟨⟨_, _, _, rfl⟩, nil_slice, nil_slice⟩, HBW.out.drew, fun _ => ?_⟩
        rw [HR1.out]
        refine ⟨rfl, ?_, own_nil, own_nil, hu.below (below_drewN _ 1), fun x hx hne => ?_⟩
        · have k := own_baseC (base' := w.heap.size) hown9 (by have := HN.out; omega); rw [← ib_len q] at k; exact own_belowC k (below_drewN _ 1)
        · have k := HI4.out.bm x (sb_cutm x hx) (drop_ne hne); rw [← HN.out]; exact k
    · have H0 : Hid (er ≠ 0) := h0
      have HD : Hid ((bodL ⟨K, F, T, B, A⟩ l).1 = er) := by show _ = _; have e : endL l = (er, [], []) := (by unfold endL; rw [hq]; simp [h0]); rw [HBO.out, e, if_pos h0]
      have hne : ((er : Int) != 0) = true := by rw [bne_iff_ne]; omega
      clear hq h0
      obtain ⟨rn, ra, rb, rc, hrx⟩ := HI3.out.rx
      have d0 := hrx.c0; have z0 := hrx.z 0
      have d1 := hrx.c1; have z1 := hrx.z 1
      have d2 := hrx.c2; have z2 := hrx.z 2
      have d3 := hrx.c3; have z3 := hrx.z 3
      have d4 := hrx.c4; have z4 := hrx.z 4
      have d5 := hrx.c5; have z5 := hrx.z 5
      have d6 := hrx.c6; have z6 := hrx.z 6
      have d7 := hrx.c7; have z7 := hrx.z 7
      have d8 := hrx.c8; have z8 := hrx.z 8
      clear hrx
      have HO := HI3.out.out
      unfold setM at HO
      replace HO : Hid (MX (((((((((w3.setCell ⟨N + 1, 0, none⟩ (.int .i64 (K : Int))).setCell ⟨N + 1, 1, none⟩ (.int .i64 (F : Int))).setCell ⟨N + 1, 2, none⟩ (.int .i64 (T : Int))).setCell ⟨N + 1, 3, none⟩ (.int .i64 (B : Int))).setCell ⟨N + 1, 4, none⟩ (.int .i64 (A : Int))).setCell ⟨N + 1, 5, none⟩ (.int .i64 0)).setCell ⟨N + 1, 6, none⟩ (.slice none 0 0)).setCell ⟨N + 1, 7, none⟩ (.slice none 0 0)).setCell ⟨N + 1, 8, none⟩ (.slice none 0 0)) (N + 1) ⟨K, F, T, B, A, 0, [], [], []⟩ (.slice none 0 0) (.slice none 0 0) (.slice none 0 0) ∧ Ch (fun x => x = N + 1) w3 (((((((((w3.setCell ⟨N + 1, 0, none⟩ (.int .i64 (K : Int))).setCell ⟨N + 1, 1, none⟩ (.int .i64 (F : Int))).setCell ⟨N + 1, 2, none⟩ (.int .i64 (T : Int))).setCell ⟨N + 1, 3, none⟩ (.int .i64 (B : Int))).setCell ⟨N + 1, 4, none⟩ (.int .i64 (A : Int))).setCell ⟨N + 1, 5, none⟩ (.int .i64 0)).setCell ⟨N + 1, 6, none⟩ (.slice none 0 0)).setCell ⟨N + 1, 7, none⟩ (.slice none 0 0)).setCell ⟨N + 1, 8, none⟩ (.slice none 0 0)) ∧ Below N w (((((((((w3.setCell ⟨N + 1, 0, none⟩ (.int .i64 (K : Int))).setCell ⟨N + 1, 1, none⟩ (.int .i64 (F : Int))).setCell ⟨N + 1, 2, none⟩ (.int .i64 (T : Int))).setCell ⟨N + 1, 3, none⟩ (.int .i64 (B : Int))).setCell ⟨N + 1, 4, none⟩ (.int .i64 (A : Int))).setCell ⟨N + 1, 5, none⟩ (.int .i64 0)).setCell ⟨N + 1, 6, none⟩ (.slice none 0 0)).setCell ⟨N + 1, 7, none⟩ (.slice none 0 0)).setCell ⟨N + 1, 8, none⟩ (.slice none 0 0)) ∧ Bv (((((((((w3.setCell ⟨N + 1, 0, none⟩ (.int .i64 (K : Int))).setCell ⟨N + 1, 1, none⟩ (.int .i64 (F : Int))).setCell ⟨N + 1, 2, none⟩ (.int .i64 (T : Int))).setCell ⟨N + 1, 3, none⟩ (.int .i64 (B : Int))).setCell ⟨N + 1, 4, none⟩ (.int .i64 (A : Int))).setCell ⟨N + 1, 5, none⟩ (.int .i64 0)).setCell ⟨N + 1, 6, none⟩ (.slice none 0 0)).setCell ⟨N + 1, 7, none⟩ (.slice none 0 0)).setCell ⟨N + 1, 8, none⟩ (.slice none 0 0)) (.slice ba bn bc) l) := HO
      have c0 : w3.cell? ⟨N, 0, none⟩ = some (.int .i64 (K : Int)) := HI3.out.mx.c0
      have c1 : w3.cell? ⟨N, 1, none⟩ = some (.int .i64 (F : Int)) := HI3.out.mx.c1
      have c2 : w3.cell? ⟨N, 2, none⟩ = some (.int .i64 (T : Int)) := HI3.out.mx.c2
      have c3 : w3.cell? ⟨N, 3, none⟩ = some (.int .i64 (B : Int)) := HI3.out.mx.c3
      have c4 : w3.cell? ⟨N, 4, none⟩ = some (.int .i64 (A : Int)) := HI3.out.mx.c4
      have c5 : w3.cell? ⟨N, 5, none⟩ = some (.int .i64 0) := HI3.out.mx.c5
      have c6 : w3.cell? ⟨N, 6, none⟩ = some (.slice none 0 0) := HI3.out.mx.c6
      have c7 : w3.cell? ⟨N, 7, none⟩ = some (.slice none 0 0) := HI3.out.mx.c7
      have c8 : w3.cell? ⟨N, 8, none⟩ = some (.slice none 0 0) := HI3.out.mx.c8
      go_wp2_with fail
      generalize ((((((((w3.setCell ⟨N + 1, 0, none⟩ (.int .i64 (K : Int))).setCell ⟨N + 1, 1, none⟩ (.int .i64 (F : Int))).setCell ⟨N + 1, 2, none⟩ (.int .i64 (T : Int))).setCell ⟨N + 1, 3, none⟩ (.int .i64 (B : Int))).setCell ⟨N + 1, 4, none⟩ (.int .i64 (A : Int))).setCell ⟨N + 1, 5, none⟩ (.int .i64 0)).setCell ⟨N + 1, 6, none⟩ (.slice none 0 0)).setCell ⟨N + 1, 7, none⟩ (.slice none 0 0)).setCell ⟨N + 1, 8, none⟩ (.slice none 0 0) = w9 at HO ⊢
      obtain ⟨hm9, hc9, hb9, hv9⟩ := HO.out
      have y0 : w9.cell? ⟨N + 1, 0, none⟩ = some (.int .i64 (K : Int)) := hm9.c0
      have y1 : w9.cell? ⟨N + 1, 1, none⟩ = some (.int .i64 (F : Int)) := hm9.c1
      have y2 : w9.cell? ⟨N + 1, 2, none⟩ = some (.int .i64 (T : Int)) := hm9.c2
      have y3 : w9.cell? ⟨N + 1, 3, none⟩ = some (.int .i64 (B : Int)) := hm9.c3
      have y4 : w9.cell? ⟨N + 1, 4, none⟩ = some (.int .i64 (A : Int)) := hm9.c4
      have y5 : w9.cell? ⟨N + 1, 5, none⟩ = some (.int .i64 0) := hm9.c5
      have y6 : w9.cell? ⟨N + 1, 6, none⟩ = some (.slice none 0 0) := hm9.c6
      have y7 : w9.cell? ⟨N + 1, 7, none⟩ = some (.slice none 0 0) := hm9.c7
      have y8 : w9.cell? ⟨N + 1, 8, none⟩ = some (.slice none 0 0) := hm9.c8
      have HBW : Hid (Below w.heap.size w w9) := by have k := hb9; rw [HN.out] at k; exact k
      refine bodyPost_ret (v := .tuple #[.agg #[.int .i64 (K : Int), .int .i64 (F : Int), .int .i64 (T : Int), .int .i64 (B : Int), .int .i64 (A : Int), .int .i64 0, .slice none 0 0, .slice none 0 0, .slice none 0 0], .slice none 0 0, .int .i64 (er : Int)]) (by simp [results, Try.results42, go_sem, y0, y1, y2, y3, y4, y5, y6, y7, y8]) rfl ?_
      exact bad_got (mm := ⟨K, F, T, B, A, 0, [], [], []⟩) HD.out H0.out nil_slice nil_slice nil_slice HBW.out
  · rw [hf]
    have HBO : Hid (bodL ⟨K, F, T, B, A⟩ l = if (keyD l).1 ≠ 0 then ((keyD l).1, zeroMs, []) else (0, (⟨K, F, T, B, A⟩ : Hd).ms 0 [] (keyD l).2.1 [], (keyD l).2.2)) := bod_2 hf
    clear hf HK
    go_wp2_with fail
    refine (rmany_walk HI.out.bv).mono ?_
    rintro e9 w3 ⟨u3, he, hu3, hs3, hB3⟩
    by_cases h0 : (manL l).1 = 0
    · have H0 : Hid ((manL l).1 = 0) := h0
      have HDD : Hid (keyD l = keyS (manL l).2.1 (manL l).2.2) := by show _ = _; unfold keyD; rw [if_neg (by simpa using h0)]
      have HI3 : Hid (RB N w w3 ⟨K, F, T, B, A, 0, [], [], []⟩ (.slice none 0 0) (.slice none 0 0) (.slice none 0 0) u3 (manL l).2.2) := HI.out.cut hB3 hu3 hs3 man_ne
      rw [h0] at he
      obtain ⟨x, hx⟩ : ∃ x, x = (manL l).2.1 := ⟨_, rfl⟩
      have HX64 : Hid (x ≤ 64) := by show _ ≤ _; rw [hx]; exact man_le
      rw [← hx] at he HDD
      obtain ⟨D, hD⟩ : ∃ D, D = keyD l := ⟨_, rfl⟩
      rw [← hD] at HBO HDD
      subst he
      clear hx hD h0 hu3 hs3 hB3 HI
      obtain ⟨ba, bn, bc, hub⟩ := bv_any HI3.out.bv
      subst hub
      have hx64 : (x : Int) ≤ 64 := by have := HX64.out; omega
      go_wp2_with fail
      go_loopw [1, 16] (fun bv iv wr => ∃ (i : Nat) (acc : List Nat) (kv : Value) (l4 : List Nat), iv = .int .i64 i ∧ i ≤ x ∧ acc.length = i ∧ At D (keyS (x - i) l4) acc ∧ RB N w wr ⟨K, F, T, B, A, 0, [], acc, []⟩ (.slice none 0 0) kv (.slice none 0 0) bv l4 ∧ wr.ownsRow (N + 2) 38 1 kv acc.length ((ib acc).map (Value.int .u64))) (fun _ iv _ => x - (intOf iv).toNat)
      case atStart => exact ⟨0, [], .slice none 0 0, _, rfl, by omega, rfl, by rw [HDD.out]; exact at_start _, HI3.out, own_nil⟩
      case round =>
        clear HI3
        obtain ⟨i, acc, kv, l4, rfl, hix, hai, hat, hrb, hown⟩ := hrel
        have HAT : Hid (At D (keyS (x - i) l4) acc) := hat
        have HOW : Hid (wr.ownsRow (N + 2) 38 1 kv acc.length ((ib acc).map (Value.int .u64))) := hown
        have HAI : Hid (acc.length = i) := hai
        obtain ⟨ba, bn, bc, hub⟩ := bv_any hrb.bv
        subst hub
        have HI : Hid (RB N w wr ⟨K, F, T, B, A, 0, [], acc, []⟩ (.slice none 0 0) kv (.slice none 0 0) (.slice ba bn bc) l4) := hrb
        obtain ⟨ka, kn, kc, hkv⟩ : ∃ a n c, kv = .slice a n c := own_form HOW.out
        subst hkv
        clear hat hown hai hrb
        by_cases hlt : i < x
        · have hlti : (i : Int) < (x : Int) := by omega
          have HAT2 : Hid (At D (keyS (x - (i + 1) + 1) l4) acc) := by rw [show x - (i + 1) + 1 = x - i by omega]; exact HAT.out
          rcases Wm.take_form l4 HI.out.bv.2 with ⟨er, ht, h34⟩ | ⟨y, n, ht, hy, hn1, hn2, hn3⟩
          · have HT : Hid _ := t3_litB ht
            have h0 : er ≠ 0 := by omega
            have H0 : Hid (er ≠ 0) := h0
            have hne : ((er : Int) != 0) = true := by rw [bne_iff_ne]; omega
            have HD : Hid ((bodL ⟨K, F, T, B, A⟩ l).1 = er) := by show _ = _; have e : D.1 = er := (by rw [key_stop HAT2.out (by rw [ht]; exact h0), ht]); rw [HBO.out, if_pos (by rw [e]; exact h0)]; exact e
            clear ht h34 h0 HAT2
            go_wp2_with fail
            refine (rtake_walk HI.out.bv).mono ?_
            rw [HT.out]
            rintro e9 w4 ⟨rfl, hw4⟩
            replace hw4 := hw4.symm
            subst hw4
            obtain ⟨rn, ra, rb, rc, hrx⟩ := HI.out.rx
            have d0 := hrx.c0; have z0 := hrx.z 0
            have d1 := hrx.c1; have z1 := hrx.z 1
            have d2 := hrx.c2; have z2 := hrx.z 2
            have d3 := hrx.c3; have z3 := hrx.z 3
            have d4 := hrx.c4; have z4 := hrx.z 4
            have d5 := hrx.c5; have z5 := hrx.z 5
            have d6 := hrx.c6; have z6 := hrx.z 6
            have d7 := hrx.c7; have z7 := hrx.z 7
            have d8 := hrx.c8; have z8 := hrx.z 8
            clear hrx
            have HO := HI.out.out
            unfold setM at HO
            replace HO : Hid (MX (((((((((wr.setCell ⟨N + 1, 0, none⟩ (.int .i64 (K : Int))).setCell ⟨N + 1, 1, none⟩ (.int .i64 (F : Int))).setCell ⟨N + 1, 2, none⟩ (.int .i64 (T : Int))).setCell ⟨N + 1, 3, none⟩ (.int .i64 (B : Int))).setCell ⟨N + 1, 4, none⟩ (.int .i64 (A : Int))).setCell ⟨N + 1, 5, none⟩ (.int .i64 0)).setCell ⟨N + 1, 6, none⟩ (.slice none 0 0)).setCell ⟨N + 1, 7, none⟩ (.slice ka kn kc)).setCell ⟨N + 1, 8, none⟩ (.slice none 0 0)) (N + 1) ⟨K, F, T, B, A, 0, [], acc, []⟩ (.slice none 0 0) (.slice ka kn kc) (.slice none 0 0) ∧ Ch (fun x => x = N + 1) wr (((((((((wr.setCell ⟨N + 1, 0, none⟩ (.int .i64 (K : Int))).setCell ⟨N + 1, 1, none⟩ (.int .i64 (F : Int))).setCell ⟨N + 1, 2, none⟩ (.int .i64 (T : Int))).setCell ⟨N + 1, 3, none⟩ (.int .i64 (B : Int))).setCell ⟨N + 1, 4, none⟩ (.int .i64 (A : Int))).setCell ⟨N + 1, 5, none⟩ (.int .i64 0)).setCell ⟨N + 1, 6, none⟩ (.slice none 0 0)).setCell ⟨N + 1, 7, none⟩ (.slice ka kn kc)).setCell ⟨N + 1, 8, none⟩ (.slice none 0 0)) ∧ Below N w (((((((((wr.setCell ⟨N + 1, 0, none⟩ (.int .i64 (K : Int))).setCell ⟨N + 1, 1, none⟩ (.int .i64 (F : Int))).setCell ⟨N + 1, 2, none⟩ (.int .i64 (T : Int))).setCell ⟨N + 1, 3, none⟩ (.int .i64 (B : Int))).setCell ⟨N + 1, 4, none⟩ (.int .i64 (A : Int))).setCell ⟨N + 1, 5, none⟩ (.int .i64 0)).setCell ⟨N + 1, 6, none⟩ (.slice none 0 0)).setCell ⟨N + 1, 7, none⟩ (.slice ka kn kc)).setCell ⟨N + 1, 8, none⟩ (.slice none 0 0)) ∧ Bv (((((((((wr.setCell ⟨N + 1, 0, none⟩ (.int .i64 (K : Int))).setCell ⟨N + 1, 1, none⟩ (.int .i64 (F : Int))).setCell ⟨N + 1, 2, none⟩ (.int .i64 (T : Int))).setCell ⟨N + 1, 3, none⟩ (.int .i64 (B : Int))).setCell ⟨N + 1, 4, none⟩ (.int .i64 (A : Int))).setCell ⟨N + 1, 5, none⟩ (.int .i64 0)).setCell ⟨N + 1, 6, none⟩ (.slice none 0 0)).setCell ⟨N + 1, 7, none⟩ (.slice ka kn kc)).setCell ⟨N + 1, 8, none⟩ (.slice none 0 0)) (.slice ba bn bc) l4) := HO
            have c0 : wr.cell? ⟨N, 0, none⟩ = some (.int .i64 (K : Int)) := HI.out.mx.c0
            have c1 : wr.cell? ⟨N, 1, none⟩ = some (.int .i64 (F : Int)) := HI.out.mx.c1
            have c2 : wr.cell? ⟨N, 2, none⟩ = some (.int .i64 (T : Int)) := HI.out.mx.c2
            have c3 : wr.cell? ⟨N, 3, none⟩ = some (.int .i64 (B : Int)) := HI.out.mx.c3
            have c4 : wr.cell? ⟨N, 4, none⟩ = some (.int .i64 (A : Int)) := HI.out.mx.c4
            have c5 : wr.cell? ⟨N, 5, none⟩ = some (.int .i64 0) := HI.out.mx.c5
            have c6 : wr.cell? ⟨N, 6, none⟩ = some (.slice none 0 0) := HI.out.mx.c6
            have c7 : wr.cell? ⟨N, 7, none⟩ = some (.slice ka kn kc) := HI.out.mx.c7
            have c8 : wr.cell? ⟨N, 8, none⟩ = some (.slice none 0 0) := HI.out.mx.c8
            go_wp2_with fail
            generalize ((((((((wr.setCell ⟨N + 1, 0, none⟩ (.int .i64 (K : Int))).setCell ⟨N + 1, 1, none⟩ (.int .i64 (F : Int))).setCell ⟨N + 1, 2, none⟩ (.int .i64 (T : Int))).setCell ⟨N + 1, 3, none⟩ (.int .i64 (B : Int))).setCell ⟨N + 1, 4, none⟩ (.int .i64 (A : Int))).setCell ⟨N + 1, 5, none⟩ (.int .i64 0)).setCell ⟨N + 1, 6, none⟩ (.slice none 0 0)).setCell ⟨N + 1, 7, none⟩ (.slice ka kn kc)).setCell ⟨N + 1, 8, none⟩ (.slice none 0 0) = w9 at HO ⊢
            obtain ⟨hm9, hc9, hb9, hv9⟩ := HO.out
            have y0 : w9.cell? ⟨N + 1, 0, none⟩ = some (.int .i64 (K : Int)) := hm9.c0
            have y1 : w9.cell? ⟨N + 1, 1, none⟩ = some (.int .i64 (F : Int)) := hm9.c1
            have y2 : w9.cell? ⟨N + 1, 2, none⟩ = some (.int .i64 (T : Int)) := hm9.c2
            have y3 : w9.cell? ⟨N + 1, 3, none⟩ = some (.int .i64 (B : Int)) := hm9.c3
            have y4 : w9.cell? ⟨N + 1, 4, none⟩ = some (.int .i64 (A : Int)) := hm9.c4
            have y5 : w9.cell? ⟨N + 1, 5, none⟩ = some (.int .i64 0) := hm9.c5
            have y6 : w9.cell? ⟨N + 1, 6, none⟩ = some (.slice none 0 0) := hm9.c6
            have y7 : w9.cell? ⟨N + 1, 7, none⟩ = some (.slice ka kn kc) := hm9.c7
            have y8 : w9.cell? ⟨N + 1, 8, none⟩ = some (.slice none 0 0) := hm9.c8
            have HBW : Hid (Below w.heap.size w w9) := by have k := hb9; rw [HN.out] at k; exact k
            refine bodyPost_ret (v := .tuple #[.agg #[.int .i64 (K : Int), .int .i64 (F : Int), .int .i64 (T : Int), .int .i64 (B : Int), .int .i64 (A : Int), .int .i64 0, .slice none 0 0, .slice ka kn kc, .slice none 0 0], .slice none 0 0, .int .i64 (er : Int)]) (by simp [results, Try.results42, go_sem, y0, y1, y2, y3, y4, y5, y6, y7, y8]) rfl ?_
            exact bad_got (mm := ⟨K, F, T, B, A, 0, [], acc, []⟩) HD.out H0.out (nil_slice) (⟨_, _, _, rfl⟩) (nil_slice) HBW.out
          · have HT : Hid _ := t3_litB ht
            obtain ⟨bb, off, cap', e1, _⟩ : ∃ bb off cap', Value.slice ba bn bc = .slice (some ⟨bb, off, none⟩) l4.length cap' ∧ True := by rcases bv_cases HI.out.bv with ⟨e0, _⟩ | ⟨b, o, c, e, _⟩; rw [e0] at hn2; simp at hn2; omega; exact ⟨b, o, c, e, trivial⟩
            simp only [Value.slice.injEq] at e1
            obtain ⟨rfl, rfl, rfl⟩ := e1
            obtain ⟨_, hlc, hmx⟩ := bv_le HI.out.bv
            unfold maxLen at hmx
            have hci : (bc : Int) ≤ 9223372036854775807 := by omega
            have hli : (l4.length : Int) ≤ (bc : Int) := by omega
            have hnl : (n : Int) ≤ (l4.length : Int) := by omega
            have hnc : (n : Int) ≤ (bc : Int) := by omega
            have HYL : Hid (y < 18446744073709551616) := hy
            have HNN : Hid (n ≤ l4.length) := hn2
            have ht0 : (Wm.take l4).2.2 = 0 := by rw [ht]
            have HLE : Hid (acc.length ≤ 64) := by have := HAI.out; have := HX64.out; show _ ≤ _; omega
            have HNX : Hid (At D (keyS (x - (i + 1)) (l4.drop n)) (acc ++ [y])) := by have k := key_step HAT2.out ht0; rw [ht] at k; exact k
            clear ht hy hn1 hn2 hn3 hlc hmx HAT2
            clear ht0
            go_wp2_with fail
            refine (rtake_walk HI.out.bv).mono ?_
            rw [HT.out]
            rintro e9 w4 ⟨rfl, hw4⟩
            replace hw4 := hw4.symm
            subst hw4
            obtain ⟨q1, q2⟩ := bv_cut HI.out.bv n HNN.out
            by_cases hcp : bc = n
            · have HU : Hid (Bv wr (.slice (some ⟨bb, off, none⟩) (l4.length - n) 0) (l4.drop n)) := q1 hcp
              have HCP : Hid (bc = n) := hcp
              subst hcp
              clear q1 q2
              have HI5 : Hid (RB N w wr ⟨K, F, T, B, A, 0, [], acc, []⟩ (.slice none 0 0) (.slice ka kn kc) (.slice none 0 0) (.slice (some ⟨bb, off, none⟩) (l4.length - bc) 0) (l4.drop bc)) := HI.out.cut (Below.refl _ _) HU.out sb_cut0 drop_ne
              have k7 := HI5.out.mx.c7; have zz7 := HI5.out.mx.z 7
              have HBS : Hid (N + 2 ≤ wr.heap.size) := by obtain ⟨_, _, _, _, k⟩ := HI5.out.rx; exact cell_lt k.c0
              have k7a : ∀ ob : Obj, (wr.alloc ob).cell? ⟨N, 7, none⟩ = some (.slice ka kn kc) := fun ob => (HI5.out.mx.keep (below_alloc _ _)).c7
              go_wp2_with (at_builtin; refine wpList_append_sv (by rfl) (.tmp 86) (.tmp 88) 23 (by rfl) (N + 2) 38 .u64 8 Try.underlying23 info_u64 _ _ _ (by rfl) (HOW.out.alloc _) _ [_] (by rfl) (sv_one .u64 _ _ _) (by have := HLE.out; simp only [maxLen, List.length_singleton]; omega) (by have := HLE.out; simp only [List.length_singleton]; omega) (by rw [size_allocC]; have := HBS.out; omega) ?_; intro v6 w6 hown hgrow; have hg6 : Below (N + 2) wr w6 := ((below_alloc wr _).mono HBS.out).trans (grown_belowC (HOW.out.alloc _) hgrow (by rw [size_allocC]; have := HBS.out; omega)); have HI6 : Hid _ := HI5.out.grow hg6; have k8 := HI6.out.mx.c7; have z8 := HI6.out.mx.z 7; obtain ⟨va, vn, vc, hv6⟩ : ∃ a n c, v6 = .slice a n c := own_form hown; subst hv6)
              have HI7 : Hid (RB N w (w6.setCell ⟨N, 7, none⟩ (.slice va vn vc)) ⟨K, F, T, B, A, 0, [], acc ++ [y], []⟩ (.slice none 0 0) (.slice va vn vc) (.slice none 0 0) (.slice (some ⟨bb, off, none⟩) (l4.length - bc) 0) (l4.drop bc)) := HI6.out.set (mx_as5 (HI6.out.mx.s7 _))
              have HO7 : Hid ((w6.setCell ⟨N, 7, none⟩ (.slice va vn vc)).ownsRow (N + 2) 38 1 (.slice va vn vc) (acc ++ [y]).length ((ib (acc ++ [y])).map (Value.int .u64))) := by
                refine own_ch ?_ (ch_set _ _ _ _) (fun z hz => by omega)
                show World.ownsRow _ _ _ _ _ _ _
                rw [List.length_append, ib_append, List.map_append]; exact hown
              clear hown hgrow hg6
              go_wp2_with fail
              go_roundw
              case rel => exact ⟨i + 1, acc ++ [y], .slice va vn vc, _, by simp, hlt, by have := HAI.out; simp; omega, HNX.out, HI7.out, HO7.out⟩
              case measure => simp [intOf]; omega
            · have HU : Hid (Bv wr (.slice (some ⟨bb, off + n, none⟩) (l4.length - n) (bc - n)) (l4.drop n)) := by have k := q2 hcp; show Bv _ _ _; simpa [WideShapes.add_plain] using k
              have hcn : ¬ (bc : Int) = (n : Int) := by omega
              clear q1 q2
              have HI5 : Hid (RB N w wr ⟨K, F, T, B, A, 0, [], acc, []⟩ (.slice none 0 0) (.slice ka kn kc) (.slice none 0 0) (.slice (some ⟨bb, off + n, none⟩) (l4.length - n) (bc - n)) (l4.drop n)) := HI.out.cut (Below.refl _ _) HU.out (fun z hz => by simpa [Value.ownBlock] using hz) drop_ne
              have k7 := HI5.out.mx.c7; have zz7 := HI5.out.mx.z 7
              have HBS : Hid (N + 2 ≤ wr.heap.size) := by obtain ⟨_, _, _, _, k⟩ := HI5.out.rx; exact cell_lt k.c0
              have k7a : ∀ ob : Obj, (wr.alloc ob).cell? ⟨N, 7, none⟩ = some (.slice ka kn kc) := fun ob => (HI5.out.mx.keep (below_alloc _ _)).c7
              go_wp2_with (at_builtin; refine wpList_append_sv (by rfl) (.tmp 86) (.tmp 88) 23 (by rfl) (N + 2) 38 .u64 8 Try.underlying23 info_u64 _ _ _ (by rfl) (HOW.out.alloc _) _ [_] (by rfl) (sv_one .u64 _ _ _) (by have := HLE.out; simp only [maxLen, List.length_singleton]; omega) (by have := HLE.out; simp only [List.length_singleton]; omega) (by rw [size_allocC]; have := HBS.out; omega) ?_; intro v6 w6 hown hgrow; have hg6 : Below (N + 2) wr w6 := ((below_alloc wr _).mono HBS.out).trans (grown_belowC (HOW.out.alloc _) hgrow (by rw [size_allocC]; have := HBS.out; omega)); have HI6 : Hid _ := HI5.out.grow hg6; have k8 := HI6.out.mx.c7; have z8 := HI6.out.mx.z 7; obtain ⟨va, vn, vc, hv6⟩ : ∃ a n c, v6 = .slice a n c := own_form hown; subst hv6)
              have HI7 : Hid (RB N w (w6.setCell ⟨N, 7, none⟩ (.slice va vn vc)) ⟨K, F, T, B, A, 0, [], acc ++ [y], []⟩ (.slice none 0 0) (.slice va vn vc) (.slice none 0 0) (.slice (some ⟨bb, off + n, none⟩) (l4.length - n) (bc - n)) (l4.drop n)) := HI6.out.set (mx_as5 (HI6.out.mx.s7 _))
              have HO7 : Hid ((w6.setCell ⟨N, 7, none⟩ (.slice va vn vc)).ownsRow (N + 2) 38 1 (.slice va vn vc) (acc ++ [y]).length ((ib (acc ++ [y])).map (Value.int .u64))) := by
                refine own_ch ?_ (ch_set _ _ _ _) (fun z hz => by omega)
                show World.ownsRow _ _ _ _ _ _ _
                rw [List.length_append, ib_append, List.map_append]; exact hown
              clear hown hgrow hg6
              go_wp2_with fail
              go_roundw
              case rel => exact ⟨i + 1, acc ++ [y], .slice va vn vc, _, by simp, hlt, by have := HAI.out; simp; omega, HNX.out, HI7.out, HO7.out⟩
              case measure => simp [intOf]; omega
        · have hlti : ¬ (i : Int) < (x : Int) := by omega
          obtain rfl : i = x := by omega
          have hD : D = (0, acc, l4) := by
            have hA := HAT.out
            rw [Nat.sub_self] at hA
            obtain ⟨a1, a2⟩ := hA
            simp only [keyS, List.append_nil] at a1 a2
            obtain ⟨b1, b2⟩ := a2 trivial
            obtain ⟨D1, D2, D3⟩ := D
            simp only at a1 b1 b2
            rw [a1, b1, b2]
          have HR1 : Hid (bodL ⟨K, F, T, B, A⟩ l = (0, ⟨K, F, T, B, A, 0, [], acc, []⟩, l4)) := by show _ = _; rw [HBO.out, hD, if_neg (by simp)]; rfl
          clear hD HAT
          obtain ⟨rn, ra, rb, rc, hrx⟩ := HI.out.rx
          have d0 := hrx.c0; have z0 := hrx.z 0
          have d1 := hrx.c1; have z1 := hrx.z 1
          have d2 := hrx.c2; have z2 := hrx.z 2
          have d3 := hrx.c3; have z3 := hrx.z 3
          have d4 := hrx.c4; have z4 := hrx.z 4
          have d5 := hrx.c5; have z5 := hrx.z 5
          have d6 := hrx.c6; have z6 := hrx.z 6
          have d7 := hrx.c7; have z7 := hrx.z 7
          have d8 := hrx.c8; have z8 := hrx.z 8
          clear hrx
          have HO := HI.out.out
          unfold setM at HO
          replace HO : Hid (MX (((((((((wr.setCell ⟨N + 1, 0, none⟩ (.int .i64 (K : Int))).setCell ⟨N + 1, 1, none⟩ (.int .i64 (F : Int))).setCell ⟨N + 1, 2, none⟩ (.int .i64 (T : Int))).setCell ⟨N + 1, 3, none⟩ (.int .i64 (B : Int))).setCell ⟨N + 1, 4, none⟩ (.int .i64 (A : Int))).setCell ⟨N + 1, 5, none⟩ (.int .i64 0)).setCell ⟨N + 1, 6, none⟩ (.slice none 0 0)).setCell ⟨N + 1, 7, none⟩ (.slice ka kn kc)).setCell ⟨N + 1, 8, none⟩ (.slice none 0 0)) (N + 1) ⟨K, F, T, B, A, 0, [], acc, []⟩ (.slice none 0 0) (.slice ka kn kc) (.slice none 0 0) ∧ Ch (fun x => x = N + 1) wr (((((((((wr.setCell ⟨N + 1, 0, none⟩ (.int .i64 (K : Int))).setCell ⟨N + 1, 1, none⟩ (.int .i64 (F : Int))).setCell ⟨N + 1, 2, none⟩ (.int .i64 (T : Int))).setCell ⟨N + 1, 3, none⟩ (.int .i64 (B : Int))).setCell ⟨N + 1, 4, none⟩ (.int .i64 (A : Int))).setCell ⟨N + 1, 5, none⟩ (.int .i64 0)).setCell ⟨N + 1, 6, none⟩ (.slice none 0 0)).setCell ⟨N + 1, 7, none⟩ (.slice ka kn kc)).setCell ⟨N + 1, 8, none⟩ (.slice none 0 0)) ∧ Below N w (((((((((wr.setCell ⟨N + 1, 0, none⟩ (.int .i64 (K : Int))).setCell ⟨N + 1, 1, none⟩ (.int .i64 (F : Int))).setCell ⟨N + 1, 2, none⟩ (.int .i64 (T : Int))).setCell ⟨N + 1, 3, none⟩ (.int .i64 (B : Int))).setCell ⟨N + 1, 4, none⟩ (.int .i64 (A : Int))).setCell ⟨N + 1, 5, none⟩ (.int .i64 0)).setCell ⟨N + 1, 6, none⟩ (.slice none 0 0)).setCell ⟨N + 1, 7, none⟩ (.slice ka kn kc)).setCell ⟨N + 1, 8, none⟩ (.slice none 0 0)) ∧ Bv (((((((((wr.setCell ⟨N + 1, 0, none⟩ (.int .i64 (K : Int))).setCell ⟨N + 1, 1, none⟩ (.int .i64 (F : Int))).setCell ⟨N + 1, 2, none⟩ (.int .i64 (T : Int))).setCell ⟨N + 1, 3, none⟩ (.int .i64 (B : Int))).setCell ⟨N + 1, 4, none⟩ (.int .i64 (A : Int))).setCell ⟨N + 1, 5, none⟩ (.int .i64 0)).setCell ⟨N + 1, 6, none⟩ (.slice none 0 0)).setCell ⟨N + 1, 7, none⟩ (.slice ka kn kc)).setCell ⟨N + 1, 8, none⟩ (.slice none 0 0)) (.slice ba bn bc) l4) := HO
          have c0 : wr.cell? ⟨N, 0, none⟩ = some (.int .i64 (K : Int)) := HI.out.mx.c0
          have c1 : wr.cell? ⟨N, 1, none⟩ = some (.int .i64 (F : Int)) := HI.out.mx.c1
          have c2 : wr.cell? ⟨N, 2, none⟩ = some (.int .i64 (T : Int)) := HI.out.mx.c2
          have c3 : wr.cell? ⟨N, 3, none⟩ = some (.int .i64 (B : Int)) := HI.out.mx.c3
          have c4 : wr.cell? ⟨N, 4, none⟩ = some (.int .i64 (A : Int)) := HI.out.mx.c4
          have c5 : wr.cell? ⟨N, 5, none⟩ = some (.int .i64 0) := HI.out.mx.c5
          have c6 : wr.cell? ⟨N, 6, none⟩ = some (.slice none 0 0) := HI.out.mx.c6
          have c7 : wr.cell? ⟨N, 7, none⟩ = some (.slice ka kn kc) := HI.out.mx.c7
          have c8 : wr.cell? ⟨N, 8, none⟩ = some (.slice none 0 0) := HI.out.mx.c8
          go_wp2_with fail
          generalize ((((((((wr.setCell ⟨N + 1, 0, none⟩ (.int .i64 (K : Int))).setCell ⟨N + 1, 1, none⟩ (.int .i64 (F : Int))).setCell ⟨N + 1, 2, none⟩ (.int .i64 (T : Int))).setCell ⟨N + 1, 3, none⟩ (.int .i64 (B : Int))).setCell ⟨N + 1, 4, none⟩ (.int .i64 (A : Int))).setCell ⟨N + 1, 5, none⟩ (.int .i64 0)).setCell ⟨N + 1, 6, none⟩ (.slice none 0 0)).setCell ⟨N + 1, 7, none⟩ (.slice ka kn kc)).setCell ⟨N + 1, 8, none⟩ (.slice none 0 0) = w9 at HO ⊢
          obtain ⟨hm9, hc9, hb9, hv9⟩ := HO.out
          have y0 : w9.cell? ⟨N + 1, 0, none⟩ = some (.int .i64 (K : Int)) := hm9.c0
          have y1 : w9.cell? ⟨N + 1, 1, none⟩ = some (.int .i64 (F : Int)) := hm9.c1
          have y2 : w9.cell? ⟨N + 1, 2, none⟩ = some (.int .i64 (T : Int)) := hm9.c2
          have y3 : w9.cell? ⟨N + 1, 3, none⟩ = some (.int .i64 (B : Int)) := hm9.c3
          have y4 : w9.cell? ⟨N + 1, 4, none⟩ = some (.int .i64 (A : Int)) := hm9.c4
          have y5 : w9.cell? ⟨N + 1, 5, none⟩ = some (.int .i64 0) := hm9.c5
          have y6 : w9.cell? ⟨N + 1, 6, none⟩ = some (.slice none 0 0) := hm9.c6
          have y7 : w9.cell? ⟨N + 1, 7, none⟩ = some (.slice ka kn kc) := hm9.c7
          have y8 : w9.cell? ⟨N + 1, 8, none⟩ = some (.slice none 0 0) := hm9.c8
          have HBW : Hid (Below w.heap.size w w9) := by have k := hb9; rw [HN.out] at k; exact k
          refine bodyPost_ret (v := .tuple #[.agg #[.int .i64 (K : Int), .int .i64 (F : Int), .int .i64 (T : Int), .int .i64 (B : Int), .int .i64 (A : Int), .int .i64 0, .slice none 0 0, .slice ka kn kc, .slice none 0 0], .slice ba bn bc, .int .i64 0]) (by simp [results, Try.results42, go_sem, y0, y1, y2, y3, y4, y5, y6, y7, y8]) rfl ?_
          refine ⟨⟨K, F, T, B, A, 0, [], acc, []⟩, .slice none 0 0, .slice ka kn kc, .slice none 0 0, .slice ba bn bc, by rw [HR1.out]; rfl, ⟨nil_slice, ⟨_, _, _, rfl⟩, nil_slice⟩, HBW.out, fun _ => ?_⟩
          rw [HR1.out]
          refine ⟨rfl, own_nil, ?_, own_nil, hv9, fun z hz hne => ?_⟩
          · exact own_baseC (base' := w.heap.size) (own_ch HOW.out hc9 (fun z hz => by omega)) (by have := HN.out; omega)
          · have k := HI.out.bm z hz hne; rw [← HN.out]; exact k
    · have H0 : Hid ((manL l).1 ≠ 0) := h0
      have HD : Hid ((bodL ⟨K, F, T, B, A⟩ l).1 = (manL l).1) := by show _ = _; have e : keyD l = ((manL l).1, [], []) := (by unfold keyD; rw [if_pos h0]); rw [HBO.out, e, if_pos h0]
      have HI3 : Hid (RB N w w3 ⟨K, F, T, B, A, 0, [], [], []⟩ (.slice none 0 0) (.slice none 0 0) (.slice none 0 0) (.slice ba bn bc) l) := HI.out.old hB3
      obtain ⟨er, her⟩ : ∃ er, er = (manL l).1 := ⟨_, rfl⟩
      rw [← her] at he H0 HD
      have hne : ((er : Int) != 0) = true := by rw [bne_iff_ne]; have := H0.out; omega
      obtain ⟨ua, un, uc, hu9⟩ := bv_any hu3
      subst hu9
      subst he
      clear h0 her hu3 hs3 hB3 HI
      obtain ⟨rn, ra, rb, rc, hrx⟩ := HI3.out.rx
      have d0 := hrx.c0; have z0 := hrx.z 0
      have d1 := hrx.c1; have z1 := hrx.z 1
      have d2 := hrx.c2; have z2 := hrx.z 2
      have d3 := hrx.c3; have z3 := hrx.z 3
      have d4 := hrx.c4; have z4 := hrx.z 4
      have d5 := hrx.c5; have z5 := hrx.z 5
      have d6 := hrx.c6; have z6 := hrx.z 6
      have d7 := hrx.c7; have z7 := hrx.z 7
      have d8 := hrx.c8; have z8 := hrx.z 8
      clear hrx
      have HO := HI3.out.out
      unfold setM at HO
      replace HO : Hid (MX (((((((((w3.setCell ⟨N + 1, 0, none⟩ (.int .i64 (K : Int))).setCell ⟨N + 1, 1, none⟩ (.int .i64 (F : Int))).setCell ⟨N + 1, 2, none⟩ (.int .i64 (T : Int))).setCell ⟨N + 1, 3, none⟩ (.int .i64 (B : Int))).setCell ⟨N + 1, 4, none⟩ (.int .i64 (A : Int))).setCell ⟨N + 1, 5, none⟩ (.int .i64 0)).setCell ⟨N + 1, 6, none⟩ (.slice none 0 0)).setCell ⟨N + 1, 7, none⟩ (.slice none 0 0)).setCell ⟨N + 1, 8, none⟩ (.slice none 0 0)) (N + 1) ⟨K, F, T, B, A, 0, [], [], []⟩ (.slice none 0 0) (.slice none 0 0) (.slice none 0 0) ∧ Ch (fun x => x = N + 1) w3 (((((((((w3.setCell ⟨N + 1, 0, none⟩ (.int .i64 (K : Int))).setCell ⟨N + 1, 1, none⟩ (.int .i64 (F : Int))).setCell ⟨N + 1, 2, none⟩ (.int .i64 (T : Int))).setCell ⟨N + 1, 3, none⟩ (.int .i64 (B : Int))).setCell ⟨N + 1, 4, none⟩ (.int .i64 (A : Int))).setCell ⟨N + 1, 5, none⟩ (.int .i64 0)).setCell ⟨N + 1, 6, none⟩ (.slice none 0 0)).setCell ⟨N + 1, 7, none⟩ (.slice none 0 0)).setCell ⟨N + 1, 8, none⟩ (.slice none 0 0)) ∧ Below N w (((((((((w3.setCell ⟨N + 1, 0, none⟩ (.int .i64 (K : Int))).setCell ⟨N + 1, 1, none⟩ (.int .i64 (F : Int))).setCell ⟨N + 1, 2, none⟩ (.int .i64 (T : Int))).setCell ⟨N + 1, 3, none⟩ (.int .i64 (B : Int))).setCell ⟨N + 1, 4, none⟩ (.int .i64 (A : Int))).setCell ⟨N + 1, 5, none⟩ (.int .i64 0)).setCell ⟨N + 1, 6, none⟩ (.slice none 0 0)).setCell ⟨N + 1, 7, none⟩ (.slice none 0 0)).setCell ⟨N + 1, 8, none⟩ (.slice none 0 0)) ∧ Bv (((((((((w3.setCell ⟨N + 1, 0, none⟩ (.int .i64 (K : Int))).setCell ⟨N + 1, 1, none⟩ (.int .i64 (F : Int))).setCell ⟨N + 1, 2, none⟩ (.int .i64 (T : Int))).setCell ⟨N + 1, 3, none⟩ (.int .i64 (B : Int))).setCell ⟨N + 1, 4, none⟩ (.int .i64 (A : Int))).setCell ⟨N + 1, 5, none⟩ (.int .i64 0)).setCell ⟨N + 1, 6, none⟩ (.slice none 0 0)).setCell ⟨N + 1, 7, none⟩ (.slice none 0 0)).setCell ⟨N + 1, 8, none⟩ (.slice none 0 0)) (.slice ba bn bc) l) := HO
      have c0 : w3.cell? ⟨N, 0, none⟩ = some (.int .i64 (K : Int)) := HI3.out.mx.c0
      have c1 : w3.cell? ⟨N, 1, none⟩ = some (.int .i64 (F : Int)) := HI3.out.mx.c1
      have c2 : w3.cell? ⟨N, 2, none⟩ = some (.int .i64 (T : Int)) := HI3.out.mx.c2
      have c3 : w3.cell? ⟨N, 3, none⟩ = some (.int .i64 (B : Int)) := HI3.out.mx.c3
      have c4 : w3.cell? ⟨N, 4, none⟩ = some (.int .i64 (A : Int)) := HI3.out.mx.c4
      have c5 : w3.cell? ⟨N, 5, none⟩ = some (.int .i64 0) := HI3.out.mx.c5
      have c6 : w3.cell? ⟨N, 6, none⟩ = some (.slice none 0 0) := HI3.out.mx.c6
      have c7 : w3.cell? ⟨N, 7, none⟩ = some (.slice none 0 0) := HI3.out.mx.c7
      have c8 : w3.cell? ⟨N, 8, none⟩ = some (.slice none 0 0) := HI3.out.mx.c8
      go_wp2_with fail
      generalize ((((((((w3.setCell ⟨N + 1, 0, none⟩ (.int .i64 (K : Int))).setCell ⟨N + 1, 1, none⟩ (.int .i64 (F : Int))).setCell ⟨N + 1, 2, none⟩ (.int .i64 (T : Int))).setCell ⟨N + 1, 3, none⟩ (.int .i64 (B : Int))).setCell ⟨N + 1, 4, none⟩ (.int .i64 (A : Int))).setCell ⟨N + 1, 5, none⟩ (.int .i64 0)).setCell ⟨N + 1, 6, none⟩ (.slice none 0 0)).setCell ⟨N + 1, 7, none⟩ (.slice none 0 0)).setCell ⟨N + 1, 8, none⟩ (.slice none 0 0) = w9 at HO ⊢
      obtain ⟨hm9, hc9, hb9, hv9⟩ := HO.out
      have y0 : w9.cell? ⟨N + 1, 0, none⟩ = some (.int .i64 (K : Int)) := hm9.c0
      have y1 : w9.cell? ⟨N + 1, 1, none⟩ = some (.int .i64 (F : Int)) := hm9.c1
      have y2 : w9.cell? ⟨N + 1, 2, none⟩ = some (.int .i64 (T : Int)) := hm9.c2
      have y3 : w9.cell? ⟨N + 1, 3, none⟩ = some (.int .i64 (B : Int)) := hm9.c3
      have y4 : w9.cell? ⟨N + 1, 4, none⟩ = some (.int .i64 (A : Int)) := hm9.c4
      have y5 : w9.cell? ⟨N + 1, 5, none⟩ = some (.int .i64 0) := hm9.c5
      have y6 : w9.cell? ⟨N + 1, 6, none⟩ = some (.slice none 0 0) := hm9.c6
      have y7 : w9.cell? ⟨N + 1, 7, none⟩ = some (.slice none 0 0) := hm9.c7
      have y8 : w9.cell? ⟨N + 1, 8, none⟩ = some (.slice none 0 0) := hm9.c8
      have HBW : Hid (Below w.heap.size w w9) := by have k := hb9; rw [HN.out] at k; exact k
      refine bodyPost_ret (v := .tuple #[.agg #[.int .i64 (K : Int), .int .i64 (F : Int), .int .i64 (T : Int), .int .i64 (B : Int), .int .i64 (A : Int), .int .i64 0, .slice none 0 0, .slice none 0 0, .slice none 0 0], .slice none 0 0, .int .i64 (er : Int)]) (by simp [results, Try.results42, go_sem, y0, y1, y2, y3, y4, y5, y6, y7, y8]) rfl ?_
      exact bad_got (mm := ⟨K, F, T, B, A, 0, [], [], []⟩) HD.out H0.out nil_slice nil_slice nil_slice HBW.out
  · rw [hf]
    have HBO : Hid (bodL ⟨K, F, T, B, A⟩ l = if (pairD l).1 ≠ 0 then ((pairD l).1, zeroMs, []) else (0, (⟨K, F, T, B, A⟩ : Hd).ms 0 [] [] (pairD l).2.1, (pairD l).2.2)) := bod_3 hf
    clear hf HK
    go_wp2_with fail
    refine (rmany_walk HI.out.bv).mono ?_
    rintro e9 w3 ⟨u3, he, hu3, hs3, hB3⟩
    by_cases h0 : (manL l).1 = 0
    · have H0 : Hid ((manL l).1 = 0) := h0
      have HDD : Hid (pairD l = pairS (manL l).2.1 (manL l).2.2) := by show _ = _; unfold pairD; rw [if_neg (by simpa using h0)]
      have HI3 : Hid (RB N w w3 ⟨K, F, T, B, A, 0, [], [], []⟩ (.slice none 0 0) (.slice none 0 0) (.slice none 0 0) u3 (manL l).2.2) := HI.out.cut hB3 hu3 hs3 man_ne
      rw [h0] at he
      obtain ⟨x, hx⟩ : ∃ x, x = (manL l).2.1 := ⟨_, rfl⟩
      have HX64 : Hid (x ≤ 64) := by show _ ≤ _; rw [hx]; exact man_le
      rw [← hx] at he HDD
      obtain ⟨D, hD⟩ : ∃ D, D = pairD l := ⟨_, rfl⟩
      rw [← hD] at HBO HDD
      subst he
      clear hx hD h0 hu3 hs3 hB3 HI
      obtain ⟨ba, bn, bc, hub⟩ := bv_any HI3.out.bv
      subst hub
      have hx64 : (x : Int) ≤ 64 := by have := HX64.out; omega
      go_wp2_with fail
      go_loopw [1, 16] (fun bv iv wr => ∃ (i : Nat) (acc : List Pr) (kv : Value) (l4 : List Nat), iv = .int .i64 i ∧ i ≤ x ∧ acc.length = i ∧ At D (pairS (x - i) l4) acc ∧ RB N w wr ⟨K, F, T, B, A, 0, [], [], acc⟩ (.slice none 0 0) (.slice none 0 0) kv bv l4 ∧ wr.ownsRow (N + 2) 42 3 kv acc.length (flatQ acc)) (fun _ iv _ => x - (intOf iv).toNat)
      case atStart => exact ⟨0, [], .slice none 0 0, _, rfl, by omega, rfl, by rw [HDD.out]; exact at_start _, HI3.out, own_nil⟩
      case round =>
        clear HI3
        obtain ⟨i, acc, kv, l4, rfl, hix, hai, hat, hrb, hown⟩ := hrel
        have HAT : Hid (At D (pairS (x - i) l4) acc) := hat
        have HOW : Hid (wr.ownsRow (N + 2) 42 3 kv acc.length (flatQ acc)) := hown
        have HAI : Hid (acc.length = i) := hai
        obtain ⟨ba, bn, bc, hub⟩ := bv_any hrb.bv
        subst hub
        have HI : Hid (RB N w wr ⟨K, F, T, B, A, 0, [], [], acc⟩ (.slice none 0 0) (.slice none 0 0) kv (.slice ba bn bc) l4) := hrb
        obtain ⟨ka, kn, kc, hkv⟩ : ∃ a n c, kv = .slice a n c := own_form HOW.out
        subst hkv
        clear hat hown hai hrb
        by_cases hlt : i < x
        · have hlti : (i : Int) < (x : Int) := by omega
          have HAT2 : Hid (At D (pairS (x - (i + 1) + 1) l4) acc) := by rw [show x - (i + 1) + 1 = x - i by omega]; exact HAT.out
          rcases Wm.take_form l4 HI.out.bv.2 with ⟨er, ht, h34⟩ | ⟨y, n, ht, hy, hn1, hn2, hn3⟩
          · have HT : Hid _ := t3_litB ht
            have h0 : er ≠ 0 := by omega
            have H0 : Hid (er ≠ 0) := h0
            have hne : ((er : Int) != 0) = true := by rw [bne_iff_ne]; omega
            have HD : Hid ((bodL ⟨K, F, T, B, A⟩ l).1 = er) := by show _ = _; have e : D.1 = er := (by rw [pair_stop HAT2.out (by rw [ht]; exact h0), ht]); rw [HBO.out, if_pos (by rw [e]; exact h0)]; exact e
            clear ht h34 h0 HAT2
            go_wp2_with fail
            refine (rtake_walk HI.out.bv).mono ?_
            rw [HT.out]
            rintro e9 w4 ⟨rfl, hw4⟩
            replace hw4 := hw4.symm
            subst hw4
            obtain ⟨rn, ra, rb, rc, hrx⟩ := HI.out.rx
            have d0 := hrx.c0; have z0 := hrx.z 0
            have d1 := hrx.c1; have z1 := hrx.z 1
            have d2 := hrx.c2; have z2 := hrx.z 2
            have d3 := hrx.c3; have z3 := hrx.z 3
            have d4 := hrx.c4; have z4 := hrx.z 4
            have d5 := hrx.c5; have z5 := hrx.z 5
            have d6 := hrx.c6; have z6 := hrx.z 6
            have d7 := hrx.c7; have z7 := hrx.z 7
            have d8 := hrx.c8; have z8 := hrx.z 8
            clear hrx
            have HO := HI.out.out
            unfold setM at HO
            replace HO : Hid (MX (((((((((wr.setCell ⟨N + 1, 0, none⟩ (.int .i64 (K : Int))).setCell ⟨N + 1, 1, none⟩ (.int .i64 (F : Int))).setCell ⟨N + 1, 2, none⟩ (.int .i64 (T : Int))).setCell ⟨N + 1, 3, none⟩ (.int .i64 (B : Int))).setCell ⟨N + 1, 4, none⟩ (.int .i64 (A : Int))).setCell ⟨N + 1, 5, none⟩ (.int .i64 0)).setCell ⟨N + 1, 6, none⟩ (.slice none 0 0)).setCell ⟨N + 1, 7, none⟩ (.slice none 0 0)).setCell ⟨N + 1, 8, none⟩ (.slice ka kn kc)) (N + 1) ⟨K, F, T, B, A, 0, [], [], acc⟩ (.slice none 0 0) (.slice none 0 0) (.slice ka kn kc) ∧ Ch (fun x => x = N + 1) wr (((((((((wr.setCell ⟨N + 1, 0, none⟩ (.int .i64 (K : Int))).setCell ⟨N + 1, 1, none⟩ (.int .i64 (F : Int))).setCell ⟨N + 1, 2, none⟩ (.int .i64 (T : Int))).setCell ⟨N + 1, 3, none⟩ (.int .i64 (B : Int))).setCell ⟨N + 1, 4, none⟩ (.int .i64 (A : Int))).setCell ⟨N + 1, 5, none⟩ (.int .i64 0)).setCell ⟨N + 1, 6, none⟩ (.slice none 0 0)).setCell ⟨N + 1, 7, none⟩ (.slice none 0 0)).setCell ⟨N + 1, 8, none⟩ (.slice ka kn kc)) ∧ Below N w (((((((((wr.setCell ⟨N + 1, 0, none⟩ (.int .i64 (K : Int))).setCell ⟨N + 1, 1, none⟩ (.int .i64 (F : Int))).setCell ⟨N + 1, 2, none⟩ (.int .i64 (T : Int))).setCell ⟨N + 1, 3, none⟩ (.int .i64 (B : Int))).setCell ⟨N + 1, 4, none⟩ (.int .i64 (A : Int))).setCell ⟨N + 1, 5, none⟩ (.int .i64 0)).setCell ⟨N + 1, 6, none⟩ (.slice none 0 0)).setCell ⟨N + 1, 7, none⟩ (.slice none 0 0)).setCell ⟨N + 1, 8, none⟩ (.slice ka kn kc)) ∧ Bv (((((((((wr.setCell ⟨N + 1, 0, none⟩ (.int .i64 (K : Int))).setCell ⟨N + 1, 1, none⟩ (.int .i64 (F : Int))).setCell ⟨N + 1, 2, none⟩ (.int .i64 (T : Int))).setCell ⟨N + 1, 3, none⟩ (.int .i64 (B : Int))).setCell ⟨N + 1, 4, none⟩ (.int .i64 (A : Int))).setCell ⟨N + 1, 5, none⟩ (.int .i64 0)).setCell ⟨N + 1, 6, none⟩ (.slice none 0 0)).setCell ⟨N + 1, 7, none⟩ (.slice none 0 0)).setCell ⟨N + 1, 8, none⟩ (.slice ka kn kc)) (.slice ba bn bc) l4) := HO
            have c0 : wr.cell? ⟨N, 0, none⟩ = some (.int .i64 (K : Int)) := HI.out.mx.c0
            have c1 : wr.cell? ⟨N, 1, none⟩ = some (.int .i64 (F : Int)) := HI.out.mx.c1
            have c2 : wr.cell? ⟨N, 2, none⟩ = some (.int .i64 (T : Int)) := HI.out.mx.c2
            have c3 : wr.cell? ⟨N, 3, none⟩ = some (.int .i64 (B : Int)) := HI.out.mx.c3
            have c4 : wr.cell? ⟨N, 4, none⟩ = some (.int .i64 (A : Int)) := HI.out.mx.c4
            have c5 : wr.cell? ⟨N, 5, none⟩ = some (.int .i64 0) := HI.out.mx.c5
            have c6 : wr.cell? ⟨N, 6, none⟩ = some (.slice none 0 0) := HI.out.mx.c6
            have c7 : wr.cell? ⟨N, 7, none⟩ = some (.slice none 0 0) := HI.out.mx.c7
            have c8 : wr.cell? ⟨N, 8, none⟩ = some (.slice ka kn kc) := HI.out.mx.c8
            go_wp2_with fail
            generalize ((((((((wr.setCell ⟨N + 1, 0, none⟩ (.int .i64 (K : Int))).setCell ⟨N + 1, 1, none⟩ (.int .i64 (F : Int))).setCell ⟨N + 1, 2, none⟩ (.int .i64 (T : Int))).setCell ⟨N + 1, 3, none⟩ (.int .i64 (B : Int))).setCell ⟨N + 1, 4, none⟩ (.int .i64 (A : Int))).setCell ⟨N + 1, 5, none⟩ (.int .i64 0)).setCell ⟨N + 1, 6, none⟩ (.slice none 0 0)).setCell ⟨N + 1, 7, none⟩ (.slice none 0 0)).setCell ⟨N + 1, 8, none⟩ (.slice ka kn kc) = w9 at HO ⊢
            obtain ⟨hm9, hc9, hb9, hv9⟩ := HO.out
            have y0 : w9.cell? ⟨N + 1, 0, none⟩ = some (.int .i64 (K : Int)) := hm9.c0
            have y1 : w9.cell? ⟨N + 1, 1, none⟩ = some (.int .i64 (F : Int)) := hm9.c1
            have y2 : w9.cell? ⟨N + 1, 2, none⟩ = some (.int .i64 (T : Int)) := hm9.c2
            have y3 : w9.cell? ⟨N + 1, 3, none⟩ = some (.int .i64 (B : Int)) := hm9.c3
            have y4 : w9.cell? ⟨N + 1, 4, none⟩ = some (.int .i64 (A : Int)) := hm9.c4
            have y5 : w9.cell? ⟨N + 1, 5, none⟩ = some (.int .i64 0) := hm9.c5
            have y6 : w9.cell? ⟨N + 1, 6, none⟩ = some (.slice none 0 0) := hm9.c6
            have y7 : w9.cell? ⟨N + 1, 7, none⟩ = some (.slice none 0 0) := hm9.c7
            have y8 : w9.cell? ⟨N + 1, 8, none⟩ = some (.slice ka kn kc) := hm9.c8
            have HBW : Hid (Below w.heap.size w w9) := by have k := hb9; rw [HN.out] at k; exact k
            refine bodyPost_ret (v := .tuple #[.agg #[.int .i64 (K : Int), .int .i64 (F : Int), .int .i64 (T : Int), .int .i64 (B : Int), .int .i64 (A : Int), .int .i64 0, .slice none 0 0, .slice none 0 0, .slice ka kn kc], .slice none 0 0, .int .i64 (er : Int)]) (by simp [results, Try.results42, go_sem, y0, y1, y2, y3, y4, y5, y6, y7, y8]) rfl ?_
            exact bad_got (mm := ⟨K, F, T, B, A, 0, [], [], acc⟩) HD.out H0.out (nil_slice) (nil_slice) (⟨_, _, _, rfl⟩) HBW.out
          · have HT : Hid _ := t3_litB ht
            obtain ⟨bb, off, cap', e1, _⟩ : ∃ bb off cap', Value.slice ba bn bc = .slice (some ⟨bb, off, none⟩) l4.length cap' ∧ True := by rcases bv_cases HI.out.bv with ⟨e0, _⟩ | ⟨b, o, c, e, _⟩; rw [e0] at hn2; simp at hn2; omega; exact ⟨b, o, c, e, trivial⟩
            simp only [Value.slice.injEq] at e1
            obtain ⟨rfl, rfl, rfl⟩ := e1
            obtain ⟨_, hlc, hmx⟩ := bv_le HI.out.bv
            unfold maxLen at hmx
            have hci : (bc : Int) ≤ 9223372036854775807 := by omega
            have hli : (l4.length : Int) ≤ (bc : Int) := by omega
            have hnl : (n : Int) ≤ (l4.length : Int) := by omega
            have hnc : (n : Int) ≤ (bc : Int) := by omega
            have HYL : Hid (y < 18446744073709551616) := hy
            have HNN : Hid (n ≤ l4.length) := hn2
            have ht0 : (Wm.take l4).2.2 = 0 := by rw [ht]
            have HLE : Hid (acc.length ≤ 64) := by have := HAI.out; have := HX64.out; show _ ≤ _; omega
            have HT0 : Hid (Wm.take l4 = (y, n, 0)) := ht
            clear ht hy hn1 hn2 hn3 hlc hmx
            go_wp2_with fail
            refine (rtake_walk HI.out.bv).mono ?_
            rw [HT.out]
            rintro e9 w4 ⟨rfl, hw4⟩
            replace hw4 := hw4.symm
            subst hw4
            obtain ⟨q1, q2⟩ := bv_cut HI.out.bv n HNN.out
            by_cases hcp : bc = n
            · have HU : Hid (Bv wr (.slice (some ⟨bb, off, none⟩) (l4.length - n) 0) (l4.drop n)) := q1 hcp
              have HCP : Hid (bc = n) := hcp
              subst hcp
              clear q1 q2
              have HI5 : Hid (RB N w wr ⟨K, F, T, B, A, 0, [], [], acc⟩ (.slice none 0 0) (.slice none 0 0) (.slice ka kn kc) (.slice (some ⟨bb, off, none⟩) (l4.length - bc) 0) (l4.drop bc)) := HI.out.cut (Below.refl _ _) HU.out sb_cut0 drop_ne
              by_cases h8 : (l4.drop bc).length < 8
              · have HTW : Hid (Wm.takeW (l4.drop bc) = (0, 3)) := takeW_short h8
                have HD : Hid ((bodL ⟨K, F, T, B, A⟩ l).1 = 3) := by show _ = _; have e : D.1 = 3 := (by have k := pair_stop8 HAT2.out ht0; rw [HT0.out] at k; exact k h8); rw [HBO.out, if_pos (by rw [e]; decide)]; exact e
                clear h8 HAT2 ht0
                go_wp2_with fail
                refine (rtakew_walk HI5.out.bv).mono ?_
                rw [t2_litB HTW.out]
                rintro e9 w4 ⟨rfl, hw4⟩
                replace hw4 := hw4.symm
                subst hw4
                obtain ⟨rn, ra, rb, rc, hrx⟩ := HI5.out.rx
                have d0 := hrx.c0; have z0 := hrx.z 0
                have d1 := hrx.c1; have z1 := hrx.z 1
                have d2 := hrx.c2; have z2 := hrx.z 2
                have d3 := hrx.c3; have z3 := hrx.z 3
                have d4 := hrx.c4; have z4 := hrx.z 4
                have d5 := hrx.c5; have z5 := hrx.z 5
                have d6 := hrx.c6; have z6 := hrx.z 6
                have d7 := hrx.c7; have z7 := hrx.z 7
                have d8 := hrx.c8; have z8 := hrx.z 8
                clear hrx
                have HO := HI5.out.out
                unfold setM at HO
                replace HO : Hid (MX (((((((((wr.setCell ⟨N + 1, 0, none⟩ (.int .i64 (K : Int))).setCell ⟨N + 1, 1, none⟩ (.int .i64 (F : Int))).setCell ⟨N + 1, 2, none⟩ (.int .i64 (T : Int))).setCell ⟨N + 1, 3, none⟩ (.int .i64 (B : Int))).setCell ⟨N + 1, 4, none⟩ (.int .i64 (A : Int))).setCell ⟨N + 1, 5, none⟩ (.int .i64 0)).setCell ⟨N + 1, 6, none⟩ (.slice none 0 0)).setCell ⟨N + 1, 7, none⟩ (.slice none 0 0)).setCell ⟨N + 1, 8, none⟩ (.slice ka kn kc)) (N + 1) ⟨K, F, T, B, A, 0, [], [], acc⟩ (.slice none 0 0) (.slice none 0 0) (.slice ka kn kc) ∧ Ch (fun x => x = N + 1) wr (((((((((wr.setCell ⟨N + 1, 0, none⟩ (.int .i64 (K : Int))).setCell ⟨N + 1, 1, none⟩ (.int .i64 (F : Int))).setCell ⟨N + 1, 2, none⟩ (.int .i64 (T : Int))).setCell ⟨N + 1, 3, none⟩ (.int .i64 (B : Int))).setCell ⟨N + 1, 4, none⟩ (.int .i64 (A : Int))).setCell ⟨N + 1, 5, none⟩ (.int .i64 0)).setCell ⟨N + 1, 6, none⟩ (.slice none 0 0)).setCell ⟨N + 1, 7, none⟩ (.slice none 0 0)).setCell ⟨N + 1, 8, none⟩ (.slice ka kn kc)) ∧ Below N w (((((((((wr.setCell ⟨N + 1, 0, none⟩ (.int .i64 (K : Int))).setCell ⟨N + 1, 1, none⟩ (.int .i64 (F : Int))).setCell ⟨N + 1, 2, none⟩ (.int .i64 (T : Int))).setCell ⟨N + 1, 3, none⟩ (.int .i64 (B : Int))).setCell ⟨N + 1, 4, none⟩ (.int .i64 (A : Int))).setCell ⟨N + 1, 5, none⟩ (.int .i64 0)).setCell ⟨N + 1, 6, none⟩ (.slice none 0 0)).setCell ⟨N + 1, 7, none⟩ (.slice none 0 0)).setCell ⟨N + 1, 8, none⟩ (.slice ka kn kc)) ∧ Bv (((((((((wr.setCell ⟨N + 1, 0, none⟩ (.int .i64 (K : Int))).setCell ⟨N + 1, 1, none⟩ (.int .i64 (F : Int))).setCell ⟨N + 1, 2, none⟩ (.int .i64 (T : Int))).setCell ⟨N + 1, 3, none⟩ (.int .i64 (B : Int))).setCell ⟨N + 1, 4, none⟩ (.int .i64 (A : Int))).setCell ⟨N + 1, 5, none⟩ (.int .i64 0)).setCell ⟨N + 1, 6, none⟩ (.slice none 0 0)).setCell ⟨N + 1, 7, none⟩ (.slice none 0 0)).setCell ⟨N + 1, 8, none⟩ (.slice ka kn kc)) (.slice (some ⟨bb, off, none⟩) (l4.length - bc) 0) (l4.drop bc)) := HO
                have c0 : wr.cell? ⟨N, 0, none⟩ = some (.int .i64 (K : Int)) := HI5.out.mx.c0
                have c1 : wr.cell? ⟨N, 1, none⟩ = some (.int .i64 (F : Int)) := HI5.out.mx.c1
                have c2 : wr.cell? ⟨N, 2, none⟩ = some (.int .i64 (T : Int)) := HI5.out.mx.c2
                have c3 : wr.cell? ⟨N, 3, none⟩ = some (.int .i64 (B : Int)) := HI5.out.mx.c3
                have c4 : wr.cell? ⟨N, 4, none⟩ = some (.int .i64 (A : Int)) := HI5.out.mx.c4
                have c5 : wr.cell? ⟨N, 5, none⟩ = some (.int .i64 0) := HI5.out.mx.c5
                have c6 : wr.cell? ⟨N, 6, none⟩ = some (.slice none 0 0) := HI5.out.mx.c6
                have c7 : wr.cell? ⟨N, 7, none⟩ = some (.slice none 0 0) := HI5.out.mx.c7
                have c8 : wr.cell? ⟨N, 8, none⟩ = some (.slice ka kn kc) := HI5.out.mx.c8
                go_wp2_with fail
                generalize ((((((((wr.setCell ⟨N + 1, 0, none⟩ (.int .i64 (K : Int))).setCell ⟨N + 1, 1, none⟩ (.int .i64 (F : Int))).setCell ⟨N + 1, 2, none⟩ (.int .i64 (T : Int))).setCell ⟨N + 1, 3, none⟩ (.int .i64 (B : Int))).setCell ⟨N + 1, 4, none⟩ (.int .i64 (A : Int))).setCell ⟨N + 1, 5, none⟩ (.int .i64 0)).setCell ⟨N + 1, 6, none⟩ (.slice none 0 0)).setCell ⟨N + 1, 7, none⟩ (.slice none 0 0)).setCell ⟨N + 1, 8, none⟩ (.slice ka kn kc) = w9 at HO ⊢
                obtain ⟨hm9, hc9, hb9, hv9⟩ := HO.out
                have y0 : w9.cell? ⟨N + 1, 0, none⟩ = some (.int .i64 (K : Int)) := hm9.c0
                have y1 : w9.cell? ⟨N + 1, 1, none⟩ = some (.int .i64 (F : Int)) := hm9.c1
                have y2 : w9.cell? ⟨N + 1, 2, none⟩ = some (.int .i64 (T : Int)) := hm9.c2
                have y3 : w9.cell? ⟨N + 1, 3, none⟩ = some (.int .i64 (B : Int)) := hm9.c3
                have y4 : w9.cell? ⟨N + 1, 4, none⟩ = some (.int .i64 (A : Int)) := hm9.c4
                have y5 : w9.cell? ⟨N + 1, 5, none⟩ = some (.int .i64 0) := hm9.c5
                have y6 : w9.cell? ⟨N + 1, 6, none⟩ = some (.slice none 0 0) := hm9.c6
                have y7 : w9.cell? ⟨N + 1, 7, none⟩ = some (.slice none 0 0) := hm9.c7
                have y8 : w9.cell? ⟨N + 1, 8, none⟩ = some (.slice ka kn kc) := hm9.c8
                have HBW : Hid (Below w.heap.size w w9) := by have k := hb9; rw [HN.out] at k; exact k
                refine bodyPost_ret (v := .tuple #[.agg #[.int .i64 (K : Int), .int .i64 (F : Int), .int .i64 (T : Int), .int .i64 (B : Int), .int .i64 (A : Int), .int .i64 0, .slice none 0 0, .slice none 0 0, .slice ka kn kc], .slice none 0 0, .int .i64 3]) (by simp [results, Try.results42, go_sem, y0, y1, y2, y3, y4, y5, y6, y7, y8]) rfl ?_
                exact bad_got (mm := ⟨K, F, T, B, A, 0, [], [], acc⟩) (e := 3) HD.out (by decide) (nil_slice) (nil_slice) (⟨_, _, _, rfl⟩) HBW.out
              · obtain ⟨b8, hb8⟩ : ∃ b, b = (Wm.takeW (l4.drop bc)).1 := ⟨_, rfl⟩
                have HTW : Hid (Wm.takeW (l4.drop bc) = (b8, 0)) := by show _ = _; rw [hb8, takeW_ok h8]
                have HBL : Hid (b8 < 18446744073709551616) := by show _ < _; rw [hb8]; exact takeW_lt (fun c hc => HI.out.bv.2 c (List.mem_of_mem_drop hc))
                have HNX : Hid (At D (pairS (x - (i + 1)) ((l4.drop bc).drop 8)) (acc ++ [⟨y, ⟨true, b8⟩⟩])) := by have k := pair_step HAT2.out ht0; rw [HT0.out] at k; have k2 := k h8; simp only [← hb8] at k2; exact k2
                obtain ⟨hl8, hc8, _⟩ := bv_le HI5.out.bv
                have h8i : (8 : Int) ≤ ((l4.length - bc : Nat) : Int) := by omega
                obtain ⟨q1, q2⟩ := bv_cut HI5.out.bv 8 (by omega)
                exact absurd hc8 (by omega)
            · have HU : Hid (Bv wr (.slice (some ⟨bb, off + n, none⟩) (l4.length - n) (bc - n)) (l4.drop n)) := by have k := q2 hcp; show Bv _ _ _; simpa [WideShapes.add_plain] using k
              have hcn : ¬ (bc : Int) = (n : Int) := by omega
              clear q1 q2
              have HI5 : Hid (RB N w wr ⟨K, F, T, B, A, 0, [], [], acc⟩ (.slice none 0 0) (.slice none 0 0) (.slice ka kn kc) (.slice (some ⟨bb, off + n, none⟩) (l4.length - n) (bc - n)) (l4.drop n)) := HI.out.cut (Below.refl _ _) HU.out (fun z hz => by simpa [Value.ownBlock] using hz) drop_ne
              by_cases h8 : (l4.drop n).length < 8
              · have HTW : Hid (Wm.takeW (l4.drop n) = (0, 3)) := takeW_short h8
                have HD : Hid ((bodL ⟨K, F, T, B, A⟩ l).1 = 3) := by show _ = _; have e : D.1 = 3 := (by have k := pair_stop8 HAT2.out ht0; rw [HT0.out] at k; exact k h8); rw [HBO.out, if_pos (by rw [e]; decide)]; exact e
                clear h8 HAT2 ht0
                go_wp2_with fail
                refine (rtakew_walk HI5.out.bv).mono ?_
                rw [t2_litB HTW.out]
                rintro e9 w4 ⟨rfl, hw4⟩
                replace hw4 := hw4.symm
                subst hw4
                obtain ⟨rn, ra, rb, rc, hrx⟩ := HI5.out.rx
                have d0 := hrx.c0; have z0 := hrx.z 0
                have d1 := hrx.c1; have z1 := hrx.z 1
                have d2 := hrx.c2; have z2 := hrx.z 2
                have d3 := hrx.c3; have z3 := hrx.z 3
                have d4 := hrx.c4; have z4 := hrx.z 4
                have d5 := hrx.c5; have z5 := hrx.z 5
                have d6 := hrx.c6; have z6 := hrx.z 6
                have d7 := hrx.c7; have z7 := hrx.z 7
                have d8 := hrx.c8; have z8 := hrx.z 8
                clear hrx
                have HO := HI5.out.out
                unfold setM at HO
                replace HO : Hid (MX (((((((((wr.setCell ⟨N + 1, 0, none⟩ (.int .i64 (K : Int))).setCell ⟨N + 1, 1, none⟩ (.int .i64 (F : Int))).setCell ⟨N + 1, 2, none⟩ (.int .i64 (T : Int))).setCell ⟨N + 1, 3, none⟩ (.int .i64 (B : Int))).setCell ⟨N + 1, 4, none⟩ (.int .i64 (A : Int))).setCell ⟨N + 1, 5, none⟩ (.int .i64 0)).setCell ⟨N + 1, 6, none⟩ (.slice none 0 0)).setCell ⟨N + 1, 7, none⟩ (.slice none 0 0)).setCell ⟨N + 1, 8, none⟩ (.slice ka kn kc)) (N + 1) ⟨K, F, T, B, A, 0, [], [], acc⟩ (.slice none 0 0) (.slice none 0 0) (.slice ka kn kc) ∧ Ch (fun x => x = N + 1) wr (((((((((wr.setCell ⟨N + 1, 0, none⟩ (.int .i64 (K : Int))).setCell ⟨N + 1, 1, none⟩ (.int .i64 (F : Int))).setCell ⟨N + 1, 2, none⟩ (.int .i64 (T : Int))).setCell ⟨N + 1, 3, none⟩ (.int .i64 (B : Int))).setCell ⟨N + 1, 4, none⟩ (.int .i64 (A : Int))).setCell ⟨N + 1, 5, none⟩ (.int .i64 0)).setCell ⟨N + 1, 6, none⟩ (.slice none 0 0)).setCell ⟨N + 1, 7, none⟩ (.slice none 0 0)).setCell ⟨N + 1, 8, none⟩ (.slice ka kn kc)) ∧ Below N w (((((((((wr.setCell ⟨N + 1, 0, none⟩ (.int .i64 (K : Int))).setCell ⟨N + 1, 1, none⟩ (.int .i64 (F : Int))).setCell ⟨N + 1, 2, none⟩ (.int .i64 (T : Int))).setCell ⟨N + 1, 3, none⟩ (.int .i64 (B : Int))).setCell ⟨N + 1, 4, none⟩ (.int .i64 (A : Int))).setCell ⟨N + 1, 5, none⟩ (.int .i64 0)).setCell ⟨N + 1, 6, none⟩ (.slice none 0 0)).setCell ⟨N + 1, 7, none⟩ (.slice none 0 0)).setCell ⟨N + 1, 8, none⟩ (.slice ka kn kc)) ∧ Bv (((((((((wr.setCell ⟨N + 1, 0, none⟩ (.int .i64 (K : Int))).setCell ⟨N + 1, 1, none⟩ (.int .i64 (F : Int))).setCell ⟨N + 1, 2, none⟩ (.int .i64 (T : Int))).setCell ⟨N + 1, 3, none⟩ (.int .i64 (B : Int))).setCell ⟨N + 1, 4, none⟩ (.int .i64 (A : Int))).setCell ⟨N + 1, 5, none⟩ (.int .i64 0)).setCell ⟨N + 1, 6, none⟩ (.slice none 0 0)).setCell ⟨N + 1, 7, none⟩ (.slice none 0 0)).setCell ⟨N + 1, 8, none⟩ (.slice ka kn kc)) (.slice (some ⟨bb, off + n, none⟩) (l4.length - n) (bc - n)) (l4.drop n)) := HO
                have c0 : wr.cell? ⟨N, 0, none⟩ = some (.int .i64 (K : Int)) := HI5.out.mx.c0
                have c1 : wr.cell? ⟨N, 1, none⟩ = some (.int .i64 (F : Int)) := HI5.out.mx.c1
                have c2 : wr.cell? ⟨N, 2, none⟩ = some (.int .i64 (T : Int)) := HI5.out.mx.c2
                have c3 : wr.cell? ⟨N, 3, none⟩ = some (.int .i64 (B : Int)) := HI5.out.mx.c3
                have c4 : wr.cell? ⟨N, 4, none⟩ = some (.int .i64 (A : Int)) := HI5.out.mx.c4
                have c5 : wr.cell? ⟨N, 5, none⟩ = some (.int .i64 0) := HI5.out.mx.c5
                have c6 : wr.cell? ⟨N, 6, none⟩ = some (.slice none 0 0) := HI5.out.mx.c6
                have c7 : wr.cell? ⟨N, 7, none⟩ = some (.slice none 0 0) := HI5.out.mx.c7
                have c8 : wr.cell? ⟨N, 8, none⟩ = some (.slice ka kn kc) := HI5.out.mx.c8
                go_wp2_with fail
                generalize ((((((((wr.setCell ⟨N + 1, 0, none⟩ (.int .i64 (K : Int))).setCell ⟨N + 1, 1, none⟩ (.int .i64 (F : Int))).setCell ⟨N + 1, 2, none⟩ (.int .i64 (T : Int))).setCell ⟨N + 1, 3, none⟩ (.int .i64 (B : Int))).setCell ⟨N + 1, 4, none⟩ (.int .i64 (A : Int))).setCell ⟨N + 1, 5, none⟩ (.int .i64 0)).setCell ⟨N + 1, 6, none⟩ (.slice none 0 0)).setCell ⟨N + 1, 7, none⟩ (.slice none 0 0)).setCell ⟨N + 1, 8, none⟩ (.slice ka kn kc) = w9 at HO ⊢
                obtain ⟨hm9, hc9, hb9, hv9⟩ := HO.out
                have y0 : w9.cell? ⟨N + 1, 0, none⟩ = some (.int .i64 (K : Int)) := hm9.c0
                have y1 : w9.cell? ⟨N + 1, 1, none⟩ = some (.int .i64 (F : Int)) := hm9.c1
                have y2 : w9.cell? ⟨N + 1, 2, none⟩ = some (.int .i64 (T : Int)) := hm9.c2
                have y3 : w9.cell? ⟨N + 1, 3, none⟩ = some (.int .i64 (B : Int)) := hm9.c3
                have y4 : w9.cell? ⟨N + 1, 4, none⟩ = some (.int .i64 (A : Int)) := hm9.c4
                have y5 : w9.cell? ⟨N + 1, 5, none⟩ = some (.int .i64 0) := hm9.c5
                have y6 : w9.cell? ⟨N + 1, 6, none⟩ = some (.slice none 0 0) := hm9.c6
                have y7 : w9.cell? ⟨N + 1, 7, none⟩ = some (.slice none 0 0) := hm9.c7
                have y8 : w9.cell? ⟨N + 1, 8, none⟩ = some (.slice ka kn kc) := hm9.c8
                have HBW : Hid (Below w.heap.size w w9) := by have k := hb9; rw [HN.out] at k; exact k
                refine bodyPost_ret (v := .tuple #[.agg #[.int .i64 (K : Int), .int .i64 (F : Int), .int .i64 (T : Int), .int .i64 (B : Int), .int .i64 (A : Int), .int .i64 0, .slice none 0 0, .slice none 0 0, .slice ka kn kc], .slice none 0 0, .int .i64 3]) (by simp [results, Try.results42, go_sem, y0, y1, y2, y3, y4, y5, y6, y7, y8]) rfl ?_
                exact bad_got (mm := ⟨K, F, T, B, A, 0, [], [], acc⟩) (e := 3) HD.out (by decide) (nil_slice) (nil_slice) (⟨_, _, _, rfl⟩) HBW.out
              · obtain ⟨b8, hb8⟩ : ∃ b, b = (Wm.takeW (l4.drop n)).1 := ⟨_, rfl⟩
                have HTW : Hid (Wm.takeW (l4.drop n) = (b8, 0)) := by show _ = _; rw [hb8, takeW_ok h8]
                have HBL : Hid (b8 < 18446744073709551616) := by show _ < _; rw [hb8]; exact takeW_lt (fun c hc => HI.out.bv.2 c (List.mem_of_mem_drop hc))
                have HNX : Hid (At D (pairS (x - (i + 1)) ((l4.drop n).drop 8)) (acc ++ [⟨y, ⟨true, b8⟩⟩])) := by have k := pair_step HAT2.out ht0; rw [HT0.out] at k; have k2 := k h8; simp only [← hb8] at k2; exact k2
                obtain ⟨hl8, hc8, _⟩ := bv_le HI5.out.bv
                have h8i : (8 : Int) ≤ ((l4.length - n : Nat) : Int) := by omega
                obtain ⟨q1, q2⟩ := bv_cut HI5.out.bv 8 (by omega)
                have h8c : (8 : Int) ≤ ((bc - n : Nat) : Int) := by omega
                by_cases hc88 : bc - n = 8
                · have HU2 : Hid (Bv wr (.slice (some ⟨bb, off + n, none⟩) (l4.length - n - 8) 0) ((l4.drop n).drop 8)) := q1 hc88
                  have HI8 : Hid (RB N w wr ⟨K, F, T, B, A, 0, [], [], acc⟩ (.slice none 0 0) (.slice none 0 0) (.slice ka kn kc) (.slice (some ⟨bb, off + n, none⟩) (l4.length - n - 8) 0) ((l4.drop n).drop 8)) := HI5.out.cut (Below.refl _ _) HU2.out sb_cut0 drop_ne
                  clear q1 q2 hb8 h8 hl8 hc8 HAT2 ht0
                  have hc8i : ((bc - n : Nat) : Int) = 8 := by omega
                  have HU5 : Hid (Bv wr (.slice (some ⟨bb, off + n, none⟩) (l4.length - n) 8) (l4.drop n)) := by have k := HU.out; rw [hc88] at k; exact k
                  go_wp2_with fail
                  refine (rtakew_walk HU5.out).mono ?_
                  rw [t2_litB HTW.out]
                  rintro e9 w4 ⟨rfl, hw4⟩
                  replace hw4 := hw4.symm
                  subst hw4
                  have k7 := HI8.out.mx.c8; have zz7 := HI8.out.mx.z 8
                  have HBS : Hid (N + 2 ≤ wr.heap.size) := by obtain ⟨_, _, _, _, k⟩ := HI8.out.rx; exact cell_lt k.c0
                  have k7a : ∀ ob : Obj, (wr.alloc ob).cell? ⟨N, 8, none⟩ = some (.slice ka kn kc) := fun ob => (HI8.out.mx.keep (below_alloc _ _)).c8
                  go_wp2_with (at_builtin; refine wpList_append_qs (by rfl) (.tmp 103) (.tmp 108) 24 (by rfl) (N + 2) 42 i0 Try.underlying24 HI0.out HZ0.out HZ1.out HZ2.out _ _ _ (by rfl) (HOW.out.alloc _) _ _ (by rfl) (qv_pair _ _ _ HYL.out HBL.out _) (by have := HLE.out; simp only [maxLen, List.length_singleton]; omega) (by have := HLE.out; simp only [List.length_singleton]; omega) (by rw [size_allocC]; have := HBS.out; omega) ?_; intro v6 w6 hown hgrow; have hg6 : Below (N + 2) wr w6 := ((below_alloc wr _).mono HBS.out).trans (grown_belowC (HOW.out.alloc _) hgrow (by rw [size_allocC]; have := HBS.out; omega)); have HI6 : Hid _ := HI8.out.grow hg6; have k8 := HI6.out.mx.c8; have z8 := HI6.out.mx.z 8; obtain ⟨va, vn, vc, hv6⟩ : ∃ a n c, v6 = .slice a n c := own_form hown; subst hv6)
                  have HI7 : Hid (RB N w (w6.setCell ⟨N, 8, none⟩ (.slice va vn vc)) ⟨K, F, T, B, A, 0, [], [], acc ++ [(⟨y, ⟨true, b8⟩⟩ : Pr)]⟩ (.slice none 0 0) (.slice none 0 0) (.slice va vn vc) (.slice (some ⟨bb, off + n, none⟩) (l4.length - n - 8) 0) ((l4.drop n).drop 8)) := HI6.out.set (mx_as5 (HI6.out.mx.s8 _))
                  have HO7 : Hid ((w6.setCell ⟨N, 8, none⟩ (.slice va vn vc)).ownsRow (N + 2) 42 3 (.slice va vn vc) (acc ++ [(⟨y, ⟨true, b8⟩⟩ : Pr)]).length (flatQ (acc ++ [(⟨y, ⟨true, b8⟩⟩ : Pr)]))) := by
                    refine own_ch ?_ (ch_set _ _ _ _) (fun z hz => by omega)
                    show World.ownsRow _ _ _ _ _ _ _
                    rw [List.length_append]; exact hown
                  clear hown hgrow hg6
                  go_wp2_with fail
                  go_roundw
                  case rel => exact ⟨i + 1, acc ++ [(⟨y, ⟨true, b8⟩⟩ : Pr)], .slice va vn vc, _, by simp, hlt, by have := HAI.out; simp; omega, HNX.out, HI7.out, HO7.out⟩
                  case measure => simp [intOf]; omega
                · have HU2 : Hid (Bv wr (.slice (some ⟨bb, off + n + 8, none⟩) (l4.length - n - 8) (bc - n - 8)) ((l4.drop n).drop 8)) := by have k := q2 hc88; show Bv _ _ _; simpa [WideShapes.add_plain] using k
                  have HI8 : Hid (RB N w wr ⟨K, F, T, B, A, 0, [], [], acc⟩ (.slice none 0 0) (.slice none 0 0) (.slice ka kn kc) (.slice (some ⟨bb, off + n + 8, none⟩) (l4.length - n - 8) (bc - n - 8)) ((l4.drop n).drop 8)) := HI5.out.cut (Below.refl _ _) HU2.out (fun z hz => by simpa [Value.ownBlock] using hz) drop_ne
                  clear q1 q2 hb8 h8 hl8 hc8 HAT2 ht0
                  go_wp2_with fail
                  refine (rtakew_walk HI5.out.bv).mono ?_
                  rw [t2_litB HTW.out]
                  rintro e9 w4 ⟨rfl, hw4⟩
                  replace hw4 := hw4.symm
                  subst hw4
                  have k7 := HI8.out.mx.c8; have zz7 := HI8.out.mx.z 8
                  have HBS : Hid (N + 2 ≤ wr.heap.size) := by obtain ⟨_, _, _, _, k⟩ := HI8.out.rx; exact cell_lt k.c0
                  have k7a : ∀ ob : Obj, (wr.alloc ob).cell? ⟨N, 8, none⟩ = some (.slice ka kn kc) := fun ob => (HI8.out.mx.keep (below_alloc _ _)).c8
                  go_wp2_with (at_builtin; refine wpList_append_qs (by rfl) (.tmp 103) (.tmp 108) 24 (by rfl) (N + 2) 42 i0 Try.underlying24 HI0.out HZ0.out HZ1.out HZ2.out _ _ _ (by rfl) (HOW.out.alloc _) _ _ (by rfl) (qv_pair _ _ _ HYL.out HBL.out _) (by have := HLE.out; simp only [maxLen, List.length_singleton]; omega) (by have := HLE.out; simp only [List.length_singleton]; omega) (by rw [size_allocC]; have := HBS.out; omega) ?_; intro v6 w6 hown hgrow; have hg6 : Below (N + 2) wr w6 := ((below_alloc wr _).mono HBS.out).trans (grown_belowC (HOW.out.alloc _) hgrow (by rw [size_allocC]; have := HBS.out; omega)); have HI6 : Hid _ := HI8.out.grow hg6; have k8 := HI6.out.mx.c8; have z8 := HI6.out.mx.z 8; obtain ⟨va, vn, vc, hv6⟩ : ∃ a n c, v6 = .slice a n c := own_form hown; subst hv6)
                  have HI7 : Hid (RB N w (w6.setCell ⟨N, 8, none⟩ (.slice va vn vc)) ⟨K, F, T, B, A, 0, [], [], acc ++ [(⟨y, ⟨true, b8⟩⟩ : Pr)]⟩ (.slice none 0 0) (.slice none 0 0) (.slice va vn vc) (.slice (some ⟨bb, off + n + 8, none⟩) (l4.length - n - 8) (bc - n - 8)) ((l4.drop n).drop 8)) := HI6.out.set (mx_as5 (HI6.out.mx.s8 _))
                  have HO7 : Hid ((w6.setCell ⟨N, 8, none⟩ (.slice va vn vc)).ownsRow (N + 2) 42 3 (.slice va vn vc) (acc ++ [(⟨y, ⟨true, b8⟩⟩ : Pr)]).length (flatQ (acc ++ [(⟨y, ⟨true, b8⟩⟩ : Pr)]))) := by
                    refine own_ch ?_ (ch_set _ _ _ _) (fun z hz => by omega)
                    show World.ownsRow _ _ _ _ _ _ _
                    rw [List.length_append]; exact hown
                  clear hown hgrow hg6
                  go_wp2_with fail
                  go_roundw
                  case rel => exact ⟨i + 1, acc ++ [(⟨y, ⟨true, b8⟩⟩ : Pr)], .slice va vn vc, _, by simp, hlt, by have := HAI.out; simp; omega, HNX.out, HI7.out, HO7.out⟩
                  case measure => simp [intOf]; omega
        · have hlti : ¬ (i : Int) < (x : Int) := by omega
          obtain rfl : i = x := by omega
          have hD : D = (0, acc, l4) := by
            have hA := HAT.out
            rw [Nat.sub_self] at hA
            obtain ⟨a1, a2⟩ := hA
            simp only [pairS, List.append_nil] at a1 a2
            obtain ⟨b1, b2⟩ := a2 trivial
            obtain ⟨D1, D2, D3⟩ := D
            simp only at a1 b1 b2
            rw [a1, b1, b2]
          have HR1 : Hid (bodL ⟨K, F, T, B, A⟩ l = (0, ⟨K, F, T, B, A, 0, [], [], acc⟩, l4)) := by show _ = _; rw [HBO.out, hD, if_neg (by simp)]; rfl
          clear hD HAT
          obtain ⟨rn, ra, rb, rc, hrx⟩ := HI.out.rx
          have d0 := hrx.c0; have z0 := hrx.z 0
          have d1 := hrx.c1; have z1 := hrx.z 1
          have d2 := hrx.c2; have z2 := hrx.z 2
          have d3 := hrx.c3; have z3 := hrx.z 3
          have d4 := hrx.c4; have z4 := hrx.z 4
          have d5 := hrx.c5; have z5 := hrx.z 5
          have d6 := hrx.c6; have z6 := hrx.z 6
          have d7 := hrx.c7; have z7 := hrx.z 7
          have d8 := hrx.c8; have z8 := hrx.z 8
          clear hrx
          have HO := HI.out.out
          unfold setM at HO
          replace HO : Hid (MX (((((((((wr.setCell ⟨N + 1, 0, none⟩ (.int .i64 (K : Int))).setCell ⟨N + 1, 1, none⟩ (.int .i64 (F : Int))).setCell ⟨N + 1, 2, none⟩ (.int .i64 (T : Int))).setCell ⟨N + 1, 3, none⟩ (.int .i64 (B : Int))).setCell ⟨N + 1, 4, none⟩ (.int .i64 (A : Int))).setCell ⟨N + 1, 5, none⟩ (.int .i64 0)).setCell ⟨N + 1, 6, none⟩ (.slice none 0 0)).setCell ⟨N + 1, 7, none⟩ (.slice none 0 0)).setCell ⟨N + 1, 8, none⟩ (.slice ka kn kc)) (N + 1) ⟨K, F, T, B, A, 0, [], [], acc⟩ (.slice none 0 0) (.slice none 0 0) (.slice ka kn kc) ∧ Ch (fun x => x = N + 1) wr (((((((((wr.setCell ⟨N + 1, 0, none⟩ (.int .i64 (K : Int))).setCell ⟨N + 1, 1, none⟩ (.int .i64 (F : Int))).setCell ⟨N + 1, 2, none⟩ (.int .i64 (T : Int))).setCell ⟨N + 1, 3, none⟩ (.int .i64 (B : Int))).setCell ⟨N + 1, 4, none⟩ (.int .i64 (A : Int))).setCell ⟨N + 1, 5, none⟩ (.int .i64 0)).setCell ⟨N + 1, 6, none⟩ (.slice none 0 0)).setCell ⟨N + 1, 7, none⟩ (.slice none 0 0)).setCell ⟨N + 1, 8, none⟩ (.slice ka kn kc)) ∧ Below N w (((((((((wr.setCell ⟨N + 1, 0, none⟩ (.int .i64 (K : Int))).setCell ⟨N + 1, 1, none⟩ (.int .i64 (F : Int))).setCell ⟨N + 1, 2, none⟩ (.int .i64 (T : Int))).setCell ⟨N + 1, 3, none⟩ (.int .i64 (B : Int))).setCell ⟨N + 1, 4, none⟩ (.int .i64 (A : Int))).setCell ⟨N + 1, 5, none⟩ (.int .i64 0)).setCell ⟨N + 1, 6, none⟩ (.slice none 0 0)).setCell ⟨N + 1, 7, none⟩ (.slice none 0 0)).setCell ⟨N + 1, 8, none⟩ (.slice ka kn kc)) ∧ Bv (((((((((wr.setCell ⟨N + 1, 0, none⟩ (.int .i64 (K : Int))).setCell ⟨N + 1, 1, none⟩ (.int .i64 (F : Int))).setCell ⟨N + 1, 2, none⟩ (.int .i64 (T : Int))).setCell ⟨N + 1, 3, none⟩ (.int .i64 (B : Int))).setCell ⟨N + 1, 4, none⟩ (.int .i64 (A : Int))).setCell ⟨N + 1, 5, none⟩ (.int .i64 0)).setCell ⟨N + 1, 6, none⟩ (.slice none 0 0)).setCell ⟨N + 1, 7, none⟩ (.slice none 0 0)).setCell ⟨N + 1, 8, none⟩ (.slice ka kn kc)) (.slice ba bn bc) l4) := HO
          have c0 : wr.cell? ⟨N, 0, none⟩ = some (.int .i64 (K : Int)) := HI.out.mx.c0
          have c1 : wr.cell? ⟨N, 1, none⟩ = some (.int .i64 (F : Int)) := HI.out.mx.c1
          have c2 : wr.cell? ⟨N, 2, none⟩ = some (.int .i64 (T : Int)) := HI.out.mx.c2
          have c3 : wr.cell? ⟨N, 3, none⟩ = some (.int .i64 (B : Int)) := HI.out.mx.c3
          have c4 : wr.cell? ⟨N, 4, none⟩ = some (.int .i64 (A : Int)) := HI.out.mx.c4
          have c5 : wr.cell? ⟨N, 5, none⟩ = some (.int .i64 0) := HI.out.mx.c5
          have c6 : wr.cell? ⟨N, 6, none⟩ = some (.slice none 0 0) := HI.out.mx.c6
          have c7 : wr.cell? ⟨N, 7, none⟩ = some (.slice none 0 0) := HI.out.mx.c7
          have c8 : wr.cell? ⟨N, 8, none⟩ = some (.slice ka kn kc) := HI.out.mx.c8
          go_wp2_with fail
          generalize ((((((((wr.setCell ⟨N + 1, 0, none⟩ (.int .i64 (K : Int))).setCell ⟨N + 1, 1, none⟩ (.int .i64 (F : Int))).setCell ⟨N + 1, 2, none⟩ (.int .i64 (T : Int))).setCell ⟨N + 1, 3, none⟩ (.int .i64 (B : Int))).setCell ⟨N + 1, 4, none⟩ (.int .i64 (A : Int))).setCell ⟨N + 1, 5, none⟩ (.int .i64 0)).setCell ⟨N + 1, 6, none⟩ (.slice none 0 0)).setCell ⟨N + 1, 7, none⟩ (.slice none 0 0)).setCell ⟨N + 1, 8, none⟩ (.slice ka kn kc) = w9 at HO ⊢
          obtain ⟨hm9, hc9, hb9, hv9⟩ := HO.out
          have y0 : w9.cell? ⟨N + 1, 0, none⟩ = some (.int .i64 (K : Int)) := hm9.c0
          have y1 : w9.cell? ⟨N + 1, 1, none⟩ = some (.int .i64 (F : Int)) := hm9.c1
          have y2 : w9.cell? ⟨N + 1, 2, none⟩ = some (.int .i64 (T : Int)) := hm9.c2
          have y3 : w9.cell? ⟨N + 1, 3, none⟩ = some (.int .i64 (B : Int)) := hm9.c3
          have y4 : w9.cell? ⟨N + 1, 4, none⟩ = some (.int .i64 (A : Int)) := hm9.c4
          have y5 : w9.cell? ⟨N + 1, 5, none⟩ = some (.int .i64 0) := hm9.c5
          have y6 : w9.cell? ⟨N + 1, 6, none⟩ = some (.slice none 0 0) := hm9.c6
          have y7 : w9.cell? ⟨N + 1, 7, none⟩ = some (.slice none 0 0) := hm9.c7
          have y8 : w9.cell? ⟨N + 1, 8, none⟩ = some (.slice ka kn kc) := hm9.c8
          have HBW : Hid (Below w.heap.size w w9) := by have k := hb9; rw [HN.out] at k; exact k
          refine bodyPost_ret (v := .tuple #[.agg #[.int .i64 (K : Int), .int .i64 (F : Int), .int .i64 (T : Int), .int .i64 (B : Int), .int .i64 (A : Int), .int .i64 0, .slice none 0 0, .slice none 0 0, .slice ka kn kc], .slice ba bn bc, .int .i64 0]) (by simp [results, Try.results42, go_sem, y0, y1, y2, y3, y4, y5, y6, y7, y8]) rfl ?_
          refine ⟨⟨K, F, T, B, A, 0, [], [], acc⟩, .slice none 0 0, .slice none 0 0, .slice ka kn kc, .slice ba bn bc, by rw [HR1.out]; rfl, ⟨nil_slice, nil_slice, ⟨_, _, _, rfl⟩⟩, HBW.out, fun _ => ?_⟩
          rw [HR1.out]
          refine ⟨rfl, own_nil, own_nil, ?_, hv9, fun z hz hne => ?_⟩
          · exact own_baseC (base' := w.heap.size) (own_ch HOW.out hc9 (fun z hz => by omega)) (by have := HN.out; omega)
          · have k := HI.out.bm z hz hne; rw [← HN.out]; exact k
    · have H0 : Hid ((manL l).1 ≠ 0) := h0
      have HD : Hid ((bodL ⟨K, F, T, B, A⟩ l).1 = (manL l).1) := by show _ = _; have e : pairD l = ((manL l).1, [], []) := (by unfold pairD; rw [if_pos h0]); rw [HBO.out, e, if_pos h0]
      have HI3 : Hid (RB N w w3 ⟨K, F, T, B, A, 0, [], [], []⟩ (.slice none 0 0) (.slice none 0 0) (.slice none 0 0) (.slice ba bn bc) l) := HI.out.old hB3
      obtain ⟨er, her⟩ : ∃ er, er = (manL l).1 := ⟨_, rfl⟩
      rw [← her] at he H0 HD
      have hne : ((er : Int) != 0) = true := by rw [bne_iff_ne]; have := H0.out; omega
      obtain ⟨ua, un, uc, hu9⟩ := bv_any hu3
      subst hu9
      subst he
      clear h0 her hu3 hs3 hB3 HI
      obtain ⟨rn, ra, rb, rc, hrx⟩ := HI3.out.rx
      have d0 := hrx.c0; have z0 := hrx.z 0
      have d1 := hrx.c1; have z1 := hrx.z 1
      have d2 := hrx.c2; have z2 := hrx.z 2
      have d3 := hrx.c3; have z3 := hrx.z 3
      have d4 := hrx.c4; have z4 := hrx.z 4
      have d5 := hrx.c5; have z5 := hrx.z 5
      have d6 := hrx.c6; have z6 := hrx.z 6
      have d7 := hrx.c7; have z7 := hrx.z 7
      have d8 := hrx.c8; have z8 := hrx.z 8
      clear hrx
      have HO := HI3.out.out
      unfold setM at HO
      replace HO : Hid (MX (((((((((w3.setCell ⟨N + 1, 0, none⟩ (.int .i64 (K : Int))).setCell ⟨N + 1, 1, none⟩ (.int .i64 (F : Int))).setCell ⟨N + 1, 2, none⟩ (.int .i64 (T : Int))).setCell ⟨N + 1, 3, none⟩ (.int .i64 (B : Int))).setCell ⟨N + 1, 4, none⟩ (.int .i64 (A : Int))).setCell ⟨N + 1, 5, none⟩ (.int .i64 0)).setCell ⟨N + 1, 6, none⟩ (.slice none 0 0)).setCell ⟨N + 1, 7, none⟩ (.slice none 0 0)).setCell ⟨N + 1, 8, none⟩ (.slice none 0 0)) (N + 1) ⟨K, F, T, B, A, 0, [], [], []⟩ (.slice none 0 0) (.slice none 0 0) (.slice none 0 0) ∧ Ch (fun x => x = N + 1) w3 (((((((((w3.setCell ⟨N + 1, 0, none⟩ (.int .i64 (K : Int))).setCell ⟨N + 1, 1, none⟩ (.int .i64 (F : Int))).setCell ⟨N + 1, 2, none⟩ (.int .i64 (T : Int))).setCell ⟨N + 1, 3, none⟩ (.int .i64 (B : Int))).setCell ⟨N + 1, 4, none⟩ (.int .i64 (A : Int))).setCell ⟨N + 1, 5, none⟩ (.int .i64 0)).setCell ⟨N + 1, 6, none⟩ (.slice none 0 0)).setCell ⟨N + 1, 7, none⟩ (.slice none 0 0)).setCell ⟨N + 1, 8, none⟩ (.slice none 0 0)) ∧ Below N w (((((((((w3.setCell ⟨N + 1, 0, none⟩ (.int .i64 (K : Int))).setCell ⟨N + 1, 1, none⟩ (.int .i64 (F : Int))).setCell ⟨N + 1, 2, none⟩ (.int .i64 (T : Int))).setCell ⟨N + 1, 3, none⟩ (.int .i64 (B : Int))).setCell ⟨N + 1, 4, none⟩ (.int .i64 (A : Int))).setCell ⟨N + 1, 5, none⟩ (.int .i64 0)).setCell ⟨N + 1, 6, none⟩ (.slice none 0 0)).setCell ⟨N + 1, 7, none⟩ (.slice none 0 0)).setCell ⟨N + 1, 8, none⟩ (.slice none 0 0)) ∧ Bv (((((((((w3.setCell ⟨N + 1, 0, none⟩ (.int .i64 (K : Int))).setCell ⟨N + 1, 1, none⟩ (.int .i64 (F : Int))).setCell ⟨N + 1, 2, none⟩ (.int .i64 (T : Int))).setCell ⟨N + 1, 3, none⟩ (.int .i64 (B : Int))).setCell ⟨N + 1, 4, none⟩ (.int .i64 (A : Int))).setCell ⟨N + 1, 5, none⟩ (.int .i64 0)).setCell ⟨N + 1, 6, none⟩ (.slice none 0 0)).setCell ⟨N + 1, 7, none⟩ (.slice none 0 0)).setCell ⟨N + 1, 8, none⟩ (.slice none 0 0)) (.slice ba bn bc) l) := HO
      have c0 : w3.cell? ⟨N, 0, none⟩ = some (.int .i64 (K : Int)) := HI3.out.mx.c0
      have c1 : w3.cell? ⟨N, 1, none⟩ = some (.int .i64 (F : Int)) := HI3.out.mx.c1
      have c2 : w3.cell? ⟨N, 2, none⟩ = some (.int .i64 (T : Int)) := HI3.out.mx.c2
      have c3 : w3.cell? ⟨N, 3, none⟩ = some (.int .i64 (B : Int)) := HI3.out.mx.c3
      have c4 : w3.cell? ⟨N, 4, none⟩ = some (.int .i64 (A : Int)) := HI3.out.mx.c4
      have c5 : w3.cell? ⟨N, 5, none⟩ = some (.int .i64 0) := HI3.out.mx.c5
      have c6 : w3.cell? ⟨N, 6, none⟩ = some (.slice none 0 0) := HI3.out.mx.c6
      have c7 : w3.cell? ⟨N, 7, none⟩ = some (.slice none 0 0) := HI3.out.mx.c7
      have c8 : w3.cell? ⟨N, 8, none⟩ = some (.slice none 0 0) := HI3.out.mx.c8
      go_wp2_with fail
      generalize ((((((((w3.setCell ⟨N + 1, 0, none⟩ (.int .i64 (K : Int))).setCell ⟨N + 1, 1, none⟩ (.int .i64 (F : Int))).setCell ⟨N + 1, 2, none⟩ (.int .i64 (T : Int))).setCell ⟨N + 1, 3, none⟩ (.int .i64 (B : Int))).setCell ⟨N + 1, 4, none⟩ (.int .i64 (A : Int))).setCell ⟨N + 1, 5, none⟩ (.int .i64 0)).setCell ⟨N + 1, 6, none⟩ (.slice none 0 0)).setCell ⟨N + 1, 7, none⟩ (.slice none 0 0)).setCell ⟨N + 1, 8, none⟩ (.slice none 0 0) = w9 at HO ⊢
      obtain ⟨hm9, hc9, hb9, hv9⟩ := HO.out
      have y0 : w9.cell? ⟨N + 1, 0, none⟩ = some (.int .i64 (K : Int)) := hm9.c0
      have y1 : w9.cell? ⟨N + 1, 1, none⟩ = some (.int .i64 (F : Int)) := hm9.c1
      have y2 : w9.cell? ⟨N + 1, 2, none⟩ = some (.int .i64 (T : Int)) := hm9.c2
      have y3 : w9.cell? ⟨N + 1, 3, none⟩ = some (.int .i64 (B : Int)) := hm9.c3
      have y4 : w9.cell? ⟨N + 1, 4, none⟩ = some (.int .i64 (A : Int)) := hm9.c4
      have y5 : w9.cell? ⟨N + 1, 5, none⟩ = some (.int .i64 0) := hm9.c5
      have y6 : w9.cell? ⟨N + 1, 6, none⟩ = some (.slice none 0 0) := hm9.c6
      have y7 : w9.cell? ⟨N + 1, 7, none⟩ = some (.slice none 0 0) := hm9.c7
      have y8 : w9.cell? ⟨N + 1, 8, none⟩ = some (.slice none 0 0) := hm9.c8
      have HBW : Hid (Below w.heap.size w w9) := by have k := hb9; rw [HN.out] at k; exact k
      refine bodyPost_ret (v := .tuple #[.agg #[.int .i64 (K : Int), .int .i64 (F : Int), .int .i64 (T : Int), .int .i64 (B : Int), .int .i64 (A : Int), .int .i64 0, .slice none 0 0, .slice none 0 0, .slice none 0 0], .slice none 0 0, .int .i64 (er : Int)]) (by simp [results, Try.results42, go_sem, y0, y1, y2, y3, y4, y5, y6, y7, y8]) rfl ?_
      exact bad_got (mm := ⟨K, F, T, B, A, 0, [], [], []⟩) HD.out H0.out nil_slice nil_slice nil_slice HBW.out
  · rw [hf]
    have HBO : Hid (bodL ⟨K, F, T, B, A⟩ l = if (cntL l).1 ≠ 0 then ((cntL l).1, zeroMs, []) else (0, (⟨K, F, T, B, A⟩ : Hd).ms (cntL l).2.1 [] [] [], (cntL l).2.2)) := bod_4 hf
    clear hf HK
    go_wp2_with fail
    refine (rsmall_walk HI.out.bv).mono ?_
    rintro e9 w3 ⟨u3, he, hu3, hs3, hB3⟩
    have HI3 : Hid (RB N w w3 ⟨K, F, T, B, A, 0, [], [], []⟩ (.slice none 0 0) (.slice none 0 0) (.slice none 0 0) u3 (cntL l).2.2) := HI.out.cut hB3 hu3 hs3 cnt_ne
    obtain ⟨ua, un, uc, hu9⟩ := bv_any hu3
    subst hu9
    obtain ⟨C, hC⟩ : ∃ C, C = (cntL l).2.1 := ⟨_, rfl⟩
    obtain ⟨er, her⟩ : ∃ er, er = (cntL l).1 := ⟨_, rfl⟩
    obtain ⟨l5, hl5⟩ : ∃ x, x = (cntL l).2.2 := ⟨_, rfl⟩
    rw [← hC, ← her] at he
    rw [← hC, ← her, ← hl5] at HBO
    rw [← hl5] at HI3
    subst he
    clear hC her hl5 hu3 hs3 hB3 HI
    have k5 : w3.cell? ⟨N, 5, none⟩ = some (.int .i64 0) := HI3.out.mx.c5
    have zz5 := HI3.out.mx.z 5
    have HI4 : Hid (RB N w (w3.setCell ⟨N, 5, none⟩ (.int .i64 (C : Int))) ⟨K, F, T, B, A, C, [], [], []⟩ (.slice none 0 0) (.slice none 0 0) (.slice none 0 0) (.slice ua un uc) l5) := HI3.out.set (HI3.out.mx.s5 _)
    go_upto_region 11 with fail
    generalize w3.setCell ⟨N, 5, none⟩ (.int .i64 (C : Int)) = w4 at HI4 ⊢
    clear k5 zz5 HI3
    obtain ⟨rn, ra, rb, rc, hrx⟩ := HI4.out.rx
    have d0 := hrx.c0; have z0 := hrx.z 0
    have d1 := hrx.c1; have z1 := hrx.z 1
    have d2 := hrx.c2; have z2 := hrx.z 2
    have d3 := hrx.c3; have z3 := hrx.z 3
    have d4 := hrx.c4; have z4 := hrx.z 4
    have d5 := hrx.c5; have z5 := hrx.z 5
    have d6 := hrx.c6; have z6 := hrx.z 6
    have d7 := hrx.c7; have z7 := hrx.z 7
    have d8 := hrx.c8; have z8 := hrx.z 8
    clear hrx
    have HO := HI4.out.out
    unfold setM at HO
    replace HO : Hid (MX (((((((((w4.setCell ⟨N + 1, 0, none⟩ (.int .i64 (K : Int))).setCell ⟨N + 1, 1, none⟩ (.int .i64 (F : Int))).setCell ⟨N + 1, 2, none⟩ (.int .i64 (T : Int))).setCell ⟨N + 1, 3, none⟩ (.int .i64 (B : Int))).setCell ⟨N + 1, 4, none⟩ (.int .i64 (A : Int))).setCell ⟨N + 1, 5, none⟩ (.int .i64 (C : Int))).setCell ⟨N + 1, 6, none⟩ (.slice none 0 0)).setCell ⟨N + 1, 7, none⟩ (.slice none 0 0)).setCell ⟨N + 1, 8, none⟩ (.slice none 0 0)) (N + 1) ⟨K, F, T, B, A, C, [], [], []⟩ (.slice none 0 0) (.slice none 0 0) (.slice none 0 0) ∧ Ch (fun x => x = N + 1) w4 (((((((((w4.setCell ⟨N + 1, 0, none⟩ (.int .i64 (K : Int))).setCell ⟨N + 1, 1, none⟩ (.int .i64 (F : Int))).setCell ⟨N + 1, 2, none⟩ (.int .i64 (T : Int))).setCell ⟨N + 1, 3, none⟩ (.int .i64 (B : Int))).setCell ⟨N + 1, 4, none⟩ (.int .i64 (A : Int))).setCell ⟨N + 1, 5, none⟩ (.int .i64 (C : Int))).setCell ⟨N + 1, 6, none⟩ (.slice none 0 0)).setCell ⟨N + 1, 7, none⟩ (.slice none 0 0)).setCell ⟨N + 1, 8, none⟩ (.slice none 0 0)) ∧ Below N w (((((((((w4.setCell ⟨N + 1, 0, none⟩ (.int .i64 (K : Int))).setCell ⟨N + 1, 1, none⟩ (.int .i64 (F : Int))).setCell ⟨N + 1, 2, none⟩ (.int .i64 (T : Int))).setCell ⟨N + 1, 3, none⟩ (.int .i64 (B : Int))).setCell ⟨N + 1, 4, none⟩ (.int .i64 (A : Int))).setCell ⟨N + 1, 5, none⟩ (.int .i64 (C : Int))).setCell ⟨N + 1, 6, none⟩ (.slice none 0 0)).setCell ⟨N + 1, 7, none⟩ (.slice none 0 0)).setCell ⟨N + 1, 8, none⟩ (.slice none 0 0)) ∧ Bv (((((((((w4.setCell ⟨N + 1, 0, none⟩ (.int .i64 (K : Int))).setCell ⟨N + 1, 1, none⟩ (.int .i64 (F : Int))).setCell ⟨N + 1, 2, none⟩ (.int .i64 (T : Int))).setCell ⟨N + 1, 3, none⟩ (.int .i64 (B : Int))).setCell ⟨N + 1, 4, none⟩ (.int .i64 (A : Int))).setCell ⟨N + 1, 5, none⟩ (.int .i64 (C : Int))).setCell ⟨N + 1, 6, none⟩ (.slice none 0 0)).setCell ⟨N + 1, 7, none⟩ (.slice none 0 0)).setCell ⟨N + 1, 8, none⟩ (.slice none 0 0)) (.slice ua un uc) l5) := HO
    have c0 : w4.cell? ⟨N, 0, none⟩ = some (.int .i64 (K : Int)) := HI4.out.mx.c0
    have c1 : w4.cell? ⟨N, 1, none⟩ = some (.int .i64 (F : Int)) := HI4.out.mx.c1
    have c2 : w4.cell? ⟨N, 2, none⟩ = some (.int .i64 (T : Int)) := HI4.out.mx.c2
    have c3 : w4.cell? ⟨N, 3, none⟩ = some (.int .i64 (B : Int)) := HI4.out.mx.c3
    have c4 : w4.cell? ⟨N, 4, none⟩ = some (.int .i64 (A : Int)) := HI4.out.mx.c4
    have c5 : w4.cell? ⟨N, 5, none⟩ = some (.int .i64 (C : Int)) := HI4.out.mx.c5
    have c6 : w4.cell? ⟨N, 6, none⟩ = some (.slice none 0 0) := HI4.out.mx.c6
    have c7 : w4.cell? ⟨N, 7, none⟩ = some (.slice none 0 0) := HI4.out.mx.c7
    have c8 : w4.cell? ⟨N, 8, none⟩ = some (.slice none 0 0) := HI4.out.mx.c8
    go_wp2_with fail
    generalize ((((((((w4.setCell ⟨N + 1, 0, none⟩ (.int .i64 (K : Int))).setCell ⟨N + 1, 1, none⟩ (.int .i64 (F : Int))).setCell ⟨N + 1, 2, none⟩ (.int .i64 (T : Int))).setCell ⟨N + 1, 3, none⟩ (.int .i64 (B : Int))).setCell ⟨N + 1, 4, none⟩ (.int .i64 (A : Int))).setCell ⟨N + 1, 5, none⟩ (.int .i64 (C : Int))).setCell ⟨N + 1, 6, none⟩ (.slice none 0 0)).setCell ⟨N + 1, 7, none⟩ (.slice none 0 0)).setCell ⟨N + 1, 8, none⟩ (.slice none 0 0) = w9 at HO ⊢
    obtain ⟨hm9, hc9, hb9, hv9⟩ := HO.out
    have y0 : w9.cell? ⟨N + 1, 0, none⟩ = some (.int .i64 (K : Int)) := hm9.c0
    have y1 : w9.cell? ⟨N + 1, 1, none⟩ = some (.int .i64 (F : Int)) := hm9.c1
    have y2 : w9.cell? ⟨N + 1, 2, none⟩ = some (.int .i64 (T : Int)) := hm9.c2
    have y3 : w9.cell? ⟨N + 1, 3, none⟩ = some (.int .i64 (B : Int)) := hm9.c3
    have y4 : w9.cell? ⟨N + 1, 4, none⟩ = some (.int .i64 (A : Int)) := hm9.c4
    have y5 : w9.cell? ⟨N + 1, 5, none⟩ = some (.int .i64 (C : Int)) := hm9.c5
    have y6 : w9.cell? ⟨N + 1, 6, none⟩ = some (.slice none 0 0) := hm9.c6
    have y7 : w9.cell? ⟨N + 1, 7, none⟩ = some (.slice none 0 0) := hm9.c7
    have y8 : w9.cell? ⟨N + 1, 8, none⟩ = some (.slice none 0 0) := hm9.c8
    have HBW : Hid (Below w.heap.size w w9) := by have k := hb9; rw [HN.out] at k; exact k
    refine bodyPost_ret (v := .tuple #[.agg #[.int .i64 (K : Int), .int .i64 (F : Int), .int .i64 (T : Int), .int .i64 (B : Int), .int .i64 (A : Int), .int .i64 (C : Int), .slice none 0 0, .slice none 0 0, .slice none 0 0], .slice ua un uc, .int .i64 (er : Int)]) (by simp [results, Try.results42, go_sem, y0, y1, y2, y3, y4, y5, y6, y7, y8]) rfl ?_
    by_cases h0 : er = 0
    · subst h0
      have hr : bodL ⟨K, F, T, B, A⟩ l = (0, ⟨K, F, T, B, A, C, [], [], []⟩, l5) := by rw [HBO.out, if_neg (by simp)]; rfl
      refine ⟨⟨K, F, T, B, A, C, [], [], []⟩, .slice none 0 0, .slice none 0 0, .slice none 0 0, .slice ua un uc, by rw [hr], ⟨nil_slice, nil_slice, nil_slice⟩, HBW.out, fun _ => ?_⟩
      rw [hr]
      refine ⟨rfl, own_nil, own_nil, own_nil, hv9, fun z hz hne => ?_⟩
      have k := HI4.out.bm z hz hne; rw [← HN.out]; exact k
    · exact bad_got (mm := ⟨K, F, T, B, A, C, [], [], []⟩) (by rw [HBO.out, if_pos h0]) h0 nil_slice nil_slice nil_slice HBW.out
end Go.Proofs.Ythkkbdmbmkgjpaa


