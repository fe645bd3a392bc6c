/- Contract of the reference's Decode. -/
import Derived.Test.YthkkbdmbmkgjpaaJr

namespace Go.Proofs.Ythkkbdmbmkgjpaa

open Go.RowKit



def upd (hs : Nat → Nat) (j x : Nat) : Nat → Nat := fun k => if k = j then x else hs k
/-- Decode's answer when n of the head's numbers are still to be read. -/
def decI (K : Nat) : (Nat → Nat) → Nat → List Nat → Ms × Nat
  | hs, 0, l => decT (bodL ⟨K, hs 0, hs 1, hs 2, hs 3⟩ l)
  | hs, n + 1, l => if (cntL l).1 ≠ 0 then (zeroMs, (cntL l).1) else decI K (upd hs (3 - n) (cntL l).2.1) n (cntL l).2.2
theorem dec2_I (K : Nat) (l : List Nat) : dec2 K l = decI K (fun _ => 0) 4 l := by
  unfold dec2 dec3 dec4 dec5
  simp only [decI]
  rfl
theorem bod_okT {h : Hd} {l : List Nat} (hK : 1 ≤ h.K ∧ h.K ≤ 8) (hl : ∀ c ∈ l, c < 256) : okT (bodL h l).2.1.P := by
  rcases fld_cases (h.K : Int) with hf | hf | hf | hf | hf
  · exact absurd hf (fld_some hK)
  · rw [bod_1 hf]; split <;> rename_i k
    · intro x hx; cases hx
    · intro x hx; cases hx
  · rw [bod_2 hf]; split <;> rename_i k
    · intro x hx; cases hx
    · intro x hx; cases hx
  · rw [bod_3 hf]; split <;> rename_i k
    · intro x hx; cases hx
    · exact pairD_ok hl (by simpa using k)
  · rw [bod_4 hf]; split <;> rename_i k
    · intro x hx; cases hx
    · intro x hx; cases hx
/-- Where the reference's Decode stands: its answer at N, the head's numbers at N + 1, the bytes left in y. -/
structure RX (N : Nat) (w0 w : World) (hs : Nat → Nat) (y : Value) (l : List Nat) : Prop where
  n : N = w0.heap.size
  rx : ∃ x a b c, MX w N x a b c
  hd : ∀ j, j < 4 → w.cell? ⟨N + 1, j, none⟩ = some (.int .i64 (hs j : Nat))
  hz : ∀ j, w.frozen? ⟨N + 1, j, none⟩ = false
  bv : Bv w y l
  bm : ∀ x, y.ownBlock = some x → l ≠ [] → x < N
  below : Below N w0 w
theorem RX.sz {N : Nat} {w0 w : World} {hs : Nat → Nat} {y : Value} {l : List Nat} (h : RX N w0 w hs y l) : N + 2 ≤ w.heap.size := cell_lt (h.hd 0 (by decide))
theorem RX.cut {N : Nat} {w0 w w' : World} {hs : Nat → Nat} {y u : Value} {l r : List Nat} (h : RX N w0 w hs y l) (hb : Below w.heap.size w w') (hu : Bv w' u r) (hs' : Sb u y) (hr : r ≠ [] → l ≠ []) : RX N w0 w' hs u r :=
  ⟨h.n, by obtain ⟨x, a, b, c, q⟩ := h.rx; exact ⟨x, a, b, c, q.keep hb⟩, fun j hj => by have k := h.hd j hj; rw [hb.cell (p := ⟨N + 1, j, none⟩) (cell_lt k)]; exact k, fun j => by rw [hb.frozen (p := ⟨N + 1, j, none⟩) (by have k := h.sz; show N + 1 < _; omega)]; exact h.hz j, hu, fun x hx hne => h.bm x (hs' x hx) (hr hne), h.below.trans (hb.mono (by have := h.sz; omega))⟩
theorem RX.set {N j : Nat} {w0 w : World} {hs : Nat → Nat} {y : Value} {l : List Nat} (h : RX N w0 w hs y l) (hj : j < 4) (x : Nat) : RX N w0 (w.setCell ⟨N + 1, j, none⟩ (.int .i64 (x : Nat))) (upd hs j x) y l := by
  obtain ⟨m, a, b, c, q⟩ := h.rx
  have hb : Below (N + 1) w (w.setCell ⟨N + 1, j, none⟩ (.int .i64 (x : Nat))) := (ch_set _ _ _ _).to_below (by have := h.sz; omega) (fun x hx => by omega)
  refine ⟨h.n, ⟨m, a, b, c, q.ch (ch_set _ _ _ _) (by simp)⟩, fun i hi => ?_, fun i => by simpa [go_sem] using h.hz i, bv_belowB h.bv (fun x hx hne => by have := h.bm x hx hne; omega) hb, h.bm, h.below.trans (hb.mono (by omega))⟩
  by_cases e : i = j
  · subst e
    have k : upd hs i x i = x := by unfold upd; rw [if_pos rfl]
    rw [k]; exact cell_own1 (h.hd i hi)
  · have k : upd hs j x i = hs i := by unfold upd; rw [if_neg e]
    have k2 : (w.setCell ⟨N + 1, j, none⟩ (.int .i64 (x : Nat))).cell? ⟨N + 1, i, none⟩ = w.cell? ⟨N + 1, i, none⟩ := by have e2 : ¬ j = i := Ne.symm e; simp [go_sem] <;> omega
    rw [k, k2]; exact h.hd i hi
theorem RX.out {N : Nat} {w0 w : World} {hs : Nat → Nat} {y : Value} {l : List Nat} (h : RX N w0 w hs y l) (m : Ms) (ev qv pv : Value) : MX (setM w N m ev qv pv) N m ev qv pv ∧ Ch (fun x => x = N) w (setM w N m ev qv pv) ∧ Below N w0 (setM w N m ev qv pv) := by
  obtain ⟨x, a, b, c, q⟩ := h.rx
  have hc := ch_setM w N m ev qv pv
  exact ⟨q.over m ev qv pv, hc, h.below.trans (hc.to_below (by have := h.sz; omega) (fun x hx => by omega))⟩
theorem RX.out0 {N : Nat} {w0 w : World} {hs : Nat → Nat} {y : Value} {l : List Nat} (h : RX N w0 w hs y l) : MX (setM w N zeroMs (.slice none 0 0) (.slice none 0 0) (.slice none 0 0)) N zeroMs (.slice none 0 0) (.slice none 0 0) (.slice none 0 0) ∧ Ch (fun x => x = N) w (setM w N zeroMs (.slice none 0 0) (.slice none 0 0) (.slice none 0 0)) ∧ Below N w0 (setM w N zeroMs (.slice none 0 0) (.slice none 0 0) (.slice none 0 0)) := h.out _ _ _ _
theorem RX.keep {N : Nat} {w0 w w' : World} {hs : Nat → Nat} {y : Value} {l : List Nat} (h : RX N w0 w hs y l) (hb : Below w.heap.size w w') : RX N w0 w' hs y l := h.cut hb (h.bv.below hb) (Sb.refl _) id
theorem knd_ne {l : List Nat} {n : Nat} (h : l.drop n ≠ []) : l ≠ [] := drop_ne h
theorem rx_new {w : World} {v u : Value} {l r : List Nat} (hv : Bv w v l) (hu : Bv w u r) (hs : Sb u v) (hr : r ≠ [] → l ≠ []) :
    RX w.heap.size w ((w.alloc (Obj.cells #[.int .i64 0, .int .i64 0, .int .i64 0, .int .i64 0, .int .i64 0, .int .i64 0, .slice none 0 0, .slice none 0 0, .slice none 0 0] 26)).alloc (Obj.cells #[.int .i64 0, .int .i64 0, .int .i64 0, .int .i64 0] 63)) (fun _ => 0) u r := by
  have hb := below_trans (below_alloc w (Obj.cells #[.int .i64 0, .int .i64 0, .int .i64 0, .int .i64 0, .int .i64 0, .int .i64 0, .slice none 0 0, .slice none 0 0, .slice none 0 0] 26)) (below_alloc _ (Obj.cells #[.int .i64 0, .int .i64 0, .int .i64 0, .int .i64 0] 63))
  refine ⟨rfl, ⟨zeroMs, .slice none 0 0, .slice none 0 0, .slice none 0 0, (mx_new w zeroMs _ _ _).keep (below_alloc _ _)⟩, ?_, ?_, hu.below hb, fun x hx hne => bv_block hv x (hs x hx) (hr hne), hb⟩
  · intro j hj
    have : j = 0 ∨ j = 1 ∨ j = 2 ∨ j = 3 := by omega
    rcases this with rfl | rfl | rfl | rfl <;> simp [go_sem]
  · intro j; simp [go_sem]


/-- Before the head's numbers. -/
structure R1 (N : Nat) (w0 w : World) : Prop where
  rx : ∃ x a b c, MX w N x a b c
  below : Below N w0 w
theorem R1.out0 {N : Nat} {w0 w : World} (h : R1 N w0 w) : MX (setM w N zeroMs (.slice none 0 0) (.slice none 0 0) (.slice none 0 0)) N zeroMs (.slice none 0 0) (.slice none 0 0) (.slice none 0 0) ∧ Ch (fun x => x = N) w (setM w N zeroMs (.slice none 0 0) (.slice none 0 0) (.slice none 0 0)) ∧ Below N w0 (setM w N zeroMs (.slice none 0 0) (.slice none 0 0) (.slice none 0 0)) := by
  obtain ⟨x, a, b, c, q⟩ := h.rx
  have hc := ch_setM w N zeroMs (.slice none 0 0) (.slice none 0 0) (.slice none 0 0)
  exact ⟨q.over _ _ _ _, hc, h.below.trans (hc.to_below (Nat.le_of_lt (cell_lt q.c0)) (fun x hx => by omega))⟩


set_option maxRecDepth 100000 in
set_option maxHeartbeats 8000000 in
theorem rmdec_walk {w : World} {v : Value} {l : List Nat} (hv : Bv w v l) :
    Calls Try.prog 15 #[v] w (DGot l w) := by
  have HV : Hid (Bv w v l) := hv
  have HLB : Hid (∀ c ∈ l, c < 256) := hv.2
  have H1 : Hid (R1 w.heap.size w (w.alloc (Obj.cells #[.int .i64 0, .int .i64 0, .int .i64 0, .int .i64 0, .int .i64 0, .int .i64 0, .slice none 0 0, .slice none 0 0, .slice none 0 0] 26))) := ⟨⟨_, _, _, _, mx_new w zeroMs _ _ _⟩, below_alloc _ _⟩
  have HV1 : Hid (Bv (w.alloc (Obj.cells #[.int .i64 0, .int .i64 0, .int .i64 0, .int .i64 0, .int .i64 0, .int .i64 0, .slice none 0 0, .slice none 0 0, .slice none 0 0] 26)) v l) := hv.below (below_alloc _ _)
  obtain ⟨N, hN⟩ : ∃ N, N = w.heap.size := ⟨_, rfl⟩
  have HN : Hid (N = w.heap.size) := hN
  rcases Wm.take_form l hv.2 with ⟨er, ht, h34⟩ | ⟨y, n, ht, hy, hn1, hn2, hn3⟩
  · have HT : Hid _ := t3_litB ht
    obtain ⟨va, vn, vc, rfl⟩ := bv_any hv
    have hne : ((er : Int) != 0) = true := by rw [bne_iff_ne]; omega
    have HD : Hid (decS l = (zeroMs, er)) := by show _ = _; have k : kndL l = (er, 0, []) := (by unfold kndL; rw [ht, if_pos (by show er ≠ 0; omega)]); unfold decS; rw [k, if_pos (by show er ≠ 0; omega)]
    clear ht h34 hv
    go_enter Try.func15, Try.ntmps15
    go_upto_region 1 with fail
    rw [← hN] at H1 ⊢
    clear hN
    generalize w.alloc (Obj.cells #[.int .i64 0, .int .i64 0, .int .i64 0, .int .i64 0, .int .i64 0, .int .i64 0, .slice none 0 0, .slice none 0 0, .slice none 0 0] 26) = w1 at H1 HV1 ⊢
    go_wp2_with fail
    refine (rtake_walk HV1.out).mono ?_
    rw [HT.out]
    rintro e9 w4 ⟨rfl, hw4⟩
    replace hw4 := hw4.symm
    subst hw4
    obtain ⟨rn, ra, rb, rc, hrx⟩ := H1.out.rx
    have d0 := hrx.c0; have z0 := hrx.z 0
    have d1 := hrx.c1; have z1 := hrx.z 1
    have d2 := hrx.c2; have z2 := hrx.z 2
    have d3 := hrx.c3; have z3 := hrx.z 3
    have d4 := hrx.c4; have z4 := hrx.z 4
    have d5 := hrx.c5; have z5 := hrx.z 5
    have d6 := hrx.c6; have z6 := hrx.z 6
    have d7 := hrx.c7; have z7 := hrx.z 7
    have d8 := hrx.c8; have z8 := hrx.z 8
    clear hrx
    have HO := H1.out.out0
    unfold setM at HO
    replace HO : Hid (MX (((((((((w1.setCell ⟨N, 0, none⟩ (.int .i64 0)).setCell ⟨N, 1, none⟩ (.int .i64 0)).setCell ⟨N, 2, none⟩ (.int .i64 0)).setCell ⟨N, 3, none⟩ (.int .i64 0)).setCell ⟨N, 4, none⟩ (.int .i64 0)).setCell ⟨N, 5, none⟩ (.int .i64 0)).setCell ⟨N, 6, none⟩ (.slice none 0 0)).setCell ⟨N, 7, none⟩ (.slice none 0 0)).setCell ⟨N, 8, none⟩ (.slice none 0 0)) N zeroMs (.slice none 0 0) (.slice none 0 0) (.slice none 0 0) ∧ Ch (fun x => x = N) w1 (((((((((w1.setCell ⟨N, 0, none⟩ (.int .i64 0)).setCell ⟨N, 1, none⟩ (.int .i64 0)).setCell ⟨N, 2, none⟩ (.int .i64 0)).setCell ⟨N, 3, none⟩ (.int .i64 0)).setCell ⟨N, 4, none⟩ (.int .i64 0)).setCell ⟨N, 5, none⟩ (.int .i64 0)).setCell ⟨N, 6, none⟩ (.slice none 0 0)).setCell ⟨N, 7, none⟩ (.slice none 0 0)).setCell ⟨N, 8, none⟩ (.slice none 0 0)) ∧ Below N w (((((((((w1.setCell ⟨N, 0, none⟩ (.int .i64 0)).setCell ⟨N, 1, none⟩ (.int .i64 0)).setCell ⟨N, 2, none⟩ (.int .i64 0)).setCell ⟨N, 3, none⟩ (.int .i64 0)).setCell ⟨N, 4, none⟩ (.int .i64 0)).setCell ⟨N, 5, none⟩ (.int .i64 0)).setCell ⟨N, 6, none⟩ (.slice none 0 0)).setCell ⟨N, 7, none⟩ (.slice none 0 0)).setCell ⟨N, 8, none⟩ (.slice none 0 0))) := HO
    go_wp2_with fail
    generalize ((((((((w1.setCell ⟨N, 0, none⟩ (.int .i64 0)).setCell ⟨N, 1, none⟩ (.int .i64 0)).setCell ⟨N, 2, none⟩ (.int .i64 0)).setCell ⟨N, 3, none⟩ (.int .i64 0)).setCell ⟨N, 4, none⟩ (.int .i64 0)).setCell ⟨N, 5, none⟩ (.int .i64 0)).setCell ⟨N, 6, none⟩ (.slice none 0 0)).setCell ⟨N, 7, none⟩ (.slice none 0 0)).setCell ⟨N, 8, none⟩ (.slice none 0 0) = w9 at HO ⊢
    obtain ⟨hm9, hc9, hb9⟩ := HO.out
    have y0 : w9.cell? ⟨N, 0, none⟩ = some (.int .i64 0) := hm9.c0
    have y1 : w9.cell? ⟨N, 1, none⟩ = some (.int .i64 0) := hm9.c1
    have y2 : w9.cell? ⟨N, 2, none⟩ = some (.int .i64 0) := hm9.c2
    have y3 : w9.cell? ⟨N, 3, none⟩ = some (.int .i64 0) := hm9.c3
    have y4 : w9.cell? ⟨N, 4, none⟩ = some (.int .i64 0) := hm9.c4
    have y5 : w9.cell? ⟨N, 5, none⟩ = some (.int .i64 0) := hm9.c5
    have y6 : w9.cell? ⟨N, 6, none⟩ = some (.slice none 0 0) := hm9.c6
    have y7 : w9.cell? ⟨N, 7, none⟩ = some (.slice none 0 0) := hm9.c7
    have y8 : w9.cell? ⟨N, 8, none⟩ = some (.slice none 0 0) := hm9.c8
    have HBW : Hid (Below w.heap.size w w9) := by have k := hb9; rw [HN.out] at k; exact k
    refine bodyPost_ret (v := .tuple #[.agg #[.int .i64 0, .int .i64 0, .int .i64 0, .int .i64 0, .int .i64 0, .int .i64 0, .slice none 0 0, .slice none 0 0, .slice none 0 0], .int .i64 (er : Int)]) (by simp [results, Try.results15, go_sem, y0, y1, y2, y3, y4, y5, y6, y7, y8]) rfl ?_
    exact dgot_bad (er := er) (HD.out) HBW.out
  · have HT : Hid _ := t3_litB ht
    by_cases hk : y < 1 ∨ 8 < y
    · have HD : Hid (decS l = (zeroMs, 150)) := by show _ = _; have k : kndL l = (150, 0, []) := (by unfold kndL; rw [ht, if_neg (by simp), if_pos hk]); unfold decS; rw [k, if_pos (by decide)]
      obtain ⟨va, vn, vc, rfl⟩ := bv_any hv
      rcases hk with hk | hk
      · have hki : decide ((y : Int) < 1) = true := decide_eq_true (by omega)
        clear ht hv hk hn1 hn2 hn3 hy
        go_enter Try.func15, Try.ntmps15
        go_upto_region 1 with fail
        rw [← hN] at H1 ⊢
        clear hN
        generalize w.alloc (Obj.cells #[.int .i64 0, .int .i64 0, .int .i64 0, .int .i64 0, .int .i64 0, .int .i64 0, .slice none 0 0, .slice none 0 0, .slice none 0 0] 26) = w1 at H1 HV1 ⊢
        go_wp2_with fail
        refine (rtake_walk HV1.out).mono ?_
        rw [HT.out]
        rintro e9 w4 ⟨rfl, hw4⟩
        replace hw4 := hw4.symm
        subst hw4
        obtain ⟨rn, ra, rb, rc, hrx⟩ := H1.out.rx
        have d0 := hrx.c0; have z0 := hrx.z 0
        have d1 := hrx.c1; have z1 := hrx.z 1
        have d2 := hrx.c2; have z2 := hrx.z 2
        have d3 := hrx.c3; have z3 := hrx.z 3
        have d4 := hrx.c4; have z4 := hrx.z 4
        have d5 := hrx.c5; have z5 := hrx.z 5
        have d6 := hrx.c6; have z6 := hrx.z 6
        have d7 := hrx.c7; have z7 := hrx.z 7
        have d8 := hrx.c8; have z8 := hrx.z 8
        clear hrx
        have HO := H1.out.out0
        unfold setM at HO
        replace HO : Hid (MX (((((((((w1.setCell ⟨N, 0, none⟩ (.int .i64 0)).setCell ⟨N, 1, none⟩ (.int .i64 0)).setCell ⟨N, 2, none⟩ (.int .i64 0)).setCell ⟨N, 3, none⟩ (.int .i64 0)).setCell ⟨N, 4, none⟩ (.int .i64 0)).setCell ⟨N, 5, none⟩ (.int .i64 0)).setCell ⟨N, 6, none⟩ (.slice none 0 0)).setCell ⟨N, 7, none⟩ (.slice none 0 0)).setCell ⟨N, 8, none⟩ (.slice none 0 0)) N zeroMs (.slice none 0 0) (.slice none 0 0) (.slice none 0 0) ∧ Ch (fun x => x = N) w1 (((((((((w1.setCell ⟨N, 0, none⟩ (.int .i64 0)).setCell ⟨N, 1, none⟩ (.int .i64 0)).setCell ⟨N, 2, none⟩ (.int .i64 0)).setCell ⟨N, 3, none⟩ (.int .i64 0)).setCell ⟨N, 4, none⟩ (.int .i64 0)).setCell ⟨N, 5, none⟩ (.int .i64 0)).setCell ⟨N, 6, none⟩ (.slice none 0 0)).setCell ⟨N, 7, none⟩ (.slice none 0 0)).setCell ⟨N, 8, none⟩ (.slice none 0 0)) ∧ Below N w (((((((((w1.setCell ⟨N, 0, none⟩ (.int .i64 0)).setCell ⟨N, 1, none⟩ (.int .i64 0)).setCell ⟨N, 2, none⟩ (.int .i64 0)).setCell ⟨N, 3, none⟩ (.int .i64 0)).setCell ⟨N, 4, none⟩ (.int .i64 0)).setCell ⟨N, 5, none⟩ (.int .i64 0)).setCell ⟨N, 6, none⟩ (.slice none 0 0)).setCell ⟨N, 7, none⟩ (.slice none 0 0)).setCell ⟨N, 8, none⟩ (.slice none 0 0))) := HO
        go_wp2_with fail
        generalize ((((((((w1.setCell ⟨N, 0, none⟩ (.int .i64 0)).setCell ⟨N, 1, none⟩ (.int .i64 0)).setCell ⟨N, 2, none⟩ (.int .i64 0)).setCell ⟨N, 3, none⟩ (.int .i64 0)).setCell ⟨N, 4, none⟩ (.int .i64 0)).setCell ⟨N, 5, none⟩ (.int .i64 0)).setCell ⟨N, 6, none⟩ (.slice none 0 0)).setCell ⟨N, 7, none⟩ (.slice none 0 0)).setCell ⟨N, 8, none⟩ (.slice none 0 0) = w9 at HO ⊢
        obtain ⟨hm9, hc9, hb9⟩ := HO.out
        have y0 : w9.cell? ⟨N, 0, none⟩ = some (.int .i64 0) := hm9.c0
        have y1 : w9.cell? ⟨N, 1, none⟩ = some (.int .i64 0) := hm9.c1
        have y2 : w9.cell? ⟨N, 2, none⟩ = some (.int .i64 0) := hm9.c2
        have y3 : w9.cell? ⟨N, 3, none⟩ = some (.int .i64 0) := hm9.c3
        have y4 : w9.cell? ⟨N, 4, none⟩ = some (.int .i64 0) := hm9.c4
        have y5 : w9.cell? ⟨N, 5, none⟩ = some (.int .i64 0) := hm9.c5
        have y6 : w9.cell? ⟨N, 6, none⟩ = some (.slice none 0 0) := hm9.c6
        have y7 : w9.cell? ⟨N, 7, none⟩ = some (.slice none 0 0) := hm9.c7
        have y8 : w9.cell? ⟨N, 8, none⟩ = some (.slice none 0 0) := hm9.c8
        have HBW : Hid (Below w.heap.size w w9) := by have k := hb9; rw [HN.out] at k; exact k
        refine bodyPost_ret (v := .tuple #[.agg #[.int .i64 0, .int .i64 0, .int .i64 0, .int .i64 0, .int .i64 0, .int .i64 0, .slice none 0 0, .slice none 0 0, .slice none 0 0], .int .i64 150]) (by simp [results, Try.results15, go_sem, y0, y1, y2, y3, y4, y5, y6, y7, y8]) rfl ?_
        exact dgot_bad (er := 150) (HD.out) HBW.out
      · have hki : decide ((y : Int) < 1) = false := decide_eq_false (by omega)
        have hkj : decide ((8 : Int) < (y : Int)) = true := decide_eq_true (by omega)
        clear ht hv hk hn1 hn2 hn3 hy
        go_enter Try.func15, Try.ntmps15
        go_upto_region 1 with fail
        rw [← hN] at H1 ⊢
        clear hN
        generalize w.alloc (Obj.cells #[.int .i64 0, .int .i64 0, .int .i64 0, .int .i64 0, .int .i64 0, .int .i64 0, .slice none 0 0, .slice none 0 0, .slice none 0 0] 26) = w1 at H1 HV1 ⊢
        go_wp2_with fail
        refine (rtake_walk HV1.out).mono ?_
        rw [HT.out]
        rintro e9 w4 ⟨rfl, hw4⟩
        replace hw4 := hw4.symm
        subst hw4
        obtain ⟨rn, ra, rb, rc, hrx⟩ := H1.out.rx
        have d0 := hrx.c0; have z0 := hrx.z 0
        have d1 := hrx.c1; have z1 := hrx.z 1
        have d2 := hrx.c2; have z2 := hrx.z 2
        have d3 := hrx.c3; have z3 := hrx.z 3
        have d4 := hrx.c4; have z4 := hrx.z 4
        have d5 := hrx.c5; have z5 := hrx.z 5
        have d6 := hrx.c6; have z6 := hrx.z 6
        have d7 := hrx.c7; have z7 := hrx.z 7
        have d8 := hrx.c8; have z8 := hrx.z 8
        clear hrx
        have HO := H1.out.out0
        unfold setM at HO
        replace HO : Hid (MX (((((((((w1.setCell ⟨N, 0, none⟩ (.int .i64 0)).setCell ⟨N, 1, none⟩ (.int .i64 0)).setCell ⟨N, 2, none⟩ (.int .i64 0)).setCell ⟨N, 3, none⟩ (.int .i64 0)).setCell ⟨N, 4, none⟩ (.int .i64 0)).setCell ⟨N, 5, none⟩ (.int .i64 0)).setCell ⟨N, 6, none⟩ (.slice none 0 0)).setCell ⟨N, 7, none⟩ (.slice none 0 0)).setCell ⟨N, 8, none⟩ (.slice none 0 0)) N zeroMs (.slice none 0 0) (.slice none 0 0) (.slice none 0 0) ∧ Ch (fun x => x = N) w1 (((((((((w1.setCell ⟨N, 0, none⟩ (.int .i64 0)).setCell ⟨N, 1, none⟩ (.int .i64 0)).setCell ⟨N, 2, none⟩ (.int .i64 0)).setCell ⟨N, 3, none⟩ (.int .i64 0)).setCell ⟨N, 4, none⟩ (.int .i64 0)).setCell ⟨N, 5, none⟩ (.int .i64 0)).setCell ⟨N, 6, none⟩ (.slice none 0 0)).setCell ⟨N, 7, none⟩ (.slice none 0 0)).setCell ⟨N, 8, none⟩ (.slice none 0 0)) ∧ Below N w (((((((((w1.setCell ⟨N, 0, none⟩ (.int .i64 0)).setCell ⟨N, 1, none⟩ (.int .i64 0)).setCell ⟨N, 2, none⟩ (.int .i64 0)).setCell ⟨N, 3, none⟩ (.int .i64 0)).setCell ⟨N, 4, none⟩ (.int .i64 0)).setCell ⟨N, 5, none⟩ (.int .i64 0)).setCell ⟨N, 6, none⟩ (.slice none 0 0)).setCell ⟨N, 7, none⟩ (.slice none 0 0)).setCell ⟨N, 8, none⟩ (.slice none 0 0))) := HO
        go_wp2_with fail
        generalize ((((((((w1.setCell ⟨N, 0, none⟩ (.int .i64 0)).setCell ⟨N, 1, none⟩ (.int .i64 0)).setCell ⟨N, 2, none⟩ (.int .i64 0)).setCell ⟨N, 3, none⟩ (.int .i64 0)).setCell ⟨N, 4, none⟩ (.int .i64 0)).setCell ⟨N, 5, none⟩ (.int .i64 0)).setCell ⟨N, 6, none⟩ (.slice none 0 0)).setCell ⟨N, 7, none⟩ (.slice none 0 0)).setCell ⟨N, 8, none⟩ (.slice none 0 0) = w9 at HO ⊢
        obtain ⟨hm9, hc9, hb9⟩ := HO.out
        have y0 : w9.cell? ⟨N, 0, none⟩ = some (.int .i64 0) := hm9.c0
        have y1 : w9.cell? ⟨N, 1, none⟩ = some (.int .i64 0) := hm9.c1
        have y2 : w9.cell? ⟨N, 2, none⟩ = some (.int .i64 0) := hm9.c2
        have y3 : w9.cell? ⟨N, 3, none⟩ = some (.int .i64 0) := hm9.c3
        have y4 : w9.cell? ⟨N, 4, none⟩ = some (.int .i64 0) := hm9.c4
        have y5 : w9.cell? ⟨N, 5, none⟩ = some (.int .i64 0) := hm9.c5
        have y6 : w9.cell? ⟨N, 6, none⟩ = some (.slice none 0 0) := hm9.c6
        have y7 : w9.cell? ⟨N, 7, none⟩ = some (.slice none 0 0) := hm9.c7
        have y8 : w9.cell? ⟨N, 8, none⟩ = some (.slice none 0 0) := hm9.c8
        have HBW : Hid (Below w.heap.size w w9) := by have k := hb9; rw [HN.out] at k; exact k
        refine bodyPost_ret (v := .tuple #[.agg #[.int .i64 0, .int .i64 0, .int .i64 0, .int .i64 0, .int .i64 0, .int .i64 0, .slice none 0 0, .slice none 0 0, .slice none 0 0], .int .i64 150]) (by simp [results, Try.results15, go_sem, y0, y1, y2, y3, y4, y5, y6, y7, y8]) rfl ?_
        exact dgot_bad (er := 150) (HD.out) HBW.out
    · have hK : 1 ≤ y ∧ y ≤ 8 := by omega
      have HK : Hid (1 ≤ y ∧ y ≤ 8) := hK
      have HD0 : Hid (decS l = decI y (fun _ => 0) 4 (l.drop n)) := by show _ = _; have k : kndL l = (0, y, l.drop n) := (by unfold kndL; rw [ht, if_neg (by simp), if_neg hk]); unfold decS; rw [k, if_neg (by simp)]; exact dec2_I _ _
      have hki : decide ((y : Int) < 1) = false := decide_eq_false (by omega)
      have hkj : decide ((8 : Int) < (y : Int)) = false := decide_eq_false (by omega)
      have hwx : IntKind.i64.wrap (y : Int) = (y : Int) := by rw [IntKind.wrap_i64]; omega
      obtain ⟨bb, off, bc, e1, _⟩ : ∃ bb off cap', v = .slice (some ⟨bb, off, none⟩) l.length cap' ∧ True := by rcases bv_cases hv with ⟨e0, _⟩ | ⟨b, o, c, e, _⟩; rw [‹l = []›] at hn2; simp at hn2; omega; exact ⟨b, o, c, e, trivial⟩
      subst e1
      obtain ⟨_, hlc, hmx⟩ := bv_le hv
      unfold maxLen at hmx
      have hci : (bc : Int) ≤ 9223372036854775807 := by omega
      have hli : (l.length : Int) ≤ (bc : Int) := by omega
      have hnl : (n : Int) ≤ (l.length : Int) := by omega
      have hnc : (n : Int) ≤ (bc : Int) := by omega
      obtain ⟨q1, q2⟩ := bv_cut hv n hn2
      have HLN : Hid (∀ c ∈ l.drop n, c < 256) := fun c hc => hv.2 c (List.mem_of_mem_drop hc)
      by_cases hcp : bc = n
      · have HU : Hid (Bv w (.slice (some ⟨bb, off, none⟩) (l.length - n) 0) (l.drop n)) := q1 hcp
        have HI : Hid (RX w.heap.size w ((w.alloc (Obj.cells #[.int .i64 0, .int .i64 0, .int .i64 0, .int .i64 0, .int .i64 0, .int .i64 0, .slice none 0 0, .slice none 0 0, .slice none 0 0] 26)).alloc (Obj.cells #[.int .i64 0, .int .i64 0, .int .i64 0, .int .i64 0] 63)) (fun _ => 0) (.slice (some ⟨bb, off, none⟩) (l.length - n) 0) (l.drop n)) := rx_new hv HU.out sb_cut0 drop_ne
        rw [← hN] at HI
        clear ht hv hn1 hn2 hn3 hy hlc hmx q1 q2 hK hk
        subst hcp
        go_enter Try.func15, Try.ntmps15
        go_upto_region 1 with fail
        rw [← hN] at H1 ⊢
        clear hN
        go_wp2_with fail
        refine (rtake_walk HV1.out).mono ?_
        rw [HT.out]
        rintro e9 w4 ⟨rfl, hw4⟩
        replace hw4 := hw4.symm
        subst hw4
        go_upto_region 8 with fail
        simp only [← HN.out]
        generalize (w.alloc (Obj.cells #[.int .i64 0, .int .i64 0, .int .i64 0, .int .i64 0, .int .i64 0, .int .i64 0, .slice none 0 0, .slice none 0 0, .slice none 0 0] 26)).alloc (Obj.cells #[.int .i64 0, .int .i64 0, .int .i64 0, .int .i64 0] 63) = w2 at HI ⊢
        clear H1 HV1 HU HV hki hkj hci hli hnl hnc
        go_wp2_with fail
        go_loopw [0, 8] (fun bv iv wr => ∃ (i : Nat) (hs : Nat → Nat) (l4 : List Nat), iv = .int .i64 i ∧ i ≤ 4 ∧ decS l = decI y hs (4 - i) l4 ∧ (∀ c ∈ l4, c < 256) ∧ RX N w wr hs bv l4) (fun _ iv _ => 4 - (intOf iv).toNat)
        case atStart => exact ⟨0, _, _, rfl, by omega, HD0.out, HLN.out, HI.out⟩
        case round =>
          clear HI HLN HD0
          obtain ⟨i, hs, l4, rfl, hi4, hde, hlb, hrx⟩ := hrel
          have HDE : Hid (decS l = decI y hs (4 - i) l4) := hde
          have HL4 : Hid (∀ c ∈ l4, c < 256) := hlb
          obtain ⟨ba, bn, bk, hub⟩ := bv_any hrx.bv
          subst hub
          have HI : Hid (RX N w wr hs (.slice ba bn bk) l4) := hrx
          clear hde hlb hrx
          by_cases hlt : i < 4
          · have hlti : (i : Int) < 4 := by omega
            have HDE2 : Hid (decS l = if (cntL l4).1 ≠ 0 then (zeroMs, (cntL l4).1) else decI y (upd hs i (cntL l4).2.1) (4 - (i + 1)) (cntL l4).2.2) := by show _ = _; rw [HDE.out, show 4 - i = (3 - i) + 1 by omega, decI, show 3 - (3 - i) = i by omega, show 4 - (i + 1) = 3 - i by omega]
            clear HDE
            go_wp2_with fail
            refine (rsmall_walk HI.out.bv).mono ?_
            rintro e9 w3 ⟨u3, he, hu3, hs3, hB3⟩
            obtain ⟨ua, un, uc, hu9⟩ := bv_any hu3
            subst hu9
            obtain ⟨er, her⟩ : ∃ x, x = (cntL l4).1 := ⟨_, rfl⟩
            obtain ⟨x, hxe⟩ : ∃ x, x = (cntL l4).2.1 := ⟨_, rfl⟩
            obtain ⟨l5, hl5⟩ : ∃ x, x = (cntL l4).2.2 := ⟨_, rfl⟩
            rw [← her, ← hxe] at he
            rw [← hl5] at hu3
            rw [← her, ← hxe, ← hl5] at HDE2
            by_cases h0 : er = 0
            · have HI3 : Hid (RX N w w3 hs (.slice ua un uc) l5) := HI.out.cut hB3 hu3 hs3 (by rw [hl5]; exact cnt_ne)
              have HDN : Hid (decS l = decI y (upd hs i x) (4 - (i + 1)) l5) := by show _ = _; rw [HDE2.out, if_neg (by simpa using h0)]
              have HL5 : Hid (∀ c ∈ l5, c < 256) := fun c hc => HL4.out c (by rw [(cnt_back HL4.out (her.symm.trans h0)).1, ← hl5]; simp [hc])
              subst h0
              subst he
              clear hu3 hs3 hB3 her hxe hl5 HDE2 HI HL4
              have ci := HI3.out.hd i hlt; have zi := HI3.out.hz i
              have HI4 : Hid _ := HI3.out.set hlt x
              go_wp2_with fail
              go_roundw
              case rel => exact ⟨i + 1, upd hs i x, l5, by simp, by omega, HDN.out, HL5.out, HI4.out⟩
              case measure => simp [intOf]; omega
            · have HI3 : Hid (RX N w w3 hs (.slice ua un uc) l5) := HI.out.cut hB3 hu3 hs3 (by rw [hl5]; exact cnt_ne)
              have HD : Hid (decS l = (zeroMs, er)) := by show _ = _; rw [HDE2.out, if_pos h0]
              have hne : ((er : Int) != 0) = true := by rw [bne_iff_ne]; omega
              subst he
              clear hu3 hs3 hB3 her hxe hl5 HDE2 HI HL4 h0
              obtain ⟨rn, ra, rb, rc, hrx⟩ := HI3.out.rx
              have d0 := hrx.c0; have z0 := hrx.z 0
              have d1 := hrx.c1; have z1 := hrx.z 1
              have d2 := hrx.c2; have z2 := hrx.z 2
              have d3 := hrx.c3; have z3 := hrx.z 3
              have d4 := hrx.c4; have z4 := hrx.z 4
              have d5 := hrx.c5; have z5 := hrx.z 5
              have d6 := hrx.c6; have z6 := hrx.z 6
              have d7 := hrx.c7; have z7 := hrx.z 7
              have d8 := hrx.c8; have z8 := hrx.z 8
              clear hrx
              have HO := HI3.out.out0
              unfold setM at HO
              replace HO : Hid (MX (((((((((w3.setCell ⟨N, 0, none⟩ (.int .i64 0)).setCell ⟨N, 1, none⟩ (.int .i64 0)).setCell ⟨N, 2, none⟩ (.int .i64 0)).setCell ⟨N, 3, none⟩ (.int .i64 0)).setCell ⟨N, 4, none⟩ (.int .i64 0)).setCell ⟨N, 5, none⟩ (.int .i64 0)).setCell ⟨N, 6, none⟩ (.slice none 0 0)).setCell ⟨N, 7, none⟩ (.slice none 0 0)).setCell ⟨N, 8, none⟩ (.slice none 0 0)) N zeroMs (.slice none 0 0) (.slice none 0 0) (.slice none 0 0) ∧ Ch (fun x => x = N) w3 (((((((((w3.setCell ⟨N, 0, none⟩ (.int .i64 0)).setCell ⟨N, 1, none⟩ (.int .i64 0)).setCell ⟨N, 2, none⟩ (.int .i64 0)).setCell ⟨N, 3, none⟩ (.int .i64 0)).setCell ⟨N, 4, none⟩ (.int .i64 0)).setCell ⟨N, 5, none⟩ (.int .i64 0)).setCell ⟨N, 6, none⟩ (.slice none 0 0)).setCell ⟨N, 7, none⟩ (.slice none 0 0)).setCell ⟨N, 8, none⟩ (.slice none 0 0)) ∧ Below N w (((((((((w3.setCell ⟨N, 0, none⟩ (.int .i64 0)).setCell ⟨N, 1, none⟩ (.int .i64 0)).setCell ⟨N, 2, none⟩ (.int .i64 0)).setCell ⟨N, 3, none⟩ (.int .i64 0)).setCell ⟨N, 4, none⟩ (.int .i64 0)).setCell ⟨N, 5, none⟩ (.int .i64 0)).setCell ⟨N, 6, none⟩ (.slice none 0 0)).setCell ⟨N, 7, none⟩ (.slice none 0 0)).setCell ⟨N, 8, none⟩ (.slice none 0 0))) := HO
              go_wp2_with fail
              generalize ((((((((w3.setCell ⟨N, 0, none⟩ (.int .i64 0)).setCell ⟨N, 1, none⟩ (.int .i64 0)).setCell ⟨N, 2, none⟩ (.int .i64 0)).setCell ⟨N, 3, none⟩ (.int .i64 0)).setCell ⟨N, 4, none⟩ (.int .i64 0)).setCell ⟨N, 5, none⟩ (.int .i64 0)).setCell ⟨N, 6, none⟩ (.slice none 0 0)).setCell ⟨N, 7, none⟩ (.slice none 0 0)).setCell ⟨N, 8, none⟩ (.slice none 0 0) = w9 at HO ⊢
              obtain ⟨hm9, hc9, hb9⟩ := HO.out
              have y0 : w9.cell? ⟨N, 0, none⟩ = some (.int .i64 0) := hm9.c0
              have y1 : w9.cell? ⟨N, 1, none⟩ = some (.int .i64 0) := hm9.c1
              have y2 : w9.cell? ⟨N, 2, none⟩ = some (.int .i64 0) := hm9.c2
              have y3 : w9.cell? ⟨N, 3, none⟩ = some (.int .i64 0) := hm9.c3
              have y4 : w9.cell? ⟨N, 4, none⟩ = some (.int .i64 0) := hm9.c4
              have y5 : w9.cell? ⟨N, 5, none⟩ = some (.int .i64 0) := hm9.c5
              have y6 : w9.cell? ⟨N, 6, none⟩ = some (.slice none 0 0) := hm9.c6
              have y7 : w9.cell? ⟨N, 7, none⟩ = some (.slice none 0 0) := hm9.c7
              have y8 : w9.cell? ⟨N, 8, none⟩ = some (.slice none 0 0) := hm9.c8
              have HBW : Hid (Below w.heap.size w w9) := by have k := hb9; rw [HN.out] at k; exact k
              refine bodyPost_ret (v := .tuple #[.agg #[.int .i64 0, .int .i64 0, .int .i64 0, .int .i64 0, .int .i64 0, .int .i64 0, .slice none 0 0, .slice none 0 0, .slice none 0 0], .int .i64 (er : Int)]) (by simp [results, Try.results15, go_sem, y0, y1, y2, y3, y4, y5, y6, y7, y8]) rfl ?_
              exact dgot_bad (er := er) (HD.out) HBW.out
          · have hlti : ¬ (i : Int) < 4 := by omega
            obtain rfl : i = 4 := by omega
            obtain ⟨F, hF⟩ : ∃ x, x = hs 0 := ⟨_, rfl⟩
            obtain ⟨T, hT⟩ : ∃ x, x = hs 1 := ⟨_, rfl⟩
            obtain ⟨B, hB⟩ : ∃ x, x = hs 2 := ⟨_, rfl⟩
            obtain ⟨A, hA⟩ : ∃ x, x = hs 3 := ⟨_, rfl⟩
            have HDE2 : Hid (decS l = decT (bodL ⟨y, F, T, B, A⟩ l4)) := by show _ = _; rw [HDE.out, hF, hT, hB, hA]; rfl
            have f0 := HI.out.hd 0 (by decide); have f1 := HI.out.hd 1 (by decide); have f2 := HI.out.hd 2 (by decide); have f3 := HI.out.hd 3 (by decide)
            rw [← hF] at f0; rw [← hT] at f1; rw [← hB] at f2; rw [← hA] at f3
            clear HDE hF hT hB hA
            go_wp2_with fail
            refine (body_walk HI.out.bv ⟨y, F, T, B, A⟩ HK.out).mono ?_
            rintro e9 w5 ⟨mm, ev, qv, pv, u5, he, ⟨⟨ea, en, ec, hev⟩, ⟨qa, qn, qc, hqv⟩, ⟨pa, pn, pc, hpv⟩⟩, hB5, hgood⟩
            obtain ⟨er, her⟩ : ∃ x, x = (bodL ⟨y, F, T, B, A⟩ l4).1 := ⟨_, rfl⟩
            rw [← her] at he hgood
            subst hev; subst hqv; subst hpv
            have HP : Hid (MX (w5.alloc (Obj.cells #[.int .i64 mm.K, .int .i64 mm.F, .int .i64 mm.T, .int .i64 mm.B, .int .i64 mm.A, .int .i64 mm.C, .slice ea en ec, .slice qa qn qc, .slice pa pn pc] 26)) w5.heap.size mm (.slice ea en ec) (.slice qa qn qc) (.slice pa pn pc) ∧ Below w5.heap.size w5 (w5.alloc (Obj.cells #[.int .i64 mm.K, .int .i64 mm.F, .int .i64 mm.T, .int .i64 mm.B, .int .i64 mm.A, .int .i64 mm.C, .slice ea en ec, .slice qa qn qc, .slice pa pn pc] 26))) := ⟨mx_new w5 mm _ _ _, below_alloc _ _⟩
            by_cases h0 : er = 0
            · obtain ⟨hmm, hoe, hoq, hop, hbu, hbm5⟩ := hgood h0
              obtain ⟨l6, hl6⟩ : ∃ x, x = (bodL ⟨y, F, T, B, A⟩ l4).2.2 := ⟨_, rfl⟩
              have HPT : Hid (okT mm.P) := by rw [hmm]; exact bod_okT HK.out HL4.out
              have HDB : Hid (bodL ⟨y, F, T, B, A⟩ l4 = (0, mm, l6)) := by show _ = _; rw [hmm, hl6, ← h0, her]
              rw [← hmm] at hoe hoq hop
              rw [← hl6] at hbu hbm5
              have HOE : Hid (w5.ownsRow wr.heap.size 3 1 (.slice ea en ec) mm.E.length (mm.E.map (Value.int .i64))) := hoe
              have HOQ : Hid (w5.ownsRow wr.heap.size 38 1 (.slice qa qn qc) mm.Q.length ((ib mm.Q).map (Value.int .u64))) := hoq
              have HOP : Hid (w5.ownsRow wr.heap.size 42 3 (.slice pa pn pc) mm.P.length (flatQ mm.P)) := hop
              have HBU : Hid (Bv w5 u5 l6) := hbu
              obtain ⟨ua, un, uc, hu9⟩ := bv_any hbu
              subst hu9
              have HUN : Hid (un = l6.length) := (bv_le hbu).1
              have HI5 : Hid (RX N w w5 hs (.slice ba bn bk) l4) := HI.out.keep hB5
              have HSZ : Hid (N + 2 ≤ wr.heap.size) := HI.out.sz
              subst h0
              subst he
              clear hmm hoe hoq hop hbu hbm5 hgood her hl6 hB5 HI f0 f1 f2 f3
              go_upto_region 17 with fail
              generalize w5.alloc (Obj.cells #[.int .i64 mm.K, .int .i64 mm.F, .int .i64 mm.T, .int .i64 mm.B, .int .i64 mm.A, .int .i64 mm.C, .slice ea en ec, .slice qa qn qc, .slice pa pn pc] 26) = w6 at HP ⊢
              obtain ⟨P, hP⟩ : ∃ P, P = w5.heap.size := ⟨_, rfl⟩
              have HPB : Hid (Below w5.heap.size w5 w6) := HP.out.2
              rw [← hP] at HP ⊢
              have HX6 : Hid (MX w6 P mm (.slice ea en ec) (.slice qa qn qc) (.slice pa pn pc)) := HP.out.1
              have HI6 : Hid (RX N w w6 hs (.slice ba bn bk) l4) := HI5.out.keep HPB.out
              have HOE6 : Hid _ := own_belowC HOE.out HPB.out
              have HOQ6 : Hid _ := own_belowC HOQ.out HPB.out
              have HOP6 : Hid _ := own_belowC HOP.out HPB.out
              have HML : Hid (ML w6 mm (.slice ea en ec) (.slice qa qn qc) (.slice pa pn pc)) := ⟨own_sv HOE6.out, own_sv HOQ6.out, own_qv HOP6.out HPT.out⟩
              clear HOE HOQ HOP HBU HP HPB hP HI5
              by_cases hl0 : un = 0
              · have HLZ : Hid (l6.length = 0) := by show _ = _; rw [← HUN.out]; exact hl0
                subst hl0
                have c0 := HX6.out.c0; have c1 := HX6.out.c1; have c2 := HX6.out.c2; have c3 := HX6.out.c3; have c4 := HX6.out.c4; have c5 := HX6.out.c5; have c6 := HX6.out.c6; have c7 := HX6.out.c7; have c8 := HX6.out.c8
                go_wp2_with fail
                refine (rmsound_walk HML.out).mono ?_
                rintro e9 w7 ⟨rfl, hB7⟩
                have HX7 : Hid _ := HX6.out.keep hB7
                have HI7 : Hid _ := HI6.out.keep hB7
                have HOE7 : Hid _ := own_belowC HOE6.out hB7
                have HOQ7 : Hid _ := own_belowC HOQ6.out hB7
                have HOP7 : Hid _ := own_belowC HOP6.out hB7
                clear hB7 HX6 HI6 HOE6 HOQ6 HOP6 HML c0 c1 c2 c3 c4 c5 c6 c7 c8
                cases hsn : sndM mm
                · have HD : Hid (decS l = (zeroMs, 150)) := by show _ = _; rw [HDE2.out, HDB.out]; exact decT_none HLZ.out hsn
                  clear hsn
                  obtain ⟨rn, ra, rb, rc, hrx⟩ := HI7.out.rx
                  have d0 := hrx.c0; have z0 := hrx.z 0
                  have d1 := hrx.c1; have z1 := hrx.z 1
                  have d2 := hrx.c2; have z2 := hrx.z 2
                  have d3 := hrx.c3; have z3 := hrx.z 3
                  have d4 := hrx.c4; have z4 := hrx.z 4
                  have d5 := hrx.c5; have z5 := hrx.z 5
                  have d6 := hrx.c6; have z6 := hrx.z 6
                  have d7 := hrx.c7; have z7 := hrx.z 7
                  have d8 := hrx.c8; have z8 := hrx.z 8
                  clear hrx
                  have HO := HI7.out.out0
                  unfold setM at HO
                  replace HO : Hid (MX (((((((((w7.setCell ⟨N, 0, none⟩ (.int .i64 0)).setCell ⟨N, 1, none⟩ (.int .i64 0)).setCell ⟨N, 2, none⟩ (.int .i64 0)).setCell ⟨N, 3, none⟩ (.int .i64 0)).setCell ⟨N, 4, none⟩ (.int .i64 0)).setCell ⟨N, 5, none⟩ (.int .i64 0)).setCell ⟨N, 6, none⟩ (.slice none 0 0)).setCell ⟨N, 7, none⟩ (.slice none 0 0)).setCell ⟨N, 8, none⟩ (.slice none 0 0)) N zeroMs (.slice none 0 0) (.slice none 0 0) (.slice none 0 0) ∧ Ch (fun x => x = N) w7 (((((((((w7.setCell ⟨N, 0, none⟩ (.int .i64 0)).setCell ⟨N, 1, none⟩ (.int .i64 0)).setCell ⟨N, 2, none⟩ (.int .i64 0)).setCell ⟨N, 3, none⟩ (.int .i64 0)).setCell ⟨N, 4, none⟩ (.int .i64 0)).setCell ⟨N, 5, none⟩ (.int .i64 0)).setCell ⟨N, 6, none⟩ (.slice none 0 0)).setCell ⟨N, 7, none⟩ (.slice none 0 0)).setCell ⟨N, 8, none⟩ (.slice none 0 0)) ∧ Below N w (((((((((w7.setCell ⟨N, 0, none⟩ (.int .i64 0)).setCell ⟨N, 1, none⟩ (.int .i64 0)).setCell ⟨N, 2, none⟩ (.int .i64 0)).setCell ⟨N, 3, none⟩ (.int .i64 0)).setCell ⟨N, 4, none⟩ (.int .i64 0)).setCell ⟨N, 5, none⟩ (.int .i64 0)).setCell ⟨N, 6, none⟩ (.slice none 0 0)).setCell ⟨N, 7, none⟩ (.slice none 0 0)).setCell ⟨N, 8, none⟩ (.slice none 0 0))) := HO
                  go_wp2_with fail
                  generalize ((((((((w7.setCell ⟨N, 0, none⟩ (.int .i64 0)).setCell ⟨N, 1, none⟩ (.int .i64 0)).setCell ⟨N, 2, none⟩ (.int .i64 0)).setCell ⟨N, 3, none⟩ (.int .i64 0)).setCell ⟨N, 4, none⟩ (.int .i64 0)).setCell ⟨N, 5, none⟩ (.int .i64 0)).setCell ⟨N, 6, none⟩ (.slice none 0 0)).setCell ⟨N, 7, none⟩ (.slice none 0 0)).setCell ⟨N, 8, none⟩ (.slice none 0 0) = w9 at HO ⊢
                  obtain ⟨hm9, hc9, hb9⟩ := HO.out
                  have y0 : w9.cell? ⟨N, 0, none⟩ = some (.int .i64 0) := hm9.c0
                  have y1 : w9.cell? ⟨N, 1, none⟩ = some (.int .i64 0) := hm9.c1
                  have y2 : w9.cell? ⟨N, 2, none⟩ = some (.int .i64 0) := hm9.c2
                  have y3 : w9.cell? ⟨N, 3, none⟩ = some (.int .i64 0) := hm9.c3
                  have y4 : w9.cell? ⟨N, 4, none⟩ = some (.int .i64 0) := hm9.c4
                  have y5 : w9.cell? ⟨N, 5, none⟩ = some (.int .i64 0) := hm9.c5
                  have y6 : w9.cell? ⟨N, 6, none⟩ = some (.slice none 0 0) := hm9.c6
                  have y7 : w9.cell? ⟨N, 7, none⟩ = some (.slice none 0 0) := hm9.c7
                  have y8 : w9.cell? ⟨N, 8, none⟩ = some (.slice none 0 0) := hm9.c8
                  have HBW : Hid (Below w.heap.size w w9) := by have k := hb9; rw [HN.out] at k; exact k
                  refine bodyPost_ret (v := .tuple #[.agg #[.int .i64 0, .int .i64 0, .int .i64 0, .int .i64 0, .int .i64 0, .int .i64 0, .slice none 0 0, .slice none 0 0, .slice none 0 0], .int .i64 150]) (by simp [results, Try.results15, go_sem, y0, y1, y2, y3, y4, y5, y6, y7, y8]) rfl ?_
                  exact dgot_bad (er := 150) (HD.out) HBW.out
                · have HD : Hid (decS l = (mm, 0)) := by show _ = _; rw [HDE2.out, HDB.out]; exact decT_ok HLZ.out hsn
                  clear hsn
                  have c0 := HX7.out.c0; have c1 := HX7.out.c1; have c2 := HX7.out.c2; have c3 := HX7.out.c3; have c4 := HX7.out.c4; have c5 := HX7.out.c5; have c6 := HX7.out.c6; have c7 := HX7.out.c7; have c8 := HX7.out.c8
                  obtain ⟨rn, ra, rb, rc, hrx⟩ := HI7.out.rx
                  have d0 := hrx.c0; have z0 := hrx.z 0
                  have d1 := hrx.c1; have z1 := hrx.z 1
                  have d2 := hrx.c2; have z2 := hrx.z 2
                  have d3 := hrx.c3; have z3 := hrx.z 3
                  have d4 := hrx.c4; have z4 := hrx.z 4
                  have d5 := hrx.c5; have z5 := hrx.z 5
                  have d6 := hrx.c6; have z6 := hrx.z 6
                  have d7 := hrx.c7; have z7 := hrx.z 7
                  have d8 := hrx.c8; have z8 := hrx.z 8
                  clear hrx
                  have HO := HI7.out.out mm (.slice ea en ec) (.slice qa qn qc) (.slice pa pn pc)
                  unfold setM at HO
                  replace HO : Hid (MX (((((((((w7.setCell ⟨N, 0, none⟩ (.int .i64 mm.K)).setCell ⟨N, 1, none⟩ (.int .i64 mm.F)).setCell ⟨N, 2, none⟩ (.int .i64 mm.T)).setCell ⟨N, 3, none⟩ (.int .i64 mm.B)).setCell ⟨N, 4, none⟩ (.int .i64 mm.A)).setCell ⟨N, 5, none⟩ (.int .i64 mm.C)).setCell ⟨N, 6, none⟩ (.slice ea en ec)).setCell ⟨N, 7, none⟩ (.slice qa qn qc)).setCell ⟨N, 8, none⟩ (.slice pa pn pc)) N mm (.slice ea en ec) (.slice qa qn qc) (.slice pa pn pc) ∧ Ch (fun x => x = N) w7 (((((((((w7.setCell ⟨N, 0, none⟩ (.int .i64 mm.K)).setCell ⟨N, 1, none⟩ (.int .i64 mm.F)).setCell ⟨N, 2, none⟩ (.int .i64 mm.T)).setCell ⟨N, 3, none⟩ (.int .i64 mm.B)).setCell ⟨N, 4, none⟩ (.int .i64 mm.A)).setCell ⟨N, 5, none⟩ (.int .i64 mm.C)).setCell ⟨N, 6, none⟩ (.slice ea en ec)).setCell ⟨N, 7, none⟩ (.slice qa qn qc)).setCell ⟨N, 8, none⟩ (.slice pa pn pc)) ∧ Below N w (((((((((w7.setCell ⟨N, 0, none⟩ (.int .i64 mm.K)).setCell ⟨N, 1, none⟩ (.int .i64 mm.F)).setCell ⟨N, 2, none⟩ (.int .i64 mm.T)).setCell ⟨N, 3, none⟩ (.int .i64 mm.B)).setCell ⟨N, 4, none⟩ (.int .i64 mm.A)).setCell ⟨N, 5, none⟩ (.int .i64 mm.C)).setCell ⟨N, 6, none⟩ (.slice ea en ec)).setCell ⟨N, 7, none⟩ (.slice qa qn qc)).setCell ⟨N, 8, none⟩ (.slice pa pn pc))) := HO
                  go_wp2_with fail
                  generalize ((((((((w7.setCell ⟨N, 0, none⟩ (.int .i64 mm.K)).setCell ⟨N, 1, none⟩ (.int .i64 mm.F)).setCell ⟨N, 2, none⟩ (.int .i64 mm.T)).setCell ⟨N, 3, none⟩ (.int .i64 mm.B)).setCell ⟨N, 4, none⟩ (.int .i64 mm.A)).setCell ⟨N, 5, none⟩ (.int .i64 mm.C)).setCell ⟨N, 6, none⟩ (.slice ea en ec)).setCell ⟨N, 7, none⟩ (.slice qa qn qc)).setCell ⟨N, 8, none⟩ (.slice pa pn pc) = w9 at HO ⊢
                  obtain ⟨hm9, hc9, hb9⟩ := HO.out
                  have y0 : w9.cell? ⟨N, 0, none⟩ = some (.int .i64 mm.K) := hm9.c0
                  have y1 : w9.cell? ⟨N, 1, none⟩ = some (.int .i64 mm.F) := hm9.c1
                  have y2 : w9.cell? ⟨N, 2, none⟩ = some (.int .i64 mm.T) := hm9.c2
                  have y3 : w9.cell? ⟨N, 3, none⟩ = some (.int .i64 mm.B) := hm9.c3
                  have y4 : w9.cell? ⟨N, 4, none⟩ = some (.int .i64 mm.A) := hm9.c4
                  have y5 : w9.cell? ⟨N, 5, none⟩ = some (.int .i64 mm.C) := hm9.c5
                  have y6 : w9.cell? ⟨N, 6, none⟩ = some (.slice ea en ec) := hm9.c6
                  have y7 : w9.cell? ⟨N, 7, none⟩ = some (.slice qa qn qc) := hm9.c7
                  have y8 : w9.cell? ⟨N, 8, none⟩ = some (.slice pa pn pc) := hm9.c8
                  have HBW : Hid (Below w.heap.size w w9) := by have k := hb9; rw [HN.out] at k; exact k
                  refine bodyPost_ret (v := .tuple #[.agg #[.int .i64 mm.K, .int .i64 mm.F, .int .i64 mm.T, .int .i64 mm.B, .int .i64 mm.A, .int .i64 mm.C, .slice ea en ec, .slice qa qn qc, .slice pa pn pc], .int .i64 0]) (by simp [results, Try.results15, go_sem, y0, y1, y2, y3, y4, y5, y6, y7, y8]) rfl ?_
                  have hlo : w.heap.size ≤ wr.heap.size := by have h1 := HSZ.out; have h2 := HN.out; omega
                  have hd9 : ∀ x, x = N → x < wr.heap.size := fun x hx => by have h1 := HSZ.out; omega
                  exact dgot_ok HD.out (own_baseC (own_ch HOE7.out hc9 hd9) hlo) (own_baseC (own_ch HOQ7.out hc9 hd9) hlo) (own_baseC (own_ch HOP7.out hc9 hd9) hlo) HBW.out
              · have HD : Hid (decS l = (zeroMs, 5)) := by show _ = _; rw [HDE2.out, HDB.out]; exact decT_tail (by rw [← HUN.out]; exact hl0)
                have hpos : decide ((0 : Int) < (un : Int)) = true := decide_eq_true (by omega)
                obtain ⟨rn, ra, rb, rc, hrx⟩ := HI6.out.rx
                have d0 := hrx.c0; have z0 := hrx.z 0
                have d1 := hrx.c1; have z1 := hrx.z 1
                have d2 := hrx.c2; have z2 := hrx.z 2
                have d3 := hrx.c3; have z3 := hrx.z 3
                have d4 := hrx.c4; have z4 := hrx.z 4
                have d5 := hrx.c5; have z5 := hrx.z 5
                have d6 := hrx.c6; have z6 := hrx.z 6
                have d7 := hrx.c7; have z7 := hrx.z 7
                have d8 := hrx.c8; have z8 := hrx.z 8
                clear hrx
                have HO := HI6.out.out0
                unfold setM at HO
                replace HO : Hid (MX (((((((((w6.setCell ⟨N, 0, none⟩ (.int .i64 0)).setCell ⟨N, 1, none⟩ (.int .i64 0)).setCell ⟨N, 2, none⟩ (.int .i64 0)).setCell ⟨N, 3, none⟩ (.int .i64 0)).setCell ⟨N, 4, none⟩ (.int .i64 0)).setCell ⟨N, 5, none⟩ (.int .i64 0)).setCell ⟨N, 6, none⟩ (.slice none 0 0)).setCell ⟨N, 7, none⟩ (.slice none 0 0)).setCell ⟨N, 8, none⟩ (.slice none 0 0)) N zeroMs (.slice none 0 0) (.slice none 0 0) (.slice none 0 0) ∧ Ch (fun x => x = N) w6 (((((((((w6.setCell ⟨N, 0, none⟩ (.int .i64 0)).setCell ⟨N, 1, none⟩ (.int .i64 0)).setCell ⟨N, 2, none⟩ (.int .i64 0)).setCell ⟨N, 3, none⟩ (.int .i64 0)).setCell ⟨N, 4, none⟩ (.int .i64 0)).setCell ⟨N, 5, none⟩ (.int .i64 0)).setCell ⟨N, 6, none⟩ (.slice none 0 0)).setCell ⟨N, 7, none⟩ (.slice none 0 0)).setCell ⟨N, 8, none⟩ (.slice none 0 0)) ∧ Below N w (((((((((w6.setCell ⟨N, 0, none⟩ (.int .i64 0)).setCell ⟨N, 1, none⟩ (.int .i64 0)).setCell ⟨N, 2, none⟩ (.int .i64 0)).setCell ⟨N, 3, none⟩ (.int .i64 0)).setCell ⟨N, 4, none⟩ (.int .i64 0)).setCell ⟨N, 5, none⟩ (.int .i64 0)).setCell ⟨N, 6, none⟩ (.slice none 0 0)).setCell ⟨N, 7, none⟩ (.slice none 0 0)).setCell ⟨N, 8, none⟩ (.slice none 0 0))) := HO
                go_wp2_with fail
                generalize ((((((((w6.setCell ⟨N, 0, none⟩ (.int .i64 0)).setCell ⟨N, 1, none⟩ (.int .i64 0)).setCell ⟨N, 2, none⟩ (.int .i64 0)).setCell ⟨N, 3, none⟩ (.int .i64 0)).setCell ⟨N, 4, none⟩ (.int .i64 0)).setCell ⟨N, 5, none⟩ (.int .i64 0)).setCell ⟨N, 6, none⟩ (.slice none 0 0)).setCell ⟨N, 7, none⟩ (.slice none 0 0)).setCell ⟨N, 8, none⟩ (.slice none 0 0) = w9 at HO ⊢
                obtain ⟨hm9, hc9, hb9⟩ := HO.out
                have y0 : w9.cell? ⟨N, 0, none⟩ = some (.int .i64 0) := hm9.c0
                have y1 : w9.cell? ⟨N, 1, none⟩ = some (.int .i64 0) := hm9.c1
                have y2 : w9.cell? ⟨N, 2, none⟩ = some (.int .i64 0) := hm9.c2
                have y3 : w9.cell? ⟨N, 3, none⟩ = some (.int .i64 0) := hm9.c3
                have y4 : w9.cell? ⟨N, 4, none⟩ = some (.int .i64 0) := hm9.c4
                have y5 : w9.cell? ⟨N, 5, none⟩ = some (.int .i64 0) := hm9.c5
                have y6 : w9.cell? ⟨N, 6, none⟩ = some (.slice none 0 0) := hm9.c6
                have y7 : w9.cell? ⟨N, 7, none⟩ = some (.slice none 0 0) := hm9.c7
                have y8 : w9.cell? ⟨N, 8, none⟩ = some (.slice none 0 0) := hm9.c8
                have HBW : Hid (Below w.heap.size w w9) := by have k := hb9; rw [HN.out] at k; exact k
                refine bodyPost_ret (v := .tuple #[.agg #[.int .i64 0, .int .i64 0, .int .i64 0, .int .i64 0, .int .i64 0, .int .i64 0, .slice none 0 0, .slice none 0 0, .slice none 0 0], .int .i64 5]) (by simp [results, Try.results15, go_sem, y0, y1, y2, y3, y4, y5, y6, y7, y8]) rfl ?_
                exact dgot_bad (er := 5) (HD.out) HBW.out
            · have HD : Hid (decS l = (zeroMs, er)) := by show _ = _; rw [HDE2.out]; unfold decT; rw [← her, if_pos h0]
              have hne : ((er : Int) != 0) = true := by rw [bne_iff_ne]; omega
              have HI5 : Hid (RX N w w5 hs (.slice ba bn bk) l4) := HI.out.keep hB5
              subst he
              clear hgood her hB5 HI f0 f1 f2 f3 h0
              go_upto_region 17 with fail
              generalize w5.alloc (Obj.cells #[.int .i64 mm.K, .int .i64 mm.F, .int .i64 mm.T, .int .i64 mm.B, .int .i64 mm.A, .int .i64 mm.C, .slice ea en ec, .slice qa qn qc, .slice pa pn pc] 26) = w6 at HP ⊢
              have HI6 : Hid (RX N w w6 hs (.slice ba bn bk) l4) := HI5.out.keep HP.out.2
              obtain ⟨rn, ra, rb, rc, hrx⟩ := HI6.out.rx
              have d0 := hrx.c0; have z0 := hrx.z 0
              have d1 := hrx.c1; have z1 := hrx.z 1
              have d2 := hrx.c2; have z2 := hrx.z 2
              have d3 := hrx.c3; have z3 := hrx.z 3
              have d4 := hrx.c4; have z4 := hrx.z 4
              have d5 := hrx.c5; have z5 := hrx.z 5
              have d6 := hrx.c6; have z6 := hrx.z 6
              have d7 := hrx.c7; have z7 := hrx.z 7
              have d8 := hrx.c8; have z8 := hrx.z 8
              clear hrx
              have HO := HI6.out.out0
              unfold setM at HO
              replace HO : Hid (MX (((((((((w6.setCell ⟨N, 0, none⟩ (.int .i64 0)).setCell ⟨N, 1, none⟩ (.int .i64 0)).setCell ⟨N, 2, none⟩ (.int .i64 0)).setCell ⟨N, 3, none⟩ (.int .i64 0)).setCell ⟨N, 4, none⟩ (.int .i64 0)).setCell ⟨N, 5, none⟩ (.int .i64 0)).setCell ⟨N, 6, none⟩ (.slice none 0 0)).setCell ⟨N, 7, none⟩ (.slice none 0 0)).setCell ⟨N, 8, none⟩ (.slice none 0 0)) N zeroMs (.slice none 0 0) (.slice none 0 0) (.slice none 0 0) ∧ Ch (fun x => x = N) w6 (((((((((w6.setCell ⟨N, 0, none⟩ (.int .i64 0)).setCell ⟨N, 1, none⟩ (.int .i64 0)).setCell ⟨N, 2, none⟩ (.int .i64 0)).setCell ⟨N, 3, none⟩ (.int .i64 0)).setCell ⟨N, 4, none⟩ (.int .i64 0)).setCell ⟨N, 5, none⟩ (.int .i64 0)).setCell ⟨N, 6, none⟩ (.slice none 0 0)).setCell ⟨N, 7, none⟩ (.slice none 0 0)).setCell ⟨N, 8, none⟩ (.slice none 0 0)) ∧ Below N w (((((((((w6.setCell ⟨N, 0, none⟩ (.int .i64 0)).setCell ⟨N, 1, none⟩ (.int .i64 0)).setCell ⟨N, 2, none⟩ (.int .i64 0)).setCell ⟨N, 3, none⟩ (.int .i64 0)).setCell ⟨N, 4, none⟩ (.int .i64 0)).setCell ⟨N, 5, none⟩ (.int .i64 0)).setCell ⟨N, 6, none⟩ (.slice none 0 0)).setCell ⟨N, 7, none⟩ (.slice none 0 0)).setCell ⟨N, 8, none⟩ (.slice none 0 0))) := HO
              go_wp2_with fail
              generalize ((((((((w6.setCell ⟨N, 0, none⟩ (.int .i64 0)).setCell ⟨N, 1, none⟩ (.int .i64 0)).setCell ⟨N, 2, none⟩ (.int .i64 0)).setCell ⟨N, 3, none⟩ (.int .i64 0)).setCell ⟨N, 4, none⟩ (.int .i64 0)).setCell ⟨N, 5, none⟩ (.int .i64 0)).setCell ⟨N, 6, none⟩ (.slice none 0 0)).setCell ⟨N, 7, none⟩ (.slice none 0 0)).setCell ⟨N, 8, none⟩ (.slice none 0 0) = w9 at HO ⊢
              obtain ⟨hm9, hc9, hb9⟩ := HO.out
              have y0 : w9.cell? ⟨N, 0, none⟩ = some (.int .i64 0) := hm9.c0
              have y1 : w9.cell? ⟨N, 1, none⟩ = some (.int .i64 0) := hm9.c1
              have y2 : w9.cell? ⟨N, 2, none⟩ = some (.int .i64 0) := hm9.c2
              have y3 : w9.cell? ⟨N, 3, none⟩ = some (.int .i64 0) := hm9.c3
              have y4 : w9.cell? ⟨N, 4, none⟩ = some (.int .i64 0) := hm9.c4
              have y5 : w9.cell? ⟨N, 5, none⟩ = some (.int .i64 0) := hm9.c5
              have y6 : w9.cell? ⟨N, 6, none⟩ = some (.slice none 0 0) := hm9.c6
              have y7 : w9.cell? ⟨N, 7, none⟩ = some (.slice none 0 0) := hm9.c7
              have y8 : w9.cell? ⟨N, 8, none⟩ = some (.slice none 0 0) := hm9.c8
              have HBW : Hid (Below w.heap.size w w9) := by have k := hb9; rw [HN.out] at k; exact k
              refine bodyPost_ret (v := .tuple #[.agg #[.int .i64 0, .int .i64 0, .int .i64 0, .int .i64 0, .int .i64 0, .int .i64 0, .slice none 0 0, .slice none 0 0, .slice none 0 0], .int .i64 (er : Int)]) (by simp [results, Try.results15, go_sem, y0, y1, y2, y3, y4, y5, y6, y7, y8]) rfl ?_
              exact dgot_bad (er := er) (HD.out) HBW.out
      · have HU : Hid (Bv w (.slice (some ⟨bb, off + n, none⟩) (l.length - n) (bc - n)) (l.drop n)) := by have k := q2 hcp; show Bv _ _ _; simpa [WideShapes.add_plain] using k
        have hcn : ¬ (bc : Int) = (n : Int) := by omega
        have HI : Hid (RX w.heap.size w ((w.alloc (Obj.cells #[.int .i64 0, .int .i64 0, .int .i64 0, .int .i64 0, .int .i64 0, .int .i64 0, .slice none 0 0, .slice none 0 0, .slice none 0 0] 26)).alloc (Obj.cells #[.int .i64 0, .int .i64 0, .int .i64 0, .int .i64 0] 63)) (fun _ => 0) (.slice (some ⟨bb, off + n, none⟩) (l.length - n) (bc - n)) (l.drop n)) := rx_new hv HU.out (fun z hz => by simpa [Value.ownBlock] using hz) drop_ne
        rw [← hN] at HI
        clear ht hv hn1 hn2 hn3 hy hlc hmx q1 q2 hK hk
        go_enter Try.func15, Try.ntmps15
        go_upto_region 1 with fail
        rw [← hN] at H1 ⊢
        clear hN
        go_wp2_with fail
        refine (rtake_walk HV1.out).mono ?_
        rw [HT.out]
        rintro e9 w4 ⟨rfl, hw4⟩
        replace hw4 := hw4.symm
        subst hw4
        go_upto_region 8 with fail
        simp only [← HN.out]
        generalize (w.alloc (Obj.cells #[.int .i64 0, .int .i64 0, .int .i64 0, .int .i64 0, .int .i64 0, .int .i64 0, .slice none 0 0, .slice none 0 0, .slice none 0 0] 26)).alloc (Obj.cells #[.int .i64 0, .int .i64 0, .int .i64 0, .int .i64 0] 63) = w2 at HI ⊢
        clear H1 HV1 HU HV hki hkj hci hli hnl hnc hcn
        go_wp2_with fail
        go_loopw [0, 8] (fun bv iv wr => ∃ (i : Nat) (hs : Nat → Nat) (l4 : List Nat), iv = .int .i64 i ∧ i ≤ 4 ∧ decS l = decI y hs (4 - i) l4 ∧ (∀ c ∈ l4, c < 256) ∧ RX N w wr hs bv l4) (fun _ iv _ => 4 - (intOf iv).toNat)
        case atStart => exact ⟨0, _, _, rfl, by omega, HD0.out, HLN.out, HI.out⟩
        case round =>
          clear HI HLN HD0
          obtain ⟨i, hs, l4, rfl, hi4, hde, hlb, hrx⟩ := hrel
          have HDE : Hid (decS l = decI y hs (4 - i) l4) := hde
          have HL4 : Hid (∀ c ∈ l4, c < 256) := hlb
          obtain ⟨ba, bn, bk, hub⟩ := bv_any hrx.bv
          subst hub
          have HI : Hid (RX N w wr hs (.slice ba bn bk) l4) := hrx
          clear hde hlb hrx
          by_cases hlt : i < 4
          · have hlti : (i : Int) < 4 := by omega
            have HDE2 : Hid (decS l = if (cntL l4).1 ≠ 0 then (zeroMs, (cntL l4).1) else decI y (upd hs i (cntL l4).2.1) (4 - (i + 1)) (cntL l4).2.2) := by show _ = _; rw [HDE.out, show 4 - i = (3 - i) + 1 by omega, decI, show 3 - (3 - i) = i by omega, show 4 - (i + 1) = 3 - i by omega]
            clear HDE
            go_wp2_with fail
            refine (rsmall_walk HI.out.bv).mono ?_
            rintro e9 w3 ⟨u3, he, hu3, hs3, hB3⟩
            obtain ⟨ua, un, uc, hu9⟩ := bv_any hu3
            subst hu9
            obtain ⟨er, her⟩ : ∃ x, x = (cntL l4).1 := ⟨_, rfl⟩
            obtain ⟨x, hxe⟩ : ∃ x, x = (cntL l4).2.1 := ⟨_, rfl⟩
            obtain ⟨l5, hl5⟩ : ∃ x, x = (cntL l4).2.2 := ⟨_, rfl⟩
            rw [← her, ← hxe] at he
            rw [← hl5] at hu3
            rw [← her, ← hxe, ← hl5] at HDE2
            by_cases h0 : er = 0
            · have HI3 : Hid (RX N w w3 hs (.slice ua un uc) l5) := HI.out.cut hB3 hu3 hs3 (by rw [hl5]; exact cnt_ne)
              have HDN : Hid (decS l = decI y (upd hs i x) (4 - (i + 1)) l5) := by show _ = _; rw [HDE2.out, if_neg (by simpa using h0)]
              have HL5 : Hid (∀ c ∈ l5, c < 256) := fun c hc => HL4.out c (by rw [(cnt_back HL4.out (her.symm.trans h0)).1, ← hl5]; simp [hc])
              subst h0
              subst he
              clear hu3 hs3 hB3 her hxe hl5 HDE2 HI HL4
              have ci := HI3.out.hd i hlt; have zi := HI3.out.hz i
              have HI4 : Hid _ := HI3.out.set hlt x
              go_wp2_with fail
              go_roundw
              case rel => exact ⟨i + 1, upd hs i x, l5, by simp, by omega, HDN.out, HL5.out, HI4.out⟩
              case measure => simp [intOf]; omega
            · have HI3 : Hid (RX N w w3 hs (.slice ua un uc) l5) := HI.out.cut hB3 hu3 hs3 (by rw [hl5]; exact cnt_ne)
              have HD : Hid (decS l = (zeroMs, er)) := by show _ = _; rw [HDE2.out, if_pos h0]
              have hne : ((er : Int) != 0) = true := by rw [bne_iff_ne]; omega
              subst he
              clear hu3 hs3 hB3 her hxe hl5 HDE2 HI HL4 h0
              obtain ⟨rn, ra, rb, rc, hrx⟩ := HI3.out.rx
              have d0 := hrx.c0; have z0 := hrx.z 0
              have d1 := hrx.c1; have z1 := hrx.z 1
              have d2 := hrx.c2; have z2 := hrx.z 2
              have d3 := hrx.c3; have z3 := hrx.z 3
              have d4 := hrx.c4; have z4 := hrx.z 4
              have d5 := hrx.c5; have z5 := hrx.z 5
              have d6 := hrx.c6; have z6 := hrx.z 6
              have d7 := hrx.c7; have z7 := hrx.z 7
              have d8 := hrx.c8; have z8 := hrx.z 8
              clear hrx
              have HO := HI3.out.out0
              unfold setM at HO
              replace HO : Hid (MX (((((((((w3.setCell ⟨N, 0, none⟩ (.int .i64 0)).setCell ⟨N, 1, none⟩ (.int .i64 0)).setCell ⟨N, 2, none⟩ (.int .i64 0)).setCell ⟨N, 3, none⟩ (.int .i64 0)).setCell ⟨N, 4, none⟩ (.int .i64 0)).setCell ⟨N, 5, none⟩ (.int .i64 0)).setCell ⟨N, 6, none⟩ (.slice none 0 0)).setCell ⟨N, 7, none⟩ (.slice none 0 0)).setCell ⟨N, 8, none⟩ (.slice none 0 0)) N zeroMs (.slice none 0 0) (.slice none 0 0) (.slice none 0 0) ∧ Ch (fun x => x = N) w3 (((((((((w3.setCell ⟨N, 0, none⟩ (.int .i64 0)).setCell ⟨N, 1, none⟩ (.int .i64 0)).setCell ⟨N, 2, none⟩ (.int .i64 0)).setCell ⟨N, 3, none⟩ (.int .i64 0)).setCell ⟨N, 4, none⟩ (.int .i64 0)).setCell ⟨N, 5, none⟩ (.int .i64 0)).setCell ⟨N, 6, none⟩ (.slice none 0 0)).setCell ⟨N, 7, none⟩ (.slice none 0 0)).setCell ⟨N, 8, none⟩ (.slice none 0 0)) ∧ Below N w (((((((((w3.setCell ⟨N, 0, none⟩ (.int .i64 0)).setCell ⟨N, 1, none⟩ (.int .i64 0)).setCell ⟨N, 2, none⟩ (.int .i64 0)).setCell ⟨N, 3, none⟩ (.int .i64 0)).setCell ⟨N, 4, none⟩ (.int .i64 0)).setCell ⟨N, 5, none⟩ (.int .i64 0)).setCell ⟨N, 6, none⟩ (.slice none 0 0)).setCell ⟨N, 7, none⟩ (.slice none 0 0)).setCell ⟨N, 8, none⟩ (.slice none 0 0))) := HO
              go_wp2_with fail
              generalize ((((((((w3.setCell ⟨N, 0, none⟩ (.int .i64 0)).setCell ⟨N, 1, none⟩ (.int .i64 0)).setCell ⟨N, 2, none⟩ (.int .i64 0)).setCell ⟨N, 3, none⟩ (.int .i64 0)).setCell ⟨N, 4, none⟩ (.int .i64 0)).setCell ⟨N, 5, none⟩ (.int .i64 0)).setCell ⟨N, 6, none⟩ (.slice none 0 0)).setCell ⟨N, 7, none⟩ (.slice none 0 0)).setCell ⟨N, 8, none⟩ (.slice none 0 0) = w9 at HO ⊢
              obtain ⟨hm9, hc9, hb9⟩ := HO.out
              have y0 : w9.cell? ⟨N, 0, none⟩ = some (.int .i64 0) := hm9.c0
              have y1 : w9.cell? ⟨N, 1, none⟩ = some (.int .i64 0) := hm9.c1
              have y2 : w9.cell? ⟨N, 2, none⟩ = some (.int .i64 0) := hm9.c2
              have y3 : w9.cell? ⟨N, 3, none⟩ = some (.int .i64 0) := hm9.c3
              have y4 : w9.cell? ⟨N, 4, none⟩ = some (.int .i64 0) := hm9.c4
              have y5 : w9.cell? ⟨N, 5, none⟩ = some (.int .i64 0) := hm9.c5
              have y6 : w9.cell? ⟨N, 6, none⟩ = some (.slice none 0 0) := hm9.c6
              have y7 : w9.cell? ⟨N, 7, none⟩ = some (.slice none 0 0) := hm9.c7
              have y8 : w9.cell? ⟨N, 8, none⟩ = some (.slice none 0 0) := hm9.c8
              have HBW : Hid (Below w.heap.size w w9) := by have k := hb9; rw [HN.out] at k; exact k
              refine bodyPost_ret (v := .tuple #[.agg #[.int .i64 0, .int .i64 0, .int .i64 0, .int .i64 0, .int .i64 0, .int .i64 0, .slice none 0 0, .slice none 0 0, .slice none 0 0], .int .i64 (er : Int)]) (by simp [results, Try.results15, go_sem, y0, y1, y2, y3, y4, y5, y6, y7, y8]) rfl ?_
              exact dgot_bad (er := er) (HD.out) HBW.out
          · have hlti : ¬ (i : Int) < 4 := by omega
            obtain rfl : i = 4 := by omega
            obtain ⟨F, hF⟩ : ∃ x, x = hs 0 := ⟨_, rfl⟩
            obtain ⟨T, hT⟩ : ∃ x, x = hs 1 := ⟨_, rfl⟩
            obtain ⟨B, hB⟩ : ∃ x, x = hs 2 := ⟨_, rfl⟩
            obtain ⟨A, hA⟩ : ∃ x, x = hs 3 := ⟨_, rfl⟩
            have HDE2 : Hid (decS l = decT (bodL ⟨y, F, T, B, A⟩ l4)) := by show _ = _; rw [HDE.out, hF, hT, hB, hA]; rfl
            have f0 := HI.out.hd 0 (by decide); have f1 := HI.out.hd 1 (by decide); have f2 := HI.out.hd 2 (by decide); have f3 := HI.out.hd 3 (by decide)
            rw [← hF] at f0; rw [← hT] at f1; rw [← hB] at f2; rw [← hA] at f3
            clear HDE hF hT hB hA
            go_wp2_with fail
            refine (body_walk HI.out.bv ⟨y, F, T, B, A⟩ HK.out).mono ?_
            rintro e9 w5 ⟨mm, ev, qv, pv, u5, he, ⟨⟨ea, en, ec, hev⟩, ⟨qa, qn, qc, hqv⟩, ⟨pa, pn, pc, hpv⟩⟩, hB5, hgood⟩
            obtain ⟨er, her⟩ : ∃ x, x = (bodL ⟨y, F, T, B, A⟩ l4).1 := ⟨_, rfl⟩
            rw [← her] at he hgood
            subst hev; subst hqv; subst hpv
            have HP : Hid (MX (w5.alloc (Obj.cells #[.int .i64 mm.K, .int .i64 mm.F, .int .i64 mm.T, .int .i64 mm.B, .int .i64 mm.A, .int .i64 mm.C, .slice ea en ec, .slice qa qn qc, .slice pa pn pc] 26)) w5.heap.size mm (.slice ea en ec) (.slice qa qn qc) (.slice pa pn pc) ∧ Below w5.heap.size w5 (w5.alloc (Obj.cells #[.int .i64 mm.K, .int .i64 mm.F, .int .i64 mm.T, .int .i64 mm.B, .int .i64 mm.A, .int .i64 mm.C, .slice ea en ec, .slice qa qn qc, .slice pa pn pc] 26))) := ⟨mx_new w5 mm _ _ _, below_alloc _ _⟩
            by_cases h0 : er = 0
            · obtain ⟨hmm, hoe, hoq, hop, hbu, hbm5⟩ := hgood h0
              obtain ⟨l6, hl6⟩ : ∃ x, x = (bodL ⟨y, F, T, B, A⟩ l4).2.2 := ⟨_, rfl⟩
              have HPT : Hid (okT mm.P) := by rw [hmm]; exact bod_okT HK.out HL4.out
              have HDB : Hid (bodL ⟨y, F, T, B, A⟩ l4 = (0, mm, l6)) := by show _ = _; rw [hmm, hl6, ← h0, her]
              rw [← hmm] at hoe hoq hop
              rw [← hl6] at hbu hbm5
              have HOE : Hid (w5.ownsRow wr.heap.size 3 1 (.slice ea en ec) mm.E.length (mm.E.map (Value.int .i64))) := hoe
              have HOQ : Hid (w5.ownsRow wr.heap.size 38 1 (.slice qa qn qc) mm.Q.length ((ib mm.Q).map (Value.int .u64))) := hoq
              have HOP : Hid (w5.ownsRow wr.heap.size 42 3 (.slice pa pn pc) mm.P.length (flatQ mm.P)) := hop
              have HBU : Hid (Bv w5 u5 l6) := hbu
              obtain ⟨ua, un, uc, hu9⟩ := bv_any hbu
              subst hu9
              have HUN : Hid (un = l6.length) := (bv_le hbu).1
              have HI5 : Hid (RX N w w5 hs (.slice ba bn bk) l4) := HI.out.keep hB5
              have HSZ : Hid (N + 2 ≤ wr.heap.size) := HI.out.sz
              subst h0
              subst he
              clear hmm hoe hoq hop hbu hbm5 hgood her hl6 hB5 HI f0 f1 f2 f3
              go_upto_region 17 with fail
              generalize w5.alloc (Obj.cells #[.int .i64 mm.K, .int .i64 mm.F, .int .i64 mm.T, .int .i64 mm.B, .int .i64 mm.A, .int .i64 mm.C, .slice ea en ec, .slice qa qn qc, .slice pa pn pc] 26) = w6 at HP ⊢
              obtain ⟨P, hP⟩ : ∃ P, P = w5.heap.size := ⟨_, rfl⟩
              have HPB : Hid (Below w5.heap.size w5 w6) := HP.out.2
              rw [← hP] at HP ⊢
              have HX6 : Hid (MX w6 P mm (.slice ea en ec) (.slice qa qn qc) (.slice pa pn pc)) := HP.out.1
              have HI6 : Hid (RX N w w6 hs (.slice ba bn bk) l4) := HI5.out.keep HPB.out
              have HOE6 : Hid _ := own_belowC HOE.out HPB.out
              have HOQ6 : Hid _ := own_belowC HOQ.out HPB.out
              have HOP6 : Hid _ := own_belowC HOP.out HPB.out
              have HML : Hid (ML w6 mm (.slice ea en ec) (.slice qa qn qc) (.slice pa pn pc)) := ⟨own_sv HOE6.out, own_sv HOQ6.out, own_qv HOP6.out HPT.out⟩
              clear HOE HOQ HOP HBU HP HPB hP HI5
              by_cases hl0 : un = 0
              · have HLZ : Hid (l6.length = 0) := by show _ = _; rw [← HUN.out]; exact hl0
                subst hl0
                have c0 := HX6.out.c0; have c1 := HX6.out.c1; have c2 := HX6.out.c2; have c3 := HX6.out.c3; have c4 := HX6.out.c4; have c5 := HX6.out.c5; have c6 := HX6.out.c6; have c7 := HX6.out.c7; have c8 := HX6.out.c8
                go_wp2_with fail
                refine (rmsound_walk HML.out).mono ?_
                rintro e9 w7 ⟨rfl, hB7⟩
                have HX7 : Hid _ := HX6.out.keep hB7
                have HI7 : Hid _ := HI6.out.keep hB7
                have HOE7 : Hid _ := own_belowC HOE6.out hB7
                have HOQ7 : Hid _ := own_belowC HOQ6.out hB7
                have HOP7 : Hid _ := own_belowC HOP6.out hB7
                clear hB7 HX6 HI6 HOE6 HOQ6 HOP6 HML c0 c1 c2 c3 c4 c5 c6 c7 c8
                cases hsn : sndM mm
                · have HD : Hid (decS l = (zeroMs, 150)) := by show _ = _; rw [HDE2.out, HDB.out]; exact decT_none HLZ.out hsn
                  clear hsn
                  obtain ⟨rn, ra, rb, rc, hrx⟩ := HI7.out.rx
                  have d0 := hrx.c0; have z0 := hrx.z 0
                  have d1 := hrx.c1; have z1 := hrx.z 1
                  have d2 := hrx.c2; have z2 := hrx.z 2
                  have d3 := hrx.c3; have z3 := hrx.z 3
                  have d4 := hrx.c4; have z4 := hrx.z 4
                  have d5 := hrx.c5; have z5 := hrx.z 5
                  have d6 := hrx.c6; have z6 := hrx.z 6
                  have d7 := hrx.c7; have z7 := hrx.z 7
                  have d8 := hrx.c8; have z8 := hrx.z 8
                  clear hrx
                  have HO := HI7.out.out0
                  unfold setM at HO
                  replace HO : Hid (MX (((((((((w7.setCell ⟨N, 0, none⟩ (.int .i64 0)).setCell ⟨N, 1, none⟩ (.int .i64 0)).setCell ⟨N, 2, none⟩ (.int .i64 0)).setCell ⟨N, 3, none⟩ (.int .i64 0)).setCell ⟨N, 4, none⟩ (.int .i64 0)).setCell ⟨N, 5, none⟩ (.int .i64 0)).setCell ⟨N, 6, none⟩ (.slice none 0 0)).setCell ⟨N, 7, none⟩ (.slice none 0 0)).setCell ⟨N, 8, none⟩ (.slice none 0 0)) N zeroMs (.slice none 0 0) (.slice none 0 0) (.slice none 0 0) ∧ Ch (fun x => x = N) w7 (((((((((w7.setCell ⟨N, 0, none⟩ (.int .i64 0)).setCell ⟨N, 1, none⟩ (.int .i64 0)).setCell ⟨N, 2, none⟩ (.int .i64 0)).setCell ⟨N, 3, none⟩ (.int .i64 0)).setCell ⟨N, 4, none⟩ (.int .i64 0)).setCell ⟨N, 5, none⟩ (.int .i64 0)).setCell ⟨N, 6, none⟩ (.slice none 0 0)).setCell ⟨N, 7, none⟩ (.slice none 0 0)).setCell ⟨N, 8, none⟩ (.slice none 0 0)) ∧ Below N w (((((((((w7.setCell ⟨N, 0, none⟩ (.int .i64 0)).setCell ⟨N, 1, none⟩ (.int .i64 0)).setCell ⟨N, 2, none⟩ (.int .i64 0)).setCell ⟨N, 3, none⟩ (.int .i64 0)).setCell ⟨N, 4, none⟩ (.int .i64 0)).setCell ⟨N, 5, none⟩ (.int .i64 0)).setCell ⟨N, 6, none⟩ (.slice none 0 0)).setCell ⟨N, 7, none⟩ (.slice none 0 0)).setCell ⟨N, 8, none⟩ (.slice none 0 0))) := HO
                  go_wp2_with fail
                  generalize ((((((((w7.setCell ⟨N, 0, none⟩ (.int .i64 0)).setCell ⟨N, 1, none⟩ (.int .i64 0)).setCell ⟨N, 2, none⟩ (.int .i64 0)).setCell ⟨N, 3, none⟩ (.int .i64 0)).setCell ⟨N, 4, none⟩ (.int .i64 0)).setCell ⟨N, 5, none⟩ (.int .i64 0)).setCell ⟨N, 6, none⟩ (.slice none 0 0)).setCell ⟨N, 7, none⟩ (.slice none 0 0)).setCell ⟨N, 8, none⟩ (.slice none 0 0) = w9 at HO ⊢
                  obtain ⟨hm9, hc9, hb9⟩ := HO.out
                  have y0 : w9.cell? ⟨N, 0, none⟩ = some (.int .i64 0) := hm9.c0
                  have y1 : w9.cell? ⟨N, 1, none⟩ = some (.int .i64 0) := hm9.c1
                  have y2 : w9.cell? ⟨N, 2, none⟩ = some (.int .i64 0) := hm9.c2
                  have y3 : w9.cell? ⟨N, 3, none⟩ = some (.int .i64 0) := hm9.c3
                  have y4 : w9.cell? ⟨N, 4, none⟩ = some (.int .i64 0) := hm9.c4
                  have y5 : w9.cell? ⟨N, 5, none⟩ = some (.int .i64 0) := hm9.c5
                  have y6 : w9.cell? ⟨N, 6, none⟩ = some (.slice none 0 0) := hm9.c6
                  have y7 : w9.cell? ⟨N, 7, none⟩ = some (.slice none 0 0) := hm9.c7
                  have y8 : w9.cell? ⟨N, 8, none⟩ = some (.slice none 0 0) := hm9.c8
                  have HBW : Hid (Below w.heap.size w w9) := by have k := hb9; rw [HN.out] at k; exact k
                  refine bodyPost_ret (v := .tuple #[.agg #[.int .i64 0, .int .i64 0, .int .i64 0, .int .i64 0, .int .i64 0, .int .i64 0, .slice none 0 0, .slice none 0 0, .slice none 0 0], .int .i64 150]) (by simp [results, Try.results15, go_sem, y0, y1, y2, y3, y4, y5, y6, y7, y8]) rfl ?_
                  exact dgot_bad (er := 150) (HD.out) HBW.out
                · have HD : Hid (decS l = (mm, 0)) := by show _ = _; rw [HDE2.out, HDB.out]; exact decT_ok HLZ.out hsn
                  clear hsn
                  have c0 := HX7.out.c0; have c1 := HX7.out.c1; have c2 := HX7.out.c2; have c3 := HX7.out.c3; have c4 := HX7.out.c4; have c5 := HX7.out.c5; have c6 := HX7.out.c6; have c7 := HX7.out.c7; have c8 := HX7.out.c8
                  obtain ⟨rn, ra, rb, rc, hrx⟩ := HI7.out.rx
                  have d0 := hrx.c0; have z0 := hrx.z 0
                  have d1 := hrx.c1; have z1 := hrx.z 1
                  have d2 := hrx.c2; have z2 := hrx.z 2
                  have d3 := hrx.c3; have z3 := hrx.z 3
                  have d4 := hrx.c4; have z4 := hrx.z 4
                  have d5 := hrx.c5; have z5 := hrx.z 5
                  have d6 := hrx.c6; have z6 := hrx.z 6
                  have d7 := hrx.c7; have z7 := hrx.z 7
                  have d8 := hrx.c8; have z8 := hrx.z 8
                  clear hrx
                  have HO := HI7.out.out mm (.slice ea en ec) (.slice qa qn qc) (.slice pa pn pc)
                  unfold setM at HO
                  replace HO : Hid (MX (((((((((w7.setCell ⟨N, 0, none⟩ (.int .i64 mm.K)).setCell ⟨N, 1, none⟩ (.int .i64 mm.F)).setCell ⟨N, 2, none⟩ (.int .i64 mm.T)).setCell ⟨N, 3, none⟩ (.int .i64 mm.B)).setCell ⟨N, 4, none⟩ (.int .i64 mm.A)).setCell ⟨N, 5, none⟩ (.int .i64 mm.C)).setCell ⟨N, 6, none⟩ (.slice ea en ec)).setCell ⟨N, 7, none⟩ (.slice qa qn qc)).setCell ⟨N, 8, none⟩ (.slice pa pn pc)) N mm (.slice ea en ec) (.slice qa qn qc) (.slice pa pn pc) ∧ Ch (fun x => x = N) w7 (((((((((w7.setCell ⟨N, 0, none⟩ (.int .i64 mm.K)).setCell ⟨N, 1, none⟩ (.int .i64 mm.F)).setCell ⟨N, 2, none⟩ (.int .i64 mm.T)).setCell ⟨N, 3, none⟩ (.int .i64 mm.B)).setCell ⟨N, 4, none⟩ (.int .i64 mm.A)).setCell ⟨N, 5, none⟩ (.int .i64 mm.C)).setCell ⟨N, 6, none⟩ (.slice ea en ec)).setCell ⟨N, 7, none⟩ (.slice qa qn qc)).setCell ⟨N, 8, none⟩ (.slice pa pn pc)) ∧ Below N w (((((((((w7.setCell ⟨N, 0, none⟩ (.int .i64 mm.K)).setCell ⟨N, 1, none⟩ (.int .i64 mm.F)).setCell ⟨N, 2, none⟩ (.int .i64 mm.T)).setCell ⟨N, 3, none⟩ (.int .i64 mm.B)).setCell ⟨N, 4, none⟩ (.int .i64 mm.A)).setCell ⟨N, 5, none⟩ (.int .i64 mm.C)).setCell ⟨N, 6, none⟩ (.slice ea en ec)).setCell ⟨N, 7, none⟩ (.slice qa qn qc)).setCell ⟨N, 8, none⟩ (.slice pa pn pc))) := HO
                  go_wp2_with fail
                  generalize ((((((((w7.setCell ⟨N, 0, none⟩ (.int .i64 mm.K)).setCell ⟨N, 1, none⟩ (.int .i64 mm.F)).setCell ⟨N, 2, none⟩ (.int .i64 mm.T)).setCell ⟨N, 3, none⟩ (.int .i64 mm.B)).setCell ⟨N, 4, none⟩ (.int .i64 mm.A)).setCell ⟨N, 5, none⟩ (.int .i64 mm.C)).setCell ⟨N, 6, none⟩ (.slice ea en ec)).setCell ⟨N, 7, none⟩ (.slice qa qn qc)).setCell ⟨N, 8, none⟩ (.slice pa pn pc) = w9 at HO ⊢
                  obtain ⟨hm9, hc9, hb9⟩ := HO.out
                  have y0 : w9.cell? ⟨N, 0, none⟩ = some (.int .i64 mm.K) := hm9.c0
                  have y1 : w9.cell? ⟨N, 1, none⟩ = some (.int .i64 mm.F) := hm9.c1
                  have y2 : w9.cell? ⟨N, 2, none⟩ = some (.int .i64 mm.T) := hm9.c2
                  have y3 : w9.cell? ⟨N, 3, none⟩ = some (.int .i64 mm.B) := hm9.c3
                  have y4 : w9.cell? ⟨N, 4, none⟩ = some (.int .i64 mm.A) := hm9.c4
                  have y5 : w9.cell? ⟨N, 5, none⟩ = some (.int .i64 mm.C) := hm9.c5
                  have y6 : w9.cell? ⟨N, 6, none⟩ = some (.slice ea en ec) := hm9.c6
                  have y7 : w9.cell? ⟨N, 7, none⟩ = some (.slice qa qn qc) := hm9.c7
                  have y8 : w9.cell? ⟨N, 8, none⟩ = some (.slice pa pn pc) := hm9.c8
                  have HBW : Hid (Below w.heap.size w w9) := by have k := hb9; rw [HN.out] at k; exact k
                  refine bodyPost_ret (v := .tuple #[.agg #[.int .i64 mm.K, .int .i64 mm.F, .int .i64 mm.T, .int .i64 mm.B, .int .i64 mm.A, .int .i64 mm.C, .slice ea en ec, .slice qa qn qc, .slice pa pn pc], .int .i64 0]) (by simp [results, Try.results15, go_sem, y0, y1, y2, y3, y4, y5, y6, y7, y8]) rfl ?_
                  have hlo : w.heap.size ≤ wr.heap.size := by have h1 := HSZ.out; have h2 := HN.out; omega
                  have hd9 : ∀ x, x = N → x < wr.heap.size := fun x hx => by have h1 := HSZ.out; omega
                  exact dgot_ok HD.out (own_baseC (own_ch HOE7.out hc9 hd9) hlo) (own_baseC (own_ch HOQ7.out hc9 hd9) hlo) (own_baseC (own_ch HOP7.out hc9 hd9) hlo) HBW.out
              · have HD : Hid (decS l = (zeroMs, 5)) := by show _ = _; rw [HDE2.out, HDB.out]; exact decT_tail (by rw [← HUN.out]; exact hl0)
                have hpos : decide ((0 : Int) < (un : Int)) = true := decide_eq_true (by omega)
                obtain ⟨rn, ra, rb, rc, hrx⟩ := HI6.out.rx
                have d0 := hrx.c0; have z0 := hrx.z 0
                have d1 := hrx.c1; have z1 := hrx.z 1
                have d2 := hrx.c2; have z2 := hrx.z 2
                have d3 := hrx.c3; have z3 := hrx.z 3
                have d4 := hrx.c4; have z4 := hrx.z 4
                have d5 := hrx.c5; have z5 := hrx.z 5
                have d6 := hrx.c6; have z6 := hrx.z 6
                have d7 := hrx.c7; have z7 := hrx.z 7
                have d8 := hrx.c8; have z8 := hrx.z 8
                clear hrx
                have HO := HI6.out.out0
                unfold setM at HO
                replace HO : Hid (MX (((((((((w6.setCell ⟨N, 0, none⟩ (.int .i64 0)).setCell ⟨N, 1, none⟩ (.int .i64 0)).setCell ⟨N, 2, none⟩ (.int .i64 0)).setCell ⟨N, 3, none⟩ (.int .i64 0)).setCell ⟨N, 4, none⟩ (.int .i64 0)).setCell ⟨N, 5, none⟩ (.int .i64 0)).setCell ⟨N, 6, none⟩ (.slice none 0 0)).setCell ⟨N, 7, none⟩ (.slice none 0 0)).setCell ⟨N, 8, none⟩ (.slice none 0 0)) N zeroMs (.slice none 0 0) (.slice none 0 0) (.slice none 0 0) ∧ Ch (fun x => x = N) w6 (((((((((w6.setCell ⟨N, 0, none⟩ (.int .i64 0)).setCell ⟨N, 1, none⟩ (.int .i64 0)).setCell ⟨N, 2, none⟩ (.int .i64 0)).setCell ⟨N, 3, none⟩ (.int .i64 0)).setCell ⟨N, 4, none⟩ (.int .i64 0)).setCell ⟨N, 5, none⟩ (.int .i64 0)).setCell ⟨N, 6, none⟩ (.slice none 0 0)).setCell ⟨N, 7, none⟩ (.slice none 0 0)).setCell ⟨N, 8, none⟩ (.slice none 0 0)) ∧ Below N w (((((((((w6.setCell ⟨N, 0, none⟩ (.int .i64 0)).setCell ⟨N, 1, none⟩ (.int .i64 0)).setCell ⟨N, 2, none⟩ (.int .i64 0)).setCell ⟨N, 3, none⟩ (.int .i64 0)).setCell ⟨N, 4, none⟩ (.int .i64 0)).setCell ⟨N, 5, none⟩ (.int .i64 0)).setCell ⟨N, 6, none⟩ (.slice none 0 0)).setCell ⟨N, 7, none⟩ (.slice none 0 0)).setCell ⟨N, 8, none⟩ (.slice none 0 0))) := HO
                go_wp2_with fail
                generalize ((((((((w6.setCell ⟨N, 0, none⟩ (.int .i64 0)).setCell ⟨N, 1, none⟩ (.int .i64 0)).setCell ⟨N, 2, none⟩ (.int .i64 0)).setCell ⟨N, 3, none⟩ (.int .i64 0)).setCell ⟨N, 4, none⟩ (.int .i64 0)).setCell ⟨N, 5, none⟩ (.int .i64 0)).setCell ⟨N, 6, none⟩ (.slice none 0 0)).setCell ⟨N, 7, none⟩ (.slice none 0 0)).setCell ⟨N, 8, none⟩ (.slice none 0 0) = w9 at HO ⊢
                obtain ⟨hm9, hc9, hb9⟩ := HO.out
                have y0 : w9.cell? ⟨N, 0, none⟩ = some (.int .i64 0) := hm9.c0
                have y1 : w9.cell? ⟨N, 1, none⟩ = some (.int .i64 0) := hm9.c1
                have y2 : w9.cell? ⟨N, 2, none⟩ = some (.int .i64 0) := hm9.c2
                have y3 : w9.cell? ⟨N, 3, none⟩ = some (.int .i64 0) := hm9.c3
                have y4 : w9.cell? ⟨N, 4, none⟩ = some (.int .i64 0) := hm9.c4
                have y5 : w9.cell? ⟨N, 5, none⟩ = some (.int .i64 0) := hm9.c5
                have y6 : w9.cell? ⟨N, 6, none⟩ = some (.slice none 0 0) := hm9.c6
                have y7 : w9.cell? ⟨N, 7, none⟩ = some (.slice none 0 0) := hm9.c7
                have y8 : w9.cell? ⟨N, 8, none⟩ = some (.slice none 0 0) := hm9.c8
                have HBW : Hid (Below w.heap.size w w9) := by have k := hb9; rw [HN.out] at k; exact k
                refine bodyPost_ret (v := .tuple #[.agg #[.int .i64 0, .int .i64 0, .int .i64 0, .int .i64 0, .int .i64 0, .int .i64 0, .slice none 0 0, .slice none 0 0, .slice none 0 0], .int .i64 5]) (by simp [results, Try.results15, go_sem, y0, y1, y2, y3, y4, y5, y6, y7, y8]) rfl ?_
                exact dgot_bad (er := 5) (HD.out) HBW.out
            · have HD : Hid (decS l = (zeroMs, er)) := by show _ = _; rw [HDE2.out]; unfold decT; rw [← her, if_pos h0]
              have hne : ((er : Int) != 0) = true := by rw [bne_iff_ne]; omega
              have HI5 : Hid (RX N w w5 hs (.slice ba bn bk) l4) := HI.out.keep hB5
              subst he
              clear hgood her hB5 HI f0 f1 f2 f3 h0
              go_upto_region 17 with fail
              generalize w5.alloc (Obj.cells #[.int .i64 mm.K, .int .i64 mm.F, .int .i64 mm.T, .int .i64 mm.B, .int .i64 mm.A, .int .i64 mm.C, .slice ea en ec, .slice qa qn qc, .slice pa pn pc] 26) = w6 at HP ⊢
              have HI6 : Hid (RX N w w6 hs (.slice ba bn bk) l4) := HI5.out.keep HP.out.2
              obtain ⟨rn, ra, rb, rc, hrx⟩ := HI6.out.rx
              have d0 := hrx.c0; have z0 := hrx.z 0
              have d1 := hrx.c1; have z1 := hrx.z 1
              have d2 := hrx.c2; have z2 := hrx.z 2
              have d3 := hrx.c3; have z3 := hrx.z 3
              have d4 := hrx.c4; have z4 := hrx.z 4
              have d5 := hrx.c5; have z5 := hrx.z 5
              have d6 := hrx.c6; have z6 := hrx.z 6
              have d7 := hrx.c7; have z7 := hrx.z 7
              have d8 := hrx.c8; have z8 := hrx.z 8
              clear hrx
              have HO := HI6.out.out0
              unfold setM at HO
              replace HO : Hid (MX (((((((((w6.setCell ⟨N, 0, none⟩ (.int .i64 0)).setCell ⟨N, 1, none⟩ (.int .i64 0)).setCell ⟨N, 2, none⟩ (.int .i64 0)).setCell ⟨N, 3, none⟩ (.int .i64 0)).setCell ⟨N, 4, none⟩ (.int .i64 0)).setCell ⟨N, 5, none⟩ (.int .i64 0)).setCell ⟨N, 6, none⟩ (.slice none 0 0)).setCell ⟨N, 7, none⟩ (.slice none 0 0)).setCell ⟨N, 8, none⟩ (.slice none 0 0)) N zeroMs (.slice none 0 0) (.slice none 0 0) (.slice none 0 0) ∧ Ch (fun x => x = N) w6 (((((((((w6.setCell ⟨N, 0, none⟩ (.int .i64 0)).setCell ⟨N, 1, none⟩ (.int .i64 0)).setCell ⟨N, 2, none⟩ (.int .i64 0)).setCell ⟨N, 3, none⟩ (.int .i64 0)).setCell ⟨N, 4, none⟩ (.int .i64 0)).setCell ⟨N, 5, none⟩ (.int .i64 0)).setCell ⟨N, 6, none⟩ (.slice none 0 0)).setCell ⟨N, 7, none⟩ (.slice none 0 0)).setCell ⟨N, 8, none⟩ (.slice none 0 0)) ∧ Below N w (((((((((w6.setCell ⟨N, 0, none⟩ (.int .i64 0)).setCell ⟨N, 1, none⟩ (.int .i64 0)).setCell ⟨N, 2, none⟩ (.int .i64 0)).setCell ⟨N, 3, none⟩ (.int .i64 0)).setCell ⟨N, 4, none⟩ (.int .i64 0)).setCell ⟨N, 5, none⟩ (.int .i64 0)).setCell ⟨N, 6, none⟩ (.slice none 0 0)).setCell ⟨N, 7, none⟩ (.slice none 0 0)).setCell ⟨N, 8, none⟩ (.slice none 0 0))) := HO
              go_wp2_with fail
              generalize ((((((((w6.setCell ⟨N, 0, none⟩ (.int .i64 0)).setCell ⟨N, 1, none⟩ (.int .i64 0)).setCell ⟨N, 2, none⟩ (.int .i64 0)).setCell ⟨N, 3, none⟩ (.int .i64 0)).setCell ⟨N, 4, none⟩ (.int .i64 0)).setCell ⟨N, 5, none⟩ (.int .i64 0)).setCell ⟨N, 6, none⟩ (.slice none 0 0)).setCell ⟨N, 7, none⟩ (.slice none 0 0)).setCell ⟨N, 8, none⟩ (.slice none 0 0) = w9 at HO ⊢
              obtain ⟨hm9, hc9, hb9⟩ := HO.out
              have y0 : w9.cell? ⟨N, 0, none⟩ = some (.int .i64 0) := hm9.c0
              have y1 : w9.cell? ⟨N, 1, none⟩ = some (.int .i64 0) := hm9.c1
              have y2 : w9.cell? ⟨N, 2, none⟩ = some (.int .i64 0) := hm9.c2
              have y3 : w9.cell? ⟨N, 3, none⟩ = some (.int .i64 0) := hm9.c3
              have y4 : w9.cell? ⟨N, 4, none⟩ = some (.int .i64 0) := hm9.c4
              have y5 : w9.cell? ⟨N, 5, none⟩ = some (.int .i64 0) := hm9.c5
              have y6 : w9.cell? ⟨N, 6, none⟩ = some (.slice none 0 0) := hm9.c6
              have y7 : w9.cell? ⟨N, 7, none⟩ = some (.slice none 0 0) := hm9.c7
              have y8 : w9.cell? ⟨N, 8, none⟩ = some (.slice none 0 0) := hm9.c8
              have HBW : Hid (Below w.heap.size w w9) := by have k := hb9; rw [HN.out] at k; exact k
              refine bodyPost_ret (v := .tuple #[.agg #[.int .i64 0, .int .i64 0, .int .i64 0, .int .i64 0, .int .i64 0, .int .i64 0, .slice none 0 0, .slice none 0 0, .slice none 0 0], .int .i64 (er : Int)]) (by simp [results, Try.results15, go_sem, y0, y1, y2, y3, y4, y5, y6, y7, y8]) rfl ?_
              exact dgot_bad (er := er) (HD.out) HBW.out
end Go.Proofs.Ythkkbdmbmkgjpaa


