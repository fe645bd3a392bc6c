/- Contract of repriselaw16's awake. -/
import Derived.Test.YtonnlhehbhiiiaaNj

namespace Go.Proofs.Ytonnlhehbhiiiaa

open Go.RowKit



/-- The message that laid answers. -/
def lm (k : Int) : Ms := ⟨5, 3, 1, k, 1, 0, [], [], []⟩
theorem lm_ml (w : World) (k : Int) : ML w (lm k) (.slice none 0 0) (.slice none 0 0) (.slice none 0 0) := ⟨Sv.nil _ w, Sv.nil _ w, ⟨⟨none, 0, rfl, Nat.le_refl _, by simp [maxLen], fun _ => rfl, fun i hi => by simp [lm] at hi⟩, by simp [lm]⟩⟩
theorem in64_s {k : Int} (h : 0 ≤ k) (h2 : k ≤ 1000) : in64 k := ⟨by omega, by omega⟩
theorem lm_ok {k : Int} (h : in64 k) : (lm k).ok := ⟨in64_s (k := 5) (by decide) (by decide), in64_s (k := 3) (by decide) (by decide), in64_s (k := 1) (by decide) (by decide), h, in64_s (k := 1) (by decide) (by decide), in64_s (k := 0) (by decide) (by decide), by simp [lm], fun x hx => by simp [lm] at hx, fun x hx => by simp [lm] at hx⟩
theorem lm_snd {k : Int} (h : 1 ≤ k) (h2 : k ≤ 1000) : sndM (lm k) = true := by
  have e1 : ctB k = true := by simp [ctB, h]; omega
  have e2 : fld 5 = 4 := by decide
  simp [sndM, lm, nodB, bareB, askB, e2, e1]
  decide
theorem at_first {x : En} {L : List En} {k : Int} (h : (x.n : Int) = k) : atN (x :: L) k = some x := by
  unfold atN; rw [List.find?_cons]; simp [h]
theorem at_none (k : Int) : atN [] k = none := rfl
theorem at_skip {x : En} {L : List En} {k : Int} (h : (x.n : Int) ≠ k) : atN (x :: L) k = atN L k := by
  unfold atN; rw [List.find?_cons]; simp [h]
theorem out_first {x : En} {L : List En} {k : Int} (h : (x.n : Int) = k) : outN (x :: L) k = outN L k := by
  unfold outN; rw [List.filter_cons_of_neg (by simp [h])]
theorem out_skip {x : En} {L : List En} {k : Int} (h : (x.n : Int) ≠ k) : outN (x :: L) k = x :: outN L k := by
  unfold outN; rw [List.filter_cons_of_pos (by simp [h])]
theorem out_nil (k : Int) : outN [] k = [] := rfl
/-- Two flights of one message, laid in a new block. -/
theorem fv_two (w : World) : Fv (w.alloc (Obj.cells #[.int .i64 1, .int .i64 5, .int .i64 3, .int .i64 1, .int .i64 2, .int .i64 1, .int .i64 0, .slice none 0 0, .slice none 0 0, .slice none 0 0, .int .i64 2, .int .i64 5, .int .i64 3, .int .i64 1, .int .i64 2, .int .i64 1, .int .i64 0, .slice none 0 0, .slice none 0 0, .slice none 0 0] 55)) (.slice (some ⟨w.heap.size, 0, none⟩) 2 2) [⟨1, lm 2, .slice none 0 0, .slice none 0 0, .slice none 0 0, 0, 0⟩, ⟨2, lm 2, .slice none 0 0, .slice none 0 0, .slice none 0 0, 0, 0⟩] := by
  refine ⟨⟨_, 2, rfl, by simp [maxLen], fun i hi => ⟨w.heap.size, 0, rfl, fun j u hj => ?_⟩⟩, fun x hx => ?_, fun x hx => ?_⟩
  · have hj10 : j < 10 := by
      rcases Nat.lt_or_ge j 10 with q | q
      · exact q
      · rw [List.getElem?_eq_none (by simpa [cellsE] using q)] at hj; cases hj
    have hi2 : i = 0 ∨ i = 1 := by simp at hi; omega
    have hc : j = 0 ∨ j = 1 ∨ j = 2 ∨ j = 3 ∨ j = 4 ∨ j = 5 ∨ j = 6 ∨ j = 7 ∨ j = 8 ∨ j = 9 := by omega
    rcases hi2 with rfl | rfl <;> rcases hc with rfl | rfl | rfl | rfl | rfl | rfl | rfl | rfl | rfl | rfl <;> simp [cellsE, lm] at hj <;> subst hj <;> simp [go_sem]
  · simp at hx
    rcases hx with rfl | rfl <;> exact lm_ml _ 2
  · simp at hx
    rcases hx with rfl | rfl <;> exact lm_ok (in64_s (by decide) (by decide))


set_option maxRecDepth 100000 in
set_option maxHeartbeats 8000000 in
theorem awake_walk (w : World) : Calls Try.prog 7 #[] w fun e w' => e = .returned (.bool true) ∧ Below w.heap.size w w' := by
  go_enter Try.func7, Try.ntmps7
  go_wp2_with fail
  refine (new_walk (k := 2) (by decide) w).mono ?_
  rintro e w1 ⟨P, b, rfl, hn, hP, hb, hB⟩
  have HN1 : Hid (Nt w1 P b 2 0 []) := hn
  have HP : Hid (w.heap.size ≤ P ∧ w.heap.size ≤ b) := ⟨hP, hb⟩
  have HB1 : Hid (Below w.heap.size w w1) := hB
  clear hn hP hb hB
  go_wp2_with fail
  refine (laid_walk 1 _).mono ?_
  rintro e w2 ⟨rfl, hB⟩
  have HN2 : Hid _ := HN1.out.below hB
  have HB2 : Hid (Below w.heap.size w w2) := below_trans HB1.out hB
  clear hB
  go_wp2_with fail
  refine (send_walk (m := lm 1) HN2.out (lm_ml _ _) (lm_ok (in64_s (by decide) (by decide))) (by omega)).mono ?_
  rintro e w3 (⟨hs, _⟩ | ⟨_, ⟨hl, _⟩ | ⟨_, rfl, x1, hxn, hxm, hn, hxl, hc⟩⟩)
  · rw [lm_snd (by decide) (by decide)] at hs; cases hs
  · simp at hl
  have HN3 : Hid _ := hn
  have HX1 : Hid (x1.n = 0 ∧ x1.m = lm 1) := ⟨hxn, hxm⟩
  have HB3 : Hid (Below w.heap.size w w3) := HB2.out.trans (hc.to_below HB2.out.size (fun x hx => by have := HP.out; omega))
  clear hn hxn hxm hxl hc HN1 HN2
  go_wp2_with fail
  refine (laid_walk 2 _).mono ?_
  rintro e w4 ⟨rfl, hB⟩
  have HN4 : Hid _ := HN3.out.below hB
  have HB4 : Hid (Below w.heap.size w w4) := below_trans HB3.out hB
  clear hB
  go_wp2_with fail
  refine (send_walk (m := lm 2) HN4.out (lm_ml _ _) (lm_ok (in64_s (by decide) (by decide))) (by omega)).mono ?_
  rintro e w5 (⟨hs, _⟩ | ⟨_, ⟨hl, _⟩ | ⟨_, rfl, x2, hxn, hxm, hn, hxl, hc⟩⟩)
  · rw [lm_snd (by decide) (by decide)] at hs; cases hs
  · simp at hl
  have HN5 : Hid _ := hn
  have HX2 : Hid (x2.n = 1 ∧ x2.m = lm 2) := ⟨hxn, hxm⟩
  have HB5 : Hid (Below w.heap.size w w5) := HB4.out.trans (hc.to_below HB4.out.size (fun x hx => by have := HP.out; omega))
  clear hn hxn hxm hxl hc HN3 HN4
  go_wp2_with fail
  refine (laid_walk 3 _).mono ?_
  rintro e w6 ⟨rfl, hB⟩
  have HN6 : Hid _ := HN5.out.below hB
  have HB6 : Hid (Below w.heap.size w w6) := below_trans HB5.out hB
  clear hB
  go_wp2_with fail
  refine (send_walk (m := lm 3) HN6.out (lm_ml _ _) (lm_ok (in64_s (by decide) (by decide))) (by omega)).mono ?_
  rintro e w7 (⟨hs, _⟩ | ⟨_, ⟨_, rfl, hB⟩ | ⟨hl, _⟩⟩)
  · rw [lm_snd (by decide) (by decide)] at hs; cases hs
  rotate_left
  · simp at hl
  have HN7 : Hid _ := HN6.out.below hB
  have HB7 : Hid (Below w.heap.size w w7) := below_trans HB6.out hB
  clear hB HN5 HN6
  go_wp2_with fail
  have ha0 : atN ([] ++ [x1] ++ [x2]) 0 = some x1 := at_first (by rw [HX1.out.1]; rfl)
  have hE1 : Hid (Eo w7 x1) := HN7.out.ent x1 (by simp)
  refine (deliver_in HN7.out (in64_s (by decide) (by decide)) ha0).mono ?_
  rintro e w8 ⟨he, hn, hc⟩
  obtain ⟨ea, en, ec, qa, qn, qc, pa, pn, pc, e1, e2, e3⟩ := en_form hE1.out
  have HE8 : Hid (Eo w8 x1) := hE1.out.ch hc (fun y h1 _ e => by have := (HN7.out.off x1 (by simp)).2; omega)
  have HOF : Hid (P < x1.lo ∧ b < x1.lo) := HN7.out.off x1 (by simp)
  have HEQ : Hid (x1.e = .slice ea en ec ∧ x1.q = .slice qa qn qc ∧ x1.p = .slice pa pn pc) := ⟨e1, e2, e3⟩
  have hv : mvE x1 = .agg #[.int .i64 5, .int .i64 3, .int .i64 1, .int .i64 1, .int .i64 1, .int .i64 0, .slice ea en ec, .slice qa qn qc, .slice pa pn pc] := by unfold mvE; rw [e1, e2, e3, HX1.out.2]; rfl
  rw [hv] at he
  subst he
  have HN8 : Hid (Nt w8 P b 2 2 [x2]) := by
    have h : outN ([] ++ [x1] ++ [x2]) 0 = [x2] := by
      show outN (x1 :: x2 :: []) 0 = _
      rw [out_first (by rw [HX1.out.1]; rfl), out_skip (by rw [HX2.out.1]; decide), out_nil]
    rw [h] at hn
    exact hn
  have HB8 : Hid (Below w.heap.size w w8) := HB7.out.trans (hc.to_below HB7.out.size (fun x hx => by have := HP.out; omega))
  have HBL : Hid (b < w8.heap.size) := HN8.out.ltb
  clear hn hc ha0 hE1 e1 e2 e3 hv HN7
  go_upto_region 8 with fail
  have HX : Hid (MX _ _ (lm 1) (.slice ea en ec) (.slice qa qn qc) (.slice pa pn pc)) := mx_new w8 (lm 1) (.slice ea en ec) (.slice qa qn qc) (.slice pa pn pc)
  have HBA : Hid _ := below_alloc w8 (Obj.cells #[.int .i64 5, .int .i64 3, .int .i64 1, .int .i64 1, .int .i64 1, .int .i64 0, .slice ea en ec, .slice qa qn qc, .slice pa pn pc] 35)
  change Hid (MX (w8.alloc (Obj.cells #[.int .i64 5, .int .i64 3, .int .i64 1, .int .i64 1, .int .i64 1, .int .i64 0, .slice ea en ec, .slice qa qn qc, .slice pa pn pc] 35)) _ _ _ _ _) at HX
  obtain ⟨X, hX⟩ : ∃ X, X = w8.heap.size := ⟨_, rfl⟩
  rw [← hX] at HX HBL ⊢
  have HXW : Hid (X = w8.heap.size) := hX
  clear hX
  generalize w8.alloc (Obj.cells #[.int .i64 5, .int .i64 3, .int .i64 1, .int .i64 1, .int .i64 1, .int .i64 0, .slice ea en ec, .slice qa qn qc, .slice pa pn pc] 35) = w9 at HX HBA ⊢
  have HN9 : Hid _ := HN8.out.below HBA.out
  have HB9 : Hid (Below w.heap.size w w9) := below_trans HB8.out HBA.out
  have HE9 : Hid _ := HE8.out.below HBA.out
  have HXl : Hid (w.heap.size ≤ X ∧ X < w9.heap.size) := ⟨by rw [HXW.out]; exact HB8.out.size, cell_lt HX.out.c0⟩
  have ha1 : atN [x2] 1 = some x2 := at_first (by rw [HX2.out.1]; rfl)
  go_wp2_with fail
  refine (copy_in HN9.out (in64_s (by decide) (by decide)) ha1 (by omega)).mono ?_
  rintro e w10 (⟨hl, _⟩ | ⟨_, rfl, x3, hxn, hxm, hn, hxl, hc⟩)
  · simp at hl
  have HN10 : Hid (Nt w10 P b 2 3 [x2, x3]) := hn
  have HX3 : Hid (x3.n = 2 ∧ x3.m = lm 2) := ⟨hxn, hxm.trans HX2.out.2⟩
  have HB10 : Hid (Below w.heap.size w w10) := HB9.out.trans (hc.to_below HB9.out.size (fun x hx => by have := HP.out; omega))
  have HXP : Hid (X ≠ P ∧ X ≠ b) := by have h1 := HN8.out.ltP; have h2 := HBL.out; have h3 := HXW.out; exact ⟨by omega, by omega⟩
  have HXa : Hid (MX w10 X (lm 1) (.slice ea en ec) (.slice qa qn qc) (.slice pa pn pc)) := HX.out.ch hc (fun e => by have := HXP.out; omega)
  have HLa : Hid (ML w10 (lm 1) (.slice ea en ec) (.slice qa qn qc) (.slice pa pn pc)) := by
    have h := (HE9.out.ch hc (fun y h1 _ e => by have := HOF.out; omega)).mo.l
    rw [HEQ.out.1, HEQ.out.2.1, HEQ.out.2.2, HX1.out.2] at h
    exact h
  have HSX : Hid (∀ wx, MX wx X (lm 1) (.slice ea en ec) (.slice qa qn qc) (.slice pa pn pc) → wx.cell? ⟨X, 0, none⟩ = some (.int .i64 5) ∧ wx.cell? ⟨X, 1, none⟩ = some (.int .i64 3) ∧ wx.cell? ⟨X, 2, none⟩ = some (.int .i64 1) ∧ wx.cell? ⟨X, 3, none⟩ = some (.int .i64 1) ∧ wx.cell? ⟨X, 4, none⟩ = some (.int .i64 1) ∧ wx.cell? ⟨X, 5, none⟩ = some (.int .i64 0) ∧ wx.cell? ⟨X, 6, none⟩ = some (.slice ea en ec) ∧ wx.cell? ⟨X, 7, none⟩ = some (.slice qa qn qc) ∧ wx.cell? ⟨X, 8, none⟩ = some (.slice pa pn pc)) := fun wx h => ⟨h.c0, h.c1, h.c2, h.c3, h.c4, h.c5, h.c6, h.c7, h.c8⟩
  have HSF : Hid (∀ wx, Below w10.heap.size w10 wx → wx.cell? ⟨X, 0, none⟩ = some (.int .i64 5) ∧ wx.cell? ⟨X, 1, none⟩ = some (.int .i64 3) ∧ wx.cell? ⟨X, 2, none⟩ = some (.int .i64 1) ∧ wx.cell? ⟨X, 3, none⟩ = some (.int .i64 1) ∧ wx.cell? ⟨X, 4, none⟩ = some (.int .i64 1) ∧ wx.cell? ⟨X, 5, none⟩ = some (.int .i64 0) ∧ wx.cell? ⟨X, 6, none⟩ = some (.slice ea en ec) ∧ wx.cell? ⟨X, 7, none⟩ = some (.slice qa qn qc) ∧ wx.cell? ⟨X, 8, none⟩ = some (.slice pa pn pc)) := fun wx h => HSX.out wx (HXa.out.keep h)
  have HB90 : Hid (w.heap.size ≤ w10.heap.size) := HB10.out.size
  clear hn hc hxn hxm hxl ha1 HN9 HX HE9 HE8 HN8 HBA HXW HBL HOF HEQ HX1
  go_upto_region 9 with fail
  refine wp_region_noPanic ?_
  refine wp_region_held_drew (S := fun wx => wx.cell? ⟨X, 0, none⟩ = some (.int .i64 5) ∧ wx.cell? ⟨X, 1, none⟩ = some (.int .i64 3) ∧ wx.cell? ⟨X, 2, none⟩ = some (.int .i64 1) ∧ wx.cell? ⟨X, 3, none⟩ = some (.int .i64 1) ∧ wx.cell? ⟨X, 4, none⟩ = some (.int .i64 1) ∧ wx.cell? ⟨X, 5, none⟩ = some (.int .i64 0) ∧ wx.cell? ⟨X, 6, none⟩ = some (.slice ea en ec) ∧ wx.cell? ⟨X, 7, none⟩ = some (.slice qa qn qc) ∧ wx.cell? ⟨X, 8, none⟩ = some (.slice pa pn pc)) (by kernel_rfl) ?_ (fun hHeld => ?_)
  · exact HSF.out _ (below_drewN w10 1)
  refine wpAnyH_take (i := 0) (oi := ⟨some 50, _, _, _, _, _⟩) (v := ?_) rfl (by kernel_rfl) (by kernel_rfl) (by kernel_rfl) (fun _ _ _ h => h) (Or.inl ⟨by rfl, ?_⟩) hHeld ?_
  rotate_left
  · intro w hSw; (try dsimp only at hSw); go_simp; all_goals (with_reducible rfl)
  try simp only [Act.put, List.setIfInBounds_toArray, List.set_cons_zero, List.set_cons_succ]
  refine wpAnyH_take (i := 1) (oi := ⟨some 51, _, _, _, _, _⟩) (v := ?_) rfl (by kernel_rfl) (by kernel_rfl) (by kernel_rfl) (fun _ _ _ h => h) (Or.inl ⟨by rfl, ?_⟩) hHeld ?_
  rotate_left
  · intro w hSw; (try dsimp only at hSw); go_simp; all_goals (with_reducible rfl)
  try simp only [Act.put, List.setIfInBounds_toArray, List.set_cons_zero, List.set_cons_succ]
  refine wpAnyH_take (i := 2) (oi := ⟨some 52, _, _, _, _, _⟩) (v := ?_) rfl (by kernel_rfl) (by kernel_rfl) (by kernel_rfl) (fun _ _ _ h => h) (Or.inl ⟨by rfl, ?_⟩) hHeld ?_
  rotate_left
  · intro w hSw; (try dsimp only at hSw); go_simp; all_goals (with_reducible rfl)
  try simp only [Act.put, List.setIfInBounds_toArray, List.set_cons_zero, List.set_cons_succ]
  refine wpAnyH_take (i := 3) (oi := ⟨some 53, _, _, _, _, _⟩) (v := ?_) rfl (by kernel_rfl) (by kernel_rfl) (by kernel_rfl) (fun _ _ _ h => h) (Or.inl ⟨by rfl, ?_⟩) hHeld ?_
  rotate_left
  · intro w hSw; (try dsimp only at hSw); go_simp; all_goals (with_reducible rfl)
  try simp only [Act.put, List.setIfInBounds_toArray, List.set_cons_zero, List.set_cons_succ]
  refine wpAnyH_take (i := 4) (oi := ⟨some 54, _, _, _, _, _⟩) (v := ?_) rfl (by kernel_rfl) (by kernel_rfl) (by kernel_rfl) (fun _ _ _ h => h) (Or.inl ⟨by rfl, ?_⟩) hHeld ?_
  rotate_left
  · intro w hSw; (try dsimp only at hSw); go_simp; all_goals (with_reducible rfl)
  try simp only [Act.put, List.setIfInBounds_toArray, List.set_cons_zero, List.set_cons_succ]
  refine wpAnyH_take (i := 5) (oi := ⟨some 55, _, _, _, _, _⟩) (v := ?_) rfl (by kernel_rfl) (by kernel_rfl) (by kernel_rfl) (fun _ _ _ h => h) (Or.inl ⟨by rfl, ?_⟩) hHeld ?_
  rotate_left
  · intro w hSw; (try dsimp only at hSw); go_simp; all_goals (with_reducible rfl)
  try simp only [Act.put, List.setIfInBounds_toArray, List.set_cons_zero, List.set_cons_succ]
  refine wpAnyH_take (i := 6) (oi := ⟨some 56, _, _, _, _, _⟩) (v := ?_) rfl (by kernel_rfl) (by kernel_rfl) (by kernel_rfl) (fun _ _ _ h => h) (Or.inl ⟨by rfl, ?_⟩) hHeld ?_
  rotate_left
  · intro w hSw; (try dsimp only at hSw); go_simp; all_goals (with_reducible rfl)
  try simp only [Act.put, List.setIfInBounds_toArray, List.set_cons_zero, List.set_cons_succ]
  refine wpAnyH_take (i := 7) (oi := ⟨some 57, _, _, _, _, _⟩) (v := ?_) rfl (by kernel_rfl) (by kernel_rfl) (by kernel_rfl) (fun _ _ _ h => h) (Or.inl ⟨by rfl, ?_⟩) hHeld ?_
  rotate_left
  · intro w hSw; (try dsimp only at hSw); go_simp; all_goals (with_reducible rfl)
  try simp only [Act.put, List.setIfInBounds_toArray, List.set_cons_zero, List.set_cons_succ]
  refine wpAnyH_take (i := 8) (oi := ⟨some 58, _, _, _, _, _⟩) (v := ?_) rfl (by kernel_rfl) (by kernel_rfl) (by kernel_rfl) (fun _ _ _ h => h) (Or.inl ⟨by rfl, ?_⟩) hHeld ?_
  rotate_left
  · intro w hSw; (try dsimp only at hSw); go_simp; all_goals (with_reducible rfl)
  try simp only [Act.put, List.setIfInBounds_toArray, List.set_cons_zero, List.set_cons_succ]
  refine wpAnyH_take (i := 9) (oi := ⟨some 59, _, _, _, _, _⟩) (v := ?_) rfl (by kernel_rfl) (by kernel_rfl) (by kernel_rfl) (fun _ _ _ h => h) (Or.inl ⟨by rfl, ?_⟩) hHeld ?_
  rotate_left
  · intro w hSw; (try dsimp only at hSw); go_simp; all_goals (with_reducible rfl)
  try simp only [Act.put, List.setIfInBounds_toArray, List.set_cons_zero, List.set_cons_succ]
  refine wpAnyH_take (i := 10) (oi := ⟨some 60, _, _, _, _, _⟩) (v := ?_) rfl (by kernel_rfl) (by kernel_rfl) (by kernel_rfl) (fun _ _ _ h => h) (Or.inl ⟨by rfl, ?_⟩) hHeld ?_
  rotate_left
  · intro w hSw; (try dsimp only at hSw); go_simp; all_goals (with_reducible rfl)
  try simp only [Act.put, List.setIfInBounds_toArray, List.set_cons_zero, List.set_cons_succ]
  refine wpAnyH_take (i := 11) (oi := ⟨some 61, _, _, _, _, _⟩) (v := ?_) rfl (by kernel_rfl) (by kernel_rfl) (by kernel_rfl) (fun _ _ _ h => h) (Or.inl ⟨by rfl, ?_⟩) hHeld ?_
  rotate_left
  · intro w hSw; (try dsimp only at hSw); go_simp; all_goals (with_reducible rfl)
  try simp only [Act.put, List.setIfInBounds_toArray, List.set_cons_zero, List.set_cons_succ]
  refine wpAnyH_take (i := 12) (oi := ⟨some 62, _, _, _, _, _⟩) (v := ?_) rfl (by kernel_rfl) (by kernel_rfl) (by kernel_rfl) (fun _ _ _ h => h) (Or.inl ⟨by rfl, ?_⟩) hHeld ?_
  rotate_left
  · intro w hSw; (try dsimp only at hSw); go_simp; all_goals (with_reducible rfl)
  try simp only [Act.put, List.setIfInBounds_toArray, List.set_cons_zero, List.set_cons_succ]
  refine wpAnyH_take (i := 13) (oi := ⟨some 63, _, _, _, _, _⟩) (v := ?_) rfl (by kernel_rfl) (by kernel_rfl) (by kernel_rfl) (fun _ _ _ h => h) (Or.inl ⟨by rfl, ?_⟩) hHeld ?_
  rotate_left
  · intro w hSw; (try dsimp only at hSw); go_simp; all_goals (with_reducible rfl)
  try simp only [Act.put, List.setIfInBounds_toArray, List.set_cons_zero, List.set_cons_succ]
  refine wpAnyH_take (i := 14) (oi := ⟨some 64, _, _, _, _, _⟩) (v := ?_) rfl (by kernel_rfl) (by kernel_rfl) (by kernel_rfl) (fun _ _ _ h => h) (Or.inl ⟨by rfl, ?_⟩) hHeld ?_
  rotate_left
  · intro w hSw; (try dsimp only at hSw); go_simp; all_goals (with_reducible rfl)
  try simp only [Act.put, List.setIfInBounds_toArray, List.set_cons_zero, List.set_cons_succ]
  refine wpAnyH_take (i := 15) (oi := ⟨some 65, _, _, _, _, _⟩) (v := ?_) rfl (by kernel_rfl) (by kernel_rfl) (by kernel_rfl) (fun _ _ _ h => h) (Or.inl ⟨by rfl, ?_⟩) hHeld ?_
  rotate_left
  · intro w hSw; (try dsimp only at hSw); go_simp; all_goals (with_reducible rfl)
  try simp only [Act.put, List.setIfInBounds_toArray, List.set_cons_zero, List.set_cons_succ]
  refine wpAnyH_take (i := 16) (oi := ⟨some 66, _, _, _, _, _⟩) (v := ?_) rfl (by kernel_rfl) (by kernel_rfl) (by kernel_rfl) (fun _ _ _ h => h) (Or.inl ⟨by rfl, ?_⟩) hHeld ?_
  rotate_left
  · intro w hSw; (try dsimp only at hSw); go_simp; all_goals (with_reducible rfl)
  try simp only [Act.put, List.setIfInBounds_toArray, List.set_cons_zero, List.set_cons_succ]
  refine wpAnyH_take (i := 17) (oi := ⟨some 67, _, _, _, _, _⟩) (v := ?_) rfl (by kernel_rfl) (by kernel_rfl) (by kernel_rfl) (fun _ _ _ h => h) (Or.inl ⟨by rfl, ?_⟩) hHeld ?_
  rotate_left
  · intro w hSw; (try dsimp only at hSw); go_simp; all_goals (with_reducible rfl)
  try simp only [Act.put, List.setIfInBounds_toArray, List.set_cons_zero, List.set_cons_succ]
  refine wpAnyH_take (i := 18) (oi := ⟨some 68, _, _, _, _, _⟩) (v := ?_) rfl (by kernel_rfl) (by kernel_rfl) (by kernel_rfl) (fun _ _ _ h => h) (Or.inl ⟨by rfl, ?_⟩) hHeld ?_
  rotate_left
  · intro w hSw; (try dsimp only at hSw); go_simp; all_goals (with_reducible rfl)
  try simp only [Act.put, List.setIfInBounds_toArray, List.set_cons_zero, List.set_cons_succ]
  refine wpAnyH_take (i := 19) (oi := ⟨some 69, _, _, _, _, _⟩) (v := ?_) rfl (by kernel_rfl) (by kernel_rfl) (by kernel_rfl) (fun _ _ _ h => h) (Or.inl ⟨by rfl, ?_⟩) hHeld ?_
  rotate_left
  · intro w hSw; (try dsimp only at hSw); go_simp; all_goals (with_reducible rfl)
  try simp only [Act.put, List.setIfInBounds_toArray, List.set_cons_zero, List.set_cons_succ]
  refine wpAnyH_take (i := 20) (oi := ⟨some 70, _, _, _, _, _⟩) (v := ?_) rfl (by kernel_rfl) (by kernel_rfl) (by kernel_rfl) (fun _ _ _ h => h) (Or.inl ⟨by rfl, ?_⟩) hHeld ?_
  rotate_left
  · intro w hSw; (try dsimp only at hSw); go_simp; all_goals (with_reducible rfl)
  try simp only [Act.put, List.setIfInBounds_toArray, List.set_cons_zero, List.set_cons_succ]
  refine wpAnyH_take (i := 21) (oi := ⟨some 71, _, _, _, _, _⟩) (v := ?_) rfl (by kernel_rfl) (by kernel_rfl) (by kernel_rfl) (fun _ _ _ h => h) (Or.inl ⟨by rfl, ?_⟩) hHeld ?_
  rotate_left
  · intro w hSw; (try dsimp only at hSw); go_simp; all_goals (with_reducible rfl)
  try simp only [Act.put, List.setIfInBounds_toArray, List.set_cons_zero, List.set_cons_succ]
  refine wpAnyH_take (i := 22) (oi := ⟨some 72, _, _, _, _, _⟩) (v := ?_) rfl (by kernel_rfl) (by kernel_rfl) (by kernel_rfl) (fun _ _ _ h => h) (Or.inl ⟨by rfl, ?_⟩) hHeld ?_
  rotate_left
  · intro w hSw; (try dsimp only at hSw); go_simp; all_goals (with_reducible rfl)
  try simp only [Act.put, List.setIfInBounds_toArray, List.set_cons_zero, List.set_cons_succ]
  refine wpAnyH_take (i := 23) (oi := ⟨some 73, _, _, _, _, _⟩) (v := ?_) rfl (by kernel_rfl) (by kernel_rfl) (by kernel_rfl) (fun _ _ _ h => h) (Or.inl ⟨by rfl, ?_⟩) hHeld ?_
  rotate_left
  · intro w hSw; (try dsimp only at hSw); go_simp; all_goals (with_reducible rfl)
  try simp only [Act.put, List.setIfInBounds_toArray, List.set_cons_zero, List.set_cons_succ]
  refine wpAnyH_ready (rs := [24]) (by kernel_rfl) (by simp) ?_
  refine AllReadyH.cons (o := ⟨some 74, _, _, _, _, _⟩) rfl (fun K hK => ?_) AllReadyH.nil
  go_simp
  refine (laid_walk 1 _).mono ?_
  rintro e wa ⟨rfl, hB⟩
  have HBa : Hid (Below w10.heap.size w10 wa) := below_trans (below_drewN w10 1) hB
  clear hB
  refine hK.out _ _ ?_ (fun hHeld => ?_)
  · exact (HSF.out _ HBa.out)
  clear hK K
  try simp only [Act.put, List.setIfInBounds_toArray, List.set_cons_zero, List.set_cons_succ]
  refine wpAnyH_ready (rs := [25]) (by kernel_rfl) (by simp) ?_
  refine AllReadyH.cons (o := ⟨some 75, _, _, _, _, _⟩) rfl (fun K hK => ?_) AllReadyH.nil
  go_simp
  refine (same_walk (m := lm 1) (HLa.out.below HBa.out) (lm_ml _ _) (lm_ok (in64_s (by decide) (by decide)))).mono ?_
  rintro e wb ⟨rfl, hB⟩
  have HBb : Hid (Below w10.heap.size w10 wb) := below_trans HBa.out hB
  clear hB
  refine hK.out _ _ ?_ (fun hHeld => ?_)
  · exact (HSF.out _ HBb.out)
  clear hK K
  try simp only [Act.put, List.setIfInBounds_toArray, List.set_cons_zero, List.set_cons_succ]
  refine wpAnyH_take (i := 26) (oi := ⟨some 76, _, _, _, _, _⟩) (v := ?_) rfl (by kernel_rfl) (by kernel_rfl) (by kernel_rfl) (fun _ _ _ h => h) (Or.inl ⟨by rfl, ?_⟩) hHeld ?_
  rotate_left
  · intro w hSw; (try dsimp only at hSw); go_simp; all_goals (with_reducible rfl)
  try simp only [Act.put, List.setIfInBounds_toArray, List.set_cons_zero, List.set_cons_succ]
  refine wpAnyH_take (i := 27) (oi := ⟨some 77, _, _, _, _, _⟩) (v := ?_) rfl (by kernel_rfl) (by kernel_rfl) (by kernel_rfl) (fun _ _ _ h => h) (Or.inl ⟨by rfl, ?_⟩) hHeld ?_
  rotate_left
  · intro w hSw; (try dsimp only at hSw); go_simp; all_goals (with_reducible rfl)
  try simp only [Act.put, List.setIfInBounds_toArray, List.set_cons_zero, List.set_cons_succ]
  refine wpAnyH_take (i := 28) (oi := ⟨some 78, _, _, _, _, _⟩) (v := ?_) rfl (by kernel_rfl) (by kernel_rfl) (by kernel_rfl) (fun _ _ _ h => h) (Or.inl ⟨by rfl, ?_⟩) hHeld ?_
  rotate_left
  · intro w hSw; (try dsimp only at hSw); go_simp; all_goals (with_reducible rfl)
  try simp only [Act.put, List.setIfInBounds_toArray, List.set_cons_zero, List.set_cons_succ]
  refine wpAnyH_take (i := 29) (oi := ⟨some 79, _, _, _, _, _⟩) (v := ?_) rfl (by kernel_rfl) (by kernel_rfl) (by kernel_rfl) (fun _ _ _ h => h) (Or.inl ⟨by rfl, ?_⟩) hHeld ?_
  rotate_left
  · intro w hSw; (try dsimp only at hSw); go_simp; all_goals (with_reducible rfl)
  try simp only [Act.put, List.setIfInBounds_toArray, List.set_cons_zero, List.set_cons_succ]
  refine wpAnyH_take (i := 30) (oi := ⟨some 80, _, _, _, _, _⟩) (v := ?_) rfl (by kernel_rfl) (by kernel_rfl) (by kernel_rfl) (fun _ _ _ h => h) (Or.inl ⟨by rfl, ?_⟩) hHeld ?_
  rotate_left
  · intro w hSw; (try dsimp only at hSw); go_simp; all_goals (with_reducible rfl)
  try simp only [Act.put, List.setIfInBounds_toArray, List.set_cons_zero, List.set_cons_succ]
  refine wpAnyH_take (i := 31) (oi := ⟨some 81, _, _, _, _, _⟩) (v := ?_) rfl (by kernel_rfl) (by kernel_rfl) (by kernel_rfl) (fun _ _ _ h => h) (Or.inl ⟨by rfl, ?_⟩) hHeld ?_
  rotate_left
  · intro w hSw; (try dsimp only at hSw); go_simp; all_goals (with_reducible rfl)
  try simp only [Act.put, List.setIfInBounds_toArray, List.set_cons_zero, List.set_cons_succ]
  refine wpAnyH_take (i := 32) (oi := ⟨some 82, _, _, _, _, _⟩) (v := ?_) rfl (by kernel_rfl) (by kernel_rfl) (by kernel_rfl) (fun _ _ _ h => h) (Or.inl ⟨by rfl, ?_⟩) hHeld ?_
  rotate_left
  · intro w hSw; (try dsimp only at hSw); go_simp; all_goals (with_reducible rfl)
  try simp only [Act.put, List.setIfInBounds_toArray, List.set_cons_zero, List.set_cons_succ]
  refine wpAnyH_take (i := 33) (oi := ⟨some 83, _, _, _, _, _⟩) (v := ?_) rfl (by kernel_rfl) (by kernel_rfl) (by kernel_rfl) (fun _ _ _ h => h) (Or.inl ⟨by rfl, ?_⟩) hHeld ?_
  rotate_left
  · intro w hSw; (try dsimp only at hSw); go_simp; all_goals (with_reducible rfl)
  try simp only [Act.put, List.setIfInBounds_toArray, List.set_cons_zero, List.set_cons_succ]
  refine wpAnyH_take (i := 34) (oi := ⟨some 84, _, _, _, _, _⟩) (v := ?_) rfl (by kernel_rfl) (by kernel_rfl) (by kernel_rfl) (fun _ _ _ h => h) (Or.inl ⟨by rfl, ?_⟩) hHeld ?_
  rotate_left
  · intro w hSw; (try dsimp only at hSw); go_simp; all_goals (with_reducible rfl)
  try simp only [Act.put, List.setIfInBounds_toArray, List.set_cons_zero, List.set_cons_succ]
  refine wpAnyH_take (i := 35) (oi := ⟨some 85, _, _, _, _, _⟩) (v := ?_) rfl (by kernel_rfl) (by kernel_rfl) (by kernel_rfl) (fun _ _ _ h => h) (Or.inl ⟨by rfl, ?_⟩) hHeld ?_
  rotate_left
  · intro w hSw; (try dsimp only at hSw); go_simp; all_goals (with_reducible rfl)
  try simp only [Act.put, List.setIfInBounds_toArray, List.set_cons_zero, List.set_cons_succ]
  refine wpAnyH_take (i := 36) (oi := ⟨some 86, _, _, _, _, _⟩) (v := ?_) rfl (by kernel_rfl) (by kernel_rfl) (by kernel_rfl) (fun _ _ _ h => h) (Or.inl ⟨by rfl, ?_⟩) hHeld ?_
  rotate_left
  · intro w hSw; (try dsimp only at hSw); go_simp; all_goals (with_reducible rfl)
  try simp only [Act.put, List.setIfInBounds_toArray, List.set_cons_zero, List.set_cons_succ]
  refine wpAnyH_ready (rs := [37]) (by kernel_rfl) (by simp) ?_
  refine AllReadyH.cons (o := ⟨some 87, _, _, _, _, _⟩) rfl (fun K hK => ?_) AllReadyH.nil
  go_simp
  refine (next_walk (HN10.out.below HBb.out)).mono ?_
  rintro e wc ⟨rfl, hw⟩
  have HBc : Hid (Below w10.heap.size w10 wc) := by rw [hw]; exact HBb.out
  clear hw
  refine hK.out _ _ ?_ (fun hHeld => ?_)
  · exact (HSF.out _ HBc.out)
  clear hK K
  try simp only [Act.put, List.setIfInBounds_toArray, List.set_cons_zero, List.set_cons_succ]
  refine wpAnyH_take (i := 38) (oi := ⟨some 88, _, _, _, _, _⟩) (v := ?_) rfl (by kernel_rfl) (by kernel_rfl) (by kernel_rfl) (fun _ _ _ h => h) (Or.inl ⟨by rfl, ?_⟩) hHeld ?_
  rotate_left
  · intro w hSw; (try dsimp only at hSw); go_simp; all_goals (with_reducible rfl)
  try simp only [Act.put, List.setIfInBounds_toArray, List.set_cons_zero, List.set_cons_succ]
  refine wpAnyH_take (i := 39) (oi := ⟨some 89, _, _, _, _, _⟩) (v := ?_) rfl (by kernel_rfl) (by kernel_rfl) (by kernel_rfl) (fun _ _ _ h => h) (Or.inl ⟨by rfl, ?_⟩) hHeld ?_
  rotate_left
  · intro w hSw; (try dsimp only at hSw); go_simp; all_goals (with_reducible rfl)
  try simp only [Act.put, List.setIfInBounds_toArray, List.set_cons_zero, List.set_cons_succ]
  refine wpAnyH_take (i := 40) (oi := ⟨some 90, _, _, _, _, _⟩) (v := ?_) rfl (by kernel_rfl) (by kernel_rfl) (by kernel_rfl) (fun _ _ _ h => h) (Or.inl ⟨by rfl, ?_⟩) hHeld ?_
  rotate_left
  · intro w hSw; (try dsimp only at hSw); go_simp; all_goals (with_reducible rfl)
  try simp only [Act.put, List.setIfInBounds_toArray, List.set_cons_zero, List.set_cons_succ]
  refine wpAnyH_take (i := 41) (oi := ⟨some 91, _, _, _, _, _⟩) (v := ?_) rfl (by kernel_rfl) (by kernel_rfl) (by kernel_rfl) (fun _ _ _ h => h) (Or.inl ⟨by rfl, ?_⟩) hHeld ?_
  rotate_left
  · intro w hSw; (try dsimp only at hSw); go_simp; all_goals (with_reducible rfl)
  try simp only [Act.put, List.setIfInBounds_toArray, List.set_cons_zero, List.set_cons_succ]
  refine wpAnyH_ready (rs := [42]) (by kernel_rfl) (by simp) ?_
  refine AllReadyH.cons (o := ⟨some 92, _, _, _, _, _⟩) rfl (fun K hK => ?_) AllReadyH.nil
  go_simp
  refine (flights_walk (HN10.out.below HBc.out) (by omega)).mono ?_
  rintro e wd ⟨v, F, rfl, hfr, hnm, hB⟩
  have HBd : Hid (Below w10.heap.size w10 wd) := below_trans HBc.out hB
  clear hB
  obtain ⟨va, vc, rfl⟩ := own_formN hfr.own
  have HFR : Hid _ := hfr
  have HNM : Hid _ := hnm
  clear hfr hnm
  refine hK.out _ _ ?_ (fun hHeld => ?_)
  · exact (HSF.out _ HBd.out)
  clear hK K
  try simp only [Act.put, List.setIfInBounds_toArray, List.set_cons_zero, List.set_cons_succ]
  refine wpAnyH_ready (rs := [43]) (by kernel_rfl) (by simp) ?_
  refine AllReadyH.cons (o := ⟨some 93, _, _, _, _, _⟩) rfl (fun K hK => ?_) AllReadyH.nil
  go_simp
  refine (laid_walk 2 _).mono ?_
  rintro e we ⟨rfl, hB⟩
  have HBe : Hid (Below w10.heap.size w10 we) := below_trans HBd.out hB
  have HFRe : Hid _ := HFR.out.below hB
  clear hB
  refine hK.out _ _ ?_ (fun hHeld => ?_)
  · exact (HSF.out _ HBe.out)
  clear hK K
  try simp only [Act.put, List.setIfInBounds_toArray, List.set_cons_zero, List.set_cons_succ]
  refine wpAnyH_take (i := 44) (oi := ⟨some 94, _, _, _, _, _⟩) (v := ?_) rfl (by kernel_rfl) (by kernel_rfl) (by kernel_rfl) (fun _ _ _ h => h) (Or.inl ⟨by rfl, ?_⟩) hHeld ?_
  rotate_left
  · intro w hSw; (try dsimp only at hSw); go_simp; all_goals (with_reducible rfl)
  try simp only [Act.put, List.setIfInBounds_toArray, List.set_cons_zero, List.set_cons_succ]
  refine wpAnyH_ready (rs := [45]) (by kernel_rfl) (by simp) ?_
  refine AllReadyH.cons (o := ⟨some 95, _, _, _, _, _⟩) rfl (fun K hK => ?_) AllReadyH.nil
  go_simp
  refine (laid_walk 2 _).mono ?_
  rintro e wf ⟨rfl, hB⟩
  have HBf : Hid (Below w10.heap.size w10 wf) := below_trans HBe.out hB
  have HFRf : Hid _ := HFRe.out.below hB
  clear hB
  refine hK.out _ _ ?_ (fun hHeld => ?_)
  · exact (HSF.out _ HBf.out)
  clear hK K
  try simp only [Act.put, List.setIfInBounds_toArray, List.set_cons_zero, List.set_cons_succ]
  refine wpAnyH_take (i := 46) (oi := ⟨some 96, _, _, _, _, _⟩) (v := ?_) rfl (by kernel_rfl) (by kernel_rfl) (by kernel_rfl) (fun _ _ _ h => h) (Or.inl ⟨by rfl, ?_⟩) hHeld ?_
  rotate_left
  · intro w hSw; (try dsimp only at hSw); go_simp; all_goals (with_reducible rfl)
  try simp only [Act.put, List.setIfInBounds_toArray, List.set_cons_zero, List.set_cons_succ]
  refine wpAnyH_ready (rs := [47]) (by kernel_rfl) (by simp) ?_
  refine AllReadyH.cons (o := ⟨some 97, _, _, _, _, _⟩) rfl (fun K hK => ?_) AllReadyH.nil
  go_simp
  refine hK.out _ _ ?_ (fun hHeld => ?_)
  · exact (HSF.out _ (below_trans HBf.out (below_alloc _ _)))
  clear hK K
  try simp only [Act.put, List.setIfInBounds_toArray, List.set_cons_zero, List.set_cons_succ]
  refine wpAnyH_ready (rs := [48]) (by kernel_rfl) (by simp) ?_
  refine AllReadyH.cons (o := ⟨some 98, _, _, _, _, _⟩) rfl (fun K hK => ?_) AllReadyH.nil
  go_simp
  refine (flights_same (HFRf.out.below (below_alloc _ _)).fv (fv_two wf) (by rw [HNM.out]; simp [nmE, HX2.out.1, HX2.out.2, HX3.out.1, HX3.out.2])).mono ?_
  rintro e wg ⟨rfl, hB⟩
  have HBg : Hid (Below w10.heap.size w10 wg) := below_trans (below_trans HBf.out (below_alloc _ _)) hB
  clear hB
  refine hK.out _ _ ?_ (fun hHeld => ?_)
  · exact (HSF.out _ HBg.out)
  clear hK K
  try simp only [Act.put, List.setIfInBounds_toArray, List.set_cons_zero, List.set_cons_succ]
  refine wpAnyH_take (i := 49) (oi := ⟨some 99, _, _, _, _, _⟩) (v := ?_) rfl (by kernel_rfl) (by kernel_rfl) (by kernel_rfl) (fun _ _ _ h => h) (Or.inl ⟨by rfl, ?_⟩) hHeld ?_
  rotate_left
  · intro w hSw; (try dsimp only at hSw); go_simp; all_goals (with_reducible rfl)
  try simp only [Act.put, List.setIfInBounds_toArray, List.set_cons_zero, List.set_cons_succ]
  refine wpAnyH_take (i := 50) (oi := ⟨some 100, _, _, _, _, _⟩) (v := ?_) rfl (by kernel_rfl) (by kernel_rfl) (by kernel_rfl) (fun _ _ _ h => h) (Or.inl ⟨by rfl, ?_⟩) hHeld ?_
  rotate_left
  · intro w hSw; (try dsimp only at hSw); go_simp; all_goals (with_reducible rfl)
  try simp only [Act.put, List.setIfInBounds_toArray, List.set_cons_zero, List.set_cons_succ]
  refine wpAnyH_take (i := 51) (oi := ⟨some 101, _, _, _, _, _⟩) (v := ?_) rfl (by kernel_rfl) (by kernel_rfl) (by kernel_rfl) (fun _ _ _ h => h) (Or.inl ⟨by rfl, ?_⟩) hHeld ?_
  rotate_left
  · intro w hSw; (try dsimp only at hSw); go_simp; all_goals (with_reducible rfl)
  try simp only [Act.put, List.setIfInBounds_toArray, List.set_cons_zero, List.set_cons_succ]
  refine wpAnyH_ready (rs := [52]) (by kernel_rfl) (by simp) ?_
  refine AllReadyH.cons (o := ⟨some 102, _, _, _, _, _⟩) rfl (fun K hK => ?_) AllReadyH.nil
  go_simp
  refine (drop_in (x := x2) (HN10.out.below HBg.out) (in64_s (by decide) (by decide)) (at_first (by rw [HX2.out.1]; rfl))).mono ?_
  rintro e wh ⟨rfl, hn, hc⟩
  have HNh : Hid _ := hn
  have HXh : Hid _ := (HXa.out.keep HBg.out).ch hc HXP.out.2
  have HBh : Hid (Below w.heap.size w wh) := (HB10.out.trans (HBg.out.mono HB90.out)).trans (hc.to_below (Nat.le_trans HB90.out HBg.out.size) (fun x hx => by have := HP.out; omega))
  clear hn hc
  refine hK.out _ _ ?_ (fun hHeld => ?_)
  · exact (HSX.out _ HXh.out)
  clear hK K
  try simp only [Act.put, List.setIfInBounds_toArray, List.set_cons_zero, List.set_cons_succ]
  refine wpAnyH_take (i := 53) (oi := ⟨some 103, _, _, _, _, _⟩) (v := ?_) rfl (by kernel_rfl) (by kernel_rfl) (by kernel_rfl) (fun _ _ _ h => h) (Or.inl ⟨by rfl, ?_⟩) hHeld ?_
  rotate_left
  · intro w hSw; (try dsimp only at hSw); go_simp; all_goals (with_reducible rfl)
  try simp only [Act.put, List.setIfInBounds_toArray, List.set_cons_zero, List.set_cons_succ]
  refine wpAnyH_take (i := 54) (oi := ⟨some 104, _, _, _, _, _⟩) (v := ?_) rfl (by kernel_rfl) (by kernel_rfl) (by kernel_rfl) (fun _ _ _ h => h) (Or.inl ⟨by rfl, ?_⟩) hHeld ?_
  rotate_left
  · intro w hSw; (try dsimp only at hSw); go_simp; all_goals (with_reducible rfl)
  try simp only [Act.put, List.setIfInBounds_toArray, List.set_cons_zero, List.set_cons_succ]
  refine wpAnyH_take (i := 55) (oi := ⟨some 105, _, _, _, _, _⟩) (v := ?_) rfl (by kernel_rfl) (by kernel_rfl) (by kernel_rfl) (fun _ _ _ h => h) (Or.inl ⟨by rfl, ?_⟩) hHeld ?_
  rotate_left
  · intro w hSw; (try dsimp only at hSw); go_simp; all_goals (with_reducible rfl)
  try simp only [Act.put, List.setIfInBounds_toArray, List.set_cons_zero, List.set_cons_succ]
  refine wpAnyH_take (i := 56) (oi := ⟨some 106, _, _, _, _, _⟩) (v := ?_) rfl (by kernel_rfl) (by kernel_rfl) (by kernel_rfl) (fun _ _ _ h => h) (Or.inl ⟨by rfl, ?_⟩) hHeld ?_
  rotate_left
  · intro w hSw; (try dsimp only at hSw); go_simp; all_goals (with_reducible rfl)
  try simp only [Act.put, List.setIfInBounds_toArray, List.set_cons_zero, List.set_cons_succ]
  refine wpAnyH_ready (rs := [57]) (by kernel_rfl) (by simp) ?_
  refine AllReadyH.cons (o := ⟨some 107, _, _, _, _, _⟩) rfl (fun K hK => ?_) AllReadyH.nil
  go_simp
  refine (drop_out HNh.out (in64_s (by decide) (by decide)) (by rw [out_first (by rw [HX2.out.1]; rfl), out_skip (by rw [HX3.out.1]; decide), out_nil, at_skip (by rw [HX3.out.1]; decide)]; rfl)).mono ?_
  rintro e wi ⟨rfl, hB⟩
  have HBi : Hid (Below w.heap.size w wi) := below_trans HBh.out hB
  have HXi : Hid _ := HXh.out.keep hB
  clear hB
  refine hK.out _ _ ?_ (fun hHeld => ?_)
  · exact (HSX.out _ HXi.out)
  clear hK K
  try simp only [Act.put, List.setIfInBounds_toArray, List.set_cons_zero, List.set_cons_succ]
  refine wpAnyH_take (i := 58) (oi := ⟨some 108, _, _, _, _, _⟩) (v := ?_) rfl (by kernel_rfl) (by kernel_rfl) (by kernel_rfl) (fun _ _ _ h => h) (Or.inl ⟨by rfl, ?_⟩) hHeld ?_
  rotate_left
  · intro w hSw; (try dsimp only at hSw); go_simp; all_goals (with_reducible rfl)
  try simp only [Act.put, List.setIfInBounds_toArray, List.set_cons_zero, List.set_cons_succ]
  refine wpAnyH_take (i := 59) (oi := ⟨some 109, _, _, _, _, _⟩) (v := ?_) rfl (by kernel_rfl) (by kernel_rfl) (by kernel_rfl) (fun _ _ _ h => h) (Or.inl ⟨by rfl, ?_⟩) hHeld ?_
  rotate_left
  · intro w hSw; (try dsimp only at hSw); go_simp; all_goals (with_reducible rfl)
  try simp only [Act.put, List.setIfInBounds_toArray, List.set_cons_zero, List.set_cons_succ]
  refine wpAnyH_take (i := 60) (oi := ⟨some 0, _, _, _, _, _⟩) (v := ?_) rfl (by kernel_rfl) (by kernel_rfl) (by kernel_rfl) (fun _ _ _ h => h) (Or.inl ⟨by rfl, ?_⟩) hHeld ?_
  rotate_left
  · intro w hSw; (try dsimp only at hSw); go_simp; all_goals (with_reducible rfl)
  try simp only [Act.put, List.setIfInBounds_toArray, List.set_cons_zero]
  refine wpAnyH_done (by kernel_rfl) ?_ _
  refine NoPanic.normal ?_
  go_wp2_with fail
  go_ret
  exact ⟨rfl, HBi.out⟩
end Go.Proofs.Ytonnlhehbhiiiaa


