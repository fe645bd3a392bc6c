/- The walk of AggLaws. -/
import Derived.Test.YtomjofhjmghdfaaDoorGl
import Derived.Test.YtomjofhjmghdfaaDoorGm
import Derived.Deep.QuietTactic
import Derived.BigQuiet
namespace Go.Proofs.YtomjofhjmghdfaaDoor
open Ieee Go.RowKit

/-- A block that holds a kind and three values. -/
structure TB (w : World) (p : Nat) (k : Int) (A B C : Vl) : Prop where
  c0 : w.cell? ⟨p, 0, none⟩ = some (.int .i64 k)
  c1 : w.cell? ⟨p, 1, none⟩ = some (.bool A.h)
  c2 : w.cell? ⟨p, 2, none⟩ = some (.int .u64 A.b)
  c3 : w.cell? ⟨p, 3, none⟩ = some (.bool B.h)
  c4 : w.cell? ⟨p, 4, none⟩ = some (.int .u64 B.b)
  c5 : w.cell? ⟨p, 5, none⟩ = some (.bool C.h)
  c6 : w.cell? ⟨p, 6, none⟩ = some (.int .u64 C.b)

theorem TB.below {w w' : World} {p : Nat} {k : Int} {A B C : Vl} (h : TB w p k A B C) (hb : Below w.heap.size w w') : TB w' p k A B C := by
  have hl := cell_lt h.c0
  obtain ⟨c0, c1, c2, c3, c4, c5, c6⟩ := h
  constructor
  · rw [hb.cell (p := ⟨p, 0, none⟩) hl]; exact c0
  · rw [hb.cell (p := ⟨p, 1, none⟩) hl]; exact c1
  · rw [hb.cell (p := ⟨p, 2, none⟩) hl]; exact c2
  · rw [hb.cell (p := ⟨p, 3, none⟩) hl]; exact c3
  · rw [hb.cell (p := ⟨p, 4, none⟩) hl]; exact c4
  · rw [hb.cell (p := ⟨p, 5, none⟩) hl]; exact c5
  · rw [hb.cell (p := ⟨p, 6, none⟩) hl]; exact c6

theorem tb_new (w : World) (k : Int) (A B C : Vl) : TB (w.alloc (Obj.cells #[Value.int IntKind.i64 k, Value.bool A.h, Value.int IntKind.u64 (A.b : Int), Value.bool B.h, Value.int IntKind.u64 (B.b : Int), Value.bool C.h, Value.int IntKind.u64 (C.b : Int)] 37)) w.heap.size k A B C := by
  constructor <;> simp [go_sem]

set_option maxRecDepth 100000 in
set_option maxHeartbeats 16000000 in
theorem agglaws_walk (k : Int) {A B C : Vl} (hA : A.ok) (hB : B.ok) (hC : C.ok) (w : World) (ht : Tb w) :
    Calls Tryd.prog 6 #[.agg #[.int .i64 k, .bool A.h, .int .u64 A.b, .bool B.h, .int .u64 B.b, .bool C.h, .int .u64 C.b]] w fun e w' => e = .returned (.bool true) ∧ Below w.heap.size w w' := by
  have HAO : Hid A.ok := hA
  have HBO : Hid B.ok := hB
  have HCO : Hid C.ok := hC
  obtain ⟨M, hM⟩ : ∃ M, M = mergeV k A B := ⟨_, rfl⟩
  have HMO : Hid M.ok := by show M.ok; rw [hM]; exact mergeV_ok k hA hB
  obtain ⟨Y, hY⟩ : ∃ Y, Y = mergeV k B C := ⟨_, rfl⟩
  have HYO : Hid Y.ok := by show Y.ok; rw [hY]; exact mergeV_ok k hB hC
  obtain ⟨X, hX⟩ : ∃ X, X = mergeV k M C := ⟨_, rfl⟩
  obtain ⟨F, hF⟩ : ∃ F, F = fitV k A := ⟨_, rfl⟩
  have HFO : Hid F.ok := by show F.ok; rw [hF]; exact fitV_ok k hA
  have HM1 : Hid (mergeV k ⟨A.h, A.b⟩ ⟨B.h, B.b⟩ = M) := hM.symm
  have HM2 : Hid (mergeV k ⟨B.h, B.b⟩ ⟨A.h, A.b⟩ = M) := by show mergeV k B A = M; rw [hM]; exact merge_comm k hB hA
  have HX1 : Hid (mergeV k ⟨M.h, M.b⟩ ⟨C.h, C.b⟩ = X) := hX.symm
  have HY1 : Hid (mergeV k ⟨B.h, B.b⟩ ⟨C.h, C.b⟩ = Y) := hY.symm
  have HX2 : Hid (mergeV k ⟨A.h, A.b⟩ ⟨Y.h, Y.b⟩ = X) := by show mergeV k A Y = X; rw [hX, hM, hY]; exact (merge_assoc k hA hB hC).symm
  have HF1 : Hid (mergeV k ⟨A.h, A.b⟩ ⟨false, 0⟩ = F) := by show mergeV k A noV = F; rw [hF]; exact merge_no k A
  have HF2 : Hid (mergeV k ⟨false, 0⟩ ⟨A.h, A.b⟩ = F) := by show mergeV k noV A = F; rw [hF]; exact no_merge k A
  have HF3 : Hid (fitV k ⟨A.h, A.b⟩ = F) := hF.symm
  have HF4 : Hid (fitV k ⟨F.h, F.b⟩ = F) := by show fitV k F = F; rw [hF]; exact fitV_fitV k A
  have HM3 : Hid (fitV k ⟨M.h, M.b⟩ = M) := by show fitV k M = M; rw [hM]; exact fit_merge k A B
  have HFE : Hid (F = fitV k A) := hF
  have HME : Hid (M = mergeV k A B) := hM
  clear hA hB hC hM hY hX hF
  go_enter Tryd.func6, Tryd.ntmps6
  go_wp2_with fail
  have T0 := tb_new w k A B C
  refine (awake_walk _ (ht.below (below_alloc _ _))).mono ?_
  rintro e w1 ⟨rfl, hB1⟩
  have HT1 : Hid (TB w1 w.heap.size k A B C) := T0.below hB1
  have HB1 : Hid (Below w.heap.size w w1) := below_trans (below_alloc _ _) hB1
  clear hB1 T0
  obtain ⟨c0, c1, c2, c3, c4, c5, c6⟩ := HT1.out
  go_wp2_with fail
  refine (merge_walk k HAO.out HBO.out _).mono ?_
  rw [show mergeV k A B = M from HM1.out]
  rintro e w2 ⟨rfl, hB2⟩
  have HB3 : Hid (Below w1.heap.size w1 (w2.alloc (Obj.cells #[Value.bool M.h, Value.int IntKind.u64 (M.b : Int)] 27))) := below_trans hB2 (below_alloc _ _)
  have HV3 : Hid (VB (w2.alloc (Obj.cells #[Value.bool M.h, Value.int IntKind.u64 (M.b : Int)] 27)) w2.heap.size M) := vb_new w2 M.h M.b
  clear hB2 c0 c1 c2 c3 c4 c5 c6
  go_wp2_with fail
  generalize w2.alloc (Obj.cells #[Value.bool M.h, Value.int IntKind.u64 (M.b : Int)] 27) = w3 at HB3 HV3 ⊢
  have HT3 : Hid (TB w3 w.heap.size k A B C) := HT1.out.below HB3.out
  have k1 : ∀ wx, Below w3.heap.size w3 wx → wx.cell? ⟨w.heap.size, 1, none⟩ = some (.bool A.h) := fun wx h => (HT3.out.below h).c1
  have k2 : ∀ wx, Below w3.heap.size w3 wx → wx.cell? ⟨w.heap.size, 2, none⟩ = some (.int .u64 A.b) := fun wx h => (HT3.out.below h).c2
  have k3 : ∀ wx, Below w3.heap.size w3 wx → wx.cell? ⟨w.heap.size, 3, none⟩ = some (.bool B.h) := fun wx h => (HT3.out.below h).c3
  have k4 : ∀ wx, Below w3.heap.size w3 wx → wx.cell? ⟨w.heap.size, 4, none⟩ = some (.int .u64 B.b) := fun wx h => (HT3.out.below h).c4
  have k5 : ∀ wx, Below w3.heap.size w3 wx → wx.cell? ⟨w.heap.size, 5, none⟩ = some (.bool C.h) := fun wx h => (HT3.out.below h).c5
  have k6 : ∀ wx, Below w3.heap.size w3 wx → wx.cell? ⟨w.heap.size, 6, none⟩ = some (.int .u64 C.b) := fun wx h => (HT3.out.below h).c6
  have k7 : ∀ wx, Below w3.heap.size w3 wx → wx.cell? ⟨w2.heap.size, 0, none⟩ = some (.bool M.h) := fun wx h => (HV3.out.below h (cell_lt HV3.out.c0)).c0
  have k8 : ∀ wx, Below w3.heap.size w3 wx → wx.cell? ⟨w2.heap.size, 1, none⟩ = some (.int .u64 M.b) := fun wx h => (HV3.out.below h (cell_lt HV3.out.c0)).c1
  go_cut [41] (fun g wx => g = .bool false ∧ Below w3.heap.size w3 wx)
  case first =>
    go_region_held3 (fun wx => Below w3.heap.size w3 wx) (first | assumption | exact (Below.refl _ _).drew)
      ((go_at_call 16; refine (merge_walk k (a := ⟨_, _⟩) (b := ⟨_, _⟩) (by first | exact HAO.out | exact HBO.out | exact HMO.out) (by first | exact HAO.out | exact HBO.out | exact HCO.out | exact HYO.out) _).mono ?_; (first | rw [HM2.out] | rw [HX1.out] | rw [HY1.out] | rw [HX2.out]); rintro e w9 ⟨rfl, hB9⟩; have hS9 : Below w3.heap.size w3 w9 := below_trans (by assumption) hB9))
    all_goals go_wp2_with fail
    all_goals go_meet
    all_goals exact ⟨by simp, by assumption⟩
  case rest =>
    obtain ⟨rfl, hBc⟩ := hcut
    have HBC : Hid (Below w3.heap.size w3 wc) := hBc
    have HTC : Hid (TB wc w.heap.size k A B C) := HT3.out.below hBc
    have HVC : Hid (VB wc w2.heap.size M) := HV3.out.below hBc (cell_lt HV3.out.c0)
    clear hBc k1 k2 k3 k4 k5 k6 k7 k8
    obtain ⟨c0, c1, c2, c3, c4, c5, c6⟩ := HTC.out
    go_wp2_with fail
    refine (fit_walk k HAO.out _).mono ?_
    rw [show fitV k A = F from HF3.out]
    rintro e w4 ⟨rfl, hB4⟩
    have HB5 : Hid (Below wc.heap.size wc (w4.alloc (Obj.cells #[Value.bool F.h, Value.int IntKind.u64 (F.b : Int)] 27))) := below_trans hB4 (below_alloc _ _)
    have HF5 : Hid (VB (w4.alloc (Obj.cells #[Value.bool F.h, Value.int IntKind.u64 (F.b : Int)] 27)) w4.heap.size F) := vb_new w4 F.h F.b
    clear hB4 c0 c1 c2 c3 c4 c5 c6
    go_wp2_with fail
    generalize w4.alloc (Obj.cells #[Value.bool F.h, Value.int IntKind.u64 (F.b : Int)] 27) = w5 at HB5 HF5 ⊢
    have HT5 : Hid (TB w5 w.heap.size k A B C) := HTC.out.below HB5.out
    have HV5 : Hid (VB w5 w2.heap.size M) := HVC.out.below HB5.out (cell_lt HVC.out.c0)
    have k1 : ∀ wx, Below w5.heap.size w5 wx → wx.cell? ⟨w.heap.size, 1, none⟩ = some (.bool A.h) := fun wx h => (HT5.out.below h).c1
    have k2 : ∀ wx, Below w5.heap.size w5 wx → wx.cell? ⟨w.heap.size, 2, none⟩ = some (.int .u64 A.b) := fun wx h => (HT5.out.below h).c2
    have k7 : ∀ wx, Below w5.heap.size w5 wx → wx.cell? ⟨w2.heap.size, 0, none⟩ = some (.bool M.h) := fun wx h => (HV5.out.below h (cell_lt HV5.out.c0)).c0
    have k8 : ∀ wx, Below w5.heap.size w5 wx → wx.cell? ⟨w2.heap.size, 1, none⟩ = some (.int .u64 M.b) := fun wx h => (HV5.out.below h (cell_lt HV5.out.c0)).c1
    have k9 : ∀ wx, Below w5.heap.size w5 wx → wx.cell? ⟨w4.heap.size, 0, none⟩ = some (.bool F.h) := fun wx h => (HF5.out.below h (cell_lt HF5.out.c0)).c0
    have k0 : ∀ wx, Below w5.heap.size w5 wx → wx.cell? ⟨w4.heap.size, 1, none⟩ = some (.int .u64 F.b) := fun wx h => (HF5.out.below h (cell_lt HF5.out.c0)).c1
    go_cut [75] (fun g wx => g = .bool false ∧ Below w5.heap.size w5 wx)
    case first =>
      go_region_held3 (fun wx => Below w5.heap.size w5 wx) (first | assumption | exact (Below.refl _ _).drew)
        (first
          | (go_at_call 16; refine (merge_walk k (a := ⟨_, _⟩) (b := ⟨_, _⟩) (by first | exact HAO.out | exact noV_ok) (by first | exact HAO.out | exact noV_ok) _).mono ?_; (first | rw [HF1.out] | rw [HF2.out]); rintro e w9 ⟨rfl, hB9⟩; have hS9 : Below w5.heap.size w5 w9 := below_trans (by assumption) hB9)
          | (go_at_call 14; refine (fit_walk k (v := ⟨_, _⟩) (by first | exact HFO.out | exact HMO.out) _).mono ?_; (first | rw [HF4.out] | rw [HM3.out]); rintro e w9 ⟨rfl, hB9⟩; have hS9 : Below w5.heap.size w5 w9 := below_trans (by assumption) hB9))
      all_goals go_wp2_with fail
      all_goals go_meet
      all_goals exact ⟨by simp, by assumption⟩
    case rest =>
      obtain ⟨rfl, hBd⟩ := hcut
      have HBD : Hid (Below w.heap.size w wc) := below_trans HB1.out (below_trans HB3.out (below_trans HBC.out (below_trans HB5.out hBd)))
      have HTD : Hid (TB wc w.heap.size k A B C) := HT5.out.below hBd
      have HVD : Hid (VB wc w2.heap.size M) := HV5.out.below hBd (cell_lt HV5.out.c0)
      have HFD : Hid (VB wc w4.heap.size F) := HF5.out.below hBd (cell_lt HF5.out.c0)
      clear hBd k1 k2 k7 k8 k9 k0 HT1 HB1 HB3 HV3 HT3 HBC HTC HVC HB5 HF5 HT5 HV5 HM1 HM2 HX1 HY1 HX2 HF1 HF2 HF4 HM3
      obtain ⟨_, a1, a2, b1, _, _, _⟩ := HTD.out
      obtain ⟨m0, _, _, _⟩ := HVD.out
      obtain ⟨f0, f1, _, _⟩ := HFD.out
      cases hk : knownB k
      · have hF0 : F = noV := by rw [HFE.out]; exact fitV_un hk A
        have hM0 : M = noV := by rw [HME.out]; exact merge_un hk A B
        rw [hF0] at f0 f1
        rw [hM0] at m0
        obtain ⟨_, _, n3, n4⟩ := unknown_kind hk
        have b3 := neq_b n3
        have b4 := neq_b n4
        have d3 : (k != 3) = true := by simp [n3]
        have d4 : (k != 4) = true := by simp [n4]
        clear hF0 hM0
        go_wp2_with (go_at_call 10; refine (known_walk _ _).mono ?_; rintro e w' ⟨rfl, hw⟩; replace hw := hw.symm; subst hw)
        go_quiet (fail)
        all_goals go_wp2_with fail
        all_goals go_ret
        all_goals exact ⟨rfl, below_trans HBD.out (below_drewN _ _)⟩
      · have hfh : F.h = A.h := by rw [HFE.out]; exact fit_has hk A
        have hmh : M.h = (A.h || B.h) := by rw [HME.out]; exact merge_has hk A B
        cases hah : A.h
        · have hF0 : F = noV := by rw [HFE.out]; exact fit_none (by rw [← HFE.out, hfh, hah])
          cases hbh : B.h
          · rw [hah, hbh] at hmh
            rw [show (false || false) = false from rfl] at hmh
            rw [hF0] at f0 f1
            rw [hmh] at m0
            rw [hah] at a1
            rw [hbh] at b1
            have HAH : Hid (A.h = false) := hah
            clear hF0 hmh hfh hah hbh
            by_cases h3 : k = 3
            · subst h3
              have HSE : Hid (mergeV 3 ⟨false, A.b⟩ ⟨false, A.b⟩ = F) := by show _ = _; rw [← HAH.out]; show mergeV 3 A A = F; rw [merge_self (.inl rfl)]; exact HFE.out.symm
              have HAO' : Hid (Vl.ok ⟨false, A.b⟩) := HAO.out
              go_wp2_with (go_at_call 10; refine (known_walk _ _).mono ?_; rintro e w' ⟨rfl, hw⟩; replace hw := hw.symm; subst hw)
              have k1 : ∀ wx, Below wc.heap.size wc wx → wx.cell? ⟨w.heap.size, 1, none⟩ = some (.bool false) := fun wx h => by rw [← HAH.out]; exact (HTD.out.below h).c1
              have k2 : ∀ wx, Below wc.heap.size wc wx → wx.cell? ⟨w.heap.size, 2, none⟩ = some (.int .u64 A.b) := fun wx h => (HTD.out.below h).c2
              have k9 : ∀ wx, Below wc.heap.size wc wx → wx.cell? ⟨w4.heap.size, 0, none⟩ = some (.bool F.h) := fun wx h => (HFD.out.below h (cell_lt HFD.out.c0)).c0
              have k0 : ∀ wx, Below wc.heap.size wc wx → wx.cell? ⟨w4.heap.size, 1, none⟩ = some (.int .u64 F.b) := fun wx h => (HFD.out.below h (cell_lt HFD.out.c0)).c1
              clear a1 a2 b1 m0 f0 f1
              refine wp_region_noPanic ?_
              refine wp_region_held_drew (S := fun wx => Below wc.heap.size wc wx) (by kernel_rfl) ?_ (fun hHeld => ?_)
              · exact (Below.refl _ _).drew
              refine wpAnyH_take (i := 0) (oi := ⟨some 120, _, _, _, _, _⟩) (v := ?_) rfl (by kernel_rfl) (by kernel_rfl) (by kernel_rfl) (fun _ _ _ h => h) (Or.inl ⟨by rfl, ?_⟩) (by assumption) ?_
              rotate_left
              · intro w hSw; (try dsimp only at hSw); go_simp; all_goals (with_reducible rfl)
              try simp only [Act.put, List.setIfInBounds_toArray, List.set_cons_zero, List.set_cons_succ]
              refine wpAnyH_take (i := 1) (oi := ⟨some 121, _, _, _, _, _⟩) (v := ?_) rfl (by kernel_rfl) (by kernel_rfl) (by kernel_rfl) (fun _ _ _ h => h) (Or.inl ⟨by rfl, ?_⟩) (by assumption) ?_
              rotate_left
              · intro w hSw; (try dsimp only at hSw); go_simp; all_goals (with_reducible rfl)
              try simp only [Act.put, List.setIfInBounds_toArray, List.set_cons_zero, List.set_cons_succ]
              refine wpAnyH_take (i := 2) (oi := ⟨some 122, _, _, _, _, _⟩) (v := ?_) rfl (by kernel_rfl) (by kernel_rfl) (by kernel_rfl) (fun _ _ _ h => h) (Or.inl ⟨by rfl, ?_⟩) (by assumption) ?_
              rotate_left
              · intro w hSw; (try dsimp only at hSw); go_simp; all_goals (with_reducible rfl)
              try simp only [Act.put, List.setIfInBounds_toArray, List.set_cons_zero, List.set_cons_succ]
              refine wpAnyH_take (i := 3) (oi := ⟨some 123, _, _, _, _, _⟩) (v := undef) rfl (by kernel_rfl) (by kernel_rfl) (by kernel_rfl) (fun _ _ _ h => h) (Or.inr ⟨by rfl, rfl⟩) (by assumption) ?_
              try simp only [Act.put, List.setIfInBounds_toArray, List.set_cons_zero, List.set_cons_succ]
              refine wpAnyH_take (i := 4) (oi := ⟨some 124, _, _, _, _, _⟩) (v := undef) rfl (by kernel_rfl) (by kernel_rfl) (by kernel_rfl) (fun _ _ _ h => h) (Or.inr ⟨by rfl, rfl⟩) (by assumption) ?_
              try simp only [Act.put, List.setIfInBounds_toArray, List.set_cons_zero, List.set_cons_succ]
              refine wpAnyH_take (i := 5) (oi := ⟨some 125, _, _, _, _, _⟩) (v := ?_) rfl (by kernel_rfl) (by kernel_rfl) (by kernel_rfl) (fun _ _ _ h => h) (Or.inl ⟨by rfl, ?_⟩) (by assumption) ?_
              rotate_left
              · intro w hSw; (try dsimp only at hSw); go_simp; all_goals (with_reducible rfl)
              try simp only [Act.put, List.setIfInBounds_toArray, List.set_cons_zero, List.set_cons_succ]
              refine wpAnyH_take (i := 6) (oi := ⟨some 126, _, _, _, _, _⟩) (v := ?_) rfl (by kernel_rfl) (by kernel_rfl) (by kernel_rfl) (fun _ _ _ h => h) (Or.inl ⟨by rfl, ?_⟩) (by assumption) ?_
              rotate_left
              · intro w hSw; (try dsimp only at hSw); go_simp; all_goals (with_reducible rfl)
              try simp only [Act.put, List.setIfInBounds_toArray, List.set_cons_zero, List.set_cons_succ]
              refine wpAnyH_take (i := 7) (oi := ⟨some 127, _, _, _, _, _⟩) (v := ?_) rfl (by kernel_rfl) (by kernel_rfl) (by kernel_rfl) (fun _ _ _ h => h) (Or.inl ⟨by rfl, ?_⟩) (by assumption) ?_
              rotate_left
              · intro w hSw; (try dsimp only at hSw); go_simp; all_goals (with_reducible rfl)
              try simp only [Act.put, List.setIfInBounds_toArray, List.set_cons_zero, List.set_cons_succ]
              refine wpAnyH_take (i := 8) (oi := ⟨some 128, _, _, _, _, _⟩) (v := ?_) rfl (by kernel_rfl) (by kernel_rfl) (by kernel_rfl) (fun _ _ _ h => h) (Or.inl ⟨by rfl, ?_⟩) (by assumption) ?_
              rotate_left
              · intro w hSw; (try dsimp only at hSw); go_simp; all_goals (with_reducible rfl)
              try simp only [Act.put, List.setIfInBounds_toArray, List.set_cons_zero, List.set_cons_succ]
              refine wpAnyH_take (i := 9) (oi := ⟨some 129, _, _, _, _, _⟩) (v := ?_) rfl (by kernel_rfl) (by kernel_rfl) (by kernel_rfl) (fun _ _ _ h => h) (Or.inl ⟨by rfl, ?_⟩) (by assumption) ?_
              rotate_left
              · intro w hSw; (try dsimp only at hSw); go_simp; all_goals (with_reducible rfl)
              try simp only [Act.put, List.setIfInBounds_toArray, List.set_cons_zero, List.set_cons_succ]
              refine wpAnyH_take (i := 10) (oi := ⟨some 130, _, _, _, _, _⟩) (v := ?_) rfl (by kernel_rfl) (by kernel_rfl) (by kernel_rfl) (fun _ _ _ h => h) (Or.inl ⟨by rfl, ?_⟩) (by assumption) ?_
              rotate_left
              · intro w hSw; (try dsimp only at hSw); go_simp; all_goals (with_reducible rfl)
              try simp only [Act.put, List.setIfInBounds_toArray, List.set_cons_zero, List.set_cons_succ]
              refine wpAnyH_take (i := 11) (oi := ⟨some 131, _, _, _, _, _⟩) (v := ?_) rfl (by kernel_rfl) (by kernel_rfl) (by kernel_rfl) (fun _ _ _ h => h) (Or.inl ⟨by rfl, ?_⟩) (by assumption) ?_
              rotate_left
              · intro w hSw; (try dsimp only at hSw); go_simp; all_goals (with_reducible rfl)
              try simp only [Act.put, List.setIfInBounds_toArray, List.set_cons_zero, List.set_cons_succ]
              refine wpAnyH_take (i := 13) (oi := ⟨some 133, _, _, _, _, _⟩) (v := ?_) rfl (by kernel_rfl) (by kernel_rfl) (by kernel_rfl) (fun _ _ _ h => h) (Or.inl ⟨by rfl, ?_⟩) (by assumption) ?_
              rotate_left
              · intro w hSw; (try dsimp only at hSw); go_simp; all_goals (with_reducible rfl)
              try simp only [Act.put, List.setIfInBounds_toArray, List.set_cons_zero, List.set_cons_succ]
              refine wpAnyH_ready (rs := [12]) (by kernel_rfl) (by simp) ?_
              refine AllReadyH.cons (o := ⟨some 132, _, _, _, _, _⟩) rfl (fun K hK => ?_) AllReadyH.nil
              go_simp
              refine (merge_walk 3 (a := ⟨_, _⟩) (b := ⟨_, _⟩) (by exact HAO'.out) (by exact HAO'.out) _).mono ?_
              rw [HSE.out]
              rintro e w9 ⟨rfl, hB9⟩
              have hS9 : Below wc.heap.size wc w9 := below_trans hHeld hB9
              clear hB9 hHeld
              go_simp
              refine hK.out _ _ ?_ (fun hHeld => ?_)
              · exact hS9
              clear hK K
              try simp only [Act.put, List.setIfInBounds_toArray, List.set_cons_zero, List.set_cons_succ]
              refine wpAnyH_take (i := 14) (oi := ⟨some 134, _, _, _, _, _⟩) (v := ?_) rfl (by kernel_rfl) (by kernel_rfl) (by kernel_rfl) (fun _ _ _ h => h) (Or.inl ⟨by rfl, ?_⟩) (by assumption) ?_
              rotate_left
              · intro w hSw; (try dsimp only at hSw); go_simp; all_goals (with_reducible rfl)
              try simp only [Act.put, List.setIfInBounds_toArray, List.set_cons_zero, List.set_cons_succ]
              refine wpAnyH_take (i := 15) (oi := ⟨some 135, _, _, _, _, _⟩) (v := ?_) rfl (by kernel_rfl) (by kernel_rfl) (by kernel_rfl) (fun _ _ _ h => h) (Or.inl ⟨by rfl, ?_⟩) (by assumption) ?_
              rotate_left
              · intro w hSw; (try dsimp only at hSw); go_simp; all_goals (with_reducible rfl)
              try simp only [Act.put, List.setIfInBounds_toArray, List.set_cons_zero, List.set_cons_succ]
              refine wpAnyH_take (i := 16) (oi := ⟨some 2, _, _, _, _, _⟩) (v := ?_) rfl (by kernel_rfl) (by kernel_rfl) (by kernel_rfl) (fun _ _ _ h => h) (Or.inl ⟨by rfl, ?_⟩) (by assumption) ?_
              rotate_left
              · intro w hSw; (try dsimp only at hSw); go_simp; all_goals (with_reducible rfl)
              try simp only [Act.put, List.setIfInBounds_toArray, List.set_cons_zero, List.set_cons_succ]
              refine wpAnyH_done (by kernel_rfl) ?_ _
              refine NoPanic.normal ?_
              all_goals go_wp2_with fail
              all_goals go_ret
              all_goals exact ⟨rfl, below_trans HBD.out hS9⟩
            by_cases h4 : k = 4
            · subst h4
              have HSE : Hid (mergeV 4 ⟨false, A.b⟩ ⟨false, A.b⟩ = F) := by show _ = _; rw [← HAH.out]; show mergeV 4 A A = F; rw [merge_self (.inr rfl)]; exact HFE.out.symm
              have HAO' : Hid (Vl.ok ⟨false, A.b⟩) := HAO.out
              go_wp2_with (go_at_call 10; refine (known_walk _ _).mono ?_; rintro e w' ⟨rfl, hw⟩; replace hw := hw.symm; subst hw)
              have k1 : ∀ wx, Below wc.heap.size wc wx → wx.cell? ⟨w.heap.size, 1, none⟩ = some (.bool false) := fun wx h => by rw [← HAH.out]; exact (HTD.out.below h).c1
              have k2 : ∀ wx, Below wc.heap.size wc wx → wx.cell? ⟨w.heap.size, 2, none⟩ = some (.int .u64 A.b) := fun wx h => (HTD.out.below h).c2
              have k9 : ∀ wx, Below wc.heap.size wc wx → wx.cell? ⟨w4.heap.size, 0, none⟩ = some (.bool F.h) := fun wx h => (HFD.out.below h (cell_lt HFD.out.c0)).c0
              have k0 : ∀ wx, Below wc.heap.size wc wx → wx.cell? ⟨w4.heap.size, 1, none⟩ = some (.int .u64 F.b) := fun wx h => (HFD.out.below h (cell_lt HFD.out.c0)).c1
              clear a1 a2 b1 m0 f0 f1
              go_region_held3 (fun wx => Below wc.heap.size wc wx) (first | assumption | exact (Below.refl _ _).drew)
                ((go_at_call 16; refine (merge_walk 4 (a := ⟨_, _⟩) (b := ⟨_, _⟩) (by exact HAO'.out) (by exact HAO'.out) _).mono ?_; rw [HSE.out]; rintro e w9 ⟨rfl, hB9⟩; have hS9 : Below wc.heap.size wc w9 := below_trans (by assumption) hB9))
              all_goals go_wp2_with fail
              all_goals go_ret
              all_goals exact ⟨rfl, below_trans HBD.out hS9⟩
            · have b3 := neq_b h3
              have b4 := neq_b h4
              have d3 : (k != 3) = true := by simp [h3]
              have d4 : (k != 4) = true := by simp [h4]
              go_wp2_with (go_at_call 10; refine (known_walk _ _).mono ?_; rintro e w' ⟨rfl, hw⟩; replace hw := hw.symm; subst hw)
              go_quiet (fail)
              all_goals go_wp2_with fail
              all_goals go_ret
              all_goals exact ⟨rfl, below_trans HBD.out (below_drewN _ _)⟩
          · rw [hah, hbh] at hmh
            rw [show (false || true) = true from rfl] at hmh
            rw [hF0] at f0 f1
            rw [hmh] at m0
            rw [hah] at a1
            rw [hbh] at b1
            have HAH : Hid (A.h = false) := hah
            clear hF0 hmh hfh hah hbh
            by_cases h3 : k = 3
            · subst h3
              have HSE : Hid (mergeV 3 ⟨false, A.b⟩ ⟨false, A.b⟩ = F) := by show _ = _; rw [← HAH.out]; show mergeV 3 A A = F; rw [merge_self (.inl rfl)]; exact HFE.out.symm
              have HAO' : Hid (Vl.ok ⟨false, A.b⟩) := HAO.out
              go_wp2_with (go_at_call 10; refine (known_walk _ _).mono ?_; rintro e w' ⟨rfl, hw⟩; replace hw := hw.symm; subst hw)
              have k1 : ∀ wx, Below wc.heap.size wc wx → wx.cell? ⟨w.heap.size, 1, none⟩ = some (.bool false) := fun wx h => by rw [← HAH.out]; exact (HTD.out.below h).c1
              have k2 : ∀ wx, Below wc.heap.size wc wx → wx.cell? ⟨w.heap.size, 2, none⟩ = some (.int .u64 A.b) := fun wx h => (HTD.out.below h).c2
              have k9 : ∀ wx, Below wc.heap.size wc wx → wx.cell? ⟨w4.heap.size, 0, none⟩ = some (.bool F.h) := fun wx h => (HFD.out.below h (cell_lt HFD.out.c0)).c0
              have k0 : ∀ wx, Below wc.heap.size wc wx → wx.cell? ⟨w4.heap.size, 1, none⟩ = some (.int .u64 F.b) := fun wx h => (HFD.out.below h (cell_lt HFD.out.c0)).c1
              clear a1 a2 b1 m0 f0 f1
              refine wp_region_noPanic ?_
              refine wp_region_held_drew (S := fun wx => Below wc.heap.size wc wx) (by kernel_rfl) ?_ (fun hHeld => ?_)
              · exact (Below.refl _ _).drew
              refine wpAnyH_take (i := 0) (oi := ⟨some 120, _, _, _, _, _⟩) (v := ?_) rfl (by kernel_rfl) (by kernel_rfl) (by kernel_rfl) (fun _ _ _ h => h) (Or.inl ⟨by rfl, ?_⟩) (by assumption) ?_
              rotate_left
              · intro w hSw; (try dsimp only at hSw); go_simp; all_goals (with_reducible rfl)
              try simp only [Act.put, List.setIfInBounds_toArray, List.set_cons_zero, List.set_cons_succ]
              refine wpAnyH_take (i := 1) (oi := ⟨some 121, _, _, _, _, _⟩) (v := ?_) rfl (by kernel_rfl) (by kernel_rfl) (by kernel_rfl) (fun _ _ _ h => h) (Or.inl ⟨by rfl, ?_⟩) (by assumption) ?_
              rotate_left
              · intro w hSw; (try dsimp only at hSw); go_simp; all_goals (with_reducible rfl)
              try simp only [Act.put, List.setIfInBounds_toArray, List.set_cons_zero, List.set_cons_succ]
              refine wpAnyH_take (i := 2) (oi := ⟨some 122, _, _, _, _, _⟩) (v := ?_) rfl (by kernel_rfl) (by kernel_rfl) (by kernel_rfl) (fun _ _ _ h => h) (Or.inl ⟨by rfl, ?_⟩) (by assumption) ?_
              rotate_left
              · intro w hSw; (try dsimp only at hSw); go_simp; all_goals (with_reducible rfl)
              try simp only [Act.put, List.setIfInBounds_toArray, List.set_cons_zero, List.set_cons_succ]
              refine wpAnyH_take (i := 3) (oi := ⟨some 123, _, _, _, _, _⟩) (v := undef) rfl (by kernel_rfl) (by kernel_rfl) (by kernel_rfl) (fun _ _ _ h => h) (Or.inr ⟨by rfl, rfl⟩) (by assumption) ?_
              try simp only [Act.put, List.setIfInBounds_toArray, List.set_cons_zero, List.set_cons_succ]
              refine wpAnyH_take (i := 4) (oi := ⟨some 124, _, _, _, _, _⟩) (v := undef) rfl (by kernel_rfl) (by kernel_rfl) (by kernel_rfl) (fun _ _ _ h => h) (Or.inr ⟨by rfl, rfl⟩) (by assumption) ?_
              try simp only [Act.put, List.setIfInBounds_toArray, List.set_cons_zero, List.set_cons_succ]
              refine wpAnyH_take (i := 5) (oi := ⟨some 125, _, _, _, _, _⟩) (v := ?_) rfl (by kernel_rfl) (by kernel_rfl) (by kernel_rfl) (fun _ _ _ h => h) (Or.inl ⟨by rfl, ?_⟩) (by assumption) ?_
              rotate_left
              · intro w hSw; (try dsimp only at hSw); go_simp; all_goals (with_reducible rfl)
              try simp only [Act.put, List.setIfInBounds_toArray, List.set_cons_zero, List.set_cons_succ]
              refine wpAnyH_take (i := 6) (oi := ⟨some 126, _, _, _, _, _⟩) (v := ?_) rfl (by kernel_rfl) (by kernel_rfl) (by kernel_rfl) (fun _ _ _ h => h) (Or.inl ⟨by rfl, ?_⟩) (by assumption) ?_
              rotate_left
              · intro w hSw; (try dsimp only at hSw); go_simp; all_goals (with_reducible rfl)
              try simp only [Act.put, List.setIfInBounds_toArray, List.set_cons_zero, List.set_cons_succ]
              refine wpAnyH_take (i := 7) (oi := ⟨some 127, _, _, _, _, _⟩) (v := ?_) rfl (by kernel_rfl) (by kernel_rfl) (by kernel_rfl) (fun _ _ _ h => h) (Or.inl ⟨by rfl, ?_⟩) (by assumption) ?_
              rotate_left
              · intro w hSw; (try dsimp only at hSw); go_simp; all_goals (with_reducible rfl)
              try simp only [Act.put, List.setIfInBounds_toArray, List.set_cons_zero, List.set_cons_succ]
              refine wpAnyH_take (i := 8) (oi := ⟨some 128, _, _, _, _, _⟩) (v := ?_) rfl (by kernel_rfl) (by kernel_rfl) (by kernel_rfl) (fun _ _ _ h => h) (Or.inl ⟨by rfl, ?_⟩) (by assumption) ?_
              rotate_left
              · intro w hSw; (try dsimp only at hSw); go_simp; all_goals (with_reducible rfl)
              try simp only [Act.put, List.setIfInBounds_toArray, List.set_cons_zero, List.set_cons_succ]
              refine wpAnyH_take (i := 9) (oi := ⟨some 129, _, _, _, _, _⟩) (v := ?_) rfl (by kernel_rfl) (by kernel_rfl) (by kernel_rfl) (fun _ _ _ h => h) (Or.inl ⟨by rfl, ?_⟩) (by assumption) ?_
              rotate_left
              · intro w hSw; (try dsimp only at hSw); go_simp; all_goals (with_reducible rfl)
              try simp only [Act.put, List.setIfInBounds_toArray, List.set_cons_zero, List.set_cons_succ]
              refine wpAnyH_take (i := 10) (oi := ⟨some 130, _, _, _, _, _⟩) (v := ?_) rfl (by kernel_rfl) (by kernel_rfl) (by kernel_rfl) (fun _ _ _ h => h) (Or.inl ⟨by rfl, ?_⟩) (by assumption) ?_
              rotate_left
              · intro w hSw; (try dsimp only at hSw); go_simp; all_goals (with_reducible rfl)
              try simp only [Act.put, List.setIfInBounds_toArray, List.set_cons_zero, List.set_cons_succ]
              refine wpAnyH_take (i := 11) (oi := ⟨some 131, _, _, _, _, _⟩) (v := ?_) rfl (by kernel_rfl) (by kernel_rfl) (by kernel_rfl) (fun _ _ _ h => h) (Or.inl ⟨by rfl, ?_⟩) (by assumption) ?_
              rotate_left
              · intro w hSw; (try dsimp only at hSw); go_simp; all_goals (with_reducible rfl)
              try simp only [Act.put, List.setIfInBounds_toArray, List.set_cons_zero, List.set_cons_succ]
              refine wpAnyH_take (i := 13) (oi := ⟨some 133, _, _, _, _, _⟩) (v := ?_) rfl (by kernel_rfl) (by kernel_rfl) (by kernel_rfl) (fun _ _ _ h => h) (Or.inl ⟨by rfl, ?_⟩) (by assumption) ?_
              rotate_left
              · intro w hSw; (try dsimp only at hSw); go_simp; all_goals (with_reducible rfl)
              try simp only [Act.put, List.setIfInBounds_toArray, List.set_cons_zero, List.set_cons_succ]
              refine wpAnyH_ready (rs := [12]) (by kernel_rfl) (by simp) ?_
              refine AllReadyH.cons (o := ⟨some 132, _, _, _, _, _⟩) rfl (fun K hK => ?_) AllReadyH.nil
              go_simp
              refine (merge_walk 3 (a := ⟨_, _⟩) (b := ⟨_, _⟩) (by exact HAO'.out) (by exact HAO'.out) _).mono ?_
              rw [HSE.out]
              rintro e w9 ⟨rfl, hB9⟩
              have hS9 : Below wc.heap.size wc w9 := below_trans hHeld hB9
              clear hB9 hHeld
              go_simp
              refine hK.out _ _ ?_ (fun hHeld => ?_)
              · exact hS9
              clear hK K
              try simp only [Act.put, List.setIfInBounds_toArray, List.set_cons_zero, List.set_cons_succ]
              refine wpAnyH_take (i := 14) (oi := ⟨some 134, _, _, _, _, _⟩) (v := ?_) rfl (by kernel_rfl) (by kernel_rfl) (by kernel_rfl) (fun _ _ _ h => h) (Or.inl ⟨by rfl, ?_⟩) (by assumption) ?_
              rotate_left
              · intro w hSw; (try dsimp only at hSw); go_simp; all_goals (with_reducible rfl)
              try simp only [Act.put, List.setIfInBounds_toArray, List.set_cons_zero, List.set_cons_succ]
              refine wpAnyH_take (i := 15) (oi := ⟨some 135, _, _, _, _, _⟩) (v := ?_) rfl (by kernel_rfl) (by kernel_rfl) (by kernel_rfl) (fun _ _ _ h => h) (Or.inl ⟨by rfl, ?_⟩) (by assumption) ?_
              rotate_left
              · intro w hSw; (try dsimp only at hSw); go_simp; all_goals (with_reducible rfl)
              try simp only [Act.put, List.setIfInBounds_toArray, List.set_cons_zero, List.set_cons_succ]
              refine wpAnyH_take (i := 16) (oi := ⟨some 2, _, _, _, _, _⟩) (v := ?_) rfl (by kernel_rfl) (by kernel_rfl) (by kernel_rfl) (fun _ _ _ h => h) (Or.inl ⟨by rfl, ?_⟩) (by assumption) ?_
              rotate_left
              · intro w hSw; (try dsimp only at hSw); go_simp; all_goals (with_reducible rfl)
              try simp only [Act.put, List.setIfInBounds_toArray, List.set_cons_zero, List.set_cons_succ]
              refine wpAnyH_done (by kernel_rfl) ?_ _
              refine NoPanic.normal ?_
              all_goals go_wp2_with fail
              all_goals go_ret
              all_goals exact ⟨rfl, below_trans HBD.out hS9⟩
            by_cases h4 : k = 4
            · subst h4
              have HSE : Hid (mergeV 4 ⟨false, A.b⟩ ⟨false, A.b⟩ = F) := by show _ = _; rw [← HAH.out]; show mergeV 4 A A = F; rw [merge_self (.inr rfl)]; exact HFE.out.symm
              have HAO' : Hid (Vl.ok ⟨false, A.b⟩) := HAO.out
              go_wp2_with (go_at_call 10; refine (known_walk _ _).mono ?_; rintro e w' ⟨rfl, hw⟩; replace hw := hw.symm; subst hw)
              have k1 : ∀ wx, Below wc.heap.size wc wx → wx.cell? ⟨w.heap.size, 1, none⟩ = some (.bool false) := fun wx h => by rw [← HAH.out]; exact (HTD.out.below h).c1
              have k2 : ∀ wx, Below wc.heap.size wc wx → wx.cell? ⟨w.heap.size, 2, none⟩ = some (.int .u64 A.b) := fun wx h => (HTD.out.below h).c2
              have k9 : ∀ wx, Below wc.heap.size wc wx → wx.cell? ⟨w4.heap.size, 0, none⟩ = some (.bool F.h) := fun wx h => (HFD.out.below h (cell_lt HFD.out.c0)).c0
              have k0 : ∀ wx, Below wc.heap.size wc wx → wx.cell? ⟨w4.heap.size, 1, none⟩ = some (.int .u64 F.b) := fun wx h => (HFD.out.below h (cell_lt HFD.out.c0)).c1
              clear a1 a2 b1 m0 f0 f1
              go_region_held3 (fun wx => Below wc.heap.size wc wx) (first | assumption | exact (Below.refl _ _).drew)
                ((go_at_call 16; refine (merge_walk 4 (a := ⟨_, _⟩) (b := ⟨_, _⟩) (by exact HAO'.out) (by exact HAO'.out) _).mono ?_; rw [HSE.out]; rintro e w9 ⟨rfl, hB9⟩; have hS9 : Below wc.heap.size wc w9 := below_trans (by assumption) hB9))
              all_goals go_wp2_with fail
              all_goals go_ret
              all_goals exact ⟨rfl, below_trans HBD.out hS9⟩
            · have b3 := neq_b h3
              have b4 := neq_b h4
              have d3 : (k != 3) = true := by simp [h3]
              have d4 : (k != 4) = true := by simp [h4]
              go_wp2_with (go_at_call 10; refine (known_walk _ _).mono ?_; rintro e w' ⟨rfl, hw⟩; replace hw := hw.symm; subst hw)
              go_quiet (fail)
              all_goals go_wp2_with fail
              all_goals go_ret
              all_goals exact ⟨rfl, below_trans HBD.out (below_drewN _ _)⟩
        · rw [hah] at hfh
          rw [hah, Bool.true_or] at hmh
          rw [hfh] at f0
          rw [hmh] at m0
          rw [hah] at a1
          have HAH : Hid (A.h = true) := hah
          clear hfh hmh hah
          by_cases h3 : k = 3
          · subst h3
            have HSE : Hid (mergeV 3 ⟨true, A.b⟩ ⟨true, A.b⟩ = F) := by show _ = _; rw [← HAH.out]; show mergeV 3 A A = F; rw [merge_self (.inl rfl)]; exact HFE.out.symm
            have HAO' : Hid (Vl.ok ⟨true, A.b⟩) := HAO.out
            go_wp2_with (go_at_call 10; refine (known_walk _ _).mono ?_; rintro e w' ⟨rfl, hw⟩; replace hw := hw.symm; subst hw)
            have k1 : ∀ wx, Below wc.heap.size wc wx → wx.cell? ⟨w.heap.size, 1, none⟩ = some (.bool true) := fun wx h => by rw [← HAH.out]; exact (HTD.out.below h).c1
            have k2 : ∀ wx, Below wc.heap.size wc wx → wx.cell? ⟨w.heap.size, 2, none⟩ = some (.int .u64 A.b) := fun wx h => (HTD.out.below h).c2
            have k9 : ∀ wx, Below wc.heap.size wc wx → wx.cell? ⟨w4.heap.size, 0, none⟩ = some (.bool F.h) := fun wx h => (HFD.out.below h (cell_lt HFD.out.c0)).c0
            have k0 : ∀ wx, Below wc.heap.size wc wx → wx.cell? ⟨w4.heap.size, 1, none⟩ = some (.int .u64 F.b) := fun wx h => (HFD.out.below h (cell_lt HFD.out.c0)).c1
            clear a1 a2 b1 m0 f0 f1
            refine wp_region_noPanic ?_
            refine wp_region_held_drew (S := fun wx => Below wc.heap.size wc wx) (by kernel_rfl) ?_ (fun hHeld => ?_)
            · exact (Below.refl _ _).drew
            refine wpAnyH_take (i := 0) (oi := ⟨some 120, _, _, _, _, _⟩) (v := ?_) rfl (by kernel_rfl) (by kernel_rfl) (by kernel_rfl) (fun _ _ _ h => h) (Or.inl ⟨by rfl, ?_⟩) (by assumption) ?_
            rotate_left
            · intro w hSw; (try dsimp only at hSw); go_simp; all_goals (with_reducible rfl)
            try simp only [Act.put, List.setIfInBounds_toArray, List.set_cons_zero, List.set_cons_succ]
            refine wpAnyH_take (i := 1) (oi := ⟨some 121, _, _, _, _, _⟩) (v := ?_) rfl (by kernel_rfl) (by kernel_rfl) (by kernel_rfl) (fun _ _ _ h => h) (Or.inl ⟨by rfl, ?_⟩) (by assumption) ?_
            rotate_left
            · intro w hSw; (try dsimp only at hSw); go_simp; all_goals (with_reducible rfl)
            try simp only [Act.put, List.setIfInBounds_toArray, List.set_cons_zero, List.set_cons_succ]
            refine wpAnyH_take (i := 2) (oi := ⟨some 122, _, _, _, _, _⟩) (v := ?_) rfl (by kernel_rfl) (by kernel_rfl) (by kernel_rfl) (fun _ _ _ h => h) (Or.inl ⟨by rfl, ?_⟩) (by assumption) ?_
            rotate_left
            · intro w hSw; (try dsimp only at hSw); go_simp; all_goals (with_reducible rfl)
            try simp only [Act.put, List.setIfInBounds_toArray, List.set_cons_zero, List.set_cons_succ]
            refine wpAnyH_take (i := 3) (oi := ⟨some 123, _, _, _, _, _⟩) (v := undef) rfl (by kernel_rfl) (by kernel_rfl) (by kernel_rfl) (fun _ _ _ h => h) (Or.inr ⟨by rfl, rfl⟩) (by assumption) ?_
            try simp only [Act.put, List.setIfInBounds_toArray, List.set_cons_zero, List.set_cons_succ]
            refine wpAnyH_take (i := 4) (oi := ⟨some 124, _, _, _, _, _⟩) (v := undef) rfl (by kernel_rfl) (by kernel_rfl) (by kernel_rfl) (fun _ _ _ h => h) (Or.inr ⟨by rfl, rfl⟩) (by assumption) ?_
            try simp only [Act.put, List.setIfInBounds_toArray, List.set_cons_zero, List.set_cons_succ]
            refine wpAnyH_take (i := 5) (oi := ⟨some 125, _, _, _, _, _⟩) (v := ?_) rfl (by kernel_rfl) (by kernel_rfl) (by kernel_rfl) (fun _ _ _ h => h) (Or.inl ⟨by rfl, ?_⟩) (by assumption) ?_
            rotate_left
            · intro w hSw; (try dsimp only at hSw); go_simp; all_goals (with_reducible rfl)
            try simp only [Act.put, List.setIfInBounds_toArray, List.set_cons_zero, List.set_cons_succ]
            refine wpAnyH_take (i := 6) (oi := ⟨some 126, _, _, _, _, _⟩) (v := ?_) rfl (by kernel_rfl) (by kernel_rfl) (by kernel_rfl) (fun _ _ _ h => h) (Or.inl ⟨by rfl, ?_⟩) (by assumption) ?_
            rotate_left
            · intro w hSw; (try dsimp only at hSw); go_simp; all_goals (with_reducible rfl)
            try simp only [Act.put, List.setIfInBounds_toArray, List.set_cons_zero, List.set_cons_succ]
            refine wpAnyH_take (i := 7) (oi := ⟨some 127, _, _, _, _, _⟩) (v := ?_) rfl (by kernel_rfl) (by kernel_rfl) (by kernel_rfl) (fun _ _ _ h => h) (Or.inl ⟨by rfl, ?_⟩) (by assumption) ?_
            rotate_left
            · intro w hSw; (try dsimp only at hSw); go_simp; all_goals (with_reducible rfl)
            try simp only [Act.put, List.setIfInBounds_toArray, List.set_cons_zero, List.set_cons_succ]
            refine wpAnyH_take (i := 8) (oi := ⟨some 128, _, _, _, _, _⟩) (v := ?_) rfl (by kernel_rfl) (by kernel_rfl) (by kernel_rfl) (fun _ _ _ h => h) (Or.inl ⟨by rfl, ?_⟩) (by assumption) ?_
            rotate_left
            · intro w hSw; (try dsimp only at hSw); go_simp; all_goals (with_reducible rfl)
            try simp only [Act.put, List.setIfInBounds_toArray, List.set_cons_zero, List.set_cons_succ]
            refine wpAnyH_take (i := 9) (oi := ⟨some 129, _, _, _, _, _⟩) (v := ?_) rfl (by kernel_rfl) (by kernel_rfl) (by kernel_rfl) (fun _ _ _ h => h) (Or.inl ⟨by rfl, ?_⟩) (by assumption) ?_
            rotate_left
            · intro w hSw; (try dsimp only at hSw); go_simp; all_goals (with_reducible rfl)
            try simp only [Act.put, List.setIfInBounds_toArray, List.set_cons_zero, List.set_cons_succ]
            refine wpAnyH_take (i := 10) (oi := ⟨some 130, _, _, _, _, _⟩) (v := ?_) rfl (by kernel_rfl) (by kernel_rfl) (by kernel_rfl) (fun _ _ _ h => h) (Or.inl ⟨by rfl, ?_⟩) (by assumption) ?_
            rotate_left
            · intro w hSw; (try dsimp only at hSw); go_simp; all_goals (with_reducible rfl)
            try simp only [Act.put, List.setIfInBounds_toArray, List.set_cons_zero, List.set_cons_succ]
            refine wpAnyH_take (i := 11) (oi := ⟨some 131, _, _, _, _, _⟩) (v := ?_) rfl (by kernel_rfl) (by kernel_rfl) (by kernel_rfl) (fun _ _ _ h => h) (Or.inl ⟨by rfl, ?_⟩) (by assumption) ?_
            rotate_left
            · intro w hSw; (try dsimp only at hSw); go_simp; all_goals (with_reducible rfl)
            try simp only [Act.put, List.setIfInBounds_toArray, List.set_cons_zero, List.set_cons_succ]
            refine wpAnyH_take (i := 13) (oi := ⟨some 133, _, _, _, _, _⟩) (v := ?_) rfl (by kernel_rfl) (by kernel_rfl) (by kernel_rfl) (fun _ _ _ h => h) (Or.inl ⟨by rfl, ?_⟩) (by assumption) ?_
            rotate_left
            · intro w hSw; (try dsimp only at hSw); go_simp; all_goals (with_reducible rfl)
            try simp only [Act.put, List.setIfInBounds_toArray, List.set_cons_zero, List.set_cons_succ]
            refine wpAnyH_ready (rs := [12]) (by kernel_rfl) (by simp) ?_
            refine AllReadyH.cons (o := ⟨some 132, _, _, _, _, _⟩) rfl (fun K hK => ?_) AllReadyH.nil
            go_simp
            refine (merge_walk 3 (a := ⟨_, _⟩) (b := ⟨_, _⟩) (by exact HAO'.out) (by exact HAO'.out) _).mono ?_
            rw [HSE.out]
            rintro e w9 ⟨rfl, hB9⟩
            have hS9 : Below wc.heap.size wc w9 := below_trans hHeld hB9
            clear hB9 hHeld
            go_simp
            refine hK.out _ _ ?_ (fun hHeld => ?_)
            · exact hS9
            clear hK K
            try simp only [Act.put, List.setIfInBounds_toArray, List.set_cons_zero, List.set_cons_succ]
            refine wpAnyH_take (i := 14) (oi := ⟨some 134, _, _, _, _, _⟩) (v := ?_) rfl (by kernel_rfl) (by kernel_rfl) (by kernel_rfl) (fun _ _ _ h => h) (Or.inl ⟨by rfl, ?_⟩) (by assumption) ?_
            rotate_left
            · intro w hSw; (try dsimp only at hSw); go_simp; all_goals (with_reducible rfl)
            try simp only [Act.put, List.setIfInBounds_toArray, List.set_cons_zero, List.set_cons_succ]
            refine wpAnyH_take (i := 15) (oi := ⟨some 135, _, _, _, _, _⟩) (v := ?_) rfl (by kernel_rfl) (by kernel_rfl) (by kernel_rfl) (fun _ _ _ h => h) (Or.inl ⟨by rfl, ?_⟩) (by assumption) ?_
            rotate_left
            · intro w hSw; (try dsimp only at hSw); go_simp; all_goals (with_reducible rfl)
            try simp only [Act.put, List.setIfInBounds_toArray, List.set_cons_zero, List.set_cons_succ]
            refine wpAnyH_take (i := 16) (oi := ⟨some 2, _, _, _, _, _⟩) (v := ?_) rfl (by kernel_rfl) (by kernel_rfl) (by kernel_rfl) (fun _ _ _ h => h) (Or.inl ⟨by rfl, ?_⟩) (by assumption) ?_
            rotate_left
            · intro w hSw; (try dsimp only at hSw); go_simp; all_goals (with_reducible rfl)
            try simp only [Act.put, List.setIfInBounds_toArray, List.set_cons_zero, List.set_cons_succ]
            refine wpAnyH_done (by kernel_rfl) ?_ _
            refine NoPanic.normal ?_
            all_goals go_wp2_with fail
            all_goals go_ret
            all_goals exact ⟨rfl, below_trans HBD.out hS9⟩
          by_cases h4 : k = 4
          · subst h4
            have HSE : Hid (mergeV 4 ⟨true, A.b⟩ ⟨true, A.b⟩ = F) := by show _ = _; rw [← HAH.out]; show mergeV 4 A A = F; rw [merge_self (.inr rfl)]; exact HFE.out.symm
            have HAO' : Hid (Vl.ok ⟨true, A.b⟩) := HAO.out
            go_wp2_with (go_at_call 10; refine (known_walk _ _).mono ?_; rintro e w' ⟨rfl, hw⟩; replace hw := hw.symm; subst hw)
            have k1 : ∀ wx, Below wc.heap.size wc wx → wx.cell? ⟨w.heap.size, 1, none⟩ = some (.bool true) := fun wx h => by rw [← HAH.out]; exact (HTD.out.below h).c1
            have k2 : ∀ wx, Below wc.heap.size wc wx → wx.cell? ⟨w.heap.size, 2, none⟩ = some (.int .u64 A.b) := fun wx h => (HTD.out.below h).c2
            have k9 : ∀ wx, Below wc.heap.size wc wx → wx.cell? ⟨w4.heap.size, 0, none⟩ = some (.bool F.h) := fun wx h => (HFD.out.below h (cell_lt HFD.out.c0)).c0
            have k0 : ∀ wx, Below wc.heap.size wc wx → wx.cell? ⟨w4.heap.size, 1, none⟩ = some (.int .u64 F.b) := fun wx h => (HFD.out.below h (cell_lt HFD.out.c0)).c1
            clear a1 a2 b1 m0 f0 f1
            go_region_held3 (fun wx => Below wc.heap.size wc wx) (first | assumption | exact (Below.refl _ _).drew)
              ((go_at_call 16; refine (merge_walk 4 (a := ⟨_, _⟩) (b := ⟨_, _⟩) (by exact HAO'.out) (by exact HAO'.out) _).mono ?_; rw [HSE.out]; rintro e w9 ⟨rfl, hB9⟩; have hS9 : Below wc.heap.size wc w9 := below_trans (by assumption) hB9))
            all_goals go_wp2_with fail
            all_goals go_ret
            all_goals exact ⟨rfl, below_trans HBD.out hS9⟩
          · have b3 := neq_b h3
            have b4 := neq_b h4
            have d3 : (k != 3) = true := by simp [h3]
            have d4 : (k != 4) = true := by simp [h4]
            go_wp2_with (go_at_call 10; refine (known_walk _ _).mono ?_; rintro e w' ⟨rfl, hw⟩; replace hw := hw.symm; subst hw)
            go_quiet (fail)
            all_goals go_wp2_with fail
            all_goals go_ret
            all_goals exact ⟨rfl, below_trans HBD.out (below_drewN _ _)⟩
end Go.Proofs.YtomjofhjmghdfaaDoor
