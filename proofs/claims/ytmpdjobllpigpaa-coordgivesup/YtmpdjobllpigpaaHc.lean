/- act: a tick. -/
import Derived.Test.YtmpdjobllpigpaaHb
import Derived.Test.YtmpdjobllpigpaaM28
namespace Go.Proofs.Ytmpdjobllpigpaa

open Ieee Go.RowKit

section

variable {wz w w' w2 : World} {A A' E B Z : Nat → Prop} {sb cb WB : Nat} {c c' : Cs} {p : Pn} {ov sv v onv : Value} {V : List Tq} {M : List Ms} {mo : Option Ms} {k : Int} {on : List Int}

def WbS (WB : Nat) (p : Pn) (ov : Value) (sb : Nat) (sv : Value) (wx : World) : Prop := ∃ q : Nat, wx.heap[WB]? = some (.cells (wC p ov sb q sv) 31 (0, 0))
set_option maxRecDepth 100000 in
set_option maxHeartbeats 4000000 in
theorem act_tick (h : AW wz Z WB p ov c M w) (ho : Ov wz ov p.l) (hp : p.is = true) (hon : Nv wz onv on) (ht : ∀ y ∈ c.L, y.t < 4294967295) (hwr : c.S.wr < 9223372036854775800) (hl : Lnd p (tikC c) (tikM c) (tikE c) c') :
    Calls Try.prog 11 #[Pt WB, .agg #[.int .i64 1, .int .i64 k, onv]] w (AcG wz Z WB p ov c' M (tikM c) w) := by
  obtain ⟨A, sb, cb, sv, V, hA, hcw, hW, aW, hS, hM⟩ := h.ex
  have HC : Hid (CW wz (fun x => Z x ∨ A x) sb cb c w) := hcw
  have HA : Hid (∀ x, A x → wz.heap.size ≤ x ∧ ¬ Z x) := hA
  have HAL : Hid (∀ x, A x → x < w.heap.size) := fun x hx => hcw.al (.inr hx)
  have HAW : Hid (A WB) := aW
  have HS : Hid (Sn A w sv V) := hS
  have HM : Hid (V.map Tq.m = M) := hM
  have HO : Hid (Ov wz ov p.l) := ho
  have HP : Hid (p.is = true) := hp
  have HON : Hid (Nv wz onv on) := hon
  have HT : Hid (∀ y ∈ c.L, y.t < 4294967295) := ht
  have HWR : Hid (c.S.wr < 9223372036854775800) := hwr
  have HL : Hid (Lnd p (tikC c) (tikM c) (tikE c) c') := hl
  clear ht hwr hl
  obtain ⟨⟨oa, oc, rfl, _⟩, _⟩ := ho
  obtain ⟨na, nc, rfl, _⟩ := hon.form
  obtain ⟨va, vc, rfl, _, _⟩ := own_formY hS.row
  obtain ⟨w0, hw0⟩ : ∃ w0, w0 = w.alloc (Obj.cells #[.int .i64 1, .int .i64 k, .slice na on.length nc] 45) := ⟨_, rfl⟩
  have hb0 : Below w.heap.size w w0 := by rw [hw0]; exact below_alloc _ _
  have HW0 : Hid (w0 = w.alloc (Obj.cells #[.int .i64 1, .int .i64 k, .slice na on.length nc] 45)) := hw0
  have HB0 : Hid (Below w.heap.size w w0) := hb0
  have HWB0 : Hid (w0.heap[WB]? = some (.cells (wC p (.slice oa p.l.length oc) sb cb (.slice va V.length vc)) 31 (0, 0))) := blk_below hW hb0
  have HWBw : Hid (w.heap[WB]? = some (.cells (wC p (.slice oa p.l.length oc) sb cb (.slice va V.length vc)) 31 (0, 0))) := hW
  have HX0 : Hid (w0.heap[w.heap.size]? = some (.cells #[.int .i64 1, .int .i64 k, .slice na on.length nc] 45 (0, 0))) := by show _ = _; rw [hw0]; exact alloc_at rfl
  have i9 : w.cell? ⟨WB, 9, none⟩ = some (.pointer (some ⟨cb, 0, none⟩)) := by rw [blk_cell hW]; rfl
  have hWl : WB < w.heap.size := blk_lt hW
  have hWn : ¬ WB = w.heap.size := by omega
  clear h hA hcw aW hS hM hon hw0 hb0 hW hp
  go_enter Try.func11, Try.ntmps11
  go_wp2_with fail
  rw [← HW0.out]
  refine (ctries_walk (HC.out.below HB0.out)).mono ?_
  rintro e w1 ⟨v1, W1, rfl, hy1, hr1, hl1, hB1⟩
  have HB01 : Hid (Below w.heap.size w w1) := HB0.out.trans (hB1.mono HB0.out.size)
  have hX1 := blk_below HX0.out hB1
  have hW1 := blk_below HWB0.out hB1
  have HX1 : Hid (w1.heap[w.heap.size]? = some (.cells #[.int .i64 1, .int .i64 k, .slice na on.length nc] 45 (0, 0))) := hX1
  have HWB1 : Hid (w1.heap[WB]? = some (.cells (wC p (.slice oa p.l.length oc) sb cb (.slice va V.length vc)) 31 (0, 0))) := hW1
  have HC1 : Hid (CW wz (fun x => Z x ∨ A x) sb cb c w1) := HC.out.below HB01.out
  have HS1 : Hid (Sn A w1 (.slice va V.length vc) V) := HS.out.keep (fun b hb => HB01.out.block b (HAL.out b hb))
  have HCH1 : Hid (ChA wz (fun x => Z x ∨ A x) w w1) := Ch.of_below HB01.out
  have x0 : w1.cell? ⟨w.heap.size, 0, none⟩ = some (.int .i64 1) := by rw [blk_cell hX1]; rfl
  have k8 : w1.cell? ⟨WB, 8, none⟩ = some (.pointer (some ⟨sb, 0, none⟩)) := by rw [blk_cell hW1]; rfl
  have k9 : w1.cell? ⟨WB, 9, none⟩ = some (.pointer (some ⟨cb, 0, none⟩)) := by rw [blk_cell hW1]; rfl
  obtain ⟨a1, c1, rfl, _, _⟩ := own_formY hr1
  generalize W1.length = n1
  clear hy1 hr1 hl1 hB1 hX1 hW1
  go_wp2_with fail
  refine (tick_walk HC1.out HT.out HWR.out).mono ?_
  rintro e w2 ⟨v2, B2, rfl, hmg, hbn, hcw2, hch2⟩
  have HC2 : Hid (CW wz (fun x => (Z x ∨ A x) ∨ B2 x) sb cb (tikC c) w2) := hcw2
  have HMG : Hid (MgR B2 w2 v2 (tikM c)) := hmg
  have HB2 : Hid (∀ x, B2 x → w.heap.size ≤ x) := fun x hx => Nat.le_trans HB01.out.size (hbn x hx)
  have hkp2 : ∀ b, A b → w2.heap[b]? = w1.heap[b]? := fun b hb => kp_cha hch2 HC1.out b (.inr hb)
  have HWB2 : Hid (w2.heap[WB]? = some (.cells (wC p (.slice oa p.l.length oc) sb cb (.slice va V.length vc)) 31 (0, 0))) := (hkp2 WB HAW.out).trans HWB1.out
  have HS2 : Hid (Sn A w2 (.slice va V.length vc) V) := HS1.out.keep hkp2
  have HCH2 : Hid (ChA wz (fun x => Z x ∨ A x) w w2) := HCH1.out.self hch2
  obtain ⟨a2, n2, k2, rfl⟩ := hmg.nil_or
  clear hmg hbn hcw2 hch2 hkp2 x0 k8 k9 i9
  rcases HL.out with ⟨he, hc⟩ | ⟨he, hmo, hdn, hrd, J, S0, hson, hg, hc⟩
  · have HCC : Hid (c' = tikC c) := hc
    rw [he]
    clear he hc
    go_wp2_with fail
    go_ret2
    rw [HCC.out]
    exact acg_yes HA.out HAL.out HB2.out HMG.out HC2.out HWB2.out HAW.out HS2.out HM.out (cha_less HCH2.out (fun x hx => .inl hx))
  · have HCC : Hid (c' = ⟨p0 p, J, rdK S0 2, [], false⟩) := hc
    have HDN : Hid ((tikC c).S.down = true) := hdn
    have HEN : Hid ((tikC c).endB = true) := by show _ = _; unfold Cs.endB; rw [hdn]; simp
    have HRD : Hid (S0.rd < 9223372036854775800) := by show _ < _; rw [← hson]; exact hrd
    have HSON : Hid (onS (tikC c).S = S0) := hson
    have HG : Hid (Gd p.P J S0) := hg
    have hv := HMG.out
    rw [hmo] at hv
    have hv : Value.slice a2 n2 k2 = .slice none 0 0 := hv
    cases hv
    have HMO := hidH hmo
    rw [he]
    have i8 : w2.cell? ⟨WB, 8, none⟩ = some (.pointer (some ⟨sb, 0, none⟩)) := by rw [blk_cell HWB2.out]; rfl
    have i9 : w2.cell? ⟨WB, 9, none⟩ = some (.pointer (some ⟨cb, 0, none⟩)) := by rw [blk_cell HWB2.out]; rfl
    clear he hmo hdn hrd hson hg hc
    go_wp2_with fail
    refine (cw_down HC2.out).mono ?_
    rw [HDN.out]
    rintro e w9 ⟨rfl, h9⟩
    replace h9 := h9.symm
    subst h9
    go_wp2_with fail
    refine (cend_walk HC2.out).mono ?_
    rw [HEN.out]
    rintro e w3 ⟨rfl, hcw3, hch3⟩
    have HC3 : Hid (CW wz (fun x => Z x ∨ A x) sb cb { tikC c with o := true } w3) := hcw3.less (fun x hx => .inl hx)
    have hkp3 : ∀ b, A b → w3.heap[b]? = w2.heap[b]? := fun b hb => kp_cha hch3 HC2.out b (.inl (.inr hb))
    have HWB3 : Hid (w3.heap[WB]? = some (.cells (wC p (.slice oa p.l.length oc) sb cb (.slice va V.length vc)) 31 (0, 0))) := (hkp3 WB HAW.out).trans HWB2.out
    have HS3 : Hid (Sn A w3 (.slice va V.length vc) V) := HS2.out.keep hkp3
    have HCH3 : Hid (ChA wz (fun x => Z x ∨ A x) w w3) := HCH2.out.self (cha_less hch3 (fun x hx => (.inl hx)))
    have i8 : w3.cell? ⟨WB, 8, none⟩ = some (.pointer (some ⟨sb, 0, none⟩)) := by rw [blk_cell HWB3.out]; rfl
    clear hcw3 hch3 hkp3
    go_wp2_with fail
    refine (cw_on HC3.out).mono ?_
    rintro e w4 ⟨rfl, hcw4, hch4⟩
    have HC4 : Hid (CW wz (fun x => Z x ∨ A x) sb cb { tikC c with o := true, S := S0 } w4) := by show CW _ _ _ _ _ _; rw [← HSON.out]; exact hcw4
    have hkp4 : ∀ b, A b → w4.heap[b]? = w3.heap[b]? := fun b hb => kp_cha hch4 HC3.out b (.inr hb)
    have HWB4 : Hid (w4.heap[WB]? = some (.cells (wC p (.slice oa p.l.length oc) sb cb (.slice va V.length vc)) 31 (0, 0))) := (hkp4 WB HAW.out).trans HWB3.out
    have HS4 : Hid (Sn A w4 (.slice va V.length vc) V) := HS3.out.keep hkp4
    have HCH4 : Hid (ChA wz (fun x => Z x ∨ A x) w w4) := HCH3.out.self (hch4)
    clear hcw4 hch4 hkp4 i8 i9
    have j0 : ∀ wx, WbS WB p (.slice oa p.l.length oc) sb (.slice va V.length vc) wx → wx.cell? ⟨WB, 0, none⟩ = some (.int .i64 p.P) := fun wx h => by obtain ⟨q, h⟩ := h; rw [blk_cell h]; rfl
    have j1 : ∀ wx, WbS WB p (.slice oa p.l.length oc) sb (.slice va V.length vc) wx → wx.cell? ⟨WB, 1, none⟩ = some (.int .i64 p.S) := fun wx h => by obtain ⟨q, h⟩ := h; rw [blk_cell h]; rfl
    have j2 : ∀ wx, WbS WB p (.slice oa p.l.length oc) sb (.slice va V.length vc) wx → wx.cell? ⟨WB, 2, none⟩ = some (.int .i64 p.W) := fun wx h => by obtain ⟨q, h⟩ := h; rw [blk_cell h]; rfl
    have j3 : ∀ wx, WbS WB p (.slice oa p.l.length oc) sb (.slice va V.length vc) wx → wx.cell? ⟨WB, 3, none⟩ = some (.slice oa p.l.length oc) := fun wx h => by obtain ⟨q, h⟩ := h; rw [blk_cell h]; rfl
    have j4 : ∀ wx, WbS WB p (.slice oa p.l.length oc) sb (.slice va V.length vc) wx → wx.cell? ⟨WB, 4, none⟩ = some (.int .i64 p.A) := fun wx h => by obtain ⟨q, h⟩ := h; rw [blk_cell h]; rfl
    have j5 : ∀ wx, WbS WB p (.slice oa p.l.length oc) sb (.slice va V.length vc) wx → wx.cell? ⟨WB, 5, none⟩ = some (.int .i64 p.B) := fun wx h => by obtain ⟨q, h⟩ := h; rw [blk_cell h]; rfl
    have j6 : ∀ wx, WbS WB p (.slice oa p.l.length oc) sb (.slice va V.length vc) wx → wx.cell? ⟨WB, 6, none⟩ = some (.int .i64 p.N) := fun wx h => by obtain ⟨q, h⟩ := h; rw [blk_cell h]; rfl
    have j7 : ∀ wx, WbS WB p (.slice oa p.l.length oc) sb (.slice va V.length vc) wx → wx.cell? ⟨WB, 7, none⟩ = some (.int .i64 p.G) := fun wx h => by obtain ⟨q, h⟩ := h; rw [blk_cell h]; rfl
    have j8 : ∀ wx, WbS WB p (.slice oa p.l.length oc) sb (.slice va V.length vc) wx → wx.cell? ⟨WB, 8, none⟩ = some (.pointer (some ⟨sb, 0, none⟩)) := fun wx h => by obtain ⟨q, h⟩ := h; rw [blk_cell h]; rfl
    go_upto_region 31 with fail
    refine wp_region_noPanic ?_
    refine wp_region_held_drew (S := (WbS WB p (.slice oa p.l.length oc) sb (.slice va V.length vc))) (by kernel_rfl) ?_ (fun hHeld => ?_)
    · exact ⟨cb, (blk_below HWB4.out (below_drewN w4 1))⟩
    refine wpAnyH_take (i := 0) (oi := ⟨some 179, _, _, _, _, _⟩) (v := ?_) rfl (by kernel_rfl) (by kernel_rfl) (by kernel_rfl) (fun _ _ _ h => h) (Or.inl ⟨by rfl, ?_⟩) hHeld ?_
    rotate_left
    · intro w hSw; (try dsimp only at hSw); go_simp; all_goals (with_reducible rfl)
    try simp only [Act.put, List.setIfInBounds_toArray, List.set_cons_zero, List.set_cons_succ]
    refine wpAnyH_take (i := 1) (oi := ⟨some 180, _, _, _, _, _⟩) (v := ?_) rfl (by kernel_rfl) (by kernel_rfl) (by kernel_rfl) (fun _ _ _ h => h) (Or.inl ⟨by rfl, ?_⟩) hHeld ?_
    rotate_left
    · intro w hSw; (try dsimp only at hSw); go_simp; all_goals (with_reducible rfl)
    try simp only [Act.put, List.setIfInBounds_toArray, List.set_cons_zero, List.set_cons_succ]
    refine wpAnyH_take (i := 2) (oi := ⟨some 181, _, _, _, _, _⟩) (v := ?_) rfl (by kernel_rfl) (by kernel_rfl) (by kernel_rfl) (fun _ _ _ h => h) (Or.inl ⟨by rfl, ?_⟩) hHeld ?_
    rotate_left
    · intro w hSw; (try dsimp only at hSw); go_simp; all_goals (with_reducible rfl)
    try simp only [Act.put, List.setIfInBounds_toArray, List.set_cons_zero, List.set_cons_succ]
    refine wpAnyH_take (i := 3) (oi := ⟨some 182, _, _, _, _, _⟩) (v := ?_) rfl (by kernel_rfl) (by kernel_rfl) (by kernel_rfl) (fun _ _ _ h => h) (Or.inl ⟨by rfl, ?_⟩) hHeld ?_
    rotate_left
    · intro w hSw; (try dsimp only at hSw); go_simp; all_goals (with_reducible rfl)
    try simp only [Act.put, List.setIfInBounds_toArray, List.set_cons_zero, List.set_cons_succ]
    refine wpAnyH_take (i := 4) (oi := ⟨some 183, _, _, _, _, _⟩) (v := ?_) rfl (by kernel_rfl) (by kernel_rfl) (by kernel_rfl) (fun _ _ _ h => h) (Or.inl ⟨by rfl, ?_⟩) hHeld ?_
    rotate_left
    · intro w hSw; (try dsimp only at hSw); go_simp; all_goals (with_reducible rfl)
    try simp only [Act.put, List.setIfInBounds_toArray, List.set_cons_zero, List.set_cons_succ]
    refine wpAnyH_take (i := 5) (oi := ⟨some 184, _, _, _, _, _⟩) (v := ?_) rfl (by kernel_rfl) (by kernel_rfl) (by kernel_rfl) (fun _ _ _ h => h) (Or.inl ⟨by rfl, ?_⟩) hHeld ?_
    rotate_left
    · intro w hSw; (try dsimp only at hSw); go_simp; all_goals (with_reducible rfl)
    try simp only [Act.put, List.setIfInBounds_toArray, List.set_cons_zero, List.set_cons_succ]
    refine wpAnyH_take (i := 6) (oi := ⟨some 185, _, _, _, _, _⟩) (v := ?_) rfl (by kernel_rfl) (by kernel_rfl) (by kernel_rfl) (fun _ _ _ h => h) (Or.inl ⟨by rfl, ?_⟩) hHeld ?_
    rotate_left
    · intro w hSw; (try dsimp only at hSw); go_simp; all_goals (with_reducible rfl)
    try simp only [Act.put, List.setIfInBounds_toArray, List.set_cons_zero, List.set_cons_succ]
    refine wpAnyH_take (i := 7) (oi := ⟨some 186, _, _, _, _, _⟩) (v := ?_) rfl (by kernel_rfl) (by kernel_rfl) (by kernel_rfl) (fun _ _ _ h => h) (Or.inl ⟨by rfl, ?_⟩) hHeld ?_
    rotate_left
    · intro w hSw; (try dsimp only at hSw); go_simp; all_goals (with_reducible rfl)
    try simp only [Act.put, List.setIfInBounds_toArray, List.set_cons_zero, List.set_cons_succ]
    refine wpAnyH_take (i := 8) (oi := ⟨some 187, _, _, _, _, _⟩) (v := ?_) rfl (by kernel_rfl) (by kernel_rfl) (by kernel_rfl) (fun _ _ _ h => h) (Or.inl ⟨by rfl, ?_⟩) hHeld ?_
    rotate_left
    · intro w hSw; (try dsimp only at hSw); go_simp; all_goals (with_reducible rfl)
    try simp only [Act.put, List.setIfInBounds_toArray, List.set_cons_zero, List.set_cons_succ]
    refine wpAnyH_ready (rs := [9]) (by kernel_rfl) (by simp) ?_
    refine AllReadyH.cons (o := ⟨some 188, _, _, _, _, _⟩) rfl (fun K hK => ?_) AllReadyH.nil
    go_simp
    refine (cw_open (J := J) (p := p) (HC4.out.below (below_drewN w4 1)) (HO.out.below (HC4.out.below (below_drewN w4 1)).bel) HP.out HG.out HRD.out).mono ?_
    rintro e w5 ⟨cb5, rfl, hcw5, hch5⟩
    have HC5 : Hid (CW wz (fun x => Z x ∨ A x) sb cb5 ⟨p0 p, J, rdK S0 2, [], false⟩ w5) := hcw5
    have hkp5 : ∀ b, A b → w5.heap[b]? = w4.heap[b]? := fun b hb => (kp_cha hch5 (HC4.out.below (below_drewN w4 1)) b (.inr hb)).trans ((below_drewN w4 1).block b (HC4.out.al (.inr hb)))
    have hW5 : w5.heap[WB]? = some (.cells (wC p (.slice oa p.l.length oc) sb cb (.slice va V.length vc)) 31 (0, 0)) := (hkp5 WB HAW.out).trans HWB4.out
    have HWB5 : Hid (w5.heap[WB]? = some (.cells (wC p (.slice oa p.l.length oc) sb cb (.slice va V.length vc)) 31 (0, 0))) := hW5
    have HS5 : Hid (Sn A w5 (.slice va V.length vc) V) := HS4.out.keep hkp5
    have HCH5 : Hid (ChA wz (fun x => Z x ∨ A x) w w5) := HCH4.out.self ((Ch.of_below (below_drewN w4 1)).self hch5)
    have v9 : w5.cell? ⟨WB, 9, none⟩ = some (.pointer (some ⟨cb, 0, none⟩)) := by rw [blk_cell hW5]; rfl
    have y9 : w5.frozen? ⟨WB, 9, none⟩ = false := blk_soft hW5 9
    clear hcw5 hch5 hkp5 hW5
    refine hK.out _ _ ?_ (fun hHeld => ?_)
    · exact ⟨cb, HWB5.out⟩
    clear hK K
    try simp only [Act.put, List.setIfInBounds_toArray, List.set_cons_zero, List.set_cons_succ]
    refine wpAnyH_take (i := 10) (oi := ⟨some 178, _, _, _, _, _⟩) (v := ?_) rfl (by kernel_rfl) (by kernel_rfl) (by kernel_rfl) (fun _ _ _ h => h) (Or.inl ⟨by rfl, ?_⟩) hHeld ?_
    rotate_left
    · intro w hSw; (try dsimp only at hSw); go_simp; all_goals (with_reducible rfl)
    try simp only [Act.put, List.setIfInBounds_toArray, List.set_cons_zero, List.set_cons_succ]
    refine wpAnyH_take (i := 11) (oi := ⟨some 189, _, _, _, _, _⟩) (v := ?_) rfl (by kernel_rfl) (by kernel_rfl) (by kernel_rfl) (fun _ _ _ h => h) (Or.inl ⟨by rfl, ?_⟩) hHeld ?_
    rotate_left
    · intro w hSw; (try dsimp only at hSw); go_simp; all_goals (with_reducible rfl)
    try simp only [Act.put, List.setIfInBounds_toArray, List.set_cons_zero, List.set_cons_succ]
    refine wpAnyH_take (i := 12) (oi := ⟨some 190, _, _, _, _, _⟩) (v := ?_) rfl (by kernel_rfl) (by kernel_rfl) (by kernel_rfl) (fun _ _ _ h => h) (Or.inl ⟨by rfl, ?_⟩) hHeld ?_
    rotate_left
    · intro w hSw; (try dsimp only at hSw); go_simp; all_goals (with_reducible rfl)
    try simp only [Act.put, List.setIfInBounds_toArray, List.set_cons_zero, List.set_cons_succ]
    refine wpAnyH_take (i := 13) (oi := ⟨some 191, _, _, _, _, _⟩) (v := ?_) rfl (by kernel_rfl) (by kernel_rfl) (by kernel_rfl) (fun _ _ _ h => h) (Or.inl ⟨by rfl, ?_⟩) hHeld ?_
    rotate_left
    · intro w hSw; (try dsimp only at hSw); go_simp; all_goals (with_reducible rfl)
    try simp only [Act.put, List.setIfInBounds_toArray, List.set_cons_zero, List.set_cons_succ]
    refine wpAnyH_take (i := 14) (oi := ⟨some 192, _, _, _, _, _⟩) (v := ?_) rfl (by kernel_rfl) (by kernel_rfl) (by kernel_rfl) (fun _ _ _ h => h) (Or.inl ⟨by rfl, ?_⟩) hHeld ?_
    rotate_left
    · intro w hSw; (try dsimp only at hSw); go_simp; all_goals (with_reducible rfl)
    try simp only [Act.put, List.setIfInBounds_toArray, List.set_cons_zero, List.set_cons_succ]
    refine wpAnyH_ready (rs := [15]) (by kernel_rfl) (by simp) ?_
    refine AllReadyH.cons (o := ⟨none, _, _, _, _, _⟩) rfl (fun K hK => ?_) AllReadyH.nil
    go_simp
    refine hK.out _ _ ?_ (fun hHeld => ?_)
    · exact ⟨cb5, by rw [set_row HWB5.out]; rfl⟩
    clear hK K
    try simp only [Act.put, List.setIfInBounds_toArray, List.set_cons_zero, List.set_cons_succ]
    refine wpAnyH_take (i := 16) (oi := ⟨some 8, _, _, _, _, _⟩) (v := ?_) rfl (by kernel_rfl) (by kernel_rfl) (by kernel_rfl) (fun _ _ _ h => h) (Or.inl ⟨by rfl, ?_⟩) hHeld ?_
    rotate_left
    · intro w hSw; (try dsimp only at hSw); go_simp; all_goals (with_reducible rfl)
    try simp only [Act.put, List.setIfInBounds_toArray, List.set_cons_zero, List.set_cons_succ]
    refine wpAnyH_done (by kernel_rfl) ?_ _
    refine NoPanic.normal ?_
    clear j0 j1 j2 j3 j4 j5 j6 j7 j8 v9 y9
    go_wp2_with fail
    go_ret2
    rw [HCC.out, HMO.out]
    exact acg_none (w' := w5.setCell ⟨WB, 9, none⟩ (Pt cb5)) (sb := sb) (cb := cb5) (p := p) (ov := .slice oa p.l.length oc) HA.out HAL.out (HC5.out.write (E := fun x => x = WB) (ch_set _ _ _ _) (fun x hx => .inr (by rw [hx]; exact HAW.out)) (fun x hx => by rw [hx]; exact (HA.out _ HAW.out).1)) (by rw [set_row HWB5.out]; rfl) HAW.out (HS5.out.setW HWB5.out) HM.out ((cha_less HCH5.out (fun x hx => .inl hx)).self (ch_le (ch_set _ _ _ _) (fun x hx => by rw [hx]; exact HA.out _ HAW.out)))
end

end Go.Proofs.Ytmpdjobllpigpaa
