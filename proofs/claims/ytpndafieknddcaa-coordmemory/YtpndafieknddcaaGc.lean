/- CoordMemory: the walk. -/
import Derived.Test.YtpndafieknddcaaGa
import Derived.Test.YtpndafieknddcaaHm
import Derived.Test.YtpndafieknddcaaGd
namespace Go.Proofs.Ytpndafieknddcaa

open Ieee Go.RowKit

theorem fd_note0 (a d : Int) (pa ca : Option Addr) (pn pc cn cc : Nat) (w : World) : (Instr.field 53 (.agg #[.int .i64 a, .slice pa pn pc, .slice ca cn cc, .int .i64 d]) 0).run Try.prog w = .ok (.agg #[.int .i64 a, .slice pa pn pc, .slice ca cn cc]) w := by
  simp [Instr.field, run_underlying Try.underlying53, go_sem, asAgg]
theorem fd_tri0 (a : Int) (pa ca : Option Addr) (pn pc cn cc : Nat) (w : World) : (Instr.field 51 (.agg #[.int .i64 a, .slice pa pn pc, .slice ca cn cc]) 0).run Try.prog w = .ok (.int .i64 a) w := by
  simp [Instr.field, run_underlying Try.underlying51, go_sem, asAgg]
theorem fd_tri2 (a : Int) (pa ca : Option Addr) (pn pc cn cc : Nat) (w : World) : (Instr.field 51 (.agg #[.int .i64 a, .slice pa pn pc, .slice ca cn cc]) 2).run Try.prog w = .ok (.slice ca cn cc) w := by
  simp [Instr.field, run_underlying Try.underlying51, go_sem, asAgg]
set_option maxRecDepth 100000 in
set_option maxHeartbeats 8000000 in
theorem coordmemory_walk {w : World} {p : Pn} {ov onv : Value} {on : List Int} (ho : Ov w ov p.l) (hon : Nv w onv on) : Calls Try.prog 3 #[.agg #[.int .i64 p.P, .int .i64 p.S, .int .i64 p.W, ov, .int .i64 p.A, .int .i64 p.B, .int .i64 p.N, .int .i64 p.G], onv] w fun e w' => e = .returned (.bool true) ∧ Below w.heap.size w w' := by
  obtain ⟨w0, hw0⟩ : ∃ w0, w0 = w.alloc (Obj.cells #[.int .i64 p.P, .int .i64 p.S, .int .i64 p.W, ov, .int .i64 p.A, .int .i64 p.B, .int .i64 p.N, .int .i64 p.G] 24) := ⟨_, rfl⟩
  have hb0 : Below w.heap.size w w0 := by rw [hw0]; exact below_alloc _ _
  have HB0 : Hid (Below w.heap.size w w0) := hb0
  have HO : Hid (Ov w0 ov p.l) := ho.below hb0
  have HBX : Hid (w0.heap[w.heap.size]? = some (.cells #[.int .i64 p.P, .int .i64 p.S, .int .i64 p.W, ov, .int .i64 p.A, .int .i64 p.B, .int .i64 p.N, .int .i64 p.G] 24 (0, 0))) := by show _ = _; rw [hw0]; exact alloc_at rfl
  obtain ⟨⟨oa, oc, rfl, _⟩, _⟩ := ho
  have HON : Hid (Nv w onv on) := hon
  obtain ⟨na, nc, rfl, _⟩ := hon.form
  clear hon
  have HW0 : Hid (w0 = w.alloc (Obj.cells #[.int .i64 p.P, .int .i64 p.S, .int .i64 p.W, .slice oa p.l.length oc, .int .i64 p.A, .int .i64 p.B, .int .i64 p.N, .int .i64 p.G] 24)) := hw0
  clear hw0 hb0
  go_enter Try.func3, Try.ntmps3
  go_wp2_with fail
  rw [← HW0.out]
  refine awake19_walk.mono ?_
  rintro e w1 ⟨rfl, hB1⟩
  have HB1 : Hid (Below w.heap.size w w1) := HB0.out.trans (hB1.mono HB0.out.size)
  have hX1 := blk_below HBX.out hB1
  have HX1 : Hid (w1.heap[w.heap.size]? = some (.cells #[.int .i64 p.P, .int .i64 p.S, .int .i64 p.W, .slice oa p.l.length oc, .int .i64 p.A, .int .i64 p.B, .int .i64 p.N, .int .i64 p.G] 24 (0, 0))) := hX1
  have HO1 : Hid (Ov w1 (.slice oa p.l.length oc) p.l) := HO.out.below hB1
  have x0 : w1.cell? ⟨w.heap.size, 0, none⟩ = some (.int .i64 p.P) := by rw [blk_cell hX1]; rfl
  have x1 : w1.cell? ⟨w.heap.size, 1, none⟩ = some (.int .i64 p.S) := by rw [blk_cell hX1]; rfl
  have x2 : w1.cell? ⟨w.heap.size, 2, none⟩ = some (.int .i64 p.W) := by rw [blk_cell hX1]; rfl
  have x3 : w1.cell? ⟨w.heap.size, 3, none⟩ = some (.slice oa p.l.length oc) := by rw [blk_cell hX1]; rfl
  have x4 : w1.cell? ⟨w.heap.size, 4, none⟩ = some (.int .i64 p.A) := by rw [blk_cell hX1]; rfl
  have x5 : w1.cell? ⟨w.heap.size, 5, none⟩ = some (.int .i64 p.B) := by rw [blk_cell hX1]; rfl
  have x6 : w1.cell? ⟨w.heap.size, 6, none⟩ = some (.int .i64 p.N) := by rw [blk_cell hX1]; rfl
  have x7 : w1.cell? ⟨w.heap.size, 7, none⟩ = some (.int .i64 p.G) := by rw [blk_cell hX1]; rfl
  clear hB1 hX1
  go_wp2_with fail
  refine (laid_walk19 HO1.out).mono ?_
  rintro e w2 (⟨his, hB2, d, rfl⟩ | ⟨his, sb, cb, rfl, hcw⟩)
  · have HIS : Hid (p.is = false) := his
    obtain ⟨w3, hw3⟩ : ∃ w3, w3 = w2.alloc (Obj.cells #[.int .i64 p.P, .int .i64 p.S, .int .i64 p.W, .slice oa p.l.length oc, .int .i64 p.A, .int .i64 p.B, .int .i64 p.N, .int .i64 p.G, .pointer d, .pointer none, .slice none 0 0] 31) := ⟨_, rfl⟩
    have hb13 : Below w1.heap.size w1 w3 := by rw [hw3]; exact below_trans hB2 (below_alloc _ _)
    have HW3 : Hid (w3 = w2.alloc (Obj.cells #[.int .i64 p.P, .int .i64 p.S, .int .i64 p.W, .slice oa p.l.length oc, .int .i64 p.A, .int .i64 p.B, .int .i64 p.N, .int .i64 p.G, .pointer d, .pointer none, .slice none 0 0] 31)) := hw3
    have HB3 : Hid (Below w1.heap.size w1 w3) := hb13
    have hX3 := blk_below HX1.out hb13
    have u0 : w3.cell? ⟨w.heap.size, 0, none⟩ = some (.int .i64 p.P) := by rw [blk_cell hX3]; rfl
    have u1 : w3.cell? ⟨w.heap.size, 1, none⟩ = some (.int .i64 p.S) := by rw [blk_cell hX3]; rfl
    have u2 : w3.cell? ⟨w.heap.size, 2, none⟩ = some (.int .i64 p.W) := by rw [blk_cell hX3]; rfl
    have u3 : w3.cell? ⟨w.heap.size, 3, none⟩ = some (.slice oa p.l.length oc) := by rw [blk_cell hX3]; rfl
    have u4 : w3.cell? ⟨w.heap.size, 4, none⟩ = some (.int .i64 p.A) := by rw [blk_cell hX3]; rfl
    have u5 : w3.cell? ⟨w.heap.size, 5, none⟩ = some (.int .i64 p.B) := by rw [blk_cell hX3]; rfl
    have u6 : w3.cell? ⟨w.heap.size, 6, none⟩ = some (.int .i64 p.N) := by rw [blk_cell hX3]; rfl
    have u7 : w3.cell? ⟨w.heap.size, 7, none⟩ = some (.int .i64 p.G) := by rw [blk_cell hX3]; rfl
    clear his hB2 hw3 hb13 hX3 x0 x1 x2 x3 x4 x5 x6 x7
    go_upto_region 4 with fail
    rw [← HW3.out]
    go_wp2_with fail
    refine (pcheck_walk (p := p) (HO1.out.below HB3.out)).mono ?_
    rintro e w4 ⟨rfl, hB4⟩
    have hk : (p.chk != 0) = true := by
      have := Pn.chk_no HIS.out
      rw [bne, this]; rfl
    have HB4 : Hid (Below w.heap.size w w4) := (HB1.out.trans (HB3.out.mono HB1.out.size)).trans (hB4.mono (Nat.le_trans HB1.out.size HB3.out.size))
    generalize p.chk = ck at hk
    clear hB4
    go_wp2_with fail
    go_ret
    exact ⟨by first | rfl | rw [hk], HB4.out⟩
  have HIS : Hid (p.is = true) := his
  have HC2 : Hid (CW w1 (fun _ => False) sb cb (frC p) w2) := hcw
  obtain ⟨w3, hw3⟩ : ∃ w3, w3 = w2.alloc (Obj.cells #[.int .i64 p.P, .int .i64 p.S, .int .i64 p.W, .slice oa p.l.length oc, .int .i64 p.A, .int .i64 p.B, .int .i64 p.N, .int .i64 p.G, Pt sb, Pt cb, .slice none 0 0] 31) := ⟨_, rfl⟩
  have hb23 : Below w2.heap.size w2 w3 := by rw [hw3]; exact below_alloc _ _
  have HW3 : Hid (w3 = w2.alloc (Obj.cells #[.int .i64 p.P, .int .i64 p.S, .int .i64 p.W, .slice oa p.l.length oc, .int .i64 p.A, .int .i64 p.B, .int .i64 p.N, .int .i64 p.G, Pt sb, Pt cb, .slice none 0 0] 31)) := hw3
  obtain ⟨WB, hWBd⟩ : ∃ WB, WB = w2.heap.size := ⟨_, rfl⟩
  have HWBD : Hid (WB = w2.heap.size) := hWBd
  have HWB3 : Hid (w3.heap[WB]? = some (.cells (wC p (.slice oa p.l.length oc) sb cb (.slice none 0 0)) 31 (0, 0))) := by show _ = _; rw [hw3, hWBd]; exact alloc_at rfl
  have HC3 : Hid (CW w1 (fun x => False ∨ (w2.heap.size ≤ x ∧ x < w3.heap.size)) sb cb (frC p) w3) := hcw.more hb23
  have HA3 : Hid (False ∨ (w2.heap.size ≤ WB ∧ WB < w3.heap.size)) := .inr ⟨by rw [hWBd]; exact Nat.le_refl _, blk_lt HWB3.out⟩
  obtain ⟨J1, S1, t1, t2, t3, hg1, hn1, hj1, hw1⟩ := tk_fr his
  have HG1 : Hid (Gd p.P J1 S1) := hg1
  have HN1 : Hid (J1.n = ⟨0, zeros p.P.toNat, zeros p.P.toNat, 1⟩) := hn1
  have HJ1 : Hid (J1.g = 2) := hj1
  have HWR : Hid (S1.wr < 9223372036854775800) := by show _ < _; rw [hw1]; omega
  have HT1 : Hid (tikC (frC p) = ⟨p0 p, J1, S1, [yF p], false⟩ ∧ tikM (frC p) = some (abtM 1 (yF p) (zeros p.P.toNat)) ∧ tikE (frC p) = 0) := ⟨t1, t2, t3⟩
  clear his hcw hw3 hb23 t1 t2 t3 hg1 hn1 hj1 hw1 x0 x1 x2 x3 x4 x5 x6 x7 hWBd
  go_upto_region 4 with fail
  rw [← HW3.out, ← HWBD.out]
  have i9 : w3.cell? ⟨WB, 9, none⟩ = some (.pointer (some ⟨cb, 0, none⟩)) := by rw [blk_cell HWB3.out]; rfl
  obtain ⟨PB, hPB⟩ : ∃ PB, PB = w.heap.size := ⟨_, rfl⟩
  have HPBD : Hid (PB = w.heap.size) := hPB
  rw [← HPBD.out]
  clear hPB
  go_wp2_with fail
  refine (tick_walk HC3.out (fun y hy => by cases hy) (by rw [(fr_gd HIS.out).2.1]; omega)).mono ?_
  rw [HT1.out.1, HT1.out.2.1, HT1.out.2.2]
  rintro e w4 ⟨v4, B4, rfl, ⟨g4, ev4, rfl, hg4, he4, hBg, hBe⟩, hBl, hcw4, hch4⟩
  have HC4 : Hid (CW w1 (fun x => (False ∨ (w2.heap.size ≤ x ∧ x < w3.heap.size)) ∨ B4 x) sb cb ⟨p0 p, J1, S1, [yF p], false⟩ w4) := hcw4
  have HWB4 : Hid (w4.heap[WB]? = some (.cells (wC p (.slice oa p.l.length oc) sb cb (.slice none 0 0)) 31 (0, 0))) := by show _ = _; rw [hch4.block WB (blk_lt HWB3.out) (fun h => h.2 HA3.out)]; exact HWB3.out
  obtain ⟨z, hz⟩ : ∃ z, z = zeros p.P.toNat := ⟨_, rfl⟩
  have HZ : Hid (z = zeros p.P.toNat) := hz
  replace he4 : OwN 0 w4 ev4 z := by rw [hz]; exact he4
  have HE4 : Hid (OwN 0 w4 ev4 z) := he4
  have hz1 : 1 ≤ z.length := by
    obtain ⟨kk, hk, hk1, hk4⟩ := is_P HIS.out
    rw [hz, zeros_len]; omega
  obtain ⟨gm, mc, rfl, _, _, _, _⟩ := row_formY he4 (by omega)
  have hzc := own_cellY (j := 0) (u := .int .i64 (nth z 0)) he4 (by unfold cellsN; rw [List.getElem?_map, List.getElem?_eq_getElem (by omega)]; have := nth_at (l := z) (i := 0) (by omega); rw [← this]; rfl)
  have c0 := hzc.1
  have z0 := hzc.2
  have hz1i : (0 : Int) < (z.length : Int) := by omega
  obtain ⟨w5, hw5⟩ : ∃ w5, w5 = w4.setCell ⟨gm, 0, none⟩ (.int .i64 99) := ⟨_, rfl⟩
  have HW5 : Hid (w5 = w4.setCell ⟨gm, 0, none⟩ (.int .i64 99)) := hw5
  have hc5 : Ch (fun y => y = gm) w4 w5 := by rw [hw5]; exact ch_set _ _ _ _
  have HC5h : Hid (Ch (fun y => y = gm) w4 w5) := hc5
  have HC5 : Hid (CW w1 (fun x => (False ∨ (w2.heap.size ≤ x ∧ x < w3.heap.size)) ∨ B4 x) sb cb ⟨p0 p, J1, S1, [yF p], false⟩ w5) := HC4.out.write hc5 (fun x hx => .inr (hBe x (by rw [hx]; rfl))) (fun x hx => Nat.le_trans HC3.out.bel.size (hBl x (hBe x (by rw [hx]; rfl))))
  have hgw : ¬ WB = gm := fun e => by have := hBl gm (hBe gm rfl); have := blk_lt HWB3.out; omega
  have HWB5 : Hid (w5.heap[WB]? = some (.cells (wC p (.slice oa p.l.length oc) sb cb (.slice none 0 0)) 31 (0, 0))) := (hc5.block WB (blk_lt HWB4.out) hgw).trans HWB4.out
  have i9' : w5.cell? ⟨WB, 9, none⟩ = some (.pointer (some ⟨cb, 0, none⟩)) := by rw [blk_cell HWB5.out]; rfl
  have hzl : (z.length : Int) = p.P := by
    obtain ⟨kk, hk, hk1, hk4⟩ := is_P HIS.out
    rw [hz, zeros_len]; omega
  have HPB4 : Hid (w4.heap[PB]? = some (.cells #[.int .i64 p.P, .int .i64 p.S, .int .i64 p.W, .slice oa p.l.length oc, .int .i64 p.A, .int .i64 p.B, .int .i64 p.N, .int .i64 p.G] 24 (0, 0))) := by show _ = _; rw [HPBD.out]; exact blk_below HX1.out HC4.out.bel
  have HG4 : Hid (w4.heap[g4]? = some (.cells #[.int .i64 ((abtM 1 (yF p) (zeros p.P.toNat))).K, .int .i64 ((abtM 1 (yF p) (zeros p.P.toNat))).F, .int .i64 ((abtM 1 (yF p) (zeros p.P.toNat))).T, .int .i64 ((abtM 1 (yF p) (zeros p.P.toNat))).B, .int .i64 ((abtM 1 (yF p) (zeros p.P.toNat))).A, .int .i64 ((abtM 1 (yF p) (zeros p.P.toNat))).C, .slice (some ⟨gm, 0, none⟩) z.length mc, .slice none 0 0, .slice none 0 0] 41 (0, 0))) := hg4
  have HBg : Hid (B4 g4 ∧ ∀ x, (Value.slice (some ⟨gm, 0, none⟩) z.length mc).ownBlock = some x → B4 x) := ⟨hBg, hBe⟩
  have HBL : Hid (∀ x, B4 x → w3.heap.size ≤ x) := hBl
  have HS4 : Hid (w4.cell? ⟨PB, 0, none⟩ = some (.int .i64 p.P) ∧ w4.cell? ⟨g4, 6, none⟩ = some (.slice (some ⟨gm, 0, none⟩) z.length mc)) := ⟨by rw [blk_cell HPB4.out]; rfl, by rw [blk_cell HG4.out]; rfl⟩
  have q0 : ∀ wx : World, (wx.cell? ⟨PB, 0, none⟩ = some (.int .i64 p.P) ∧ wx.cell? ⟨g4, 6, none⟩ = some (.slice (some ⟨gm, 0, none⟩) z.length mc)) → wx.cell? ⟨PB, 0, none⟩ = some (.int .i64 p.P) := fun _ h => h.1
  have q6 : ∀ wx : World, (wx.cell? ⟨PB, 0, none⟩ = some (.int .i64 p.P) ∧ wx.cell? ⟨g4, 6, none⟩ = some (.slice (some ⟨gm, 0, none⟩) z.length mc)) → wx.cell? ⟨g4, 6, none⟩ = some (.slice (some ⟨gm, 0, none⟩) z.length mc) := fun _ h => h.2
  have hl1 : (0 : Int) < (1 : Int) := by omega
  clear hcw4 hch4 hg4 he4 hBg hBe hBl hz i9 hzc hw5 hc5 hgw
  go_upto_region 7 with fail
  refine wp_region_noPanic ?_
  refine wp_region_held_drew (S := (fun wx => wx.cell? ⟨PB, 0, none⟩ = some (.int .i64 p.P) ∧ wx.cell? ⟨g4, 6, none⟩ = some (.slice (some ⟨gm, 0, none⟩) z.length mc))) (by kernel_rfl) ?_ (fun hHeld => ?_)
  · exact HS4.out
  refine wpAnyH_take (i := 0) (oi := ⟨some 35, _, _, _, _, _⟩) (v := ?_) rfl (by kernel_rfl) (by kernel_rfl) (by kernel_rfl) (fun _ _ _ h => h) (Or.inl ⟨by rfl, ?_⟩) hHeld ?_
  rotate_left
  · intro w hSw; (try dsimp only at hSw); go_simp; all_goals (with_reducible rfl)
  try simp only [Act.put, List.setIfInBounds_toArray, List.set_cons_zero, List.set_cons_succ]
  refine wpAnyH_take (i := 1) (oi := ⟨some 36, _, _, _, _, _⟩) (v := ?_) rfl (by kernel_rfl) (by kernel_rfl) (by kernel_rfl) (fun _ _ _ h => h) (Or.inl ⟨by rfl, ?_⟩) hHeld ?_
  rotate_left
  · intro w hSw; (try dsimp only at hSw); go_simp; all_goals (with_reducible rfl)
  try simp only [Act.put, List.setIfInBounds_toArray, List.set_cons_zero, List.set_cons_succ]
  refine wpAnyH_take (i := 2) (oi := ⟨some 37, _, _, _, _, _⟩) (v := ?_) rfl (by kernel_rfl) (by kernel_rfl) (by kernel_rfl) (fun _ _ _ h => h) (Or.inl ⟨by rfl, ?_⟩) hHeld ?_
  rotate_left
  · intro w hSw; (try dsimp only at hSw); go_simp; all_goals (with_reducible rfl)
  try simp only [Act.put, List.setIfInBounds_toArray, List.set_cons_zero, List.set_cons_succ]
  refine wpAnyH_take (i := 3) (oi := ⟨some 38, _, _, _, _, _⟩) (v := ?_) rfl (by kernel_rfl) (by kernel_rfl) (by kernel_rfl) (fun _ _ _ h => h) (Or.inl ⟨by rfl, ?_⟩) hHeld ?_
  rotate_left
  · intro w hSw; (try dsimp only at hSw); go_simp; all_goals (with_reducible rfl)
  try simp only [Act.put, List.setIfInBounds_toArray, List.set_cons_zero, List.set_cons_succ]
  refine wpAnyH_take (i := 4) (oi := ⟨some 39, _, _, _, _, _⟩) (v := ?_) rfl (by kernel_rfl) (by kernel_rfl) (by kernel_rfl) (fun _ _ _ h => h) (Or.inl ⟨by rfl, ?_⟩) hHeld ?_
  rotate_left
  · intro w hSw; (try dsimp only at hSw); go_simp; all_goals (with_reducible rfl)
  try simp only [Act.put, List.setIfInBounds_toArray, List.set_cons_zero, List.set_cons_succ]
  refine wpAnyH_take (i := 5) (oi := ⟨some 40, _, _, _, _, _⟩) (v := ?_) rfl (by kernel_rfl) (by kernel_rfl) (by kernel_rfl) (fun _ _ _ h => h) (Or.inl ⟨by rfl, ?_⟩) hHeld ?_
  rotate_left
  · intro w hSw; (try dsimp only at hSw); go_simp; all_goals (with_reducible rfl)
  try simp only [Act.put, List.setIfInBounds_toArray, List.set_cons_zero, List.set_cons_succ]
  refine wpAnyH_take (i := 6) (oi := ⟨some 41, _, _, _, _, _⟩) (v := ?_) rfl (by kernel_rfl) (by kernel_rfl) (by kernel_rfl) (fun _ _ _ h => h) (Or.inl ⟨by rfl, ?_⟩) hHeld ?_
  rotate_left
  · intro w hSw; (try dsimp only at hSw); go_simp; all_goals (with_reducible rfl)
  try simp only [Act.put, List.setIfInBounds_toArray, List.set_cons_zero, List.set_cons_succ]
  refine wpAnyH_take (i := 7) (oi := ⟨some 42, _, _, _, _, _⟩) (v := ?_) rfl (by kernel_rfl) (by kernel_rfl) (by kernel_rfl) (fun _ _ _ h => h) (Or.inl ⟨by rfl, ?_⟩) hHeld ?_
  rotate_left
  · intro w hSw; (try dsimp only at hSw); go_simp; all_goals (with_reducible rfl)
  try simp only [Act.put, List.setIfInBounds_toArray, List.set_cons_zero, List.set_cons_succ]
  refine wpAnyH_take (i := 8) (oi := ⟨some 43, _, _, _, _, _⟩) (v := ?_) rfl (by kernel_rfl) (by kernel_rfl) (by kernel_rfl) (fun _ _ _ h => h) (Or.inl ⟨by rfl, ?_⟩) hHeld ?_
  rotate_left
  · intro w hSw; (try dsimp only at hSw); go_simp; all_goals (with_reducible rfl)
  try simp only [Act.put, List.setIfInBounds_toArray, List.set_cons_zero, List.set_cons_succ]
  refine wpAnyH_take (i := 9) (oi := ⟨some 44, _, _, _, _, _⟩) (v := ?_) rfl (by kernel_rfl) (by kernel_rfl) (by kernel_rfl) (fun _ _ _ h => h) (Or.inl ⟨by rfl, ?_⟩) hHeld ?_
  rotate_left
  · intro w hSw; (try dsimp only at hSw); go_simp; all_goals (with_reducible rfl)
  try simp only [Act.put, List.setIfInBounds_toArray, List.set_cons_zero, List.set_cons_succ]
  refine wpAnyH_take (i := 10) (oi := ⟨some 45, _, _, _, _, _⟩) (v := ?_) rfl (by kernel_rfl) (by kernel_rfl) (by kernel_rfl) (fun _ _ _ h => h) (Or.inl ⟨by rfl, ?_⟩) hHeld ?_
  rotate_left
  · intro w hSw; (try dsimp only at hSw); go_simp; all_goals (with_reducible rfl)
  try simp only [Act.put, List.setIfInBounds_toArray, List.set_cons_zero, List.set_cons_succ]
  refine wpAnyH_take (i := 11) (oi := ⟨some 46, _, _, _, _, _⟩) (v := ?_) rfl (by kernel_rfl) (by kernel_rfl) (by kernel_rfl) (fun _ _ _ h => h) (Or.inl ⟨by rfl, ?_⟩) hHeld ?_
  rotate_left
  · intro w hSw; (try dsimp only at hSw); go_simp; all_goals (with_reducible rfl)
  try simp only [Act.put, List.setIfInBounds_toArray, List.set_cons_zero, List.set_cons_succ]
  refine wpAnyH_take (i := 12) (oi := ⟨some 47, _, _, _, _, _⟩) (v := ?_) rfl (by kernel_rfl) (by kernel_rfl) (by kernel_rfl) (fun _ _ _ h => h) (Or.inl ⟨by rfl, ?_⟩) hHeld ?_
  rotate_left
  · intro w hSw; (try dsimp only at hSw); go_simp; all_goals (with_reducible rfl)
  try simp only [Act.put, List.setIfInBounds_toArray, List.set_cons_zero, List.set_cons_succ]
  refine wpAnyH_take (i := 13) (oi := ⟨some 48, _, _, _, _, _⟩) (v := ?_) rfl (by kernel_rfl) (by kernel_rfl) (by kernel_rfl) (fun _ _ _ h => h) (Or.inl ⟨by rfl, ?_⟩) hHeld ?_
  rotate_left
  · intro w hSw; (try dsimp only at hSw); go_simp; all_goals (with_reducible rfl)
  try simp only [Act.put, List.setIfInBounds_toArray, List.set_cons_zero, List.set_cons_succ]
  refine wpAnyH_take (i := 14) (oi := ⟨some 49, _, _, _, _, _⟩) (v := ?_) rfl (by kernel_rfl) (by kernel_rfl) (by kernel_rfl) (fun _ _ _ h => h) (Or.inl ⟨by rfl, ?_⟩) hHeld ?_
  rotate_left
  · intro w hSw; (try dsimp only at hSw); go_simp; all_goals (with_reducible rfl)
  try simp only [Act.put, List.setIfInBounds_toArray, List.set_cons_zero, List.set_cons_succ]
  refine wpAnyH_take (i := 15) (oi := ⟨some 50, _, _, _, _, _⟩) (v := ?_) rfl (by kernel_rfl) (by kernel_rfl) (by kernel_rfl) (fun _ _ _ h => h) (Or.inl ⟨by rfl, ?_⟩) hHeld ?_
  rotate_left
  · intro w hSw; (try dsimp only at hSw); go_simp; all_goals (with_reducible rfl)
  try simp only [Act.put, List.setIfInBounds_toArray, List.set_cons_zero, List.set_cons_succ]
  refine wpAnyH_take (i := 16) (oi := ⟨some 51, _, _, _, _, _⟩) (v := ?_) rfl (by kernel_rfl) (by kernel_rfl) (by kernel_rfl) (fun _ _ _ h => h) (Or.inl ⟨by rfl, ?_⟩) hHeld ?_
  rotate_left
  · intro w hSw; (try dsimp only at hSw); go_simp; all_goals (with_reducible rfl)
  try simp only [Act.put, List.setIfInBounds_toArray, List.set_cons_zero, List.set_cons_succ]
  refine wpAnyH_done (by kernel_rfl) ?_ _
  refine NoPanic.normal ?_
  clear q0 q6
  go_upto_region 9 with fail
  have g6 : w4.cell? ⟨g4, 6, none⟩ = some (.slice (some ⟨gm, 0, none⟩) z.length mc) := HS4.out.2
  go_upto_region 10 with fail
  rw [← HW5.out]
  clear g6 c0 z0
  go_wp2_with fail
  refine (ctries_walk (HC5.out.below (below_drewN w5 1))).mono ?_
  rintro e w6 ⟨vl, W6, rfl, hy6, hr6, hl6, hB6⟩
  obtain ⟨x6, rfl, hxy⟩ := one_ofG hy6
  obtain ⟨hlf, hle⟩ := hl6 _ (List.mem_singleton.2 rfl)
  obtain ⟨y, fv, ev⟩ := x6
  replace hxy : y = yF p := hxy
  obtain ⟨kk, hkk, hk1, hk4⟩ := is_P HIS.out
  have hyf : y.f = zeros kk := by rw [hxy]; show zeros p.P.toNat = _; rw [hkk]; rfl
  have hyl : y.f.length = kk := by rw [hyf, zeros_len]
  replace hlf : OwN w5.drew.heap.size w6 fv y.f := hlf
  replace hle : OwN w5.drew.heap.size w6 ev y.e := hle
  obtain ⟨gf, fc, rfl, _, _, _, _⟩ := row_formY hlf (by omega)
  obtain ⟨ea, ec, rfl, _, _⟩ := own_formY hle
  obtain ⟨g6, cap6, rfl, _, _, _, _⟩ := row_formY hr6 (by simp)
  have hcel := fun q (hq : q < 7) => (own_cellY (j := q) (u := (cellsY ⟨y, .slice (some ⟨gf, 0, none⟩) y.f.length fc, .slice ea y.e.length ec⟩)[q]'(by simpa [cellsY] using hq)) hr6 (by have := flatY_get [⟨y, .slice (some ⟨gf, 0, none⟩) y.f.length fc, .slice ea y.e.length ec⟩] 0 q (by simp) hq; rw [Nat.zero_mul, Nat.zero_add] at this; rw [this, List.getElem?_eq_getElem]; rfl)).1
  have c6_0 : w6.cell? ⟨g6, 0, none⟩ = some (.int .i64 y.b) := hcel 0 (by omega)
  have c6_1 : w6.cell? ⟨g6, 1, none⟩ = some (.int .i64 y.a) := hcel 1 (by omega)
  have c6_2 : w6.cell? ⟨g6, 2, none⟩ = some (.int .i64 y.n) := hcel 2 (by omega)
  have c6_3 : w6.cell? ⟨g6, 3, none⟩ = some (.int .i64 y.h) := hcel 3 (by omega)
  have c6_4 : w6.cell? ⟨g6, 4, none⟩ = some (.int .i64 y.t) := hcel 4 (by omega)
  have c6_5 : w6.cell? ⟨g6, 5, none⟩ = some (.slice (some ⟨gf, 0, none⟩) y.f.length fc) := hcel 5 (by omega)
  have c6_6 : w6.cell? ⟨g6, 6, none⟩ = some (.slice ea y.e.length ec) := hcel 6 (by omega)
  obtain ⟨w7, hw7⟩ : ∃ w7, w7 = w6.alloc (Obj.cells #[.int .i64 y.b, .int .i64 y.a, .int .i64 y.n, .int .i64 y.h, .int .i64 y.t, .slice (some ⟨gf, 0, none⟩) y.f.length fc, .slice ea y.e.length ec] 43) := ⟨_, rfl⟩
  have HW7 := hidH hw7
  have hb67 : Below w6.heap.size w6 w7 := by rw [hw7]; exact below_alloc _ _
  have hb57 : Below w5.heap.size w5 w7 := below_trans (below_drewN w5 1) (below_trans hB6 hb67)
  obtain ⟨TB, hTB⟩ : ∃ TB, TB = w6.heap.size := ⟨_, rfl⟩
  have HTBD : Hid (TB = w6.heap.size) := hTB
  have hTB7 : w7.heap[TB]? = some (.cells #[.int .i64 y.b, .int .i64 y.a, .int .i64 y.n, .int .i64 y.h, .int .i64 y.t, .slice (some ⟨gf, 0, none⟩) y.f.length fc, .slice ea y.e.length ec] 43 (0, 0)) := by rw [hw7, hTB]; exact alloc_at rfl
  obtain ⟨A2, hA2⟩ : ∃ A2 : Nat → Prop, A2 = fun x => ((False ∨ (w2.heap.size ≤ x ∧ x < w3.heap.size)) ∨ B4 x) ∨ (w5.heap.size ≤ x ∧ x < w7.heap.size) := ⟨_, rfl⟩
  have HC7 : Hid (CW w1 A2 sb cb ⟨p0 p, J1, S1, [y], false⟩ w7) := by show CW _ _ _ _ _ _; rw [hA2, hxy]; exact HC5.out.more hb57
  have hs56 : w5.heap.size ≤ w5.drew.heap.size := (below_drewN w5 1).size
  have HOT7 : Hid (Ot A2 TB ⟨y, .slice (some ⟨gf, 0, none⟩) y.f.length fc, .slice ea y.e.length ec⟩ w7) := by
    have hs := hb67.size
    refine ⟨hTB7, by rw [hA2]; exact .inr ⟨by rw [hTB]; exact Nat.le_trans hs56 hB6.size, blk_lt hTB7⟩, own_base (own_below hlf hb67) (Nat.zero_le _), own_base (own_below hle hb67) (Nat.zero_le _), fun b hb => ?_, fun b hb => ?_⟩
    · rw [hA2]; have := hlf.lt b hb; exact .inr ⟨by omega, by omega⟩
    · rw [hA2]; have := hle.lt b hb; exact .inr ⟨by omega, by omega⟩
  have HWB7 : Hid (w7.heap[WB]? = some (.cells (wC p (.slice oa p.l.length oc) sb cb (.slice none 0 0)) 31 (0, 0))) := blk_below HWB5.out hb57
  have HAWB : Hid (A2 WB) := by show A2 WB; rw [hA2]; exact .inl (.inl HA3.out)
  have HY : Hid (y = yF p ∧ y.f = zeros kk ∧ y.f.length = kk) := ⟨hxy, hyf, hyl⟩
  have HGF : Hid (w5.drew.heap.size ≤ gf) := (hlf.lt gf rfl).1
  have HYOK : Hid y.ok := by show y.ok; rw [hxy]; exact yF_ok HIS.out
  have HKK : Hid (p.P = (kk : Int) ∧ 1 ≤ kk ∧ kk ≤ 4) := ⟨hkk, hk1, hk4⟩
  have HPB7 : Hid (w7.heap[PB]? = some (.cells #[.int .i64 p.P, .int .i64 p.S, .int .i64 p.W, .slice oa p.l.length oc, .int .i64 p.A, .int .i64 p.B, .int .i64 p.N, .int .i64 p.G] 24 (0, 0))) := by show _ = _; rw [HPBD.out]; exact blk_below HX1.out HC7.out.bel
  have HMB : Hid ((∀ x, B4 x → w3.heap.size ≤ x) ∧ B4 g4) := ⟨HBL.out, HBg.out.1⟩
  have hmk := make_ints (q := kk) (by omega)
  have pz0 : ∀ wx, Below w7.heap.size w7 wx → wx.cell? ⟨PB, 0, none⟩ = some (.int .i64 (kk : Int)) := fun wx hb => cell_bel hb (blk_lt HPB7.out) (by rw [blk_cell HPB7.out, ← HKK.out.1]; rfl)
  have tz5 : ∀ wx, Below w7.heap.size w7 wx → wx.cell? ⟨TB, 5, none⟩ = some (.slice (some ⟨gf, 0, none⟩) y.f.length fc) := fun wx hb => cell_bel hb (blk_lt HOT7.out.tb) (by rw [blk_cell HOT7.out.tb]; rfl)
  clear hy6 hr6 hl6 hB6 hxy hlf hle hcel hw7 hb67 hb57 hTB hTB7 hA2 hs56 hkk hk1 hk4 hyf hyl i9' hzl hz1 hz1i
  go_upto_region 11 with fail
  rw [← HW7.out, ← HTBD.out]
  clear c6_0 c6_1 c6_2 c6_3 c6_4 c6_5 c6_6
  refine wp_region_noPanic ?_
  refine wp_region_held_drew (S := (fun wx => Below w7.heap.size w7 wx)) (by kernel_rfl) ?_ (fun hHeld => ?_)
  · exact (below_drewN w7 1)
  refine wpAnyH_take (i := 0) (oi := ⟨some 62, _, _, _, _, _⟩) (v := ?_) rfl (by kernel_rfl) (by kernel_rfl) (by kernel_rfl) (fun _ _ _ h => h) (Or.inl ⟨by rfl, ?_⟩) hHeld ?_
  rotate_left
  · intro w hSw; (try dsimp only at hSw); go_simp; all_goals (with_reducible rfl)
  try simp only [Act.put, List.setIfInBounds_toArray, List.set_cons_zero, List.set_cons_succ]
  refine wpAnyH_take (i := 1) (oi := ⟨some 63, _, _, _, _, _⟩) (v := ?_) rfl (by kernel_rfl) (by kernel_rfl) (by kernel_rfl) (fun _ _ _ h => h) (Or.inl ⟨by rfl, ?_⟩) hHeld ?_
  rotate_left
  · intro w hSw; (try dsimp only at hSw); go_simp; all_goals (with_reducible rfl)
  try simp only [Act.put, List.setIfInBounds_toArray, List.set_cons_zero, List.set_cons_succ]
  refine wpAnyH_take (i := 2) (oi := ⟨some 64, _, _, _, _, _⟩) (v := ?_) rfl (by kernel_rfl) (by kernel_rfl) (by kernel_rfl) (fun _ _ _ h => h) (Or.inl ⟨by rfl, ?_⟩) hHeld ?_
  rotate_left
  · intro w hSw; (try dsimp only at hSw); go_simp; all_goals (with_reducible rfl)
  try simp only [Act.put, List.setIfInBounds_toArray, List.set_cons_zero, List.set_cons_succ]
  refine wpAnyH_take (i := 3) (oi := ⟨some 65, _, _, _, _, _⟩) (v := ?_) rfl (by kernel_rfl) (by kernel_rfl) (by kernel_rfl) (fun _ _ _ h => h) (Or.inl ⟨by rfl, ?_⟩) hHeld ?_
  rotate_left
  · intro w hSw; (try dsimp only at hSw); go_simp; all_goals (with_reducible rfl)
  try simp only [Act.put, List.setIfInBounds_toArray, List.set_cons_zero, List.set_cons_succ]
  refine wpAnyH_ready (rs := [4]) (by kernel_rfl) (by simp) ?_
  refine AllReadyH.cons (o := ⟨some 66, _, _, _, _, _⟩) rfl (fun K hK => ?_) AllReadyH.nil
  go_simp
  refine hK.out _ _ ?_ (fun hHeld => ?_)
  · exact (below_trans (below_drewN w7 1) (below_alloc _ _))
  clear hK K
  try simp only [Act.put, List.setIfInBounds_toArray, List.set_cons_zero, List.set_cons_succ]
  refine wpAnyH_ready (rs := [5]) (by kernel_rfl) (by simp) ?_
  refine AllReadyH.cons (o := ⟨some 67, _, _, _, _, _⟩) rfl (fun K hK => ?_) AllReadyH.nil
  go_simp
  refine (ints19_walk (b := zeros kk) ((HOT7.out.yl HYOK.out).f.below (below_trans (below_alloc _ _) (below_drewN _ 1))) (made_nvd (w := w7) kk HKK.out.2.2)).mono ?_
  rw [decide_eq_true HY.out.2.1]
  rintro e w8 ⟨rfl, hB8⟩
  have HB8 : Hid (Below w7.heap.size w7 w8) := below_trans (below_trans (below_alloc _ _) (below_drewN _ 1)) hB8
  clear hB8
  refine hK.out _ _ ?_ (fun hHeld => ?_)
  · exact HB8.out
  clear hK K
  try simp only [Act.put, List.setIfInBounds_toArray, List.set_cons_zero, List.set_cons_succ]
  refine wpAnyH_take (i := 6) (oi := ⟨some 68, _, _, _, _, _⟩) (v := ?_) rfl (by kernel_rfl) (by kernel_rfl) (by kernel_rfl) (fun _ _ _ h => h) (Or.inl ⟨by rfl, ?_⟩) hHeld ?_
  rotate_left
  · intro w hSw; (try dsimp only at hSw); go_simp; all_goals (with_reducible rfl)
  try simp only [Act.put, List.setIfInBounds_toArray, List.set_cons_zero, List.set_cons_succ]
  refine wpAnyH_done (by kernel_rfl) ?_ _
  refine NoPanic.normal ?_
  have HC8 : Hid (CW w1 A2 sb cb ⟨p0 p, J1, S1, [y], false⟩ w8) := HC7.out.below HB8.out
  have HOT8 : Hid (Ot A2 TB ⟨y, .slice (some ⟨gf, 0, none⟩) y.f.length fc, .slice ea y.e.length ec⟩ w8) := HOT7.out.keep (kp_bel HB8.out HC7.out)
  have HWB8 := hidH (blk_below HWB7.out HB8.out)
  have HPB8 := hidH (blk_below HPB7.out HB8.out)
  have t5 := tz5 _ HB8.out
  have pl0 : w8.cell? ⟨PB, 0, none⟩ = some (.int .i64 p.P) := by rw [blk_cell HPB8.out]; rfl
  have pl1 : w8.cell? ⟨PB, 1, none⟩ = some (.int .i64 p.S) := by rw [blk_cell HPB8.out]; rfl
  have pl2 : w8.cell? ⟨PB, 2, none⟩ = some (.int .i64 p.W) := by rw [blk_cell HPB8.out]; rfl
  have pl3 : w8.cell? ⟨PB, 3, none⟩ = some (.slice oa p.l.length oc) := by rw [blk_cell HPB8.out]; rfl
  have pl4 : w8.cell? ⟨PB, 4, none⟩ = some (.int .i64 p.A) := by rw [blk_cell HPB8.out]; rfl
  have pl5 : w8.cell? ⟨PB, 5, none⟩ = some (.int .i64 p.B) := by rw [blk_cell HPB8.out]; rfl
  have pl6 : w8.cell? ⟨PB, 6, none⟩ = some (.int .i64 p.N) := by rw [blk_cell HPB8.out]; rfl
  have pl7 : w8.cell? ⟨PB, 7, none⟩ = some (.int .i64 p.G) := by rw [blk_cell HPB8.out]; rfl
  clear pz0 tz5 hmk
  go_wp2_with fail
  refine (onward_walk (p := p) (f := y.f) (l := on) ⟨_, _, _, rfl⟩ (HOT8.out.yl HYOK.out).f (HON.out.below (HB1.out.trans (HC8.out.bel.mono HB1.out.size))) HYOK.out.fm HYOK.out.fl (by have := (Pn.is_num HIS.out).2.2.2.2.1; omega) (by have := (Pn.is_num HIS.out).2.2.2.2.1; omega)).mono ?_
  rintro e w9 ⟨v9, rfl, ho9, hB9⟩
  obtain ⟨lo, hlo⟩ : ∃ lo, lo = onw p.B y.f on := ⟨_, rfl⟩
  rw [← hlo] at ho9
  have hlol : lo.length = kk := by rw [hlo, onw_len]; exact HY.out.2.2
  obtain ⟨ge, ce, e9, hce1, hce2, hgeb, hgel⟩ := row_formY ho9 (by have := HKK.out.2.1; omega)
  rw [hlol] at e9
  subst e9
  have hlo2 : lo = onw p.B (zeros p.P.toNat) on := by rw [hlo, HY.out.2.1, HKK.out.1]; rfl
  have HLO : Hid (lo = onw p.B (zeros p.P.toNat) on ∧ lo.length = kk) := ⟨hlo2, hlol⟩
  have HO9 : Hid (OwN w8.heap.size w9 (.slice (some ⟨ge, 0, none⟩) kk ce) lo) := ho9
  have HB9 : Hid (Below w8.heap.size w8 w9) := hB9
  have HGE : Hid (w8.heap.size ≤ ge ∧ kk ≤ ce) := ⟨hgeb, by omega⟩
  have hk0 : 0 < lo.length := by have := HKK.out.2.1; omega
  have hcl := own_cellY (j := 0) (u := .int .i64 (nth lo 0)) (show w9.ownsRow w8.heap.size 3 1 (.slice (some ⟨ge, 0, none⟩) lo.length ce) lo.length (cellsN lo) by rw [hlol]; have h := ho9; rw [OwN, hlol] at h; exact h) (by unfold cellsN; rw [List.getElem?_map, List.getElem?_eq_getElem hk0]; have := nth_at (l := lo) (i := 0) hk0; rw [← this]; rfl)
  have k0 := hcl.1
  have z0 := hcl.2
  have hkp : 0 < kk := by have := HKK.out.2.1; omega
  have hkpi : (0 : Int) < (kk : Int) := by omega
  clear ho9 hB9 hlo hlo2 hlol hce1 hce2 hgeb hgel hcl hk0 pl0 pl1 pl2 pl3 pl4 pl5 pl6 pl7 t5
  go_upto_if 77 with fail
  go_cut [10] (fun ev wx => ev = .slice (some ⟨ge, 0, none⟩) kk ce ∧ ∃ l, Enz p l ∧ OwN w8.heap.size wx (.slice (some ⟨ge, 0, none⟩) kk ce) l ∧ Below w8.heap.size w8 wx)
  case first =>
    obtain ⟨_, _, _, _, ⟨hB1', hB16⟩, _⟩ := Pn.is_num HIS.out
    by_cases h0 : nth lo 0 = 0
    · have h0b : (nth lo 0 == 0) = true := by simp [h0]
      have H0 := hidH h0
      clear h0
      go_wp2_with fail
      go_meet
      refine ⟨rfl, lo.set 0 1, ?_, own_setN 1 HO9.out HLO.out.2.symm, HB9.out.trans ((ch_set w9 ge 0 _).to_below HB9.out.size (fun b hb => by rw [hb]; exact HGE.out.1))⟩
      rw [HLO.out.1]
      exact enz_one hB1' hB16 (by have := HKK.out; omega)
    · have h0b : (nth lo 0 == 0) = false := by simp [h0]
      have H0 := hidH h0
      clear h0
      go_wp2_with fail
      go_meet
      refine ⟨rfl, lo, ?_, HO9.out, HB9.out⟩
      rw [HLO.out.1]
      exact enz_pos hB1' hB16 (by have := HKK.out; omega) (by rw [← HLO.out.1]; exact H0.out)
  case rest =>
    obtain ⟨rfl, l, hen, hoe, hB810⟩ := hcut
    obtain ⟨w10, hw10⟩ : ∃ w10, w10 = wc := ⟨_, rfl⟩
    subst hw10
    have HEN : Hid (Enz p l) := hen
    have hll : l.length = kk := by rw [hen.ln, HKK.out.1]; rfl
    have HLL : Hid (l.length = kk) := hll
    have HOE : Hid (OwN w8.heap.size w10 (.slice (some ⟨ge, 0, none⟩) kk ce) l) := hoe
    have HB810 : Hid (Below w8.heap.size w8 w10) := hB810
    have hB16 := (Pn.is_num HIS.out).2.2.2.2.1.2
    have HLM : Hid (∀ v ∈ l, 0 ≤ v ∧ v ≤ 256) := hen.m hB16
    have HPB10 := hidH (blk_below HPB8.out hB810)
    have pz0 : ∀ wx, Below w10.heap.size w10 wx → wx.cell? ⟨PB, 0, none⟩ = some (.int .i64 (kk : Int)) := fun wx hb => cell_bel hb (blk_lt HPB10.out) (by rw [blk_cell HPB10.out, ← HKK.out.1]; rfl)
    have hkk4 : kk ≤ 4 := HKK.out.2.2
    clear hen hoe hB810 hB16 k0 z0 hll
    go_upto_region 16 with fail
    go_cut [11] (fun mv wx => ∃ gm cm, mv = .slice (some ⟨gm, 0, none⟩) kk cm ∧ kk + 1 ≤ cm ∧ w10.heap.size ≤ gm ∧ Zw wx gm cm (l ++ [71]) ∧ Below w10.heap.size w10 wx)
    case first =>
      as_aux_lemma =>
        refine wp_region_noPanic ?_
        refine wp_region_held_drew (S := (fun wx => Below w10.heap.size w10 wx)) (by kernel_rfl) ?_ (fun hHeld => ?_)
        · exact (below_drewN w10 1)
        refine wpAnyH_take (i := 1) (oi := ⟨some 81, _, _, _, _, _⟩) (v := ?_) rfl (by kernel_rfl) (by kernel_rfl) (by kernel_rfl) (fun _ _ _ h => h) (Or.inl ⟨by rfl, ?_⟩) hHeld ?_
        rotate_left
        · intro w hSw; (try dsimp only at hSw); go_simp; all_goals (with_reducible rfl)
        try simp only [Act.put, List.setIfInBounds_toArray, List.set_cons_zero, List.set_cons_succ]
        refine wpAnyH_take (i := 5) (oi := ⟨some 85, _, _, _, _, _⟩) (v := ?_) rfl (by kernel_rfl) (by kernel_rfl) (by kernel_rfl) (fun _ _ _ h => h) (Or.inl ⟨by rfl, ?_⟩) hHeld ?_
        rotate_left
        · intro w hSw; (try dsimp only at hSw); go_simp; all_goals (with_reducible rfl)
        try simp only [Act.put, List.setIfInBounds_toArray, List.set_cons_zero, List.set_cons_succ]
        refine wpAnyH_take (i := 6) (oi := ⟨some 86, _, _, _, _, _⟩) (v := ?_) rfl (by kernel_rfl) (by kernel_rfl) (by kernel_rfl) (fun _ _ _ h => h) (Or.inl ⟨by rfl, ?_⟩) hHeld ?_
        rotate_left
        · intro w hSw; (try dsimp only at hSw); go_simp; all_goals (with_reducible rfl)
        try simp only [Act.put, List.setIfInBounds_toArray, List.set_cons_zero, List.set_cons_succ]
        refine wpAnyH_ready (rs := [0, 3]) (by kernel_rfl) (by simp) ?_
        refine AllReadyH.cons (o := ⟨some 80, _, _, _, _, _⟩) rfl (fun K hK => ?_) (AllReadyH.cons (o := ⟨some 83, _, _, _, _, _⟩) rfl (fun K hK => ?_) AllReadyH.nil)
        · go_simp
          refine nameW (fun wP hwP => ?_)
          have HRP : Hid (wP.ownsRow w10.heap.size 3 1 (.slice (some ⟨w10.heap.size, 0, none⟩) 0 0) 0 []) := (show World.ownsRow _ _ _ _ _ _ _ from by rw [hwP]; first | exact own_base (own_below (World.ownsRow_made _ #[] 0 (Nat.le_refl _) (by simp [maxLen]) (by simp)) (below_drewN _ 1)) (by first | exact Nat.le_refl _ | exact hHeld.size) | exact own_base (World.ownsRow_made _ #[] 0 (Nat.le_refl _) (by simp [maxLen]) (by simp)) (by first | exact Nat.le_refl _ | exact hHeld.size))
          have HBP : Hid (Below w10.heap.size w10 wP) := (show Below _ _ _ from by rw [hwP]; first | exact hHeld.alloc hHeld.size _ | exact (below_alloc _ _).drew)
          clear hwP
          refine hK.out _ _ ?_ (fun hHeld => ?_)
          · exact HBP.out
          clear hK K
          try simp only [Act.put, List.setIfInBounds_toArray, List.set_cons_zero, List.set_cons_succ]
          refine wpAnyH_ready (rs := [2, 3]) (by kernel_rfl) (by simp) ?_
          refine AllReadyH.cons (o := ⟨some 82, _, _, _, _, _⟩) rfl (fun K hK => ?_) (AllReadyH.cons (o := ⟨some 83, _, _, _, _, _⟩) rfl (fun K hK => ?_) AllReadyH.nil)
          · refine step_app_sv rfl (.tmp 80) (.tmp 81) 25 rfl w10.heap.size 3 .i64 Try.underlying25 info_int (.slice (some ⟨w10.heap.size, 0, none⟩) 0 0) 0 [] (by simp [Act.eval]) HRP.out (.slice (some ⟨ge, 0, none⟩) kk ce) l (by simp [Act.eval]) (nv_sv ((own_nv HOE.out (in64_of HLM.out)).below HBP.out)) (by have := HLL.out; omega) HBP.out.size ?_
            intro vA wA hrA hgA hatA
            have HRA : Hid (wA.ownsRow w10.heap.size 3 1 vA (0 + l.length) ([] ++ l.map (Value.int .i64))) := hrA
            have HBA : Hid (Below w10.heap.size w10 wA) := HBP.out.grown hgA HBP.out.size (fun x hx => by cases hx; exact (HRP.out.lt _ rfl).1)
            obtain ⟨aA, kA, rfl, _, _⟩ := own_formY hrA
            clear hrA hgA hatA
            refine hK.out _ _ ?_ (fun hHeld => ?_)
            · exact HBA.out
            clear hK K
            try simp only [Act.put, List.setIfInBounds_toArray, List.set_cons_zero, List.set_cons_succ]
            refine wpAnyH_ready (rs := [3]) (by kernel_rfl) (by simp) ?_
            refine AllReadyH.cons (o := ⟨some 83, _, _, _, _, _⟩) rfl (fun K hK => ?_) AllReadyH.nil
            go_simp
            refine nameW (fun wM hwM => ?_)
            have HVM : Hid (OwN 0 wM (.slice (some ⟨wA.heap.size, 0, none⟩) 1 1) [71]) := (show OwN 0 wM _ _ from by rw [hwM]; first | exact own_base (own_below (lit1 _ 71) (below_drewN _ 1)) (Nat.zero_le _) | exact own_base (lit1 _ 71) (Nat.zero_le _))
            have HBM : Hid (Below w10.heap.size w10 wM) := (show Below _ _ _ from by rw [hwM]; first | exact hHeld.alloc hHeld.size _ | exact (below_alloc _ _).drew)
            have HMM : Hid (Below wA.heap.size wA wM) := by show Below _ _ _; rw [hwM]; exact below_alloc _ _
            clear hwM
            refine hK.out _ _ ?_ (fun hHeld => ?_)
            · exact HBM.out
            clear hK K
            try simp only [Act.put, List.setIfInBounds_toArray, List.set_cons_zero, List.set_cons_succ]
            refine wpAnyH_ready (rs := [4]) (by kernel_rfl) (by simp) ?_
            refine AllReadyH.cons (o := ⟨some 84, _, _, _, _, _⟩) rfl (fun K hK => ?_) AllReadyH.nil
            refine step_app_sv rfl (.tmp 82) (.tmp 83) 25 rfl w10.heap.size 3 .i64 Try.underlying25 info_int (.slice aA (0 + l.length) kA) (0 + l.length) ([] ++ l.map (Value.int .i64)) (by simp [Act.eval]) (own_below HRA.out HMM.out) (.slice (some ⟨wA.heap.size, 0, none⟩) 1 1) [71] (by simp [Act.eval]) (nv_sv (own_nv HVM.out (fun v hv => by simp at hv; omega))) (by have := HLL.out; simp; omega) HBM.out.size ?_
            intro vB wB hrB hgB hatB
            have HBB : Hid (Below w10.heap.size w10 wB) := HBM.out.grown hgB HBM.out.size (fun x hx => ((own_below HRA.out HMM.out).lt _ hx).1)
            obtain ⟨gm, cm, rfl, hgm, hcm, hzm⟩ := app_row (L := l) (x := 71) (by simpa [cellsN] using hrB) HLL.out
            have HZM : Hid (kk + 1 ≤ cm ∧ w10.heap.size ≤ gm ∧ Zw wB gm cm (l ++ [71])) := ⟨hcm, hgm, hzm⟩
            have hkc : kk ≤ cm := by omega
            have hkci : (kk : Int) ≤ (cm : Int) := by omega
            clear hrB hgB hatB hgm hzm hcm
            refine hK.out _ _ ?_ (fun hHeld => ?_)
            · exact HBB.out
            clear hK K
            try simp only [Act.put, List.setIfInBounds_toArray, List.set_cons_zero, List.set_cons_succ]
            refine wpAnyH_take (i := 7) (oi := ⟨some 87, _, _, _, _, _⟩) (v := ?_) rfl (by kernel_rfl) (by kernel_rfl) (by kernel_rfl) (fun _ _ _ h => h) (Or.inl ⟨by rfl, ?_⟩) hHeld ?_
            rotate_left
            · intro w hSw; (try dsimp only at hSw); go_simp; all_goals (with_reducible rfl)
            try simp only [Act.put, List.setIfInBounds_toArray, List.set_cons_zero, List.set_cons_succ]
            refine wpAnyH_take (i := 8) (oi := ⟨some 11, _, _, _, _, _⟩) (v := ?_) rfl (by kernel_rfl) (by kernel_rfl) (by kernel_rfl) (fun _ _ _ h => h) (Or.inl ⟨by rfl, ?_⟩) hHeld ?_
            rotate_left
            · intro w hSw; (try dsimp only at hSw); go_simp; all_goals (with_reducible rfl)
            try simp only [Act.put, List.setIfInBounds_toArray, List.set_cons_zero, List.set_cons_succ]
            refine wpAnyH_done (by kernel_rfl) ?_ _
            refine NoPanic.normal ?_
            go_wp2_with fail
            go_meet
            exact ⟨gm, cm, rfl, HZM.out.1, HZM.out.2.1, HZM.out.2.2, HBB.out⟩
          · go_simp
            refine nameW (fun wM hwM => ?_)
            have HVM : Hid (OwN 0 wM (.slice (some ⟨wP.heap.size, 0, none⟩) 1 1) [71]) := (show OwN 0 wM _ _ from by rw [hwM]; first | exact own_base (own_below (lit1 _ 71) (below_drewN _ 1)) (Nat.zero_le _) | exact own_base (lit1 _ 71) (Nat.zero_le _))
            have HBM : Hid (Below w10.heap.size w10 wM) := (show Below _ _ _ from by rw [hwM]; first | exact hHeld.alloc hHeld.size _ | exact (below_alloc _ _).drew)
            have HMM : Hid (Below wP.heap.size wP wM) := by show Below _ _ _; rw [hwM]; exact below_alloc _ _
            clear hwM
            refine hK.out _ _ ?_ (fun hHeld => ?_)
            · exact HBM.out
            clear hK K
            try simp only [Act.put, List.setIfInBounds_toArray, List.set_cons_zero, List.set_cons_succ]
            refine wpAnyH_ready (rs := [2]) (by kernel_rfl) (by simp) ?_
            refine AllReadyH.cons (o := ⟨some 82, _, _, _, _, _⟩) rfl (fun K hK => ?_) AllReadyH.nil
            refine step_app_sv rfl (.tmp 80) (.tmp 81) 25 rfl w10.heap.size 3 .i64 Try.underlying25 info_int (.slice (some ⟨w10.heap.size, 0, none⟩) 0 0) 0 [] (by simp [Act.eval]) (own_below HRP.out HMM.out) (.slice (some ⟨ge, 0, none⟩) kk ce) l (by simp [Act.eval]) (nv_sv ((own_nv HOE.out (in64_of HLM.out)).below HBM.out)) (by have := HLL.out; omega) HBM.out.size ?_
            intro vA wA hrA hgA hatA
            have HRA : Hid (wA.ownsRow w10.heap.size 3 1 vA (0 + l.length) ([] ++ l.map (Value.int .i64))) := hrA
            have HBA : Hid (Below w10.heap.size w10 wA) := HBM.out.grown hgA HBM.out.size (fun x hx => by cases hx; exact ((own_below HRP.out HMM.out).lt _ rfl).1)
            obtain ⟨aA, kA, rfl, _, _⟩ := own_formY hrA
            have HVA : Hid (OwN 0 wA (.slice (some ⟨wP.heap.size, 0, none⟩) 1 1) [71]) := row_keep HVM.out fun b hb => hgA.block b (HVM.out.lt b hb).2 (fun e => by have hb' := Option.some.inj (show some (wP.heap.size) = some b from hb); have e' : w10.heap.size = b := (by first | exact Option.some.inj e | exact (Option.some.inj e).symm); have h1 : w10.heap.size < wP.heap.size := (HRP.out.lt _ rfl).2; omega)
            clear hrA hgA hatA
            refine hK.out _ _ ?_ (fun hHeld => ?_)
            · exact HBA.out
            clear hK K
            try simp only [Act.put, List.setIfInBounds_toArray, List.set_cons_zero, List.set_cons_succ]
            refine wpAnyH_ready (rs := [4]) (by kernel_rfl) (by simp) ?_
            refine AllReadyH.cons (o := ⟨some 84, _, _, _, _, _⟩) rfl (fun K hK => ?_) AllReadyH.nil
            refine step_app_sv rfl (.tmp 82) (.tmp 83) 25 rfl w10.heap.size 3 .i64 Try.underlying25 info_int (.slice aA (0 + l.length) kA) (0 + l.length) ([] ++ l.map (Value.int .i64)) (by simp [Act.eval]) HRA.out (.slice (some ⟨wP.heap.size, 0, none⟩) 1 1) [71] (by simp [Act.eval]) (nv_sv (own_nv HVA.out (fun v hv => by simp at hv; omega))) (by have := HLL.out; simp; omega) HBA.out.size ?_
            intro vB wB hrB hgB hatB
            have HBB : Hid (Below w10.heap.size w10 wB) := HBA.out.grown hgB HBA.out.size (fun x hx => (HRA.out.lt _ hx).1)
            obtain ⟨gm, cm, rfl, hgm, hcm, hzm⟩ := app_row (L := l) (x := 71) (by simpa [cellsN] using hrB) HLL.out
            have HZM : Hid (kk + 1 ≤ cm ∧ w10.heap.size ≤ gm ∧ Zw wB gm cm (l ++ [71])) := ⟨hcm, hgm, hzm⟩
            have hkc : kk ≤ cm := by omega
            have hkci : (kk : Int) ≤ (cm : Int) := by omega
            clear hrB hgB hatB hgm hzm hcm
            refine hK.out _ _ ?_ (fun hHeld => ?_)
            · exact HBB.out
            clear hK K
            try simp only [Act.put, List.setIfInBounds_toArray, List.set_cons_zero, List.set_cons_succ]
            refine wpAnyH_take (i := 7) (oi := ⟨some 87, _, _, _, _, _⟩) (v := ?_) rfl (by kernel_rfl) (by kernel_rfl) (by kernel_rfl) (fun _ _ _ h => h) (Or.inl ⟨by rfl, ?_⟩) hHeld ?_
            rotate_left
            · intro w hSw; (try dsimp only at hSw); go_simp; all_goals (with_reducible rfl)
            try simp only [Act.put, List.setIfInBounds_toArray, List.set_cons_zero, List.set_cons_succ]
            refine wpAnyH_take (i := 8) (oi := ⟨some 11, _, _, _, _, _⟩) (v := ?_) rfl (by kernel_rfl) (by kernel_rfl) (by kernel_rfl) (fun _ _ _ h => h) (Or.inl ⟨by rfl, ?_⟩) hHeld ?_
            rotate_left
            · intro w hSw; (try dsimp only at hSw); go_simp; all_goals (with_reducible rfl)
            try simp only [Act.put, List.setIfInBounds_toArray, List.set_cons_zero, List.set_cons_succ]
            refine wpAnyH_done (by kernel_rfl) ?_ _
            refine NoPanic.normal ?_
            go_wp2_with fail
            go_meet
            exact ⟨gm, cm, rfl, HZM.out.1, HZM.out.2.1, HZM.out.2.2, HBB.out⟩
        · go_simp
          refine nameW (fun wM hwM => ?_)
          have HVM : Hid (OwN 0 wM (.slice (some ⟨w10.heap.size, 0, none⟩) 1 1) [71]) := (show OwN 0 wM _ _ from by rw [hwM]; first | exact own_base (own_below (lit1 _ 71) (below_drewN _ 1)) (Nat.zero_le _) | exact own_base (lit1 _ 71) (Nat.zero_le _))
          have HBM : Hid (Below w10.heap.size w10 wM) := (show Below _ _ _ from by rw [hwM]; first | exact hHeld.alloc hHeld.size _ | exact (below_alloc _ _).drew)
          clear hwM
          refine hK.out _ _ ?_ (fun hHeld => ?_)
          · exact HBM.out
          clear hK K
          try simp only [Act.put, List.setIfInBounds_toArray, List.set_cons_zero, List.set_cons_succ]
          refine wpAnyH_ready (rs := [0]) (by kernel_rfl) (by simp) ?_
          refine AllReadyH.cons (o := ⟨some 80, _, _, _, _, _⟩) rfl (fun K hK => ?_) AllReadyH.nil
          go_simp
          refine nameW (fun wP hwP => ?_)
          have HRP : Hid (wP.ownsRow w10.heap.size 3 1 (.slice (some ⟨wM.heap.size, 0, none⟩) 0 0) 0 []) := (show World.ownsRow _ _ _ _ _ _ _ from by rw [hwP]; first | exact own_base (own_below (World.ownsRow_made _ #[] 0 (Nat.le_refl _) (by simp [maxLen]) (by simp)) (below_drewN _ 1)) (by first | exact Nat.le_refl _ | exact hHeld.size) | exact own_base (World.ownsRow_made _ #[] 0 (Nat.le_refl _) (by simp [maxLen]) (by simp)) (by first | exact Nat.le_refl _ | exact hHeld.size))
          have HBP : Hid (Below w10.heap.size w10 wP) := (show Below _ _ _ from by rw [hwP]; first | exact hHeld.alloc hHeld.size _ | exact (below_alloc _ _).drew)
          have HMP : Hid (Below wM.heap.size wM wP) := by show Below _ _ _; rw [hwP]; exact below_alloc _ _
          clear hwP
          refine hK.out _ _ ?_ (fun hHeld => ?_)
          · exact HBP.out
          clear hK K
          try simp only [Act.put, List.setIfInBounds_toArray, List.set_cons_zero, List.set_cons_succ]
          refine wpAnyH_ready (rs := [2]) (by kernel_rfl) (by simp) ?_
          refine AllReadyH.cons (o := ⟨some 82, _, _, _, _, _⟩) rfl (fun K hK => ?_) AllReadyH.nil
          refine step_app_sv rfl (.tmp 80) (.tmp 81) 25 rfl w10.heap.size 3 .i64 Try.underlying25 info_int (.slice (some ⟨wM.heap.size, 0, none⟩) 0 0) 0 [] (by simp [Act.eval]) HRP.out (.slice (some ⟨ge, 0, none⟩) kk ce) l (by simp [Act.eval]) (nv_sv ((own_nv HOE.out (in64_of HLM.out)).below HBP.out)) (by have := HLL.out; omega) HBP.out.size ?_
          intro vA wA hrA hgA hatA
          have HRA : Hid (wA.ownsRow w10.heap.size 3 1 vA (0 + l.length) ([] ++ l.map (Value.int .i64))) := hrA
          have HBA : Hid (Below w10.heap.size w10 wA) := HBP.out.grown hgA HBP.out.size (fun x hx => by cases hx; exact (HRP.out.lt _ rfl).1)
          obtain ⟨aA, kA, rfl, _, _⟩ := own_formY hrA
          have HVA : Hid (OwN 0 wA (.slice (some ⟨w10.heap.size, 0, none⟩) 1 1) [71]) := row_keep (own_below HVM.out HMP.out) fun b hb => hgA.block b ((own_below HVM.out HMP.out).lt b hb).2 (fun e => by have hb' := Option.some.inj (show some (w10.heap.size) = some b from hb); have e' : wM.heap.size = b := (by first | exact Option.some.inj e | exact (Option.some.inj e).symm); have h2 : w10.heap.size < wM.heap.size := (HVM.out.lt _ rfl).2; omega)
          clear hrA hgA hatA
          refine hK.out _ _ ?_ (fun hHeld => ?_)
          · exact HBA.out
          clear hK K
          try simp only [Act.put, List.setIfInBounds_toArray, List.set_cons_zero, List.set_cons_succ]
          refine wpAnyH_ready (rs := [4]) (by kernel_rfl) (by simp) ?_
          refine AllReadyH.cons (o := ⟨some 84, _, _, _, _, _⟩) rfl (fun K hK => ?_) AllReadyH.nil
          refine step_app_sv rfl (.tmp 82) (.tmp 83) 25 rfl w10.heap.size 3 .i64 Try.underlying25 info_int (.slice aA (0 + l.length) kA) (0 + l.length) ([] ++ l.map (Value.int .i64)) (by simp [Act.eval]) HRA.out (.slice (some ⟨w10.heap.size, 0, none⟩) 1 1) [71] (by simp [Act.eval]) (nv_sv (own_nv HVA.out (fun v hv => by simp at hv; omega))) (by have := HLL.out; simp; omega) HBA.out.size ?_
          intro vB wB hrB hgB hatB
          have HBB : Hid (Below w10.heap.size w10 wB) := HBA.out.grown hgB HBA.out.size (fun x hx => (HRA.out.lt _ hx).1)
          obtain ⟨gm, cm, rfl, hgm, hcm, hzm⟩ := app_row (L := l) (x := 71) (by simpa [cellsN] using hrB) HLL.out
          have HZM : Hid (kk + 1 ≤ cm ∧ w10.heap.size ≤ gm ∧ Zw wB gm cm (l ++ [71])) := ⟨hcm, hgm, hzm⟩
          have hkc : kk ≤ cm := by omega
          have hkci : (kk : Int) ≤ (cm : Int) := by omega
          clear hrB hgB hatB hgm hzm hcm
          refine hK.out _ _ ?_ (fun hHeld => ?_)
          · exact HBB.out
          clear hK K
          try simp only [Act.put, List.setIfInBounds_toArray, List.set_cons_zero, List.set_cons_succ]
          refine wpAnyH_take (i := 7) (oi := ⟨some 87, _, _, _, _, _⟩) (v := ?_) rfl (by kernel_rfl) (by kernel_rfl) (by kernel_rfl) (fun _ _ _ h => h) (Or.inl ⟨by rfl, ?_⟩) hHeld ?_
          rotate_left
          · intro w hSw; (try dsimp only at hSw); go_simp; all_goals (with_reducible rfl)
          try simp only [Act.put, List.setIfInBounds_toArray, List.set_cons_zero, List.set_cons_succ]
          refine wpAnyH_take (i := 8) (oi := ⟨some 11, _, _, _, _, _⟩) (v := ?_) rfl (by kernel_rfl) (by kernel_rfl) (by kernel_rfl) (fun _ _ _ h => h) (Or.inl ⟨by rfl, ?_⟩) hHeld ?_
          rotate_left
          · intro w hSw; (try dsimp only at hSw); go_simp; all_goals (with_reducible rfl)
          try simp only [Act.put, List.setIfInBounds_toArray, List.set_cons_zero, List.set_cons_succ]
          refine wpAnyH_done (by kernel_rfl) ?_ _
          refine NoPanic.normal ?_
          go_wp2_with fail
          go_meet
          exact ⟨gm, cm, rfl, HZM.out.1, HZM.out.2.1, HZM.out.2.2, HBB.out⟩
    case rest =>
      obtain ⟨gm, cm, rfl, hcm, hgm, hzm, hB11⟩ := hcut
      obtain ⟨w11, hw11⟩ : ∃ w11, w11 = wc := ⟨_, rfl⟩
      subst hw11
      have hb811 : Below w8.heap.size w8 w11 := HB810.out.trans (hB11.mono HB810.out.size)
      obtain ⟨A3, hA3⟩ : ∃ A3 : Nat → Prop, A3 = fun x => A2 x ∨ (w8.heap.size ≤ x ∧ x < w11.heap.size) := ⟨_, rfl⟩
      have h23 : ∀ b, A2 b → A3 b := fun b hb => by rw [hA3]; exact .inl hb
      have HC11 : Hid (CW w1 A3 sb cb ⟨p0 p, J1, S1, [y], false⟩ w11) := by show CW _ _ _ _ _ _; rw [hA3]; exact HC8.out.more hb811
      have HOT11 : Hid (Ot A3 TB ⟨y, .slice (some ⟨gf, 0, none⟩) y.f.length fc, .slice ea y.e.length ec⟩ w11) := (HOT8.out.keep (kp_bel hb811 HC8.out)).mono h23
      have HWB11 := hidH (blk_below HWB8.out hb811)
      have HAWB3 : Hid (A3 WB) := h23 _ HAWB.out
      have HPB11 := hidH (blk_below HPB8.out hb811)
      have hoe11 := own_below HOE.out hB11
      have HOE11 : Hid (OwN w8.heap.size w11 (.slice (some ⟨ge, 0, none⟩) kk ce) l) := hoe11
      have HAGE : Hid (A3 ge ∧ A3 gm) := by
        have h1 := hoe11.lt ge rfl
        have h2 := hzm.lt
        have h3 := HB810.out.size
        show A3 ge ∧ A3 gm
        rw [hA3]; exact ⟨.inr h1, .inr ⟨by omega, h2⟩⟩
      have HZM : Hid (Zw w11 gm cm (l ++ [71])) := hzm
      have HGM : Hid (w10.heap.size ≤ gm ∧ kk + 1 ≤ cm) := ⟨hgm, hcm⟩
      have HNM : Hid (∀ wx, Zw wx gm cm (l ++ [71]) → Nv wx (.slice (some ⟨gm, 0, none⟩) kk cm) l) := fun wx h => by have := zw_take h (m := l) (fun i hi => nth_left hi) (by simp) (in64_of HLM.out); rw [HLL.out] at this; exact this
      have HMM := hidH (mem_math (l := l) HIS.out HG1.out HN1.out HJ1.out HY.out.1 HEN.out)
      have i9 : ∀ wx : World, (wx.heap[WB]? = some (.cells (wC p (.slice oa p.l.length oc) sb cb (.slice none 0 0)) 31 (0, 0)) ∧ wx.heap[TB]? = some (.cells #[.int .i64 y.b, .int .i64 y.a, .int .i64 y.n, .int .i64 y.h, .int .i64 y.t, .slice (some ⟨gf, 0, none⟩) y.f.length fc, .slice ea y.e.length ec] 43 (0, 0))) → wx.cell? ⟨WB, 9, none⟩ = some (.pointer (some ⟨cb, 0, none⟩)) := fun wx h => by rw [blk_cell h.1]; rfl
      have tz0 : ∀ wx : World, (wx.heap[WB]? = some (.cells (wC p (.slice oa p.l.length oc) sb cb (.slice none 0 0)) 31 (0, 0)) ∧ wx.heap[TB]? = some (.cells #[.int .i64 y.b, .int .i64 y.a, .int .i64 y.n, .int .i64 y.h, .int .i64 y.t, .slice (some ⟨gf, 0, none⟩) y.f.length fc, .slice ea y.e.length ec] 43 (0, 0))) → wx.cell? ⟨TB, 0, none⟩ = some (.int .i64 y.b) := fun wx h => by rw [blk_cell h.2]; rfl
      have tz1 : ∀ wx : World, (wx.heap[WB]? = some (.cells (wC p (.slice oa p.l.length oc) sb cb (.slice none 0 0)) 31 (0, 0)) ∧ wx.heap[TB]? = some (.cells #[.int .i64 y.b, .int .i64 y.a, .int .i64 y.n, .int .i64 y.h, .int .i64 y.t, .slice (some ⟨gf, 0, none⟩) y.f.length fc, .slice ea y.e.length ec] 43 (0, 0))) → wx.cell? ⟨TB, 1, none⟩ = some (.int .i64 y.a) := fun wx h => by rw [blk_cell h.2]; rfl
      have tz2 : ∀ wx : World, (wx.heap[WB]? = some (.cells (wC p (.slice oa p.l.length oc) sb cb (.slice none 0 0)) 31 (0, 0)) ∧ wx.heap[TB]? = some (.cells #[.int .i64 y.b, .int .i64 y.a, .int .i64 y.n, .int .i64 y.h, .int .i64 y.t, .slice (some ⟨gf, 0, none⟩) y.f.length fc, .slice ea y.e.length ec] 43 (0, 0))) → wx.cell? ⟨TB, 2, none⟩ = some (.int .i64 y.n) := fun wx h => by rw [blk_cell h.2]; rfl
      have tz3 : ∀ wx : World, (wx.heap[WB]? = some (.cells (wC p (.slice oa p.l.length oc) sb cb (.slice none 0 0)) 31 (0, 0)) ∧ wx.heap[TB]? = some (.cells #[.int .i64 y.b, .int .i64 y.a, .int .i64 y.n, .int .i64 y.h, .int .i64 y.t, .slice (some ⟨gf, 0, none⟩) y.f.length fc, .slice ea y.e.length ec] 43 (0, 0))) → wx.cell? ⟨TB, 3, none⟩ = some (.int .i64 y.h) := fun wx h => by rw [blk_cell h.2]; rfl
      have tz4 : ∀ wx : World, (wx.heap[WB]? = some (.cells (wC p (.slice oa p.l.length oc) sb cb (.slice none 0 0)) 31 (0, 0)) ∧ wx.heap[TB]? = some (.cells #[.int .i64 y.b, .int .i64 y.a, .int .i64 y.n, .int .i64 y.h, .int .i64 y.t, .slice (some ⟨gf, 0, none⟩) y.f.length fc, .slice ea y.e.length ec] 43 (0, 0))) → wx.cell? ⟨TB, 4, none⟩ = some (.int .i64 y.t) := fun wx h => by rw [blk_cell h.2]; rfl
      have tz5 : ∀ wx : World, (wx.heap[WB]? = some (.cells (wC p (.slice oa p.l.length oc) sb cb (.slice none 0 0)) 31 (0, 0)) ∧ wx.heap[TB]? = some (.cells #[.int .i64 y.b, .int .i64 y.a, .int .i64 y.n, .int .i64 y.h, .int .i64 y.t, .slice (some ⟨gf, 0, none⟩) y.f.length fc, .slice ea y.e.length ec] 43 (0, 0))) → wx.cell? ⟨TB, 5, none⟩ = some (.slice (some ⟨gf, 0, none⟩) y.f.length fc) := fun wx h => by rw [blk_cell h.2]; rfl
      have tz6 : ∀ wx : World, (wx.heap[WB]? = some (.cells (wC p (.slice oa p.l.length oc) sb cb (.slice none 0 0)) 31 (0, 0)) ∧ wx.heap[TB]? = some (.cells #[.int .i64 y.b, .int .i64 y.a, .int .i64 y.n, .int .i64 y.h, .int .i64 y.t, .slice (some ⟨gf, 0, none⟩) y.f.length fc, .slice ea y.e.length ec] 43 (0, 0))) → wx.cell? ⟨TB, 6, none⟩ = some (.slice ea y.e.length ec) := fun wx h => by rw [blk_cell h.2]; rfl
      clear hcm hgm hzm hB11 hb811 hA3 h23 hoe11 pz0
      go_upto_region 17 with fail
      refine wp_region_noPanic ?_
      refine wp_region_held_drew (S := (fun wx : World => wx.heap[WB]? = some (.cells (wC p (.slice oa p.l.length oc) sb cb (.slice none 0 0)) 31 (0, 0)) ∧ wx.heap[TB]? = some (.cells #[.int .i64 y.b, .int .i64 y.a, .int .i64 y.n, .int .i64 y.h, .int .i64 y.t, .slice (some ⟨gf, 0, none⟩) y.f.length fc, .slice ea y.e.length ec] 43 (0, 0)))) (by kernel_rfl) ?_ (fun hHeld => ?_)
      · exact ⟨blk_below HWB11.out (below_drewN w11 1), (HOT11.out.keep (kp_bel (below_drewN w11 1) HC11.out)).tb⟩
      refine wpAnyH_take (i := 0) (oi := ⟨some 89, _, _, _, _, _⟩) (v := ?_) rfl (by kernel_rfl) (by kernel_rfl) (by kernel_rfl) (fun _ _ _ h => h) (Or.inl ⟨by rfl, ?_⟩) hHeld ?_
      rotate_left
      · intro w hSw; (try dsimp only at hSw); go_simp; all_goals (with_reducible rfl)
      try simp only [Act.put, List.setIfInBounds_toArray, List.set_cons_zero, List.set_cons_succ]
      refine wpAnyH_take (i := 1) (oi := ⟨some 90, _, _, _, _, _⟩) (v := ?_) rfl (by kernel_rfl) (by kernel_rfl) (by kernel_rfl) (fun _ _ _ h => h) (Or.inl ⟨by rfl, ?_⟩) hHeld ?_
      rotate_left
      · intro w hSw; (try dsimp only at hSw); go_simp; all_goals (with_reducible rfl)
      try simp only [Act.put, List.setIfInBounds_toArray, List.set_cons_zero, List.set_cons_succ]
      refine wpAnyH_take (i := 2) (oi := ⟨some 91, _, _, _, _, _⟩) (v := ?_) rfl (by kernel_rfl) (by kernel_rfl) (by kernel_rfl) (fun _ _ _ h => h) (Or.inl ⟨by rfl, ?_⟩) hHeld ?_
      rotate_left
      · intro w hSw; (try dsimp only at hSw); go_simp; all_goals (with_reducible rfl)
      try simp only [Act.put, List.setIfInBounds_toArray, List.set_cons_zero, List.set_cons_succ]
      refine wpAnyH_take (i := 3) (oi := ⟨some 92, _, _, _, _, _⟩) (v := ?_) rfl (by kernel_rfl) (by kernel_rfl) (by kernel_rfl) (fun _ _ _ h => h) (Or.inl ⟨by rfl, ?_⟩) hHeld ?_
      rotate_left
      · intro w hSw; (try dsimp only at hSw); go_simp; all_goals (with_reducible rfl)
      try simp only [Act.put, List.setIfInBounds_toArray, List.set_cons_zero, List.set_cons_succ]
      refine wpAnyH_ready (rs := [4]) (by kernel_rfl) (by simp) ?_
      refine AllReadyH.cons (o := ⟨some 93, _, _, _, _, _⟩) rfl (fun K hK => ?_) AllReadyH.nil
      go_simp
      refine (about19_walk (x := ⟨y, .slice (some ⟨gf, 0, none⟩) y.f.length fc, .slice ea y.e.length ec⟩) (k := 2) (ev := .slice (some ⟨gm, 0, none⟩) kk cm) (l := l) ((HOT11.out.keep (kp_bel (below_drewN w11 1) HC11.out)).yl HYOK.out) (HNM.out _ (HZM.out.below (below_drewN w11 1)))).mono ?_
      rintro e wA ⟨rfl, hBA⟩
      have HBA : Hid (Below w11.heap.size w11 wA) := below_trans (below_drewN w11 1) hBA
      clear hBA
      refine hK.out _ _ ?_ (fun hHeld => ?_)
      · exact ⟨blk_below HWB11.out HBA.out, (HOT11.out.keep (kp_bel HBA.out HC11.out)).tb⟩
      clear hK K
      refine wpAnyH_ready (rs := [5]) (by kernel_rfl) (by simp) ?_
      refine AllReadyH.cons (o := ⟨some 94, _, _, _, _, _⟩) rfl (fun K hK => ?_) AllReadyH.nil
      go_simp
      refine (take_walk19 (m := (⟨2, y.n, 0, y.b, y.a, 0, l, [], []⟩ : Ms)) (HC11.out.below HBA.out) (fun w' hc => ⟨nv_sv (HNM.out _ ((HZM.out.below HBA.out).keep (hc.block gm (HZM.out.below HBA.out).lt (fun h => h.2 HAGE.out.2)))), kv_nil _, qv_nil _⟩) HWR.out).mono ?_
      rw [HMM.out.1.1, HMM.out.1.2.1, HMM.out.1.2.2]
      rintro e w12 ⟨v12, B12, rfl, hmg, hbn, hcw, hch⟩
      have HC12 : Hid (CW w1 (fun x => A3 x ∨ B12 x) sb cb ⟨p0 p, J1, S1, [goY (rdyY y l)], false⟩ w12) := hcw
      have HMG : Hid (MgR B12 w12 v12 (some (abtM 3 (goY (rdyY y l)) l))) := hmg
      have HBN : Hid (∀ x, B12 x → w11.heap.size ≤ x) := fun x hx => Nat.le_trans HBA.out.size (hbn x hx)
      have hk12 : ∀ b, A3 b → w12.heap[b]? = w11.heap[b]? := fun b hb => (kp_cha hch (HC11.out.below HBA.out) b hb).trans (HBA.out.block b (HC11.out.al hb))
      have HK12 := hidH hk12
      have HOT12 : Hid (Ot A3 TB ⟨y, .slice (some ⟨gf, 0, none⟩) y.f.length fc, .slice ea y.e.length ec⟩ w12) := HOT11.out.keep hk12
      have HWB12 : Hid (w12.heap[WB]? = some (.cells (wC p (.slice oa p.l.length oc) sb cb (.slice none 0 0)) 31 (0, 0))) := (hk12 WB HAWB3.out).trans HWB11.out
      obtain ⟨a12, n12, k12, hv12⟩ := hmg.nil_or
      subst hv12
      clear hmg hbn hcw hch hk12
      refine hK.out _ _ ?_ (fun hHeld => ?_)
      · exact ⟨HWB12.out, HOT12.out.tb⟩
      clear hK K
      try simp only [Act.put, List.setIfInBounds_toArray, List.set_cons_zero, List.set_cons_succ]
      refine wpAnyH_take (i := 6) (oi := ⟨some 88, _, _, _, _, _⟩) (v := ?_) rfl (by kernel_rfl) (by kernel_rfl) (by kernel_rfl) (fun _ _ _ h => h) (Or.inl ⟨by rfl, ?_⟩) hHeld ?_
      rotate_left
      · intro w hSw; (try dsimp only at hSw); go_simp; all_goals (with_reducible rfl)
      try simp only [Act.put, List.setIfInBounds_toArray, List.set_cons_zero, List.set_cons_succ]
      refine wpAnyH_take (i := 7) (oi := ⟨some 95, _, _, _, _, _⟩) (v := ?_) rfl (by kernel_rfl) (by kernel_rfl) (by kernel_rfl) (fun _ _ _ h => h) (Or.inl ⟨by rfl, ?_⟩) hHeld ?_
      rotate_left
      · intro w hSw; (try dsimp only at hSw); go_simp; all_goals (with_reducible rfl)
      try simp only [Act.put, List.setIfInBounds_toArray, List.set_cons_zero, List.set_cons_succ]
      refine wpAnyH_take (i := 8) (oi := ⟨some 96, _, _, _, _, _⟩) (v := ?_) rfl (by kernel_rfl) (by kernel_rfl) (by kernel_rfl) (fun _ _ _ h => h) (Or.inl ⟨by rfl, ?_⟩) hHeld ?_
      rotate_left
      · intro w hSw; (try dsimp only at hSw); go_simp; all_goals (with_reducible rfl)
      try simp only [Act.put, List.setIfInBounds_toArray, List.set_cons_zero, List.set_cons_succ]
      refine wpAnyH_take (i := 9) (oi := ⟨some 12, _, _, _, _, _⟩) (v := ?_) rfl (by kernel_rfl) (by kernel_rfl) (by kernel_rfl) (fun _ _ _ h => h) (Or.inl ⟨by rfl, ?_⟩) hHeld ?_
      rotate_left
      · intro w hSw; (try dsimp only at hSw); go_simp; all_goals (with_reducible rfl)
      try simp only [Act.put, List.setIfInBounds_toArray, List.set_cons_zero, List.set_cons_succ]
      refine wpAnyH_take (i := 10) (oi := ⟨some 8, _, _, _, _, _⟩) (v := ?_) rfl (by kernel_rfl) (by kernel_rfl) (by kernel_rfl) (fun _ _ _ h => h) (Or.inl ⟨by rfl, ?_⟩) hHeld ?_
      rotate_left
      · intro w hSw; (try dsimp only at hSw); go_simp; all_goals (with_reducible rfl)
      try simp only [Act.put, List.setIfInBounds_toArray, List.set_cons_zero, List.set_cons_succ]
      refine wpAnyH_done (by kernel_rfl) ?_ _
      refine NoPanic.normal ?_
      clear i9 tz0 tz1 tz2 tz3 tz4 tz5 tz6
      obtain ⟨g12, ev12, hv, hg12, hev12, hBg12, hBe12⟩ := HMG.out
      cases hv
      replace hev12 : OwN 0 w12 ev12 l := hev12
      obtain ⟨gE, cE, e12, _, _, _, _⟩ := row_formY hev12 (by have := HLL.out; have := HKK.out.2.1; omega)
      rw [HLL.out] at e12
      subst e12
      have HBE : Hid (w11.heap.size ≤ gE ∧ w11.heap.size ≤ g12) := ⟨HBN.out _ (hBe12 gE rfl), HBN.out _ hBg12⟩
      have HBE2 : Hid (B12 gE) := hBe12 gE rfl
      have HG12 : Hid (w12.heap[g12]? = some (.cells #[.int .i64 ((abtM 3 (goY (rdyY y l)) l)).K, .int .i64 ((abtM 3 (goY (rdyY y l)) l)).F, .int .i64 ((abtM 3 (goY (rdyY y l)) l)).T, .int .i64 ((abtM 3 (goY (rdyY y l)) l)).B, .int .i64 ((abtM 3 (goY (rdyY y l)) l)).A, .int .i64 ((abtM 3 (goY (rdyY y l)) l)).C, .slice (some ⟨gE, 0, none⟩) kk cE, .slice none 0 0, .slice none 0 0] 41 (0, 0))) := hg12
      have HZE : Hid (Zr w12 gE cE kk) := ⟨l, (own_zw (n := kk) (by have h := hev12; rw [OwN, HLL.out] at h; exact h)).1, HLL.out⟩
      have hzm12 := HZM.out.keep (HK12.out gm HAGE.out.2)
      have HZM12 : Hid (Zw w12 gm cm (l ++ [71])) := hzm12
      have HOE12 : Hid (OwN w8.heap.size w12 (.slice (some ⟨ge, 0, none⟩) kk ce) l) := row_keep HOE11.out fun b hb => HK12.out b (by have h : ge = b := Option.some.inj hb; rw [← h]; exact HAGE.out.1)
      have HPB12 : Hid (w12.heap[PB]? = some (.cells #[.int .i64 p.P, .int .i64 p.S, .int .i64 p.W, .slice oa p.l.length oc, .int .i64 p.A, .int .i64 p.B, .int .i64 p.N, .int .i64 p.G] 24 (0, 0))) := by show _ = _; rw [HPBD.out]; exact blk_below HX1.out HC12.out.bel
      have pz0 : ∀ wx, Below w12.heap.size w12 wx → wx.cell? ⟨PB, 0, none⟩ = some (.int .i64 (kk : Int)) := fun wx hb => cell_bel hb (blk_lt HPB12.out) (by rw [blk_cell HPB12.out, ← HKK.out.1]; rfl)
      have mz : ∀ wx, Below w12.heap.size w12 wx → wx.cell? ⟨gm, kk, none⟩ = some (.int .i64 71) := fun wx hb => by have h := (HZM12.out.below hb).cell (i := kk) (by have := HLL.out; simp; omega); rw [nth_end HLL.out] at h; exact h
      have hw1 : IntKind.i64.wrap ((kk : Int) + 1) = (kk : Int) + 1 := by rw [IntKind.wrap_i64]; omega
      have hc1 : (kk : Int) + 1 ≤ (cm : Int) := by have := HGM.out.2; omega
      have hc2 : kk + 1 ≤ cm := HGM.out.2
      have h0k : (0 : Int) ≤ (kk : Int) + 1 := by omega
      have hkn : kk < kk + 1 := by omega
      have hkl : (kk : Int) < (kk : Int) + 1 := by omega
      have htn : ((kk : Int) + 1).toNat = kk + 1 := by omega
      clear hg12 hev12 hBg12 hBe12 hzm12
      go_upto_region 18 with fail
      refine wp_region_noPanic ?_
      refine wp_region_held_drew (S := (fun wx => Below w12.heap.size w12 wx)) (by kernel_rfl) ?_ (fun hHeld => ?_)
      · exact (below_drewN w12 1)
      refine wpAnyH_take (i := 0) (oi := ⟨some 97, _, _, _, _, _⟩) (v := ?_) rfl (by kernel_rfl) (by kernel_rfl) (by kernel_rfl) (fun _ _ _ h => h) (Or.inl ⟨by rfl, ?_⟩) hHeld ?_
      rotate_left
      · intro w hSw; (try dsimp only at hSw); go_simp; all_goals (with_reducible rfl)
      try simp only [Act.put, List.setIfInBounds_toArray, List.set_cons_zero, List.set_cons_succ]
      refine wpAnyH_take (i := 1) (oi := ⟨some 98, _, _, _, _, _⟩) (v := ?_) rfl (by kernel_rfl) (by kernel_rfl) (by kernel_rfl) (fun _ _ _ h => h) (Or.inl ⟨by rfl, ?_⟩) hHeld ?_
      rotate_left
      · intro w hSw; (try dsimp only at hSw); go_simp; all_goals (with_reducible rfl)
      try simp only [Act.put, List.setIfInBounds_toArray, List.set_cons_zero, List.set_cons_succ]
      refine wpAnyH_take (i := 2) (oi := ⟨some 99, _, _, _, _, _⟩) (v := ?_) rfl (by kernel_rfl) (by kernel_rfl) (by kernel_rfl) (fun _ _ _ h => h) (Or.inl ⟨by rfl, ?_⟩) hHeld ?_
      rotate_left
      · intro w hSw; (try dsimp only at hSw); go_simp; all_goals (with_reducible rfl)
      try simp only [Act.put, List.setIfInBounds_toArray, List.set_cons_zero, List.set_cons_succ]
      refine wpAnyH_take (i := 3) (oi := ⟨some 100, _, _, _, _, _⟩) (v := ?_) rfl (by kernel_rfl) (by kernel_rfl) (by kernel_rfl) (fun _ _ _ h => h) (Or.inl ⟨by rfl, ?_⟩) hHeld ?_
      rotate_left
      · intro w hSw; (try dsimp only at hSw); go_simp; all_goals (with_reducible rfl)
      try simp only [Act.put, List.setIfInBounds_toArray, List.set_cons_zero, List.set_cons_succ]
      refine wpAnyH_take (i := 4) (oi := ⟨some 101, _, _, _, _, _⟩) (v := ?_) rfl (by kernel_rfl) (by kernel_rfl) (by kernel_rfl) (fun _ _ _ h => h) (Or.inl ⟨by rfl, ?_⟩) hHeld ?_
      rotate_left
      · intro w hSw; (try dsimp only at hSw); go_simp; all_goals (with_reducible rfl)
      try simp only [Act.put, List.setIfInBounds_toArray, List.set_cons_zero, List.set_cons_succ]
      refine wpAnyH_take (i := 5) (oi := ⟨some 102, _, _, _, _, _⟩) (v := ?_) rfl (by kernel_rfl) (by kernel_rfl) (by kernel_rfl) (fun _ _ _ h => h) (Or.inl ⟨by rfl, ?_⟩) hHeld ?_
      rotate_left
      · intro w hSw; (try dsimp only at hSw); go_simp; all_goals (with_reducible rfl)
      try simp only [Act.put, List.setIfInBounds_toArray, List.set_cons_zero, List.set_cons_succ]
      refine wpAnyH_take (i := 6) (oi := ⟨some 103, _, _, _, _, _⟩) (v := ?_) rfl (by kernel_rfl) (by kernel_rfl) (by kernel_rfl) (fun _ _ _ h => h) (Or.inl ⟨by rfl, ?_⟩) hHeld ?_
      rotate_left
      · intro w hSw; (try dsimp only at hSw); go_simp; all_goals (with_reducible rfl)
      try simp only [Act.put, List.setIfInBounds_toArray, List.set_cons_zero, List.set_cons_succ]
      refine wpAnyH_take (i := 7) (oi := ⟨some 104, _, _, _, _, _⟩) (v := ?_) rfl (by kernel_rfl) (by kernel_rfl) (by kernel_rfl) (fun _ _ _ h => h) (Or.inl ⟨by rfl, ?_⟩) hHeld ?_
      rotate_left
      · intro w hSw; (try dsimp only at hSw); go_simp; all_goals (with_reducible rfl)
      try simp only [Act.put, List.setIfInBounds_toArray, List.set_cons_zero, List.set_cons_succ]
      refine wpAnyH_take (i := 8) (oi := ⟨some 105, _, _, _, _, _⟩) (v := ?_) rfl (by kernel_rfl) (by kernel_rfl) (by kernel_rfl) (fun _ _ _ h => h) (Or.inl ⟨by rfl, ?_⟩) hHeld ?_
      rotate_left
      · intro w hSw; (try dsimp only at hSw); go_simp; all_goals (with_reducible rfl)
      try simp only [Act.put, List.setIfInBounds_toArray, List.set_cons_zero, List.set_cons_succ]
      refine wpAnyH_take (i := 9) (oi := ⟨some 106, _, _, _, _, _⟩) (v := ?_) rfl (by kernel_rfl) (by kernel_rfl) (by kernel_rfl) (fun _ _ _ h => h) (Or.inl ⟨by rfl, ?_⟩) hHeld ?_
      rotate_left
      · intro w hSw; (try dsimp only at hSw); go_simp; all_goals (with_reducible rfl)
      try simp only [Act.put, List.setIfInBounds_toArray, List.set_cons_zero, List.set_cons_succ]
      refine wpAnyH_ready (rs := [10]) (by kernel_rfl) (by simp) ?_
      refine AllReadyH.cons (o := ⟨some 107, _, _, _, _, _⟩) rfl (fun K hK => ?_) AllReadyH.nil
      go_simp
      refine (ints19_walk (HNM.out _ (HZM12.out.below hHeld)) ((own_nv HOE12.out (in64_of HLM.out)).below hHeld)).mono ?_
      rw [decide_eq_true rfl]
      rintro e w13 ⟨rfl, hB13⟩
      have HB13 : Hid (Below w12.heap.size w12 w13) := below_trans hHeld hB13
      clear hB13
      refine hK.out _ _ ?_ (fun hHeld => ?_)
      · exact HB13.out
      clear hK K
      try simp only [Act.put, List.setIfInBounds_toArray, List.set_cons_zero, List.set_cons_succ]
      refine wpAnyH_take (i := 11) (oi := ⟨some 108, _, _, _, _, _⟩) (v := ?_) rfl (by kernel_rfl) (by kernel_rfl) (by kernel_rfl) (fun _ _ _ h => h) (Or.inl ⟨by rfl, ?_⟩) hHeld ?_
      rotate_left
      · intro w hSw; (try dsimp only at hSw); go_simp; all_goals (with_reducible rfl)
      try simp only [Act.put, List.setIfInBounds_toArray, List.set_cons_zero, List.set_cons_succ]
      refine wpAnyH_take (i := 12) (oi := ⟨some 109, _, _, _, _, _⟩) (v := ?_) rfl (by kernel_rfl) (by kernel_rfl) (by kernel_rfl) (fun _ _ _ h => h) (Or.inl ⟨by rfl, ?_⟩) hHeld ?_
      rotate_left
      · intro w hSw; (try dsimp only at hSw); go_simp; all_goals (with_reducible rfl)
      try simp only [Act.put, List.setIfInBounds_toArray, List.set_cons_zero, List.set_cons_succ]
      refine wpAnyH_take (i := 13) (oi := ⟨some 110, _, _, _, _, _⟩) (v := ?_) rfl (by kernel_rfl) (by kernel_rfl) (by kernel_rfl) (fun _ _ _ h => h) (Or.inl ⟨by rfl, ?_⟩) hHeld ?_
      rotate_left
      · intro w hSw; (try dsimp only at hSw); go_simp; all_goals (with_reducible rfl)
      try simp only [Act.put, List.setIfInBounds_toArray, List.set_cons_zero, List.set_cons_succ]
      refine wpAnyH_take (i := 14) (oi := ⟨some 111, _, _, _, _, _⟩) (v := ?_) rfl (by kernel_rfl) (by kernel_rfl) (by kernel_rfl) (fun _ _ _ h => h) (Or.inl ⟨by rfl, ?_⟩) hHeld ?_
      rotate_left
      · intro w hSw; (try dsimp only at hSw); go_simp; all_goals (with_reducible rfl)
      try simp only [Act.put, List.setIfInBounds_toArray, List.set_cons_zero, List.set_cons_succ]
      refine wpAnyH_take (i := 15) (oi := ⟨some 112, _, _, _, _, _⟩) (v := ?_) rfl (by kernel_rfl) (by kernel_rfl) (by kernel_rfl) (fun _ _ _ h => h) (Or.inl ⟨by rfl, ?_⟩) hHeld ?_
      rotate_left
      · intro w hSw; (try dsimp only at hSw); go_simp; all_goals (with_reducible rfl)
      try simp only [Act.put, List.setIfInBounds_toArray, List.set_cons_zero, List.set_cons_succ]
      refine wpAnyH_take (i := 16) (oi := ⟨some 113, _, _, _, _, _⟩) (v := ?_) rfl (by kernel_rfl) (by kernel_rfl) (by kernel_rfl) (fun _ _ _ h => h) (Or.inl ⟨by rfl, ?_⟩) hHeld ?_
      rotate_left
      · intro w hSw; (try dsimp only at hSw); go_simp; all_goals (with_reducible rfl)
      try simp only [Act.put, List.setIfInBounds_toArray, List.set_cons_zero, List.set_cons_succ]
      refine wpAnyH_take (i := 17) (oi := ⟨some 114, _, _, _, _, _⟩) (v := ?_) rfl (by kernel_rfl) (by kernel_rfl) (by kernel_rfl) (fun _ _ _ h => h) (Or.inl ⟨by rfl, ?_⟩) hHeld ?_
      rotate_left
      · intro w hSw; (try dsimp only at hSw); go_simp; all_goals (with_reducible rfl)
      try simp only [Act.put, List.setIfInBounds_toArray, List.set_cons_zero, List.set_cons_succ]
      refine wpAnyH_take (i := 18) (oi := ⟨some 115, _, _, _, _, _⟩) (v := ?_) rfl (by kernel_rfl) (by kernel_rfl) (by kernel_rfl) (fun _ _ _ h => h) (Or.inl ⟨by rfl, ?_⟩) hHeld ?_
      rotate_left
      · intro w hSw; (try dsimp only at hSw); go_simp; all_goals (with_reducible rfl)
      try simp only [Act.put, List.setIfInBounds_toArray, List.set_cons_zero, List.set_cons_succ]
      refine wpAnyH_take (i := 19) (oi := ⟨some 116, _, _, _, _, _⟩) (v := ?_) rfl (by kernel_rfl) (by kernel_rfl) (by kernel_rfl) (fun _ _ _ h => h) (Or.inl ⟨by rfl, ?_⟩) hHeld ?_
      rotate_left
      · intro w hSw; (try dsimp only at hSw); go_simp; all_goals (with_reducible rfl)
      try simp only [Act.put, List.setIfInBounds_toArray, List.set_cons_zero, List.set_cons_succ]
      refine wpAnyH_take (i := 20) (oi := ⟨some 117, _, _, _, _, _⟩) (v := ?_) rfl (by kernel_rfl) (by kernel_rfl) (by kernel_rfl) (fun _ _ _ h => h) (Or.inl ⟨by rfl, ?_⟩) hHeld ?_
      rotate_left
      · intro w hSw; (try dsimp only at hSw); go_simp; all_goals (with_reducible rfl)
      try simp only [Act.put, List.setIfInBounds_toArray, List.set_cons_zero, List.set_cons_succ]
      refine wpAnyH_take (i := 21) (oi := ⟨some 118, _, _, _, _, _⟩) (v := ?_) rfl (by kernel_rfl) (by kernel_rfl) (by kernel_rfl) (fun _ _ _ h => h) (Or.inl ⟨by rfl, ?_⟩) hHeld ?_
      rotate_left
      · intro w hSw; (try dsimp only at hSw); go_simp; all_goals (with_reducible rfl)
      try simp only [Act.put, List.setIfInBounds_toArray, List.set_cons_zero, List.set_cons_succ]
      refine wpAnyH_take (i := 22) (oi := ⟨some 119, _, _, _, _, _⟩) (v := ?_) rfl (by kernel_rfl) (by kernel_rfl) (by kernel_rfl) (fun _ _ _ h => h) (Or.inl ⟨by rfl, ?_⟩) hHeld ?_
      rotate_left
      · intro w hSw; (try dsimp only at hSw); go_simp; all_goals (with_reducible rfl)
      try simp only [Act.put, List.setIfInBounds_toArray, List.set_cons_zero, List.set_cons_succ]
      refine wpAnyH_take (i := 23) (oi := ⟨some 120, _, _, _, _, _⟩) (v := ?_) rfl (by kernel_rfl) (by kernel_rfl) (by kernel_rfl) (fun _ _ _ h => h) (Or.inl ⟨by rfl, ?_⟩) hHeld ?_
      rotate_left
      · intro w hSw; (try dsimp only at hSw); go_simp; all_goals (with_reducible rfl)
      try simp only [Act.put, List.setIfInBounds_toArray, List.set_cons_zero, List.set_cons_succ]
      refine wpAnyH_take (i := 24) (oi := ⟨some 121, _, _, _, _, _⟩) (v := ?_) rfl (by kernel_rfl) (by kernel_rfl) (by kernel_rfl) (fun _ _ _ h => h) (Or.inl ⟨by rfl, ?_⟩) hHeld ?_
      rotate_left
      · intro w hSw; (try dsimp only at hSw); go_simp; all_goals (with_reducible rfl)
      try simp only [Act.put, List.setIfInBounds_toArray, List.set_cons_zero, List.set_cons_succ]
      refine wpAnyH_done (by kernel_rfl) ?_ _
      refine NoPanic.normal ?_
      clear pz0 mz hw1 hc1 hc2 hkl htn h0k hkn
      have HC13 : Hid (CW w1 (fun x => A3 x ∨ B12 x) sb cb ⟨p0 p, J1, S1, [goY (rdyY y l)], false⟩ w13) := HC12.out.below HB13.out
      have hot13 := HOT12.out.keep (kp_bel HB13.out (HC12.out.less (fun x hx => .inl hx)))
      have HOT13 : Hid (Ot A3 TB ⟨y, .slice (some ⟨gf, 0, none⟩) y.f.length fc, .slice ea y.e.length ec⟩ w13) := hot13
      have HWB13 := hidH (blk_below HWB12.out HB13.out)
      have HG13 := hidH (blk_below HG12.out HB13.out)
      have HOE13 : Hid (OwN w8.heap.size w13 (.slice (some ⟨ge, 0, none⟩) kk ce) l) := own_below HOE12.out HB13.out
      have HZf : Hid (Zr w13 gf fc kk) := ⟨y.f, (own_zw (n := y.f.length) (by have h := hot13.f; exact h)).1, HY.out.2.2⟩
      have HZm : Hid (Zr w13 gm cm (kk + 1)) := ⟨l ++ [71], HZM12.out.below HB13.out, by rw [List.length_append, HLL.out]; rfl⟩
      have HZe : Hid (Zr w13 gE cE kk) := HZE.out.keep (HB13.out.block gE HZE.out.lt)
      have hgf8 : gf < w8.heap.size := (HOT8.out.f.lt gf rfl).2
      have hge10 : w8.heap.size ≤ ge ∧ ge < w10.heap.size := HOE.out.lt ge rfl
      have hgm11 : gm < w11.heap.size := HZM.out.lt
      have HORD : Hid (gf < w8.heap.size ∧ w8.heap.size ≤ ge ∧ ge < w10.heap.size ∧ w10.heap.size ≤ gm ∧ gm < w11.heap.size ∧ w11.heap.size ≤ gE ∧ w11.heap.size ≤ g12) := ⟨hgf8, hge10.1, hge10.2, HGM.out.1, hgm11, HBE.out.1, HBE.out.2⟩
      have hTB8 : TB < w8.heap.size := blk_lt HOT8.out.tb
      have hWB8 : WB < w8.heap.size := blk_lt HWB8.out
      have hPB8 : PB < w8.heap.size := blk_lt HPB8.out
      have hord := HORD.out
      have h810 := HB810.out.size
      have ne1 : ¬ g12 = gm := by omega
      have ne2 : ¬ TB = gm := by omega
      have ne3 : ¬ TB = gE := by have := HB810.out.size; omega
      have ne4 : ¬ TB = gf := fun e => row_not HOT8.out.f HOT8.out.tb (by decide) gf rfl e.symm
      have ne5 : ¬ PB = gm ∧ ¬ PB = gE := ⟨by omega, by omega⟩
      have ne6 : ¬ PB = gf := fun e => row_not HOT8.out.f HPB8.out (by decide) gf rfl e.symm
      have ne7 : ¬ g12 = gf := by omega
      have ne8 : ¬ g12 = gE := fun e => by
        obtain ⟨_, ⟨⟨_, hcur, _⟩, _⟩, _⟩ := HZE.out
        have h1 := HG12.out
        rw [e, hcur] at h1
        injection h1 with h2
        injection h2 with _ h3
        exact absurd h3 (by decide)
      have HNE := hidH (show (¬ g12 = gm ∧ ¬ TB = gm ∧ ¬ TB = gE ∧ ¬ TB = gf ∧ ¬ PB = gm ∧ ¬ PB = gE ∧ ¬ PB = gf ∧ ¬ g12 = gf ∧ ¬ g12 = gE) from ⟨ne1, ne2, ne3, ne4, ne5.1, ne5.2, ne6, ne7, ne8⟩)
      have HPB13 := hidH (blk_below HPB12.out HB13.out)
      clear hot13 hgf8 hge10 hgm11 hTB8 hWB8 hPB8 hord h810 ne1 ne2 ne3 ne4 ne5 ne6 ne7 ne8
      go_upto_region 20 with fail
      go_wp2_with fail
      go_loopw [13] (fun iv wr => ∃ i : Nat, iv = .int .i64 i ∧ i ≤ kk ∧ Ch (fun x => x = gm ∨ x = gE ∨ x = gf) w13 wr ∧ Zr wr gm cm (kk + 1) ∧ Zr wr gE cE kk ∧ Zr wr gf fc kk) (fun iv _ => kk - (intOf iv).toNat)
      case atStart => exact ⟨0, rfl, Nat.zero_le _, Ch.refl _ _, HZm.out, HZe.out, HZf.out⟩
      case round =>
        obtain ⟨i, rfl, hik, hch, hz1, hz2, hz3⟩ := hrel
        obtain ⟨wl, hwl⟩ : ∃ wl, wl = wr := ⟨_, rfl⟩
        subst hwl
        have HCHl : Hid (Ch (fun x => x = gm ∨ x = gE ∨ x = gf) w13 wl) := hch
        have HZ1 : Hid (Zr wl gm cm (kk + 1)) := hz1
        have HZ2 : Hid (Zr wl gE cE kk) := hz2
        have HZ3 : Hid (Zr wl gf fc kk) := hz3
        have hne := HNE.out
        have q0 : wl.cell? ⟨PB, 0, none⟩ = some (.int .i64 (kk : Int)) := cell_chg hch (blk_lt HPB13.out) (by rintro (e | e | e); exact hne.2.2.2.2.1 e; exact hne.2.2.2.2.2.1 e; exact hne.2.2.2.2.2.2.1 e) (by rw [blk_cell HPB13.out, ← HKK.out.1]; rfl)
        by_cases hil : i < kk
        · have hili : (i : Int) < (kk : Int) := by omega
          obtain ⟨y1, c1⟩ := hz1.cell (j := i) (by omega)
          have s1 := hz1.soft i
          have m6 : wl.cell? ⟨g12, 6, none⟩ = some (.slice (some ⟨gE, 0, none⟩) kk cE) := cell_chg hch (blk_lt HG13.out) (by rintro (e | e | e); exact hne.1 e; exact hne.2.2.2.2.2.2.2.2 e; exact hne.2.2.2.2.2.2.2.1 e) (by rw [blk_cell HG13.out]; rfl)
          have t5 : wl.cell? ⟨TB, 5, none⟩ = some (.slice (some ⟨gf, 0, none⟩) y.f.length fc) := cell_chg hch (blk_lt HOT13.out.tb) (by rintro (e | e | e); exact hne.2.1 e; exact hne.2.2.1 e; exact hne.2.2.2.1 e) (by rw [blk_cell HOT13.out.tb]; rfl)
          obtain ⟨wl1, hwl1⟩ : ∃ wl1, wl1 = wl.setCell ⟨gm, i, none⟩ (.int .i64 98) := ⟨_, rfl⟩
          have HW1 := hidH hwl1
          have c11 : Ch (fun x => x = gm) wl wl1 := by rw [hwl1]; exact ch_set _ _ _ _
          have hz2a : Zr wl1 gE cE kk := hz2.keep (c11.block gE hz2.lt (by have := HORD.out; omega))
          have hz3a : Zr wl1 gf fc kk := hz3.keep (c11.block gf hz3.lt (by have := HORD.out; have := HB810.out.size; omega))
          have hz1a : Zr wl1 gm cm (kk + 1) := by rw [hwl1]; exact hz1.set (by omega) _
          obtain ⟨y2, c2⟩ := hz2a.cell (j := i) (by omega)
          have s2 := hz2a.soft i
          have m6a : wl1.cell? ⟨g12, 6, none⟩ = some (.slice (some ⟨gE, 0, none⟩) kk cE) := cell_chg c11 (by have := blk_lt HG13.out; have := hch.size; omega) hne.1 m6
          have t5a : wl1.cell? ⟨TB, 5, none⟩ = some (.slice (some ⟨gf, 0, none⟩) y.f.length fc) := cell_chg c11 (by have := blk_lt HOT13.out.tb; have := hch.size; omega) hne.2.1 t5
          obtain ⟨wl2, hwl2⟩ : ∃ wl2, wl2 = wl1.setCell ⟨gE, i, none⟩ (.int .i64 97) := ⟨_, rfl⟩
          have HW2 := hidH hwl2
          have c22 : Ch (fun x => x = gE) wl1 wl2 := by rw [hwl2]; exact ch_set _ _ _ _
          have hz3b : Zr wl2 gf fc kk := hz3a.keep (c22.block gf hz3a.lt (by have := HORD.out; have := HB810.out.size; omega))
          have hz1b : Zr wl2 gm cm (kk + 1) := hz1a.keep (c22.block gm hz1a.lt (by have := HORD.out; omega))
          have hz2b : Zr wl2 gE cE kk := by rw [hwl2]; exact hz2a.set (by omega) _
          obtain ⟨y3, c3⟩ := hz3b.cell (j := i) (by omega)
          have s3 := hz3b.soft i
          have t5b : wl2.cell? ⟨TB, 5, none⟩ = some (.slice (some ⟨gf, 0, none⟩) y.f.length fc) := cell_chg c22 (by have := blk_lt HOT13.out.tb; have := hch.size; have := c11.size; omega) hne.2.2.1 t5a
          have HEND : Hid (Ch (fun x => x = gm ∨ x = gE ∨ x = gf) w13 (wl2.setCell ⟨gf, i, none⟩ (.int .i64 96)) ∧ Zr (wl2.setCell ⟨gf, i, none⟩ (.int .i64 96)) gm cm (kk + 1) ∧ Zr (wl2.setCell ⟨gf, i, none⟩ (.int .i64 96)) gE cE kk ∧ Zr (wl2.setCell ⟨gf, i, none⟩ (.int .i64 96)) gf fc kk) := by
            have c33 : Ch (fun x => x = gf) wl2 (wl2.setCell ⟨gf, i, none⟩ (.int .i64 96)) := ch_set _ _ _ _
            refine ⟨((hch.self (ch_le c11 (fun x hx => .inl hx))).self (ch_le c22 (fun x hx => .inr (.inl hx)))).self (ch_le c33 (fun x hx => .inr (.inr hx))), hz1b.keep (c33.block gm hz1b.lt (by have := HORD.out; have := HB810.out.size; omega)), hz2b.keep (c33.block gE hz2b.lt (by have := HORD.out; have := HB810.out.size; omega)), hz3b.set (by omega) _⟩
          have hyl : (i : Int) < (y.f.length : Int) := by have := HY.out.2.2; omega
          have hyl2 : i < y.f.length := by have := HY.out.2.2; omega
          have h01 : (0 : Int) < (1 : Int) := by omega
          clear hch hz1 hz2 hz3 hwl1 hwl2 c11 c22 hz1a hz2a hz3a hz1b hz2b hz3b t5 m6 t5a hne
          go_upto_region 24 with fail
          rw [← HW1.out]
          go_upto_region 25 with fail
          rw [← HW2.out]
          clear c1 s1 c2 s2 m6a
          have hi1 : IntKind.i64.wrap ((i : Int) + 1) = (i : Int) + 1 := by rw [IntKind.wrap_i64]; omega
          go_wp2_with fail
          go_roundw
          case rel => exact ⟨i + 1, by go_num, by omega, HEND.out.1, HEND.out.2.1, HEND.out.2.2.1, HEND.out.2.2.2⟩
          case measure => simp [intOf]; omega
        have hnl : ¬ ((i : Int) < (kk : Int)) := by omega
        obtain ⟨z, hz⟩ : ∃ z, z = goY (rdyY y l) := ⟨_, rfl⟩
        have hzn : z.f.length = kk ∧ z.e.length = kk := by rw [hz]; exact ⟨HY.out.2.2, HLL.out⟩
        have HZ : Hid (z = goY (rdyY y l)) := hz
        have hgfz : w1.heap.size ≤ gf := Nat.le_trans HC5.out.bel.size (Nat.le_trans (below_drewN w5 1).size HGF.out)
        have HCl : Hid (CW w1 (fun x => A3 x ∨ B12 x) sb cb ⟨p0 p, J1, S1, [z], false⟩ wl) := by
          show CW _ _ _ _ _ _
          rw [hz]
          refine HC13.out.write hch ?_ ?_
          · rintro x (e | e | e)
            · rw [e]; exact .inl HAGE.out.2
            · rw [e]; exact .inr HBE2.out
            · rw [e]; exact .inl (HOT13.out.kf gf rfl)
          · have h1 := HC8.out.bel.size
            have h2 := HB810.out.size
            have h3 := HORD.out
            rintro x (e | e | e) <;> omega
        have hnWB : ¬ (WB = gm ∨ WB = gE ∨ WB = gf) := by
          have h1 := blk_lt HWB8.out
          have h2 := HORD.out
          have h3 := HB810.out.size
          rintro (e | e | e)
          · omega
          · omega
          · exact row_not HOT8.out.f HWB8.out (by decide) gf rfl e.symm
        have HWBl : Hid (wl.heap[WB]? = some (.cells (wC p (.slice oa p.l.length oc) sb cb (.slice none 0 0)) 31 (0, 0))) := (hch.block WB (blk_lt HWB13.out) hnWB).trans HWB13.out
        have i9 : wl.cell? ⟨WB, 9, none⟩ = some (.pointer (some ⟨cb, 0, none⟩)) := by rw [blk_cell HWBl.out]; rfl
        have HOEl : Hid (OwN w8.heap.size wl (.slice (some ⟨ge, 0, none⟩) kk ce) l) := row_keep HOE13.out fun b hb => hch.block b (HOE13.out.lt b hb).2 (by have h : ge = b := Option.some.inj hb; have h2 := HORD.out; have h3 := HB810.out.size; rintro (e | e | e) <;> omega)
        have HPBl : Hid (wl.heap[PB]? = some (.cells #[.int .i64 p.P, .int .i64 p.S, .int .i64 p.W, .slice oa p.l.length oc, .int .i64 p.A, .int .i64 p.B, .int .i64 p.N, .int .i64 p.G] 24 (0, 0))) := (hch.block PB (blk_lt HPB13.out) (by rintro (e | e | e); exact hne.2.2.2.2.1 e; exact hne.2.2.2.2.2.1 e; exact hne.2.2.2.2.2.2.1 e)).trans HPB13.out
        clear hch hz1 hz2 hz3 hne hil hgfz hnWB hz
        go_wp2_with fail
        refine (ctries_walk HCl.out).mono ?_
        rintro e w15 ⟨v15, W15, rfl, hy15, hr15, hl15, hB15⟩
        obtain ⟨x15, rfl, hx15⟩ := one_ofG hy15
        obtain ⟨hlf, hle⟩ := hl15 _ (List.mem_singleton.2 rfl)
        obtain ⟨zq, fv, ev⟩ := x15
        replace hx15 : zq = z := hx15
        subst hx15
        replace hlf : OwN wl.heap.size w15 fv zq.f := hlf
        replace hle : OwN wl.heap.size w15 ev zq.e := hle
        obtain ⟨gF, cF, eF, _, _, hgF, _⟩ := row_formY hlf (by have := HKK.out.2.1; omega)
        rw [hzn.1] at eF
        subst eF
        obtain ⟨gT, cT, eT, _, _, hgT, _⟩ := row_formY hle (by have := HKK.out.2.1; omega)
        rw [hzn.2] at eT
        subst eT
        obtain ⟨g15, cap15, rfl, _, _, _, hg15⟩ := row_formY hr15 (by simp)
        have hcel := fun q (hq : q < 7) => (own_cellY (j := q) (u := (cellsY (⟨zq, .slice (some ⟨gF, 0, none⟩) kk cF, .slice (some ⟨gT, 0, none⟩) kk cT⟩ : Ye))[q]'(by simpa [cellsY] using hq)) hr15 (by have := flatY_get [(⟨zq, .slice (some ⟨gF, 0, none⟩) kk cF, .slice (some ⟨gT, 0, none⟩) kk cT⟩ : Ye)] 0 q (by simp) hq; rw [Nat.zero_mul, Nat.zero_add] at this; rw [this, List.getElem?_eq_getElem]; rfl)).1
        have HCEL : Hid (∀ q (hq : q < 7), w15.cell? ⟨g15, q, none⟩ = some ((cellsY (⟨zq, .slice (some ⟨gF, 0, none⟩) kk cF, .slice (some ⟨gT, 0, none⟩) kk cT⟩ : Ye))[q]'(by simpa [cellsY] using hq))) := hcel
        have HC15 : Hid (CW w1 (fun x => (A3 x ∨ B12 x) ∨ (wl.heap.size ≤ x ∧ x < w15.heap.size)) sb cb ⟨p0 p, J1, S1, [zq], false⟩ w15) := HCl.out.more hB15
        have HLF : Hid (OwN wl.heap.size w15 (.slice (some ⟨gF, 0, none⟩) kk cF) zq.f) := hlf
        have HLT : Hid (OwN wl.heap.size w15 (.slice (some ⟨gT, 0, none⟩) kk cT) zq.e) := hle
        have HB15 : Hid (Below wl.heap.size wl w15) := hB15
        have HZV : Hid (zq.f = zeros kk ∧ zq.e = l) := by have h := HZ.out; rw [h]; exact ⟨HY.out.2.1, rfl⟩
        have HG15 : Hid (wl.heap.size ≤ gF ∧ wl.heap.size ≤ gT ∧ g15 < w15.heap.size) := ⟨hgF, hgT, hg15⟩
        have HPB15 := hidH (blk_below HPBl.out hB15)
        have hmk := make_ints (q := kk) HKK.out.2.2
        have pz0 : ∀ wx, Below w15.heap.size w15 wx → wx.cell? ⟨PB, 0, none⟩ = some (.int .i64 (kk : Int)) := fun wx hb => cell_bel hb (blk_lt HPB15.out) (by rw [blk_cell HPB15.out, ← HKK.out.1]; rfl)
        have qa5 : ∀ wx, Below w15.heap.size w15 wx → wx.cell? ⟨g15, 5, none⟩ = some (.slice (some ⟨gF, 0, none⟩) kk cF) := fun wx hb => cell_bel hb hg15 (hcel 5 (by omega))
        have qa6 : ∀ wx, Below w15.heap.size w15 wx → wx.cell? ⟨g15, 6, none⟩ = some (.slice (some ⟨gT, 0, none⟩) kk cT) := fun wx hb => cell_bel hb hg15 (hcel 6 (by omega))
        have h01 : (0 : Int) < (1 : Int) := by omega
        have HR15 := hidH hr15
        clear hy15 hr15 hl15 hB15 hlf hle hcel hgF hgT hg15 hzn
        go_upto_region 27 with fail
        refine wp_region_noPanic ?_
        refine wp_region_held_drew (S := (fun wx => Below w15.heap.size w15 wx)) (by kernel_rfl) ?_ (fun hHeld => ?_)
        · exact (below_drewN w15 1)
        refine wpAnyH_take (i := 0) (oi := ⟨some 144, _, _, _, _, _⟩) (v := ?_) rfl (by kernel_rfl) (by kernel_rfl) (by kernel_rfl) (fun _ _ _ h => h) (Or.inl ⟨by rfl, ?_⟩) hHeld ?_
        rotate_left
        · intro w hSw; (try dsimp only at hSw); go_simp; all_goals (with_reducible rfl)
        try simp only [Act.put, List.setIfInBounds_toArray, List.set_cons_zero, List.set_cons_succ]
        refine wpAnyH_take (i := 1) (oi := ⟨some 145, _, _, _, _, _⟩) (v := ?_) rfl (by kernel_rfl) (by kernel_rfl) (by kernel_rfl) (fun _ _ _ h => h) (Or.inl ⟨by rfl, ?_⟩) hHeld ?_
        rotate_left
        · intro w hSw; (try dsimp only at hSw); go_simp; all_goals (with_reducible rfl)
        try simp only [Act.put, List.setIfInBounds_toArray, List.set_cons_zero, List.set_cons_succ]
        refine wpAnyH_take (i := 2) (oi := ⟨some 146, _, _, _, _, _⟩) (v := ?_) rfl (by kernel_rfl) (by kernel_rfl) (by kernel_rfl) (fun _ _ _ h => h) (Or.inl ⟨by rfl, ?_⟩) hHeld ?_
        rotate_left
        · intro w hSw; (try dsimp only at hSw); go_simp; all_goals (with_reducible rfl)
        try simp only [Act.put, List.setIfInBounds_toArray, List.set_cons_zero, List.set_cons_succ]
        refine wpAnyH_take (i := 3) (oi := ⟨some 147, _, _, _, _, _⟩) (v := ?_) rfl (by kernel_rfl) (by kernel_rfl) (by kernel_rfl) (fun _ _ _ h => h) (Or.inl ⟨by rfl, ?_⟩) hHeld ?_
        rotate_left
        · intro w hSw; (try dsimp only at hSw); go_simp; all_goals (with_reducible rfl)
        try simp only [Act.put, List.setIfInBounds_toArray, List.set_cons_zero, List.set_cons_succ]
        refine wpAnyH_take (i := 4) (oi := ⟨some 148, _, _, _, _, _⟩) (v := ?_) rfl (by kernel_rfl) (by kernel_rfl) (by kernel_rfl) (fun _ _ _ h => h) (Or.inl ⟨by rfl, ?_⟩) hHeld ?_
        rotate_left
        · intro w hSw; (try dsimp only at hSw); go_simp; all_goals (with_reducible rfl)
        try simp only [Act.put, List.setIfInBounds_toArray, List.set_cons_zero, List.set_cons_succ]
        refine wpAnyH_take (i := 5) (oi := ⟨some 149, _, _, _, _, _⟩) (v := ?_) rfl (by kernel_rfl) (by kernel_rfl) (by kernel_rfl) (fun _ _ _ h => h) (Or.inl ⟨by rfl, ?_⟩) hHeld ?_
        rotate_left
        · intro w hSw; (try dsimp only at hSw); go_simp; all_goals (with_reducible rfl)
        try simp only [Act.put, List.setIfInBounds_toArray, List.set_cons_zero, List.set_cons_succ]
        refine wpAnyH_take (i := 6) (oi := ⟨some 150, _, _, _, _, _⟩) (v := ?_) rfl (by kernel_rfl) (by kernel_rfl) (by kernel_rfl) (fun _ _ _ h => h) (Or.inl ⟨by rfl, ?_⟩) hHeld ?_
        rotate_left
        · intro w hSw; (try dsimp only at hSw); go_simp; all_goals (with_reducible rfl)
        try simp only [Act.put, List.setIfInBounds_toArray, List.set_cons_zero, List.set_cons_succ]
        refine wpAnyH_take (i := 7) (oi := ⟨some 151, _, _, _, _, _⟩) (v := ?_) rfl (by kernel_rfl) (by kernel_rfl) (by kernel_rfl) (fun _ _ _ h => h) (Or.inl ⟨by rfl, ?_⟩) hHeld ?_
        rotate_left
        · intro w hSw; (try dsimp only at hSw); go_simp; all_goals (with_reducible rfl)
        try simp only [Act.put, List.setIfInBounds_toArray, List.set_cons_zero, List.set_cons_succ]
        refine wpAnyH_take (i := 8) (oi := ⟨some 152, _, _, _, _, _⟩) (v := ?_) rfl (by kernel_rfl) (by kernel_rfl) (by kernel_rfl) (fun _ _ _ h => h) (Or.inl ⟨by rfl, ?_⟩) hHeld ?_
        rotate_left
        · intro w hSw; (try dsimp only at hSw); go_simp; all_goals (with_reducible rfl)
        try simp only [Act.put, List.setIfInBounds_toArray, List.set_cons_zero, List.set_cons_succ]
        refine wpAnyH_ready (rs := [9]) (by kernel_rfl) (by simp) ?_
        refine AllReadyH.cons (o := ⟨some 153, _, _, _, _, _⟩) rfl (fun K hK => ?_) AllReadyH.nil
        go_simp
        refine (ints19_walk ((own_nv HLT.out (in64_of (by rw [HZV.out.2]; exact HLM.out))).below hHeld) ((own_nv HOEl.out (in64_of HLM.out)).below (below_trans HB15.out hHeld))).mono ?_
        rw [decide_eq_true HZV.out.2]
        rintro e wA ⟨rfl, hBA⟩
        have HBA : Hid (Below w15.heap.size w15 wA) := below_trans hHeld hBA
        clear hBA
        refine hK.out _ _ ?_ (fun hHeld => ?_)
        · exact HBA.out
        clear hK K
        try simp only [Act.put, List.setIfInBounds_toArray, List.set_cons_zero, List.set_cons_succ]
        refine wpAnyH_take (i := 10) (oi := ⟨some 154, _, _, _, _, _⟩) (v := ?_) rfl (by kernel_rfl) (by kernel_rfl) (by kernel_rfl) (fun _ _ _ h => h) (Or.inl ⟨by rfl, ?_⟩) hHeld ?_
        rotate_left
        · intro w hSw; (try dsimp only at hSw); go_simp; all_goals (with_reducible rfl)
        try simp only [Act.put, List.setIfInBounds_toArray, List.set_cons_zero, List.set_cons_succ]
        refine wpAnyH_take (i := 11) (oi := ⟨some 155, _, _, _, _, _⟩) (v := ?_) rfl (by kernel_rfl) (by kernel_rfl) (by kernel_rfl) (fun _ _ _ h => h) (Or.inl ⟨by rfl, ?_⟩) hHeld ?_
        rotate_left
        · intro w hSw; (try dsimp only at hSw); go_simp; all_goals (with_reducible rfl)
        try simp only [Act.put, List.setIfInBounds_toArray, List.set_cons_zero, List.set_cons_succ]
        refine wpAnyH_take (i := 12) (oi := ⟨some 156, _, _, _, _, _⟩) (v := ?_) rfl (by kernel_rfl) (by kernel_rfl) (by kernel_rfl) (fun _ _ _ h => h) (Or.inl ⟨by rfl, ?_⟩) hHeld ?_
        rotate_left
        · intro w hSw; (try dsimp only at hSw); go_simp; all_goals (with_reducible rfl)
        try simp only [Act.put, List.setIfInBounds_toArray, List.set_cons_zero, List.set_cons_succ]
        refine wpAnyH_take (i := 13) (oi := ⟨some 157, _, _, _, _, _⟩) (v := ?_) rfl (by kernel_rfl) (by kernel_rfl) (by kernel_rfl) (fun _ _ _ h => h) (Or.inl ⟨by rfl, ?_⟩) hHeld ?_
        rotate_left
        · intro w hSw; (try dsimp only at hSw); go_simp; all_goals (with_reducible rfl)
        try simp only [Act.put, List.setIfInBounds_toArray, List.set_cons_zero, List.set_cons_succ]
        refine wpAnyH_take (i := 14) (oi := ⟨some 158, _, _, _, _, _⟩) (v := ?_) rfl (by kernel_rfl) (by kernel_rfl) (by kernel_rfl) (fun _ _ _ h => h) (Or.inl ⟨by rfl, ?_⟩) hHeld ?_
        rotate_left
        · intro w hSw; (try dsimp only at hSw); go_simp; all_goals (with_reducible rfl)
        try simp only [Act.put, List.setIfInBounds_toArray, List.set_cons_zero, List.set_cons_succ]
        refine wpAnyH_take (i := 15) (oi := ⟨some 159, _, _, _, _, _⟩) (v := ?_) rfl (by kernel_rfl) (by kernel_rfl) (by kernel_rfl) (fun _ _ _ h => h) (Or.inl ⟨by rfl, ?_⟩) hHeld ?_
        rotate_left
        · intro w hSw; (try dsimp only at hSw); go_simp; all_goals (with_reducible rfl)
        try simp only [Act.put, List.setIfInBounds_toArray, List.set_cons_zero, List.set_cons_succ]
        refine wpAnyH_take (i := 16) (oi := ⟨some 160, _, _, _, _, _⟩) (v := ?_) rfl (by kernel_rfl) (by kernel_rfl) (by kernel_rfl) (fun _ _ _ h => h) (Or.inl ⟨by rfl, ?_⟩) hHeld ?_
        rotate_left
        · intro w hSw; (try dsimp only at hSw); go_simp; all_goals (with_reducible rfl)
        try simp only [Act.put, List.setIfInBounds_toArray, List.set_cons_zero, List.set_cons_succ]
        refine wpAnyH_take (i := 17) (oi := ⟨some 161, _, _, _, _, _⟩) (v := ?_) rfl (by kernel_rfl) (by kernel_rfl) (by kernel_rfl) (fun _ _ _ h => h) (Or.inl ⟨by rfl, ?_⟩) hHeld ?_
        rotate_left
        · intro w hSw; (try dsimp only at hSw); go_simp; all_goals (with_reducible rfl)
        try simp only [Act.put, List.setIfInBounds_toArray, List.set_cons_zero, List.set_cons_succ]
        refine wpAnyH_take (i := 18) (oi := ⟨some 162, _, _, _, _, _⟩) (v := ?_) rfl (by kernel_rfl) (by kernel_rfl) (by kernel_rfl) (fun _ _ _ h => h) (Or.inl ⟨by rfl, ?_⟩) hHeld ?_
        rotate_left
        · intro w hSw; (try dsimp only at hSw); go_simp; all_goals (with_reducible rfl)
        try simp only [Act.put, List.setIfInBounds_toArray, List.set_cons_zero, List.set_cons_succ]
        refine wpAnyH_ready (rs := [19]) (by kernel_rfl) (by simp) ?_
        refine AllReadyH.cons (o := ⟨some 163, _, _, _, _, _⟩) rfl (fun K hK => ?_) AllReadyH.nil
        go_simp
        refine hK.out _ _ ?_ (fun hHeld => ?_)
        · exact (HBA.out.alloc HBA.out.size _)
        clear hK K
        try simp only [Act.put, List.setIfInBounds_toArray, List.set_cons_zero, List.set_cons_succ]
        refine wpAnyH_ready (rs := [20]) (by kernel_rfl) (by simp) ?_
        refine AllReadyH.cons (o := ⟨some 164, _, _, _, _, _⟩) rfl (fun K hK => ?_) AllReadyH.nil
        go_simp
        refine (ints19_walk (b := zeros kk) ((own_nv HLF.out (in64_of (by rw [HZV.out.1]; exact zeros_m kk))).below (HBA.out.alloc HBA.out.size _)) (made_nvq (w := wA) kk HKK.out.2.2)).mono ?_
        rw [decide_eq_true HZV.out.1]
        rintro e w16 ⟨rfl, hB16⟩
        have HB16 : Hid (Below w15.heap.size w15 w16) := below_trans (HBA.out.alloc HBA.out.size _) hB16
        clear hB16
        refine hK.out _ _ ?_ (fun hHeld => ?_)
        · exact HB16.out
        clear hK K
        try simp only [Act.put, List.setIfInBounds_toArray, List.set_cons_zero, List.set_cons_succ]
        refine wpAnyH_take (i := 21) (oi := ⟨some 165, _, _, _, _, _⟩) (v := ?_) rfl (by kernel_rfl) (by kernel_rfl) (by kernel_rfl) (fun _ _ _ h => h) (Or.inl ⟨by rfl, ?_⟩) hHeld ?_
        rotate_left
        · intro w hSw; (try dsimp only at hSw); go_simp; all_goals (with_reducible rfl)
        try simp only [Act.put, List.setIfInBounds_toArray, List.set_cons_zero, List.set_cons_succ]
        refine wpAnyH_take (i := 22) (oi := ⟨some 166, _, _, _, _, _⟩) (v := ?_) rfl (by kernel_rfl) (by kernel_rfl) (by kernel_rfl) (fun _ _ _ h => h) (Or.inl ⟨by rfl, ?_⟩) hHeld ?_
        rotate_left
        · intro w hSw; (try dsimp only at hSw); go_simp; all_goals (with_reducible rfl)
        try simp only [Act.put, List.setIfInBounds_toArray, List.set_cons_zero, List.set_cons_succ]
        refine wpAnyH_done (by kernel_rfl) ?_ _
        refine NoPanic.normal ?_
        have u6 := qa6 _ HB16.out
        have u5 := qa5 _ HB16.out
        have hlf16 := own_below HLF.out HB16.out
        have hlt16 := own_below HLT.out HB16.out
        have hzl : zq.f.length = kk ∧ zq.e.length = kk := ⟨by rw [HZV.out.1, zeros_len], by rw [HZV.out.2]; exact HLL.out⟩
        have hzF : Zw w16 gF cF zq.f := by
          have h := hlf16
          rw [hzl.1] at h
          exact (own_zw h).1
        have hzT : Zw w16 gT cT zq.e := by
          have h := hlt16
          rw [hzl.2] at h
          exact (own_zw h).1
        have hk1 := HKK.out.2.1
        have cT0 := hzT.cell (i := 0) (by omega)
        have cF0 := hzF.cell (i := 0) (by omega)
        have sT0 := hzT.soft 0
        have hFT : ¬ gF = gT := fun e => by
          have h1 := cF0
          rw [e, cT0, HZV.out.1, HZV.out.2, zeros_nth] at h1
          have h2 := HEN.out.ps
          injection h1 with h3
          injection h3 with _ h4
          omega
        obtain ⟨w17, hw17⟩ : ∃ w17, w17 = w16.setCell ⟨gT, 0, none⟩ (.int .i64 95) := ⟨_, rfl⟩
        have HW17 := hidH hw17
        have c17 : Ch (fun x => x = gT) w16 w17 := by rw [hw17]; exact ch_set _ _ _ _
        have hg15T : ¬ g15 = gT := fun e => row_ne HR15.out HLT.out (by decide) rfl (show _ = some gT from rfl) e
        have hg15F : ¬ g15 = gF := fun e => row_ne HR15.out HLF.out (by decide) rfl (show _ = some gF from rfl) e
        have hg16 : g15 < w16.heap.size := Nat.lt_of_lt_of_le HG15.out.2.2 HB16.out.size
        have u5a : w17.cell? ⟨g15, 5, none⟩ = some (.slice (some ⟨gF, 0, none⟩) kk cF) := cell_chg c17 hg16 hg15T u5
        have hzF17 : Zw w17 gF cF zq.f := hzF.keep (c17.block gF hzF.lt hFT)
        have hzT17 : Zw w17 gT cT (zq.e.set 0 95) := by rw [hw17]; exact hzT.set (by omega) 95
        have cF1 := hzF17.cell (i := 0) (by omega)
        have sF1 := hzF17.soft 0
        obtain ⟨w18, hw18⟩ : ∃ w18, w18 = w17.setCell ⟨gF, 0, none⟩ (.int .i64 94) := ⟨_, rfl⟩
        have HW18 := hidH hw18
        have c18 : Ch (fun x => x = gF) w17 w18 := by rw [hw18]; exact ch_set _ _ _ _
        have c168 : Ch (fun x => x = gT ∨ x = gF) w16 w18 := (ch_le c17 (fun x hx => .inl hx)).self (ch_le c18 (fun x hx => .inr hx))
        have HZF18 : Hid (Zw w18 gF cF (zq.f.set 0 94)) := by show Zw _ _ _ _; rw [hw18]; exact hzF17.set (by omega) 94
        have HZT18 : Hid (Zw w18 gT cT (zq.e.set 0 95)) := hzT17.keep (c18.block gT hzT17.lt (fun e => hFT e.symm))
        have hwlT := HLT.out.lt gT rfl
        have hwlF := HLF.out.lt gF rfl
        have HC16 := hidH (HC15.out.below HB16.out)
        have HC18 : Hid (CW w1 (fun x => (A3 x ∨ B12 x) ∨ (wl.heap.size ≤ x ∧ x < w15.heap.size)) sb cb ⟨p0 p, J1, S1, [zq], false⟩ w18) := HC16.out.write c168 (by rintro x (e | e); rw [e]; exact .inr hwlT; rw [e]; exact .inr hwlF) (by have h1 := HCl.out.bel.size; rintro x (e | e) <;> omega)
        have hb1516 := HB16.out.size
        have hkeep : ∀ b, b < wl.heap.size → w18.heap[b]? = wl.heap[b]? := fun b hb => (c168.block b (by have := HB15.out.size; omega) (by rintro (e | e) <;> omega)).trans ((HB16.out.block b (by have := HB15.out.size; omega)).trans (HB15.out.block b hb))
        have HWB18 : Hid (w18.heap[WB]? = some (.cells (wC p (.slice oa p.l.length oc) sb cb (.slice none 0 0)) 31 (0, 0))) := (hkeep WB (blk_lt HWBl.out)).trans HWBl.out
        have HOE18 : Hid (OwN w8.heap.size w18 (.slice (some ⟨ge, 0, none⟩) kk ce) l) := row_keep HOEl.out fun b hb => hkeep b (HOEl.out.lt b hb).2
        have HPB18 : Hid (w18.heap[PB]? = some (.cells #[.int .i64 p.P, .int .i64 p.S, .int .i64 p.W, .slice oa p.l.length oc, .int .i64 p.A, .int .i64 p.B, .int .i64 p.N, .int .i64 p.G] 24 (0, 0))) := (hkeep PB (blk_lt HPBl.out)).trans HPBl.out
        have HCE18 : Hid (∀ q (hq : q < 7), w18.cell? ⟨g15, q, none⟩ = some ((cellsY (⟨zq, .slice (some ⟨gF, 0, none⟩) kk cF, .slice (some ⟨gT, 0, none⟩) kk cT⟩ : Ye))[q]'(by simpa [cellsY] using hq))) := fun q hq => cell_chg c168 hg16 (by rintro (e | e); exact hg15T e; exact hg15F e) (cell_bel HB16.out HG15.out.2.2 (HCEL.out q hq))
        have HLE18 : Hid (w16.heap.size ≤ w18.heap.size) := c168.size
        have HGEW : Hid (ge < wl.heap.size ∧ A3 ge) := ⟨(HOEl.out.lt ge rfl).2, HAGE.out.1⟩
        have HYL5 : Hid (∀ wx, Zw wx gF cF (zq.f.set 0 94) → Zw wx gT cT (zq.e.set 0 95) → Yl wx (⟨{ zq with f := zq.f.set 0 94, e := zq.e.set 0 95 }, .slice (some ⟨gF, 0, none⟩) kk cF, .slice (some ⟨gT, 0, none⟩) kk cT⟩ : Ye)) := by
          have hbF : ∀ v ∈ zq.f.set 0 94, 0 ≤ v ∧ v ≤ 256 := fun v hv => by
            rcases List.mem_or_eq_of_mem_set hv with hv | hv
            · rw [HZV.out.1] at hv; exact zeros_m kk v hv
            · omega
          have hbT : ∀ v ∈ zq.e.set 0 95, 0 ≤ v ∧ v ≤ 256 := fun v hv => by
            rcases List.mem_or_eq_of_mem_set hv with hv | hv
            · rw [HZV.out.2] at hv; exact HLM.out v hv
            · omega
          intro wx h1 h2
          have e1 : (zq.f.set 0 94).length = kk := by rw [List.length_set]; exact hzl.1
          have e2 : (zq.e.set 0 95).length = kk := by rw [List.length_set]; exact hzl.2
          have n1 := h1.nv (in64_of hbF)
          have n2 := h2.nv (in64_of hbT)
          rw [e1] at n1
          rw [e2] at n2
          exact ⟨n1, n2, fun _ hi => (nth_of hbF hi).1, fun _ hi => (nth_of hbT hi).1⟩
        obtain ⟨J3, S3, m1, m2, m3, hn3⟩ := HMM.out.2
        have HTA : Hid (taC ⟨p0 p, J1, S1, [zq], false⟩ (⟨8, zq.n, 0, zq.b, zq.a, 0, l, [], []⟩ : Ms) = ⟨p0 p, J3, S3, [], false⟩ ∧ taM ⟨p0 p, J1, S1, [zq], false⟩ (⟨8, zq.n, 0, zq.b, zq.a, 0, l, [], []⟩ : Ms) = none ∧ taE ⟨p0 p, J1, S1, [zq], false⟩ (⟨8, zq.n, 0, zq.b, zq.a, 0, l, [], []⟩ : Ms) = 0) := by
          show _ ∧ _ ∧ _
          rw [HZ.out]
          exact ⟨m1, m2, m3⟩
        have HN3 : Hid (J3.n = ⟨1, zeros p.P.toNat, l, 1⟩) := hn3
        clear hlf16 hlt16 hzF hzT hzl cF0 hw17 c17 hw18 c18 c168 hwlT hwlF hb1516 hkeep hg15T hg15F hg16 hzF17 hzT17 hk1 m1 m2 m3 hn3 qa5 qa6 pz0 hmk
        go_upto_region 30 with fail
        rw [← HW17.out]
        go_upto_region 31 with fail
        rw [← HW18.out]
        clear u5 u6 u5a cT0 sT0 cF1 sF1 hFT
        have i9 : ∀ wx : World, (wx.heap[WB]? = some (.cells (wC p (.slice oa p.l.length oc) sb cb (.slice none 0 0)) 31 (0, 0)) ∧ CeY wx g15 (⟨zq, .slice (some ⟨gF, 0, none⟩) kk cF, .slice (some ⟨gT, 0, none⟩) kk cT⟩ : Ye)) → wx.cell? ⟨WB, 9, none⟩ = some (.pointer (some ⟨cb, 0, none⟩)) := fun wx h => by rw [blk_cell h.1]; rfl
        have uz0 : ∀ wx : World, (wx.heap[WB]? = some (.cells (wC p (.slice oa p.l.length oc) sb cb (.slice none 0 0)) 31 (0, 0)) ∧ CeY wx g15 (⟨zq, .slice (some ⟨gF, 0, none⟩) kk cF, .slice (some ⟨gT, 0, none⟩) kk cT⟩ : Ye)) → wx.cell? ⟨g15, 0, none⟩ = some (.int .i64 zq.b) := fun wx h => h.2 0 (by omega)
        have uz1 : ∀ wx : World, (wx.heap[WB]? = some (.cells (wC p (.slice oa p.l.length oc) sb cb (.slice none 0 0)) 31 (0, 0)) ∧ CeY wx g15 (⟨zq, .slice (some ⟨gF, 0, none⟩) kk cF, .slice (some ⟨gT, 0, none⟩) kk cT⟩ : Ye)) → wx.cell? ⟨g15, 1, none⟩ = some (.int .i64 zq.a) := fun wx h => h.2 1 (by omega)
        have uz2 : ∀ wx : World, (wx.heap[WB]? = some (.cells (wC p (.slice oa p.l.length oc) sb cb (.slice none 0 0)) 31 (0, 0)) ∧ CeY wx g15 (⟨zq, .slice (some ⟨gF, 0, none⟩) kk cF, .slice (some ⟨gT, 0, none⟩) kk cT⟩ : Ye)) → wx.cell? ⟨g15, 2, none⟩ = some (.int .i64 zq.n) := fun wx h => h.2 2 (by omega)
        have uz3 : ∀ wx : World, (wx.heap[WB]? = some (.cells (wC p (.slice oa p.l.length oc) sb cb (.slice none 0 0)) 31 (0, 0)) ∧ CeY wx g15 (⟨zq, .slice (some ⟨gF, 0, none⟩) kk cF, .slice (some ⟨gT, 0, none⟩) kk cT⟩ : Ye)) → wx.cell? ⟨g15, 3, none⟩ = some (.int .i64 zq.h) := fun wx h => h.2 3 (by omega)
        have uz4 : ∀ wx : World, (wx.heap[WB]? = some (.cells (wC p (.slice oa p.l.length oc) sb cb (.slice none 0 0)) 31 (0, 0)) ∧ CeY wx g15 (⟨zq, .slice (some ⟨gF, 0, none⟩) kk cF, .slice (some ⟨gT, 0, none⟩) kk cT⟩ : Ye)) → wx.cell? ⟨g15, 4, none⟩ = some (.int .i64 zq.t) := fun wx h => h.2 4 (by omega)
        have uz5 : ∀ wx : World, (wx.heap[WB]? = some (.cells (wC p (.slice oa p.l.length oc) sb cb (.slice none 0 0)) 31 (0, 0)) ∧ CeY wx g15 (⟨zq, .slice (some ⟨gF, 0, none⟩) kk cF, .slice (some ⟨gT, 0, none⟩) kk cT⟩ : Ye)) → wx.cell? ⟨g15, 5, none⟩ = some (.slice (some ⟨gF, 0, none⟩) kk cF) := fun wx h => h.2 5 (by omega)
        have uz6 : ∀ wx : World, (wx.heap[WB]? = some (.cells (wC p (.slice oa p.l.length oc) sb cb (.slice none 0 0)) 31 (0, 0)) ∧ CeY wx g15 (⟨zq, .slice (some ⟨gF, 0, none⟩) kk cF, .slice (some ⟨gT, 0, none⟩) kk cT⟩ : Ye)) → wx.cell? ⟨g15, 6, none⟩ = some (.slice (some ⟨gT, 0, none⟩) kk cT) := fun wx h => h.2 6 (by omega)
        refine wp_region_noPanic ?_
        refine wp_region_held_drew (S := (fun wx : World => wx.heap[WB]? = some (.cells (wC p (.slice oa p.l.length oc) sb cb (.slice none 0 0)) 31 (0, 0)) ∧ CeY wx g15 (⟨zq, .slice (some ⟨gF, 0, none⟩) kk cF, .slice (some ⟨gT, 0, none⟩) kk cT⟩ : Ye))) (by kernel_rfl) ?_ (fun hHeld => ?_)
        · exact ⟨blk_below HWB18.out (below_drewN w18 1), (fun q hq => cell_bel (below_drewN w18 1) (by have h1 := HG15.out.2.2; have h2 := HB16.out.size; have h3 := HLE18.out; omega) (HCE18.out q hq))⟩
        refine wpAnyH_take (i := 0) (oi := ⟨some 178, _, _, _, _, _⟩) (v := ?_) rfl (by kernel_rfl) (by kernel_rfl) (by kernel_rfl) (fun _ _ _ h => h) (Or.inl ⟨by rfl, ?_⟩) hHeld ?_
        rotate_left
        · intro w hSw; (try dsimp only at hSw); go_simp; all_goals (with_reducible rfl)
        try simp only [Act.put, List.setIfInBounds_toArray, List.set_cons_zero, List.set_cons_succ]
        refine wpAnyH_take (i := 1) (oi := ⟨some 179, _, _, _, _, _⟩) (v := ?_) rfl (by kernel_rfl) (by kernel_rfl) (by kernel_rfl) (fun _ _ _ h => h) (Or.inl ⟨by rfl, ?_⟩) hHeld ?_
        rotate_left
        · intro w hSw; (try dsimp only at hSw); go_simp; all_goals (with_reducible rfl)
        try simp only [Act.put, List.setIfInBounds_toArray, List.set_cons_zero, List.set_cons_succ]
        refine wpAnyH_take (i := 2) (oi := ⟨some 180, _, _, _, _, _⟩) (v := ?_) rfl (by kernel_rfl) (by kernel_rfl) (by kernel_rfl) (fun _ _ _ h => h) (Or.inl ⟨by rfl, ?_⟩) hHeld ?_
        rotate_left
        · intro w hSw; (try dsimp only at hSw); go_simp; all_goals (with_reducible rfl)
        try simp only [Act.put, List.setIfInBounds_toArray, List.set_cons_zero, List.set_cons_succ]
        refine wpAnyH_take (i := 3) (oi := ⟨some 181, _, _, _, _, _⟩) (v := ?_) rfl (by kernel_rfl) (by kernel_rfl) (by kernel_rfl) (fun _ _ _ h => h) (Or.inl ⟨by rfl, ?_⟩) hHeld ?_
        rotate_left
        · intro w hSw; (try dsimp only at hSw); go_simp; all_goals (with_reducible rfl)
        try simp only [Act.put, List.setIfInBounds_toArray, List.set_cons_zero, List.set_cons_succ]
        refine wpAnyH_take (i := 4) (oi := ⟨some 182, _, _, _, _, _⟩) (v := ?_) rfl (by kernel_rfl) (by kernel_rfl) (by kernel_rfl) (fun _ _ _ h => h) (Or.inl ⟨by rfl, ?_⟩) hHeld ?_
        rotate_left
        · intro w hSw; (try dsimp only at hSw); go_simp; all_goals (with_reducible rfl)
        try simp only [Act.put, List.setIfInBounds_toArray, List.set_cons_zero, List.set_cons_succ]
        refine wpAnyH_take (i := 5) (oi := ⟨some 183, _, _, _, _, _⟩) (v := ?_) rfl (by kernel_rfl) (by kernel_rfl) (by kernel_rfl) (fun _ _ _ h => h) (Or.inl ⟨by rfl, ?_⟩) hHeld ?_
        rotate_left
        · intro w hSw; (try dsimp only at hSw); go_simp; all_goals (with_reducible rfl)
        try simp only [Act.put, List.setIfInBounds_toArray, List.set_cons_zero, List.set_cons_succ]
        refine wpAnyH_ready (rs := [6]) (by kernel_rfl) (by simp) ?_
        refine AllReadyH.cons (o := ⟨some 184, _, _, _, _, _⟩) rfl (fun K hK => ?_) AllReadyH.nil
        go_simp
        refine (about19_walk (x := (⟨{ zq with f := zq.f.set 0 94, e := zq.e.set 0 95 }, .slice (some ⟨gF, 0, none⟩) kk cF, .slice (some ⟨gT, 0, none⟩) kk cT⟩ : Ye)) (k := 8) (ev := .slice (some ⟨ge, 0, none⟩) kk ce) (l := l) (HYL5.out _ (HZF18.out.below (below_drewN w18 1)) (HZT18.out.below (below_drewN w18 1))) ((own_nv HOE18.out (in64_of HLM.out)).below (below_drewN w18 1))).mono ?_
        rintro e wA ⟨rfl, hBA⟩
        have HBA2 : Hid (Below w18.heap.size w18 wA) := below_trans (below_drewN w18 1) hBA
        clear hBA
        refine hK.out _ _ ?_ (fun hHeld => ?_)
        · exact ⟨blk_below HWB18.out HBA2.out, (fun q hq => cell_bel HBA2.out (by have h1 := HG15.out.2.2; have h2 := HB16.out.size; have h3 := HLE18.out; omega) (HCE18.out q hq))⟩
        clear hK K
        refine wpAnyH_ready (rs := [7]) (by kernel_rfl) (by simp) ?_
        refine AllReadyH.cons (o := ⟨some 185, _, _, _, _, _⟩) rfl (fun K hK => ?_) AllReadyH.nil
        go_simp
        refine (take_walk19 (m := (⟨8, zq.n, 0, zq.b, zq.a, 0, l, [], []⟩ : Ms)) (HC18.out.below HBA2.out) (ml_sn (row_keep (own_base HOE18.out (Nat.zero_le _)) fun b hb => HBA2.out.block b (HOE18.out.lt b hb).2) (in64_of HLM.out) (fun b hb => .inl (.inl (by have h : ge = b := Option.some.inj hb; rw [← h]; exact HGEW.out.2))) rfl rfl) HWR.out).mono ?_
        rw [HTA.out.1, HTA.out.2.1, HTA.out.2.2]
        rintro e w19 ⟨v19, B19, rfl, hv19, hbn, hcw, hch⟩
        have hv19 : v19 = .slice none 0 0 := hv19
        subst hv19
        have HC19 : Hid (CW w1 (fun x => ((A3 x ∨ B12 x) ∨ (wl.heap.size ≤ x ∧ x < w15.heap.size)) ∨ B19 x) sb cb ⟨p0 p, J3, S3, [], false⟩ w19) := hcw
        have hk19 : ∀ b, ((A3 b ∨ B12 b) ∨ (wl.heap.size ≤ b ∧ b < w15.heap.size)) → w19.heap[b]? = w18.heap[b]? := fun b hb => (kp_cha hch (HC18.out.below HBA2.out) b hb).trans (HBA2.out.block b (HC18.out.al hb))
        have HWB19 : Hid (w19.heap[WB]? = some (.cells (wC p (.slice oa p.l.length oc) sb cb (.slice none 0 0)) 31 (0, 0))) := (hk19 WB (.inl (.inl HAWB3.out))).trans HWB18.out
        have HOE19 : Hid (OwN w8.heap.size w19 (.slice (some ⟨ge, 0, none⟩) kk ce) l) := row_keep HOE18.out fun b hb => hk19 b (.inl (.inl (by have h : ge = b := Option.some.inj hb; rw [← h]; exact HGEW.out.2)))
        have HCE19 : Hid (∀ q (hq : q < 7), w19.cell? ⟨g15, q, none⟩ = some ((cellsY (⟨zq, .slice (some ⟨gF, 0, none⟩) kk cF, .slice (some ⟨gT, 0, none⟩) kk cT⟩ : Ye))[q]'(by simpa [cellsY] using hq))) := fun q hq => by have h1 := HCE18.out q hq; have h2 := hk19 g15 (.inr ⟨(HR15.out.lt g15 rfl).1, HG15.out.2.2⟩); simp only [World.cell?, h2]; exact h1
        clear hbn hcw hch hk19
        refine hK.out _ _ ?_ (fun hHeld => ?_)
        · exact ⟨HWB19.out, HCE19.out⟩
        clear hK K
        try simp only [Act.put, List.setIfInBounds_toArray, List.set_cons_zero, List.set_cons_succ]
        refine wpAnyH_take (i := 8) (oi := ⟨some 177, _, _, _, _, _⟩) (v := ?_) rfl (by kernel_rfl) (by kernel_rfl) (by kernel_rfl) (fun _ _ _ h => h) (Or.inl ⟨by rfl, ?_⟩) hHeld ?_
        rotate_left
        · intro w hSw; (try dsimp only at hSw); go_simp; all_goals (with_reducible rfl)
        try simp only [Act.put, List.setIfInBounds_toArray, List.set_cons_zero, List.set_cons_succ]
        refine wpAnyH_take (i := 9) (oi := ⟨some 186, _, _, _, _, _⟩) (v := ?_) rfl (by kernel_rfl) (by kernel_rfl) (by kernel_rfl) (fun _ _ _ h => h) (Or.inl ⟨by rfl, ?_⟩) hHeld ?_
        rotate_left
        · intro w hSw; (try dsimp only at hSw); go_simp; all_goals (with_reducible rfl)
        try simp only [Act.put, List.setIfInBounds_toArray, List.set_cons_zero, List.set_cons_succ]
        refine wpAnyH_take (i := 10) (oi := ⟨some 187, _, _, _, _, _⟩) (v := ?_) rfl (by kernel_rfl) (by kernel_rfl) (by kernel_rfl) (fun _ _ _ h => h) (Or.inl ⟨by rfl, ?_⟩) hHeld ?_
        rotate_left
        · intro w hSw; (try dsimp only at hSw); go_simp; all_goals (with_reducible rfl)
        try simp only [Act.put, List.setIfInBounds_toArray, List.set_cons_zero, List.set_cons_succ]
        refine wpAnyH_take (i := 11) (oi := ⟨some 8, _, _, _, _, _⟩) (v := ?_) rfl (by kernel_rfl) (by kernel_rfl) (by kernel_rfl) (fun _ _ _ h => h) (Or.inl ⟨by rfl, ?_⟩) hHeld ?_
        rotate_left
        · intro w hSw; (try dsimp only at hSw); go_simp; all_goals (with_reducible rfl)
        try simp only [Act.put, List.setIfInBounds_toArray, List.set_cons_zero, List.set_cons_succ]
        refine wpAnyH_done (by kernel_rfl) ?_ _
        refine NoPanic.normal ?_
        clear i9 uz0 uz1 uz2 uz3 uz4 uz5 uz6
        have HN19 : Hid (J3.n = ⟨1, zeros kk, l, 1⟩) := by show _ = _; rw [HN3.out, HKK.out.1]; rfl
        have i9 : w19.cell? ⟨WB, 9, none⟩ = some (.pointer (some ⟨cb, 0, none⟩)) := by rw [blk_cell HWB19.out]; rfl
        go_wp2_with fail
        refine (show Calls Try.prog 13 #[Pt cb] w19 (CpGot w19 J3.n) from cnote_walk HC19.out).mono ?_
        rw [HN19.out]
        rintro e w20 ⟨pa, pc2, ca, cc2, rfl, ho1, ho2, hB20⟩
        have hzk : (zeros kk).length = kk := zeros_len kk
        have hll := HLL.out
        simp only [hzk, hll] at ho1 ho2 ⊢
        have ho1r := ho1
        have ho2r := ho2
        rw [OwN, hzk] at ho1r
        rw [OwN, hll] at ho2r
        obtain ⟨gP, cPx, eP, _, _, hgP, hgP2⟩ := row_formY ho1r HKK.out.2.1
        cases eP
        obtain ⟨gC, cCx, eC, _, _, hgC, hgC2⟩ := row_formY ho2r HKK.out.2.1
        cases eC
        obtain ⟨w21, hw21⟩ : ∃ w21, w21 = w20.alloc (Obj.cells #[.int .i64 1, .slice (some ⟨gP, 0, none⟩) kk pc2, .slice (some ⟨gC, 0, none⟩) kk cc2, .int .i64 1] 53) := ⟨_, rfl⟩
        have HW21 := hidH hw21
        obtain ⟨NB, hNB⟩ : ∃ NB, NB = w20.heap.size := ⟨_, rfl⟩
        have HNBD : Hid (NB = w20.heap.size) := hNB
        have hn21 : w21.heap[NB]? = some (.cells #[.int .i64 1, .slice (some ⟨gP, 0, none⟩) kk pc2, .slice (some ⟨gC, 0, none⟩) kk cc2, .int .i64 1] 53 (0, 0)) := by rw [hw21, hNB]; exact alloc_at rfl
        have HN21 := hidH hn21
        have hb2021 : Below w20.heap.size w20 w21 := by rw [hw21]; exact below_alloc _ _
        have HB21 : Hid (Below w19.heap.size w19 w21) := below_trans hB20 hb2021
        have HOP21 : Hid (OwN w19.heap.size w21 (.slice (some ⟨gP, 0, none⟩) kk pc2) (zeros kk)) := own_below ho1 hb2021
        have HOC21 : Hid (OwN w19.heap.size w21 (.slice (some ⟨gC, 0, none⟩) kk cc2) l) := own_below ho2 hb2021
        have HOE21 : Hid (OwN w8.heap.size w21 (.slice (some ⟨ge, 0, none⟩) kk ce) l) := own_below HOE19.out HB21.out
        have HG20 : Hid (w19.heap.size ≤ gP ∧ w19.heap.size ≤ gC ∧ gP < w20.heap.size ∧ gC < w20.heap.size) := ⟨hgP, hgC, hgP2, hgC2⟩
        have n0 : w21.cell? ⟨NB, 0, none⟩ = some (.int .i64 1) := by rw [blk_cell hn21]; rfl
        have n2 : w21.cell? ⟨NB, 2, none⟩ = some (.slice (some ⟨gC, 0, none⟩) kk cc2) := by rw [blk_cell hn21]; rfl
        clear ho1 ho2 ho1r ho2r hB20 hgP hgP2 hgC hgC2 hw21 hNB hn21 hb2021 i9 hzk hll
        go_upto_region 33 with fail
        rw [← HW21.out, ← HNBD.out]
        go_wp2_with fail
        refine (ints19_walk (own_nv HOC21.out (in64_of HLM.out)) (own_nv HOE21.out (in64_of HLM.out))).mono ?_
        rw [decide_eq_true rfl]
        rintro e w22 ⟨rfl, hB22⟩
        have HB22 : Hid (Below w19.heap.size w19 w22) := below_trans HB21.out hB22
        have hn22 := blk_below HN21.out hB22
        have HN22 := hidH hn22
        have hlp := HKK.out.2.1
        have hzC : Zw w22 gC cc2 l := by
          have h := own_below HOC21.out hB22
          rw [HLL.out] at h
          exact (own_zw h).1
        have hzP : Zw w22 gP pc2 (zeros kk) := by
          have h := own_below HOP21.out hB22
          rw [zeros_len] at h
          exact (own_zw h).1
        have hkl : l.length = kk := HLL.out
        have v2 : w22.cell? ⟨NB, 2, none⟩ = some (.slice (some ⟨gC, 0, none⟩) kk cc2) := by rw [blk_cell hn22]; rfl
        have v1 : w22.cell? ⟨NB, 1, none⟩ = some (.slice (some ⟨gP, 0, none⟩) kk pc2) := by rw [blk_cell hn22]; rfl
        have cC0 := hzC.cell (i := 0) (by omega)
        have sC0 := hzC.soft 0
        obtain ⟨w23, hw23⟩ : ∃ w23, w23 = w22.setCell ⟨gC, 0, none⟩ (.int .i64 93) := ⟨_, rfl⟩
        have HW23 := hidH hw23
        have c23 : Ch (fun x => x = gC) w22 w23 := by rw [hw23]; exact ch_set _ _ _ _
        have hNC : ¬ NB = gC := by have h1 := HG20.out; have h2 := HNBD.out; omega
        have v1a : w23.cell? ⟨NB, 1, none⟩ = some (.slice (some ⟨gP, 0, none⟩) kk pc2) := cell_chg c23 (blk_lt hn22) hNC v1
        have hrP : Zr w23 gP pc2 kk := by rw [hw23]; exact Zr.set ⟨_, hzP, zeros_len kk⟩ hlp 93
        obtain ⟨yP, cP0⟩ := hrP.cell (j := 0) hlp
        have sP0 := hrP.soft 0
        obtain ⟨w24, hw24⟩ : ∃ w24, w24 = w23.setCell ⟨gP, 0, none⟩ (.int .i64 92) := ⟨_, rfl⟩
        have HW24 := hidH hw24
        have c24 : Ch (fun x => x = gP) w23 w24 := by rw [hw24]; exact ch_set _ _ _ _
        have c224 : Ch (fun x => x = gC ∨ x = gP) w22 w24 := (ch_le c23 (fun x hx => .inl hx)).self (ch_le c24 (fun x hx => .inr hx))
        have hs1922 := HB22.out.size
        have hs1921 := HB21.out.size
        have hgB := HG20.out
        have hgB2 : gP < w22.heap.size ∧ gC < w22.heap.size := ⟨hzP.lt, hzC.lt⟩
        have HC22 := hidH (HC19.out.more HB22.out)
        have HC24 := hidH (HC22.out.write c224 (by rintro x (e | e); exact .inr (by omega); exact .inr (by omega)) (by have h1 := HC19.out.bel.size; rintro x (e | e) <;> omega))
        have hkeep : ∀ b, b < w19.heap.size → w24.heap[b]? = w19.heap[b]? := fun b hb => (c224.block b (by omega) (by rintro (e | e) <;> omega)).trans (HB22.out.block b hb)
        have HOE24 : Hid (OwN w8.heap.size w24 (.slice (some ⟨ge, 0, none⟩) kk ce) l) := row_keep HOE19.out fun b hb => hkeep b (HOE19.out.lt b hb).2
        have HWB24 : Hid (w24.heap[WB]? = some (.cells (wC p (.slice oa p.l.length oc) sb cb (.slice none 0 0)) 31 (0, 0))) := (hkeep WB (blk_lt HWB19.out)).trans HWB19.out
        have h01 : (0 : Int) < (1 : Int) := by omega
        have hkpi : (0 : Int) < (kk : Int) := by omega
        clear hB22 hn22 hzC hzP hw23 c23 hw24 c24 c224 hs1922 hs1921 hgB hgB2 hkeep hrP n0 n2 hNC v1
        go_upto_region 36 with fail
        rw [← HW23.out]
        go_upto_region 37 with fail
        rw [← HW24.out]
        clear v2 cC0 sC0 v1a cP0 sP0
        have i9 : w24.cell? ⟨WB, 9, none⟩ = some (.pointer (some ⟨cb, 0, none⟩)) := by rw [blk_cell HWB24.out]; rfl
        go_wp2_with fail
        refine (show Calls Try.prog 13 #[Pt cb] w24 (CpGot w24 J3.n) from cnote_walk HC24.out).mono ?_
        rw [HN19.out]
        rintro e w25 ⟨pa, pc3, ca, cc3, rfl, ho1, ho2, hB25⟩
        have hzk : (zeros kk).length = kk := zeros_len kk
        simp only [hzk, hkl] at ho1 ho2 ⊢
        obtain ⟨w26, hw26⟩ : ∃ w26, w26 = w25.alloc (Obj.cells #[.int .i64 1, .slice pa kk pc3, .slice ca kk cc3, .int .i64 1] 53) := ⟨_, rfl⟩
        have HW26 := hidH hw26
        obtain ⟨NC, hNB⟩ : ∃ NC, NC = w25.heap.size := ⟨_, rfl⟩
        have HNCD : Hid (NC = w25.heap.size) := hNB
        have hn26 : w26.heap[NC]? = some (.cells #[.int .i64 1, .slice pa kk pc3, .slice ca kk cc3, .int .i64 1] 53 (0, 0)) := by rw [hw26, hNB]; exact alloc_at rfl
        have hb2526 : Below w25.heap.size w25 w26 := by rw [hw26]; exact below_alloc _ _
        have hb2426 : Below w24.heap.size w24 w26 := below_trans hB25 hb2526
        have HC26 := hidH (HC24.out.below hb2426)
        have HOP26 : Hid (OwN w24.heap.size w26 (.slice pa kk pc3) (zeros kk)) := own_below ho1 hb2526
        have HOC26 : Hid (OwN w24.heap.size w26 (.slice ca kk cc3) l) := own_below ho2 hb2526
        have HOE26 : Hid (OwN w8.heap.size w26 (.slice (some ⟨ge, 0, none⟩) kk ce) l) := own_below HOE24.out hb2426
        have HPB26 : Hid (w26.heap[PB]? = some (.cells #[.int .i64 p.P, .int .i64 p.S, .int .i64 p.W, .slice oa p.l.length oc, .int .i64 p.A, .int .i64 p.B, .int .i64 p.N, .int .i64 p.G] 24 (0, 0))) := by show _ = _; rw [HPBD.out]; exact blk_below HX1.out HC26.out.bel
        have hmk := make_ints (q := kk) HKK.out.2.2
        have pz0 : ∀ wx, Below w26.heap.size w26 wx → wx.cell? ⟨PB, 0, none⟩ = some (.int .i64 (kk : Int)) := fun wx hb => cell_bel hb (blk_lt HPB26.out) (by rw [blk_cell HPB26.out, ← HKK.out.1]; rfl)
        have nz2 : ∀ wx, Below w26.heap.size w26 wx → wx.cell? ⟨NC, 2, none⟩ = some (.slice ca kk cc3) := fun wx hb => cell_bel hb (blk_lt hn26) (by rw [blk_cell hn26]; rfl)
        have nz1 : ∀ wx, Below w26.heap.size w26 wx → wx.cell? ⟨NC, 1, none⟩ = some (.slice pa kk pc3) := fun wx hb => cell_bel hb (blk_lt hn26) (by rw [blk_cell hn26]; rfl)
        clear ho1 ho2 hB25 hw26 hNB hn26 hb2526 hb2426 i9 hzk
        go_upto_region 38 with fail
        rw [← HW26.out, ← HNCD.out]
        refine wp_region_noPanic ?_
        refine wp_region_held_drew (S := (fun wx => Below w26.heap.size w26 wx)) (by kernel_rfl) ?_ (fun hHeld => ?_)
        · exact (below_drewN w26 1)
        refine wpAnyH_take (i := 0) (oi := ⟨some 218, _, _, _, _, _⟩) (v := ?_) rfl (by kernel_rfl) (by kernel_rfl) (by kernel_rfl) (fun _ _ _ h => h) (Or.inl ⟨by rfl, ?_⟩) hHeld ?_
        rotate_left
        · intro w hSw; (try dsimp only at hSw); go_simp; all_goals (with_reducible rfl)
        try simp only [Act.put, List.setIfInBounds_toArray, List.set_cons_zero, List.set_cons_succ]
        refine wpAnyH_take (i := 1) (oi := ⟨some 219, _, _, _, _, _⟩) (v := ?_) rfl (by kernel_rfl) (by kernel_rfl) (by kernel_rfl) (fun _ _ _ h => h) (Or.inl ⟨by rfl, ?_⟩) hHeld ?_
        rotate_left
        · intro w hSw; (try dsimp only at hSw); go_simp; all_goals (with_reducible rfl)
        try simp only [Act.put, List.setIfInBounds_toArray, List.set_cons_zero, List.set_cons_succ]
        refine wpAnyH_take (i := 2) (oi := ⟨some 220, _, _, _, _, _⟩) (v := ?_) rfl (by kernel_rfl) (by kernel_rfl) (by kernel_rfl) (fun _ _ _ h => h) (Or.inl ⟨by rfl, ?_⟩) hHeld ?_
        rotate_left
        · intro w hSw; (try dsimp only at hSw); go_simp; all_goals (with_reducible rfl)
        try simp only [Act.put, List.setIfInBounds_toArray, List.set_cons_zero, List.set_cons_succ]
        refine wpAnyH_take (i := 3) (oi := ⟨some 221, _, _, _, _, _⟩) (v := ?_) rfl (by kernel_rfl) (by kernel_rfl) (by kernel_rfl) (fun _ _ _ h => h) (Or.inl ⟨by rfl, ?_⟩) hHeld ?_
        rotate_left
        · intro w hSw; (try dsimp only at hSw); go_simp; all_goals (with_reducible rfl)
        try simp only [Act.put, List.setIfInBounds_toArray, List.set_cons_zero, List.set_cons_succ]
        refine wpAnyH_ready (rs := [4]) (by kernel_rfl) (by simp) ?_
        refine AllReadyH.cons (o := ⟨some 222, _, _, _, _, _⟩) rfl (fun K hK => ?_) AllReadyH.nil
        go_simp
        refine (ints19_walk ((own_nv HOC26.out (in64_of HLM.out)).below hHeld) ((own_nv HOE26.out (in64_of HLM.out)).below hHeld)).mono ?_
        rw [decide_eq_true rfl]
        rintro e w27 ⟨rfl, hB27⟩
        have HB27 : Hid (Below w26.heap.size w26 w27) := below_trans hHeld hB27
        clear hB27
        refine hK.out _ _ ?_ (fun hHeld => ?_)
        · exact HB27.out
        clear hK K
        try simp only [Act.put, List.setIfInBounds_toArray, List.set_cons_zero, List.set_cons_succ]
        refine wpAnyH_take (i := 5) (oi := ⟨some 223, _, _, _, _, _⟩) (v := ?_) rfl (by kernel_rfl) (by kernel_rfl) (by kernel_rfl) (fun _ _ _ h => h) (Or.inl ⟨by rfl, ?_⟩) hHeld ?_
        rotate_left
        · intro w hSw; (try dsimp only at hSw); go_simp; all_goals (with_reducible rfl)
        try simp only [Act.put, List.setIfInBounds_toArray, List.set_cons_zero, List.set_cons_succ]
        refine wpAnyH_take (i := 6) (oi := ⟨some 224, _, _, _, _, _⟩) (v := ?_) rfl (by kernel_rfl) (by kernel_rfl) (by kernel_rfl) (fun _ _ _ h => h) (Or.inl ⟨by rfl, ?_⟩) hHeld ?_
        rotate_left
        · intro w hSw; (try dsimp only at hSw); go_simp; all_goals (with_reducible rfl)
        try simp only [Act.put, List.setIfInBounds_toArray, List.set_cons_zero, List.set_cons_succ]
        refine wpAnyH_take (i := 7) (oi := ⟨some 225, _, _, _, _, _⟩) (v := ?_) rfl (by kernel_rfl) (by kernel_rfl) (by kernel_rfl) (fun _ _ _ h => h) (Or.inl ⟨by rfl, ?_⟩) hHeld ?_
        rotate_left
        · intro w hSw; (try dsimp only at hSw); go_simp; all_goals (with_reducible rfl)
        try simp only [Act.put, List.setIfInBounds_toArray, List.set_cons_zero, List.set_cons_succ]
        refine wpAnyH_take (i := 8) (oi := ⟨some 226, _, _, _, _, _⟩) (v := ?_) rfl (by kernel_rfl) (by kernel_rfl) (by kernel_rfl) (fun _ _ _ h => h) (Or.inl ⟨by rfl, ?_⟩) hHeld ?_
        rotate_left
        · intro w hSw; (try dsimp only at hSw); go_simp; all_goals (with_reducible rfl)
        try simp only [Act.put, List.setIfInBounds_toArray, List.set_cons_zero, List.set_cons_succ]
        refine wpAnyH_take (i := 9) (oi := ⟨some 227, _, _, _, _, _⟩) (v := ?_) rfl (by kernel_rfl) (by kernel_rfl) (by kernel_rfl) (fun _ _ _ h => h) (Or.inl ⟨by rfl, ?_⟩) hHeld ?_
        rotate_left
        · intro w hSw; (try dsimp only at hSw); go_simp; all_goals (with_reducible rfl)
        try simp only [Act.put, List.setIfInBounds_toArray, List.set_cons_zero, List.set_cons_succ]
        refine wpAnyH_take (i := 10) (oi := ⟨some 228, _, _, _, _, _⟩) (v := ?_) rfl (by kernel_rfl) (by kernel_rfl) (by kernel_rfl) (fun _ _ _ h => h) (Or.inl ⟨by rfl, ?_⟩) hHeld ?_
        rotate_left
        · intro w hSw; (try dsimp only at hSw); go_simp; all_goals (with_reducible rfl)
        try simp only [Act.put, List.setIfInBounds_toArray, List.set_cons_zero, List.set_cons_succ]
        refine wpAnyH_ready (rs := [11]) (by kernel_rfl) (by simp) ?_
        refine AllReadyH.cons (o := ⟨some 229, _, _, _, _, _⟩) rfl (fun K hK => ?_) AllReadyH.nil
        go_simp
        refine hK.out _ _ ?_ (fun hHeld => ?_)
        · exact (HB27.out.alloc HB27.out.size _)
        clear hK K
        try simp only [Act.put, List.setIfInBounds_toArray, List.set_cons_zero, List.set_cons_succ]
        refine wpAnyH_ready (rs := [12]) (by kernel_rfl) (by simp) ?_
        refine AllReadyH.cons (o := ⟨some 230, _, _, _, _, _⟩) rfl (fun K hK => ?_) AllReadyH.nil
        go_simp
        refine (ints19_walk (b := zeros kk) ((own_nv HOP26.out (in64_of (zeros_m kk))).below (HB27.out.alloc HB27.out.size _)) (made_nvq (w := w27) kk HKK.out.2.2)).mono ?_
        rw [decide_eq_true rfl]
        rintro e w28 ⟨rfl, hB28⟩
        have HB28 : Hid (Below w26.heap.size w26 w28) := below_trans (HB27.out.alloc HB27.out.size _) hB28
        clear hB28
        refine hK.out _ _ ?_ (fun hHeld => ?_)
        · exact HB28.out
        clear hK K
        try simp only [Act.put, List.setIfInBounds_toArray, List.set_cons_zero, List.set_cons_succ]
        refine wpAnyH_take (i := 13) (oi := ⟨some 231, _, _, _, _, _⟩) (v := ?_) rfl (by kernel_rfl) (by kernel_rfl) (by kernel_rfl) (fun _ _ _ h => h) (Or.inl ⟨by rfl, ?_⟩) hHeld ?_
        rotate_left
        · intro w hSw; (try dsimp only at hSw); go_simp; all_goals (with_reducible rfl)
        try simp only [Act.put, List.setIfInBounds_toArray, List.set_cons_zero, List.set_cons_succ]
        refine wpAnyH_take (i := 14) (oi := ⟨some 4, _, _, _, _, _⟩) (v := ?_) rfl (by kernel_rfl) (by kernel_rfl) (by kernel_rfl) (fun _ _ _ h => h) (Or.inl ⟨by rfl, ?_⟩) hHeld ?_
        rotate_left
        · intro w hSw; (try dsimp only at hSw); go_simp; all_goals (with_reducible rfl)
        try simp only [Act.put, List.setIfInBounds_toArray, List.set_cons_zero, List.set_cons_succ]
        refine wpAnyH_done (by kernel_rfl) ?_ _
        refine NoPanic.normal ?_
        clear hmk pz0 nz1 nz2
        have HBE := hidH ((HC26.out.below HB28.out).bel)
        go_wp2_with fail
        go_ret
        exact ⟨rfl, HB1.out.trans (HBE.out.mono HB1.out.size)⟩
end Go.Proofs.Ytpndafieknddcaa
