/- act: a try is ready. -/
import Derived.Test.YtmpdjobllpigpaaHf
import Derived.Test.YtmpdjobllpigpaaHd
namespace Go.Proofs.Ytmpdjobllpigpaa

open Ieee Go.RowKit

section

variable {wz w w' w2 : World} {A A' E B Z : Nat → Prop} {sb cb WB : Nat} {c c' : Cs} {p : Pn} {ov sv v onv : Value} {V : List Tq} {M : List Ms} {mo : Option Ms} {k : Int} {on : List Int}

set_option maxRecDepth 100000 in
set_option maxHeartbeats 4000000 in
theorem act_ready (h : AW wz Z WB p ov c M w) (ho : Ov wz ov p.l) (hp : p.is = true) (hon : Nv wz onv on) {P : Cs → Option Ms → Prop} (hwr : c.S.wr < 9223372036854775800) (hln : M.length ≤ 5000) (hP0 : P c none) (hfl : ∀ y ∈ c.L, 1 ≤ y.f.length) (hmk : ∀ y ∈ c.L, ∀ l : List Int, 1 ≤ l.length ∧ l.length ≤ 4 → (∀ v ∈ l, 0 ≤ v ∧ v ≤ 256) → Mok ⟨2, y.n, 0, y.b, y.a, 0, l, [], []⟩) (hl : ∀ m, Mok m → ∃ c', Lnd p (taC c m) (taM c m) (taE c m) c' ∧ P c' (taM c m)) :
    Calls Try.prog 11 #[Pt WB, .agg #[.int .i64 2, .int .i64 k, onv]] w (fun e w' => ∃ c' M' mo, P c' mo ∧ M'.length ≤ M.length + 1 ∧ AcG wz Z WB p ov c' M' mo w e w') := by
  obtain ⟨A, sb, cb, sv, V, hA, hcw, hW, aW, hS, hM⟩ := h.ex
  have HC : Hid (CW wz (fun x => Z x ∨ A x) sb cb c w) := hcw
  have HA : Hid (∀ x, A x → wz.heap.size ≤ x ∧ ¬ Z x) := hA
  have HAL : Hid (∀ x, A x → x < w.heap.size) := fun x hx => hcw.al (.inr hx)
  have HAW : Hid (A WB) := aW
  have HS : Hid (Sn A w sv V) := hS
  have HM : Hid (V.map Tq.m = M) := hM
  have HO : Hid (Ov wz ov p.l) := ho
  have HP : Hid (p.is = true) := hp
  have HON : Hid (Nv wz onv on) := hon
  have HWR : Hid (c.S.wr < 9223372036854775800) := hwr
  have HP0 : Hid (P c none) := hP0
  have HFL : Hid (∀ y ∈ c.L, 1 ≤ y.f.length) := hfl
  have HMK0 : Hid (∀ y ∈ c.L, ∀ l : List Int, 1 ≤ l.length ∧ l.length ≤ 4 → (∀ v ∈ l, 0 ≤ v ∧ v ≤ 256) → Mok ⟨2, y.n, 0, y.b, y.a, 0, l, [], []⟩) := hmk
  have HLL : Hid (∀ m, Mok m → ∃ c', Lnd p (taC c m) (taM c m) (taE c m) c' ∧ P c' (taM c m)) := hl
  have hln : V.length ≤ 5000 := by rw [← hM, List.length_map] at hln; exact hln
  clear hwr hP0 hl hfl hmk
  obtain ⟨⟨oa, oc, rfl, _⟩, _⟩ := ho
  obtain ⟨na, nc, rfl, _⟩ := hon.form
  obtain ⟨va, vc, rfl, _, _⟩ := own_formY hS.row
  obtain ⟨w0, hw0⟩ : ∃ w0, w0 = w.alloc (Obj.cells #[.int .i64 2, .int .i64 k, .slice na on.length nc] 45) := ⟨_, rfl⟩
  have hb0 : Below w.heap.size w w0 := by rw [hw0]; exact below_alloc _ _
  have HW0 : Hid (w0 = w.alloc (Obj.cells #[.int .i64 2, .int .i64 k, .slice na on.length nc] 45)) := hw0
  have HB0 : Hid (Below w.heap.size w w0) := hb0
  have HWB0 : Hid (w0.heap[WB]? = some (.cells (wC p (.slice oa p.l.length oc) sb cb (.slice va V.length vc)) 31 (0, 0))) := blk_below hW hb0
  have HWBw : Hid (w.heap[WB]? = some (.cells (wC p (.slice oa p.l.length oc) sb cb (.slice va V.length vc)) 31 (0, 0))) := hW
  have HX0 : Hid (w0.heap[w.heap.size]? = some (.cells #[.int .i64 2, .int .i64 k, .slice na on.length nc] 45 (0, 0))) := by show _ = _; rw [hw0]; exact alloc_at rfl
  have i9 : w.cell? ⟨WB, 9, none⟩ = some (.pointer (some ⟨cb, 0, none⟩)) := by rw [blk_cell hW]; rfl
  have hWl : WB < w.heap.size := blk_lt hW
  have hWn : ¬ WB = w.heap.size := by omega
  clear h hA hcw aW hS hM hon hw0 hb0 hW hp
  go_enter Try.func11, Try.ntmps11
  go_wp2_with fail
  rw [← HW0.out]
  refine (ctries_walk (HC.out.below HB0.out)).mono ?_
  rintro e w1 ⟨v1, W1, rfl, hy1, hr1, hl1, hB1⟩
  have HB01 : Hid (Below w.heap.size w w1) := HB0.out.trans (hB1.mono HB0.out.size)
  have hX1 := blk_below HX0.out hB1
  have hW1 := blk_below HWB0.out hB1
  have HX1 : Hid (w1.heap[w.heap.size]? = some (.cells #[.int .i64 2, .int .i64 k, .slice na on.length nc] 45 (0, 0))) := hX1
  have HWB1 : Hid (w1.heap[WB]? = some (.cells (wC p (.slice oa p.l.length oc) sb cb (.slice va V.length vc)) 31 (0, 0))) := hW1
  have HC1 : Hid (CW wz (fun x => Z x ∨ A x) sb cb c w1) := HC.out.below HB01.out
  have HS1 : Hid (Sn A w1 (.slice va V.length vc) V) := HS.out.keep (fun b hb => HB01.out.block b (HAL.out b hb))
  have HCH1 : Hid (ChA wz (fun x => Z x ∨ A x) w w1) := Ch.of_below HB01.out
  have x0 : w1.cell? ⟨w.heap.size, 0, none⟩ = some (.int .i64 2) := by rw [blk_cell hX1]; rfl
  have k8 : w1.cell? ⟨WB, 8, none⟩ = some (.pointer (some ⟨sb, 0, none⟩)) := by rw [blk_cell hW1]; rfl
  have k9 : w1.cell? ⟨WB, 9, none⟩ = some (.pointer (some ⟨cb, 0, none⟩)) := by rw [blk_cell hW1]; rfl
  have hokT : ∀ x ∈ W1, x.y.ok ∧ x.y ∈ c.L := fun x hx => by
    have hm : x.y ∈ W1.map Ye.y := List.mem_map_of_mem hx
    rw [hy1] at hm
    exact ⟨HC1.out.yok _ hm, hm⟩
  have HOKT : Hid (∀ x ∈ W1, x.y.ok ∧ x.y ∈ c.L) := hokT
  have HLS1 : Hid (∀ x ∈ W1, OwN w0.heap.size w1 x.fv x.y.f ∧ OwN w0.heap.size w1 x.ev x.y.e) := hl1
  obtain ⟨n1, hn1⟩ : ∃ n1 : Nat, n1 = W1.length := ⟨_, rfl⟩
  have HN1 : Hid (n1 = W1.length) := hn1
  rw [← hn1] at hr1
  have HROW1 : Hid (w1.ownsRow w0.heap.size 56 7 v1 n1 (flatY W1)) := hr1
  by_cases h0 : n1 = 0
  · obtain ⟨a1, c1, rfl, _, _⟩ := own_formY hr1
    subst h0
    clear hy1 hr1 hl1 hB1 hX1 hW1 hokT hn1
    go_wp2_with fail
    go_ret2
    exact ⟨c, M, none, HP0.out, by omega, acg_none HA.out HAL.out HC1.out HWB1.out HAW.out HS1.out HM.out (cha_less HCH1.out (fun x hx => .inl hx))⟩
  have hl0 : (0 : Int) < (n1 : Int) := by omega
  have hl0n : 0 < n1 := by omega
  obtain ⟨g1, cap1, rfl, _, _, _, hg1l⟩ := row_formY hr1 (by omega)
  have HCEL : Hid (∀ i (hi : i < W1.length) j u, j < 7 → (cellsY (W1[i]'hi))[j]? = some u → w1.cell? ⟨g1, i * 7 + j, none⟩ = some u) := fun i hi j u hj hu => (own_cellY (j := i * 7 + j) hr1 (by rw [flatY_get W1 i j hi hj]; exact hu)).1
  obtain ⟨x, hx⟩ : ∃ x, x = W1[0]'(by omega) := ⟨_, rfl⟩
  have hxm : x ∈ W1 := by rw [hx]; exact List.getElem_mem _
  have hcel0 : ∀ j u, j < 7 → (cellsY x)[j]? = some u → w1.cell? ⟨g1, j, none⟩ = some u := fun j u hj hu => by have := HCEL.out 0 (by omega) j u hj (by rw [← hx]; exact hu); rwa [Nat.zero_mul, Nat.zero_add] at this
  obtain ⟨y, fv, ev⟩ := x
  obtain ⟨hlf, hle⟩ := hl1 _ hxm
  replace hlf : OwN w0.heap.size w1 fv y.f := hlf
  replace hle : OwN w0.heap.size w1 ev y.e := hle
  obtain ⟨hyok, hymem⟩ := hokT _ hxm
  replace hyok : y.ok := hyok
  replace hymem : y ∈ c.L := hymem
  obtain ⟨fa, fc, rfl, _, _⟩ := own_formY hlf
  obtain ⟨ea, ec, rfl, _, _⟩ := own_formY hle
  have HLE : Hid (OwN w0.heap.size w1 (.slice ea y.e.length ec) y.e) := hle
  have HYOK : Hid y.ok := hyok
  have HYM : Hid (y ∈ c.L) := hymem
  have HYL : Hid (Yl w1 ⟨y, .slice fa y.f.length fc, .slice ea y.e.length ec⟩) := ⟨own_nv hlf (in64_of hyok.fm), own_nv hle (in64_of hyok.em), fun _ hi => (nth_of hyok.fm hi).1, fun _ hi => (nth_of hyok.em hi).1⟩
  have d0 : ∀ wx, Below w1.heap.size w1 wx → wx.cell? ⟨g1, 0, none⟩ = some (.int .i64 y.b) := fun wx hb => cell_bel hb hg1l (hcel0 0 _ (by omega) rfl)
  have d1 : ∀ wx, Below w1.heap.size w1 wx → wx.cell? ⟨g1, 1, none⟩ = some (.int .i64 y.a) := fun wx hb => cell_bel hb hg1l (hcel0 1 _ (by omega) rfl)
  have d2 : ∀ wx, Below w1.heap.size w1 wx → wx.cell? ⟨g1, 2, none⟩ = some (.int .i64 y.n) := fun wx hb => cell_bel hb hg1l (hcel0 2 _ (by omega) rfl)
  have d3 : ∀ wx, Below w1.heap.size w1 wx → wx.cell? ⟨g1, 3, none⟩ = some (.int .i64 y.h) := fun wx hb => cell_bel hb hg1l (hcel0 3 _ (by omega) rfl)
  have d4 : ∀ wx, Below w1.heap.size w1 wx → wx.cell? ⟨g1, 4, none⟩ = some (.int .i64 y.t) := fun wx hb => cell_bel hb hg1l (hcel0 4 _ (by omega) rfl)
  have d5 : ∀ wx, Below w1.heap.size w1 wx → wx.cell? ⟨g1, 5, none⟩ = some (.slice fa y.f.length fc) := fun wx hb => cell_bel hb hg1l (hcel0 5 _ (by omega) rfl)
  have d6 : ∀ wx, Below w1.heap.size w1 wx → wx.cell? ⟨g1, 6, none⟩ = some (.slice ea y.e.length ec) := fun wx hb => cell_bel hb hg1l (hcel0 6 _ (by omega) rfl)
  have hg1n : ¬ g1 = w1.heap.size := by omega
  have HG1L : Hid (g1 < w1.heap.size) := hg1l
  clear hy1 hr1 hl1 hB1 hX1 hW1 hokT hn1 hlf hle hyok hymem hcel0 hx hxm
  go_upto_region 11 with fail
  go_cut [9] (fun mv wx => MbR w1 (⟨8, y.n, 0, y.b, y.a, 0, y.e, [], []⟩ : Ms) (.slice ea y.e.length ec) mv wx)
  case first =>
    refine wp_region_noPanic ?_
    refine wp_region_held_drew (S := (fun wx => Below w1.heap.size w1 wx)) (by kernel_rfl) ?_ (fun hHeld => ?_)
    · exact (below_drewN w1 1)
    refine wpAnyH_take (i := 0) (oi := ⟨some 34, _, _, _, _, _⟩) (v := ?_) rfl (by kernel_rfl) (by kernel_rfl) (by kernel_rfl) (fun _ _ _ h => h) (Or.inl ⟨by rfl, ?_⟩) hHeld ?_
    rotate_left
    · intro w hSw; (try dsimp only at hSw); go_simp; all_goals (with_reducible rfl)
    try simp only [Act.put, List.setIfInBounds_toArray, List.set_cons_zero, List.set_cons_succ]
    refine wpAnyH_take (i := 1) (oi := ⟨some 35, _, _, _, _, _⟩) (v := ?_) rfl (by kernel_rfl) (by kernel_rfl) (by kernel_rfl) (fun _ _ _ h => h) (Or.inl ⟨by rfl, ?_⟩) hHeld ?_
    rotate_left
    · intro w hSw; (try dsimp only at hSw); go_simp; all_goals (with_reducible rfl)
    try simp only [Act.put, List.setIfInBounds_toArray, List.set_cons_zero, List.set_cons_succ]
    refine wpAnyH_take (i := 2) (oi := ⟨some 36, _, _, _, _, _⟩) (v := ?_) rfl (by kernel_rfl) (by kernel_rfl) (by kernel_rfl) (fun _ _ _ h => h) (Or.inl ⟨by rfl, ?_⟩) hHeld ?_
    rotate_left
    · intro w hSw; (try dsimp only at hSw); go_simp; all_goals (with_reducible rfl)
    try simp only [Act.put, List.setIfInBounds_toArray, List.set_cons_zero, List.set_cons_succ]
    refine wpAnyH_take (i := 3) (oi := ⟨some 37, _, _, _, _, _⟩) (v := ?_) rfl (by kernel_rfl) (by kernel_rfl) (by kernel_rfl) (fun _ _ _ h => h) (Or.inl ⟨by rfl, ?_⟩) hHeld ?_
    rotate_left
    · intro w hSw; (try dsimp only at hSw); go_simp; all_goals (with_reducible rfl)
    try simp only [Act.put, List.setIfInBounds_toArray, List.set_cons_zero, List.set_cons_succ]
    refine wpAnyH_take (i := 4) (oi := ⟨some 38, _, _, _, _, _⟩) (v := ?_) rfl (by kernel_rfl) (by kernel_rfl) (by kernel_rfl) (fun _ _ _ h => h) (Or.inl ⟨by rfl, ?_⟩) hHeld ?_
    rotate_left
    · intro w hSw; (try dsimp only at hSw); go_simp; all_goals (with_reducible rfl)
    try simp only [Act.put, List.setIfInBounds_toArray, List.set_cons_zero, List.set_cons_succ]
    refine wpAnyH_take (i := 5) (oi := ⟨some 39, _, _, _, _, _⟩) (v := ?_) rfl (by kernel_rfl) (by kernel_rfl) (by kernel_rfl) (fun _ _ _ h => h) (Or.inl ⟨by rfl, ?_⟩) hHeld ?_
    rotate_left
    · intro w hSw; (try dsimp only at hSw); go_simp; all_goals (with_reducible rfl)
    try simp only [Act.put, List.setIfInBounds_toArray, List.set_cons_zero, List.set_cons_succ]
    refine wpAnyH_take (i := 6) (oi := ⟨some 40, _, _, _, _, _⟩) (v := ?_) rfl (by kernel_rfl) (by kernel_rfl) (by kernel_rfl) (fun _ _ _ h => h) (Or.inl ⟨by rfl, ?_⟩) hHeld ?_
    rotate_left
    · intro w hSw; (try dsimp only at hSw); go_simp; all_goals (with_reducible rfl)
    try simp only [Act.put, List.setIfInBounds_toArray, List.set_cons_zero, List.set_cons_succ]
    refine wpAnyH_ready (rs := [7, 8]) (by kernel_rfl) (by simp) ?_
    refine AllReadyH.cons (o := ⟨some 41, _, _, _, _, _⟩) rfl (fun K hK => ?_) (AllReadyH.cons (o := ⟨some 9, _, _, _, _, _⟩) rfl (fun K hK => ?_) AllReadyH.nil)
    · go_simp
      refine (about19_walk (x := ⟨y, .slice fa y.f.length fc, .slice ea y.e.length ec⟩) (k := 8) (ev := .slice ea y.e.length ec) (l := y.e) (HYL.out.below hHeld) (HYL.out.e.below hHeld)).mono ?_
      rintro e w9 ⟨rfl, hB9⟩
      have hS9 : Below w1.heap.size w1 w9 := below_trans hHeld hB9
      clear hB9 hHeld
      go_simp
      refine hK.out _ _ ?_ (fun hHeld => ?_)
      · exact hS9
      clear hK K
      try simp only [Act.put, List.setIfInBounds_toArray, List.set_cons_zero, List.set_cons_succ]
      refine wpAnyH_ready (rs := [8]) (by kernel_rfl) (by simp) ?_
      refine AllReadyH.cons (o := ⟨some 9, _, _, _, _, _⟩) rfl (fun K hK => ?_) AllReadyH.nil
      go_simp
      refine hK.out _ _ ?_ (fun hHeld => ?_)
      · exact (by first | exact hHeld.alloc hHeld.size _ | exact (below_alloc _ _).drew)
      clear hK K
      try simp only [Act.put, List.setIfInBounds_toArray, List.set_cons_zero, List.set_cons_succ]
      refine wpAnyH_ready (rs := [9]) (by kernel_rfl) (by simp) ?_
      refine AllReadyH.cons (o := ⟨none, _, _, _, _, _⟩) rfl (fun K hK => ?_) AllReadyH.nil
      go_simp
      refine hK.out _ _ ?_ (fun hHeld => ?_)
      · exact hS9.alloc hS9.size _
      clear hK K
      try simp only [Act.put, List.setIfInBounds_toArray, List.set_cons_zero, List.set_cons_succ]
      refine wpAnyH_done (by kernel_rfl) ?_ _
      refine NoPanic.normal ?_
      go_wp2_with fail
      go_meet
      exact mb_new (m := (⟨8, y.n, 0, y.b, y.a, 0, y.e, [], []⟩ : Ms)) hS9
    · go_simp
      refine hK.out _ _ ?_ (fun hHeld => ?_)
      · exact (by first | exact hHeld.alloc hHeld.size _ | exact (below_alloc _ _).drew)
      clear hK K
      try simp only [Act.put, List.setIfInBounds_toArray, List.set_cons_zero, List.set_cons_succ]
      refine wpAnyH_ready (rs := [7]) (by kernel_rfl) (by simp) ?_
      refine AllReadyH.cons (o := ⟨some 41, _, _, _, _, _⟩) rfl (fun K hK => ?_) AllReadyH.nil
      go_simp
      refine (about19_walk (x := ⟨y, .slice fa y.f.length fc, .slice ea y.e.length ec⟩) (k := 8) (ev := .slice ea y.e.length ec) (l := y.e) (HYL.out.below hHeld) (HYL.out.e.below hHeld)).mono ?_
      rintro e w9 ⟨rfl, hB9⟩
      have hS9 : Below w1.heap.size w1 w9 := below_trans hHeld hB9
      have hz9 := zero_nt hB9
      have hzb := hz9
      have z0 : w9.cell? ⟨w1.heap.size, 0, none⟩ = some (.int .i64 0) := by rw [blk_cell hz9]; rfl
      have y0 : w9.frozen? ⟨w1.heap.size, 0, none⟩ = false := blk_soft hz9 0
      have z1 : w9.cell? ⟨w1.heap.size, 1, none⟩ = some (.int .i64 0) := by rw [blk_cell hz9]; rfl
      have y1 : w9.frozen? ⟨w1.heap.size, 1, none⟩ = false := blk_soft hz9 1
      have z2 : w9.cell? ⟨w1.heap.size, 2, none⟩ = some (.int .i64 0) := by rw [blk_cell hz9]; rfl
      have y2 : w9.frozen? ⟨w1.heap.size, 2, none⟩ = false := blk_soft hz9 2
      have z3 : w9.cell? ⟨w1.heap.size, 3, none⟩ = some (.int .i64 0) := by rw [blk_cell hz9]; rfl
      have y3 : w9.frozen? ⟨w1.heap.size, 3, none⟩ = false := blk_soft hz9 3
      have z4 : w9.cell? ⟨w1.heap.size, 4, none⟩ = some (.int .i64 0) := by rw [blk_cell hz9]; rfl
      have y4 : w9.frozen? ⟨w1.heap.size, 4, none⟩ = false := blk_soft hz9 4
      have z5 : w9.cell? ⟨w1.heap.size, 5, none⟩ = some (.int .i64 0) := by rw [blk_cell hz9]; rfl
      have y5 : w9.frozen? ⟨w1.heap.size, 5, none⟩ = false := blk_soft hz9 5
      have z6 : w9.cell? ⟨w1.heap.size, 6, none⟩ = some (.slice none 0 0) := by rw [blk_cell hz9]; rfl
      have y6 : w9.frozen? ⟨w1.heap.size, 6, none⟩ = false := blk_soft hz9 6
      have z7 : w9.cell? ⟨w1.heap.size, 7, none⟩ = some (.slice none 0 0) := by rw [blk_cell hz9]; rfl
      have y7 : w9.frozen? ⟨w1.heap.size, 7, none⟩ = false := blk_soft hz9 7
      have z8 : w9.cell? ⟨w1.heap.size, 8, none⟩ = some (.slice none 0 0) := by rw [blk_cell hz9]; rfl
      have y8 : w9.frozen? ⟨w1.heap.size, 8, none⟩ = false := blk_soft hz9 8
      clear hB9 hHeld hz9
      go_simp
      refine hK.out _ _ ?_ (fun hHeld => ?_)
      · exact hS9
      clear hK K
      try simp only [Act.put, List.setIfInBounds_toArray, List.set_cons_zero, List.set_cons_succ]
      refine wpAnyH_ready (rs := [9]) (by kernel_rfl) (by simp) ?_
      refine AllReadyH.cons (o := ⟨none, _, _, _, _, _⟩) rfl (fun K hK => ?_) AllReadyH.nil
      go_simp
      refine hK.out _ _ ?_ (fun hHeld => ?_)
      · exact (setM_bel (⟨8, y.n, 0, y.b, y.a, 0, y.e, [], []⟩ : Ms) (.slice ea y.e.length ec) (.slice none 0 0) (.slice none 0 0) hS9 (Nat.le_refl _))
      clear hK K
      try simp only [Act.put, List.setIfInBounds_toArray, List.set_cons_zero, List.set_cons_succ]
      refine wpAnyH_done (by kernel_rfl) ?_ _
      refine NoPanic.normal ?_
      go_wp2_with fail
      go_meet
      exact mb_old (m := (⟨8, y.n, 0, y.b, y.a, 0, y.e, [], []⟩ : Ms)) hS9 hzb
  case rest =>
    obtain ⟨MB, rfl, hMB, hMBl, hBa⟩ := hcut
    obtain ⟨wa, hwa⟩ : ∃ wa, wa = wc := ⟨_, rfl⟩
    subst hwa
    have HMBa : Hid (wa.heap[MB]? = some (.cells #[.int .i64 ((⟨8, y.n, 0, y.b, y.a, 0, y.e, [], []⟩ : Ms)).K, .int .i64 ((⟨8, y.n, 0, y.b, y.a, 0, y.e, [], []⟩ : Ms)).F, .int .i64 ((⟨8, y.n, 0, y.b, y.a, 0, y.e, [], []⟩ : Ms)).T, .int .i64 ((⟨8, y.n, 0, y.b, y.a, 0, y.e, [], []⟩ : Ms)).B, .int .i64 ((⟨8, y.n, 0, y.b, y.a, 0, y.e, [], []⟩ : Ms)).A, .int .i64 ((⟨8, y.n, 0, y.b, y.a, 0, y.e, [], []⟩ : Ms)).C, .slice ea y.e.length ec, .slice none 0 0, .slice none 0 0] 50 (0, 0))) := hMB
    have HMBl : Hid (w1.heap.size ≤ MB) := hMBl
    have HBa : Hid (Below w1.heap.size w1 wa) := hBa
    have HXa : Hid (wa.heap[w.heap.size]? = some (.cells #[.int .i64 2, .int .i64 k, .slice na on.length nc] 45 (0, 0))) := blk_below HX1.out hBa
    have xa0 : wa.cell? ⟨w.heap.size, 0, none⟩ = some (.int .i64 2) := by rw [blk_cell HXa.out]; rfl
    have xa1 : wa.cell? ⟨w.heap.size, 1, none⟩ = some (.int .i64 k) := by rw [blk_cell HXa.out]; rfl
    clear hMB hMBl hBa d0 d1 d2 d3 d4 d5 d6 x0 k8 k9 i9 hg1n
    obtain ⟨_, _, _, _, ⟨hB1, hB2⟩, _⟩ := Pn.is_num HP.out
    have HBB : Hid (0 ≤ p.B ∧ p.B ≤ 16) := ⟨by omega, hB2⟩
    obtain ⟨j, hj⟩ : ∃ j : Nat, j = ((IntKind.u64.wrap k).tmod n1).toNat := ⟨_, rfl⟩
    have hk0 : 0 ≤ IntKind.u64.wrap k := wrap_u64_nonneg k
    have he : (IntKind.u64.wrap k).tmod n1 = IntKind.u64.wrap k % n1 := Int.tmod_eq_emod_of_nonneg hk0
    have hm0 := Int.emod_nonneg (IntKind.u64.wrap k) (show (n1 : Int) ≠ 0 by omega)
    have hm1 := Int.emod_lt_of_pos (IntKind.u64.wrap k) hl0
    have hjn : j < n1 := by rw [hj, he]; omega
    have hji : (j : Int) < (n1 : Int) := by omega
    have hn64 : n1 ≤ 9223372036854775807 := by
      obtain ⟨_, _, _, h1, h2⟩ := own_formY HROW1.out
      unfold maxLen at h2
      omega
    have hub : IntKind.u64.wrap (n1 : Int) = n1 := by rw [IntKind.wrap_u64]; omega
    have hrw : IntKind.i64.wrap ((IntKind.u64.wrap k).tmod n1) = (j : Int) := by rw [hj, he, IntKind.wrap_i64]; omega
    have hjl : j < W1.length := by rw [← HN1.out]; exact hjn
    obtain ⟨x, hx⟩ : ∃ x, x = W1[j] := ⟨_, rfl⟩
    have hxm : x ∈ W1 := by rw [hx]; exact List.getElem_mem _
    have hcelj : ∀ i u, i < 7 → (cellsY x)[i]? = some u → wa.cell? ⟨g1, j * 7 + i, none⟩ = some u := fun i u hi hu => cell_bel HBa.out HG1L.out (HCEL.out j hjl i u hi (by rw [← hx]; exact hu))
    obtain ⟨z, fv, ev⟩ := x
    obtain ⟨hlf, hle⟩ := HLS1.out _ hxm
    replace hlf : OwN w0.heap.size w1 fv z.f := hlf
    replace hle : OwN w0.heap.size w1 ev z.e := hle
    obtain ⟨hzok, hzmem⟩ := HOKT.out _ hxm
    replace hzok : z.ok := hzok
    replace hzmem : z ∈ c.L := hzmem
    obtain ⟨fb, fd, rfl, _, _⟩ := own_formY hlf
    obtain ⟨eb, ed, rfl, _, _⟩ := own_formY hle
    have HZOK : Hid z.ok := hzok
    have HZM : Hid (z ∈ c.L) := hzmem
    have HZL : Hid (Yl w1 ⟨z, .slice fb z.f.length fd, .slice eb z.e.length ed⟩) := ⟨own_nv hlf (in64_of hzok.fm), own_nv hle (in64_of hzok.em), fun _ hi => (nth_of hzok.fm hi).1, fun _ hi => (nth_of hzok.em hi).1⟩
    have t0 : wa.cell? ⟨g1, j * 7, none⟩ = some (.int .i64 z.b) := hcelj 0 _ (by omega) rfl
    have t1 : wa.cell? ⟨g1, j * 7 + 1, none⟩ = some (.int .i64 z.a) := hcelj 1 _ (by omega) rfl
    have t2 : wa.cell? ⟨g1, j * 7 + 2, none⟩ = some (.int .i64 z.n) := hcelj 2 _ (by omega) rfl
    have t3 : wa.cell? ⟨g1, j * 7 + 3, none⟩ = some (.int .i64 z.h) := hcelj 3 _ (by omega) rfl
    have t4 : wa.cell? ⟨g1, j * 7 + 4, none⟩ = some (.int .i64 z.t) := hcelj 4 _ (by omega) rfl
    have t5 : wa.cell? ⟨g1, j * 7 + 5, none⟩ = some (.slice fb z.f.length fd) := hcelj 5 _ (by omega) rfl
    have t6 : wa.cell? ⟨g1, j * 7 + 6, none⟩ = some (.slice eb z.e.length ed) := hcelj 6 _ (by omega) rfl
    obtain ⟨wb, hwb⟩ : ∃ wb, wb = wa.alloc (Obj.cells #[.int .i64 z.b, .int .i64 z.a, .int .i64 z.n, .int .i64 z.h, .int .i64 z.t, .slice fb z.f.length fd, .slice eb z.e.length ed] 56) := ⟨_, rfl⟩
    have HWb : Hid (wb = wa.alloc (Obj.cells #[.int .i64 z.b, .int .i64 z.a, .int .i64 z.n, .int .i64 z.h, .int .i64 z.t, .slice fb z.f.length fd, .slice eb z.e.length ed] 56)) := hwb
    have hbab : Below wa.heap.size wa wb := by rw [hwb]; exact below_alloc _ _
    have HTBb : Hid (wb.heap[wa.heap.size]? = some (.cells #[.int .i64 z.b, .int .i64 z.a, .int .i64 z.n, .int .i64 z.h, .int .i64 z.t, .slice fb z.f.length fd, .slice eb z.e.length ed] 56 (0, 0))) := by show _ = _; rw [hwb]; exact alloc_at rfl
    have HBb : Hid (Below w1.heap.size w1 wb) := HBa.out.trans (hbab.mono HBa.out.size)
    have HMBb : Hid (wb.heap[MB]? = some (.cells #[.int .i64 ((⟨8, y.n, 0, y.b, y.a, 0, y.e, [], []⟩ : Ms)).K, .int .i64 ((⟨8, y.n, 0, y.b, y.a, 0, y.e, [], []⟩ : Ms)).F, .int .i64 ((⟨8, y.n, 0, y.b, y.a, 0, y.e, [], []⟩ : Ms)).T, .int .i64 ((⟨8, y.n, 0, y.b, y.a, 0, y.e, [], []⟩ : Ms)).B, .int .i64 ((⟨8, y.n, 0, y.b, y.a, 0, y.e, [], []⟩ : Ms)).A, .int .i64 ((⟨8, y.n, 0, y.b, y.a, 0, y.e, [], []⟩ : Ms)).C, .slice ea y.e.length ec, .slice none 0 0, .slice none 0 0] 50 (0, 0))) := blk_below HMBa.out hbab
    have HXb : Hid (wb.heap[w.heap.size]? = some (.cells #[.int .i64 2, .int .i64 k, .slice na on.length nc] 45 (0, 0))) := blk_below HXa.out hbab
    have hBwb : Below w.heap.size w wb := HB01.out.trans (HBb.out.mono HB01.out.size)
    have HBwb : Hid (Below w.heap.size w wb) := hBwb
    have hWBb : wb.heap[WB]? = some (.cells (wC p (.slice oa p.l.length oc) sb cb (.slice va V.length vc)) 31 (0, 0)) := blk_below HWBw.out hBwb
    have hTM : ¬ wa.heap.size = MB := by have := blk_lt HMBa.out; omega
    have hWM : ¬ WB = MB := by have := blk_lt HWBw.out; have := HMBl.out; have := HB01.out.size; omega
    have hXM : ¬ w.heap.size = MB := by have := blk_lt HX1.out; have := HMBl.out; omega
    obtain ⟨TB, hTB⟩ : ∃ TB, TB = wa.heap.size := ⟨_, rfl⟩
    have HTBD : Hid (TB = wa.heap.size) := hTB
    rw [← hTB] at hTM
    have hTBb : wb.heap[TB]? = some (.cells #[.int .i64 z.b, .int .i64 z.a, .int .i64 z.n, .int .i64 z.h, .int .i64 z.t, .slice fb z.f.length fd, .slice eb z.e.length ed] 56 (0, 0)) := by rw [hTB]; exact HTBb.out
    have tb0 : ∀ wx, Ch (fun x => x = MB) wb wx → wx.cell? ⟨TB, 0, none⟩ = some (.int .i64 z.b) := fun wx hc => cell_chg hc (blk_lt hTBb) hTM (by rw [blk_cell hTBb]; rfl)
    have tb1 : ∀ wx, Ch (fun x => x = MB) wb wx → wx.cell? ⟨TB, 1, none⟩ = some (.int .i64 z.a) := fun wx hc => cell_chg hc (blk_lt hTBb) hTM (by rw [blk_cell hTBb]; rfl)
    have tb2 : ∀ wx, Ch (fun x => x = MB) wb wx → wx.cell? ⟨TB, 2, none⟩ = some (.int .i64 z.n) := fun wx hc => cell_chg hc (blk_lt hTBb) hTM (by rw [blk_cell hTBb]; rfl)
    have tb3 : ∀ wx, Ch (fun x => x = MB) wb wx → wx.cell? ⟨TB, 3, none⟩ = some (.int .i64 z.h) := fun wx hc => cell_chg hc (blk_lt hTBb) hTM (by rw [blk_cell hTBb]; rfl)
    have tb4 : ∀ wx, Ch (fun x => x = MB) wb wx → wx.cell? ⟨TB, 4, none⟩ = some (.int .i64 z.t) := fun wx hc => cell_chg hc (blk_lt hTBb) hTM (by rw [blk_cell hTBb]; rfl)
    have tb5 : ∀ wx, Ch (fun x => x = MB) wb wx → wx.cell? ⟨TB, 5, none⟩ = some (.slice fb z.f.length fd) := fun wx hc => cell_chg hc (blk_lt hTBb) hTM (by rw [blk_cell hTBb]; rfl)
    have tb6 : ∀ wx, Ch (fun x => x = MB) wb wx → wx.cell? ⟨TB, 6, none⟩ = some (.slice eb z.e.length ed) := fun wx hc => cell_chg hc (blk_lt hTBb) hTM (by rw [blk_cell hTBb]; rfl)
    have pw0 : ∀ wx, Ch (fun x => x = MB) wb wx → wx.cell? ⟨WB, 0, none⟩ = some (.int .i64 p.P) := fun wx hc => cell_chg hc (blk_lt hWBb) hWM (by rw [blk_cell hWBb]; rfl)
    have pw1 : ∀ wx, Ch (fun x => x = MB) wb wx → wx.cell? ⟨WB, 1, none⟩ = some (.int .i64 p.S) := fun wx hc => cell_chg hc (blk_lt hWBb) hWM (by rw [blk_cell hWBb]; rfl)
    have pw2 : ∀ wx, Ch (fun x => x = MB) wb wx → wx.cell? ⟨WB, 2, none⟩ = some (.int .i64 p.W) := fun wx hc => cell_chg hc (blk_lt hWBb) hWM (by rw [blk_cell hWBb]; rfl)
    have pw3 : ∀ wx, Ch (fun x => x = MB) wb wx → wx.cell? ⟨WB, 3, none⟩ = some (.slice oa p.l.length oc) := fun wx hc => cell_chg hc (blk_lt hWBb) hWM (by rw [blk_cell hWBb]; rfl)
    have pw4 : ∀ wx, Ch (fun x => x = MB) wb wx → wx.cell? ⟨WB, 4, none⟩ = some (.int .i64 p.A) := fun wx hc => cell_chg hc (blk_lt hWBb) hWM (by rw [blk_cell hWBb]; rfl)
    have pw5 : ∀ wx, Ch (fun x => x = MB) wb wx → wx.cell? ⟨WB, 5, none⟩ = some (.int .i64 p.B) := fun wx hc => cell_chg hc (blk_lt hWBb) hWM (by rw [blk_cell hWBb]; rfl)
    have pw6 : ∀ wx, Ch (fun x => x = MB) wb wx → wx.cell? ⟨WB, 6, none⟩ = some (.int .i64 p.N) := fun wx hc => cell_chg hc (blk_lt hWBb) hWM (by rw [blk_cell hWBb]; rfl)
    have pw7 : ∀ wx, Ch (fun x => x = MB) wb wx → wx.cell? ⟨WB, 7, none⟩ = some (.int .i64 p.G) := fun wx hc => cell_chg hc (blk_lt hWBb) hWM (by rw [blk_cell hWBb]; rfl)
    have ac2 : ∀ wx, Ch (fun x => x = MB) wb wx → wx.cell? ⟨w.heap.size, 2, none⟩ = some (.slice na on.length nc) := fun wx hc => cell_chg hc (blk_lt HXb.out) hXM (by rw [blk_cell HXb.out]; rfl)
    have HONb : Hid (Nv wb (.slice na on.length nc) on) := HON.out.below (HC.out.below HBwb.out).bel
    have hTBn : ¬ TB = wb.heap.size := by have := blk_lt hTBb; omega
    clear hwb hbab hBwb hWBb hTM hWM hXM hTB hTBb hj hk0 he hm0 hm1 hjn hn64 hjl hx hxm hcelj hlf hle hzok hzmem hB1 hB2
    go_upto_region 14 with fail
    rw [← HWb.out, ← HTBD.out]
    clear t0 t1 t2 t3 t4 t5 t6 xa0 xa1 hub hrw
    refine wp_region_noPanic ?_
    refine wp_region_held_drew (S := (fun wx => Ch (fun x => x = MB) wb wx)) (by kernel_rfl) ?_ (fun hHeld => ?_)
    · exact (Ch.of_below (below_drewN wb 1))
    refine wpAnyH_take (i := 0) (oi := ⟨some 56, _, _, _, _, _⟩) (v := ?_) rfl (by kernel_rfl) (by kernel_rfl) (by kernel_rfl) (fun _ _ _ h => h) (Or.inl ⟨by rfl, ?_⟩) hHeld ?_
    rotate_left
    · intro w hSw; (try dsimp only at hSw); go_simp; all_goals (with_reducible rfl)
    try simp only [Act.put, List.setIfInBounds_toArray, List.set_cons_zero, List.set_cons_succ]
    refine wpAnyH_take (i := 1) (oi := ⟨some 57, _, _, _, _, _⟩) (v := ?_) rfl (by kernel_rfl) (by kernel_rfl) (by kernel_rfl) (fun _ _ _ h => h) (Or.inl ⟨by rfl, ?_⟩) hHeld ?_
    rotate_left
    · intro w hSw; (try dsimp only at hSw); go_simp; all_goals (with_reducible rfl)
    try simp only [Act.put, List.setIfInBounds_toArray, List.set_cons_zero, List.set_cons_succ]
    refine wpAnyH_take (i := 2) (oi := ⟨some 58, _, _, _, _, _⟩) (v := ?_) rfl (by kernel_rfl) (by kernel_rfl) (by kernel_rfl) (fun _ _ _ h => h) (Or.inl ⟨by rfl, ?_⟩) hHeld ?_
    rotate_left
    · intro w hSw; (try dsimp only at hSw); go_simp; all_goals (with_reducible rfl)
    try simp only [Act.put, List.setIfInBounds_toArray, List.set_cons_zero, List.set_cons_succ]
    refine wpAnyH_take (i := 3) (oi := ⟨some 59, _, _, _, _, _⟩) (v := ?_) rfl (by kernel_rfl) (by kernel_rfl) (by kernel_rfl) (fun _ _ _ h => h) (Or.inl ⟨by rfl, ?_⟩) hHeld ?_
    rotate_left
    · intro w hSw; (try dsimp only at hSw); go_simp; all_goals (with_reducible rfl)
    try simp only [Act.put, List.setIfInBounds_toArray, List.set_cons_zero, List.set_cons_succ]
    refine wpAnyH_take (i := 4) (oi := ⟨some 60, _, _, _, _, _⟩) (v := ?_) rfl (by kernel_rfl) (by kernel_rfl) (by kernel_rfl) (fun _ _ _ h => h) (Or.inl ⟨by rfl, ?_⟩) hHeld ?_
    rotate_left
    · intro w hSw; (try dsimp only at hSw); go_simp; all_goals (with_reducible rfl)
    try simp only [Act.put, List.setIfInBounds_toArray, List.set_cons_zero, List.set_cons_succ]
    refine wpAnyH_take (i := 5) (oi := ⟨some 61, _, _, _, _, _⟩) (v := ?_) rfl (by kernel_rfl) (by kernel_rfl) (by kernel_rfl) (fun _ _ _ h => h) (Or.inl ⟨by rfl, ?_⟩) hHeld ?_
    rotate_left
    · intro w hSw; (try dsimp only at hSw); go_simp; all_goals (with_reducible rfl)
    try simp only [Act.put, List.setIfInBounds_toArray, List.set_cons_zero, List.set_cons_succ]
    refine wpAnyH_take (i := 6) (oi := ⟨some 62, _, _, _, _, _⟩) (v := ?_) rfl (by kernel_rfl) (by kernel_rfl) (by kernel_rfl) (fun _ _ _ h => h) (Or.inl ⟨by rfl, ?_⟩) hHeld ?_
    rotate_left
    · intro w hSw; (try dsimp only at hSw); go_simp; all_goals (with_reducible rfl)
    try simp only [Act.put, List.setIfInBounds_toArray, List.set_cons_zero, List.set_cons_succ]
    refine wpAnyH_take (i := 7) (oi := ⟨some 63, _, _, _, _, _⟩) (v := ?_) rfl (by kernel_rfl) (by kernel_rfl) (by kernel_rfl) (fun _ _ _ h => h) (Or.inl ⟨by rfl, ?_⟩) hHeld ?_
    rotate_left
    · intro w hSw; (try dsimp only at hSw); go_simp; all_goals (with_reducible rfl)
    try simp only [Act.put, List.setIfInBounds_toArray, List.set_cons_zero, List.set_cons_succ]
    refine wpAnyH_take (i := 8) (oi := ⟨some 64, _, _, _, _, _⟩) (v := ?_) rfl (by kernel_rfl) (by kernel_rfl) (by kernel_rfl) (fun _ _ _ h => h) (Or.inl ⟨by rfl, ?_⟩) hHeld ?_
    rotate_left
    · intro w hSw; (try dsimp only at hSw); go_simp; all_goals (with_reducible rfl)
    try simp only [Act.put, List.setIfInBounds_toArray, List.set_cons_zero, List.set_cons_succ]
    refine wpAnyH_ready (rs := [9]) (by kernel_rfl) (by simp) ?_
    refine AllReadyH.cons (o := ⟨some 65, _, _, _, _, _⟩) rfl (fun K hK => ?_) AllReadyH.nil
    go_simp
    refine (onward_walk (p := p) (f := z.f) (l := on) ⟨_, _, _, rfl⟩ (HZL.out.f.below (below_trans HBb.out (below_drewN wb 1))) (HONb.out.below (below_drewN wb 1)) HZOK.out.fm HZOK.out.fl HBB.out.1 HBB.out.2).mono ?_
    rintro e w9 ⟨v9, rfl, ho9, hB9⟩
    obtain ⟨lo, hlo⟩ : ∃ lo, lo = onw p.B z.f on := ⟨_, rfl⟩
    have HLO : Hid (lo.length = z.f.length ∧ ∀ v ∈ lo, 0 ≤ v ∧ v ≤ 256) := ⟨by rw [hlo, onw_len], by rw [hlo]; exact onw_m HBB.out.1 HZOK.out.fm⟩
    rw [← hlo] at ho9
    obtain ⟨a9, c9, rfl, _, _⟩ := own_formY ho9
    have hb9 : Below wb.heap.size wb w9 := below_trans (below_drewN wb 1) hB9
    have HO9 : Hid (OwN wb.heap.size w9 (.slice a9 lo.length c9) lo) := own_base ho9 (below_drewN wb 1).size
    have HB9 : Hid (Below wb.heap.size wb w9) := hb9
    clear ho9 hB9 hb9 hlo
    refine hK.out _ _ ?_ (fun hHeld => ?_)
    · exact (Ch.of_below HB9.out)
    clear hK K
    try simp only [Act.put, List.setIfInBounds_toArray, List.set_cons_zero, List.set_cons_succ]
    refine wpAnyH_ready (rs := [10]) (by kernel_rfl) (by simp) ?_
    refine AllReadyH.cons (o := ⟨some 66, _, _, _, _, _⟩) rfl (fun K hK => ?_) AllReadyH.nil
    go_simp
    refine (about19_walk (x := ⟨z, .slice fb z.f.length fd, .slice eb z.e.length ed⟩) (k := 2) (ev := .slice a9 lo.length c9) (l := lo) (HZL.out.below (below_trans HBb.out HB9.out)) (own_nv HO9.out (in64_of HLO.out.2))).mono ?_
    rintro e w10 ⟨rfl, hB10⟩
    have hb10 : Below wb.heap.size wb w10 := below_trans HB9.out hB10
    have HB10 : Hid (Below wb.heap.size wb w10) := hb10
    have HO10 : Hid (OwN wb.heap.size w10 (.slice a9 lo.length c9) lo) := own_below HO9.out hB10
    have hM10 := blk_below HMBb.out hb10
    have z0 : w10.cell? ⟨MB, 0, none⟩ = some (.int .i64 8) := by rw [blk_cell hM10]; rfl
    have y0 : w10.frozen? ⟨MB, 0, none⟩ = false := blk_soft hM10 0
    have z1 : w10.cell? ⟨MB, 1, none⟩ = some (.int .i64 y.n) := by rw [blk_cell hM10]; rfl
    have y1 : w10.frozen? ⟨MB, 1, none⟩ = false := blk_soft hM10 1
    have z2 : w10.cell? ⟨MB, 2, none⟩ = some (.int .i64 0) := by rw [blk_cell hM10]; rfl
    have y2 : w10.frozen? ⟨MB, 2, none⟩ = false := blk_soft hM10 2
    have z3 : w10.cell? ⟨MB, 3, none⟩ = some (.int .i64 y.b) := by rw [blk_cell hM10]; rfl
    have y3 : w10.frozen? ⟨MB, 3, none⟩ = false := blk_soft hM10 3
    have z4 : w10.cell? ⟨MB, 4, none⟩ = some (.int .i64 y.a) := by rw [blk_cell hM10]; rfl
    have y4 : w10.frozen? ⟨MB, 4, none⟩ = false := blk_soft hM10 4
    have z5 : w10.cell? ⟨MB, 5, none⟩ = some (.int .i64 0) := by rw [blk_cell hM10]; rfl
    have y5 : w10.frozen? ⟨MB, 5, none⟩ = false := blk_soft hM10 5
    have z6 : w10.cell? ⟨MB, 6, none⟩ = some (.slice ea y.e.length ec) := by rw [blk_cell hM10]; rfl
    have y6 : w10.frozen? ⟨MB, 6, none⟩ = false := blk_soft hM10 6
    have z7 : w10.cell? ⟨MB, 7, none⟩ = some (.slice none 0 0) := by rw [blk_cell hM10]; rfl
    have y7 : w10.frozen? ⟨MB, 7, none⟩ = false := blk_soft hM10 7
    have z8 : w10.cell? ⟨MB, 8, none⟩ = some (.slice none 0 0) := by rw [blk_cell hM10]; rfl
    have y8 : w10.frozen? ⟨MB, 8, none⟩ = false := blk_soft hM10 8
    clear hB10 hM10 hb10
    refine hK.out _ _ ?_ (fun hHeld => ?_)
    · exact (Ch.of_below HB10.out)
    clear hK K
    refine wpAnyH_ready (rs := [11]) (by kernel_rfl) (by simp) ?_
    refine AllReadyH.cons (o := ⟨none, _, _, _, _, _⟩) rfl (fun K hK => ?_) AllReadyH.nil
    go_simp
    refine hK.out _ _ ?_ (fun hHeld => ?_)
    · exact ((Ch.of_below HB10.out).self (ch_setM w10 MB (⟨2, z.n, 0, z.b, z.a, 0, lo, [], []⟩ : Ms) (.slice a9 lo.length c9) (.slice none 0 0) (.slice none 0 0)))
    clear hK K
    try simp only [Act.put, List.setIfInBounds_toArray, List.set_cons_zero, List.set_cons_succ]
    refine wpAnyH_done (by kernel_rfl) ?_ _
    refine NoPanic.normal ?_
    clear tb0 tb1 tb2 tb3 tb4 tb5 tb6 pw0 pw1 pw2 pw3 pw4 pw5 pw6 pw7 ac2 hTBn z0 z1 z2 z3 z4 z5 z6 z7 z8 y0 y1 y2 y3 y4 y5 y6 y7 y8
    obtain ⟨wm, hwm⟩ : ∃ wm, wm = setM w10 MB (⟨2, z.n, 0, z.b, z.a, 0, lo, [], []⟩ : Ms) (.slice a9 lo.length c9) (.slice none 0 0) (.slice none 0 0) := ⟨_, rfl⟩
    have HBm1 : Hid (Below w1.heap.size w1 wm) := by show Below _ _ _; rw [hwm]; exact setM_bel _ _ _ _ (below_trans HBb.out HB10.out) HMBl.out
    have HBm : Hid (Below w.heap.size w wm) := HB01.out.trans (HBm1.out.mono HB01.out.size)
    have HMB : Hid (wm.heap[MB]? = some (.cells #[.int .i64 ((⟨2, z.n, 0, z.b, z.a, 0, lo, [], []⟩ : Ms)).K, .int .i64 ((⟨2, z.n, 0, z.b, z.a, 0, lo, [], []⟩ : Ms)).F, .int .i64 ((⟨2, z.n, 0, z.b, z.a, 0, lo, [], []⟩ : Ms)).T, .int .i64 ((⟨2, z.n, 0, z.b, z.a, 0, lo, [], []⟩ : Ms)).B, .int .i64 ((⟨2, z.n, 0, z.b, z.a, 0, lo, [], []⟩ : Ms)).A, .int .i64 ((⟨2, z.n, 0, z.b, z.a, 0, lo, [], []⟩ : Ms)).C, .slice a9 lo.length c9, .slice none 0 0, .slice none 0 0] 50 (0, 0))) := by show _ = _; rw [hwm]; exact setM_row (blk_below HMBb.out HB10.out)
    have HEV : Hid (OwN w.heap.size wm (.slice a9 lo.length c9) ((⟨2, z.n, 0, z.b, z.a, 0, lo, [], []⟩ : Ms)).E) := by
      have h1 : OwN wb.heap.size wm (.slice a9 lo.length c9) lo := by
        rw [hwm]
        exact row_keep HO10.out fun b hb => (ch_setM w10 MB (⟨2, z.n, 0, z.b, z.a, 0, lo, [], []⟩ : Ms) (.slice a9 lo.length c9) (.slice none 0 0) (.slice none 0 0)).block b (HO10.out.lt b hb).2 (fun e => by have h1 := (HO10.out.lt b hb).1; have h2 := blk_lt HMBb.out; omega)
      exact own_base h1 HBwb.out.size
    have HEB : Hid (∀ v ∈ ((⟨2, z.n, 0, z.b, z.a, 0, lo, [], []⟩ : Ms)).E, 0 ≤ v ∧ v ≤ 256) := HLO.out.2
    have HMK : Hid (Mok (⟨2, z.n, 0, z.b, z.a, 0, lo, [], []⟩ : Ms)) := HMK0.out z HZM.out lo ⟨by rw [HLO.out.1]; exact HFL.out z HZM.out, by rw [HLO.out.1]; exact HZOK.out.fl⟩ HLO.out.2
    have hel : ¬ lo.length = 0 := by have h1 := HFL.out z HZM.out; have h2 := HLO.out.1; omega
    have he0 : ¬ lo = [] := fun e => hel (by rw [e]; rfl)
    have mb6 : wm.cell? ⟨MB, 6, none⟩ = some (.slice a9 lo.length c9) := by rw [blk_cell HMB.out]; rfl
    unfold setM at hwm
    dsimp only at hwm
    rw [← hwm]
    clear hwm
    have HSm : Hid (Sn A wm (.slice va V.length vc) V) := HS.out.keep (fun b hb => HBm.out.block b (HAL.out b hb))
    have hWm : wm.heap[WB]? = some (.cells (wC p (.slice oa p.l.length oc) sb cb (.slice va V.length vc)) 31 (0, 0)) := blk_below HWBw.out HBm.out
    have c10 : wm.cell? ⟨WB, 10, none⟩ = some (.slice va V.length vc) := by rw [blk_cell hWm]; rfl
    have hWml : WB < wm.heap.size := blk_lt hWm
    have hWmn : ¬ WB = wm.heap.size := by omega
    have HMBW : Hid (w.heap.size ≤ MB) := Nat.le_trans HB01.out.size HMBl.out
    have mb0 : ∀ wx : World, wx.heap[MB]? = some (.cells #[.int .i64 ((⟨2, z.n, 0, z.b, z.a, 0, lo, [], []⟩ : Ms)).K, .int .i64 ((⟨2, z.n, 0, z.b, z.a, 0, lo, [], []⟩ : Ms)).F, .int .i64 ((⟨2, z.n, 0, z.b, z.a, 0, lo, [], []⟩ : Ms)).T, .int .i64 ((⟨2, z.n, 0, z.b, z.a, 0, lo, [], []⟩ : Ms)).B, .int .i64 ((⟨2, z.n, 0, z.b, z.a, 0, lo, [], []⟩ : Ms)).A, .int .i64 ((⟨2, z.n, 0, z.b, z.a, 0, lo, [], []⟩ : Ms)).C, .slice a9 lo.length c9, .slice none 0 0, .slice none 0 0] 50 (0, 0)) → wx.cell? ⟨MB, 0, none⟩ = some (.int .i64 (⟨2, z.n, 0, z.b, z.a, 0, lo, [], []⟩ : Ms).K) := fun wx h => by rw [blk_cell h]; rfl
    have mb1 : ∀ wx : World, wx.heap[MB]? = some (.cells #[.int .i64 ((⟨2, z.n, 0, z.b, z.a, 0, lo, [], []⟩ : Ms)).K, .int .i64 ((⟨2, z.n, 0, z.b, z.a, 0, lo, [], []⟩ : Ms)).F, .int .i64 ((⟨2, z.n, 0, z.b, z.a, 0, lo, [], []⟩ : Ms)).T, .int .i64 ((⟨2, z.n, 0, z.b, z.a, 0, lo, [], []⟩ : Ms)).B, .int .i64 ((⟨2, z.n, 0, z.b, z.a, 0, lo, [], []⟩ : Ms)).A, .int .i64 ((⟨2, z.n, 0, z.b, z.a, 0, lo, [], []⟩ : Ms)).C, .slice a9 lo.length c9, .slice none 0 0, .slice none 0 0] 50 (0, 0)) → wx.cell? ⟨MB, 1, none⟩ = some (.int .i64 (⟨2, z.n, 0, z.b, z.a, 0, lo, [], []⟩ : Ms).F) := fun wx h => by rw [blk_cell h]; rfl
    have mb2 : ∀ wx : World, wx.heap[MB]? = some (.cells #[.int .i64 ((⟨2, z.n, 0, z.b, z.a, 0, lo, [], []⟩ : Ms)).K, .int .i64 ((⟨2, z.n, 0, z.b, z.a, 0, lo, [], []⟩ : Ms)).F, .int .i64 ((⟨2, z.n, 0, z.b, z.a, 0, lo, [], []⟩ : Ms)).T, .int .i64 ((⟨2, z.n, 0, z.b, z.a, 0, lo, [], []⟩ : Ms)).B, .int .i64 ((⟨2, z.n, 0, z.b, z.a, 0, lo, [], []⟩ : Ms)).A, .int .i64 ((⟨2, z.n, 0, z.b, z.a, 0, lo, [], []⟩ : Ms)).C, .slice a9 lo.length c9, .slice none 0 0, .slice none 0 0] 50 (0, 0)) → wx.cell? ⟨MB, 2, none⟩ = some (.int .i64 (⟨2, z.n, 0, z.b, z.a, 0, lo, [], []⟩ : Ms).T) := fun wx h => by rw [blk_cell h]; rfl
    have mb3 : ∀ wx : World, wx.heap[MB]? = some (.cells #[.int .i64 ((⟨2, z.n, 0, z.b, z.a, 0, lo, [], []⟩ : Ms)).K, .int .i64 ((⟨2, z.n, 0, z.b, z.a, 0, lo, [], []⟩ : Ms)).F, .int .i64 ((⟨2, z.n, 0, z.b, z.a, 0, lo, [], []⟩ : Ms)).T, .int .i64 ((⟨2, z.n, 0, z.b, z.a, 0, lo, [], []⟩ : Ms)).B, .int .i64 ((⟨2, z.n, 0, z.b, z.a, 0, lo, [], []⟩ : Ms)).A, .int .i64 ((⟨2, z.n, 0, z.b, z.a, 0, lo, [], []⟩ : Ms)).C, .slice a9 lo.length c9, .slice none 0 0, .slice none 0 0] 50 (0, 0)) → wx.cell? ⟨MB, 3, none⟩ = some (.int .i64 (⟨2, z.n, 0, z.b, z.a, 0, lo, [], []⟩ : Ms).B) := fun wx h => by rw [blk_cell h]; rfl
    have mb4 : ∀ wx : World, wx.heap[MB]? = some (.cells #[.int .i64 ((⟨2, z.n, 0, z.b, z.a, 0, lo, [], []⟩ : Ms)).K, .int .i64 ((⟨2, z.n, 0, z.b, z.a, 0, lo, [], []⟩ : Ms)).F, .int .i64 ((⟨2, z.n, 0, z.b, z.a, 0, lo, [], []⟩ : Ms)).T, .int .i64 ((⟨2, z.n, 0, z.b, z.a, 0, lo, [], []⟩ : Ms)).B, .int .i64 ((⟨2, z.n, 0, z.b, z.a, 0, lo, [], []⟩ : Ms)).A, .int .i64 ((⟨2, z.n, 0, z.b, z.a, 0, lo, [], []⟩ : Ms)).C, .slice a9 lo.length c9, .slice none 0 0, .slice none 0 0] 50 (0, 0)) → wx.cell? ⟨MB, 4, none⟩ = some (.int .i64 (⟨2, z.n, 0, z.b, z.a, 0, lo, [], []⟩ : Ms).A) := fun wx h => by rw [blk_cell h]; rfl
    have mb5 : ∀ wx : World, wx.heap[MB]? = some (.cells #[.int .i64 ((⟨2, z.n, 0, z.b, z.a, 0, lo, [], []⟩ : Ms)).K, .int .i64 ((⟨2, z.n, 0, z.b, z.a, 0, lo, [], []⟩ : Ms)).F, .int .i64 ((⟨2, z.n, 0, z.b, z.a, 0, lo, [], []⟩ : Ms)).T, .int .i64 ((⟨2, z.n, 0, z.b, z.a, 0, lo, [], []⟩ : Ms)).B, .int .i64 ((⟨2, z.n, 0, z.b, z.a, 0, lo, [], []⟩ : Ms)).A, .int .i64 ((⟨2, z.n, 0, z.b, z.a, 0, lo, [], []⟩ : Ms)).C, .slice a9 lo.length c9, .slice none 0 0, .slice none 0 0] 50 (0, 0)) → wx.cell? ⟨MB, 5, none⟩ = some (.int .i64 (⟨2, z.n, 0, z.b, z.a, 0, lo, [], []⟩ : Ms).C) := fun wx h => by rw [blk_cell h]; rfl
    have mb6 : ∀ wx : World, wx.heap[MB]? = some (.cells #[.int .i64 ((⟨2, z.n, 0, z.b, z.a, 0, lo, [], []⟩ : Ms)).K, .int .i64 ((⟨2, z.n, 0, z.b, z.a, 0, lo, [], []⟩ : Ms)).F, .int .i64 ((⟨2, z.n, 0, z.b, z.a, 0, lo, [], []⟩ : Ms)).T, .int .i64 ((⟨2, z.n, 0, z.b, z.a, 0, lo, [], []⟩ : Ms)).B, .int .i64 ((⟨2, z.n, 0, z.b, z.a, 0, lo, [], []⟩ : Ms)).A, .int .i64 ((⟨2, z.n, 0, z.b, z.a, 0, lo, [], []⟩ : Ms)).C, .slice a9 lo.length c9, .slice none 0 0, .slice none 0 0] 50 (0, 0)) → wx.cell? ⟨MB, 6, none⟩ = some (.slice a9 lo.length c9) := fun wx h => by rw [blk_cell h]; rfl
    have mb7 : ∀ wx : World, wx.heap[MB]? = some (.cells #[.int .i64 ((⟨2, z.n, 0, z.b, z.a, 0, lo, [], []⟩ : Ms)).K, .int .i64 ((⟨2, z.n, 0, z.b, z.a, 0, lo, [], []⟩ : Ms)).F, .int .i64 ((⟨2, z.n, 0, z.b, z.a, 0, lo, [], []⟩ : Ms)).T, .int .i64 ((⟨2, z.n, 0, z.b, z.a, 0, lo, [], []⟩ : Ms)).B, .int .i64 ((⟨2, z.n, 0, z.b, z.a, 0, lo, [], []⟩ : Ms)).A, .int .i64 ((⟨2, z.n, 0, z.b, z.a, 0, lo, [], []⟩ : Ms)).C, .slice a9 lo.length c9, .slice none 0 0, .slice none 0 0] 50 (0, 0)) → wx.cell? ⟨MB, 7, none⟩ = some (.slice none 0 0) := fun wx h => by rw [blk_cell h]; rfl
    have mb8 : ∀ wx : World, wx.heap[MB]? = some (.cells #[.int .i64 ((⟨2, z.n, 0, z.b, z.a, 0, lo, [], []⟩ : Ms)).K, .int .i64 ((⟨2, z.n, 0, z.b, z.a, 0, lo, [], []⟩ : Ms)).F, .int .i64 ((⟨2, z.n, 0, z.b, z.a, 0, lo, [], []⟩ : Ms)).T, .int .i64 ((⟨2, z.n, 0, z.b, z.a, 0, lo, [], []⟩ : Ms)).B, .int .i64 ((⟨2, z.n, 0, z.b, z.a, 0, lo, [], []⟩ : Ms)).A, .int .i64 ((⟨2, z.n, 0, z.b, z.a, 0, lo, [], []⟩ : Ms)).C, .slice a9 lo.length c9, .slice none 0 0, .slice none 0 0] 50 (0, 0)) → wx.cell? ⟨MB, 8, none⟩ = some (.slice none 0 0) := fun wx h => by rw [blk_cell h]; rfl
    clear hWm
    go_upto_region 17 with fail
    go_cut [9] (fun mv wx => mv = .pointer (some ⟨MB, 0, none⟩) ∧ ∃ (a5 : Option Addr) (cp5 : Nat), ChA wz Z w wx ∧ CW wz (fun x => Z x ∨ (A x ∨ (w.heap.size ≤ x ∧ x < wx.heap.size))) sb cb c wx ∧ Sn (fun x => A x ∨ (w.heap.size ≤ x ∧ x < wx.heap.size)) wx (.slice a5 (V.length + 1) cp5) (V ++ [(⟨(⟨2, z.n, 0, z.b, z.a, 0, lo, [], []⟩ : Ms), .slice a9 lo.length c9, .slice none 0 0, .slice none 0 0⟩ : Tq)]) ∧ wx.heap[WB]? = some (.cells (wC p (.slice oa p.l.length oc) sb cb (.slice a5 (V.length + 1) cp5)) 31 (0, 0)) ∧ wx.heap[MB]? = some (.cells #[.int .i64 ((⟨2, z.n, 0, z.b, z.a, 0, lo, [], []⟩ : Ms)).K, .int .i64 ((⟨2, z.n, 0, z.b, z.a, 0, lo, [], []⟩ : Ms)).F, .int .i64 ((⟨2, z.n, 0, z.b, z.a, 0, lo, [], []⟩ : Ms)).T, .int .i64 ((⟨2, z.n, 0, z.b, z.a, 0, lo, [], []⟩ : Ms)).B, .int .i64 ((⟨2, z.n, 0, z.b, z.a, 0, lo, [], []⟩ : Ms)).A, .int .i64 ((⟨2, z.n, 0, z.b, z.a, 0, lo, [], []⟩ : Ms)).C, .slice a9 lo.length c9, .slice none 0 0, .slice none 0 0] 50 (0, 0)))
    case first =>
      refine wp_region_noPanic ?_
      refine wp_region_held_drew (S := (fun wx : World => wx.heap[MB]? = some (.cells #[.int .i64 ((⟨2, z.n, 0, z.b, z.a, 0, lo, [], []⟩ : Ms)).K, .int .i64 ((⟨2, z.n, 0, z.b, z.a, 0, lo, [], []⟩ : Ms)).F, .int .i64 ((⟨2, z.n, 0, z.b, z.a, 0, lo, [], []⟩ : Ms)).T, .int .i64 ((⟨2, z.n, 0, z.b, z.a, 0, lo, [], []⟩ : Ms)).B, .int .i64 ((⟨2, z.n, 0, z.b, z.a, 0, lo, [], []⟩ : Ms)).A, .int .i64 ((⟨2, z.n, 0, z.b, z.a, 0, lo, [], []⟩ : Ms)).C, .slice a9 lo.length c9, .slice none 0 0, .slice none 0 0] 50 (0, 0)))) (by kernel_rfl) ?_ (fun hHeld => ?_)
      · exact (blk_below HMB.out (below_drewN wm 1))
      refine wpAnyH_take (i := 0) (oi := ⟨some 71, _, _, _, _, _⟩) (v := ?_) rfl (by kernel_rfl) (by kernel_rfl) (by kernel_rfl) (fun _ _ _ h => h) (Or.inl ⟨by rfl, ?_⟩) hHeld ?_
      rotate_left
      · intro w hSw; (try dsimp only at hSw); go_simp; all_goals (with_reducible rfl)
      try simp only [Act.put, List.setIfInBounds_toArray, List.set_cons_zero, List.set_cons_succ]
      refine wpAnyH_take (i := 1) (oi := ⟨some 72, _, _, _, _, _⟩) (v := ?_) rfl (by kernel_rfl) (by kernel_rfl) (by kernel_rfl) (fun _ _ _ h => h) (Or.inl ⟨by rfl, ?_⟩) hHeld ?_
      rotate_left
      · intro w hSw; (try dsimp only at hSw); go_simp; all_goals (with_reducible rfl)
      try simp only [Act.put, List.setIfInBounds_toArray, List.set_cons_zero, List.set_cons_succ]
      refine wpAnyH_take (i := 2) (oi := ⟨some 73, _, _, _, _, _⟩) (v := ?_) rfl (by kernel_rfl) (by kernel_rfl) (by kernel_rfl) (fun _ _ _ h => h) (Or.inl ⟨by rfl, ?_⟩) hHeld ?_
      rotate_left
      · intro w hSw; (try dsimp only at hSw); go_simp; all_goals (with_reducible rfl)
      try simp only [Act.put, List.setIfInBounds_toArray, List.set_cons_zero, List.set_cons_succ]
      refine wpAnyH_take (i := 3) (oi := ⟨some 74, _, _, _, _, _⟩) (v := ?_) rfl (by kernel_rfl) (by kernel_rfl) (by kernel_rfl) (fun _ _ _ h => h) (Or.inl ⟨by rfl, ?_⟩) hHeld ?_
      rotate_left
      · intro w hSw; (try dsimp only at hSw); go_simp; all_goals (with_reducible rfl)
      try simp only [Act.put, List.setIfInBounds_toArray, List.set_cons_zero, List.set_cons_succ]
      refine wpAnyH_take (i := 5) (oi := ⟨some 76, _, _, _, _, _⟩) (v := ?_) rfl (by kernel_rfl) (by kernel_rfl) (by kernel_rfl) (fun _ _ _ h => h) (Or.inl ⟨by rfl, ?_⟩) hHeld ?_
      rotate_left
      · intro w hSw; (try dsimp only at hSw); go_simp; all_goals (with_reducible rfl)
      try simp only [Act.put, List.setIfInBounds_toArray, List.set_cons_zero, List.set_cons_succ]
      refine wpAnyH_ready (rs := [4, 6]) (by kernel_rfl) (by simp) ?_
      refine AllReadyH.cons (o := ⟨some 75, _, _, _, _, _⟩) rfl (fun K hK => ?_) (AllReadyH.cons (o := ⟨some 77, _, _, _, _, _⟩) rfl (fun K hK => ?_) AllReadyH.nil)
      · go_simp
        refine hK.out _ _ ?_ (fun hHeld => ?_)
        · exact hHeld
        clear hK K
        try simp only [Act.put, List.setIfInBounds_toArray, List.set_cons_zero, List.set_cons_succ]
        refine wpAnyH_ready (rs := [6]) (by kernel_rfl) (by simp) ?_
        refine AllReadyH.cons (o := ⟨some 77, _, _, _, _, _⟩) rfl (fun K hK => ?_) AllReadyH.nil
        go_simp
        refine hK.out _ _ ?_ (fun hHeld => ?_)
        · exact (alloc_old hHeld)
        clear hK K
        try simp only [Act.put, List.setIfInBounds_toArray, List.set_cons_zero, List.set_cons_succ]
        refine wpAnyH_ready (rs := [7]) (by kernel_rfl) (by simp) ?_
        refine AllReadyH.cons (o := ⟨some 78, _, _, _, _, _⟩) rfl (fun K hK => ?_) AllReadyH.nil
        refine step_app_ms rfl (.tmp 75) (.tmp 77) rfl (base := 0) (.slice va V.length vc) V.length (flatT V) (by simp [Act.eval]) (own_below HSm.out.row (below_trans (below_drewN wm 1) (below_alloc _ _))) wm.heap.size (⟨(⟨2, z.n, 0, z.b, z.a, 0, lo, [], []⟩ : Ms), .slice a9 lo.length c9, .slice none 0 0, .slice none 0 0⟩ : Tq) (by simp [Act.eval]) (@cells_litT wm.drew (⟨(⟨2, z.n, 0, z.b, z.a, 0, lo, [], []⟩ : Ms), .slice a9 lo.length c9, .slice none 0 0, .slice none 0 0⟩ : Tq) 50) ?_ (by omega) (Nat.zero_le _) ?_
        · intro u hu; unfold cellsT at hu; simp only [List.mem_cons, List.not_mem_nil, or_false] at hu; rcases hu with rfl | rfl | rfl | rfl | rfl | rfl | rfl | rfl | rfl <;> rfl
        intro v5 w5 hr5 hg5 hat5
        obtain ⟨a5, cp5, rfl, _, _⟩ := own_formY hr5
        have HR5 := hidH hr5
        have HG5 := hidH hg5
        have HAT5 := hidH hat5
        have hb4 : Below w.heap.size w (wm.drew.alloc (Obj.cells #[.int .i64 ((⟨2, z.n, 0, z.b, z.a, 0, lo, [], []⟩ : Ms)).K, .int .i64 ((⟨2, z.n, 0, z.b, z.a, 0, lo, [], []⟩ : Ms)).F, .int .i64 ((⟨2, z.n, 0, z.b, z.a, 0, lo, [], []⟩ : Ms)).T, .int .i64 ((⟨2, z.n, 0, z.b, z.a, 0, lo, [], []⟩ : Ms)).B, .int .i64 ((⟨2, z.n, 0, z.b, z.a, 0, lo, [], []⟩ : Ms)).A, .int .i64 ((⟨2, z.n, 0, z.b, z.a, 0, lo, [], []⟩ : Ms)).C, .slice a9 lo.length c9, .slice none 0 0, .slice none 0 0] 50)) := HBm.out.trans ((below_trans (below_drewN wm 1) (below_alloc _ _)).mono HBm.out.size)
        have HB4 := hidH hb4
        have hW5 : w5.heap[WB]? = some (.cells (wC p (.slice oa p.l.length oc) sb cb (.slice va V.length vc)) 31 (0, 0)) := by rw [hg5.block WB (Nat.lt_of_lt_of_le (blk_lt HWBw.out) hb4.size) (fun e => row_not HS.out.row HWBw.out (by decide) WB e.symm rfl)]; exact blk_below HWBw.out hb4
        have v10 : w5.cell? ⟨WB, 10, none⟩ = some (.slice va V.length vc) := by rw [blk_cell hW5]; rfl
        have y10 : w5.frozen? ⟨WB, 10, none⟩ = false := blk_soft hW5 10
        have HMB5 : Hid (w5.heap[MB]? = some (.cells #[.int .i64 ((⟨2, z.n, 0, z.b, z.a, 0, lo, [], []⟩ : Ms)).K, .int .i64 ((⟨2, z.n, 0, z.b, z.a, 0, lo, [], []⟩ : Ms)).F, .int .i64 ((⟨2, z.n, 0, z.b, z.a, 0, lo, [], []⟩ : Ms)).T, .int .i64 ((⟨2, z.n, 0, z.b, z.a, 0, lo, [], []⟩ : Ms)).B, .int .i64 ((⟨2, z.n, 0, z.b, z.a, 0, lo, [], []⟩ : Ms)).A, .int .i64 ((⟨2, z.n, 0, z.b, z.a, 0, lo, [], []⟩ : Ms)).C, .slice a9 lo.length c9, .slice none 0 0, .slice none 0 0] 50 (0, 0))) := by
            show _ = _
            rw [hg5.block MB (by have := blk_lt HMB.out; simp; omega) (fun e => by have h1 := HAL.out MB (HS.out.kr MB e.symm); have h2 := HMBW.out; omega)]
            exact alloc_old HMB.out
        clear hr5 hg5 hat5 hW5 hb4
        refine hK.out _ _ ?_ (fun hHeld => ?_)
        · exact HMB5.out
        clear hK K
        try simp only [Act.put, List.setIfInBounds_toArray, List.set_cons_zero, List.set_cons_succ]
        refine wpAnyH_take (i := 8) (oi := ⟨some 79, _, _, _, _, _⟩) (v := ?_) rfl (by kernel_rfl) (by kernel_rfl) (by kernel_rfl) (fun _ _ _ h => h) (Or.inl ⟨by rfl, ?_⟩) hHeld ?_
        rotate_left
        · intro w hSw; (try dsimp only at hSw); go_simp; all_goals (with_reducible rfl)
        try simp only [Act.put, List.setIfInBounds_toArray, List.set_cons_zero, List.set_cons_succ]
        refine wpAnyH_take (i := 9) (oi := ⟨some 80, _, _, _, _, _⟩) (v := ?_) rfl (by kernel_rfl) (by kernel_rfl) (by kernel_rfl) (fun _ _ _ h => h) (Or.inl ⟨by rfl, ?_⟩) hHeld ?_
        rotate_left
        · intro w hSw; (try dsimp only at hSw); go_simp; all_goals (with_reducible rfl)
        try simp only [Act.put, List.setIfInBounds_toArray, List.set_cons_zero, List.set_cons_succ]
        refine wpAnyH_ready (rs := [10]) (by kernel_rfl) (by simp) ?_
        refine AllReadyH.cons (o := ⟨none, _, _, _, _, _⟩) rfl (fun K hK => ?_) AllReadyH.nil
        go_simp
        refine hK.out _ _ ?_ (fun hHeld => ?_)
        · exact (by rw [set_other _ _ (show MB ≠ WB by have h1 := blk_lt HWBw.out; have h2 := HMBW.out; omega)]; exact HMB5.out)
        clear hK K
        try simp only [Act.put, List.setIfInBounds_toArray, List.set_cons_zero, List.set_cons_succ]
        refine wpAnyH_done (by kernel_rfl) ?_ _
        refine NoPanic.normal ?_
        go_wp2_with fail
        go_meet
        obtain ⟨s1, s2, s3, s4⟩ := sent_more (m := (⟨2, z.n, 0, z.b, z.a, 0, lo, [], []⟩ : Ms)) (ev := .slice a9 lo.length c9) (p := p) (ov := .slice oa p.l.length oc) HAW.out HA.out HC.out HS.out HWBw.out HB4.out HG5.out HAT5.out HR5.out (own_below HEV.out (below_trans (below_drewN wm 1) (below_alloc _ _))) HMK.out rfl
        exact ⟨rfl, a5, cp5, s1, s2, s3, s4, by rw [set_other _ _ (show MB ≠ WB by have h1 := blk_lt HWBw.out; have h2 := HMBW.out; omega)]; exact HMB5.out⟩
      · go_simp
        refine hK.out _ _ ?_ (fun hHeld => ?_)
        · exact (alloc_old hHeld)
        clear hK K
        try simp only [Act.put, List.setIfInBounds_toArray, List.set_cons_zero, List.set_cons_succ]
        refine wpAnyH_ready (rs := [4]) (by kernel_rfl) (by simp) ?_
        refine AllReadyH.cons (o := ⟨some 75, _, _, _, _, _⟩) rfl (fun K hK => ?_) AllReadyH.nil
        go_simp
        refine hK.out _ _ ?_ (fun hHeld => ?_)
        · exact hHeld
        clear hK K
        try simp only [Act.put, List.setIfInBounds_toArray, List.set_cons_zero, List.set_cons_succ]
        refine wpAnyH_ready (rs := [7]) (by kernel_rfl) (by simp) ?_
        refine AllReadyH.cons (o := ⟨some 78, _, _, _, _, _⟩) rfl (fun K hK => ?_) AllReadyH.nil
        refine step_app_ms rfl (.tmp 75) (.tmp 77) rfl (base := 0) (.slice va V.length vc) V.length (flatT V) (by simp [Act.eval]) (own_below HSm.out.row (below_trans (below_drewN wm 1) (below_alloc _ _))) wm.heap.size (⟨(⟨2, z.n, 0, z.b, z.a, 0, lo, [], []⟩ : Ms), .slice a9 lo.length c9, .slice none 0 0, .slice none 0 0⟩ : Tq) (by simp [Act.eval]) (@cells_litT wm.drew (⟨(⟨2, z.n, 0, z.b, z.a, 0, lo, [], []⟩ : Ms), .slice a9 lo.length c9, .slice none 0 0, .slice none 0 0⟩ : Tq) 50) ?_ (by omega) (Nat.zero_le _) ?_
        · intro u hu; unfold cellsT at hu; simp only [List.mem_cons, List.not_mem_nil, or_false] at hu; rcases hu with rfl | rfl | rfl | rfl | rfl | rfl | rfl | rfl | rfl <;> rfl
        intro v5 w5 hr5 hg5 hat5
        obtain ⟨a5, cp5, rfl, _, _⟩ := own_formY hr5
        have HR5 := hidH hr5
        have HG5 := hidH hg5
        have HAT5 := hidH hat5
        have hb4 : Below w.heap.size w (wm.drew.alloc (Obj.cells #[.int .i64 ((⟨2, z.n, 0, z.b, z.a, 0, lo, [], []⟩ : Ms)).K, .int .i64 ((⟨2, z.n, 0, z.b, z.a, 0, lo, [], []⟩ : Ms)).F, .int .i64 ((⟨2, z.n, 0, z.b, z.a, 0, lo, [], []⟩ : Ms)).T, .int .i64 ((⟨2, z.n, 0, z.b, z.a, 0, lo, [], []⟩ : Ms)).B, .int .i64 ((⟨2, z.n, 0, z.b, z.a, 0, lo, [], []⟩ : Ms)).A, .int .i64 ((⟨2, z.n, 0, z.b, z.a, 0, lo, [], []⟩ : Ms)).C, .slice a9 lo.length c9, .slice none 0 0, .slice none 0 0] 50)) := HBm.out.trans ((below_trans (below_drewN wm 1) (below_alloc _ _)).mono HBm.out.size)
        have HB4 := hidH hb4
        have hW5 : w5.heap[WB]? = some (.cells (wC p (.slice oa p.l.length oc) sb cb (.slice va V.length vc)) 31 (0, 0)) := by rw [hg5.block WB (Nat.lt_of_lt_of_le (blk_lt HWBw.out) hb4.size) (fun e => row_not HS.out.row HWBw.out (by decide) WB e.symm rfl)]; exact blk_below HWBw.out hb4
        have v10 : w5.cell? ⟨WB, 10, none⟩ = some (.slice va V.length vc) := by rw [blk_cell hW5]; rfl
        have y10 : w5.frozen? ⟨WB, 10, none⟩ = false := blk_soft hW5 10
        have HMB5 : Hid (w5.heap[MB]? = some (.cells #[.int .i64 ((⟨2, z.n, 0, z.b, z.a, 0, lo, [], []⟩ : Ms)).K, .int .i64 ((⟨2, z.n, 0, z.b, z.a, 0, lo, [], []⟩ : Ms)).F, .int .i64 ((⟨2, z.n, 0, z.b, z.a, 0, lo, [], []⟩ : Ms)).T, .int .i64 ((⟨2, z.n, 0, z.b, z.a, 0, lo, [], []⟩ : Ms)).B, .int .i64 ((⟨2, z.n, 0, z.b, z.a, 0, lo, [], []⟩ : Ms)).A, .int .i64 ((⟨2, z.n, 0, z.b, z.a, 0, lo, [], []⟩ : Ms)).C, .slice a9 lo.length c9, .slice none 0 0, .slice none 0 0] 50 (0, 0))) := by
            show _ = _
            rw [hg5.block MB (by have := blk_lt HMB.out; simp; omega) (fun e => by have h1 := HAL.out MB (HS.out.kr MB e.symm); have h2 := HMBW.out; omega)]
            exact alloc_old HMB.out
        clear hr5 hg5 hat5 hW5 hb4
        refine hK.out _ _ ?_ (fun hHeld => ?_)
        · exact HMB5.out
        clear hK K
        try simp only [Act.put, List.setIfInBounds_toArray, List.set_cons_zero, List.set_cons_succ]
        refine wpAnyH_take (i := 8) (oi := ⟨some 79, _, _, _, _, _⟩) (v := ?_) rfl (by kernel_rfl) (by kernel_rfl) (by kernel_rfl) (fun _ _ _ h => h) (Or.inl ⟨by rfl, ?_⟩) hHeld ?_
        rotate_left
        · intro w hSw; (try dsimp only at hSw); go_simp; all_goals (with_reducible rfl)
        try simp only [Act.put, List.setIfInBounds_toArray, List.set_cons_zero, List.set_cons_succ]
        refine wpAnyH_take (i := 9) (oi := ⟨some 80, _, _, _, _, _⟩) (v := ?_) rfl (by kernel_rfl) (by kernel_rfl) (by kernel_rfl) (fun _ _ _ h => h) (Or.inl ⟨by rfl, ?_⟩) hHeld ?_
        rotate_left
        · intro w hSw; (try dsimp only at hSw); go_simp; all_goals (with_reducible rfl)
        try simp only [Act.put, List.setIfInBounds_toArray, List.set_cons_zero, List.set_cons_succ]
        refine wpAnyH_ready (rs := [10]) (by kernel_rfl) (by simp) ?_
        refine AllReadyH.cons (o := ⟨none, _, _, _, _, _⟩) rfl (fun K hK => ?_) AllReadyH.nil
        go_simp
        refine hK.out _ _ ?_ (fun hHeld => ?_)
        · exact (by rw [set_other _ _ (show MB ≠ WB by have h1 := blk_lt HWBw.out; have h2 := HMBW.out; omega)]; exact HMB5.out)
        clear hK K
        try simp only [Act.put, List.setIfInBounds_toArray, List.set_cons_zero, List.set_cons_succ]
        refine wpAnyH_done (by kernel_rfl) ?_ _
        refine NoPanic.normal ?_
        go_wp2_with fail
        go_meet
        obtain ⟨s1, s2, s3, s4⟩ := sent_more (m := (⟨2, z.n, 0, z.b, z.a, 0, lo, [], []⟩ : Ms)) (ev := .slice a9 lo.length c9) (p := p) (ov := .slice oa p.l.length oc) HAW.out HA.out HC.out HS.out HWBw.out HB4.out HG5.out HAT5.out HR5.out (own_below HEV.out (below_trans (below_drewN wm 1) (below_alloc _ _))) HMK.out rfl
        exact ⟨rfl, a5, cp5, s1, s2, s3, s4, by rw [set_other _ _ (show MB ≠ WB by have h1 := blk_lt HWBw.out; have h2 := HMBW.out; omega)]; exact HMB5.out⟩
    case rest =>
      obtain ⟨rfl, a5, cp5, hch6, hcw6, hS6, hW6, hM6⟩ := hcut
      obtain ⟨w6, hw6⟩ : ∃ w6, w6 = wc := ⟨_, rfl⟩
      subst hw6
      obtain ⟨A6, hA6⟩ : ∃ A6 : Nat → Prop, A6 = fun x => A x ∨ (w.heap.size ≤ x ∧ x < w6.heap.size) := ⟨_, rfl⟩
      have e6 : (fun x => Z x ∨ (A x ∨ (w.heap.size ≤ x ∧ x < w6.heap.size))) = fun x => Z x ∨ A6 x := by rw [hA6]
      rw [e6] at hcw6
      rw [← hA6] at hS6
      have HLIFT : Hid (w.heap.size ≤ w6.heap.size ∧ ChA wz Z w w6) := ⟨hch6.size, hch6⟩
      have HC6 : Hid (CW wz (fun x => Z x ∨ A6 x) sb cb c w6) := hcw6
      have HS6 : Hid (Sn A6 w6 (.slice a5 (V.length + 1) cp5) (V ++ [(⟨(⟨2, z.n, 0, z.b, z.a, 0, lo, [], []⟩ : Ms), .slice a9 lo.length c9, .slice none 0 0, .slice none 0 0⟩ : Tq)])) := hS6
      have HWB6 : Hid (w6.heap[WB]? = some (.cells (wC p (.slice oa p.l.length oc) sb cb (.slice a5 (V.length + 1) cp5)) 31 (0, 0))) := hW6
      have HMB6 : Hid (w6.heap[MB]? = some (.cells #[.int .i64 ((⟨2, z.n, 0, z.b, z.a, 0, lo, [], []⟩ : Ms)).K, .int .i64 ((⟨2, z.n, 0, z.b, z.a, 0, lo, [], []⟩ : Ms)).F, .int .i64 ((⟨2, z.n, 0, z.b, z.a, 0, lo, [], []⟩ : Ms)).T, .int .i64 ((⟨2, z.n, 0, z.b, z.a, 0, lo, [], []⟩ : Ms)).B, .int .i64 ((⟨2, z.n, 0, z.b, z.a, 0, lo, [], []⟩ : Ms)).A, .int .i64 ((⟨2, z.n, 0, z.b, z.a, 0, lo, [], []⟩ : Ms)).C, .slice a9 lo.length c9, .slice none 0 0, .slice none 0 0] 50 (0, 0))) := hM6
      have HAMB : Hid (A6 MB) := by show A6 MB; rw [hA6]; exact .inr ⟨HMBW.out, blk_lt hM6⟩
      have HAW0 := HAW
      have HAW : Hid (A6 WB) := by show A6 WB; rw [hA6]; exact .inl HAW0.out
      have HA0 := HA
      have HA : Hid (∀ x, A6 x → wz.heap.size ≤ x ∧ ¬ Z x) := by
        intro x hx
        rw [hA6] at hx
        rcases hx with hx | hx
        · exact HA0.out x hx
        · exact ⟨Nat.le_trans HC.out.bel.size hx.1, fun hz => by have := HC.out.al (x := x) (.inl hz); omega⟩
      have HAL0 := HAL
      have HAL : Hid (∀ x, A6 x → x < w6.heap.size) := fun x hx => HC6.out.al (.inr hx)
      have HM0 := HM
      have HM : Hid ((V ++ [(⟨(⟨2, z.n, 0, z.b, z.a, 0, lo, [], []⟩ : Ms), .slice a9 lo.length c9, .slice none 0 0, .slice none 0 0⟩ : Tq)]).map Tq.m = M ++ [(⟨2, z.n, 0, z.b, z.a, 0, lo, [], []⟩ : Ms)]) := by show _ = _; rw [List.map_append, HM0.out]; rfl
      have hlst := hS6.ls (⟨(⟨2, z.n, 0, z.b, z.a, 0, lo, [], []⟩ : Ms), .slice a9 lo.length c9, .slice none 0 0, .slice none 0 0⟩ : Tq) (List.mem_append_right _ (List.mem_singleton.2 rfl))
      have hlsk := hS6.kl (⟨(⟨2, z.n, 0, z.b, z.a, 0, lo, [], []⟩ : Ms), .slice a9 lo.length c9, .slice none 0 0, .slice none 0 0⟩ : Tq) (List.mem_append_right _ (List.mem_singleton.2 rfl))
      have HLST : Hid (OwN 0 w6 (.slice a9 lo.length c9) ((⟨2, z.n, 0, z.b, z.a, 0, lo, [], []⟩ : Ms)).E) := hlst
      have HLSK : Hid (∀ b, (.slice a9 lo.length c9 : Value).ownBlock = some b → A6 b) := hlsk
      have f9 : ∀ wx : World, (wx.heap[WB]? = some (.cells (wC p (.slice oa p.l.length oc) sb cb (.slice a5 (V.length + 1) cp5)) 31 (0, 0)) ∧ wx.heap[MB]? = some (.cells #[.int .i64 ((⟨2, z.n, 0, z.b, z.a, 0, lo, [], []⟩ : Ms)).K, .int .i64 ((⟨2, z.n, 0, z.b, z.a, 0, lo, [], []⟩ : Ms)).F, .int .i64 ((⟨2, z.n, 0, z.b, z.a, 0, lo, [], []⟩ : Ms)).T, .int .i64 ((⟨2, z.n, 0, z.b, z.a, 0, lo, [], []⟩ : Ms)).B, .int .i64 ((⟨2, z.n, 0, z.b, z.a, 0, lo, [], []⟩ : Ms)).A, .int .i64 ((⟨2, z.n, 0, z.b, z.a, 0, lo, [], []⟩ : Ms)).C, .slice a9 lo.length c9, .slice none 0 0, .slice none 0 0] 50 (0, 0))) → wx.cell? ⟨WB, 9, none⟩ = some (.pointer (some ⟨cb, 0, none⟩)) := fun wx h => by rw [blk_cell h.1]; rfl
      have nn0 : ∀ wx : World, (wx.heap[WB]? = some (.cells (wC p (.slice oa p.l.length oc) sb cb (.slice a5 (V.length + 1) cp5)) 31 (0, 0)) ∧ wx.heap[MB]? = some (.cells #[.int .i64 ((⟨2, z.n, 0, z.b, z.a, 0, lo, [], []⟩ : Ms)).K, .int .i64 ((⟨2, z.n, 0, z.b, z.a, 0, lo, [], []⟩ : Ms)).F, .int .i64 ((⟨2, z.n, 0, z.b, z.a, 0, lo, [], []⟩ : Ms)).T, .int .i64 ((⟨2, z.n, 0, z.b, z.a, 0, lo, [], []⟩ : Ms)).B, .int .i64 ((⟨2, z.n, 0, z.b, z.a, 0, lo, [], []⟩ : Ms)).A, .int .i64 ((⟨2, z.n, 0, z.b, z.a, 0, lo, [], []⟩ : Ms)).C, .slice a9 lo.length c9, .slice none 0 0, .slice none 0 0] 50 (0, 0))) → wx.cell? ⟨MB, 0, none⟩ = some (.int .i64 (⟨2, z.n, 0, z.b, z.a, 0, lo, [], []⟩ : Ms).K) := fun wx h => by rw [blk_cell h.2]; rfl
      have nn1 : ∀ wx : World, (wx.heap[WB]? = some (.cells (wC p (.slice oa p.l.length oc) sb cb (.slice a5 (V.length + 1) cp5)) 31 (0, 0)) ∧ wx.heap[MB]? = some (.cells #[.int .i64 ((⟨2, z.n, 0, z.b, z.a, 0, lo, [], []⟩ : Ms)).K, .int .i64 ((⟨2, z.n, 0, z.b, z.a, 0, lo, [], []⟩ : Ms)).F, .int .i64 ((⟨2, z.n, 0, z.b, z.a, 0, lo, [], []⟩ : Ms)).T, .int .i64 ((⟨2, z.n, 0, z.b, z.a, 0, lo, [], []⟩ : Ms)).B, .int .i64 ((⟨2, z.n, 0, z.b, z.a, 0, lo, [], []⟩ : Ms)).A, .int .i64 ((⟨2, z.n, 0, z.b, z.a, 0, lo, [], []⟩ : Ms)).C, .slice a9 lo.length c9, .slice none 0 0, .slice none 0 0] 50 (0, 0))) → wx.cell? ⟨MB, 1, none⟩ = some (.int .i64 (⟨2, z.n, 0, z.b, z.a, 0, lo, [], []⟩ : Ms).F) := fun wx h => by rw [blk_cell h.2]; rfl
      have nn2 : ∀ wx : World, (wx.heap[WB]? = some (.cells (wC p (.slice oa p.l.length oc) sb cb (.slice a5 (V.length + 1) cp5)) 31 (0, 0)) ∧ wx.heap[MB]? = some (.cells #[.int .i64 ((⟨2, z.n, 0, z.b, z.a, 0, lo, [], []⟩ : Ms)).K, .int .i64 ((⟨2, z.n, 0, z.b, z.a, 0, lo, [], []⟩ : Ms)).F, .int .i64 ((⟨2, z.n, 0, z.b, z.a, 0, lo, [], []⟩ : Ms)).T, .int .i64 ((⟨2, z.n, 0, z.b, z.a, 0, lo, [], []⟩ : Ms)).B, .int .i64 ((⟨2, z.n, 0, z.b, z.a, 0, lo, [], []⟩ : Ms)).A, .int .i64 ((⟨2, z.n, 0, z.b, z.a, 0, lo, [], []⟩ : Ms)).C, .slice a9 lo.length c9, .slice none 0 0, .slice none 0 0] 50 (0, 0))) → wx.cell? ⟨MB, 2, none⟩ = some (.int .i64 (⟨2, z.n, 0, z.b, z.a, 0, lo, [], []⟩ : Ms).T) := fun wx h => by rw [blk_cell h.2]; rfl
      have nn3 : ∀ wx : World, (wx.heap[WB]? = some (.cells (wC p (.slice oa p.l.length oc) sb cb (.slice a5 (V.length + 1) cp5)) 31 (0, 0)) ∧ wx.heap[MB]? = some (.cells #[.int .i64 ((⟨2, z.n, 0, z.b, z.a, 0, lo, [], []⟩ : Ms)).K, .int .i64 ((⟨2, z.n, 0, z.b, z.a, 0, lo, [], []⟩ : Ms)).F, .int .i64 ((⟨2, z.n, 0, z.b, z.a, 0, lo, [], []⟩ : Ms)).T, .int .i64 ((⟨2, z.n, 0, z.b, z.a, 0, lo, [], []⟩ : Ms)).B, .int .i64 ((⟨2, z.n, 0, z.b, z.a, 0, lo, [], []⟩ : Ms)).A, .int .i64 ((⟨2, z.n, 0, z.b, z.a, 0, lo, [], []⟩ : Ms)).C, .slice a9 lo.length c9, .slice none 0 0, .slice none 0 0] 50 (0, 0))) → wx.cell? ⟨MB, 3, none⟩ = some (.int .i64 (⟨2, z.n, 0, z.b, z.a, 0, lo, [], []⟩ : Ms).B) := fun wx h => by rw [blk_cell h.2]; rfl
      have nn4 : ∀ wx : World, (wx.heap[WB]? = some (.cells (wC p (.slice oa p.l.length oc) sb cb (.slice a5 (V.length + 1) cp5)) 31 (0, 0)) ∧ wx.heap[MB]? = some (.cells #[.int .i64 ((⟨2, z.n, 0, z.b, z.a, 0, lo, [], []⟩ : Ms)).K, .int .i64 ((⟨2, z.n, 0, z.b, z.a, 0, lo, [], []⟩ : Ms)).F, .int .i64 ((⟨2, z.n, 0, z.b, z.a, 0, lo, [], []⟩ : Ms)).T, .int .i64 ((⟨2, z.n, 0, z.b, z.a, 0, lo, [], []⟩ : Ms)).B, .int .i64 ((⟨2, z.n, 0, z.b, z.a, 0, lo, [], []⟩ : Ms)).A, .int .i64 ((⟨2, z.n, 0, z.b, z.a, 0, lo, [], []⟩ : Ms)).C, .slice a9 lo.length c9, .slice none 0 0, .slice none 0 0] 50 (0, 0))) → wx.cell? ⟨MB, 4, none⟩ = some (.int .i64 (⟨2, z.n, 0, z.b, z.a, 0, lo, [], []⟩ : Ms).A) := fun wx h => by rw [blk_cell h.2]; rfl
      have nn5 : ∀ wx : World, (wx.heap[WB]? = some (.cells (wC p (.slice oa p.l.length oc) sb cb (.slice a5 (V.length + 1) cp5)) 31 (0, 0)) ∧ wx.heap[MB]? = some (.cells #[.int .i64 ((⟨2, z.n, 0, z.b, z.a, 0, lo, [], []⟩ : Ms)).K, .int .i64 ((⟨2, z.n, 0, z.b, z.a, 0, lo, [], []⟩ : Ms)).F, .int .i64 ((⟨2, z.n, 0, z.b, z.a, 0, lo, [], []⟩ : Ms)).T, .int .i64 ((⟨2, z.n, 0, z.b, z.a, 0, lo, [], []⟩ : Ms)).B, .int .i64 ((⟨2, z.n, 0, z.b, z.a, 0, lo, [], []⟩ : Ms)).A, .int .i64 ((⟨2, z.n, 0, z.b, z.a, 0, lo, [], []⟩ : Ms)).C, .slice a9 lo.length c9, .slice none 0 0, .slice none 0 0] 50 (0, 0))) → wx.cell? ⟨MB, 5, none⟩ = some (.int .i64 (⟨2, z.n, 0, z.b, z.a, 0, lo, [], []⟩ : Ms).C) := fun wx h => by rw [blk_cell h.2]; rfl
      have nn6 : ∀ wx : World, (wx.heap[WB]? = some (.cells (wC p (.slice oa p.l.length oc) sb cb (.slice a5 (V.length + 1) cp5)) 31 (0, 0)) ∧ wx.heap[MB]? = some (.cells #[.int .i64 ((⟨2, z.n, 0, z.b, z.a, 0, lo, [], []⟩ : Ms)).K, .int .i64 ((⟨2, z.n, 0, z.b, z.a, 0, lo, [], []⟩ : Ms)).F, .int .i64 ((⟨2, z.n, 0, z.b, z.a, 0, lo, [], []⟩ : Ms)).T, .int .i64 ((⟨2, z.n, 0, z.b, z.a, 0, lo, [], []⟩ : Ms)).B, .int .i64 ((⟨2, z.n, 0, z.b, z.a, 0, lo, [], []⟩ : Ms)).A, .int .i64 ((⟨2, z.n, 0, z.b, z.a, 0, lo, [], []⟩ : Ms)).C, .slice a9 lo.length c9, .slice none 0 0, .slice none 0 0] 50 (0, 0))) → wx.cell? ⟨MB, 6, none⟩ = some (.slice a9 lo.length c9) := fun wx h => by rw [blk_cell h.2]; rfl
      have nn7 : ∀ wx : World, (wx.heap[WB]? = some (.cells (wC p (.slice oa p.l.length oc) sb cb (.slice a5 (V.length + 1) cp5)) 31 (0, 0)) ∧ wx.heap[MB]? = some (.cells #[.int .i64 ((⟨2, z.n, 0, z.b, z.a, 0, lo, [], []⟩ : Ms)).K, .int .i64 ((⟨2, z.n, 0, z.b, z.a, 0, lo, [], []⟩ : Ms)).F, .int .i64 ((⟨2, z.n, 0, z.b, z.a, 0, lo, [], []⟩ : Ms)).T, .int .i64 ((⟨2, z.n, 0, z.b, z.a, 0, lo, [], []⟩ : Ms)).B, .int .i64 ((⟨2, z.n, 0, z.b, z.a, 0, lo, [], []⟩ : Ms)).A, .int .i64 ((⟨2, z.n, 0, z.b, z.a, 0, lo, [], []⟩ : Ms)).C, .slice a9 lo.length c9, .slice none 0 0, .slice none 0 0] 50 (0, 0))) → wx.cell? ⟨MB, 7, none⟩ = some (.slice none 0 0) := fun wx h => by rw [blk_cell h.2]; rfl
      have nn8 : ∀ wx : World, (wx.heap[WB]? = some (.cells (wC p (.slice oa p.l.length oc) sb cb (.slice a5 (V.length + 1) cp5)) 31 (0, 0)) ∧ wx.heap[MB]? = some (.cells #[.int .i64 ((⟨2, z.n, 0, z.b, z.a, 0, lo, [], []⟩ : Ms)).K, .int .i64 ((⟨2, z.n, 0, z.b, z.a, 0, lo, [], []⟩ : Ms)).F, .int .i64 ((⟨2, z.n, 0, z.b, z.a, 0, lo, [], []⟩ : Ms)).T, .int .i64 ((⟨2, z.n, 0, z.b, z.a, 0, lo, [], []⟩ : Ms)).B, .int .i64 ((⟨2, z.n, 0, z.b, z.a, 0, lo, [], []⟩ : Ms)).A, .int .i64 ((⟨2, z.n, 0, z.b, z.a, 0, lo, [], []⟩ : Ms)).C, .slice a9 lo.length c9, .slice none 0 0, .slice none 0 0] 50 (0, 0))) → wx.cell? ⟨MB, 8, none⟩ = some (.slice none 0 0) := fun wx h => by rw [blk_cell h.2]; rfl
      clear mb0 mb1 mb2 mb3 mb4 mb5 mb6 mb7 mb8 hch6 hcw6 hS6 hW6 hM6 e6 hA6 hlst hlsk c10 hWml hWmn
      go_upto_region 18 with fail
      refine wp_region_noPanic ?_
      refine wp_region_held_drew (S := (fun wx : World => wx.heap[WB]? = some (.cells (wC p (.slice oa p.l.length oc) sb cb (.slice a5 (V.length + 1) cp5)) 31 (0, 0)) ∧ wx.heap[MB]? = some (.cells #[.int .i64 ((⟨2, z.n, 0, z.b, z.a, 0, lo, [], []⟩ : Ms)).K, .int .i64 ((⟨2, z.n, 0, z.b, z.a, 0, lo, [], []⟩ : Ms)).F, .int .i64 ((⟨2, z.n, 0, z.b, z.a, 0, lo, [], []⟩ : Ms)).T, .int .i64 ((⟨2, z.n, 0, z.b, z.a, 0, lo, [], []⟩ : Ms)).B, .int .i64 ((⟨2, z.n, 0, z.b, z.a, 0, lo, [], []⟩ : Ms)).A, .int .i64 ((⟨2, z.n, 0, z.b, z.a, 0, lo, [], []⟩ : Ms)).C, .slice a9 lo.length c9, .slice none 0 0, .slice none 0 0] 50 (0, 0)))) (by kernel_rfl) ?_ (fun hHeld => ?_)
      · exact ⟨blk_below HWB6.out (below_drewN w6 1), blk_below HMB6.out (below_drewN w6 1)⟩
      refine wpAnyH_take (i := 0) (oi := ⟨some 82, _, _, _, _, _⟩) (v := ?_) rfl (by kernel_rfl) (by kernel_rfl) (by kernel_rfl) (fun _ _ _ h => h) (Or.inl ⟨by rfl, ?_⟩) hHeld ?_
      rotate_left
      · intro w hSw; (try dsimp only at hSw); go_simp; all_goals (with_reducible rfl)
      try simp only [Act.put, List.setIfInBounds_toArray, List.set_cons_zero, List.set_cons_succ]
      refine wpAnyH_take (i := 1) (oi := ⟨some 83, _, _, _, _, _⟩) (v := ?_) rfl (by kernel_rfl) (by kernel_rfl) (by kernel_rfl) (fun _ _ _ h => h) (Or.inl ⟨by rfl, ?_⟩) hHeld ?_
      rotate_left
      · intro w hSw; (try dsimp only at hSw); go_simp; all_goals (with_reducible rfl)
      try simp only [Act.put, List.setIfInBounds_toArray, List.set_cons_zero, List.set_cons_succ]
      refine wpAnyH_take (i := 2) (oi := ⟨some 84, _, _, _, _, _⟩) (v := ?_) rfl (by kernel_rfl) (by kernel_rfl) (by kernel_rfl) (fun _ _ _ h => h) (Or.inl ⟨by rfl, ?_⟩) hHeld ?_
      rotate_left
      · intro w hSw; (try dsimp only at hSw); go_simp; all_goals (with_reducible rfl)
      try simp only [Act.put, List.setIfInBounds_toArray, List.set_cons_zero, List.set_cons_succ]
      refine wpAnyH_take (i := 3) (oi := ⟨some 85, _, _, _, _, _⟩) (v := ?_) rfl (by kernel_rfl) (by kernel_rfl) (by kernel_rfl) (fun _ _ _ h => h) (Or.inl ⟨by rfl, ?_⟩) hHeld ?_
      rotate_left
      · intro w hSw; (try dsimp only at hSw); go_simp; all_goals (with_reducible rfl)
      try simp only [Act.put, List.setIfInBounds_toArray, List.set_cons_zero, List.set_cons_succ]
      refine wpAnyH_take (i := 4) (oi := ⟨some 86, _, _, _, _, _⟩) (v := ?_) rfl (by kernel_rfl) (by kernel_rfl) (by kernel_rfl) (fun _ _ _ h => h) (Or.inl ⟨by rfl, ?_⟩) hHeld ?_
      rotate_left
      · intro w hSw; (try dsimp only at hSw); go_simp; all_goals (with_reducible rfl)
      try simp only [Act.put, List.setIfInBounds_toArray, List.set_cons_zero, List.set_cons_succ]
      refine wpAnyH_ready (rs := [5]) (by kernel_rfl) (by simp) ?_
      refine AllReadyH.cons (o := ⟨some 87, _, _, _, _, _⟩) rfl (fun K hK => ?_) AllReadyH.nil
      go_simp
      refine (take_walk19 (m := (⟨2, z.n, 0, z.b, z.a, 0, lo, [], []⟩ : Ms)) (HC6.out.below (below_drewN w6 1)) (ml_sn (row_keep HLST.out fun b hb => (below_drewN w6 1).block b (HAL.out b (HLSK.out b hb))) (in64_of HEB.out) (fun b hb => .inr (HLSK.out b hb)) HMK.out.q HMK.out.p) HWR.out).mono ?_
      rintro e w2 ⟨v2, B2, rfl, hmg, hbn, hcw2, hch2⟩
      have HC2 : Hid (CW wz (fun x => (Z x ∨ A6 x) ∨ B2 x) sb cb (taC c (⟨2, z.n, 0, z.b, z.a, 0, lo, [], []⟩ : Ms)) w2) := hcw2
      have HMG : Hid (MgR B2 w2 v2 (taM c (⟨2, z.n, 0, z.b, z.a, 0, lo, [], []⟩ : Ms))) := hmg
      have HB2 : Hid (∀ x, B2 x → w6.heap.size ≤ x) := fun x hx => Nat.le_trans (below_drewN w6 1).size (hbn x hx)
      have hkp2 : ∀ b, A6 b → w2.heap[b]? = w6.heap[b]? := fun b hb => (kp_cha hch2 (HC6.out.below (below_drewN w6 1)) b (.inr hb)).trans ((below_drewN w6 1).block b (HAL.out b hb))
      have HWB2 : Hid (w2.heap[WB]? = some (.cells (wC p (.slice oa p.l.length oc) sb cb (.slice a5 (V.length + 1) cp5)) 31 (0, 0))) := (hkp2 WB HAW.out).trans HWB6.out
      have HMB2 : Hid (w2.heap[MB]? = some (.cells #[.int .i64 ((⟨2, z.n, 0, z.b, z.a, 0, lo, [], []⟩ : Ms)).K, .int .i64 ((⟨2, z.n, 0, z.b, z.a, 0, lo, [], []⟩ : Ms)).F, .int .i64 ((⟨2, z.n, 0, z.b, z.a, 0, lo, [], []⟩ : Ms)).T, .int .i64 ((⟨2, z.n, 0, z.b, z.a, 0, lo, [], []⟩ : Ms)).B, .int .i64 ((⟨2, z.n, 0, z.b, z.a, 0, lo, [], []⟩ : Ms)).A, .int .i64 ((⟨2, z.n, 0, z.b, z.a, 0, lo, [], []⟩ : Ms)).C, .slice a9 lo.length c9, .slice none 0 0, .slice none 0 0] 50 (0, 0))) := (hkp2 MB HAMB.out).trans HMB6.out
      have HS2 : Hid (Sn A6 w2 (.slice a5 (V.length + 1) cp5) (V ++ [(⟨(⟨2, z.n, 0, z.b, z.a, 0, lo, [], []⟩ : Ms), .slice a9 lo.length c9, .slice none 0 0, .slice none 0 0⟩ : Tq)])) := HS6.out.keep hkp2
      have HCH2 : Hid (ChA wz Z w6 w2) := (Ch.of_below (below_drewN w6 1)).self (cha_less hch2 (fun x hx => .inl hx))
      obtain ⟨a2, n2, k2, rfl⟩ := hmg.nil_or
      clear hmg hbn hcw2 hch2 hkp2
      refine hK.out _ _ ?_ (fun hHeld => ?_)
      · exact ⟨HWB2.out, HMB2.out⟩
      clear hK K
      try simp only [Act.put, List.setIfInBounds_toArray, List.set_cons_zero, List.set_cons_succ]
      refine wpAnyH_take (i := 6) (oi := ⟨some 81, _, _, _, _, _⟩) (v := ?_) rfl (by kernel_rfl) (by kernel_rfl) (by kernel_rfl) (fun _ _ _ h => h) (Or.inl ⟨by rfl, ?_⟩) hHeld ?_
      rotate_left
      · intro w hSw; (try dsimp only at hSw); go_simp; all_goals (with_reducible rfl)
      try simp only [Act.put, List.setIfInBounds_toArray, List.set_cons_zero, List.set_cons_succ]
      refine wpAnyH_take (i := 7) (oi := ⟨some 88, _, _, _, _, _⟩) (v := ?_) rfl (by kernel_rfl) (by kernel_rfl) (by kernel_rfl) (fun _ _ _ h => h) (Or.inl ⟨by rfl, ?_⟩) hHeld ?_
      rotate_left
      · intro w hSw; (try dsimp only at hSw); go_simp; all_goals (with_reducible rfl)
      try simp only [Act.put, List.setIfInBounds_toArray, List.set_cons_zero, List.set_cons_succ]
      refine wpAnyH_take (i := 8) (oi := ⟨some 89, _, _, _, _, _⟩) (v := ?_) rfl (by kernel_rfl) (by kernel_rfl) (by kernel_rfl) (fun _ _ _ h => h) (Or.inl ⟨by rfl, ?_⟩) hHeld ?_
      rotate_left
      · intro w hSw; (try dsimp only at hSw); go_simp; all_goals (with_reducible rfl)
      try simp only [Act.put, List.setIfInBounds_toArray, List.set_cons_zero, List.set_cons_succ]
      refine wpAnyH_take (i := 9) (oi := ⟨some 7, _, _, _, _, _⟩) (v := ?_) rfl (by kernel_rfl) (by kernel_rfl) (by kernel_rfl) (fun _ _ _ h => h) (Or.inl ⟨by rfl, ?_⟩) hHeld ?_
      rotate_left
      · intro w hSw; (try dsimp only at hSw); go_simp; all_goals (with_reducible rfl)
      try simp only [Act.put, List.setIfInBounds_toArray, List.set_cons_zero, List.set_cons_succ]
      refine wpAnyH_take (i := 10) (oi := ⟨some 8, _, _, _, _, _⟩) (v := ?_) rfl (by kernel_rfl) (by kernel_rfl) (by kernel_rfl) (fun _ _ _ h => h) (Or.inl ⟨by rfl, ?_⟩) hHeld ?_
      rotate_left
      · intro w hSw; (try dsimp only at hSw); go_simp; all_goals (with_reducible rfl)
      try simp only [Act.put, List.setIfInBounds_toArray, List.set_cons_zero, List.set_cons_succ]
      refine wpAnyH_done (by kernel_rfl) ?_ _
      refine NoPanic.normal ?_
      clear f9 nn0 nn1 nn2 nn3 nn4 nn5 nn6 nn7 nn8
      obtain ⟨c', hl1, hp1⟩ := HLL.out (⟨2, z.n, 0, z.b, z.a, 0, lo, [], []⟩ : Ms) HMK.out
      have HL : Hid (Lnd p (taC c (⟨2, z.n, 0, z.b, z.a, 0, lo, [], []⟩ : Ms)) (taM c (⟨2, z.n, 0, z.b, z.a, 0, lo, [], []⟩ : Ms)) (taE c (⟨2, z.n, 0, z.b, z.a, 0, lo, [], []⟩ : Ms)) c') := hl1
      have HPP : Hid (P c' (taM c (⟨2, z.n, 0, z.b, z.a, 0, lo, [], []⟩ : Ms))) := hp1
      clear hl1 hp1
      rcases HL.out with ⟨he, hc⟩ | ⟨he, hmo, hdn, hrd, J, S0, hson, hg, hc⟩
      · have HCC : Hid (c' = taC c (⟨2, z.n, 0, z.b, z.a, 0, lo, [], []⟩ : Ms)) := hc
        rw [he]
        clear he hc
        go_wp2_with fail
        go_ret2
        exact ⟨c', M ++ [(⟨2, z.n, 0, z.b, z.a, 0, lo, [], []⟩ : Ms)], _, HPP.out, by simp, acg_lift HLIFT.out.1 HLIFT.out.2 (by rw [HCC.out]; exact acg_yes HA.out HAL.out HB2.out HMG.out HC2.out HWB2.out HAW.out HS2.out HM.out HCH2.out)⟩
      · have HCC : Hid (c' = ⟨p0 p, J, rdK S0 2, [], false⟩) := hc
        have HDN : Hid ((taC c (⟨2, z.n, 0, z.b, z.a, 0, lo, [], []⟩ : Ms)).S.down = true) := hdn
        have HEN : Hid ((taC c (⟨2, z.n, 0, z.b, z.a, 0, lo, [], []⟩ : Ms)).endB = true) := by show _ = _; unfold Cs.endB; rw [hdn]; simp
        have HRD : Hid (S0.rd < 9223372036854775800) := by show _ < _; rw [← hson]; exact hrd
        have HSON : Hid (onS (taC c (⟨2, z.n, 0, z.b, z.a, 0, lo, [], []⟩ : Ms)).S = S0) := hson
        have HG : Hid (Gd p.P J S0) := hg
        have hv := HMG.out
        rw [hmo] at hv
        have hv : Value.slice a2 n2 k2 = .slice none 0 0 := hv
        cases hv
        have HMO := hidH hmo
        rw [he]
        have i8 : w2.cell? ⟨WB, 8, none⟩ = some (.pointer (some ⟨sb, 0, none⟩)) := by rw [blk_cell HWB2.out]; rfl
        have i9 : w2.cell? ⟨WB, 9, none⟩ = some (.pointer (some ⟨cb, 0, none⟩)) := by rw [blk_cell HWB2.out]; rfl
        clear he hmo hdn hrd hson hg hc
        go_wp2_with fail
        refine (cw_down HC2.out).mono ?_
        rw [HDN.out]
        rintro e w9 ⟨rfl, h9⟩
        replace h9 := h9.symm
        subst h9
        go_wp2_with fail
        refine (cend_walk HC2.out).mono ?_
        rw [HEN.out]
        rintro e w3 ⟨rfl, hcw3, hch3⟩
        have HC3 : Hid (CW wz (fun x => Z x ∨ A6 x) sb cb { taC c (⟨2, z.n, 0, z.b, z.a, 0, lo, [], []⟩ : Ms) with o := true } w3) := hcw3.less (fun x hx => .inl hx)
        have hkp3 : ∀ b, A6 b → w3.heap[b]? = w2.heap[b]? := fun b hb => kp_cha hch3 HC2.out b (.inl (.inr hb))
        have HWB3 : Hid (w3.heap[WB]? = some (.cells (wC p (.slice oa p.l.length oc) sb cb (.slice a5 (V.length + 1) cp5)) 31 (0, 0))) := (hkp3 WB HAW.out).trans HWB2.out
        have HS3 : Hid (Sn A6 w3 (.slice a5 (V.length + 1) cp5) (V ++ [(⟨(⟨2, z.n, 0, z.b, z.a, 0, lo, [], []⟩ : Ms), .slice a9 lo.length c9, .slice none 0 0, .slice none 0 0⟩ : Tq)])) := HS2.out.keep hkp3
        have HCH3 : Hid (ChA wz Z w6 w3) := HCH2.out.self (cha_less hch3 (fun x hx => (.inl (.inl hx))))
        have i8 : w3.cell? ⟨WB, 8, none⟩ = some (.pointer (some ⟨sb, 0, none⟩)) := by rw [blk_cell HWB3.out]; rfl
        clear hcw3 hch3 hkp3
        go_wp2_with fail
        refine (cw_on HC3.out).mono ?_
        rintro e w4 ⟨rfl, hcw4, hch4⟩
        have HC4 : Hid (CW wz (fun x => Z x ∨ A6 x) sb cb { taC c (⟨2, z.n, 0, z.b, z.a, 0, lo, [], []⟩ : Ms) with o := true, S := S0 } w4) := by show CW _ _ _ _ _ _; rw [← HSON.out]; exact hcw4
        have hkp4 : ∀ b, A6 b → w4.heap[b]? = w3.heap[b]? := fun b hb => kp_cha hch4 HC3.out b (.inr hb)
        have HWB4 : Hid (w4.heap[WB]? = some (.cells (wC p (.slice oa p.l.length oc) sb cb (.slice a5 (V.length + 1) cp5)) 31 (0, 0))) := (hkp4 WB HAW.out).trans HWB3.out
        have HS4 : Hid (Sn A6 w4 (.slice a5 (V.length + 1) cp5) (V ++ [(⟨(⟨2, z.n, 0, z.b, z.a, 0, lo, [], []⟩ : Ms), .slice a9 lo.length c9, .slice none 0 0, .slice none 0 0⟩ : Tq)])) := HS3.out.keep hkp4
        have HCH4 : Hid (ChA wz Z w6 w4) := HCH3.out.self (cha_less hch4 (fun x hx => .inl hx))
        clear hcw4 hch4 hkp4 i8 i9
        have j0 : ∀ wx, WbS WB p (.slice oa p.l.length oc) sb (.slice a5 (V.length + 1) cp5) wx → wx.cell? ⟨WB, 0, none⟩ = some (.int .i64 p.P) := fun wx h => by obtain ⟨q, h⟩ := h; rw [blk_cell h]; rfl
        have j1 : ∀ wx, WbS WB p (.slice oa p.l.length oc) sb (.slice a5 (V.length + 1) cp5) wx → wx.cell? ⟨WB, 1, none⟩ = some (.int .i64 p.S) := fun wx h => by obtain ⟨q, h⟩ := h; rw [blk_cell h]; rfl
        have j2 : ∀ wx, WbS WB p (.slice oa p.l.length oc) sb (.slice a5 (V.length + 1) cp5) wx → wx.cell? ⟨WB, 2, none⟩ = some (.int .i64 p.W) := fun wx h => by obtain ⟨q, h⟩ := h; rw [blk_cell h]; rfl
        have j3 : ∀ wx, WbS WB p (.slice oa p.l.length oc) sb (.slice a5 (V.length + 1) cp5) wx → wx.cell? ⟨WB, 3, none⟩ = some (.slice oa p.l.length oc) := fun wx h => by obtain ⟨q, h⟩ := h; rw [blk_cell h]; rfl
        have j4 : ∀ wx, WbS WB p (.slice oa p.l.length oc) sb (.slice a5 (V.length + 1) cp5) wx → wx.cell? ⟨WB, 4, none⟩ = some (.int .i64 p.A) := fun wx h => by obtain ⟨q, h⟩ := h; rw [blk_cell h]; rfl
        have j5 : ∀ wx, WbS WB p (.slice oa p.l.length oc) sb (.slice a5 (V.length + 1) cp5) wx → wx.cell? ⟨WB, 5, none⟩ = some (.int .i64 p.B) := fun wx h => by obtain ⟨q, h⟩ := h; rw [blk_cell h]; rfl
        have j6 : ∀ wx, WbS WB p (.slice oa p.l.length oc) sb (.slice a5 (V.length + 1) cp5) wx → wx.cell? ⟨WB, 6, none⟩ = some (.int .i64 p.N) := fun wx h => by obtain ⟨q, h⟩ := h; rw [blk_cell h]; rfl
        have j7 : ∀ wx, WbS WB p (.slice oa p.l.length oc) sb (.slice a5 (V.length + 1) cp5) wx → wx.cell? ⟨WB, 7, none⟩ = some (.int .i64 p.G) := fun wx h => by obtain ⟨q, h⟩ := h; rw [blk_cell h]; rfl
        have j8 : ∀ wx, WbS WB p (.slice oa p.l.length oc) sb (.slice a5 (V.length + 1) cp5) wx → wx.cell? ⟨WB, 8, none⟩ = some (.pointer (some ⟨sb, 0, none⟩)) := fun wx h => by obtain ⟨q, h⟩ := h; rw [blk_cell h]; rfl
        go_upto_region 31 with fail
        refine wp_region_noPanic ?_
        refine wp_region_held_drew (S := (WbS WB p (.slice oa p.l.length oc) sb (.slice a5 (V.length + 1) cp5))) (by kernel_rfl) ?_ (fun hHeld => ?_)
        · exact ⟨cb, (blk_below HWB4.out (below_drewN w4 1))⟩
        refine wpAnyH_take (i := 0) (oi := ⟨some 179, _, _, _, _, _⟩) (v := ?_) rfl (by kernel_rfl) (by kernel_rfl) (by kernel_rfl) (fun _ _ _ h => h) (Or.inl ⟨by rfl, ?_⟩) hHeld ?_
        rotate_left
        · intro w hSw; (try dsimp only at hSw); go_simp; all_goals (with_reducible rfl)
        try simp only [Act.put, List.setIfInBounds_toArray, List.set_cons_zero, List.set_cons_succ]
        refine wpAnyH_take (i := 1) (oi := ⟨some 180, _, _, _, _, _⟩) (v := ?_) rfl (by kernel_rfl) (by kernel_rfl) (by kernel_rfl) (fun _ _ _ h => h) (Or.inl ⟨by rfl, ?_⟩) hHeld ?_
        rotate_left
        · intro w hSw; (try dsimp only at hSw); go_simp; all_goals (with_reducible rfl)
        try simp only [Act.put, List.setIfInBounds_toArray, List.set_cons_zero, List.set_cons_succ]
        refine wpAnyH_take (i := 2) (oi := ⟨some 181, _, _, _, _, _⟩) (v := ?_) rfl (by kernel_rfl) (by kernel_rfl) (by kernel_rfl) (fun _ _ _ h => h) (Or.inl ⟨by rfl, ?_⟩) hHeld ?_
        rotate_left
        · intro w hSw; (try dsimp only at hSw); go_simp; all_goals (with_reducible rfl)
        try simp only [Act.put, List.setIfInBounds_toArray, List.set_cons_zero, List.set_cons_succ]
        refine wpAnyH_take (i := 3) (oi := ⟨some 182, _, _, _, _, _⟩) (v := ?_) rfl (by kernel_rfl) (by kernel_rfl) (by kernel_rfl) (fun _ _ _ h => h) (Or.inl ⟨by rfl, ?_⟩) hHeld ?_
        rotate_left
        · intro w hSw; (try dsimp only at hSw); go_simp; all_goals (with_reducible rfl)
        try simp only [Act.put, List.setIfInBounds_toArray, List.set_cons_zero, List.set_cons_succ]
        refine wpAnyH_take (i := 4) (oi := ⟨some 183, _, _, _, _, _⟩) (v := ?_) rfl (by kernel_rfl) (by kernel_rfl) (by kernel_rfl) (fun _ _ _ h => h) (Or.inl ⟨by rfl, ?_⟩) hHeld ?_
        rotate_left
        · intro w hSw; (try dsimp only at hSw); go_simp; all_goals (with_reducible rfl)
        try simp only [Act.put, List.setIfInBounds_toArray, List.set_cons_zero, List.set_cons_succ]
        refine wpAnyH_take (i := 5) (oi := ⟨some 184, _, _, _, _, _⟩) (v := ?_) rfl (by kernel_rfl) (by kernel_rfl) (by kernel_rfl) (fun _ _ _ h => h) (Or.inl ⟨by rfl, ?_⟩) hHeld ?_
        rotate_left
        · intro w hSw; (try dsimp only at hSw); go_simp; all_goals (with_reducible rfl)
        try simp only [Act.put, List.setIfInBounds_toArray, List.set_cons_zero, List.set_cons_succ]
        refine wpAnyH_take (i := 6) (oi := ⟨some 185, _, _, _, _, _⟩) (v := ?_) rfl (by kernel_rfl) (by kernel_rfl) (by kernel_rfl) (fun _ _ _ h => h) (Or.inl ⟨by rfl, ?_⟩) hHeld ?_
        rotate_left
        · intro w hSw; (try dsimp only at hSw); go_simp; all_goals (with_reducible rfl)
        try simp only [Act.put, List.setIfInBounds_toArray, List.set_cons_zero, List.set_cons_succ]
        refine wpAnyH_take (i := 7) (oi := ⟨some 186, _, _, _, _, _⟩) (v := ?_) rfl (by kernel_rfl) (by kernel_rfl) (by kernel_rfl) (fun _ _ _ h => h) (Or.inl ⟨by rfl, ?_⟩) hHeld ?_
        rotate_left
        · intro w hSw; (try dsimp only at hSw); go_simp; all_goals (with_reducible rfl)
        try simp only [Act.put, List.setIfInBounds_toArray, List.set_cons_zero, List.set_cons_succ]
        refine wpAnyH_take (i := 8) (oi := ⟨some 187, _, _, _, _, _⟩) (v := ?_) rfl (by kernel_rfl) (by kernel_rfl) (by kernel_rfl) (fun _ _ _ h => h) (Or.inl ⟨by rfl, ?_⟩) hHeld ?_
        rotate_left
        · intro w hSw; (try dsimp only at hSw); go_simp; all_goals (with_reducible rfl)
        try simp only [Act.put, List.setIfInBounds_toArray, List.set_cons_zero, List.set_cons_succ]
        refine wpAnyH_ready (rs := [9]) (by kernel_rfl) (by simp) ?_
        refine AllReadyH.cons (o := ⟨some 188, _, _, _, _, _⟩) rfl (fun K hK => ?_) AllReadyH.nil
        go_simp
        refine (cw_open (J := J) (p := p) (HC4.out.below (below_drewN w4 1)) (HO.out.below (HC4.out.below (below_drewN w4 1)).bel) HP.out HG.out HRD.out).mono ?_
        rintro e w5 ⟨cb5, rfl, hcw5, hch5⟩
        have HC5 : Hid (CW wz (fun x => Z x ∨ A6 x) sb cb5 ⟨p0 p, J, rdK S0 2, [], false⟩ w5) := hcw5
        have hkp5 : ∀ b, A6 b → w5.heap[b]? = w4.heap[b]? := fun b hb => (kp_cha hch5 (HC4.out.below (below_drewN w4 1)) b (.inr hb)).trans ((below_drewN w4 1).block b (HC4.out.al (.inr hb)))
        have hW5 : w5.heap[WB]? = some (.cells (wC p (.slice oa p.l.length oc) sb cb (.slice a5 (V.length + 1) cp5)) 31 (0, 0)) := (hkp5 WB HAW.out).trans HWB4.out
        have HWB5 : Hid (w5.heap[WB]? = some (.cells (wC p (.slice oa p.l.length oc) sb cb (.slice a5 (V.length + 1) cp5)) 31 (0, 0))) := hW5
        have HS5 : Hid (Sn A6 w5 (.slice a5 (V.length + 1) cp5) (V ++ [(⟨(⟨2, z.n, 0, z.b, z.a, 0, lo, [], []⟩ : Ms), .slice a9 lo.length c9, .slice none 0 0, .slice none 0 0⟩ : Tq)])) := HS4.out.keep hkp5
        have HCH5 : Hid (ChA wz Z w6 w5) := HCH4.out.self ((Ch.of_below (below_drewN w4 1)).self (cha_less hch5 (fun x hx => .inl hx)))
        have v9 : w5.cell? ⟨WB, 9, none⟩ = some (.pointer (some ⟨cb, 0, none⟩)) := by rw [blk_cell hW5]; rfl
        have y9 : w5.frozen? ⟨WB, 9, none⟩ = false := blk_soft hW5 9
        clear hcw5 hch5 hkp5 hW5
        refine hK.out _ _ ?_ (fun hHeld => ?_)
        · exact ⟨cb, HWB5.out⟩
        clear hK K
        try simp only [Act.put, List.setIfInBounds_toArray, List.set_cons_zero, List.set_cons_succ]
        refine wpAnyH_take (i := 10) (oi := ⟨some 178, _, _, _, _, _⟩) (v := ?_) rfl (by kernel_rfl) (by kernel_rfl) (by kernel_rfl) (fun _ _ _ h => h) (Or.inl ⟨by rfl, ?_⟩) hHeld ?_
        rotate_left
        · intro w hSw; (try dsimp only at hSw); go_simp; all_goals (with_reducible rfl)
        try simp only [Act.put, List.setIfInBounds_toArray, List.set_cons_zero, List.set_cons_succ]
        refine wpAnyH_take (i := 11) (oi := ⟨some 189, _, _, _, _, _⟩) (v := ?_) rfl (by kernel_rfl) (by kernel_rfl) (by kernel_rfl) (fun _ _ _ h => h) (Or.inl ⟨by rfl, ?_⟩) hHeld ?_
        rotate_left
        · intro w hSw; (try dsimp only at hSw); go_simp; all_goals (with_reducible rfl)
        try simp only [Act.put, List.setIfInBounds_toArray, List.set_cons_zero, List.set_cons_succ]
        refine wpAnyH_take (i := 12) (oi := ⟨some 190, _, _, _, _, _⟩) (v := ?_) rfl (by kernel_rfl) (by kernel_rfl) (by kernel_rfl) (fun _ _ _ h => h) (Or.inl ⟨by rfl, ?_⟩) hHeld ?_
        rotate_left
        · intro w hSw; (try dsimp only at hSw); go_simp; all_goals (with_reducible rfl)
        try simp only [Act.put, List.setIfInBounds_toArray, List.set_cons_zero, List.set_cons_succ]
        refine wpAnyH_take (i := 13) (oi := ⟨some 191, _, _, _, _, _⟩) (v := ?_) rfl (by kernel_rfl) (by kernel_rfl) (by kernel_rfl) (fun _ _ _ h => h) (Or.inl ⟨by rfl, ?_⟩) hHeld ?_
        rotate_left
        · intro w hSw; (try dsimp only at hSw); go_simp; all_goals (with_reducible rfl)
        try simp only [Act.put, List.setIfInBounds_toArray, List.set_cons_zero, List.set_cons_succ]
        refine wpAnyH_take (i := 14) (oi := ⟨some 192, _, _, _, _, _⟩) (v := ?_) rfl (by kernel_rfl) (by kernel_rfl) (by kernel_rfl) (fun _ _ _ h => h) (Or.inl ⟨by rfl, ?_⟩) hHeld ?_
        rotate_left
        · intro w hSw; (try dsimp only at hSw); go_simp; all_goals (with_reducible rfl)
        try simp only [Act.put, List.setIfInBounds_toArray, List.set_cons_zero, List.set_cons_succ]
        refine wpAnyH_ready (rs := [15]) (by kernel_rfl) (by simp) ?_
        refine AllReadyH.cons (o := ⟨none, _, _, _, _, _⟩) rfl (fun K hK => ?_) AllReadyH.nil
        go_simp
        refine hK.out _ _ ?_ (fun hHeld => ?_)
        · exact ⟨cb5, by rw [set_row HWB5.out]; rfl⟩
        clear hK K
        try simp only [Act.put, List.setIfInBounds_toArray, List.set_cons_zero, List.set_cons_succ]
        refine wpAnyH_take (i := 16) (oi := ⟨some 8, _, _, _, _, _⟩) (v := ?_) rfl (by kernel_rfl) (by kernel_rfl) (by kernel_rfl) (fun _ _ _ h => h) (Or.inl ⟨by rfl, ?_⟩) hHeld ?_
        rotate_left
        · intro w hSw; (try dsimp only at hSw); go_simp; all_goals (with_reducible rfl)
        try simp only [Act.put, List.setIfInBounds_toArray, List.set_cons_zero, List.set_cons_succ]
        refine wpAnyH_done (by kernel_rfl) ?_ _
        refine NoPanic.normal ?_
        clear j0 j1 j2 j3 j4 j5 j6 j7 j8 v9 y9
        go_wp2_with fail
        go_ret2
        exact ⟨c', M ++ [(⟨2, z.n, 0, z.b, z.a, 0, lo, [], []⟩ : Ms)], none, by rw [← HMO.out]; exact HPP.out, by simp, acg_lift HLIFT.out.1 HLIFT.out.2 (by rw [HCC.out]; exact acg_none (w' := w5.setCell ⟨WB, 9, none⟩ (Pt cb5)) (sb := sb) (cb := cb5) (p := p) (ov := .slice oa p.l.length oc) HA.out HAL.out (HC5.out.write (E := fun x => x = WB) (ch_set _ _ _ _) (fun x hx => .inr (by rw [hx]; exact HAW.out)) (fun x hx => by rw [hx]; exact (HA.out _ HAW.out).1)) (by rw [set_row HWB5.out]; rfl) HAW.out (HS5.out.setW HWB5.out) HM.out (HCH5.out.self (ch_le (ch_set _ _ _ _) (fun x hx => by rw [hx]; exact HA.out _ HAW.out))))⟩
end

end Go.Proofs.Ytmpdjobllpigpaa
