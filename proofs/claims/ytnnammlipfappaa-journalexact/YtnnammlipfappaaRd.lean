/- The reference's journal: in memory; Copied, Note, Ended, follows. -/
import Derived.Test.YtnnammlipfappaaRb

import Derived.Test.YtnnammlipfappaaRc

namespace Go.Proofs.Ytnnammlipfappaa

open Ieee Go.RowKit



def rC (J : Jn) (q : Int) (pv cv dv : Value) : Array Value := #[dv, .int .i64 q, .int .i64 J.n.b, pv, cv, .int .i64 J.n.a, .int .i64 J.g, .int .i64 J.h, .bool J.o]
/-- The reference's journal J lies in block jb, its lists in rows; all of them are of K. -/
structure RM (K : Nat → Prop) (w : World) (jb : Nat) (pv cv dv : Value) (q : Int) (J : Jn) : Prop where
  head : w.heap[jb]? = some (.cells (rC J q pv cv dv) 75 (0, 0))
  lp : OwN 0 w pv J.n.p
  lc : OwN 0 w cv J.n.c
  kj : K jb
  kp : ∀ x, pv.ownBlock = some x → K x ∧ x ≠ jb
  kc : ∀ x, cv.ownBlock = some x → K x ∧ x ≠ jb
  kl : ∀ x, K x → x < w.heap.size
  ok : J.ok q
def Rj (K : Nat → Prop) (w : World) (v dv : Value) (q : Int) (J : Jn) : Prop := ∃ jb pv cv, v = .pointer (some ⟨jb, 0, none⟩) ∧ RM K w jb pv cv dv q J
section

variable {K : Nat → Prop} {w w' : World} {v dv pv cv : Value} {q : Int} {J : Jn} {n : Nt} {jb : Nat}

theorem RM.np (h : RM K w jb pv cv dv q J) : Nv w pv J.n.p := own_nv h.lp (rgt_p64 h.ok.r)
theorem RM.nc (h : RM K w jb pv cv dv q J) : Nv w cv J.n.c := own_nv h.lc (rgt_c64 h.ok.r)
theorem RM.keep (h : RM K w jb pv cv dv q J) (hk : ∀ x, K x → w'.heap[x]? = w.heap[x]?) (hs : w.heap.size ≤ w'.heap.size) : RM K w' jb pv cv dv q J :=
  ⟨by rw [hk _ h.kj]; exact h.head, row_keep h.lp fun x hx => hk x (h.kp x hx).1, row_keep h.lc fun x hx => hk x (h.kc x hx).1, h.kj, h.kp, h.kc, fun x hx => Nat.lt_of_lt_of_le (h.kl x hx) hs, h.ok⟩
theorem Rj.keep (h : Rj K w v dv q J) (hk : ∀ x, K x → w'.heap[x]? = w.heap[x]?) (hs : w.heap.size ≤ w'.heap.size) : Rj K w' v dv q J := by
  obtain ⟨jb, pv, cv, e, h⟩ := h
  exact ⟨jb, pv, cv, e, h.keep hk hs⟩
theorem Rj.lt (h : Rj K w v dv q J) {x : Nat} (hx : K x) : x < w.heap.size := by
  obtain ⟨jb, pv, cv, e, h⟩ := h
  exact h.kl x hx
theorem Rj.ok (h : Rj K w v dv q J) : J.ok q := by
  obtain ⟨jb, pv, cv, e, h⟩ := h
  exact h.ok
theorem Rj.below (h : Rj K w v dv q J) (hb : Below w.heap.size w w') : Rj K w' v dv q J := h.keep (fun x hx => hb.block x (h.lt hx)) hb.size
theorem RM.below (h : RM K w jb pv cv dv q J) (hb : Below w.heap.size w w') : RM K w' jb pv cv dv q J := h.keep (fun x hx => hb.block x (h.kl x hx)) hb.size
theorem RM.cell (h : RM K w jb pv cv dv q J) (i : Nat) : w.cell? ⟨jb, i, none⟩ = (rC J q pv cv dv)[i]? := blk_cell h.head i
theorem RM.soft (h : RM K w jb pv cv dv q J) (i : Nat) : w.frozen? ⟨jb, i, none⟩ = false := blk_soft h.head i
def Nk (g : Nat) (n : Nt) (pv cv : Value) (wx : World) : Prop := wx.heap[g]? = some (.cells #[.int .i64 n.b, pv, cv, .int .i64 n.a] 41 (0, 0))
theorem nk_below {g : Nat} {w0 wx : World} (h : Nk g n pv cv w0) (hb : Below w0.heap.size w0 wx) : Nk g n pv cv wx := blk_below h hb
theorem nk_set {g : Nat} {w0 wx : World} (h : Nk g n pv cv w0) (hg : w0.grownBy wx (some (g + 1))) : Nk g n pv cv wx := by
  unfold Nk
  rw [hg.block g (blk_lt h) (by simp)]
  exact h
theorem cp_base {o : Obj} {e : Ending} (h : CpGot (w.alloc o) n e w') : CpGot w n e w' := by
  obtain ⟨pa, pc, ca, cc, he, h1, h2, hb⟩ := h
  have hs := alloc_size w o
  exact ⟨pa, pc, ca, cc, he, own_base h1 (by omega), own_base h2 (by omega), below_trans (below_alloc w o) hb⟩
set_option maxRecDepth 100000 in
set_option maxHeartbeats 2000000 in
theorem rcopied_walk (hp : Nv w pv n.p) (hc : Nv w cv n.c) (hpl : n.p.length * 8 ≤ 140737488355328) (hcl : n.c.length * 8 ≤ 140737488355328) :
    Calls Try.prog 49 #[.agg #[.int .i64 n.b, pv, cv, .int .i64 n.a]] w (CpGot w n) := by
  have HPL : Hid (n.p.length * 8 ≤ 140737488355328) := hpl
  have HCL : Hid (n.c.length * 8 ≤ 140737488355328) := hcl
  obtain ⟨po, pc, rfl, hlp, _⟩ := hp.form
  obtain ⟨co, cc, rfl, hlc, _⟩ := hc.form
  obtain ⟨w0, hw0⟩ : ∃ w0, w0 = (w.alloc (Obj.cells #[.int .i64 n.b, .slice po n.p.length pc, .slice co n.c.length cc, .int .i64 n.a] 41)).alloc (Obj.cells #[.int .i64 0, .slice none 0 0, .slice none 0 0, .int .i64 0] 41) := ⟨_, rfl⟩
  have HW0 : Hid (w0 = (w.alloc (Obj.cells #[.int .i64 n.b, .slice po n.p.length pc, .slice co n.c.length cc, .int .i64 n.a] 41)).alloc (Obj.cells #[.int .i64 0, .slice none 0 0, .slice none 0 0, .int .i64 0] 41)) := hw0
  have hB0 : Below w.heap.size w w0 := by rw [hw0]; exact below_trans (below_alloc _ _) (below_alloc _ _)
  have HP : Hid (Nv w0 (.slice po n.p.length pc) n.p) := hp.below hB0
  have HC : Hid (Nv w0 (.slice co n.c.length cc) n.c) := hc.below hB0
  have HN : Hid (w0.heap[w.heap.size]? = some (.cells #[.int .i64 n.b, .slice po n.p.length pc, .slice co n.c.length cc, .int .i64 n.a] 41 (0, 0))) := by show _ = _; rw [hw0]; exact alloc_old (alloc_at rfl)
  have HZ : Hid (w0.heap[w.heap.size + 1]? = some (.cells #[.int .i64 0, .slice none 0 0, .slice none 0 0, .int .i64 0] 41 (0, 0))) := by show _ = _; rw [hw0]; exact alloc_at (by simp)
  clear hp hc hpl hcl hw0 hB0
  go_enter Try.func49, Try.ntmps49
  go_upto_region 1 with fail
  rw [← HW0.out]
  have k0 : ∀ wx, Nk w.heap.size n (.slice po n.p.length pc) (.slice co n.c.length cc) wx → wx.cell? ⟨w.heap.size, 0, none⟩ = some (.int .i64 n.b) := fun wx h => by rw [blk_cell h]; rfl
  have k1 : ∀ wx, Nk w.heap.size n (.slice po n.p.length pc) (.slice co n.c.length cc) wx → wx.cell? ⟨w.heap.size, 1, none⟩ = some (.slice po n.p.length pc) := fun wx h => by rw [blk_cell h]; rfl
  have k2 : ∀ wx, Nk w.heap.size n (.slice po n.p.length pc) (.slice co n.c.length cc) wx → wx.cell? ⟨w.heap.size, 2, none⟩ = some (.slice co n.c.length cc) := fun wx h => by rw [blk_cell h]; rfl
  have k3 : ∀ wx, Nk w.heap.size n (.slice po n.p.length pc) (.slice co n.c.length cc) wx → wx.cell? ⟨w.heap.size, 3, none⟩ = some (.int .i64 n.a) := fun wx h => by rw [blk_cell h]; rfl
  refine wp_region_noPanic ?_
  refine wp_region_held_drew (S := Nk w.heap.size n (.slice po n.p.length pc) (.slice co n.c.length cc)) (by kernel_rfl) ?_ (fun hHeld => ?_)
  · exact (nk_below HN.out (below_drewN w0 1))
  refine wpAnyH_take (i := 0) (oi := ⟨some 3, _, _, _, _, _⟩) (v := ?_) rfl (by kernel_rfl) (by kernel_rfl) (by kernel_rfl) (fun _ _ _ h => h) (Or.inl ⟨by rfl, ?_⟩) hHeld ?_
  rotate_left
  · intro w hSw; (try dsimp only at hSw); go_simp; all_goals (with_reducible rfl)
  try simp only [Act.put, List.setIfInBounds_toArray, List.set_cons_zero, List.set_cons_succ]
  refine wpAnyH_take (i := 1) (oi := ⟨some 4, _, _, _, _, _⟩) (v := ?_) rfl (by kernel_rfl) (by kernel_rfl) (by kernel_rfl) (fun _ _ _ h => h) (Or.inl ⟨by rfl, ?_⟩) hHeld ?_
  rotate_left
  · intro w hSw; (try dsimp only at hSw); go_simp; all_goals (with_reducible rfl)
  try simp only [Act.put, List.setIfInBounds_toArray, List.set_cons_zero, List.set_cons_succ]
  refine wpAnyH_take (i := 2) (oi := ⟨some 5, _, _, _, _, _⟩) (v := ?_) rfl (by kernel_rfl) (by kernel_rfl) (by kernel_rfl) (fun _ _ _ h => h) (Or.inl ⟨by rfl, ?_⟩) hHeld ?_
  rotate_left
  · intro w hSw; (try dsimp only at hSw); go_simp; all_goals (with_reducible rfl)
  try simp only [Act.put, List.setIfInBounds_toArray, List.set_cons_zero, List.set_cons_succ]
  refine wpAnyH_take (i := 3) (oi := ⟨some 6, _, _, _, _, _⟩) (v := ?_) rfl (by kernel_rfl) (by kernel_rfl) (by kernel_rfl) (fun _ _ _ h => h) (Or.inl ⟨by rfl, ?_⟩) hHeld ?_
  rotate_left
  · intro w hSw; (try dsimp only at hSw); go_simp; all_goals (with_reducible rfl)
  try simp only [Act.put, List.setIfInBounds_toArray, List.set_cons_zero, List.set_cons_succ]
  refine wpAnyH_take (i := 4) (oi := ⟨some 7, _, _, _, _, _⟩) (v := ?_) rfl (by kernel_rfl) (by kernel_rfl) (by kernel_rfl) (fun _ _ _ h => h) (Or.inl ⟨by rfl, ?_⟩) hHeld ?_
  rotate_left
  · intro w hSw; (try dsimp only at hSw); go_simp; all_goals (with_reducible rfl)
  try simp only [Act.put, List.setIfInBounds_toArray, List.set_cons_zero, List.set_cons_succ]
  refine wpAnyH_take (i := 5) (oi := ⟨some 8, _, _, _, _, _⟩) (v := ?_) rfl (by kernel_rfl) (by kernel_rfl) (by kernel_rfl) (fun _ _ _ h => h) (Or.inl ⟨by rfl, ?_⟩) hHeld ?_
  rotate_left
  · intro w hSw; (try dsimp only at hSw); go_simp; all_goals (with_reducible rfl)
  try simp only [Act.put, List.setIfInBounds_toArray, List.set_cons_zero, List.set_cons_succ]
  refine wpAnyH_take (i := 7) (oi := ⟨some 10, _, _, _, _, _⟩) (v := ?_) rfl (by kernel_rfl) (by kernel_rfl) (by kernel_rfl) (fun _ _ _ h => h) (Or.inl ⟨by rfl, ?_⟩) hHeld ?_
  rotate_left
  · intro w hSw; (try dsimp only at hSw); go_simp; all_goals (with_reducible rfl)
  try simp only [Act.put, List.setIfInBounds_toArray, List.set_cons_zero, List.set_cons_succ]
  refine wpAnyH_take (i := 8) (oi := ⟨some 11, _, _, _, _, _⟩) (v := ?_) rfl (by kernel_rfl) (by kernel_rfl) (by kernel_rfl) (fun _ _ _ h => h) (Or.inl ⟨by rfl, ?_⟩) hHeld ?_
  rotate_left
  · intro w hSw; (try dsimp only at hSw); go_simp; all_goals (with_reducible rfl)
  try simp only [Act.put, List.setIfInBounds_toArray, List.set_cons_zero, List.set_cons_succ]
  refine wpAnyH_take (i := 9) (oi := ⟨some 12, _, _, _, _, _⟩) (v := ?_) rfl (by kernel_rfl) (by kernel_rfl) (by kernel_rfl) (fun _ _ _ h => h) (Or.inl ⟨by rfl, ?_⟩) hHeld ?_
  rotate_left
  · intro w hSw; (try dsimp only at hSw); go_simp; all_goals (with_reducible rfl)
  try simp only [Act.put, List.setIfInBounds_toArray, List.set_cons_zero, List.set_cons_succ]
  refine wpAnyH_take (i := 12) (oi := ⟨some 15, _, _, _, _, _⟩) (v := ?_) rfl (by kernel_rfl) (by kernel_rfl) (by kernel_rfl) (fun _ _ _ h => h) (Or.inl ⟨by rfl, ?_⟩) hHeld ?_
  rotate_left
  · intro w hSw; (try dsimp only at hSw); go_simp; all_goals (with_reducible rfl)
  try simp only [Act.put, List.setIfInBounds_toArray, List.set_cons_zero, List.set_cons_succ]
  refine wpAnyH_take (i := 13) (oi := ⟨some 16, _, _, _, _, _⟩) (v := ?_) rfl (by kernel_rfl) (by kernel_rfl) (by kernel_rfl) (fun _ _ _ h => h) (Or.inl ⟨by rfl, ?_⟩) hHeld ?_
  rotate_left
  · intro w hSw; (try dsimp only at hSw); go_simp; all_goals (with_reducible rfl)
  try simp only [Act.put, List.setIfInBounds_toArray, List.set_cons_zero, List.set_cons_succ]
  refine wpAnyH_ready (rs := [6]) (by kernel_rfl) (by simp) ?_
  refine AllReadyH.cons (o := ⟨some 9, _, _, _, _, _⟩) rfl (fun K hK => ?_) AllReadyH.nil
  go_simp
  refine (rcop_walk (HP.out.below (below_drewN w0 1)) HPL.out).mono ?_
  rintro e w1 ⟨v1, rfl, ho1, hB1⟩
  have HO1 : Hid (OwN w0.heap.size w1 v1 n.p) := own_base ho1 (below_drewN w0 1).size
  have HB1 : Hid (Below w0.heap.size w0 w1) := below_trans (below_drewN w0 1) hB1
  obtain ⟨_, pa, pc2, rfl, _⟩ := own_nl ho1
  clear ho1 hB1
  refine hK.out _ _ ?_ (fun hHeld => ?_)
  · exact (nk_below HN.out HB1.out)
  clear hK K
  try simp only [Act.put, List.setIfInBounds_toArray, List.set_cons_zero, List.set_cons_succ]
  refine wpAnyH_ready (rs := [10]) (by kernel_rfl) (by simp) ?_
  refine AllReadyH.cons (o := ⟨some 13, _, _, _, _, _⟩) rfl (fun K hK => ?_) AllReadyH.nil
  go_simp
  refine (rcop_walk (HC.out.below HB1.out) HCL.out).mono ?_
  rintro e w2 ⟨v2, rfl, ho2, hB2⟩
  have HO2 : Hid (OwN w0.heap.size w2 v2 n.c) := own_base ho2 HB1.out.size
  have HO1b : Hid (OwN w0.heap.size w2 (.slice pa n.p.length pc2) n.p) := row_keep HO1.out fun x hx => hB2.block x (HO1.out.lt x hx).2
  have HB2 : Hid (Below w0.heap.size w0 w2) := below_trans HB1.out hB2
  obtain ⟨_, ca, cc2, rfl, _⟩ := own_nl ho2
  have hz := blk_below HZ.out HB2.out
  have r0 : w2.cell? ⟨w.heap.size + 1, 0, none⟩ = some (.int .i64 0) := by rw [blk_cell hz]; rfl
  have f0 : w2.frozen? ⟨w.heap.size + 1, 0, none⟩ = false := blk_soft hz 0
  have r1 : w2.cell? ⟨w.heap.size + 1, 1, none⟩ = some (.slice none 0 0) := by rw [blk_cell hz]; rfl
  have f1 : w2.frozen? ⟨w.heap.size + 1, 1, none⟩ = false := blk_soft hz 1
  have r2 : w2.cell? ⟨w.heap.size + 1, 2, none⟩ = some (.slice none 0 0) := by rw [blk_cell hz]; rfl
  have f2 : w2.frozen? ⟨w.heap.size + 1, 2, none⟩ = false := blk_soft hz 2
  have r3 : w2.cell? ⟨w.heap.size + 1, 3, none⟩ = some (.int .i64 0) := by rw [blk_cell hz]; rfl
  have f3 : w2.frozen? ⟨w.heap.size + 1, 3, none⟩ = false := blk_soft hz 3
  clear hz ho2 hB2
  refine hK.out _ _ ?_ (fun hHeld => ?_)
  · exact (nk_below HN.out HB2.out)
  clear hK K
  try simp only [Act.put, List.setIfInBounds_toArray, List.set_cons_zero, List.set_cons_succ]
  refine wpAnyH_take (i := 11) (oi := ⟨some 14, _, _, _, _, _⟩) (v := ?_) rfl (by kernel_rfl) (by kernel_rfl) (by kernel_rfl) (fun _ _ _ h => h) (Or.inl ⟨by rfl, ?_⟩) hHeld ?_
  rotate_left
  · intro w hSw; (try dsimp only at hSw); go_simp; all_goals (with_reducible rfl)
  try simp only [Act.put, List.setIfInBounds_toArray, List.set_cons_zero, List.set_cons_succ]
  refine wpAnyH_take (i := 14) (oi := ⟨some 17, _, _, _, _, _⟩) (v := ?_) rfl (by kernel_rfl) (by kernel_rfl) (by kernel_rfl) (fun _ _ _ h => h) (Or.inl ⟨by rfl, ?_⟩) hHeld ?_
  rotate_left
  · intro w hSw; (try dsimp only at hSw); go_simp; all_goals (with_reducible rfl)
  try simp only [Act.put, List.setIfInBounds_toArray, List.set_cons_zero, List.set_cons_succ]
  refine wpAnyH_ready (rs := [15]) (by kernel_rfl) (by simp) ?_
  refine AllReadyH.cons (o := ⟨none, _, _, _, _, _⟩) rfl (fun K hK => ?_) AllReadyH.nil
  go_simp
  refine hK.out _ _ ?_ (fun hHeld => ?_)
  · exact (nk_set (nk_below HN.out HB2.out) (grown_set4 _ _ _ _ _ _))
  clear hK K
  try simp only [Act.put, List.setIfInBounds_toArray, List.set_cons_zero, List.set_cons_succ]
  refine wpAnyH_done (by kernel_rfl) ?_ _
  refine NoPanic.normal ?_
  go_wp2_with fail
  (try simp only [Exit.inBlock, Exit.then])
  refine bodyPost_ret (v := .agg #[.int .i64 n.b, .slice pa n.p.length pc2, .slice ca n.c.length cc2, .int .i64 n.a]) (by rw [results_cell1 rfl]; go_simp) rfl ?_
  refine cp_base (note_end (by rw [← HW0.out]; exact HO1b.out) (by rw [← HW0.out]; exact HO2.out) (by rw [← HW0.out]; exact HB2.out) ?_)
  rw [alloc_size]
  exact grown_set4 _ _ _ _ _ _
theorem rended_nil : Calls Try.prog 24 #[.pointer none] w fun e w' => e = .returned (.bool false) ∧ w' = w := by
  go_enter Try.func24, Try.ntmps24
  go_wp2_with fail
  go_ret
  exact ⟨rfl, rfl⟩
theorem rended_walk (h : Rj K w v dv q J) : Calls Try.prog 24 #[v] w fun e w' => e = .returned (.bool J.o) ∧ w' = w := by
  obtain ⟨jb, pv, cv, rfl, h⟩ := h
  have c8 : w.cell? ⟨jb, 8, none⟩ = some (.bool J.o) := by rw [h.cell]; rfl
  clear h
  go_enter Try.func24, Try.ntmps24
  go_wp2_with fail
  go_ret
  exact ⟨rfl, rfl⟩
set_option maxRecDepth 100000 in
theorem rnote_nil : Calls Try.prog 22 #[.pointer none] w fun e w' => e = .returned (.agg #[.int .i64 0, .slice none 0 0, .slice none 0 0, .int .i64 0]) ∧ Below w.heap.size w w' := by
  go_enter Try.func22, Try.ntmps22
  go_wp2_with fail
  (try simp only [Exit.inBlock, Exit.then])
  refine bodyPost_ret (v := .agg #[.int .i64 0, .slice none 0 0, .slice none 0 0, .int .i64 0]) (by rw [results_cell1 rfl]; go_simp) rfl ?_
  exact ⟨rfl, by first | exact below_alloc _ _ | exact (below_alloc _ _).grown (grown_set4 _ _ _ _ _ _) (by simp) (fun x hx => by cases hx; omega)⟩
set_option maxRecDepth 100000 in
set_option maxHeartbeats 2000000 in
theorem rnote_walk (h : Rj K w v dv q J) : Calls Try.prog 22 #[v] w (CpGot w J.n) := by
  obtain ⟨jb, pv, cv, rfl, h⟩ := h
  obtain ⟨w0, hw0⟩ : ∃ w0, w0 = w.alloc (Obj.cells #[.int .i64 0, .slice none 0 0, .slice none 0 0, .int .i64 0] 41) := ⟨_, rfl⟩
  have HW0 : Hid (w0 = w.alloc (Obj.cells #[.int .i64 0, .slice none 0 0, .slice none 0 0, .int .i64 0] 41)) := hw0
  have hB0 : Below w.heap.size w w0 := by rw [hw0]; exact below_alloc _ _
  have h0 : RM K w0 jb pv cv dv q J := h.below hB0
  have HM : Hid (RM K w0 jb pv cv dv q J) := h0
  have hz : w0.heap[w.heap.size]? = some (.cells #[.int .i64 0, .slice none 0 0, .slice none 0 0, .int .i64 0] 41 (0, 0)) := by rw [hw0]; exact alloc_at rfl
  have HZ : Hid (w0.heap[w.heap.size]? = some (.cells #[.int .i64 0, .slice none 0 0, .slice none 0 0, .int .i64 0] 41 (0, 0))) := hz
  obtain ⟨⟨po, pc, rfl, _⟩, _⟩ := h0.np
  obtain ⟨⟨co, cc, rfl, _⟩, _⟩ := h0.nc
  have c1 : w.cell? ⟨jb, 2, none⟩ = some (.int .i64 J.n.b) := by rw [h.cell]; rfl
  have c2 : w.cell? ⟨jb, 3, none⟩ = some (.slice po J.n.p.length pc) := by rw [h.cell]; rfl
  have c3 : w.cell? ⟨jb, 4, none⟩ = some (.slice co J.n.c.length cc) := by rw [h.cell]; rfl
  have c4 : w.cell? ⟨jb, 5, none⟩ = some (.int .i64 J.n.a) := by rw [h.cell]; rfl
  have hjl : jb < w.heap.size := h.kl _ h.kj
  have hjn : ¬ jb = w.heap.size := by omega
  clear h h0 hw0 hB0 hz
  go_enter Try.func22, Try.ntmps22
  go_wp2_with fail
  rw [← HW0.out]
  refine (rcopied_walk HM.out.np HM.out.nc (rgt_p8 HM.out.ok.r HM.out.ok.q4) (rgt_c8 HM.out.ok.r HM.out.ok.q4)).mono ?_
  rintro e w2 ⟨pa, pc2, ca, cc2, rfl, ho1, ho2, hB2⟩
  have HO1 : Hid (OwN w0.heap.size w2 (.slice pa J.n.p.length pc2) J.n.p) := ho1
  have HO2 : Hid (OwN w0.heap.size w2 (.slice ca J.n.c.length cc2) J.n.c) := ho2
  have HB2 : Hid (Below w0.heap.size w0 w2) := hB2
  have hz := blk_below HZ.out hB2
  have r0 : w2.cell? ⟨w.heap.size, 0, none⟩ = some (.int .i64 0) := by rw [blk_cell hz]; rfl
  have r1 : w2.cell? ⟨w.heap.size, 1, none⟩ = some (.slice none 0 0) := by rw [blk_cell hz]; rfl
  have r2 : w2.cell? ⟨w.heap.size, 2, none⟩ = some (.slice none 0 0) := by rw [blk_cell hz]; rfl
  have r3 : w2.cell? ⟨w.heap.size, 3, none⟩ = some (.int .i64 0) := by rw [blk_cell hz]; rfl
  have f0 : w2.frozen? ⟨w.heap.size, 0, none⟩ = false := blk_soft hz 0
  have f1 : w2.frozen? ⟨w.heap.size, 1, none⟩ = false := blk_soft hz 1
  have f2 : w2.frozen? ⟨w.heap.size, 2, none⟩ = false := blk_soft hz 2
  have f3 : w2.frozen? ⟨w.heap.size, 3, none⟩ = false := blk_soft hz 3
  clear hz ho1 ho2 hB2
  go_wp2_with fail
  (try simp only [Exit.inBlock, Exit.then])
  refine bodyPost_ret (v := .agg #[.int .i64 J.n.b, .slice pa J.n.p.length pc2, .slice ca J.n.c.length cc2, .int .i64 J.n.a]) (by rw [results_cell1 rfl]; go_simp) rfl ?_
  exact note_end (by rw [← HW0.out]; exact HO1.out) (by rw [← HW0.out]; exact HO2.out) (by rw [← HW0.out]; exact HB2.out) (grown_set4 _ _ _ _ _ _)
end

end Go.Proofs.Ytnnammlipfappaa


