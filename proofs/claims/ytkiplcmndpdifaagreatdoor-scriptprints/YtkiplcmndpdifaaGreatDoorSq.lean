/- Parse. Printed by gen_sq21.py. -/
import Derived.Test.YtkiplcmndpdifaaGreatDoorSp

import Derived.Defers

import Derived.Recover

namespace Go.Proofs.YtkiplcmndpdifaaGreatDoor

open Go.RowKit



/-- A plan as a value. -/
def PlV (p : Pl) (ov : Value) : Value := .agg #[.int .i64 p.P, .int .i64 p.S, .int .i64 p.W, ov, .int .i64 p.A, .int .i64 p.B, .int .i64 p.N, .int .i64 p.G]


/-- Parse's four results, in their blocks. -/
structure PR (N : Nat) (pc : Array Value) (sv lv ev : Value) (w : World) : Prop where
  p : w.heap[N]? = some (.cells pc 25 (0, 0))
  s : w.heap[N + 1]? = some (.cells #[sv] 26 (0, 0))
  l : w.heap[N + 2]? = some (.cells #[lv] 3 (0, 0))
  e : w.heap[N + 3]? = some (.cells #[ev] 27 (0, 0))


theorem PR.ch {D : Nat → Prop} {N : Nat} {pc : Array Value} {sv lv ev : Value} {w w' : World} (h : PR N pc sv lv ev w) (hc : Ch D w w') (hd : ∀ x, D x → x < N ∨ N + 4 ≤ x) : PR N pc sv lv ev w' :=
  ⟨blk_ch h.p hc (fun e => by have := hd _ e; omega), blk_ch h.s hc (fun e => by have := hd _ e; omega), blk_ch h.l hc (fun e => by have := hd _ e; omega), blk_ch h.e hc (fun e => by have := hd _ e; omega)⟩


/-- All eight cells of a block are written. -/
def set8 (w : World) (N : Nat) (a b c d e f g h : Value) : World := (((((((w.setCell ⟨N, 0, none⟩ a).setCell ⟨N, 1, none⟩ b).setCell ⟨N, 2, none⟩ c).setCell ⟨N, 3, none⟩ d).setCell ⟨N, 4, none⟩ e).setCell ⟨N, 5, none⟩ f).setCell ⟨N, 6, none⟩ g).setCell ⟨N, 7, none⟩ h


theorem set8_blk {w : World} {N : Nat} {t : TypeId} {x0 x1 x2 x3 x4 x5 x6 x7 : Value} (a b c d e f g h : Value) (hb : w.heap[N]? = some (.cells #[x0, x1, x2, x3, x4, x5, x6, x7] t (0, 0))) : (set8 w N a b c d e f g h).heap[N]? = some (.cells #[a, b, c, d, e, f, g, h] t (0, 0)) := by
  unfold set8
  rw [set_row (set_row (set_row (set_row (set_row (set_row (set_row (set_row hb)))))))]
  simp only [List.setIfInBounds_toArray, List.set_cons_zero, List.set_cons_succ]
theorem set8_ch (w : World) (N : Nat) (a b c d e f g h : Value) : Ch (fun x => x = N) w (set8 w N a b c d e f g h) :=
  (((((((ch_set _ _ _ _).self (ch_set _ _ _ _)).self (ch_set _ _ _ _)).self (ch_set _ _ _ _)).self (ch_set _ _ _ _)).self (ch_set _ _ _ _)).self (ch_set _ _ _ _)).self (ch_set _ _ _ _)


/-- The four results are written. -/
def setR (w : World) (N : Nat) (a b c d e f g h sv lv ev : Value) : World := (((set8 w N a b c d e f g h).setCell ⟨N + 1, 0, none⟩ sv).setCell ⟨N + 2, 0, none⟩ lv).setCell ⟨N + 3, 0, none⟩ ev


theorem setR_pr {w : World} {N : Nat} {x0 x1 x2 x3 x4 x5 x6 x7 s0 l0 e0 : Value} (a b c d e f g h sv lv ev : Value) (hp : PR N #[x0, x1, x2, x3, x4, x5, x6, x7] s0 l0 e0 w) :
    PR N #[a, b, c, d, e, f, g, h] sv lv ev (setR w N a b c d e f g h sv lv ev) ∧ Ch (fun x => N ≤ x ∧ x < N + 4) w (setR w N a b c d e f g h sv lv ev) := by
  have h8 := set8_ch w N a b c d e f g h
  unfold setR
  refine ⟨⟨?_, ?_, ?_, ?_⟩, ?_⟩
  · exact blk_ch (blk_ch (blk_ch (set8_blk a b c d e f g h hp.p) (ch_set _ _ _ _) (by omega)) (ch_set _ _ _ _) (by omega)) (ch_set _ _ _ _) (by omega)
  · exact blk_ch (blk_ch (set_row (blk_ch hp.s h8 (by omega))) (ch_set _ _ _ _) (by omega)) (ch_set _ _ _ _) (by omega)
  · exact blk_ch (set_row (blk_ch (blk_ch hp.l h8 (by omega)) (ch_set _ _ _ _) (by omega))) (ch_set _ _ _ _) (by omega)
  · exact set_row (blk_ch (blk_ch (blk_ch hp.e h8 (by omega)) (ch_set _ _ _ _) (by omega)) (ch_set _ _ _ _) (by omega))
  · exact (((h8.le fun x hx => by omega).self ((ch_set _ _ _ _).le fun x hx => by omega)).self ((ch_set _ _ _ _).le fun x hx => by omega)).self ((ch_set _ _ _ _).le fun x hx => by omega)


theorem pcatch_idle (a b c d e : Addr) (w : World) :
    CallsD Tryz.prog 12 #[.pointer (some a), .pointer (some b), .pointer (some c), .pointer (some d), .pointer (some e)] .returning w fun e u' w' => e = .returned (.tuple #[]) ∧ u' = .returning ∧ w' = w := by
  refine callsD_of_wpS Tryz.func12 rfl fun c₀ cs hu => ?_
  apply wpS_seq
  apply wpS_region
  simp [wpOpsS, go_sem, recoverD, hu, Tryz.ntmps12, Exit.thenS]
  refine wpS_cond (t := false) (by simp [Act.eval, Array.replicate]) ?_
  simp only [Bool.false_eq_true, if_false]
  refine wpS_of_wp (wp_skip ?_)
  cases c₀
  simp_all [bodyPostS, results, Tryz.results12]


/-- What the deferred function looks at. -/
def PcS (N : Nat) (ln fa : Int) (wx : World) : Prop := wx.cell? ⟨N + 5, 0, none⟩ = some (.pointer (some ⟨N + 4, 0, none⟩)) ∧ wx.cell? ⟨N + 4, 0, none⟩ = some (.int .i64 ln) ∧ wx.cell? ⟨N + 4, 2, none⟩ = some (.int .i64 fa)


theorem PcS.ch {N : Nat} {ln fa : Int} {D : Nat → Prop} {w w' : World} (h : PcS N ln fa w) (hc : Ch D w w') (hd : ∀ x, D x → x < N + 4) : PcS N ln fa w' :=
  ⟨hc.cell h.1 (fun e => by have := hd _ e; simp at this), hc.cell h.2.1 (fun e => by have := hd _ e; simp at this), hc.cell h.2.2 (fun e => by have := hd _ e; simp at this)⟩


theorem PcS.drew {N : Nat} {ln fa : Int} {w : World} (h : PcS N ln fa w) : PcS N ln fa w.drew := h


set_option maxRecDepth 100000 in
set_option maxHeartbeats 8000000 in
theorem pcatch_go {N : Nat} {w : World} {x0 x1 x2 x3 x4 x5 x6 x7 s0 l0 e0 : Value} {ln fa : Int} (u : TypeId) (pu : Value) (older : List PanicEntry) (hp : PR N #[x0, x1, x2, x3, x4, x5, x6, x7] s0 l0 e0 w) (hs : PcS N ln fa w) :
    CallsD Tryz.prog 12 #[.pointer (some ⟨N + 5, 0, none⟩), .pointer (some ⟨N, 0, none⟩), .pointer (some ⟨N + 1, 0, none⟩), .pointer (some ⟨N + 2, 0, none⟩), .pointer (some ⟨N + 3, 0, none⟩)] (.panicking ({ v := .iface u pu, recovered := false } :: older)) w fun e u' w' =>
      e = .returned (.tuple #[]) ∧ u' = .panicking ({ v := .iface u pu, recovered := true } :: older) ∧ w' = (setR w N (.int .i64 0) (.int .i64 0) (.int .i64 0) (.slice none 0 0) (.int .i64 0) (.int .i64 0) (.int .i64 0) (.int .i64 0) (.slice none 0 0) (.int .i64 ln) (.int .i64 fa)).drew := by
  have c0 : w.cell? ⟨N, 0, none⟩ = some x0 := by rw [blk_cell hp.p]; rfl
  have z0 : w.frozen? ⟨N, 0, none⟩ = false := blk_soft hp.p 0
  have c1 : w.cell? ⟨N, 1, none⟩ = some x1 := by rw [blk_cell hp.p]; rfl
  have z1 : w.frozen? ⟨N, 1, none⟩ = false := blk_soft hp.p 1
  have c2 : w.cell? ⟨N, 2, none⟩ = some x2 := by rw [blk_cell hp.p]; rfl
  have z2 : w.frozen? ⟨N, 2, none⟩ = false := blk_soft hp.p 2
  have c3 : w.cell? ⟨N, 3, none⟩ = some x3 := by rw [blk_cell hp.p]; rfl
  have z3 : w.frozen? ⟨N, 3, none⟩ = false := blk_soft hp.p 3
  have c4 : w.cell? ⟨N, 4, none⟩ = some x4 := by rw [blk_cell hp.p]; rfl
  have z4 : w.frozen? ⟨N, 4, none⟩ = false := blk_soft hp.p 4
  have c5 : w.cell? ⟨N, 5, none⟩ = some x5 := by rw [blk_cell hp.p]; rfl
  have z5 : w.frozen? ⟨N, 5, none⟩ = false := blk_soft hp.p 5
  have c6 : w.cell? ⟨N, 6, none⟩ = some x6 := by rw [blk_cell hp.p]; rfl
  have z6 : w.frozen? ⟨N, 6, none⟩ = false := blk_soft hp.p 6
  have c7 : w.cell? ⟨N, 7, none⟩ = some x7 := by rw [blk_cell hp.p]; rfl
  have z7 : w.frozen? ⟨N, 7, none⟩ = false := blk_soft hp.p 7
  have d1 : w.cell? ⟨N + 1, 0, none⟩ = some s0 := by rw [blk_cell hp.s]; rfl
  have d2 : w.cell? ⟨N + 2, 0, none⟩ = some l0 := by rw [blk_cell hp.l]; rfl
  have d3 : w.cell? ⟨N + 3, 0, none⟩ = some e0 := by rw [blk_cell hp.e]; rfl
  have y1 : w.frozen? ⟨N + 1, 0, none⟩ = false := blk_soft hp.s 0
  have y2 : w.frozen? ⟨N + 2, 0, none⟩ = false := blk_soft hp.l 0
  have y3 : w.frozen? ⟨N + 3, 0, none⟩ = false := blk_soft hp.e 0
  have HS0 : Hid (PcS N ln fa w) := hs
  have HSS : Hid (PcS N ln fa w.drew) := hs
  have k0 : ∀ wx, PcS N ln fa wx → wx.cell? ⟨N + 5, 0, none⟩ = some (.pointer (some ⟨N + 4, 0, none⟩)) := fun wx h => h.1
  have k1 : ∀ wx, PcS N ln fa wx → wx.cell? ⟨N + 4, 0, none⟩ = some (.int .i64 ln) := fun wx h => h.2.1
  have k2 : ∀ wx, PcS N ln fa wx → wx.cell? ⟨N + 4, 2, none⟩ = some (.int .i64 fa) := fun wx h => h.2.2
  clear hs hp
  refine callsD_of_wpS Tryz.func12 rfl fun c₀ cs hu => ?_
  apply wpS_seq
  apply wpS_region
  simp [wpOpsS, go_sem, recoverD, hu, Tryz.ntmps12, Exit.thenS]
  refine wpS_cond (t := true) (by simp [Act.eval, Array.replicate]) ?_
  simp only [if_true]
  refine wpS_of_wp ?_
  simp only [Array.replicate_succ, Array.replicate_zero, List.push_toArray, List.append_toArray, List.nil_append, List.cons_append, List.setIfInBounds_toArray, List.set_cons_zero, List.set_cons_succ]
  refine wp_region_noPanic ?_
  refine wp_region_held_drew (S := PcS N ln fa) (by kernel_rfl) ?_ (fun hHeld => ?_)
  · exact HSS.out
  refine wpAnyH_take (i := 0) (oi := ⟨some 7, _, _, _, _, _⟩) (v := ?_) rfl (by kernel_rfl) (by kernel_rfl) (by kernel_rfl) (fun _ _ _ h => h) (Or.inl ⟨by rfl, ?_⟩) hHeld ?_
  rotate_left
  · intro w hSw; (try dsimp only at hSw); go_simp; all_goals (with_reducible rfl)
  try simp only [Act.put, List.setIfInBounds_toArray, List.set_cons_zero, List.set_cons_succ]
  refine wpAnyH_take (i := 1) (oi := ⟨some 8, _, _, _, _, _⟩) (v := ?_) rfl (by kernel_rfl) (by kernel_rfl) (by kernel_rfl) (fun _ _ _ h => h) (Or.inl ⟨by rfl, ?_⟩) hHeld ?_
  rotate_left
  · intro w hSw; (try dsimp only at hSw); go_simp; all_goals (with_reducible rfl)
  try simp only [Act.put, List.setIfInBounds_toArray, List.set_cons_zero, List.set_cons_succ]
  refine wpAnyH_take (i := 2) (oi := ⟨some 9, _, _, _, _, _⟩) (v := ?_) rfl (by kernel_rfl) (by kernel_rfl) (by kernel_rfl) (fun _ _ _ h => h) (Or.inl ⟨by rfl, ?_⟩) hHeld ?_
  rotate_left
  · intro w hSw; (try dsimp only at hSw); go_simp; all_goals (with_reducible rfl)
  try simp only [Act.put, List.setIfInBounds_toArray, List.set_cons_zero, List.set_cons_succ]
  refine wpAnyH_take (i := 3) (oi := ⟨some 10, _, _, _, _, _⟩) (v := ?_) rfl (by kernel_rfl) (by kernel_rfl) (by kernel_rfl) (fun _ _ _ h => h) (Or.inl ⟨by rfl, ?_⟩) hHeld ?_
  rotate_left
  · intro w hSw; (try dsimp only at hSw); go_simp; all_goals (with_reducible rfl)
  try simp only [Act.put, List.setIfInBounds_toArray, List.set_cons_zero, List.set_cons_succ]
  refine wpAnyH_take (i := 4) (oi := ⟨some 11, _, _, _, _, _⟩) (v := ?_) rfl (by kernel_rfl) (by kernel_rfl) (by kernel_rfl) (fun _ _ _ h => h) (Or.inl ⟨by rfl, ?_⟩) hHeld ?_
  rotate_left
  · intro w hSw; (try dsimp only at hSw); go_simp; all_goals (with_reducible rfl)
  try simp only [Act.put, List.setIfInBounds_toArray, List.set_cons_zero, List.set_cons_succ]
  refine wpAnyH_take (i := 5) (oi := ⟨some 12, _, _, _, _, _⟩) (v := ?_) rfl (by kernel_rfl) (by kernel_rfl) (by kernel_rfl) (fun _ _ _ h => h) (Or.inl ⟨by rfl, ?_⟩) hHeld ?_
  rotate_left
  · intro w hSw; (try dsimp only at hSw); go_simp; all_goals (with_reducible rfl)
  try simp only [Act.put, List.setIfInBounds_toArray, List.set_cons_zero, List.set_cons_succ]
  refine wpAnyH_take (i := 6) (oi := ⟨some 13, _, _, _, _, _⟩) (v := ?_) rfl (by kernel_rfl) (by kernel_rfl) (by kernel_rfl) (fun _ _ _ h => h) (Or.inl ⟨by rfl, ?_⟩) hHeld ?_
  rotate_left
  · intro w hSw; (try dsimp only at hSw); go_simp; all_goals (with_reducible rfl)
  try simp only [Act.put, List.setIfInBounds_toArray, List.set_cons_zero, List.set_cons_succ]
  refine wpAnyH_take (i := 7) (oi := ⟨some 14, _, _, _, _, _⟩) (v := ?_) rfl (by kernel_rfl) (by kernel_rfl) (by kernel_rfl) (fun _ _ _ h => h) (Or.inl ⟨by rfl, ?_⟩) hHeld ?_
  rotate_left
  · intro w hSw; (try dsimp only at hSw); go_simp; all_goals (with_reducible rfl)
  try simp only [Act.put, List.setIfInBounds_toArray, List.set_cons_zero, List.set_cons_succ]
  refine wpAnyH_take (i := 8) (oi := ⟨some 15, _, _, _, _, _⟩) (v := ?_) rfl (by kernel_rfl) (by kernel_rfl) (by kernel_rfl) (fun _ _ _ h => h) (Or.inl ⟨by rfl, ?_⟩) hHeld ?_
  rotate_left
  · intro w hSw; (try dsimp only at hSw); go_simp; all_goals (with_reducible rfl)
  try simp only [Act.put, List.setIfInBounds_toArray, List.set_cons_zero, List.set_cons_succ]
  refine wpAnyH_ready (rs := [9]) (by kernel_rfl) (by simp) ?_
  refine AllReadyH.cons (o := ⟨none, _, _, _, _, _⟩) rfl (fun K hK => ?_) AllReadyH.nil
  go_simp
  refine hK.out _ _ ?_ (fun hHeld => ?_)
  · exact (PcS.drew (PcS.ch HS0.out (set8_ch w N _ _ _ _ _ _ _ _) (fun x hx => by omega)))
  clear hK K
  try simp only [Act.put, List.setIfInBounds_toArray, List.set_cons_zero, List.set_cons_succ]
  refine wpAnyH_ready (rs := [10]) (by kernel_rfl) (by simp) ?_
  refine AllReadyH.cons (o := ⟨none, _, _, _, _, _⟩) rfl (fun K hK => ?_) AllReadyH.nil
  go_simp
  refine hK.out _ _ ?_ (fun hHeld => ?_)
  · exact (PcS.drew (PcS.ch (PcS.ch HS0.out (set8_ch w N _ _ _ _ _ _ _ _) (fun x hx => by omega)) (ch_set _ _ _ _) (fun x hx => by omega)))
  clear hK K
  try simp only [Act.put, List.setIfInBounds_toArray, List.set_cons_zero, List.set_cons_succ]
  refine wpAnyH_ready (rs := [11]) (by kernel_rfl) (by simp) ?_
  refine AllReadyH.cons (o := ⟨none, _, _, _, _, _⟩) rfl (fun K hK => ?_) AllReadyH.nil
  go_simp
  refine hK.out _ _ ?_ (fun hHeld => ?_)
  · exact (PcS.drew (PcS.ch (PcS.ch (PcS.ch HS0.out (set8_ch w N _ _ _ _ _ _ _ _) (fun x hx => by omega)) (ch_set _ _ _ _) (fun x hx => by omega)) (ch_set _ _ _ _) (fun x hx => by omega)))
  clear hK K
  try simp only [Act.put, List.setIfInBounds_toArray, List.set_cons_zero, List.set_cons_succ]
  refine wpAnyH_ready (rs := [12]) (by kernel_rfl) (by simp) ?_
  refine AllReadyH.cons (o := ⟨none, _, _, _, _, _⟩) rfl (fun K hK => ?_) AllReadyH.nil
  go_simp
  refine hK.out _ _ ?_ (fun hHeld => ?_)
  · exact (PcS.drew (PcS.ch (PcS.ch (PcS.ch (PcS.ch HS0.out (set8_ch w N _ _ _ _ _ _ _ _) (fun x hx => by omega)) (ch_set _ _ _ _) (fun x hx => by omega)) (ch_set _ _ _ _) (fun x hx => by omega)) (ch_set _ _ _ _) (fun x hx => by omega)))
  clear hK K
  try simp only [Act.put, List.setIfInBounds_toArray, List.set_cons_zero, List.set_cons_succ]
  refine wpAnyH_done (by kernel_rfl) ?_ _
  refine NoPanic.normal ?_
  show bodyPostS _ _ _ _ _ _ _ _ (setR w N (.int .i64 0) (.int .i64 0) (.int .i64 0) (.slice none 0 0) (.int .i64 0) (.int .i64 0) (.int .i64 0) (.int .i64 0) (.slice none 0 0) (.int .i64 ln) (.int .i64 fa)).drew
  generalize (setR w N (.int .i64 0) (.int .i64 0) (.int .i64 0) (.slice none 0 0) (.int .i64 0) (.int .i64 0) (.int .i64 0) (.int .i64 0) (.slice none 0 0) (.int .i64 ln) (.int .i64 fa)).drew = w9
  clear HSS HS0 k0 k1 k2 hHeld c0 c1 c2 c3 c4 c5 c6 c7 z0 z1 z2 z3 z4 z5 z6 z7 d1 d2 d3 y1 y2 y3
  cases c₀
  simp_all [bodyPostS, results, Tryz.results12]
end Go.Proofs.YtkiplcmndpdifaaGreatDoor


