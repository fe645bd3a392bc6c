/- Parse, whole. Printed by gen_sr21.py. -/
import Derived.Test.YtkiplcmndpdifaaGreatDoorSq

namespace Go.Proofs.YtkiplcmndpdifaaGreatDoor

open Go.RowKit



/-- What Parse answers. -/
def ParseGot (A : Except (Nat × Int) Rs) (w : World) (e : Ending) (w' : World) : Prop :=
  match A with
  | .error (n, f) => e = .returned (.tuple #[PlV Pl.zero (.slice none 0 0), .slice none 0 0, .int .i64 (n : Nat), .int .i64 f]) ∧ Below w.heap.size w w'
  | .ok s => ∃ ov sv, e = .returned (.tuple #[PlV s.p ov, sv, .int .i64 0, .int .i64 0]) ∧ w'.ownsRow w.heap.size 53 3 ov s.ops.length (opsF s.ops) ∧ w'.ownsRow w.heap.size 41 5 sv s.sts.length (stsF s.sts) ∧ (∀ x, ov.ownBlock = some x → sv.ownBlock ≠ some x) ∧ Below w.heap.size w w'


theorem own_low {w : World} {a b e sz n : Nat} {v : Value} {xs : List Value} (h : w.ownsRow a e sz v n xs) (hab : b ≤ a) : w.ownsRow b e sz v n xs := by
  obtain ⟨h1, h2⟩ := h
  refine ⟨h1, ?_⟩
  rcases h2 with h2 | ⟨g, cap, cur, e, hb, rest⟩
  · exact .inl h2
  · exact .inr ⟨g, cap, cur, e, by omega, rest⟩


theorem PR.drew {N : Nat} {pc : Array Value} {sv lv ev : Value} {w : World} (h : PR N pc sv lv ev w) : PR N pc sv lv ev w.drew := ⟨h.p, h.s, h.l, h.e⟩


theorem pr_cells {N : Nat} {x0 x1 x2 x3 x4 x5 x6 x7 sv lv ev : Value} {w : World} (h : PR N #[x0, x1, x2, x3, x4, x5, x6, x7] sv lv ev w) : w.cell? ⟨N, 0, none⟩ = some x0 ∧ w.cell? ⟨N, 1, none⟩ = some x1 ∧ w.cell? ⟨N, 2, none⟩ = some x2 ∧ w.cell? ⟨N, 3, none⟩ = some x3 ∧ w.cell? ⟨N, 4, none⟩ = some x4 ∧ w.cell? ⟨N, 5, none⟩ = some x5 ∧ w.cell? ⟨N, 6, none⟩ = some x6 ∧ w.cell? ⟨N, 7, none⟩ = some x7 ∧ w.cell? ⟨N + 1, 0, none⟩ = some sv ∧ w.cell? ⟨N + 2, 0, none⟩ = some lv ∧ w.cell? ⟨N + 3, 0, none⟩ = some ev := by
  refine ⟨?_, ?_, ?_, ?_, ?_, ?_, ?_, ?_, ?_, ?_, ?_⟩
  · rw [blk_cell h.p]; rfl
  · rw [blk_cell h.p]; rfl
  · rw [blk_cell h.p]; rfl
  · rw [blk_cell h.p]; rfl
  · rw [blk_cell h.p]; rfl
  · rw [blk_cell h.p]; rfl
  · rw [blk_cell h.p]; rfl
  · rw [blk_cell h.p]; rfl
  · rw [blk_cell h.s]; rfl
  · rw [blk_cell h.l]; rfl
  · rw [blk_cell h.e]; rfl
theorem pr_soft {N : Nat} {pc : Array Value} {sv lv ev : Value} {w : World} (h : PR N pc sv lv ev w) : w.frozen? ⟨N, 0, none⟩ = false ∧ w.frozen? ⟨N, 1, none⟩ = false ∧ w.frozen? ⟨N, 2, none⟩ = false ∧ w.frozen? ⟨N, 3, none⟩ = false ∧ w.frozen? ⟨N, 4, none⟩ = false ∧ w.frozen? ⟨N, 5, none⟩ = false ∧ w.frozen? ⟨N, 6, none⟩ = false ∧ w.frozen? ⟨N, 7, none⟩ = false ∧ w.frozen? ⟨N + 1, 0, none⟩ = false ∧ w.frozen? ⟨N + 2, 0, none⟩ = false ∧ w.frozen? ⟨N + 3, 0, none⟩ = false :=
  ⟨blk_soft h.p 0, blk_soft h.p 1, blk_soft h.p 2, blk_soft h.p 3, blk_soft h.p 4, blk_soft h.p 5, blk_soft h.p 6, blk_soft h.p 7, blk_soft h.s 0, blk_soft h.l 0, blk_soft h.e 0⟩


/-- The world where the reading begins. -/
structure P0 (w w1 : World) : Prop where
  pr : PR w.heap.size #[.int .i64 0, .int .i64 0, .int .i64 0, .slice none 0 0, .int .i64 0, .int .i64 0, .int .i64 0, .int .i64 0] (.slice none 0 0) (.int .i64 0) (.int .i64 0) w1
  rd : w1.heap[w.heap.size + 4]? = some (.cells (RC ⟨0, [], 0, Rs.zero⟩ (.slice none 0 0) (.slice none 0 0)) 44 (0, 0))
  rb : w1.heap[w.heap.size + 5]? = some (.cells #[.pointer (some ⟨w.heap.size + 4, 0, none⟩)] 42 (0, 0))
  sz : w1.heap.size = w.heap.size + 6
  bel : Below w.heap.size w w1


theorem p0_start (w : World) : P0 w ((((((w.alloc (.cells #[.int .i64 0, .int .i64 0, .int .i64 0, .slice none 0 0, .int .i64 0, .int .i64 0, .int .i64 0, .int .i64 0] 25)).alloc (.cells #[.slice none 0 0] 26)).alloc (.cells #[.int .i64 0] 3)).alloc (.cells #[.int .i64 0] 27)).alloc (.cells (RC ⟨0, [], 0, Rs.zero⟩ (.slice none 0 0) (.slice none 0 0)) 44)).alloc (.cells #[.pointer (some ⟨w.heap.size + 4, 0, none⟩)] 42)) := by
  refine ⟨⟨?_, ?_, ?_, ?_⟩, ?_, ?_, ?_, ?_⟩
  · exact alloc_old (alloc_old (alloc_old (alloc_old (alloc_old (alloc_at rfl)))))
  · exact alloc_old (alloc_old (alloc_old (alloc_old (alloc_at (by simp)))))
  · exact alloc_old (alloc_old (alloc_old (alloc_at (by simp))))
  · exact alloc_old (alloc_old (alloc_at (by simp)))
  · exact alloc_old (alloc_at (by simp))
  · exact alloc_at (by simp)
  · simp
  · exact below_trans (below_trans (below_trans (below_trans (below_trans (below_alloc _ _) (below_alloc _ _)) (below_alloc _ _)) (below_alloc _ _)) (below_alloc _ _)) (below_alloc _ _)


/-- What the last region of Parse looks at. -/
def PeS (N : Nat) (r : Rd) (ov sv : Value) (wx : World) : Prop := wx.cell? ⟨N + 5, 0, none⟩ = some (.pointer (some ⟨N + 4, 0, none⟩)) ∧ wx.heap[N + 4]? = some (.cells (RC r ov sv) 44 (0, 0))
theorem PeS.ch {N : Nat} {r : Rd} {ov sv : Value} {D : Nat → Prop} {w w' : World} (h : PeS N r ov sv w) (hc : Ch D w w') (hd : ∀ x, D x → x < N + 4) : PeS N r ov sv w' :=
  ⟨hc.cell h.1 (fun e => by have := hd _ e; simp at this), blk_ch h.2 hc (fun e => by have := hd _ e; simp at this)⟩
theorem PeS.drew {N : Nat} {r : Rd} {ov sv : Value} {w : World} (h : PeS N r ov sv w) : PeS N r ov sv w.drew := h


set_option maxRecDepth 100000 in
set_option maxHeartbeats 16000000 in
theorem parse_walk (T : Bs) (w : World) (htb : Tb w) : Calls Tryz.prog 6 #[S T] w (ParseGot (parseT T) w) := by
  obtain ⟨A, hA⟩ : ∃ A, A = parseT T := ⟨_, rfl⟩
  rw [← hA]
  have HA : Hid (A = parseT T) := hA
  obtain ⟨t, ht⟩ : ∃ t : ByteArray, t = ⟨T.toArray⟩ := ⟨_, rfl⟩
  show Calls _ _ #[.string _] _ _
  rw [← ht]
  have HT : Hid (t = ⟨T.toArray⟩ ∧ Tb w) := ⟨ht, htb⟩
  have hsz : t.size = T.length := by rw [ht, size_mk]
  clear ht hA htb
  by_cases hlong : 262144 < T.length
  · have hl : (262144 : Int) < (t.size : Int) := by omega
    have HAL : Hid (A = .error (0, 6)) := by
      show _ = _
      rw [HA.out]
      unfold parseT
      rw [if_pos hlong]
    clear hlong hsz
    go_enter_defers Tryz.func6, Tryz.ntmps6
    go_wp2_with fail
    have hpr : PR w.heap.size #[.int .i64 0, .int .i64 0, .int .i64 0, .slice none 0 0, .int .i64 0, .int .i64 0, .int .i64 0, .int .i64 0] (.slice none 0 0) (.int .i64 0) (.int .i64 6) ((((w.alloc (.cells #[.int .i64 0, .int .i64 0, .int .i64 0, .slice none 0 0, .int .i64 0, .int .i64 0, .int .i64 0, .int .i64 0] 25)).alloc (.cells #[.slice none 0 0] 26)).alloc (.cells #[.int .i64 0] 3)).alloc (.cells #[.int .i64 6] 27)) :=
      ⟨alloc_old (alloc_old (alloc_old (alloc_at rfl))), alloc_old (alloc_old (alloc_at (by simp))), alloc_old (alloc_at (by simp)), alloc_at (by simp)⟩
    have hbb : Below w.heap.size w ((((w.alloc (.cells #[.int .i64 0, .int .i64 0, .int .i64 0, .slice none 0 0, .int .i64 0, .int .i64 0, .int .i64 0, .int .i64 0] 25)).alloc (.cells #[.slice none 0 0] 26)).alloc (.cells #[.int .i64 0] 3)).alloc (.cells #[.int .i64 6] 27)) := below_trans (below_trans (below_trans (below_alloc _ _) (below_alloc _ _)) (below_alloc _ _)) (below_alloc _ _)
    generalize ((((w.alloc (.cells #[.int .i64 0, .int .i64 0, .int .i64 0, .slice none 0 0, .int .i64 0, .int .i64 0, .int .i64 0, .int .i64 0] 25)).alloc (.cells #[.slice none 0 0] 26)).alloc (.cells #[.int .i64 0] 3)).alloc (.cells #[.int .i64 6] 27)) = w5 at hpr hbb ⊢
    obtain ⟨y0, y1, y2, y3, y4, y5, y6, y7, y8, y9, y10⟩ := pr_cells hpr
    exact ⟨.tuple #[.agg #[.int .i64 0, .int .i64 0, .int .i64 0, .slice none 0 0, .int .i64 0, .int .i64 0, .int .i64 0, .int .i64 0], .slice none 0 0, .int .i64 0, .int .i64 6], by simp [results, Tryz.results6, go_sem, y0, y1, y2, y3, y4, y5, y6, y7, y8, y9, y10], by rw [HAL.out]; exact ⟨rfl, hbb⟩⟩
  · have hl : (t.size : Int) ≤ 262144 := by omega
    have HLL : Hid (T.length ≤ 262144) := by show _ ≤ _; omega
    have HAL : Hid (A = readA T) := by
      show _ = _
      rw [HA.out]
      unfold parseT readA
      rw [if_neg hlong]
      cases readL 1 (splitB 10 T) Rs.zero <;> rfl
    have hgs := HT.out.2.gs
    have hP0 := p0_start w
    obtain ⟨w1, hw1⟩ : ∃ w1, w1 = ((((((w.alloc (.cells #[.int .i64 0, .int .i64 0, .int .i64 0, .slice none 0 0, .int .i64 0, .int .i64 0, .int .i64 0, .int .i64 0] 25)).alloc (.cells #[.slice none 0 0] 26)).alloc (.cells #[.int .i64 0] 3)).alloc (.cells #[.int .i64 0] 27)).alloc (.cells (#[.int .i64 0, .string ⟨#[]⟩, .int .i64 0, .bool false, .int .i64 0, .int .i64 0, .int .i64 0, .slice none 0 0, .int .i64 0, .int .i64 0, .int .i64 0, .int .i64 0, .slice none 0 0]) 44)).alloc (.cells #[.pointer (some ⟨w.heap.size + 4, 0, none⟩)] 42)) := ⟨_, rfl⟩
    have hP1 : P0 w w1 := by rw [hw1]; exact hP0
    have HP : Hid (P0 w w1 ∧ Tb w1 ∧ Gs w.heap.size) := ⟨hP1, HT.out.2.below hP1.bel, hgs⟩
    have HW1 := hw1
    clear hlong hsz hgs hP0 hP1 hw1
    go_enter_defers Tryz.func6, Tryz.ntmps6
    go_wp2_with fail
    rw [show w.heap.size + 1 + 1 + 1 + 1 = w.heap.size + 4 from rfl, show w.heap.size + 1 + 1 + 1 = w.heap.size + 3 from rfl, show w.heap.size + 1 + 1 = w.heap.size + 2 from rfl, ← HW1]
    have HRW := read_walk HP.out.1.rd HP.out.2.1 (by obtain ⟨g1, g2, g3, g4, g5⟩ := HP.out.2.2; exact ⟨by omega, by omega, by omega, by omega, by omega⟩) T HLL.out
    simp only [S] at HRW
    rw [← HT.out.1] at HRW
    clear HW1
    refine HRW.mono ?_
    clear HRW
    intro e9 w2 hR
    cases hrd : readA T with
    | error y =>
      obtain ⟨n, f⟩ := y
      rw [hrd] at hR
      obtain ⟨⟨u, pv, rfl⟩, b1, b2, b3⟩ := hR
      have hsz1 := HP.out.1.sz
      have HPR : Hid (PR w.heap.size #[.int .i64 0, .int .i64 0, .int .i64 0, .slice none 0 0, .int .i64 0, .int .i64 0, .int .i64 0, .int .i64 0] (.slice none 0 0) (.int .i64 0) (.int .i64 0) w2) := HP.out.1.pr.ch b3 (fun x hx => by omega)
      have HPC : Hid (PcS w.heap.size (n : Int) f w2) := ⟨by rw [blk_cell (blk_ch HP.out.1.rb b3 (by omega))]; rfl, b1, b2⟩
      have HAN : Hid (A = .error (n, f)) := by show _ = _; rw [HAL.out, hrd]
      have HB2 : Hid (Below w.heap.size w w2) := HP.out.1.bel.trans (b3.to_below (by omega) (fun x hx => by omega))
      clear hrd b1 b2 b3 hsz1
      go_wp2_with fail
      refine leaves_cons (f := 12) (args := #[.pointer (some ⟨w.heap.size + 5, 0, none⟩), .pointer (some ⟨w.heap.size, 0, none⟩), .pointer (some ⟨w.heap.size + 1, 0, none⟩), .pointer (some ⟨w.heap.size + 2, 0, none⟩), .pointer (some ⟨w.heap.size + 3, 0, none⟩)]) (by simp) (by simp [go_sem]) ?_
      refine (pcatch_go u pv [] HPR.out HPC.out).mono ?_
      rintro e u' w3 ⟨rfl, rfl, hw3⟩
      obtain ⟨hq1, hq2⟩ := setR_pr (.int .i64 0) (.int .i64 0) (.int .i64 0) (.slice none 0 0) (.int .i64 0) (.int .i64 0) (.int .i64 0) (.int .i64 0) (.slice none 0 0) (.int .i64 (n : Int)) (.int .i64 f) HPR.out
      have hpr3 : PR w.heap.size #[.int .i64 0, .int .i64 0, .int .i64 0, .slice none 0 0, .int .i64 0, .int .i64 0, .int .i64 0, .int .i64 0] (.slice none 0 0) (.int .i64 (n : Int)) (.int .i64 f) w3 := by rw [hw3]; exact hq1.drew
      have hbb : Below w.heap.size w w3 := by
        rw [hw3]
        exact HB2.out.trans ((hq2.to_below HB2.out.size (fun x hx => hx.1)).drew)
      clear hw3 hq1 hq2
      obtain ⟨y0, y1, y2, y3, y4, y5, y6, y7, y8, y9, y10⟩ := pr_cells hpr3
      exact ⟨.tuple #[.agg #[.int .i64 0, .int .i64 0, .int .i64 0, .slice none 0 0, .int .i64 0, .int .i64 0, .int .i64 0, .int .i64 0], .slice none 0 0, .int .i64 (n : Int), .int .i64 f], by simp [results, Tryz.results6, go_sem, y0, y1, y2, y3, y4, y5, y6, y7, y8, y9, y10], by rw [HAN.out]; exact ⟨rfl, hbb⟩⟩
    | ok s =>
      rw [hrd] at hR
      obtain ⟨rfl, ⟨r, ov, sv, M, hrs, hrm⟩, b3⟩ := hR
      have hsz1 := HP.out.1.sz
      have HPR : Hid (PR w.heap.size #[.int .i64 0, .int .i64 0, .int .i64 0, .slice none 0 0, .int .i64 0, .int .i64 0, .int .i64 0, .int .i64 0] (.slice none 0 0) (.int .i64 0) (.int .i64 0) w2) := HP.out.1.pr.ch b3 (fun x hx => by omega)
      have HS0 : Hid (PeS w.heap.size r ov sv w2) := ⟨by rw [blk_cell (blk_ch HP.out.1.rb b3 (by omega))]; rfl, hrm.blk⟩
      have HSS : Hid (PeS w.heap.size r ov sv w2.drew) := HS0.out
      have HAN : Hid (A = .ok s) := by show _ = _; rw [HAL.out, hrd]
      have HB2 : Hid (Below w.heap.size w w2) := HP.out.1.bel.trans (b3.to_below (by omega) (fun x hx => by omega))
      have HRM : Hid (RM w1.heap.size (w.heap.size + 4) r ov sv M w2 ∧ r.s = s ∧ w1.heap.size = w.heap.size + 6) := ⟨hrm, hrs, hsz1⟩
      obtain ⟨oa, oc, hov, _, _⟩ := own_form21 hrm.ops
      obtain ⟨sa, sc, hsv, _, _⟩ := own_form21 hrm.sts
      have k0 : ∀ wx, PeS w.heap.size r ov sv wx → wx.cell? ⟨w.heap.size + 5, 0, none⟩ = some (.pointer (some ⟨w.heap.size + 4, 0, none⟩)) := fun wx h => h.1
      have k1 : ∀ wx, PeS w.heap.size r ov sv wx → wx.cell? ⟨w.heap.size + 4, 4, none⟩ = some (.int .i64 r.s.p.P) := fun wx h => by rw [blk_cell h.2]; rfl
      have k2 : ∀ wx, PeS w.heap.size r ov sv wx → wx.cell? ⟨w.heap.size + 4, 5, none⟩ = some (.int .i64 r.s.p.S) := fun wx h => by rw [blk_cell h.2]; rfl
      have k3 : ∀ wx, PeS w.heap.size r ov sv wx → wx.cell? ⟨w.heap.size + 4, 6, none⟩ = some (.int .i64 r.s.p.W) := fun wx h => by rw [blk_cell h.2]; rfl
      have k4 : ∀ wx, PeS w.heap.size r ov sv wx → wx.cell? ⟨w.heap.size + 4, 7, none⟩ = some (.slice oa r.s.ops.length oc) := fun wx h => by rw [blk_cell h.2, ← hov]; rfl
      have k5 : ∀ wx, PeS w.heap.size r ov sv wx → wx.cell? ⟨w.heap.size + 4, 8, none⟩ = some (.int .i64 r.s.p.A) := fun wx h => by rw [blk_cell h.2]; rfl
      have k6 : ∀ wx, PeS w.heap.size r ov sv wx → wx.cell? ⟨w.heap.size + 4, 9, none⟩ = some (.int .i64 r.s.p.B) := fun wx h => by rw [blk_cell h.2]; rfl
      have k7 : ∀ wx, PeS w.heap.size r ov sv wx → wx.cell? ⟨w.heap.size + 4, 10, none⟩ = some (.int .i64 r.s.p.N) := fun wx h => by rw [blk_cell h.2]; rfl
      have k8 : ∀ wx, PeS w.heap.size r ov sv wx → wx.cell? ⟨w.heap.size + 4, 11, none⟩ = some (.int .i64 r.s.p.G) := fun wx h => by rw [blk_cell h.2]; rfl
      have k12 : ∀ wx, PeS w.heap.size r ov sv wx → wx.cell? ⟨w.heap.size + 4, 12, none⟩ = some (.slice sa r.s.sts.length sc) := fun wx h => by rw [blk_cell h.2, ← hsv]; rfl
      obtain ⟨d0, d1, d2, d3, d4, d5, d6, d7, d8, d9, d10⟩ := pr_cells HPR.out
      obtain ⟨z0, z1, z2, z3, z4, z5, z6, z7, z8, z9, z10⟩ := pr_soft HPR.out
      have HV : Hid (ov = .slice oa r.s.ops.length oc ∧ sv = .slice sa r.s.sts.length sc) := ⟨hov, hsv⟩
      clear hrd b3 hsz1 hrm hrs hov hsv
      go_wp2_with fail
      refine wp_region_noPanic ?_
      refine wp_region_held_drew (S := PeS w.heap.size r ov sv) (by kernel_rfl) ?_ (fun hHeld => ?_)
      · exact HSS.out
      refine wpAnyH_take (i := 0) (oi := ⟨some 17, _, _, _, _, _⟩) (v := ?_) rfl (by kernel_rfl) (by kernel_rfl) (by kernel_rfl) (fun _ _ _ h => h) (Or.inl ⟨by rfl, ?_⟩) hHeld ?_
      rotate_left
      · intro w hSw; (try dsimp only at hSw); go_simp; all_goals (with_reducible rfl)
      try simp only [Act.put, List.setIfInBounds_toArray, List.set_cons_zero, List.set_cons_succ]
      refine wpAnyH_take (i := 1) (oi := ⟨some 18, _, _, _, _, _⟩) (v := ?_) rfl (by kernel_rfl) (by kernel_rfl) (by kernel_rfl) (fun _ _ _ h => h) (Or.inl ⟨by rfl, ?_⟩) hHeld ?_
      rotate_left
      · intro w hSw; (try dsimp only at hSw); go_simp; all_goals (with_reducible rfl)
      try simp only [Act.put, List.setIfInBounds_toArray, List.set_cons_zero, List.set_cons_succ]
      refine wpAnyH_take (i := 2) (oi := ⟨some 19, _, _, _, _, _⟩) (v := ?_) rfl (by kernel_rfl) (by kernel_rfl) (by kernel_rfl) (fun _ _ _ h => h) (Or.inl ⟨by rfl, ?_⟩) hHeld ?_
      rotate_left
      · intro w hSw; (try dsimp only at hSw); go_simp; all_goals (with_reducible rfl)
      try simp only [Act.put, List.setIfInBounds_toArray, List.set_cons_zero, List.set_cons_succ]
      refine wpAnyH_take (i := 3) (oi := ⟨some 20, _, _, _, _, _⟩) (v := ?_) rfl (by kernel_rfl) (by kernel_rfl) (by kernel_rfl) (fun _ _ _ h => h) (Or.inl ⟨by rfl, ?_⟩) hHeld ?_
      rotate_left
      · intro w hSw; (try dsimp only at hSw); go_simp; all_goals (with_reducible rfl)
      try simp only [Act.put, List.setIfInBounds_toArray, List.set_cons_zero, List.set_cons_succ]
      refine wpAnyH_take (i := 4) (oi := ⟨some 21, _, _, _, _, _⟩) (v := ?_) rfl (by kernel_rfl) (by kernel_rfl) (by kernel_rfl) (fun _ _ _ h => h) (Or.inl ⟨by rfl, ?_⟩) hHeld ?_
      rotate_left
      · intro w hSw; (try dsimp only at hSw); go_simp; all_goals (with_reducible rfl)
      try simp only [Act.put, List.setIfInBounds_toArray, List.set_cons_zero, List.set_cons_succ]
      refine wpAnyH_take (i := 5) (oi := ⟨some 22, _, _, _, _, _⟩) (v := ?_) rfl (by kernel_rfl) (by kernel_rfl) (by kernel_rfl) (fun _ _ _ h => h) (Or.inl ⟨by rfl, ?_⟩) hHeld ?_
      rotate_left
      · intro w hSw; (try dsimp only at hSw); go_simp; all_goals (with_reducible rfl)
      try simp only [Act.put, List.setIfInBounds_toArray, List.set_cons_zero, List.set_cons_succ]
      refine wpAnyH_take (i := 6) (oi := ⟨some 23, _, _, _, _, _⟩) (v := ?_) rfl (by kernel_rfl) (by kernel_rfl) (by kernel_rfl) (fun _ _ _ h => h) (Or.inl ⟨by rfl, ?_⟩) hHeld ?_
      rotate_left
      · intro w hSw; (try dsimp only at hSw); go_simp; all_goals (with_reducible rfl)
      try simp only [Act.put, List.setIfInBounds_toArray, List.set_cons_zero, List.set_cons_succ]
      refine wpAnyH_take (i := 7) (oi := ⟨some 24, _, _, _, _, _⟩) (v := ?_) rfl (by kernel_rfl) (by kernel_rfl) (by kernel_rfl) (fun _ _ _ h => h) (Or.inl ⟨by rfl, ?_⟩) hHeld ?_
      rotate_left
      · intro w hSw; (try dsimp only at hSw); go_simp; all_goals (with_reducible rfl)
      try simp only [Act.put, List.setIfInBounds_toArray, List.set_cons_zero, List.set_cons_succ]
      refine wpAnyH_ready (rs := [8]) (by kernel_rfl) (by simp) ?_
      refine AllReadyH.cons (o := ⟨none, _, _, _, _, _⟩) rfl (fun K hK => ?_) AllReadyH.nil
      go_simp
      refine hK.out _ _ ?_ (fun hHeld => ?_)
      · exact (PeS.drew (PeS.ch HS0.out (set8_ch w2 w.heap.size _ _ _ _ _ _ _ _) (fun x hx => by omega)))
      clear hK K
      try simp only [Act.put, List.setIfInBounds_toArray, List.set_cons_zero, List.set_cons_succ]
      refine wpAnyH_ready (rs := [9]) (by kernel_rfl) (by simp) ?_
      refine AllReadyH.cons (o := ⟨none, _, _, _, _, _⟩) rfl (fun K hK => ?_) AllReadyH.nil
      go_simp
      refine hK.out _ _ ?_ (fun hHeld => ?_)
      · exact (PeS.drew (PeS.ch (PeS.ch HS0.out (set8_ch w2 w.heap.size _ _ _ _ _ _ _ _) (fun x hx => by omega)) (ch_set _ _ _ _) (fun x hx => by omega)))
      clear hK K
      try simp only [Act.put, List.setIfInBounds_toArray, List.set_cons_zero, List.set_cons_succ]
      refine wpAnyH_ready (rs := [10]) (by kernel_rfl) (by simp) ?_
      refine AllReadyH.cons (o := ⟨none, _, _, _, _, _⟩) rfl (fun K hK => ?_) AllReadyH.nil
      go_simp
      refine hK.out _ _ ?_ (fun hHeld => ?_)
      · exact (PeS.drew (PeS.ch (PeS.ch (PeS.ch HS0.out (set8_ch w2 w.heap.size _ _ _ _ _ _ _ _) (fun x hx => by omega)) (ch_set _ _ _ _) (fun x hx => by omega)) (ch_set _ _ _ _) (fun x hx => by omega)))
      clear hK K
      try simp only [Act.put, List.setIfInBounds_toArray, List.set_cons_zero, List.set_cons_succ]
      refine wpAnyH_ready (rs := [11]) (by kernel_rfl) (by simp) ?_
      refine AllReadyH.cons (o := ⟨none, _, _, _, _, _⟩) rfl (fun K hK => ?_) AllReadyH.nil
      go_simp
      refine hK.out _ _ ?_ (fun hHeld => ?_)
      · exact (PeS.drew (PeS.ch (PeS.ch (PeS.ch (PeS.ch HS0.out (set8_ch w2 w.heap.size _ _ _ _ _ _ _ _) (fun x hx => by omega)) (ch_set _ _ _ _) (fun x hx => by omega)) (ch_set _ _ _ _) (fun x hx => by omega)) (ch_set _ _ _ _) (fun x hx => by omega)))
      clear hK K
      try simp only [Act.put, List.setIfInBounds_toArray, List.set_cons_zero, List.set_cons_succ]
      refine wpAnyH_done (by kernel_rfl) ?_ _
      refine NoPanic.normal ?_
      go_wp2_with fail
      show Leaves _ _ _ _ _ _ (setR w2 w.heap.size (.int .i64 r.s.p.P) (.int .i64 r.s.p.S) (.int .i64 r.s.p.W) (.slice oa r.s.ops.length oc) (.int .i64 r.s.p.A) (.int .i64 r.s.p.B) (.int .i64 r.s.p.N) (.int .i64 r.s.p.G) (.slice sa r.s.sts.length sc) (.int .i64 0) (.int .i64 0)).drew
      refine leaves_cons (f := 12) (args := #[.pointer (some ⟨w.heap.size + 5, 0, none⟩), .pointer (some ⟨w.heap.size, 0, none⟩), .pointer (some ⟨w.heap.size + 1, 0, none⟩), .pointer (some ⟨w.heap.size + 2, 0, none⟩), .pointer (some ⟨w.heap.size + 3, 0, none⟩)]) (by simp) (by simp [go_sem]) ?_
      refine (pcatch_idle _ _ _ _ _ _).mono ?_
      rintro e u' w3 ⟨rfl, rfl, hw3⟩
      obtain ⟨hq1, hq2⟩ := setR_pr (.int .i64 r.s.p.P) (.int .i64 r.s.p.S) (.int .i64 r.s.p.W) (.slice oa r.s.ops.length oc) (.int .i64 r.s.p.A) (.int .i64 r.s.p.B) (.int .i64 r.s.p.N) (.int .i64 r.s.p.G) (.slice sa r.s.sts.length sc) (.int .i64 0) (.int .i64 0) HPR.out
      have hpr3 : PR w.heap.size #[.int .i64 r.s.p.P, .int .i64 r.s.p.S, .int .i64 r.s.p.W, .slice oa r.s.ops.length oc, .int .i64 r.s.p.A, .int .i64 r.s.p.B, .int .i64 r.s.p.N, .int .i64 r.s.p.G] (.slice sa r.s.sts.length sc) (.int .i64 0) (.int .i64 0) w3 := by rw [hw3]; exact hq1.drew
      have hch3 : Ch (fun x => w.heap.size ≤ x ∧ x < w.heap.size + 4) w2 w3 := by rw [hw3]; exact hq2.self (Ch.of_below (below_drew _))
      have hbb : Below w.heap.size w w3 := HB2.out.trans (hch3.to_below HB2.out.size (fun x hx => hx.1))
      obtain ⟨hrm, hrs, hsz1⟩ := HRM.out
      have hop3 := own_low (row_keep hrm.ops fun x hx => hch3.block x (hrm.ops.lt x hx).2 (by have := (hrm.ops.lt x hx).1; omega)) (show w.heap.size ≤ w1.heap.size by omega)
      have hst3 := own_low (row_keep hrm.sts fun x hx => hch3.block x (hrm.sts.lt x hx).2 (by have := (hrm.sts.lt x hx).1; have := hrm.bm; omega)) (show w.heap.size ≤ M by have := hrm.bm; omega)
      have hap3 : ∀ x, ov.ownBlock = some x → sv.ownBlock ≠ some x := fun x hx hy => by have h1 := hrm.olo x hx; have h2 := (hrm.sts.lt x hy).1; omega
      have HFIN : Hid (ParseGot A w (.returned (.tuple #[PlV r.s.p (.slice oa r.s.ops.length oc), .slice sa r.s.sts.length sc, .int .i64 0, .int .i64 0])) w3) := by
        show ParseGot _ _ _ _
        rw [HAN.out, ← hrs, ← HV.out.1, ← HV.out.2]
        exact ⟨ov, sv, rfl, hop3, hst3, hap3, hbb⟩
      clear hw3 hq1 hq2 hch3 hop3 hst3 hap3 hrm hrs hsz1 hbb
      obtain ⟨y0, y1, y2, y3, y4, y5, y6, y7, y8, y9, y10⟩ := pr_cells hpr3
      exact ⟨.tuple #[.agg #[.int .i64 r.s.p.P, .int .i64 r.s.p.S, .int .i64 r.s.p.W, .slice oa r.s.ops.length oc, .int .i64 r.s.p.A, .int .i64 r.s.p.B, .int .i64 r.s.p.N, .int .i64 r.s.p.G], .slice sa r.s.sts.length sc, .int .i64 0, .int .i64 0], by simp [results, Tryz.results6, go_sem, y0, y1, y2, y3, y4, y5, y6, y7, y8, y9, y10], HFIN.out⟩
end Go.Proofs.YtkiplcmndpdifaaGreatDoor


