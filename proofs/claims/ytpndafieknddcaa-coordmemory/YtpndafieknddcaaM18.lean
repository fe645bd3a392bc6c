/- Cg Ci -/
import Derived.Test.YtpndafieknddcaaM17
import Derived.Deep.DeepCutAuto
namespace Go.Proofs.Ytpndafieknddcaa

open Ieee Go.RowKit

def setM (w : World) (P : Nat) (m : Ms) (ev qv pv : Value) : World := ((((((((w.setCell ⟨P, 0, none⟩ (.int .i64 m.K)).setCell ⟨P, 1, none⟩ (.int .i64 m.F)).setCell ⟨P, 2, none⟩ (.int .i64 m.T)).setCell ⟨P, 3, none⟩ (.int .i64 m.B)).setCell ⟨P, 4, none⟩ (.int .i64 m.A)).setCell ⟨P, 5, none⟩ (.int .i64 m.C)).setCell ⟨P, 6, none⟩ (ev)).setCell ⟨P, 7, none⟩ (qv)).setCell ⟨P, 8, none⟩ (pv)
theorem ch_setM (w : World) (P : Nat) (m : Ms) (ev qv pv : Value) : Ch (fun x => x = P) w (setM w P m ev qv pv) := ((((((((ch_set _ _ _ _).self (ch_set _ _ _ _)).self (ch_set _ _ _ _)).self (ch_set _ _ _ _)).self (ch_set _ _ _ _)).self (ch_set _ _ _ _)).self (ch_set _ _ _ _)).self (ch_set _ _ _ _)).self (ch_set _ _ _ _)
/-- A message about a try. -/
def abtM (k : Int) (y : Yt) (l : List Int) : Ms := ⟨k, 0, y.n, y.b, y.a, 0, l, [], []⟩
def AbG (w : World) (m : Ms) (e : Ending) (w' : World) : Prop := ∃ ev, e = .returned (.agg #[.int .i64 m.K, .int .i64 m.F, .int .i64 m.T, .int .i64 m.B, .int .i64 m.A, .int .i64 m.C, ev, .slice none 0 0, .slice none 0 0]) ∧ OwN w.heap.size w' ev m.E ∧ Below w.heap.size w w'
theorem ab_end {w w0 w1 : World} {a b : Obj} {k : Int} {y : Yt} {l : List Int} {v1 : Value} (h0 : w0 = (w.alloc a).alloc b) (ho : OwN w0.heap.size w1 v1 l) (hb : Below w0.heap.size w0 w1) : AbG w (abtM k y l) (.returned (.agg #[.int .i64 k, .int .i64 0, .int .i64 y.n, .int .i64 y.b, .int .i64 y.a, .int .i64 0, v1, .slice none 0 0, .slice none 0 0])) (setM w1 (w.heap.size + 1) (abtM k y l) v1 (.slice none 0 0) (.slice none 0 0)) := by
  have hs : w0.heap.size = w.heap.size + 2 := by rw [h0]; simp
  have hb0 : Below w.heap.size w w0 := by rw [h0]; exact below_trans (below_alloc _ _) (below_alloc _ _)
  have hc := ch_setM w1 (w.heap.size + 1) (abtM k y l) v1 (.slice none 0 0) (.slice none 0 0)
  have hb1 : Below w.heap.size w w1 := hb0.trans (hb.mono hb0.size)
  refine ⟨v1, rfl, own_base (row_keep ho fun x hx => hc.block x (ho.lt x hx).2 ?_) (by omega), hb1.trans (hc.to_below hb1.size (fun x hx => by rw [hx]; omega))⟩
  have := (ho.lt x hx).1
  omega
set_option maxRecDepth 100000 in
set_option maxHeartbeats 2000000 in
theorem about_walk {w : World} {x : Ye} {k : Int} {ev : Value} {l : List Int} (hx : Yl w x) (he : Nv w ev l) (hl : l.length * 8 ≤ 140737488355328) : Calls Try.prog 51 #[.agg #[.int .i64 x.y.b, .int .i64 x.y.a, .int .i64 x.y.n, .int .i64 x.y.h, .int .i64 x.y.t, x.fv, x.ev], .int .i64 k, ev] w (AbG w (abtM k x.y l)) := by
  obtain ⟨fa, fc, ea, ec, e1, e2⟩ := hx.form
  obtain ⟨la, lc, rfl, _⟩ := he.form
  rw [e1, e2]
  obtain ⟨w0, hw0⟩ : ∃ w0, w0 = (w.alloc (.cells #[.int .i64 x.y.b, .int .i64 x.y.a, .int .i64 x.y.n, .int .i64 x.y.h, .int .i64 x.y.t, .slice fa x.y.f.length fc, .slice ea x.y.e.length ec] 43)).alloc (.cells #[.int .i64 0, .int .i64 0, .int .i64 0, .int .i64 0, .int .i64 0, .int .i64 0, .slice none 0 0, .slice none 0 0, .slice none 0 0] 41) := ⟨_, rfl⟩
  have HW0 : Hid (w0 = (w.alloc (.cells #[.int .i64 x.y.b, .int .i64 x.y.a, .int .i64 x.y.n, .int .i64 x.y.h, .int .i64 x.y.t, .slice fa x.y.f.length fc, .slice ea x.y.e.length ec] 43)).alloc (.cells #[.int .i64 0, .int .i64 0, .int .i64 0, .int .i64 0, .int .i64 0, .int .i64 0, .slice none 0 0, .slice none 0 0, .slice none 0 0] 41)) := hw0
  have hb0 : Below w.heap.size w w0 := by rw [hw0]; exact below_trans (below_alloc _ _) (below_alloc _ _)
  have HE : Hid (Nv w0 (.slice la l.length lc) l) := he.below hb0
  have HL : Hid (l.length * 8 ≤ 140737488355328) := hl
  have HBX : Hid (w0.heap[w.heap.size]? = some (.cells #[.int .i64 x.y.b, .int .i64 x.y.a, .int .i64 x.y.n, .int .i64 x.y.h, .int .i64 x.y.t, .slice fa x.y.f.length fc, .slice ea x.y.e.length ec] 43 (0, 0))) := by show _ = _; rw [hw0]; exact alloc_old (alloc_at rfl)
  have HMX : Hid (w0.heap[w.heap.size + 1]? = some (.cells #[.int .i64 0, .int .i64 0, .int .i64 0, .int .i64 0, .int .i64 0, .int .i64 0, .slice none 0 0, .slice none 0 0, .slice none 0 0] 41 (0, 0))) := by show _ = _; rw [hw0]; exact alloc_at (by simp)
  have k0 : ∀ wx : World, wx.heap[w.heap.size]? = some (.cells #[.int .i64 x.y.b, .int .i64 x.y.a, .int .i64 x.y.n, .int .i64 x.y.h, .int .i64 x.y.t, .slice fa x.y.f.length fc, .slice ea x.y.e.length ec] 43 (0, 0)) → wx.cell? ⟨w.heap.size, 0, none⟩ = some (.int .i64 x.y.b) := fun wx h => by rw [blk_cell h]; rfl
  have k1 : ∀ wx : World, wx.heap[w.heap.size]? = some (.cells #[.int .i64 x.y.b, .int .i64 x.y.a, .int .i64 x.y.n, .int .i64 x.y.h, .int .i64 x.y.t, .slice fa x.y.f.length fc, .slice ea x.y.e.length ec] 43 (0, 0)) → wx.cell? ⟨w.heap.size, 1, none⟩ = some (.int .i64 x.y.a) := fun wx h => by rw [blk_cell h]; rfl
  have k2 : ∀ wx : World, wx.heap[w.heap.size]? = some (.cells #[.int .i64 x.y.b, .int .i64 x.y.a, .int .i64 x.y.n, .int .i64 x.y.h, .int .i64 x.y.t, .slice fa x.y.f.length fc, .slice ea x.y.e.length ec] 43 (0, 0)) → wx.cell? ⟨w.heap.size, 2, none⟩ = some (.int .i64 x.y.n) := fun wx h => by rw [blk_cell h]; rfl
  clear hx he hl e1 e2 hw0 hb0
  go_enter Try.func51, Try.ntmps51
  go_wp2_with fail
  rw [← HW0.out]
  refine wp_region_noPanic ?_
  refine wp_region_held_drew (S := (fun wx : World => wx.heap[w.heap.size]? = some (.cells #[.int .i64 x.y.b, .int .i64 x.y.a, .int .i64 x.y.n, .int .i64 x.y.h, .int .i64 x.y.t, .slice fa x.y.f.length fc, .slice ea x.y.e.length ec] 43 (0, 0)))) (by kernel_rfl) ?_ (fun hHeld => ?_)
  · exact (blk_below HBX.out (below_drewN w0 1))
  refine wpAnyH_take (i := 0) (oi := ⟨some 7, _, _, _, _, _⟩) (v := ?_) rfl (by kernel_rfl) (by kernel_rfl) (by kernel_rfl) (fun _ _ _ h => h) (Or.inl ⟨by rfl, ?_⟩) hHeld ?_
  rotate_left
  · intro w hSw; (try dsimp only at hSw); go_simp; all_goals (with_reducible rfl)
  try simp only [Act.put, List.setIfInBounds_toArray, List.set_cons_zero, List.set_cons_succ]
  refine wpAnyH_take (i := 1) (oi := ⟨some 8, _, _, _, _, _⟩) (v := ?_) rfl (by kernel_rfl) (by kernel_rfl) (by kernel_rfl) (fun _ _ _ h => h) (Or.inl ⟨by rfl, ?_⟩) hHeld ?_
  rotate_left
  · intro w hSw; (try dsimp only at hSw); go_simp; all_goals (with_reducible rfl)
  try simp only [Act.put, List.setIfInBounds_toArray, List.set_cons_zero, List.set_cons_succ]
  refine wpAnyH_take (i := 2) (oi := ⟨some 9, _, _, _, _, _⟩) (v := ?_) rfl (by kernel_rfl) (by kernel_rfl) (by kernel_rfl) (fun _ _ _ h => h) (Or.inl ⟨by rfl, ?_⟩) hHeld ?_
  rotate_left
  · intro w hSw; (try dsimp only at hSw); go_simp; all_goals (with_reducible rfl)
  try simp only [Act.put, List.setIfInBounds_toArray, List.set_cons_zero, List.set_cons_succ]
  refine wpAnyH_take (i := 3) (oi := ⟨some 10, _, _, _, _, _⟩) (v := ?_) rfl (by kernel_rfl) (by kernel_rfl) (by kernel_rfl) (fun _ _ _ h => h) (Or.inl ⟨by rfl, ?_⟩) hHeld ?_
  rotate_left
  · intro w hSw; (try dsimp only at hSw); go_simp; all_goals (with_reducible rfl)
  try simp only [Act.put, List.setIfInBounds_toArray, List.set_cons_zero, List.set_cons_succ]
  refine wpAnyH_take (i := 4) (oi := ⟨some 11, _, _, _, _, _⟩) (v := ?_) rfl (by kernel_rfl) (by kernel_rfl) (by kernel_rfl) (fun _ _ _ h => h) (Or.inl ⟨by rfl, ?_⟩) hHeld ?_
  rotate_left
  · intro w hSw; (try dsimp only at hSw); go_simp; all_goals (with_reducible rfl)
  try simp only [Act.put, List.setIfInBounds_toArray, List.set_cons_zero, List.set_cons_succ]
  refine wpAnyH_take (i := 5) (oi := ⟨some 12, _, _, _, _, _⟩) (v := ?_) rfl (by kernel_rfl) (by kernel_rfl) (by kernel_rfl) (fun _ _ _ h => h) (Or.inl ⟨by rfl, ?_⟩) hHeld ?_
  rotate_left
  · intro w hSw; (try dsimp only at hSw); go_simp; all_goals (with_reducible rfl)
  try simp only [Act.put, List.setIfInBounds_toArray, List.set_cons_zero, List.set_cons_succ]
  refine wpAnyH_take (i := 6) (oi := ⟨some 13, _, _, _, _, _⟩) (v := ?_) rfl (by kernel_rfl) (by kernel_rfl) (by kernel_rfl) (fun _ _ _ h => h) (Or.inl ⟨by rfl, ?_⟩) hHeld ?_
  rotate_left
  · intro w hSw; (try dsimp only at hSw); go_simp; all_goals (with_reducible rfl)
  try simp only [Act.put, List.setIfInBounds_toArray, List.set_cons_zero, List.set_cons_succ]
  refine wpAnyH_take (i := 7) (oi := ⟨some 14, _, _, _, _, _⟩) (v := ?_) rfl (by kernel_rfl) (by kernel_rfl) (by kernel_rfl) (fun _ _ _ h => h) (Or.inl ⟨by rfl, ?_⟩) hHeld ?_
  rotate_left
  · intro w hSw; (try dsimp only at hSw); go_simp; all_goals (with_reducible rfl)
  try simp only [Act.put, List.setIfInBounds_toArray, List.set_cons_zero, List.set_cons_succ]
  refine wpAnyH_ready (rs := [8]) (by kernel_rfl) (by simp) ?_
  refine AllReadyH.cons (o := ⟨some 15, _, _, _, _, _⟩) rfl (fun K hK => ?_) AllReadyH.nil
  go_simp
  refine (cloneN_walk (HE.out.below (below_drewN w0 1)) HL.out).mono ?_
  rintro e w1 ⟨v1, rfl, ho1, hB1⟩
  have HO1 : Hid (OwN w0.heap.size w1 v1 l) := own_base ho1 (below_drewN w0 1).size
  have HB1 : Hid (Below w0.heap.size w0 w1) := below_trans (below_drewN w0 1) hB1
  obtain ⟨_, pa, pc2, rfl, _⟩ := own_nl ho1
  have hz := blk_below HMX.out HB1.out
  have r0 : w1.cell? ⟨w.heap.size + 1, 0, none⟩ = some (.int .i64 0) := by rw [blk_cell hz]; rfl
  have f0 : w1.frozen? ⟨w.heap.size + 1, 0, none⟩ = false := blk_soft hz 0
  have r1 : w1.cell? ⟨w.heap.size + 1, 1, none⟩ = some (.int .i64 0) := by rw [blk_cell hz]; rfl
  have f1 : w1.frozen? ⟨w.heap.size + 1, 1, none⟩ = false := blk_soft hz 1
  have r2 : w1.cell? ⟨w.heap.size + 1, 2, none⟩ = some (.int .i64 0) := by rw [blk_cell hz]; rfl
  have f2 : w1.frozen? ⟨w.heap.size + 1, 2, none⟩ = false := blk_soft hz 2
  have r3 : w1.cell? ⟨w.heap.size + 1, 3, none⟩ = some (.int .i64 0) := by rw [blk_cell hz]; rfl
  have f3 : w1.frozen? ⟨w.heap.size + 1, 3, none⟩ = false := blk_soft hz 3
  have r4 : w1.cell? ⟨w.heap.size + 1, 4, none⟩ = some (.int .i64 0) := by rw [blk_cell hz]; rfl
  have f4 : w1.frozen? ⟨w.heap.size + 1, 4, none⟩ = false := blk_soft hz 4
  have r5 : w1.cell? ⟨w.heap.size + 1, 5, none⟩ = some (.int .i64 0) := by rw [blk_cell hz]; rfl
  have f5 : w1.frozen? ⟨w.heap.size + 1, 5, none⟩ = false := blk_soft hz 5
  have r6 : w1.cell? ⟨w.heap.size + 1, 6, none⟩ = some (.slice none 0 0) := by rw [blk_cell hz]; rfl
  have f6 : w1.frozen? ⟨w.heap.size + 1, 6, none⟩ = false := blk_soft hz 6
  have r7 : w1.cell? ⟨w.heap.size + 1, 7, none⟩ = some (.slice none 0 0) := by rw [blk_cell hz]; rfl
  have f7 : w1.frozen? ⟨w.heap.size + 1, 7, none⟩ = false := blk_soft hz 7
  have r8 : w1.cell? ⟨w.heap.size + 1, 8, none⟩ = some (.slice none 0 0) := by rw [blk_cell hz]; rfl
  have f8 : w1.frozen? ⟨w.heap.size + 1, 8, none⟩ = false := blk_soft hz 8
  clear hz ho1 hB1
  refine hK.out _ _ ?_ (fun hHeld => ?_)
  · exact (blk_below HBX.out HB1.out)
  clear hK K
  try simp only [Act.put, List.setIfInBounds_toArray, List.set_cons_zero, List.set_cons_succ]
  refine wpAnyH_take (i := 9) (oi := ⟨some 16, _, _, _, _, _⟩) (v := ?_) rfl (by kernel_rfl) (by kernel_rfl) (by kernel_rfl) (fun _ _ _ h => h) (Or.inl ⟨by rfl, ?_⟩) hHeld ?_
  rotate_left
  · intro w hSw; (try dsimp only at hSw); go_simp; all_goals (with_reducible rfl)
  try simp only [Act.put, List.setIfInBounds_toArray, List.set_cons_zero, List.set_cons_succ]
  refine wpAnyH_ready (rs := [10]) (by kernel_rfl) (by simp) ?_
  refine AllReadyH.cons (o := ⟨none, _, _, _, _, _⟩) rfl (fun K hK => ?_) AllReadyH.nil
  go_simp
  refine hK.out _ _ ?_ (fun hHeld => ?_)
  · exact ((ch_setM w1 (w.heap.size + 1) (abtM k x.y l) (.slice pa l.length pc2) (.slice none 0 0) (.slice none 0 0)).block _ (blk_lt (blk_below HBX.out HB1.out)) (by omega)).trans (blk_below HBX.out HB1.out)
  clear hK K
  try simp only [Act.put, List.setIfInBounds_toArray, List.set_cons_zero, List.set_cons_succ]
  refine wpAnyH_done (by kernel_rfl) ?_ _
  refine NoPanic.normal ?_
  go_wp2_with fail
  (try simp only [Exit.inBlock, Exit.then])
  refine bodyPost_ret (v := .agg #[.int .i64 k, .int .i64 0, .int .i64 x.y.n, .int .i64 x.y.b, .int .i64 x.y.a, .int .i64 0, .slice pa l.length pc2, .slice none 0 0, .slice none 0 0]) (by rw [results_cell1 rfl]; go_simp) rfl ?_
  exact ab_end HW0.out HO1.out HB1.out


section

variable {wz w w' w2 : World} {A E C : Nat → Prop} {sb cb jb : Nat} {c : Cs} {p : Pn} {q : Int} {J : Jn} {S : Dk} {F : Value} {f : Yt → Bool}

theorem delY_mem {V : List Ye} {i j : Nat} {x : Ye} (h : x ∈ delY V i j) : x ∈ V := by
  unfold delY at h
  rcases List.mem_append.1 h with h | h
  · exact List.mem_of_mem_take h
  · exact List.mem_of_mem_drop h
/-- The row of tries is cut within its block. -/
theorem CM.cutR {dv jv tv tv' : Value} {V V' : List Ye} {o : Bool} {w9 : World} {g : Nat} (h : CM C w cb dv jv p tv V o) (hg : tv.ownBlock = some g) (hg' : tv'.ownBlock = some g) (hr : w9.ownsRow 0 43 7 tv' V'.length (flatY V')) (hV : ∀ x ∈ V', x ∈ V) (hc : Ch (fun x => x = g) w w9) : CM C (w9.setCell ⟨cb, 10, none⟩ tv') cb dv jv p tv' V' o := by
  have hgc : C g ∧ g ≠ cb := h.kr g hg
  refine cm_turn (tv := tv) (o := o) ?_ h.kc (fun x hx => Nat.lt_of_lt_of_le (h.kl x hx) hc.size) rfl hr (fun x hx => ?_) (fun x hx => ?_)
  · rw [hc.block cb h.lt (fun e => hgc.2 e.symm)]; exact h.head
  · exact (h.ls x (hV x hx)).rowset h.row (fun b hb hl => hc.block b hl (fun e => hb (by rw [hg, e])))
  · rw [hg'] at hx; cases hx; exact hgc
theorem CW.cutR {jb : Nat} {tv tv' : Value} {V V' : List Ye} {w9 : World} {g : Nat} {L' : List Yt} (hok : c.ok) (h1 : ∀ x, C x → wz.heap.size ≤ x ∧ ¬ A x) (h2 : Lw wz (fun x => A x ∨ C x) sb jb c.p.P c.J c.S w) (h3 : CM C w cb (Pt sb) (Pt jb) c.p tv V c.o) (hg : tv.ownBlock = some g) (hg' : tv'.ownBlock = some g) (hr : w9.ownsRow 0 43 7 tv' V'.length (flatY V')) (hV : ∀ x ∈ V', x ∈ V) (hc : Ch (fun x => x = g) w w9) (hL : V'.map Ye.y = L') (hln : L'.length ≤ 4) :
    CW wz A sb cb { c with L := L' } (w9.setCell ⟨cb, 10, none⟩ tv') ∧ ChA wz A w (w9.setCell ⟨cb, 10, none⟩ tv') := by
  have hgc : C g ∧ g ≠ cb := h3.kr g hg
  have hc2 : Ch (fun x => x = g ∨ x = cb) w (w9.setCell ⟨cb, 10, none⟩ tv') := (ch_le hc (fun x hx => .inl hx)).trans (ch_set w9 cb 10 tv') (fun x hx => .inl (.inr hx))
  have hC : ∀ x, x = g ∨ x = cb → C x := by
    rintro x (rfl | rfl)
    · exact hgc.1
    · exact h3.kc
  exact ⟨⟨⟨C, jb, tv', V', h1, h2.ch hc2 (fun x hx => .inr (hC x hx)) (fun x hx => (h1 x (hC x hx)).1), h3.cutR hg hg' hr hV hc, hL⟩, ⟨hok.pl, hok.pn, hln⟩⟩, ch_le hc2 (fun x hx => h1 x (hC x hx))⟩
theorem delY_map (V : List Ye) (i j : Nat) : (delY V i j).map Ye.y = (V.map Ye.y).take i ++ (V.map Ye.y).drop j := by unfold delY; simp
theorem gu_end {jb g cap i : Nat} {V : List Ye} {w9 : World} (hok : c.ok) (h1 : ∀ x, C x → wz.heap.size ≤ x ∧ ¬ A x) (h2 : Lw wz (fun x => A x ∨ C x) sb jb c.p.P c.J c.S w) (h3 : CM C w cb (Pt sb) (Pt jb) c.p (.slice (some ⟨g, 0, none⟩) V.length cap) V c.o) (h4 : V.map Ye.y = c.L) (hi : i < V.length) (hr : w9.ownsRow 0 43 7 (.slice (some ⟨g, 0, none⟩) (i + (V.length - V.length)) cap) (i + (V.length - V.length)) (flatY (delY V i V.length))) (hc : Ch (fun x => x = g) w w9) :
    CW wz A sb cb { c with L := c.L.take i } (w9.setCell ⟨cb, 10, none⟩ (.slice (some ⟨g, 0, none⟩) i cap)) ∧ ChA wz A w (w9.setCell ⟨cb, 10, none⟩ (.slice (some ⟨g, 0, none⟩) i cap)) := by
  have hd : (delY V i V.length).length = i := by rw [delY_len (Nat.le_of_lt hi) (Nat.le_refl _)]; omega
  rw [Nat.sub_self, Nat.add_zero] at hr
  have hz : (delY V i V.length).map Ye.y = c.L.take i := by rw [delY_map, h4, List.drop_of_length_le (by rw [← h4, List.length_map]; exact Nat.le_refl _)]; simp
  refine CW.cutR hok h1 h2 h3 rfl rfl (V' := delY V i V.length) (by rw [hd]; exact hr) (fun x hx => delY_mem hx) hc hz ?_
  have := hok.ln
  rw [List.length_take]; omega
set_option maxRecDepth 100000 in
set_option maxHeartbeats 2000000 in
theorem giveup_walk (h : CW wz A sb cb c w) {i : Nat} (hi : i < c.L.length) : Calls Try.prog 27 #[Pt cb, .int .i64 i] w (CwG wz A sb cb { c with L := c.L.take i } (.tuple #[]) w) := by
  obtain ⟨C, jb, tv, V, h1, h2, h3, h4⟩ := h.ex
  have hlen : V.length = c.L.length := by rw [← h4, List.length_map]
  have HOK : Hid c.ok := h.ok
  have H1 : Hid (∀ x, C x → wz.heap.size ≤ x ∧ ¬ A x) := h1
  have H2 : Hid (Lw wz (fun x => A x ∨ C x) sb jb c.p.P c.J c.S w) := h2
  have H3 : Hid (CM C w cb (Pt sb) (Pt jb) c.p tv V c.o) := h3
  have H4 : Hid (V.map Ye.y = c.L) := h4
  have HI : Hid (i < V.length) := by show _ < _; omega
  obtain ⟨g, cap, rfl, _, _, _, _⟩ := row_formY h3.row (by omega)
  have c10 : w.cell? ⟨cb, 10, none⟩ = some (.slice (some ⟨g, 0, none⟩) V.length cap) := h3.cell 10
  have hcbg : g ≠ cb := (h3.kr g rfl).2
  clear h h1 h2 h3 h4 hi hlen
  go_enter Try.func27, Try.ntmps27
  go_wp2_with fail
  refine wp_region_noPanic ?_
  refine wp_region_held_drew (S := (fun _ : World => True)) (by kernel_rfl) ?_ (fun hHeld => ?_)
  · exact trivial
  refine wpAnyH_take (i := 0) (oi := ⟨some 4, _, _, _, _, _⟩) (v := ?_) rfl (by kernel_rfl) (by kernel_rfl) (by kernel_rfl) (fun _ _ _ h => h) (Or.inl ⟨by rfl, ?_⟩) hHeld ?_
  rotate_left
  · intro w hSw; (try dsimp only at hSw); go_simp; all_goals (with_reducible rfl)
  try simp only [Act.put, List.setIfInBounds_toArray, List.set_cons_zero, List.set_cons_succ]
  refine wpAnyH_take (i := 1) (oi := ⟨some 5, _, _, _, _, _⟩) (v := ?_) rfl (by kernel_rfl) (by kernel_rfl) (by kernel_rfl) (fun _ _ _ h => h) (Or.inl ⟨by rfl, ?_⟩) hHeld ?_
  rotate_left
  · intro w hSw; (try dsimp only at hSw); go_simp; all_goals (with_reducible rfl)
  try simp only [Act.put, List.setIfInBounds_toArray, List.set_cons_zero, List.set_cons_succ]
  refine wpAnyH_take (i := 2) (oi := ⟨some 6, _, _, _, _, _⟩) (v := ?_) rfl (by kernel_rfl) (by kernel_rfl) (by kernel_rfl) (fun _ _ _ h => h) (Or.inl ⟨by rfl, ?_⟩) hHeld ?_
  rotate_left
  · intro w hSw; (try dsimp only at hSw); go_simp; all_goals (with_reducible rfl)
  try simp only [Act.put, List.setIfInBounds_toArray, List.set_cons_zero, List.set_cons_succ]
  refine wpAnyH_take (i := 3) (oi := ⟨some 7, _, _, _, _, _⟩) (v := ?_) rfl (by kernel_rfl) (by kernel_rfl) (by kernel_rfl) (fun _ _ _ h => h) (Or.inl ⟨by rfl, ?_⟩) hHeld ?_
  rotate_left
  · intro w hSw; (try dsimp only at hSw); go_simp; all_goals (with_reducible rfl)
  try simp only [Act.put, List.setIfInBounds_toArray, List.set_cons_zero, List.set_cons_succ]
  refine wpAnyH_take (i := 5) (oi := ⟨some 9, _, _, _, _, _⟩) (v := ?_) rfl (by kernel_rfl) (by kernel_rfl) (by kernel_rfl) (fun _ _ _ h => h) (Or.inl ⟨by rfl, ?_⟩) hHeld ?_
  rotate_left
  · intro w hSw; (try dsimp only at hSw); go_simp; all_goals (with_reducible rfl)
  try simp only [Act.put, List.setIfInBounds_toArray, List.set_cons_zero, List.set_cons_succ]
  refine wpAnyH_take (i := 6) (oi := ⟨some 10, _, _, _, _, _⟩) (v := ?_) rfl (by kernel_rfl) (by kernel_rfl) (by kernel_rfl) (fun _ _ _ h => h) (Or.inl ⟨by rfl, ?_⟩) hHeld ?_
  rotate_left
  · intro w hSw; (try dsimp only at hSw); go_simp; all_goals (with_reducible rfl)
  try simp only [Act.put, List.setIfInBounds_toArray, List.set_cons_zero, List.set_cons_succ]
  refine wpAnyH_take (i := 7) (oi := ⟨some 11, _, _, _, _, _⟩) (v := ?_) rfl (by kernel_rfl) (by kernel_rfl) (by kernel_rfl) (fun _ _ _ h => h) (Or.inl ⟨by rfl, ?_⟩) hHeld ?_
  rotate_left
  · intro w hSw; (try dsimp only at hSw); go_simp; all_goals (with_reducible rfl)
  try simp only [Act.put, List.setIfInBounds_toArray, List.set_cons_zero, List.set_cons_succ]
  refine wpAnyH_take (i := 8) (oi := ⟨some 12, _, _, _, _, _⟩) (v := ?_) rfl (by kernel_rfl) (by kernel_rfl) (by kernel_rfl) (fun _ _ _ h => h) (Or.inl ⟨by rfl, ?_⟩) hHeld ?_
  rotate_left
  · intro w hSw; (try dsimp only at hSw); go_simp; all_goals (with_reducible rfl)
  try simp only [Act.put, List.setIfInBounds_toArray, List.set_cons_zero, List.set_cons_succ]
  refine wpAnyH_ready (rs := [4, 9]) (by kernel_rfl) (by simp) ?_
  refine AllReadyH.cons (o := ⟨some 8, _, _, _, _, _⟩) rfl (fun K hK => ?_) (AllReadyH.cons (o := ⟨some 13, _, _, _, _, _⟩) rfl (fun K hK => ?_) AllReadyH.nil)
  · go_simp
    refine hK.out _ _ ?_ (fun hHeld => ?_)
    · exact trivial
    clear hK K
    try simp only [Act.put, List.setIfInBounds_toArray, List.set_cons_zero, List.set_cons_succ]
    refine wpAnyH_ready (rs := [9]) (by kernel_rfl) (by simp) ?_
    refine AllReadyH.cons (o := ⟨some 13, _, _, _, _, _⟩) rfl (fun K hK => ?_) AllReadyH.nil
    go_simp
    refine hK.out _ _ ?_ (fun hHeld => ?_)
    · exact trivial
    clear hK K
    try simp only [Act.put, List.setIfInBounds_toArray, List.set_cons_zero, List.set_cons_succ]
    refine wpAnyH_take (i := 10) (oi := ⟨some 14, _, _, _, _, _⟩) (v := ?_) rfl (by kernel_rfl) (by kernel_rfl) (by kernel_rfl) (fun _ _ _ h => h) (Or.inl ⟨by rfl, ?_⟩) hHeld ?_
    rotate_left
    · intro w hSw; (try dsimp only at hSw); go_simp; all_goals (with_reducible rfl)
    try simp only [Act.put, List.setIfInBounds_toArray, List.set_cons_zero, List.set_cons_succ]
    refine wpAnyH_ready (rs := [11]) (by kernel_rfl) (by simp) ?_
    refine AllReadyH.cons (o := ⟨some 15, _, _, _, _, _⟩) rfl (fun K hK => ?_) AllReadyH.nil
    go_simp
    refine (delete_walk (i := i) (j := V.length) (H3.out.below (below_drewN w 1)).yr HI.out (Nat.le_refl _)).mono ?_
    rintro e w9 ⟨g9, cap9, e1, rfl, hr, hc⟩
    cases e1
    have HR : Hid (w9.ownsRow 0 43 7 (.slice (some ⟨g, 0, none⟩) (i + (V.length - V.length)) cap) (i + (V.length - V.length)) (flatY (delY V i V.length))) := hr
    have HC : Hid (Ch (fun x => x = g) w w9) := (Ch.of_below (below_drewN w 1)).self hc
    have HS9 : Hid (w9.cell? ⟨cb, 10, none⟩ = some (.slice (some ⟨g, 0, none⟩) V.length cap) ∧ w9.frozen? ⟨cb, 10, none⟩ = false) := by
      have hh : w9.heap[cb]? = some (.cells (cC c.p (Pt sb) (Pt jb) (.slice (some ⟨g, 0, none⟩) V.length cap) c.o) 72 (0, 0)) := by rw [HC.out.block cb H3.out.lt (fun e => hcbg e.symm)]; exact H3.out.head
      exact ⟨by rw [blk_cell hh]; rfl, blk_soft hh 10⟩
    have z9c := HS9.out.1
    have z9z := HS9.out.2
    clear hr hc
    refine hK.out _ _ ?_ (fun hHeld => ?_)
    · exact trivial
    clear hK K
    try simp only [Act.put, List.setIfInBounds_toArray, List.set_cons_zero, List.set_cons_succ]
    refine wpAnyH_take (i := 12) (oi := ⟨some 16, _, _, _, _, _⟩) (v := ?_) rfl (by kernel_rfl) (by kernel_rfl) (by kernel_rfl) (fun _ _ _ h => h) (Or.inl ⟨by rfl, ?_⟩) hHeld ?_
    rotate_left
    · intro w hSw; (try dsimp only at hSw); go_simp; all_goals (with_reducible rfl)
    try simp only [Act.put, List.setIfInBounds_toArray, List.set_cons_zero, List.set_cons_succ]
    refine wpAnyH_take (i := 13) (oi := ⟨some 17, _, _, _, _, _⟩) (v := ?_) rfl (by kernel_rfl) (by kernel_rfl) (by kernel_rfl) (fun _ _ _ h => h) (Or.inl ⟨by rfl, ?_⟩) hHeld ?_
    rotate_left
    · intro w hSw; (try dsimp only at hSw); go_simp; all_goals (with_reducible rfl)
    try simp only [Act.put, List.setIfInBounds_toArray, List.set_cons_zero, List.set_cons_succ]
    refine wpAnyH_ready (rs := [14]) (by kernel_rfl) (by simp) ?_
    refine AllReadyH.cons (o := ⟨none, _, _, _, _, _⟩) rfl (fun K hK => ?_) AllReadyH.nil
    go_simp
    refine hK.out _ _ ?_ (fun hHeld => ?_)
    · exact trivial
    clear hK K
    try simp only [Act.put, List.setIfInBounds_toArray, List.set_cons_zero, List.set_cons_succ]
    refine wpAnyH_done (by kernel_rfl) ?_ _
    refine NoPanic.normal ?_
    go_end0
    exact ⟨rfl, gu_end HOK.out H1.out H2.out H3.out H4.out HI.out HR.out HC.out⟩
  · go_simp
    refine hK.out _ _ ?_ (fun hHeld => ?_)
    · exact trivial
    clear hK K
    try simp only [Act.put, List.setIfInBounds_toArray, List.set_cons_zero, List.set_cons_succ]
    refine wpAnyH_take (i := 10) (oi := ⟨some 14, _, _, _, _, _⟩) (v := ?_) rfl (by kernel_rfl) (by kernel_rfl) (by kernel_rfl) (fun _ _ _ h => h) (Or.inl ⟨by rfl, ?_⟩) hHeld ?_
    rotate_left
    · intro w hSw; (try dsimp only at hSw); go_simp; all_goals (with_reducible rfl)
    try simp only [Act.put, List.setIfInBounds_toArray, List.set_cons_zero, List.set_cons_succ]
    refine wpAnyH_ready (rs := [4]) (by kernel_rfl) (by simp) ?_
    refine AllReadyH.cons (o := ⟨some 8, _, _, _, _, _⟩) rfl (fun K hK => ?_) AllReadyH.nil
    go_simp
    refine hK.out _ _ ?_ (fun hHeld => ?_)
    · exact trivial
    clear hK K
    try simp only [Act.put, List.setIfInBounds_toArray, List.set_cons_zero, List.set_cons_succ]
    refine wpAnyH_ready (rs := [11]) (by kernel_rfl) (by simp) ?_
    refine AllReadyH.cons (o := ⟨some 15, _, _, _, _, _⟩) rfl (fun K hK => ?_) AllReadyH.nil
    go_simp
    refine (delete_walk (i := i) (j := V.length) (H3.out.below (below_drewN w 1)).yr HI.out (Nat.le_refl _)).mono ?_
    rintro e w9 ⟨g9, cap9, e1, rfl, hr, hc⟩
    cases e1
    have HR : Hid (w9.ownsRow 0 43 7 (.slice (some ⟨g, 0, none⟩) (i + (V.length - V.length)) cap) (i + (V.length - V.length)) (flatY (delY V i V.length))) := hr
    have HC : Hid (Ch (fun x => x = g) w w9) := (Ch.of_below (below_drewN w 1)).self hc
    have HS9 : Hid (w9.cell? ⟨cb, 10, none⟩ = some (.slice (some ⟨g, 0, none⟩) V.length cap) ∧ w9.frozen? ⟨cb, 10, none⟩ = false) := by
      have hh : w9.heap[cb]? = some (.cells (cC c.p (Pt sb) (Pt jb) (.slice (some ⟨g, 0, none⟩) V.length cap) c.o) 72 (0, 0)) := by rw [HC.out.block cb H3.out.lt (fun e => hcbg e.symm)]; exact H3.out.head
      exact ⟨by rw [blk_cell hh]; rfl, blk_soft hh 10⟩
    have z9c := HS9.out.1
    have z9z := HS9.out.2
    clear hr hc
    refine hK.out _ _ ?_ (fun hHeld => ?_)
    · exact trivial
    clear hK K
    try simp only [Act.put, List.setIfInBounds_toArray, List.set_cons_zero, List.set_cons_succ]
    refine wpAnyH_take (i := 12) (oi := ⟨some 16, _, _, _, _, _⟩) (v := ?_) rfl (by kernel_rfl) (by kernel_rfl) (by kernel_rfl) (fun _ _ _ h => h) (Or.inl ⟨by rfl, ?_⟩) hHeld ?_
    rotate_left
    · intro w hSw; (try dsimp only at hSw); go_simp; all_goals (with_reducible rfl)
    try simp only [Act.put, List.setIfInBounds_toArray, List.set_cons_zero, List.set_cons_succ]
    refine wpAnyH_take (i := 13) (oi := ⟨some 17, _, _, _, _, _⟩) (v := ?_) rfl (by kernel_rfl) (by kernel_rfl) (by kernel_rfl) (fun _ _ _ h => h) (Or.inl ⟨by rfl, ?_⟩) hHeld ?_
    rotate_left
    · intro w hSw; (try dsimp only at hSw); go_simp; all_goals (with_reducible rfl)
    try simp only [Act.put, List.setIfInBounds_toArray, List.set_cons_zero, List.set_cons_succ]
    refine wpAnyH_ready (rs := [14]) (by kernel_rfl) (by simp) ?_
    refine AllReadyH.cons (o := ⟨none, _, _, _, _, _⟩) rfl (fun K hK => ?_) AllReadyH.nil
    go_simp
    refine hK.out _ _ ?_ (fun hHeld => ?_)
    · exact trivial
    clear hK K
    try simp only [Act.put, List.setIfInBounds_toArray, List.set_cons_zero, List.set_cons_succ]
    refine wpAnyH_done (by kernel_rfl) ?_ _
    refine NoPanic.normal ?_
    go_end0
    exact ⟨rfl, gu_end HOK.out H1.out H2.out H3.out H4.out HI.out HR.out HC.out⟩
end

end Go.Proofs.Ytpndafieknddcaa

namespace Go.Proofs.Ytpndafieknddcaa

open Ieee Go.RowKit

theorem flatY_upd : ∀ (V : List Ye) (i j : Nat) (u : Value) (x' : Ye) (hi : i < V.length), j < 7 → cellsY x' = (cellsY V[i]).set j u → (flatY V).set (i * 7 + j) u = flatY (V.set i x')
  | [], i, _, _, _, hi, _, _ => by simp at hi
  | a :: t, 0, j, u, x', hi, hj, e => by
    have e7 : (cellsY a).length = 7 := rfl
    simp only [List.getElem_cons_zero] at e
    simp only [flatY, List.flatMap_cons, Nat.zero_mul, Nat.zero_add, List.set_cons_zero]
    rw [List.set_append_left _ _ (by omega), e]
  | a :: t, i + 1, j, u, x', hi, hj, e => by
    have e7 : (cellsY a).length = 7 := rfl
    have ih := flatY_upd t i j u x' (by simpa using hi) hj (by simpa using e)
    simp only [flatY, List.flatMap_cons, List.set_cons_succ] at ih ⊢
    rw [List.set_append_right _ _ (by omega), e7, show (i + 1) * 7 + j - 7 = i * 7 + j by omega, ih]
section

variable {wz w w' w2 : World} {A E C : Nat → Prop} {sb cb jb : Nat} {c : Cs} {p : Pn} {q : Int} {J : Jn} {S : Dk} {F dv jv tv : Value} {f : Yt → Bool} {V : List Ye} {o : Bool}

/-- A cell of a try in its row is written. -/
theorem CM.rowS {g cap : Nat} (h : CM C w cb dv jv p (.slice (some ⟨g, 0, none⟩) V.length cap) V o) {i j : Nat} (hi : i < V.length) (hj : j < 7) {u : Value} {x' : Ye} (hx : cellsY x' = (cellsY V[i]).set j u) (hy : Yo C w x') : CM C (w.setCell ⟨g, i * 7 + j, none⟩ u) cb dv jv p (.slice (some ⟨g, 0, none⟩) V.length cap) (V.set i x') o := by
  have hg := h.kr g rfl
  have hk : ∀ b, b ≠ g → (w.setCell ⟨g, i * 7 + j, none⟩ u).heap[b]? = w.heap[b]? := fun b hb => set_other _ _ hb
  have hr := own_setY (o := i * 7 + j) u h.row
  rw [flatY_upd V i j u x' hi hj hx] at hr
  refine ⟨by rw [hk cb (fun e => hg.2 e.symm)]; exact h.head, by rw [List.length_set]; exact hr, fun x hx => ?_, h.kc, h.kr, fun x hx => by have := h.kl x hx; simpa [go_sem] using this⟩
  have hyo : Yo C w x := by
    rcases List.mem_or_eq_of_mem_set hx with h9 | h9
    · exact h.ls x h9
    · rw [h9]; exact hy
  exact hyo.rowset h.row (fun b hb _ => hk b (fun e => hb (by rw [e]; rfl)))
def ageY (y : Yt) : Yt := if inPh [1, 3] y = true then { y with t := y.t + 1 } else y
def ageE (x : Ye) : Ye := { x with y := ageY x.y }
def ageV (k : Nat) (V : List Ye) : List Ye := (V.take k).map ageE ++ V.drop k
theorem ageV_len (k : Nat) (V : List Ye) : (ageV k V).length = V.length := by unfold ageV; simp; omega
theorem ageV_at {k : Nat} (hk : k < V.length) : (ageV k V)[k]'(by rw [ageV_len]; exact hk) = V[k] := by
  unfold ageV
  rw [List.getElem_append_right (by simp; omega)]
  simp [Nat.min_eq_left (Nat.le_of_lt hk)]
theorem ageV_succ {k : Nat} (hk : k < V.length) : ageV (k + 1) V = (ageV k V).set k (ageE V[k]) := by
  unfold ageV
  have e1 : (V.take (k + 1)).map ageE = (V.take k).map ageE ++ [ageE V[k]] := by rw [List.take_add_one, List.getElem?_eq_getElem hk, List.map_append]; rfl
  have e2 : k - ((V.take k).map ageE).length = 0 := by simp; omega
  have e3 : V.drop k = V[k] :: V.drop (k + 1) := List.drop_eq_getElem_cons hk
  rw [e1, e3, List.set_append_right _ _ (by simp; omega), e2, List.set_cons_zero, List.append_assoc]; rfl
theorem ageV_all (V : List Ye) : (ageV V.length V).map Ye.y = (V.map Ye.y).map ageY := by
  unfold ageV
  simp [ageE]
theorem ageE_no {x : Ye} (h : inPh [1, 3] x.y = false) : ageE x = x := by unfold ageE ageY; rw [if_neg (by rw [h]; simp)]
theorem set_same {α : Type} {l : List α} {i : Nat} (hi : i < l.length) : l.set i l[i] = l := by simp
set_option maxRecDepth 100000 in
set_option maxHeartbeats 2000000 in
theorem age_walk {B : Nat} {pv : Value} {t : TypeId} (h : CW wz A sb cb c w) (hB : w.heap[B]? = some (.cells #[pv] t (0, 0))) (hp : OwN 0 w pv [1, 3]) (aB : A B) (ap : ∀ x, pv.ownBlock = some x → A x) (ht : ∀ y ∈ c.L, y.t < 4294967295) :
    Calls Try.prog 23 #[Pt cb, .func (.func 43) #[] #[.pointer (some ⟨B, 0, none⟩)]] w (CwG wz A sb cb { c with L := c.L.map ageY } (.tuple #[]) w) := by
  obtain ⟨C, jb, tv, V, h1, h2, h3, h4⟩ := h.ex
  have HOK : Hid c.ok := h.ok
  have H1 : Hid (∀ x, C x → wz.heap.size ≤ x ∧ ¬ A x) := h1
  have H2 : Hid (Lw wz (fun x => A x ∨ C x) sb jb c.p.P c.J c.S w) := h2
  have H3 : Hid (CM C w cb (Pt sb) (Pt jb) c.p tv V c.o) := h3
  have H4 : Hid (V.map Ye.y = c.L) := h4
  have HT : Hid (∀ x ∈ V, x.y.t < 4294967295) := fun x hx => ht x.y (by rw [← h4]; exact List.mem_map_of_mem hx)
  have HB : Hid (w.heap[B]? = some (.cells #[pv] t (0, 0))) := hB
  have HP : Hid (OwN 0 w pv [1, 3]) := hp
  have HNB : Hid (¬ C B) := fun hc => (h1 B hc).2 aB
  have HNP : Hid (∀ x, pv.ownBlock = some x → ¬ C x) := fun x hx hc => (h1 x hc).2 (ap x hx)
  obtain ⟨ta, tc, rfl, hlc, hlm⟩ := h3.form
  have c10 : w.cell? ⟨cb, 10, none⟩ = some (.slice ta V.length tc) := h3.cell 10
  have hlmi : (V.length : Int) ≤ 9223372036854775807 := by unfold maxLen at hlm; omega
  have eg : ∀ args w, (callFunc 43 args).run Try.prog w = .ok (.enter 43 args) w := enters_of Try.func43 (by kernel_rfl) rfl
  clear h h1 h2 h3 h4 hB hp aB ap ht hlm
  go_enter Try.func23, Try.ntmps23
  go_wp2_with fail
  go_loopw [11] (fun iv wr => ∃ k : Nat, k ≤ V.length ∧ iv = .int .i64 k ∧ CM C wr cb (Pt sb) (Pt jb) c.p (.slice ta V.length tc) (ageV k V) c.o ∧ Ch C w wr) (fun iv _ => V.length - (intOf iv).toNat)
  case atStart => exact ⟨0, Nat.zero_le _, rfl, by unfold ageV; simpa using H3.out, Ch.refl _ _⟩
  case round =>
    obtain ⟨k, hk, rfl, hM, hC⟩ := hrel
    have HM : Hid (CM C wr cb (Pt sb) (Pt jb) c.p (.slice ta V.length tc) (ageV k V) c.o) := hM
    have HC : Hid (Ch C w wr) := hC
    by_cases hlt : k < V.length
    · have hlt2 : k < (ageV k V).length := by rw [ageV_len]; exact hlt
      obtain ⟨g, cap, e1, _, _, hgl, h7⟩ := hM.yr.at hlt2
      rw [ageV_len] at e1
      cases e1
      have hyo := hM.ls _ (List.getElem_mem hlt2)
      rw [ageV_at hlt] at h7 hyo
      obtain ⟨x, hx⟩ : ∃ x, x = V[k] := ⟨_, rfl⟩
      rw [← hx] at h7 hyo
      have HX : Hid (x = V[k]) := hx
      have HYO : Hid (Yo C wr x) := hyo
      have HTX : Hid (x.y.t < 4294967295) := by show _ < _; rw [hx]; exact HT.out _ (List.getElem_mem hlt)
      obtain ⟨d0, d1, d2, d3, d4, d5, d6, dz⟩ := h7
      obtain ⟨fa, fc, ea, ec, e5, e6⟩ := hyo.yl.form
      have HE5 : Hid (x.fv = .slice fa x.y.f.length fc) := e5
      have HE6 : Hid (x.ev = .slice ea x.y.e.length ec) := e6
      rw [e5] at d5
      rw [e6] at d6
      have hlti : (k : Int) < (V.length : Int) := by omega
      obtain ⟨w1, hw1⟩ : ∃ w1, w1 = wr.alloc (.cells #[.int .i64 x.y.b, .int .i64 x.y.a, .int .i64 x.y.n, .int .i64 x.y.h, .int .i64 x.y.t, .slice fa x.y.f.length fc, .slice ea x.y.e.length ec] 43) := ⟨_, rfl⟩
      have HW1 : Hid (w1 = wr.alloc (.cells #[.int .i64 x.y.b, .int .i64 x.y.a, .int .i64 x.y.n, .int .i64 x.y.h, .int .i64 x.y.t, .slice fa x.y.f.length fc, .slice ea x.y.e.length ec] 43)) := hw1
      have hb1 : Below wr.heap.size wr w1 := by rw [hw1]; exact below_alloc _ _
      have HB1 : Hid (Below wr.heap.size wr w1) := hb1
      have hBr : wr.heap[B]? = some (.cells #[pv] t (0, 0)) := by rw [hC.block B (blk_lt HB.out) HNB.out]; exact HB.out
      have hPr : OwN 0 wr pv [1, 3] := row_keep HP.out fun b hb => hC.block b (HP.out.lt b hb).2 (HNP.out b hb)
      have HCL : Hid (Calls Try.prog 43 #[.agg #[.int .i64 x.y.b, .int .i64 x.y.a, .int .i64 x.y.n, .int .i64 x.y.h, .int .i64 x.y.t, x.fv, x.ev], .pointer (some ⟨B, 0, none⟩)] w1 fun e w' => e = .returned (.bool (inPh [1, 3] x.y)) ∧ Below w1.heap.size w1 w') :=
        inPhase1_walk (blk_below hBr hb1) ((own_nv hPr (fun v hv => by simp at hv; omega)).below hb1) (hyo.yl.below hb1)
      rw [HE5.out, HE6.out] at HCL
      have hxb : w1.heap[wr.heap.size]? = some (.cells #[.int .i64 x.y.b, .int .i64 x.y.a, .int .i64 x.y.n, .int .i64 x.y.h, .int .i64 x.y.t, .slice fa x.y.f.length fc, .slice ea x.y.e.length ec] 43 (0, 0)) := by rw [hw1]; exact alloc_at rfl
      clear hM hC hx hyo e5 e6 hw1 hb1 hBr hPr hxb
      go_wp2_with fail
      rw [← HW1.out]
      refine HCL.out.mono ?_
      rintro e w9 ⟨rfl, h9⟩
      have hb9 : Below wr.heap.size wr w9 := HB1.out.trans (h9.mono HB1.out.size)
      have HB9 : Hid (Below wr.heap.size wr w9) := hb9
      have hm9 := HM.out.below hb9
      have HM9 : Hid (CM C w9 cb (Pt sb) (Pt jb) c.p (.slice (some ⟨g, 0, none⟩) V.length tc) (ageV k V) c.o) := hm9
      have p10 : w9.cell? ⟨cb, 10, none⟩ = some (.slice (some ⟨g, 0, none⟩) V.length tc) := hm9.cell 10
      have p4 : w9.cell? ⟨g, k * 7 + 4, none⟩ = some (.int .i64 x.y.t) := by rw [hb9.cell (p := ⟨g, k * 7 + 4, none⟩) hgl]; exact d4
      have pz : ∀ j, w9.frozen? ⟨g, j, none⟩ = false := fun j => by
        have := hb9.block g hgl
        have h0 := dz j
        unfold World.frozen? at h0 ⊢
        rw [this]; exact h0
      have pz4 := pz (k * 7 + 4)
      clear h9 hb9 hm9 pz d0 d1 d2 d3 d4 d5 d6 dz
      cases hq : inPh [1, 3] x.y
      · have HQ : Hid (inPh [1, 3] x.y = false) := hq
        clear hq
        go_wp2_with fail
        go_roundw
        case rel =>
          refine ⟨k + 1, by omega, by go_num, ?_, HC.out.self (Ch.of_below HB9.out)⟩
          have e : ageV (k + 1) V = ageV k V := by
            rw [ageV_succ hlt, ageE_no (by rw [← HX.out]; exact HQ.out)]
            have := set_same (l := ageV k V) (i := k) (by rw [ageV_len]; exact hlt)
            rw [ageV_at hlt] at this
            exact this
          rw [e]; exact HM9.out
        case measure => simp [intOf]; omega
      · have HQ : Hid (inPh [1, 3] x.y = true) := hq
        have ht0 := HYO.out.ok.t0
        have ht1 := HTX.out
        have hwr : IntKind.i64.wrap (x.y.t + 1) = x.y.t + 1 := by rw [IntKind.wrap_i64]; omega
        have HT0 : Hid (0 ≤ x.y.t) := ht0
        clear hq ht0 ht1
        go_wp2_with fail
        go_roundw
        case rel =>
          have hch := ch_set w9 g (k * 7 + 4) (.int .i64 (x.y.t + 1))
          refine ⟨k + 1, by omega, by go_num, ?_, (HC.out.self (Ch.of_below HB9.out)).self (ch_le hch (fun y hy => hy ▸ (HM9.out.kr g rfl).1))⟩
          rw [ageV_succ hlt]
          have hl := ageV_len k V
          have hm := HM9.out
          have ey : ageE V[k] = { x with y := { x.y with t := x.y.t + 1 } } := by
            rw [← HX.out]; unfold ageE ageY; rw [if_pos HQ.out]
          have hyo := HYO.out.keep (w' := w9) (fun b hb => HB9.out.block b (HM.out.kl b hb))
          rw [ey]
          have := CM.rowS (V := ageV k V) (i := k) (j := 4) (u := .int .i64 (x.y.t + 1)) (x' := { x with y := { x.y with t := x.y.t + 1 } }) (g := g) (cap := tc) (by rw [hl]; exact hm) (by rw [hl]; exact hlt) (by omega) (by rw [ageV_at hlt, ← HX.out]; rfl) ⟨hyo.f, hyo.e, hyo.kf, hyo.ke, ⟨hyo.ok.fm, hyo.ok.em, hyo.ok.fl, hyo.ok.el, by have := HT0.out; show 0 ≤ x.y.t + 1; omega, by have := HTX.out; show x.y.t + 1 < _; omega⟩⟩
          rw [hl] at this
          exact this
        case measure => simp [intOf]; omega
    · have hnl : ¬ ((k : Int) < (V.length : Int)) := by omega
      have hkn : k = V.length := by omega
      have HKN : Hid (k = V.length) := hkn
      clear hkn hM hC
      go_wp2_with fail
      go_end0
      refine ⟨rfl, ⟨⟨C, jb, _, ageV k V, H1.out, H2.out.ch HC.out (fun x hx => .inr hx) (fun x hx => (H1.out x hx).1), HM.out, by rw [HKN.out, ageV_all, H4.out]⟩, ⟨HOK.out.pl, HOK.out.pn, by have := HOK.out.ln; simpa using this⟩⟩, ch_le HC.out (fun x hx => H1.out x hx)⟩
end

end Go.Proofs.Ytpndafieknddcaa
