/- The walk of BucketMemory. -/
import Derived.Test.YtjcmmhonidamoaaHm
namespace Go.Proofs.Ytjcmmhonidamoaa
open Go.RowKit

theorem bm4 {n : Nat} (h : (n + 1) * 48 ≤ 140737488351280) : n + 30 ≤ maxLen := by unfold maxLen; omega
theorem bd4 {n m : Nat} (h : (n + 1) * 48 ≤ 140737488351280) (hm : m ≤ n + 30) : m * 48 ≤ 140737488355328 := by omega
theorem bmk {n m : Nat} (h : (n + 1) * 48 ≤ 140737488351280) (hm : m ≤ n + 30) : m ≤ maxLen := by unfold maxLen; omega
theorem four_up (l X : List Cl) : (l ++ X).take l.length = l := by simp
theorem four_at (l X : List Cl) : (l ++ X).drop l.length = X := by simp

set_option maxRecDepth 100000 in
set_option maxHeartbeats 8000000 in
theorem bucketmemory_walk {w : World} {cv : Value} {l : List Cl} (c : Cl) (hc : Cv w cv l) (hok : ∀ c ∈ l, c.ok) (hsz : (l.length + 1) * 48 ≤ 140737488351280) :
    Calls Try.prog 8 #[cv, .agg #[.int .u64 c.k, .bool c.p.h, .int .u64 c.p.b, .bool c.c.h, .int .u64 c.c.b, .int .i64 c.n]] w fun e w' => e = .returned (.bool true) ∧ Below w.heap.size w w' := by
  have HV : Hid (Cv w cv l) := hc
  have HOK : Hid (∀ c ∈ l, c.ok) := hok
  have HSZ : Hid ((l.length + 1) * 48 ≤ 140737488351280) := hsz
  have HSP : Hid ((l.length + 1) * 48 ≤ 140737488355328) := bd4 hsz (by omega)
  have HSD : Hid (l.length * 48 ≤ 140737488355328) := bd4 hsz (by omega)
  have HCB : Hid (CB (w.alloc (Obj.cells #[.int .u64 c.k, .bool c.p.h, .int .u64 c.p.b, .bool c.c.h, .int .u64 c.c.b, .int .i64 c.n] 37)) w.heap.size c) := cb_new w c
  have HB0 : Hid (Below w.heap.size w (w.alloc (Obj.cells #[.int .u64 c.k, .bool c.p.h, .int .u64 c.p.b, .bool c.c.h, .int .u64 c.c.b, .int .i64 c.n] 37))) := below_alloc _ _
  obtain ⟨co, cc, hcv⟩ := hc.form
  obtain ⟨n, hn⟩ : ∃ n, n = l.length := ⟨_, rfl⟩
  rw [← hn] at hcv
  have hn48 : (n : Int) ≤ 2932031007402 := by omega
  have HN : Hid (n = l.length) := hn
  have hwn : IntKind.i64.wrap ((n : Int) + 4) = (n : Int) + 4 := by rw [IntKind.wrap_i64]; omega
  have HN4 : Hid (((n : Int) + 4) = ((n + 4 : Nat) : Int)) := by show _ = _; omega
  subst hcv
  obtain ⟨ci, hci, hz0, hz1, hz2⟩ := info_partsV info_cell
  clear hc hok hsz hn
  go_enter Try.func8, Try.ntmps8
  go_wp2_with fail
  refine (awake_walk _).mono ?_
  rintro e w1 ⟨rfl, hB1⟩
  have HB1 : Hid (Below w.heap.size w w1) := below_trans HB0.out hB1
  have HC1 : Hid (CB w1 w.heap.size c) := HCB.out.keep hB1
  clear hB1 HCB HB0
  have HMB : Hid (ci.bytes * (n + 4) ≤ 281474976710656) := by show _ ≤ _; rw [hz2]; omega
  have HML : Hid (n + 4 ≤ maxLen) := by show _ ≤ _; unfold maxLen; omega
  go_upto_region 5 with (at_make; refine wpList_make_own _ (by rfl) _ _ 22 (by rfl) w1.heap.size 37 ci (.agg #[.int .u64 0, .bool false, .int .u64 0, .bool false, .int .u64 0, .int .i64 0]) 6 Try.underlying22 hci hz0 hz1 .i64 .i64 _ (n + 4) (by rfl) (by rfl) HN4.out HMB.out HML.out (Nat.le_refl _) ?_; intro w2 hown hgrow)
  have HO2 : Hid (w2.ownsRow w1.heap.size 37 6 (.slice (some ⟨w1.heap.size, 0, none⟩) 0 (n + 4)) 0 []) := hown
  have HB2 : Hid (Below w1.heap.size w1 w2) := (Below.refl _ _).grown hgrow (Nat.le_refl _) (by simp)
  clear hown hgrow hci hz0 hz1 hz2 HN4 hwn HMB HML
  have HV2 : Hid (Cv w2 (.slice co n cc) l) := HV.out.below (below_trans HB1.out HB2.out)
  go_upto_region 6 with (at_builtin; refine wpList_append_cv (by rfl) (.tmp 33) (.tmp 34) (by rfl) w1.heap.size _ _ _ (by rfl) HO2.out _ l (by rfl) HV2.out (bmk HSZ.out (by omega)) (bd4 HSZ.out (by omega)) HB2.out.size ?_; intro v3 w3 hown hgrow)
  have HO3 : Hid (w3.ownsRow w1.heap.size 37 6 v3 (0 + l.length) ([] ++ flatC l)) := hown
  have HB3 : Hid (Below w1.heap.size w1 w3) := HB2.out.trans (grown_belowC HO2.out hgrow HB2.out.size)
  clear hown hgrow HO2 HV2 HB2
  go_wp2_with fail
  refine (laid_walk 71 1 _).mono ?_
  rintro e wa ⟨rfl, hBa⟩
  go_wp2_with fail
  refine (laid_walk 72 2 _).mono ?_
  rintro e wb ⟨rfl, hBb⟩
  go_wp2_with fail
  refine (laid_walk 73 3 _).mono ?_
  rintro e wd ⟨rfl, hBd⟩
  go_wp2_with fail
  refine (laid_walk 74 4 _).mono ?_
  rintro e we ⟨rfl, hBe⟩
  have HBE : Hid (Below w3.heap.size w3 we) := below_trans hBa (below_trans hBb (below_trans hBd hBe))
  have HOE : Hid (we.ownsRow w1.heap.size 37 6 v3 (0 + l.length) ([] ++ flatC l)) := own_belowC HO3.out HBE.out
  clear hBa hBb hBd hBe HO3
  have HXE : Hid (Cv (we.alloc (Obj.cells #[.int .u64 (lc 71 1).k, .bool (lc 71 1).p.h, .int .u64 (lc 71 1).p.b, .bool (lc 71 1).c.h, .int .u64 (lc 71 1).c.b, .int .i64 (lc 71 1).n, .int .u64 (lc 72 2).k, .bool (lc 72 2).p.h, .int .u64 (lc 72 2).p.b, .bool (lc 72 2).c.h, .int .u64 (lc 72 2).c.b, .int .i64 (lc 72 2).n, .int .u64 (lc 73 3).k, .bool (lc 73 3).p.h, .int .u64 (lc 73 3).p.b, .bool (lc 73 3).c.h, .int .u64 (lc 73 3).c.b, .int .i64 (lc 73 3).n, .int .u64 (lc 74 4).k, .bool (lc 74 4).p.h, .int .u64 (lc 74 4).p.b, .bool (lc 74 4).c.h, .int .u64 (lc 74 4).c.b, .int .i64 (lc 74 4).n] 37)) (.slice (some ⟨we.heap.size, 0, none⟩) 4 4) [lc 71 1, lc 72 2, lc 73 3, lc 74 4]) := cv_four we _ _ _ _
  go_upto_region 7 with (at_builtin; refine wpList_append_cv (by rfl) (.tmp 36) (.tmp 41) (by rfl) w1.heap.size _ _ _ (by rfl) (HOE.out.alloc _) _ [lc 71 1, lc 72 2, lc 73 3, lc 74 4] (by rfl) HXE.out (bmk HSZ.out (by simp)) (bd4 HSZ.out (by simp)) (by rw [size_allocC]; have h1 := HBE.out.size; have h2 := HB3.out.size; omega) ?_; intro v4 w4 hown hgrow)
  have HO4 : Hid (w4.ownsRow w1.heap.size 37 6 v4 (n + 4) (flatC (l ++ [lc 71 1, lc 72 2, lc 73 3, lc 74 4]))) := by
    show World.ownsRow _ _ _ _ _ _ _
    rw [flatC_append, HN.out]
    simpa using hown
  have HB4 : Hid (Below w1.heap.size w1 w4) := (below_trans HB3.out (below_trans HBE.out (below_alloc _ _))).trans (grown_belowC (HOE.out.alloc _) hgrow (by rw [size_allocC]; have h1 := HBE.out.size; have h2 := HB3.out.size; omega))
  clear hown hgrow HOE HXE HBE HB3
  obtain ⟨N, hNN⟩ : ∃ N, N = n + 4 := ⟨_, rfl⟩
  rw [← hNN] at HO4
  obtain ⟨g, q, hv4, hq1, hq2, _, _⟩ := own_block HO4.out (by omega)
  have HNN : Hid (N = n + 4) := hNN
  have hnN : (n : Int) ≤ (N : Int) := by omega
  have hNq : (N : Int) ≤ (q : Int) := by omega
  have hnq : (n : Int) ≤ (q : Int) := by omega
  have hqm : (q : Int) ≤ 9223372036854775807 := by unfold maxLen at hq2; omega
  have hqn : ¬ q = n := by omega
  have HQN : Hid (¬ q = l.length) := by show ¬ _; rw [← HN.out]; exact hqn
  subst hv4
  have HCV4 : Hid (Cv w4 (.slice (some ⟨g, 0, none⟩) N q) (l ++ [lc 71 1, lc 72 2, lc 73 3, lc 74 4])) := (own_cv HO4.out).1
  have HM4 : ∀ wx, Below w4.heap.size w4 wx → Cv wx (.slice (some ⟨g, 0, none⟩) n q) l := fun wx h => by
    have := (HCV4.out.below h).upto l.length (by simp)
    rw [four_up, ← HN.out] at this; exact this
  have HMH : Hid (∀ wx, Below w4.heap.size w4 wx → Cv wx (.slice (some ⟨g, 0, none⟩) n q) l) := HM4
  have HX4 : Hid (∀ wx, Below w4.heap.size w4 wx → Cv wx (.slice (some ⟨g, n * 6, none⟩) (N - n) (q - n)) [lc 71 1, lc 72 2, lc 73 3, lc 74 4]) := fun wx h => by
    have h1 := HCV4.out.below h
    have e : N = (l ++ [lc 71 1, lc 72 2, lc 73 3, lc 74 4]).length := by rw [HNN.out, HN.out]; simp
    rw [e] at h1
    have := h1.from l.length (by simp) HQN.out
    rw [four_at, ← HN.out, ← e] at this
    simpa [WideShapes.add_plain] using this
  clear hNN hq1 hq2 HO4
  have HBW : Hid (Below w.heap.size w w4) := below_trans HB1.out HB4.out
  have HC4 : Hid (CB w4 w.heap.size c) := HC1.out.keep HB4.out
  obtain ⟨E, hE⟩ : ∃ E, E = (putR l c).2 := ⟨_, rfl⟩
  obtain ⟨Rp, hRp⟩ : ∃ Rp, Rp = (putR l c).1 := ⟨_, rfl⟩
  obtain ⟨E2, hE2⟩ : ∃ E2, E2 = (dropR l c.k).2 := ⟨_, rfl⟩
  obtain ⟨Rd, hRd⟩ : ∃ Rd, Rd = (dropR l c.k).1 := ⟨_, rfl⟩
  have HE : Hid (E = (putR l c).2) := hE
  have HRp : Hid (Rp = (putR l c).1) := hRp
  have HE2 : Hid (E2 = (dropR l c.k).2) := hE2
  have HRd : Hid (Rd = (dropR l c.k).1) := hRd
  have HLp : Hid (Rp.length ≤ l.length + 1) := by show _ ≤ _; rw [hRp]; exact put_len l c
  have HLd : Hid (Rd.length ≤ l.length) := by show _ ≤ _; rw [hRd]; exact drop_len l c.k
  clear hE hRp hE2 hRd
  go_upto_region 7 with fail
  have j0 : ∀ wx, Below w4.heap.size w4 wx → wx.cell? ⟨w.heap.size, 0, none⟩ = some (.int .u64 c.k) := fun wx h => (HC4.out.keep h).c0
  have j1 : ∀ wx, Below w4.heap.size w4 wx → wx.cell? ⟨w.heap.size, 1, none⟩ = some (.bool c.p.h) := fun wx h => (HC4.out.keep h).c1
  have j2 : ∀ wx, Below w4.heap.size w4 wx → wx.cell? ⟨w.heap.size, 2, none⟩ = some (.int .u64 c.p.b) := fun wx h => (HC4.out.keep h).c2
  have j3 : ∀ wx, Below w4.heap.size w4 wx → wx.cell? ⟨w.heap.size, 3, none⟩ = some (.bool c.c.h) := fun wx h => (HC4.out.keep h).c3
  have j4 : ∀ wx, Below w4.heap.size w4 wx → wx.cell? ⟨w.heap.size, 4, none⟩ = some (.int .u64 c.c.b) := fun wx h => (HC4.out.keep h).c4
  have j5 : ∀ wx, Below w4.heap.size w4 wx → wx.cell? ⟨w.heap.size, 5, none⟩ = some (.int .i64 c.n) := fun wx h => (HC4.out.keep h).c5
  refine wp_region_noPanic ?_
  refine wp_region_held_drew (S := fun wx => Below w4.heap.size w4 wx) (by kernel_rfl) ?_ (fun hHeld => ?_)
  · exact (Below.refl _ _).drew
  refine wpAnyH_take (i := 0) (oi := ⟨some 44, _, _, _, _, _⟩) (v := ?_) rfl (by kernel_rfl) (by kernel_rfl) (by kernel_rfl) (fun _ _ _ h => h) (Or.inl ⟨by rfl, ?_⟩) hHeld ?_
  rotate_left
  · intro w hSw; (try dsimp only at hSw); go_simp; all_goals (with_reducible rfl)
  try simp only [Act.put, List.setIfInBounds_toArray, List.set_cons_zero, List.set_cons_succ]
  refine wpAnyH_take (i := 1) (oi := ⟨some 45, _, _, _, _, _⟩) (v := ?_) rfl (by kernel_rfl) (by kernel_rfl) (by kernel_rfl) (fun _ _ _ h => h) (Or.inl ⟨by rfl, ?_⟩) hHeld ?_
  rotate_left
  · intro w hSw; (try dsimp only at hSw); go_simp; all_goals (with_reducible rfl)
  try simp only [Act.put, List.setIfInBounds_toArray, List.set_cons_zero, List.set_cons_succ]
  refine wpAnyH_take (i := 2) (oi := ⟨some 46, _, _, _, _, _⟩) (v := ?_) rfl (by kernel_rfl) (by kernel_rfl) (by kernel_rfl) (fun _ _ _ h => h) (Or.inl ⟨by rfl, ?_⟩) hHeld ?_
  rotate_left
  · intro w hSw; (try dsimp only at hSw); go_simp; all_goals (with_reducible rfl)
  try simp only [Act.put, List.setIfInBounds_toArray, List.set_cons_zero, List.set_cons_succ]
  refine wpAnyH_take (i := 3) (oi := ⟨some 47, _, _, _, _, _⟩) (v := ?_) rfl (by kernel_rfl) (by kernel_rfl) (by kernel_rfl) (fun _ _ _ h => h) (Or.inl ⟨by rfl, ?_⟩) hHeld ?_
  rotate_left
  · intro w hSw; (try dsimp only at hSw); go_simp; all_goals (with_reducible rfl)
  try simp only [Act.put, List.setIfInBounds_toArray, List.set_cons_zero, List.set_cons_succ]
  refine wpAnyH_ready (rs := [4]) (by kernel_rfl) (by simp) ?_
  refine AllReadyH.cons (o := ⟨some 48, _, _, _, _, _⟩) rfl (fun K hK => ?_) AllReadyH.nil
  go_simp
  refine (put_walk11 (HM4 _ hHeld) c HSP.out).mono ?_
  rintro e w5 ⟨v5, he, ho9, hB9⟩
  rw [← HE.out] at he
  subst he
  have hS9 := below_trans hHeld hB9
  clear hB9 hHeld
  go_simp
  refine hK.out _ _ ?_ (fun hHeld => ?_)
  · exact hS9
  clear hK K
  try simp only [Act.put, List.setIfInBounds_toArray, List.set_cons_zero, List.set_cons_succ]
  refine wpAnyH_take (i := 5) (oi := ⟨some 43, _, _, _, _, _⟩) (v := ?_) rfl (by kernel_rfl) (by kernel_rfl) (by kernel_rfl) (fun _ _ _ h => h) (Or.inl ⟨by rfl, ?_⟩) hHeld ?_
  rotate_left
  · intro w hSw; (try dsimp only at hSw); go_simp; all_goals (with_reducible rfl)
  try simp only [Act.put, List.setIfInBounds_toArray, List.set_cons_zero, List.set_cons_succ]
  refine wpAnyH_take (i := 6) (oi := ⟨some 49, _, _, _, _, _⟩) (v := ?_) rfl (by kernel_rfl) (by kernel_rfl) (by kernel_rfl) (fun _ _ _ h => h) (Or.inl ⟨by rfl, ?_⟩) hHeld ?_
  rotate_left
  · intro w hSw; (try dsimp only at hSw); go_simp; all_goals (with_reducible rfl)
  try simp only [Act.put, List.setIfInBounds_toArray, List.set_cons_zero, List.set_cons_succ]
  refine wpAnyH_take (i := 7) (oi := ⟨some 50, _, _, _, _, _⟩) (v := ?_) rfl (by kernel_rfl) (by kernel_rfl) (by kernel_rfl) (fun _ _ _ h => h) (Or.inl ⟨by rfl, ?_⟩) hHeld ?_
  rotate_left
  · intro w hSw; (try dsimp only at hSw); go_simp; all_goals (with_reducible rfl)
  try simp only [Act.put, List.setIfInBounds_toArray, List.set_cons_zero, List.set_cons_succ]
  refine wpAnyH_take (i := 8) (oi := ⟨some 7, _, _, _, _, _⟩) (v := ?_) rfl (by kernel_rfl) (by kernel_rfl) (by kernel_rfl) (fun _ _ _ h => h) (Or.inl ⟨by rfl, ?_⟩) hHeld ?_
  rotate_left
  · intro w hSw; (try dsimp only at hSw); go_simp; all_goals (with_reducible rfl)
  try simp only [Act.put, List.setIfInBounds_toArray, List.set_cons_zero, List.set_cons_succ]
  refine wpAnyH_take (i := 9) (oi := ⟨some 8, _, _, _, _, _⟩) (v := ?_) rfl (by kernel_rfl) (by kernel_rfl) (by kernel_rfl) (fun _ _ _ h => h) (Or.inl ⟨by rfl, ?_⟩) hHeld ?_
  rotate_left
  · intro w hSw; (try dsimp only at hSw); go_simp; all_goals (with_reducible rfl)
  try simp only [Act.put, List.setIfInBounds_toArray, List.set_cons_zero, List.set_cons_succ]
  refine wpAnyH_done (by kernel_rfl) ?_ _
  refine NoPanic.normal ?_
  have HO5 : Hid (w5.ownsRow w4.heap.size 37 6 v5 Rp.length (flatC Rp)) := by
    show World.ownsRow _ _ _ _ _ _ _
    rw [HRp.out]; exact ho9
  have HB5 : Hid (Below w4.heap.size w4 w5) := hHeld
  have HC5 : Hid (CB w5 w.heap.size c) := HC4.out.keep hHeld
  have HM5 : ∀ wx, Below w5.heap.size w5 wx → Cv wx (.slice (some ⟨g, 0, none⟩) n q) l := fun wx h => HMH.out wx (below_trans HB5.out h)
  clear hHeld ho9 HC4 HM4 j0 j1 j2 j3 j4 j5
  go_upto_region 8 with fail
  have j0 : ∀ wx, Below w5.heap.size w5 wx → wx.cell? ⟨w.heap.size, 0, none⟩ = some (.int .u64 c.k) := fun wx h => (HC5.out.keep h).c0
  have j1 : ∀ wx, Below w5.heap.size w5 wx → wx.cell? ⟨w.heap.size, 1, none⟩ = some (.bool c.p.h) := fun wx h => (HC5.out.keep h).c1
  have j2 : ∀ wx, Below w5.heap.size w5 wx → wx.cell? ⟨w.heap.size, 2, none⟩ = some (.int .u64 c.p.b) := fun wx h => (HC5.out.keep h).c2
  have j3 : ∀ wx, Below w5.heap.size w5 wx → wx.cell? ⟨w.heap.size, 3, none⟩ = some (.bool c.c.h) := fun wx h => (HC5.out.keep h).c3
  have j4 : ∀ wx, Below w5.heap.size w5 wx → wx.cell? ⟨w.heap.size, 4, none⟩ = some (.int .u64 c.c.b) := fun wx h => (HC5.out.keep h).c4
  have j5 : ∀ wx, Below w5.heap.size w5 wx → wx.cell? ⟨w.heap.size, 5, none⟩ = some (.int .i64 c.n) := fun wx h => (HC5.out.keep h).c5
  refine wp_region_noPanic ?_
  refine wp_region_held_drew (S := fun wx => Below w5.heap.size w5 wx) (by kernel_rfl) ?_ (fun hHeld => ?_)
  · exact (Below.refl _ _).drew
  refine wpAnyH_take (i := 0) (oi := ⟨some 52, _, _, _, _, _⟩) (v := ?_) rfl (by kernel_rfl) (by kernel_rfl) (by kernel_rfl) (fun _ _ _ h => h) (Or.inl ⟨by rfl, ?_⟩) hHeld ?_
  rotate_left
  · intro w hSw; (try dsimp only at hSw); go_simp; all_goals (with_reducible rfl)
  try simp only [Act.put, List.setIfInBounds_toArray, List.set_cons_zero, List.set_cons_succ]
  refine wpAnyH_take (i := 1) (oi := ⟨some 53, _, _, _, _, _⟩) (v := ?_) rfl (by kernel_rfl) (by kernel_rfl) (by kernel_rfl) (fun _ _ _ h => h) (Or.inl ⟨by rfl, ?_⟩) hHeld ?_
  rotate_left
  · intro w hSw; (try dsimp only at hSw); go_simp; all_goals (with_reducible rfl)
  try simp only [Act.put, List.setIfInBounds_toArray, List.set_cons_zero, List.set_cons_succ]
  refine wpAnyH_take (i := 2) (oi := ⟨some 54, _, _, _, _, _⟩) (v := ?_) rfl (by kernel_rfl) (by kernel_rfl) (by kernel_rfl) (fun _ _ _ h => h) (Or.inl ⟨by rfl, ?_⟩) hHeld ?_
  rotate_left
  · intro w hSw; (try dsimp only at hSw); go_simp; all_goals (with_reducible rfl)
  try simp only [Act.put, List.setIfInBounds_toArray, List.set_cons_zero, List.set_cons_succ]
  refine wpAnyH_take (i := 3) (oi := ⟨some 55, _, _, _, _, _⟩) (v := ?_) rfl (by kernel_rfl) (by kernel_rfl) (by kernel_rfl) (fun _ _ _ h => h) (Or.inl ⟨by rfl, ?_⟩) hHeld ?_
  rotate_left
  · intro w hSw; (try dsimp only at hSw); go_simp; all_goals (with_reducible rfl)
  try simp only [Act.put, List.setIfInBounds_toArray, List.set_cons_zero, List.set_cons_succ]
  refine wpAnyH_ready (rs := [4]) (by kernel_rfl) (by simp) ?_
  refine AllReadyH.cons (o := ⟨some 56, _, _, _, _, _⟩) rfl (fun K hK => ?_) AllReadyH.nil
  go_simp
  refine (put_walk11 (HM5 _ hHeld) c HSP.out).mono ?_
  rintro e w6 ⟨v6, he, ho9, hB9⟩
  rw [← HE.out] at he
  subst he
  have hS9 := below_trans hHeld hB9
  clear hB9 hHeld
  go_simp
  refine hK.out _ _ ?_ (fun hHeld => ?_)
  · exact hS9
  clear hK K
  try simp only [Act.put, List.setIfInBounds_toArray, List.set_cons_zero, List.set_cons_succ]
  refine wpAnyH_take (i := 5) (oi := ⟨some 51, _, _, _, _, _⟩) (v := ?_) rfl (by kernel_rfl) (by kernel_rfl) (by kernel_rfl) (fun _ _ _ h => h) (Or.inl ⟨by rfl, ?_⟩) hHeld ?_
  rotate_left
  · intro w hSw; (try dsimp only at hSw); go_simp; all_goals (with_reducible rfl)
  try simp only [Act.put, List.setIfInBounds_toArray, List.set_cons_zero, List.set_cons_succ]
  refine wpAnyH_take (i := 6) (oi := ⟨some 57, _, _, _, _, _⟩) (v := ?_) rfl (by kernel_rfl) (by kernel_rfl) (by kernel_rfl) (fun _ _ _ h => h) (Or.inl ⟨by rfl, ?_⟩) hHeld ?_
  rotate_left
  · intro w hSw; (try dsimp only at hSw); go_simp; all_goals (with_reducible rfl)
  try simp only [Act.put, List.setIfInBounds_toArray, List.set_cons_zero, List.set_cons_succ]
  refine wpAnyH_take (i := 7) (oi := ⟨some 58, _, _, _, _, _⟩) (v := ?_) rfl (by kernel_rfl) (by kernel_rfl) (by kernel_rfl) (fun _ _ _ h => h) (Or.inl ⟨by rfl, ?_⟩) hHeld ?_
  rotate_left
  · intro w hSw; (try dsimp only at hSw); go_simp; all_goals (with_reducible rfl)
  try simp only [Act.put, List.setIfInBounds_toArray, List.set_cons_zero, List.set_cons_succ]
  refine wpAnyH_take (i := 8) (oi := ⟨some 9, _, _, _, _, _⟩) (v := ?_) rfl (by kernel_rfl) (by kernel_rfl) (by kernel_rfl) (fun _ _ _ h => h) (Or.inl ⟨by rfl, ?_⟩) hHeld ?_
  rotate_left
  · intro w hSw; (try dsimp only at hSw); go_simp; all_goals (with_reducible rfl)
  try simp only [Act.put, List.setIfInBounds_toArray, List.set_cons_zero, List.set_cons_succ]
  refine wpAnyH_take (i := 9) (oi := ⟨some 10, _, _, _, _, _⟩) (v := ?_) rfl (by kernel_rfl) (by kernel_rfl) (by kernel_rfl) (fun _ _ _ h => h) (Or.inl ⟨by rfl, ?_⟩) hHeld ?_
  rotate_left
  · intro w hSw; (try dsimp only at hSw); go_simp; all_goals (with_reducible rfl)
  try simp only [Act.put, List.setIfInBounds_toArray, List.set_cons_zero, List.set_cons_succ]
  refine wpAnyH_done (by kernel_rfl) ?_ _
  refine NoPanic.normal ?_
  have HO6 : Hid (w6.ownsRow w5.heap.size 37 6 v6 Rp.length (flatC Rp)) := by
    show World.ownsRow _ _ _ _ _ _ _
    rw [HRp.out]; exact ho9
  have HB6 : Hid (Below w5.heap.size w5 w6) := hHeld
  have HC6 : Hid (CB w6 w.heap.size c) := HC5.out.keep hHeld
  have HM6 : ∀ wx, Below w6.heap.size w6 wx → Cv wx (.slice (some ⟨g, 0, none⟩) n q) l := fun wx h => HMH.out wx (below_trans HB5.out (below_trans HB6.out h))
  clear hHeld ho9 HC5 HM5 j0 j1 j2 j3 j4 j5
  go_upto_region 9 with fail
  have j0 : ∀ wx, Below w6.heap.size w6 wx → wx.cell? ⟨w.heap.size, 0, none⟩ = some (.int .u64 c.k) := fun wx h => (HC6.out.keep h).c0
  refine wp_region_noPanic ?_
  refine wp_region_held_drew (S := fun wx => Below w6.heap.size w6 wx) (by kernel_rfl) ?_ (fun hHeld => ?_)
  · exact (Below.refl _ _).drew
  refine wpAnyH_take (i := 0) (oi := ⟨some 60, _, _, _, _, _⟩) (v := ?_) rfl (by kernel_rfl) (by kernel_rfl) (by kernel_rfl) (fun _ _ _ h => h) (Or.inl ⟨by rfl, ?_⟩) hHeld ?_
  rotate_left
  · intro w hSw; (try dsimp only at hSw); go_simp; all_goals (with_reducible rfl)
  try simp only [Act.put, List.setIfInBounds_toArray, List.set_cons_zero, List.set_cons_succ]
  refine wpAnyH_take (i := 1) (oi := ⟨some 61, _, _, _, _, _⟩) (v := ?_) rfl (by kernel_rfl) (by kernel_rfl) (by kernel_rfl) (fun _ _ _ h => h) (Or.inl ⟨by rfl, ?_⟩) hHeld ?_
  rotate_left
  · intro w hSw; (try dsimp only at hSw); go_simp; all_goals (with_reducible rfl)
  try simp only [Act.put, List.setIfInBounds_toArray, List.set_cons_zero, List.set_cons_succ]
  refine wpAnyH_take (i := 2) (oi := ⟨some 62, _, _, _, _, _⟩) (v := ?_) rfl (by kernel_rfl) (by kernel_rfl) (by kernel_rfl) (fun _ _ _ h => h) (Or.inl ⟨by rfl, ?_⟩) hHeld ?_
  rotate_left
  · intro w hSw; (try dsimp only at hSw); go_simp; all_goals (with_reducible rfl)
  try simp only [Act.put, List.setIfInBounds_toArray, List.set_cons_zero, List.set_cons_succ]
  refine wpAnyH_take (i := 3) (oi := ⟨some 63, _, _, _, _, _⟩) (v := ?_) rfl (by kernel_rfl) (by kernel_rfl) (by kernel_rfl) (fun _ _ _ h => h) (Or.inl ⟨by rfl, ?_⟩) hHeld ?_
  rotate_left
  · intro w hSw; (try dsimp only at hSw); go_simp; all_goals (with_reducible rfl)
  try simp only [Act.put, List.setIfInBounds_toArray, List.set_cons_zero, List.set_cons_succ]
  refine wpAnyH_take (i := 4) (oi := ⟨some 64, _, _, _, _, _⟩) (v := ?_) rfl (by kernel_rfl) (by kernel_rfl) (by kernel_rfl) (fun _ _ _ h => h) (Or.inl ⟨by rfl, ?_⟩) hHeld ?_
  rotate_left
  · intro w hSw; (try dsimp only at hSw); go_simp; all_goals (with_reducible rfl)
  try simp only [Act.put, List.setIfInBounds_toArray, List.set_cons_zero, List.set_cons_succ]
  refine wpAnyH_ready (rs := [5]) (by kernel_rfl) (by simp) ?_
  refine AllReadyH.cons (o := ⟨some 65, _, _, _, _, _⟩) rfl (fun K hK => ?_) AllReadyH.nil
  go_simp
  refine (drop_walk (HM6 _ hHeld) c.k HSD.out).mono ?_
  rintro e w7 ⟨v7, he, ho9, hB9⟩
  rw [← HE2.out] at he
  subst he
  have hS9 := below_trans hHeld hB9
  clear hB9 hHeld
  go_simp
  refine hK.out _ _ ?_ (fun hHeld => ?_)
  · exact hS9
  clear hK K
  try simp only [Act.put, List.setIfInBounds_toArray, List.set_cons_zero, List.set_cons_succ]
  refine wpAnyH_take (i := 6) (oi := ⟨some 59, _, _, _, _, _⟩) (v := ?_) rfl (by kernel_rfl) (by kernel_rfl) (by kernel_rfl) (fun _ _ _ h => h) (Or.inl ⟨by rfl, ?_⟩) hHeld ?_
  rotate_left
  · intro w hSw; (try dsimp only at hSw); go_simp; all_goals (with_reducible rfl)
  try simp only [Act.put, List.setIfInBounds_toArray, List.set_cons_zero, List.set_cons_succ]
  refine wpAnyH_take (i := 7) (oi := ⟨some 66, _, _, _, _, _⟩) (v := ?_) rfl (by kernel_rfl) (by kernel_rfl) (by kernel_rfl) (fun _ _ _ h => h) (Or.inl ⟨by rfl, ?_⟩) hHeld ?_
  rotate_left
  · intro w hSw; (try dsimp only at hSw); go_simp; all_goals (with_reducible rfl)
  try simp only [Act.put, List.setIfInBounds_toArray, List.set_cons_zero, List.set_cons_succ]
  refine wpAnyH_take (i := 8) (oi := ⟨some 67, _, _, _, _, _⟩) (v := ?_) rfl (by kernel_rfl) (by kernel_rfl) (by kernel_rfl) (fun _ _ _ h => h) (Or.inl ⟨by rfl, ?_⟩) hHeld ?_
  rotate_left
  · intro w hSw; (try dsimp only at hSw); go_simp; all_goals (with_reducible rfl)
  try simp only [Act.put, List.setIfInBounds_toArray, List.set_cons_zero, List.set_cons_succ]
  refine wpAnyH_take (i := 9) (oi := ⟨some 11, _, _, _, _, _⟩) (v := ?_) rfl (by kernel_rfl) (by kernel_rfl) (by kernel_rfl) (fun _ _ _ h => h) (Or.inl ⟨by rfl, ?_⟩) hHeld ?_
  rotate_left
  · intro w hSw; (try dsimp only at hSw); go_simp; all_goals (with_reducible rfl)
  try simp only [Act.put, List.setIfInBounds_toArray, List.set_cons_zero, List.set_cons_succ]
  refine wpAnyH_take (i := 10) (oi := ⟨some 12, _, _, _, _, _⟩) (v := ?_) rfl (by kernel_rfl) (by kernel_rfl) (by kernel_rfl) (fun _ _ _ h => h) (Or.inl ⟨by rfl, ?_⟩) hHeld ?_
  rotate_left
  · intro w hSw; (try dsimp only at hSw); go_simp; all_goals (with_reducible rfl)
  try simp only [Act.put, List.setIfInBounds_toArray, List.set_cons_zero, List.set_cons_succ]
  refine wpAnyH_done (by kernel_rfl) ?_ _
  refine NoPanic.normal ?_
  have HO7 : Hid (w7.ownsRow w6.heap.size 37 6 v7 Rd.length (flatC Rd)) := by
    show World.ownsRow _ _ _ _ _ _ _
    rw [HRd.out]; exact ho9
  have HB7 : Hid (Below w6.heap.size w6 w7) := hHeld
  have HC7 : Hid (CB w7 w.heap.size c) := HC6.out.keep hHeld
  have HM7 : ∀ wx, Below w7.heap.size w7 wx → Cv wx (.slice (some ⟨g, 0, none⟩) n q) l := fun wx h => HMH.out wx (below_trans HB5.out (below_trans HB6.out (below_trans HB7.out h)))
  clear hHeld ho9 HC6 HM6 j0
  go_upto_region 10 with fail
  have j0 : ∀ wx, Below w7.heap.size w7 wx → wx.cell? ⟨w.heap.size, 0, none⟩ = some (.int .u64 c.k) := fun wx h => (HC7.out.keep h).c0
  refine wp_region_noPanic ?_
  refine wp_region_held_drew (S := fun wx => Below w7.heap.size w7 wx) (by kernel_rfl) ?_ (fun hHeld => ?_)
  · exact (Below.refl _ _).drew
  refine wpAnyH_take (i := 0) (oi := ⟨some 69, _, _, _, _, _⟩) (v := ?_) rfl (by kernel_rfl) (by kernel_rfl) (by kernel_rfl) (fun _ _ _ h => h) (Or.inl ⟨by rfl, ?_⟩) hHeld ?_
  rotate_left
  · intro w hSw; (try dsimp only at hSw); go_simp; all_goals (with_reducible rfl)
  try simp only [Act.put, List.setIfInBounds_toArray, List.set_cons_zero, List.set_cons_succ]
  refine wpAnyH_take (i := 1) (oi := ⟨some 70, _, _, _, _, _⟩) (v := ?_) rfl (by kernel_rfl) (by kernel_rfl) (by kernel_rfl) (fun _ _ _ h => h) (Or.inl ⟨by rfl, ?_⟩) hHeld ?_
  rotate_left
  · intro w hSw; (try dsimp only at hSw); go_simp; all_goals (with_reducible rfl)
  try simp only [Act.put, List.setIfInBounds_toArray, List.set_cons_zero, List.set_cons_succ]
  refine wpAnyH_take (i := 2) (oi := ⟨some 71, _, _, _, _, _⟩) (v := ?_) rfl (by kernel_rfl) (by kernel_rfl) (by kernel_rfl) (fun _ _ _ h => h) (Or.inl ⟨by rfl, ?_⟩) hHeld ?_
  rotate_left
  · intro w hSw; (try dsimp only at hSw); go_simp; all_goals (with_reducible rfl)
  try simp only [Act.put, List.setIfInBounds_toArray, List.set_cons_zero, List.set_cons_succ]
  refine wpAnyH_take (i := 3) (oi := ⟨some 72, _, _, _, _, _⟩) (v := ?_) rfl (by kernel_rfl) (by kernel_rfl) (by kernel_rfl) (fun _ _ _ h => h) (Or.inl ⟨by rfl, ?_⟩) hHeld ?_
  rotate_left
  · intro w hSw; (try dsimp only at hSw); go_simp; all_goals (with_reducible rfl)
  try simp only [Act.put, List.setIfInBounds_toArray, List.set_cons_zero, List.set_cons_succ]
  refine wpAnyH_take (i := 4) (oi := ⟨some 73, _, _, _, _, _⟩) (v := ?_) rfl (by kernel_rfl) (by kernel_rfl) (by kernel_rfl) (fun _ _ _ h => h) (Or.inl ⟨by rfl, ?_⟩) hHeld ?_
  rotate_left
  · intro w hSw; (try dsimp only at hSw); go_simp; all_goals (with_reducible rfl)
  try simp only [Act.put, List.setIfInBounds_toArray, List.set_cons_zero, List.set_cons_succ]
  refine wpAnyH_ready (rs := [5]) (by kernel_rfl) (by simp) ?_
  refine AllReadyH.cons (o := ⟨some 74, _, _, _, _, _⟩) rfl (fun K hK => ?_) AllReadyH.nil
  go_simp
  refine (drop_walk (HM7 _ hHeld) c.k HSD.out).mono ?_
  rintro e w8 ⟨v8, he, ho9, hB9⟩
  rw [← HE2.out] at he
  subst he
  have hS9 := below_trans hHeld hB9
  clear hB9 hHeld
  go_simp
  refine hK.out _ _ ?_ (fun hHeld => ?_)
  · exact hS9
  clear hK K
  try simp only [Act.put, List.setIfInBounds_toArray, List.set_cons_zero, List.set_cons_succ]
  refine wpAnyH_take (i := 6) (oi := ⟨some 68, _, _, _, _, _⟩) (v := ?_) rfl (by kernel_rfl) (by kernel_rfl) (by kernel_rfl) (fun _ _ _ h => h) (Or.inl ⟨by rfl, ?_⟩) hHeld ?_
  rotate_left
  · intro w hSw; (try dsimp only at hSw); go_simp; all_goals (with_reducible rfl)
  try simp only [Act.put, List.setIfInBounds_toArray, List.set_cons_zero, List.set_cons_succ]
  refine wpAnyH_take (i := 7) (oi := ⟨some 75, _, _, _, _, _⟩) (v := ?_) rfl (by kernel_rfl) (by kernel_rfl) (by kernel_rfl) (fun _ _ _ h => h) (Or.inl ⟨by rfl, ?_⟩) hHeld ?_
  rotate_left
  · intro w hSw; (try dsimp only at hSw); go_simp; all_goals (with_reducible rfl)
  try simp only [Act.put, List.setIfInBounds_toArray, List.set_cons_zero, List.set_cons_succ]
  refine wpAnyH_take (i := 8) (oi := ⟨some 76, _, _, _, _, _⟩) (v := ?_) rfl (by kernel_rfl) (by kernel_rfl) (by kernel_rfl) (fun _ _ _ h => h) (Or.inl ⟨by rfl, ?_⟩) hHeld ?_
  rotate_left
  · intro w hSw; (try dsimp only at hSw); go_simp; all_goals (with_reducible rfl)
  try simp only [Act.put, List.setIfInBounds_toArray, List.set_cons_zero, List.set_cons_succ]
  refine wpAnyH_take (i := 9) (oi := ⟨some 13, _, _, _, _, _⟩) (v := ?_) rfl (by kernel_rfl) (by kernel_rfl) (by kernel_rfl) (fun _ _ _ h => h) (Or.inl ⟨by rfl, ?_⟩) hHeld ?_
  rotate_left
  · intro w hSw; (try dsimp only at hSw); go_simp; all_goals (with_reducible rfl)
  try simp only [Act.put, List.setIfInBounds_toArray, List.set_cons_zero, List.set_cons_succ]
  refine wpAnyH_take (i := 10) (oi := ⟨some 14, _, _, _, _, _⟩) (v := ?_) rfl (by kernel_rfl) (by kernel_rfl) (by kernel_rfl) (fun _ _ _ h => h) (Or.inl ⟨by rfl, ?_⟩) hHeld ?_
  rotate_left
  · intro w hSw; (try dsimp only at hSw); go_simp; all_goals (with_reducible rfl)
  try simp only [Act.put, List.setIfInBounds_toArray, List.set_cons_zero, List.set_cons_succ]
  refine wpAnyH_done (by kernel_rfl) ?_ _
  refine NoPanic.normal ?_
  have HO8 : Hid (w8.ownsRow w7.heap.size 37 6 v8 Rd.length (flatC Rd)) := by
    show World.ownsRow _ _ _ _ _ _ _
    rw [HRd.out]; exact ho9
  have HB8 : Hid (Below w7.heap.size w7 w8) := hHeld
  have HC8 : Hid (CB w8 w.heap.size c) := HC7.out.keep hHeld
  have HM8 : ∀ wx, Below w8.heap.size w8 wx → Cv wx (.slice (some ⟨g, 0, none⟩) n q) l := fun wx h => HMH.out wx (below_trans HB5.out (below_trans HB6.out (below_trans HB7.out (below_trans HB8.out h))))
  clear hHeld ho9 HC7 HM7 j0
  have HZ0 : Hid ((w8.alloc (Obj.cells #[] 37)).ownsRow w8.heap.size 37 6 (.slice (some ⟨w8.heap.size, 0, none⟩) 0 0) 0 []) := World.ownsRow_made w8 #[] 0 (Nat.le_refl _) (by simp [maxLen]) rfl
  have HY0 : Hid (Cv (w8.alloc (Obj.cells #[] 37)) v6 Rp) := (own_cv HO6.out).1.below (below_trans HB7.out (below_trans HB8.out (below_alloc _ _)))
  go_upto_region 12 with (at_builtin; refine wpList_append_cv (by rfl) (.tmp 77) (.tmp 78) (by rfl) w8.heap.size _ _ _ (by rfl) HZ0.out _ Rp (by rfl) HY0.out (bmk HSZ.out (by have := HLp.out; omega)) (bd4 HSZ.out (by have := HLp.out; omega)) (by rw [size_allocC]; omega) ?_; intro v9 w9 hown hgrow)
  have HO9 : Hid (w9.ownsRow w8.heap.size 37 6 v9 Rp.length (flatC Rp)) := by
    show World.ownsRow _ _ _ _ _ _ _
    simpa using hown
  have HB9 : Hid (Below w8.heap.size w8 w9) := (below_alloc w8 _).trans (grown_belowC HZ0.out hgrow (by rw [size_allocC]; omega))
  clear hown hgrow HZ0 HY0
  have HZ0 : Hid ((w9.alloc (Obj.cells #[] 37)).ownsRow w9.heap.size 37 6 (.slice (some ⟨w9.heap.size, 0, none⟩) 0 0) 0 []) := World.ownsRow_made w9 #[] 0 (Nat.le_refl _) (by simp [maxLen]) rfl
  have HY0 : Hid (Cv (w9.alloc (Obj.cells #[] 37)) v8 Rd) := (own_cv HO8.out).1.below (below_trans HB9.out (below_alloc _ _))
  go_upto_region 13 with (at_builtin; refine wpList_append_cv (by rfl) (.tmp 80) (.tmp 81) (by rfl) w9.heap.size _ _ _ (by rfl) HZ0.out _ Rd (by rfl) HY0.out (bmk HSZ.out (by have := HLd.out; omega)) (bd4 HSZ.out (by have := HLd.out; omega)) (by rw [size_allocC]; omega) ?_; intro v10 w10 hown hgrow)
  have HO10 : Hid (w10.ownsRow w9.heap.size 37 6 v10 Rd.length (flatC Rd)) := by
    show World.ownsRow _ _ _ _ _ _ _
    simpa using hown
  have HB10 : Hid (Below w9.heap.size w9 w10) := (below_alloc w9 _).trans (grown_belowC HZ0.out hgrow (by rw [size_allocC]; omega))
  clear hown hgrow HZ0 HY0
  obtain ⟨D, hD⟩ : ∃ D : Nat → Prop, D = fun x => (w4.heap.size ≤ x ∧ x < w5.heap.size) ∨ (w6.heap.size ≤ x ∧ x < w7.heap.size) := ⟨_, rfl⟩
  have HD : Hid (∀ x, D x ↔ (w4.heap.size ≤ x ∧ x < w5.heap.size) ∨ (w6.heap.size ≤ x ∧ x < w7.heap.size)) := fun x => by rw [hD]
  have h48 : Below w8.heap.size w8 w10 := below_trans HB9.out HB10.out
  have h47 := below_trans HB8.out h48
  have h46 := below_trans HB7.out h47
  have h45 := below_trans HB6.out h46
  have h44 := below_trans HB5.out h45
  have s5 := HB5.out.size
  have s6 := HB6.out.size
  have s7 := HB7.out.size
  have s8 := HB8.out.size
  have s9 := HB9.out.size
  have s10 := HB10.out.size
  have HPR : Hid (Pr w10 D Rp.length Rd.length v5 v7 w10) :=
    ⟨⟨Rp, own_baseC (own_belowC HO5.out h45) (Nat.zero_le _)⟩, ⟨Rd, own_baseC (own_belowC HO7.out h47) (Nat.zero_le _)⟩, fun x hx => .inl ((HD.out x).2 (.inl (HO5.out.lt x hx))), fun x hx => .inl ((HD.out x).2 (.inr (HO7.out.lt x hx))), fun x hx hy => by have a := HO5.out.lt x hx; have b := HO7.out.lt x hy; omega, Ch.refl _ _⟩
  have HQ6 : Hid (Cv w10 v6 Rp ∧ ∀ x, v6.ownBlock = some x → ¬ D x) := ⟨(own_cv (own_belowC HO6.out h46)).1, fun x hx hy => by have a := HO6.out.lt x hx; rw [HD.out] at hy; omega⟩
  have HQ8 : Hid (Cv w10 v8 Rd ∧ ∀ x, v8.ownBlock = some x → ¬ D x) := ⟨(own_cv (own_belowC HO8.out h48)).1, fun x hx hy => by have a := HO8.out.lt x hx; rw [HD.out] at hy; omega⟩
  have HQ9 : Hid (Cv w10 v9 Rp ∧ ∀ x, v9.ownBlock = some x → ¬ D x) := ⟨(own_cv (own_belowC HO9.out HB10.out)).1, fun x hx hy => by have a := HO9.out.lt x hx; rw [HD.out] at hy; omega⟩
  have HQ10 : Hid (Cv w10 v10 Rd ∧ ∀ x, v10.ownBlock = some x → ¬ D x) := ⟨(own_cv HO10.out).1, fun x hx hy => by have a := HO10.out.lt x hx; rw [HD.out] at hy; omega⟩
  have HOLD : Hid (∀ wx, Ch D w10 wx → Below w4.heap.size w4 wx) := fun wx h => h44.trans (h.to_below (by omega) (fun x hx => by rw [HD.out] at hx; omega))
  obtain ⟨np, hnp⟩ : ∃ np, np = Rp.length := ⟨_, rfl⟩
  obtain ⟨nd, hnd⟩ : ∃ nd, nd = Rd.length := ⟨_, rfl⟩
  rw [← hnp, ← hnd] at HPR
  have HNP : Hid (np = Rp.length) := hnp
  have HND : Hid (nd = Rd.length) := hnd
  have hpi : (np : Int) ≤ 2932031007403 := by have h1 := HLp.out; have h2 := HN.out; omega
  have hdi : (nd : Int) ≤ 2932031007403 := by have h1 := HLd.out; have h2 := HN.out; omega
  clear hD h48 h47 h46 h45 h44 s5 s6 s7 s8 s9 s10 hnp hnd HO5 HO6 HO7 HO8 HO9 HO10 HB5 HB6 HB7 HB8 HB9 HB10 HC8 HM8
  obtain ⟨a5, q5, hv5, _⟩ := HPR.out.form
  obtain ⟨a7, q7, hv7, _⟩ := HPR.out.swap.form
  subst hv5 hv7
  go_wp2_with fail
  go_loopw [17] (fun kv wr => ∃ k : Nat, kv = .int .i64 k ∧ k ≤ np ∧ Pr w10 D np nd (.slice a5 np q5) (.slice a7 nd q7) wr) (fun kv _ => np - (intOf kv).toNat)
  case atStart => exact ⟨0, rfl, by omega, HPR.out⟩
  case round =>
    clear HPR
    obtain ⟨k, rfl, hk, hpr⟩ := hrel
    have HPR : Hid (Pr w10 D np nd (.slice a5 np q5) (.slice a7 nd q7) wr) := hpr
    clear hpr
    by_cases hlt : k < np
    · have hlti : (k : Int) < (np : Int) := by omega
      obtain ⟨g5, q5', e5, _⟩ := HPR.out.some (by omega)
      simp only [Value.slice.injEq] at e5
      obtain ⟨rfl, ha1, ha2⟩ := e5
      clear ha1 ha2
      go_wp2_with fail
      refine (laid_walk 99 9 _).mono ?_
      rintro e wl ⟨rfl, hBl⟩
      have HPL : Hid (Pr w10 D np nd (.slice (some ⟨g5, 0, none⟩) np q5) (.slice a7 nd q7) wl) := HPR.out.below hBl
      clear hBl HPR
      obtain ⟨c', hca, hfz⟩ := HPL.out.at hlt
      obtain ⟨x0, x1, x2, x3, x4, x5⟩ := hca
      have f0 := hfz (k * 6)
      have f1 := hfz (k * 6 + 1)
      have f2 := hfz (k * 6 + 2)
      have f3 := hfz (k * 6 + 3)
      have f4 := hfz (k * 6 + 4)
      have f5 := hfz (k * 6 + 5)
      clear hfz
      go_wp2_with fail
      go_roundw
      case rel => exact ⟨k + 1, by go_num, hlt, HPL.out.set hlt (lc 99 9)⟩
      case measure => simp [intOf]; omega
    · have hlti : ¬ (k : Int) < (np : Int) := by omega
      clear hk
      obtain ⟨wx1, hwx1⟩ : ∃ wx1, wx1 = wr := ⟨_, rfl⟩
      rw [← hwx1] at HPR ⊢
      clear hwx1
      go_wp2_with fail
      go_loopw [18] (fun kv wr => ∃ k : Nat, kv = .int .i64 k ∧ k ≤ nd ∧ Pr w10 D np nd (.slice a5 np q5) (.slice a7 nd q7) wr) (fun kv _ => nd - (intOf kv).toNat)
      case atStart => exact ⟨0, rfl, by omega, HPR.out⟩
      case round =>
        clear HPR hlt hlti
        obtain ⟨k2, rfl, hk, hpr⟩ := hrel
        have HPR : Hid (Pr w10 D np nd (.slice a5 np q5) (.slice a7 nd q7) wr) := hpr
        clear hpr
        by_cases hlt : k2 < nd
        · have hlti : (k2 : Int) < (nd : Int) := by omega
          obtain ⟨g7, q7', e7, _⟩ := HPR.out.swap.some (by omega)
          simp only [Value.slice.injEq] at e7
          obtain ⟨rfl, ha1, ha2⟩ := e7
          clear ha1 ha2
          go_wp2_with fail
          refine (laid_walk 98 8 _).mono ?_
          rintro e wl ⟨rfl, hBl⟩
          have HPL : Hid (Pr w10 D nd np (.slice (some ⟨g7, 0, none⟩) nd q7) (.slice a5 np q5) wl) := (HPR.out.below hBl).swap
          clear hBl HPR
          obtain ⟨c', hca, hfz⟩ := HPL.out.at hlt
          obtain ⟨x0, x1, x2, x3, x4, x5⟩ := hca
          have f0 := hfz (k2 * 6)
          have f1 := hfz (k2 * 6 + 1)
          have f2 := hfz (k2 * 6 + 2)
          have f3 := hfz (k2 * 6 + 3)
          have f4 := hfz (k2 * 6 + 4)
          have f5 := hfz (k2 * 6 + 5)
          clear hfz
          go_wp2_with fail
          go_roundw
          case rel => exact ⟨k2 + 1, by go_num, hlt, (HPL.out.set hlt (lc 98 8)).swap⟩
          case measure => simp [intOf]; omega
        · have hlti : ¬ (k2 : Int) < (nd : Int) := by omega
          clear hk
          obtain ⟨wx2, hwx2⟩ : ∃ wx2, wx2 = wr := ⟨_, rfl⟩
          rw [← hwx2] at HPR ⊢
          clear hwx2
          go_wp2_with fail
          go_loopw [7, 11, 19] (fun pv dv kv wr => ∃ k : Nat, kv = .int .i64 k ∧ k ≤ 20 ∧ Pr w10 D (np + k) (nd + k) pv dv wr) (fun _ _ kv _ => 20 - (intOf kv).toNat)
          case atStart => exact ⟨0, rfl, by omega, HPR.out⟩
          case round =>
            clear HPR hlt hlti
            obtain ⟨k3, rfl, hk, hpr⟩ := hrel
            have HPR : Hid (Pr w10 D (np + k3) (nd + k3) u7 u11 wr) := hpr
            clear hpr
            by_cases hlt : k3 < 20
            · have hlti : (k3 : Int) < 20 := by omega
              go_wp2_with fail
              refine (laid_walk 97 7 _).mono ?_
              rintro e wl ⟨rfl, hBl⟩
              have HPL : Hid (Pr w10 D (np + k3) (nd + k3) u7 u11 wl) := HPR.out.below hBl
              clear hBl HPR
              obtain ⟨⟨Lp, hLp⟩, _⟩ := HPL.out
              have HLP : Hid (wl.ownsRow 0 37 6 u7 (np + k3) (flatC Lp)) := hLp
              have HCN : Hid (CA (wl.alloc (Obj.cells #[.int .u64 (lc 97 7).k, .bool (lc 97 7).p.h, .int .u64 (lc 97 7).p.b, .bool (lc 97 7).c.h, .int .u64 (lc 97 7).c.b, .int .i64 (lc 97 7).n] 37)) wl.heap.size 0 (lc 97 7)) := by
                obtain ⟨r0, r1, r2, r3, r4, r5, _⟩ := cb_new wl (lc 97 7)
                exact ⟨r0, r1, r2, r3, r4, r5⟩
              have HK3 : Hid (np + k3 + 1 ≤ l.length + 30) := by have h1 := HNP.out; have h2 := HLp.out; show _ ≤ _; omega
              clear hLp
              go_upto_region 25 with (at_builtin; refine wpList_append_at2 (by rfl) (.tmp 107) (.tmp 109) (by rfl) 0 _ _ _ (by rfl) (HLP.out.alloc _) wl.heap.size (lc 97 7) (by rfl) HCN.out (bmk HSZ.out HK3.out) (bd4 HSZ.out HK3.out) (Nat.zero_le _) ?_; intro pv2 wm hown hgrow hat)
              have HPM : Hid (Pr w10 D (np + k3 + 1) (nd + k3) pv2 u11 wm) := HPL.out.app (below_alloc _ _) hown hgrow hat
              clear hown hgrow hat HLP HCN HPL HK3
              go_wp2_with fail
              refine (laid_walk 96 6 _).mono ?_
              rintro e wn ⟨rfl, hBn⟩
              have HPN : Hid (Pr w10 D (nd + k3) (np + k3 + 1) u11 pv2 wn) := (HPM.out.below hBn).swap
              clear hBn HPM
              obtain ⟨⟨Ld, hLd⟩, _⟩ := HPN.out
              have HLD : Hid (wn.ownsRow 0 37 6 u11 (nd + k3) (flatC Ld)) := hLd
              have HCN : Hid (CA (wn.alloc (Obj.cells #[.int .u64 (lc 96 6).k, .bool (lc 96 6).p.h, .int .u64 (lc 96 6).p.b, .bool (lc 96 6).c.h, .int .u64 (lc 96 6).c.b, .int .i64 (lc 96 6).n] 37)) wn.heap.size 0 (lc 96 6)) := by
                obtain ⟨r0, r1, r2, r3, r4, r5, _⟩ := cb_new wn (lc 96 6)
                exact ⟨r0, r1, r2, r3, r4, r5⟩
              have HK3 : Hid (nd + k3 + 1 ≤ l.length + 30) := by have h1 := HND.out; have h2 := HLd.out; show _ ≤ _; omega
              clear hLd
              go_upto_region 23 with (at_builtin; refine wpList_append_at2 (by rfl) (.tmp 111) (.tmp 113) (by rfl) 0 _ _ _ (by rfl) (HLD.out.alloc _) wn.heap.size (lc 96 6) (by rfl) HCN.out (bmk HSZ.out HK3.out) (bd4 HSZ.out HK3.out) (Nat.zero_le _) ?_; intro dv2 wo hown hgrow hat)
              have HPO : Hid (Pr w10 D (np + (k3 + 1)) (nd + (k3 + 1)) pv2 dv2 wo) := (HPN.out.app (below_alloc _ _) hown hgrow hat).swap
              clear hown hgrow hat HLD HCN HPN HK3
              go_wp2_with fail
              go_roundw
              case rel => exact ⟨k3 + 1, by go_num, by omega, HPO.out⟩
              case measure => simp [intOf]; omega
            · have hlti : ¬ (k3 : Int) < 20 := by omega
              obtain rfl : k3 = 20 := by omega
              clear hlt hlti hk
              obtain ⟨wz, hwz⟩ : ∃ wz, wz = wr := ⟨_, rfl⟩
              rw [← hwz] at HPR ⊢
              clear hwz
              obtain ⟨pn, hpn⟩ : ∃ pn, pn = np + 20 := ⟨_, rfl⟩
              obtain ⟨dn, hdn⟩ : ∃ dn, dn = nd + 20 := ⟨_, rfl⟩
              rw [← hpn, ← hdn] at HPR
              have hpe : ((pn : Int) != (np : Int) + 20) = false := by rw [bne_eq_false_iff_eq]; omega
              have hde : ((dn : Int) != (nd : Int) + 20) = false := by rw [bne_eq_false_iff_eq]; omega
              have hwp : IntKind.i64.wrap ((np : Int) + 20) = (np : Int) + 20 := by rw [IntKind.wrap_i64]; omega
              have hwd : IntKind.i64.wrap ((nd : Int) + 20) = (nd : Int) + 20 := by rw [IntKind.wrap_i64]; omega
              have hEE : ((E : Int) != (E : Int)) = false := by simp
              have hE22 : ((E2 : Int) != (E2 : Int)) = false := by simp
              clear hpn hdn
              obtain ⟨p7, p7q, hp7, _⟩ := HPR.out.form
              obtain ⟨p11, p11q, hp11, _⟩ := HPR.out.swap.form
              subst hp7 hp11
              obtain ⟨a6, q6, hv6⟩ := HQ6.out.1.form
              obtain ⟨a8, q8, hv8⟩ := HQ8.out.1.form
              rw [← HNP.out] at hv6
              rw [← HND.out] at hv8
              subst hv6 hv8
              have HZ6 : ∀ wx, Below wz.heap.size wz wx → Cv wx (.slice a6 np q6) Rp := fun wx h => (HQ6.out.1.ch HPR.out.ch HQ6.out.2).below h
              have HZ8 : ∀ wx, Below wz.heap.size wz wx → Cv wx (.slice a8 nd q8) Rd := fun wx h => (HQ8.out.1.ch HPR.out.ch HQ8.out.2).below h
              have HZ9 : ∀ wx, Below wz.heap.size wz wx → Cv wx v9 Rp := fun wx h => (HQ9.out.1.ch HPR.out.ch HQ9.out.2).below h
              have HZ10 : ∀ wx, Below wz.heap.size wz wx → Cv wx v10 Rd := fun wx h => (HQ10.out.1.ch HPR.out.ch HQ10.out.2).below h
              have HZB : Hid (Below w4.heap.size w4 wz) := HOLD.out wz HPR.out.ch
              have HZM : ∀ wx, Below wz.heap.size wz wx → Cv wx (.slice (some ⟨g, 0, none⟩) n q) l := fun wx h => HMH.out wx (below_trans HZB.out h)
              have HZC : ∀ wx, Below wz.heap.size wz wx → Cv wx (.slice co n cc) l := fun wx h => HV.out.below (below_trans HBW.out (below_trans HZB.out h))
              have HZX : ∀ wx, Below wz.heap.size wz wx → Cv wx (.slice (some ⟨g, n * 6, none⟩) (N - n) (q - n)) [lc 71 1, lc 72 2, lc 73 3, lc 74 4] := fun wx h => HX4.out wx (below_trans HZB.out h)
              have hn0 : (0 : Int) ≤ (n : Int) := by omega
              clear HPR HQ6 HQ8 HQ9 HQ10
              go_upto_region 26 with fail
              refine wp_region_noPanic ?_
              refine wp_region_held_drew (S := fun wx => Below wz.heap.size wz wx) (by kernel_rfl) ?_ (fun hHeld => ?_)
              · exact (Below.refl _ _).drew
              refine wpAnyH_take (i := 0) (oi := ⟨some 115, _, _, _, _, _⟩) (v := ?_) rfl (by kernel_rfl) (by kernel_rfl) (by kernel_rfl) (fun _ _ _ h => h) (Or.inl ⟨by rfl, ?_⟩) hHeld ?_
              rotate_left
              · intro w hSw; (try dsimp only at hSw); go_simp; all_goals (with_reducible rfl)
              try simp only [Act.put, List.setIfInBounds_toArray, List.set_cons_zero, List.set_cons_succ]
              refine wpAnyH_take (i := 1) (oi := ⟨some 116, _, _, _, _, _⟩) (v := ?_) rfl (by kernel_rfl) (by kernel_rfl) (by kernel_rfl) (fun _ _ _ h => h) (Or.inl ⟨by rfl, ?_⟩) hHeld ?_
              rotate_left
              · intro w hSw; (try dsimp only at hSw); go_simp; all_goals (with_reducible rfl)
              try simp only [Act.put, List.setIfInBounds_toArray, List.set_cons_zero, List.set_cons_succ]
              refine wpAnyH_take (i := 2) (oi := ⟨some 117, _, _, _, _, _⟩) (v := ?_) rfl (by kernel_rfl) (by kernel_rfl) (by kernel_rfl) (fun _ _ _ h => h) (Or.inl ⟨by rfl, ?_⟩) hHeld ?_
              rotate_left
              · intro w hSw; (try dsimp only at hSw); go_simp; all_goals (with_reducible rfl)
              try simp only [Act.put, List.setIfInBounds_toArray, List.set_cons_zero, List.set_cons_succ]
              refine wpAnyH_take (i := 3) (oi := ⟨some 118, _, _, _, _, _⟩) (v := ?_) rfl (by kernel_rfl) (by kernel_rfl) (by kernel_rfl) (fun _ _ _ h => h) (Or.inl ⟨by rfl, ?_⟩) hHeld ?_
              rotate_left
              · intro w hSw; (try dsimp only at hSw); go_simp; all_goals (with_reducible rfl)
              try simp only [Act.put, List.setIfInBounds_toArray, List.set_cons_zero, List.set_cons_succ]
              refine wpAnyH_take (i := 4) (oi := ⟨some 119, _, _, _, _, _⟩) (v := ?_) rfl (by kernel_rfl) (by kernel_rfl) (by kernel_rfl) (fun _ _ _ h => h) (Or.inl ⟨by rfl, ?_⟩) hHeld ?_
              rotate_left
              · intro w hSw; (try dsimp only at hSw); go_simp; all_goals (with_reducible rfl)
              try simp only [Act.put, List.setIfInBounds_toArray, List.set_cons_zero, List.set_cons_succ]
              refine wpAnyH_take (i := 5) (oi := ⟨some 120, _, _, _, _, _⟩) (v := ?_) rfl (by kernel_rfl) (by kernel_rfl) (by kernel_rfl) (fun _ _ _ h => h) (Or.inl ⟨by rfl, ?_⟩) hHeld ?_
              rotate_left
              · intro w hSw; (try dsimp only at hSw); go_simp; all_goals (with_reducible rfl)
              try simp only [Act.put, List.setIfInBounds_toArray, List.set_cons_zero, List.set_cons_succ]
              refine wpAnyH_take (i := 6) (oi := ⟨some 121, _, _, _, _, _⟩) (v := ?_) rfl (by kernel_rfl) (by kernel_rfl) (by kernel_rfl) (fun _ _ _ h => h) (Or.inl ⟨by rfl, ?_⟩) hHeld ?_
              rotate_left
              · intro w hSw; (try dsimp only at hSw); go_simp; all_goals (with_reducible rfl)
              try simp only [Act.put, List.setIfInBounds_toArray, List.set_cons_zero, List.set_cons_succ]
              refine wpAnyH_take (i := 7) (oi := ⟨some 122, _, _, _, _, _⟩) (v := ?_) rfl (by kernel_rfl) (by kernel_rfl) (by kernel_rfl) (fun _ _ _ h => h) (Or.inl ⟨by rfl, ?_⟩) hHeld ?_
              rotate_left
              · intro w hSw; (try dsimp only at hSw); go_simp; all_goals (with_reducible rfl)
              try simp only [Act.put, List.setIfInBounds_toArray, List.set_cons_zero, List.set_cons_succ]
              refine wpAnyH_take (i := 8) (oi := ⟨some 123, _, _, _, _, _⟩) (v := ?_) rfl (by kernel_rfl) (by kernel_rfl) (by kernel_rfl) (fun _ _ _ h => h) (Or.inl ⟨by rfl, ?_⟩) hHeld ?_
              rotate_left
              · intro w hSw; (try dsimp only at hSw); go_simp; all_goals (with_reducible rfl)
              try simp only [Act.put, List.setIfInBounds_toArray, List.set_cons_zero, List.set_cons_succ]
              refine wpAnyH_take (i := 9) (oi := ⟨some 124, _, _, _, _, _⟩) (v := ?_) rfl (by kernel_rfl) (by kernel_rfl) (by kernel_rfl) (fun _ _ _ h => h) (Or.inl ⟨by rfl, ?_⟩) hHeld ?_
              rotate_left
              · intro w hSw; (try dsimp only at hSw); go_simp; all_goals (with_reducible rfl)
              try simp only [Act.put, List.setIfInBounds_toArray, List.set_cons_zero, List.set_cons_succ]
              refine wpAnyH_take (i := 10) (oi := ⟨some 125, _, _, _, _, _⟩) (v := ?_) rfl (by kernel_rfl) (by kernel_rfl) (by kernel_rfl) (fun _ _ _ h => h) (Or.inl ⟨by rfl, ?_⟩) hHeld ?_
              rotate_left
              · intro w hSw; (try dsimp only at hSw); go_simp; all_goals (with_reducible rfl)
              try simp only [Act.put, List.setIfInBounds_toArray, List.set_cons_zero, List.set_cons_succ]
              refine wpAnyH_ready (rs := [11]) (by kernel_rfl) (by simp) ?_
              refine AllReadyH.cons (o := ⟨some 126, _, _, _, _, _⟩) rfl (fun K hK => ?_) AllReadyH.nil
              go_simp
              refine (same_walk (HZ6 _ hHeld) (HZ9 _ hHeld)).mono ?_
              rintro e wy1 ⟨rfl, hB9⟩
              have hS9 := below_trans hHeld hB9
              clear hB9 hHeld
              go_simp
              refine hK.out _ _ ?_ (fun hHeld => ?_)
              · exact hS9
              clear hK K
              try simp only [Act.put, List.setIfInBounds_toArray, List.set_cons_zero, List.set_cons_succ]
              refine wpAnyH_take (i := 12) (oi := ⟨some 127, _, _, _, _, _⟩) (v := ?_) rfl (by kernel_rfl) (by kernel_rfl) (by kernel_rfl) (fun _ _ _ h => h) (Or.inl ⟨by rfl, ?_⟩) hHeld ?_
              rotate_left
              · intro w hSw; (try dsimp only at hSw); go_simp; all_goals (with_reducible rfl)
              try simp only [Act.put, List.setIfInBounds_toArray, List.set_cons_zero, List.set_cons_succ]
              refine wpAnyH_take (i := 13) (oi := ⟨some 128, _, _, _, _, _⟩) (v := ?_) rfl (by kernel_rfl) (by kernel_rfl) (by kernel_rfl) (fun _ _ _ h => h) (Or.inl ⟨by rfl, ?_⟩) hHeld ?_
              rotate_left
              · intro w hSw; (try dsimp only at hSw); go_simp; all_goals (with_reducible rfl)
              try simp only [Act.put, List.setIfInBounds_toArray, List.set_cons_zero, List.set_cons_succ]
              refine wpAnyH_take (i := 14) (oi := ⟨some 129, _, _, _, _, _⟩) (v := ?_) rfl (by kernel_rfl) (by kernel_rfl) (by kernel_rfl) (fun _ _ _ h => h) (Or.inl ⟨by rfl, ?_⟩) hHeld ?_
              rotate_left
              · intro w hSw; (try dsimp only at hSw); go_simp; all_goals (with_reducible rfl)
              try simp only [Act.put, List.setIfInBounds_toArray, List.set_cons_zero, List.set_cons_succ]
              refine wpAnyH_take (i := 15) (oi := ⟨some 130, _, _, _, _, _⟩) (v := ?_) rfl (by kernel_rfl) (by kernel_rfl) (by kernel_rfl) (fun _ _ _ h => h) (Or.inl ⟨by rfl, ?_⟩) hHeld ?_
              rotate_left
              · intro w hSw; (try dsimp only at hSw); go_simp; all_goals (with_reducible rfl)
              try simp only [Act.put, List.setIfInBounds_toArray, List.set_cons_zero, List.set_cons_succ]
              refine wpAnyH_take (i := 16) (oi := ⟨some 131, _, _, _, _, _⟩) (v := ?_) rfl (by kernel_rfl) (by kernel_rfl) (by kernel_rfl) (fun _ _ _ h => h) (Or.inl ⟨by rfl, ?_⟩) hHeld ?_
              rotate_left
              · intro w hSw; (try dsimp only at hSw); go_simp; all_goals (with_reducible rfl)
              try simp only [Act.put, List.setIfInBounds_toArray, List.set_cons_zero, List.set_cons_succ]
              refine wpAnyH_ready (rs := [17]) (by kernel_rfl) (by simp) ?_
              refine AllReadyH.cons (o := ⟨some 132, _, _, _, _, _⟩) rfl (fun K hK => ?_) AllReadyH.nil
              go_simp
              refine (same_walk (HZ8 _ hHeld) (HZ10 _ hHeld)).mono ?_
              rintro e wy2 ⟨rfl, hB9⟩
              have hS9 := below_trans hHeld hB9
              clear hB9 hHeld
              go_simp
              refine hK.out _ _ ?_ (fun hHeld => ?_)
              · exact hS9
              clear hK K
              try simp only [Act.put, List.setIfInBounds_toArray, List.set_cons_zero, List.set_cons_succ]
              refine wpAnyH_take (i := 18) (oi := ⟨some 133, _, _, _, _, _⟩) (v := ?_) rfl (by kernel_rfl) (by kernel_rfl) (by kernel_rfl) (fun _ _ _ h => h) (Or.inl ⟨by rfl, ?_⟩) hHeld ?_
              rotate_left
              · intro w hSw; (try dsimp only at hSw); go_simp; all_goals (with_reducible rfl)
              try simp only [Act.put, List.setIfInBounds_toArray, List.set_cons_zero, List.set_cons_succ]
              refine wpAnyH_take (i := 19) (oi := ⟨some 134, _, _, _, _, _⟩) (v := ?_) rfl (by kernel_rfl) (by kernel_rfl) (by kernel_rfl) (fun _ _ _ h => h) (Or.inl ⟨by rfl, ?_⟩) hHeld ?_
              rotate_left
              · intro w hSw; (try dsimp only at hSw); go_simp; all_goals (with_reducible rfl)
              try simp only [Act.put, List.setIfInBounds_toArray, List.set_cons_zero, List.set_cons_succ]
              refine wpAnyH_take (i := 20) (oi := ⟨some 135, _, _, _, _, _⟩) (v := ?_) rfl (by kernel_rfl) (by kernel_rfl) (by kernel_rfl) (fun _ _ _ h => h) (Or.inl ⟨by rfl, ?_⟩) hHeld ?_
              rotate_left
              · intro w hSw; (try dsimp only at hSw); go_simp; all_goals (with_reducible rfl)
              try simp only [Act.put, List.setIfInBounds_toArray, List.set_cons_zero, List.set_cons_succ]
              refine wpAnyH_take (i := 21) (oi := ⟨some 136, _, _, _, _, _⟩) (v := ?_) rfl (by kernel_rfl) (by kernel_rfl) (by kernel_rfl) (fun _ _ _ h => h) (Or.inl ⟨by rfl, ?_⟩) hHeld ?_
              rotate_left
              · intro w hSw; (try dsimp only at hSw); go_simp; all_goals (with_reducible rfl)
              try simp only [Act.put, List.setIfInBounds_toArray, List.set_cons_zero, List.set_cons_succ]
              refine wpAnyH_take (i := 22) (oi := ⟨some 137, _, _, _, _, _⟩) (v := ?_) rfl (by kernel_rfl) (by kernel_rfl) (by kernel_rfl) (fun _ _ _ h => h) (Or.inl ⟨by rfl, ?_⟩) hHeld ?_
              rotate_left
              · intro w hSw; (try dsimp only at hSw); go_simp; all_goals (with_reducible rfl)
              try simp only [Act.put, List.setIfInBounds_toArray, List.set_cons_zero, List.set_cons_succ]
              refine wpAnyH_take (i := 23) (oi := ⟨some 138, _, _, _, _, _⟩) (v := ?_) rfl (by kernel_rfl) (by kernel_rfl) (by kernel_rfl) (fun _ _ _ h => h) (Or.inl ⟨by rfl, ?_⟩) hHeld ?_
              rotate_left
              · intro w hSw; (try dsimp only at hSw); go_simp; all_goals (with_reducible rfl)
              try simp only [Act.put, List.setIfInBounds_toArray, List.set_cons_zero, List.set_cons_succ]
              refine wpAnyH_take (i := 24) (oi := ⟨some 139, _, _, _, _, _⟩) (v := ?_) rfl (by kernel_rfl) (by kernel_rfl) (by kernel_rfl) (fun _ _ _ h => h) (Or.inl ⟨by rfl, ?_⟩) hHeld ?_
              rotate_left
              · intro w hSw; (try dsimp only at hSw); go_simp; all_goals (with_reducible rfl)
              try simp only [Act.put, List.setIfInBounds_toArray, List.set_cons_zero, List.set_cons_succ]
              refine wpAnyH_ready (rs := [25]) (by kernel_rfl) (by simp) ?_
              refine AllReadyH.cons (o := ⟨some 140, _, _, _, _, _⟩) rfl (fun K hK => ?_) AllReadyH.nil
              go_simp
              refine (same_walk (HZM _ hHeld) (HZC _ hHeld)).mono ?_
              rintro e wy3 ⟨rfl, hB9⟩
              have hS9 := below_trans hHeld hB9
              clear hB9 hHeld
              go_simp
              refine hK.out _ _ ?_ (fun hHeld => ?_)
              · exact hS9
              clear hK K
              try simp only [Act.put, List.setIfInBounds_toArray, List.set_cons_zero, List.set_cons_succ]
              refine wpAnyH_take (i := 26) (oi := ⟨some 141, _, _, _, _, _⟩) (v := ?_) rfl (by kernel_rfl) (by kernel_rfl) (by kernel_rfl) (fun _ _ _ h => h) (Or.inl ⟨by rfl, ?_⟩) hHeld ?_
              rotate_left
              · intro w hSw; (try dsimp only at hSw); go_simp; all_goals (with_reducible rfl)
              try simp only [Act.put, List.setIfInBounds_toArray, List.set_cons_zero, List.set_cons_succ]
              refine wpAnyH_take (i := 27) (oi := ⟨some 142, _, _, _, _, _⟩) (v := ?_) rfl (by kernel_rfl) (by kernel_rfl) (by kernel_rfl) (fun _ _ _ h => h) (Or.inl ⟨by rfl, ?_⟩) hHeld ?_
              rotate_left
              · intro w hSw; (try dsimp only at hSw); go_simp; all_goals (with_reducible rfl)
              try simp only [Act.put, List.setIfInBounds_toArray, List.set_cons_zero, List.set_cons_succ]
              refine wpAnyH_take (i := 28) (oi := ⟨some 143, _, _, _, _, _⟩) (v := ?_) rfl (by kernel_rfl) (by kernel_rfl) (by kernel_rfl) (fun _ _ _ h => h) (Or.inl ⟨by rfl, ?_⟩) hHeld ?_
              rotate_left
              · intro w hSw; (try dsimp only at hSw); go_simp; all_goals (with_reducible rfl)
              try simp only [Act.put, List.setIfInBounds_toArray, List.set_cons_zero, List.set_cons_succ]
              refine wpAnyH_take (i := 29) (oi := ⟨some 144, _, _, _, _, _⟩) (v := ?_) rfl (by kernel_rfl) (by kernel_rfl) (by kernel_rfl) (fun _ _ _ h => h) (Or.inl ⟨by rfl, ?_⟩) hHeld ?_
              rotate_left
              · intro w hSw; (try dsimp only at hSw); go_simp; all_goals (with_reducible rfl)
              try simp only [Act.put, List.setIfInBounds_toArray, List.set_cons_zero, List.set_cons_succ]
              refine wpAnyH_take (i := 30) (oi := ⟨some 145, _, _, _, _, _⟩) (v := ?_) rfl (by kernel_rfl) (by kernel_rfl) (by kernel_rfl) (fun _ _ _ h => h) (Or.inl ⟨by rfl, ?_⟩) hHeld ?_
              rotate_left
              · intro w hSw; (try dsimp only at hSw); go_simp; all_goals (with_reducible rfl)
              try simp only [Act.put, List.setIfInBounds_toArray, List.set_cons_zero, List.set_cons_succ]
              refine wpAnyH_take (i := 31) (oi := ⟨some 146, _, _, _, _, _⟩) (v := ?_) rfl (by kernel_rfl) (by kernel_rfl) (by kernel_rfl) (fun _ _ _ h => h) (Or.inl ⟨by rfl, ?_⟩) hHeld ?_
              rotate_left
              · intro w hSw; (try dsimp only at hSw); go_simp; all_goals (with_reducible rfl)
              try simp only [Act.put, List.setIfInBounds_toArray, List.set_cons_zero, List.set_cons_succ]
              refine wpAnyH_ready (rs := [32]) (by kernel_rfl) (by simp) ?_
              refine AllReadyH.cons (o := ⟨some 147, _, _, _, _, _⟩) rfl (fun K hK => ?_) AllReadyH.nil
              go_simp
              refine (laid_walk 71 1 _).mono ?_
              rintro e wy4 ⟨rfl, hB9⟩
              have hS9 := below_trans hHeld hB9
              clear hB9 hHeld
              go_simp
              refine hK.out _ _ ?_ (fun hHeld => ?_)
              · exact hS9
              clear hK K
              try simp only [Act.put, List.setIfInBounds_toArray, List.set_cons_zero, List.set_cons_succ]
              refine wpAnyH_ready (rs := [33]) (by kernel_rfl) (by simp) ?_
              refine AllReadyH.cons (o := ⟨some 148, _, _, _, _, _⟩) rfl (fun K hK => ?_) AllReadyH.nil
              go_simp
              refine (laid_walk 72 2 _).mono ?_
              rintro e wy5 ⟨rfl, hB9⟩
              have hS9 := below_trans hHeld hB9
              clear hB9 hHeld
              go_simp
              refine hK.out _ _ ?_ (fun hHeld => ?_)
              · exact hS9
              clear hK K
              try simp only [Act.put, List.setIfInBounds_toArray, List.set_cons_zero, List.set_cons_succ]
              refine wpAnyH_ready (rs := [34]) (by kernel_rfl) (by simp) ?_
              refine AllReadyH.cons (o := ⟨some 149, _, _, _, _, _⟩) rfl (fun K hK => ?_) AllReadyH.nil
              go_simp
              refine (laid_walk 73 3 _).mono ?_
              rintro e wy6 ⟨rfl, hB9⟩
              have hS9 := below_trans hHeld hB9
              clear hB9 hHeld
              go_simp
              refine hK.out _ _ ?_ (fun hHeld => ?_)
              · exact hS9
              clear hK K
              try simp only [Act.put, List.setIfInBounds_toArray, List.set_cons_zero, List.set_cons_succ]
              refine wpAnyH_ready (rs := [35]) (by kernel_rfl) (by simp) ?_
              refine AllReadyH.cons (o := ⟨some 150, _, _, _, _, _⟩) rfl (fun K hK => ?_) AllReadyH.nil
              go_simp
              refine (laid_walk 74 4 _).mono ?_
              rintro e wy7 ⟨rfl, hB9⟩
              have hS9 := below_trans hHeld hB9
              clear hB9 hHeld
              go_simp
              refine hK.out _ _ ?_ (fun hHeld => ?_)
              · exact hS9
              clear hK K
              try simp only [Act.put, List.setIfInBounds_toArray, List.set_cons_zero, List.set_cons_succ]
              refine wpAnyH_ready (rs := [36]) (by kernel_rfl) (by simp) ?_
              refine AllReadyH.cons (o := ⟨some 151, _, _, _, _, _⟩) rfl (fun K hK => ?_) AllReadyH.nil
              go_simp
              have hX4 : Cv (wy7.alloc (Obj.cells #[.int .u64 71, .bool false, .int .u64 0, .bool true, .int .u64 1, .int .i64 1, .int .u64 72, .bool false, .int .u64 0, .bool true, .int .u64 2, .int .i64 1, .int .u64 73, .bool false, .int .u64 0, .bool true, .int .u64 3, .int .i64 1, .int .u64 74, .bool false, .int .u64 0, .bool true, .int .u64 4, .int .i64 1] 37)) (.slice (some ⟨wy7.heap.size, 0, none⟩) 4 4) [lc 71 1, lc 72 2, lc 73 3, lc 74 4] := cv_four wy7 (lc 71 1) (lc 72 2) (lc 73 3) (lc 74 4)
              have hS9 : Below wz.heap.size wz (wy7.alloc (Obj.cells #[.int .u64 71, .bool false, .int .u64 0, .bool true, .int .u64 1, .int .i64 1, .int .u64 72, .bool false, .int .u64 0, .bool true, .int .u64 2, .int .i64 1, .int .u64 73, .bool false, .int .u64 0, .bool true, .int .u64 3, .int .i64 1, .int .u64 74, .bool false, .int .u64 0, .bool true, .int .u64 4, .int .i64 1] 37)) := below_trans hHeld (below_alloc _ _)
              clear hHeld
              generalize wy7.alloc (Obj.cells #[.int .u64 71, .bool false, .int .u64 0, .bool true, .int .u64 1, .int .i64 1, .int .u64 72, .bool false, .int .u64 0, .bool true, .int .u64 2, .int .i64 1, .int .u64 73, .bool false, .int .u64 0, .bool true, .int .u64 3, .int .i64 1, .int .u64 74, .bool false, .int .u64 0, .bool true, .int .u64 4, .int .i64 1] 37) = wy8 at hX4 hS9 ⊢
              refine hK.out _ _ ?_ (fun hHeld => ?_)
              · exact hS9
              clear hK K
              try simp only [Act.put, List.setIfInBounds_toArray, List.set_cons_zero, List.set_cons_succ]
              refine wpAnyH_ready (rs := [37]) (by kernel_rfl) (by simp) ?_
              refine AllReadyH.cons (o := ⟨some 152, _, _, _, _, _⟩) rfl (fun K hK => ?_) AllReadyH.nil
              go_simp
              refine (same_walk (HZX _ hHeld) (hX4)).mono ?_
              rintro e wy9 ⟨rfl, hB9⟩
              have hS9 := below_trans hHeld hB9
              clear hB9 hHeld
              go_simp
              refine hK.out _ _ ?_ (fun hHeld => ?_)
              · exact hS9
              clear hK K
              try simp only [Act.put, List.setIfInBounds_toArray, List.set_cons_zero, List.set_cons_succ]
              refine wpAnyH_take (i := 38) (oi := ⟨some 153, _, _, _, _, _⟩) (v := ?_) rfl (by kernel_rfl) (by kernel_rfl) (by kernel_rfl) (fun _ _ _ h => h) (Or.inl ⟨by rfl, ?_⟩) hHeld ?_
              rotate_left
              · intro w hSw; (try dsimp only at hSw); go_simp; all_goals (with_reducible rfl)
              try simp only [Act.put, List.setIfInBounds_toArray, List.set_cons_zero, List.set_cons_succ]
              refine wpAnyH_take (i := 39) (oi := ⟨some 154, _, _, _, _, _⟩) (v := ?_) rfl (by kernel_rfl) (by kernel_rfl) (by kernel_rfl) (fun _ _ _ h => h) (Or.inl ⟨by rfl, ?_⟩) hHeld ?_
              rotate_left
              · intro w hSw; (try dsimp only at hSw); go_simp; all_goals (with_reducible rfl)
              try simp only [Act.put, List.setIfInBounds_toArray, List.set_cons_zero, List.set_cons_succ]
              refine wpAnyH_take (i := 40) (oi := ⟨some 155, _, _, _, _, _⟩) (v := ?_) rfl (by kernel_rfl) (by kernel_rfl) (by kernel_rfl) (fun _ _ _ h => h) (Or.inl ⟨by rfl, ?_⟩) hHeld ?_
              rotate_left
              · intro w hSw; (try dsimp only at hSw); go_simp; all_goals (with_reducible rfl)
              try simp only [Act.put, List.setIfInBounds_toArray, List.set_cons_zero, List.set_cons_succ]
              refine wpAnyH_take (i := 41) (oi := ⟨some 156, _, _, _, _, _⟩) (v := ?_) rfl (by kernel_rfl) (by kernel_rfl) (by kernel_rfl) (fun _ _ _ h => h) (Or.inl ⟨by rfl, ?_⟩) hHeld ?_
              rotate_left
              · intro w hSw; (try dsimp only at hSw); go_simp; all_goals (with_reducible rfl)
              try simp only [Act.put, List.setIfInBounds_toArray, List.set_cons_zero, List.set_cons_succ]
              refine wpAnyH_take (i := 42) (oi := ⟨some 157, _, _, _, _, _⟩) (v := ?_) rfl (by kernel_rfl) (by kernel_rfl) (by kernel_rfl) (fun _ _ _ h => h) (Or.inl ⟨by rfl, ?_⟩) hHeld ?_
              rotate_left
              · intro w hSw; (try dsimp only at hSw); go_simp; all_goals (with_reducible rfl)
              try simp only [Act.put, List.setIfInBounds_toArray, List.set_cons_zero, List.set_cons_succ]
              refine wpAnyH_take (i := 43) (oi := ⟨some 158, _, _, _, _, _⟩) (v := ?_) rfl (by kernel_rfl) (by kernel_rfl) (by kernel_rfl) (fun _ _ _ h => h) (Or.inl ⟨by rfl, ?_⟩) hHeld ?_
              rotate_left
              · intro w hSw; (try dsimp only at hSw); go_simp; all_goals (with_reducible rfl)
              try simp only [Act.put, List.setIfInBounds_toArray, List.set_cons_zero, List.set_cons_succ]
              refine wpAnyH_take (i := 44) (oi := ⟨some 159, _, _, _, _, _⟩) (v := ?_) rfl (by kernel_rfl) (by kernel_rfl) (by kernel_rfl) (fun _ _ _ h => h) (Or.inl ⟨by rfl, ?_⟩) hHeld ?_
              rotate_left
              · intro w hSw; (try dsimp only at hSw); go_simp; all_goals (with_reducible rfl)
              try simp only [Act.put, List.setIfInBounds_toArray, List.set_cons_zero, List.set_cons_succ]
              refine wpAnyH_take (i := 45) (oi := ⟨some 160, _, _, _, _, _⟩) (v := ?_) rfl (by kernel_rfl) (by kernel_rfl) (by kernel_rfl) (fun _ _ _ h => h) (Or.inl ⟨by rfl, ?_⟩) hHeld ?_
              rotate_left
              · intro w hSw; (try dsimp only at hSw); go_simp; all_goals (with_reducible rfl)
              try simp only [Act.put, List.setIfInBounds_toArray, List.set_cons_zero, List.set_cons_succ]
              refine wpAnyH_take (i := 46) (oi := ⟨some 161, _, _, _, _, _⟩) (v := ?_) rfl (by kernel_rfl) (by kernel_rfl) (by kernel_rfl) (fun _ _ _ h => h) (Or.inl ⟨by rfl, ?_⟩) hHeld ?_
              rotate_left
              · intro w hSw; (try dsimp only at hSw); go_simp; all_goals (with_reducible rfl)
              try simp only [Act.put, List.setIfInBounds_toArray, List.set_cons_zero, List.set_cons_succ]
              refine wpAnyH_take (i := 47) (oi := ⟨some 162, _, _, _, _, _⟩) (v := ?_) rfl (by kernel_rfl) (by kernel_rfl) (by kernel_rfl) (fun _ _ _ h => h) (Or.inl ⟨by rfl, ?_⟩) hHeld ?_
              rotate_left
              · intro w hSw; (try dsimp only at hSw); go_simp; all_goals (with_reducible rfl)
              try simp only [Act.put, List.setIfInBounds_toArray, List.set_cons_zero, List.set_cons_succ]
              refine wpAnyH_take (i := 48) (oi := ⟨some 163, _, _, _, _, _⟩) (v := ?_) rfl (by kernel_rfl) (by kernel_rfl) (by kernel_rfl) (fun _ _ _ h => h) (Or.inl ⟨by rfl, ?_⟩) hHeld ?_
              rotate_left
              · intro w hSw; (try dsimp only at hSw); go_simp; all_goals (with_reducible rfl)
              try simp only [Act.put, List.setIfInBounds_toArray, List.set_cons_zero, List.set_cons_succ]
              refine wpAnyH_take (i := 49) (oi := ⟨some 164, _, _, _, _, _⟩) (v := ?_) rfl (by kernel_rfl) (by kernel_rfl) (by kernel_rfl) (fun _ _ _ h => h) (Or.inl ⟨by rfl, ?_⟩) hHeld ?_
              rotate_left
              · intro w hSw; (try dsimp only at hSw); go_simp; all_goals (with_reducible rfl)
              try simp only [Act.put, List.setIfInBounds_toArray, List.set_cons_zero, List.set_cons_succ]
              refine wpAnyH_take (i := 50) (oi := ⟨some 165, _, _, _, _, _⟩) (v := ?_) rfl (by kernel_rfl) (by kernel_rfl) (by kernel_rfl) (fun _ _ _ h => h) (Or.inl ⟨by rfl, ?_⟩) hHeld ?_
              rotate_left
              · intro w hSw; (try dsimp only at hSw); go_simp; all_goals (with_reducible rfl)
              try simp only [Act.put, List.setIfInBounds_toArray, List.set_cons_zero, List.set_cons_succ]
              refine wpAnyH_take (i := 51) (oi := ⟨some 166, _, _, _, _, _⟩) (v := ?_) rfl (by kernel_rfl) (by kernel_rfl) (by kernel_rfl) (fun _ _ _ h => h) (Or.inl ⟨by rfl, ?_⟩) hHeld ?_
              rotate_left
              · intro w hSw; (try dsimp only at hSw); go_simp; all_goals (with_reducible rfl)
              try simp only [Act.put, List.setIfInBounds_toArray, List.set_cons_zero, List.set_cons_succ]
              refine wpAnyH_take (i := 52) (oi := ⟨some 167, _, _, _, _, _⟩) (v := ?_) rfl (by kernel_rfl) (by kernel_rfl) (by kernel_rfl) (fun _ _ _ h => h) (Or.inl ⟨by rfl, ?_⟩) hHeld ?_
              rotate_left
              · intro w hSw; (try dsimp only at hSw); go_simp; all_goals (with_reducible rfl)
              try simp only [Act.put, List.setIfInBounds_toArray, List.set_cons_zero, List.set_cons_succ]
              refine wpAnyH_take (i := 53) (oi := ⟨some 168, _, _, _, _, _⟩) (v := ?_) rfl (by kernel_rfl) (by kernel_rfl) (by kernel_rfl) (fun _ _ _ h => h) (Or.inl ⟨by rfl, ?_⟩) hHeld ?_
              rotate_left
              · intro w hSw; (try dsimp only at hSw); go_simp; all_goals (with_reducible rfl)
              try simp only [Act.put, List.setIfInBounds_toArray, List.set_cons_zero, List.set_cons_succ]
              refine wpAnyH_take (i := 54) (oi := ⟨some 169, _, _, _, _, _⟩) (v := ?_) rfl (by kernel_rfl) (by kernel_rfl) (by kernel_rfl) (fun _ _ _ h => h) (Or.inl ⟨by rfl, ?_⟩) hHeld ?_
              rotate_left
              · intro w hSw; (try dsimp only at hSw); go_simp; all_goals (with_reducible rfl)
              try simp only [Act.put, List.setIfInBounds_toArray, List.set_cons_zero, List.set_cons_succ]
              refine wpAnyH_take (i := 55) (oi := ⟨some 170, _, _, _, _, _⟩) (v := ?_) rfl (by kernel_rfl) (by kernel_rfl) (by kernel_rfl) (fun _ _ _ h => h) (Or.inl ⟨by rfl, ?_⟩) hHeld ?_
              rotate_left
              · intro w hSw; (try dsimp only at hSw); go_simp; all_goals (with_reducible rfl)
              try simp only [Act.put, List.setIfInBounds_toArray, List.set_cons_zero, List.set_cons_succ]
              refine wpAnyH_done (by kernel_rfl) ?_ _
              refine NoPanic.normal ?_
              have HB9 : Hid (Below wz.heap.size wz wy9) := hHeld
              clear hHeld HZ6 HZ8 HZ9 HZ10 HZX HZC HZM hX4
              have HY9 : Hid (Below w4.heap.size w4 wy9) := below_trans HZB.out HB9.out
              obtain ⟨E3, hE3⟩ : ∃ E3, E3 = (encode l).2 := ⟨_, rfl⟩
              obtain ⟨B, hBB⟩ : ∃ B, B = (encode l).1 := ⟨_, rfl⟩
              have HE3 : Hid (E3 = (encode l).2) := hE3
              have HBB : Hid (B = (encode l).1) := hBB
              clear hE3 hBB
              go_wp2_with fail
              refine (encode_walk (HMH.out _ HY9.out) HOK.out).mono ?_
              rintro e w20 ⟨v20, he, ho20, hB20⟩
              rw [← HE3.out] at he
              rw [← HBB.out] at ho20
              subst he
              have HY20 : Hid (Below w4.heap.size w4 w20) := below_trans HY9.out hB20
              have HO20 : Hid (w20.ownsRow wy9.heap.size 5 1 v20 B.length ((ib B).map (Value.int .u8))) := ho20
              clear ho20 hB20
              by_cases h30 : E3 = 0
              rotate_left
              · have h3i : ((E3 : Int) != 0) = true := by rw [bne_iff_ne]; omega
                clear h30
                go_wp2_with fail
                go_ret
                exact ⟨rfl, below_trans HBW.out HY20.out⟩
              subst h30
              have HE0 : Hid ((encode l).2 = 0) := HE3.out.symm
              have HBY : Hid (∀ c ∈ B, c < 256) := by show ∀ c ∈ B, c < 256; rw [HBB.out]; exact form_bytes HE0.out HOK.out
              have HV20 : Hid (Bv w20 v20 B) := own_bv HO20.out HBY.out
              have HLB : Hid ((ib B).length ≤ 1024) := by show _ ≤ _; rw [ib_len, HBB.out]; exact (form_len HE0.out).1
              have HZ0 : Hid ((w20.alloc (Obj.cells #[] 5)).ownsRow w20.heap.size 5 1 (.slice (some ⟨w20.heap.size, 0, none⟩) 0 0) 0 []) := World.ownsRow_made w20 #[] 0 (Nat.le_refl _) (by simp [maxLen]) rfl
              have HY0 : Hid (Bv (w20.alloc (Obj.cells #[] 5)) v20 B) := HV20.out.below (below_alloc _ _)
              go_upto_region 32 with (at_builtin; refine wpList_append_sv (by rfl) (.tmp 180) (.tmp 181) 24 (by rfl) w20.heap.size 5 .u8 1 Try.underlying24 info_u8 _ _ _ (by rfl) HZ0.out _ _ (by rfl) HY0.out.1 (by have := HLB.out; simp only [maxLen]; omega) (by have := HLB.out; omega) (by rw [size_allocC]; omega) ?_; intro v21 w21 hown hgrow)
              have HO21 : Hid (w21.ownsRow w20.heap.size 5 1 v21 (0 + (ib B).length) ((ib B).map (Value.int .u8))) := hown
              have HB21 : Hid (Below w20.heap.size w20 w21) := (below_alloc w20 _).trans (grown_belowC HZ0.out hgrow (by rw [size_allocC]; omega))
              have HV21 : Hid (Bv w21 v21 B) := own_bv HO21.out HBY.out
              clear hown hgrow HZ0 HY0
              go_wp2_with fail
              refine (decode_walk HV21.out).mono ?_
              rintro e w22 ⟨v22, he, ho22, hB22⟩
              rw [HBB.out, form_there HE0.out HOK.out] at he ho22
              subst he
              have HB22 : Hid (Below w21.heap.size w21 w22) := hB22
              have HO22 : Hid (w22.ownsRow w21.heap.size 37 6 v22 l.length (flatC l)) := ho22
              clear ho22 hB22
              obtain ⟨D2, hD2⟩ : ∃ D2 : Nat → Prop, D2 = fun x => w20.heap.size ≤ x ∧ x < w21.heap.size := ⟨_, rfl⟩
              have HD2 : Hid (∀ x, D2 x ↔ w20.heap.size ≤ x ∧ x < w21.heap.size) := fun x => by rw [hD2]
              obtain ⟨nb, hnb⟩ : ∃ nb, nb = 0 + (ib B).length := ⟨_, rfl⟩
              have hnbi : (nb : Int) ≤ 1024 := by have := HLB.out; omega
              have HBR : Hid (Br1 w22 D2 nb v21 w22) := ⟨⟨ib B, by rw [hnb]; exact own_baseC (own_belowC HO21.out HB22.out) (Nat.zero_le _)⟩, fun x hx => (HD2.out x).2 (HO21.out.lt x hx), Ch.refl _ _⟩
              obtain ⟨a21, q21, hv21, _⟩ := own_form HO21.out
              rw [← hnb] at hv21
              have HC22 : Hid (∀ wx, Ch D2 w22 wx → Cv wx v22 l) := fun wx h => (own_cv HO22.out).1.ch h (fun x hx hy => by have a := HO22.out.lt x hx; rw [HD2.out] at hy; omega)
              have HC20 : Hid (∀ wx, Ch D2 w22 wx → Bv wx v20 B) := fun wx h => (HV20.out.below (below_trans HB21.out HB22.out)).chO h (fun x hx hy => by have a := HO20.out.lt x hx; rw [HD2.out] at hy; omega)
              have HC4' : Hid (∀ wx, Ch D2 w22 wx → Below w4.heap.size w4 wx) := fun wx h => (below_trans HY20.out (below_trans HB21.out HB22.out)).trans (h.to_below (by have a := HY20.out.size; have b := HB21.out.size; have d := HB22.out.size; omega) (fun x hx => by rw [HD2.out] at hx; have a := HY20.out.size; omega))
              clear HV21 HO21 HB21 HB22 HO22 HV20 HO20 HY20 hD2
              have HNB : Hid (nb = 0 + (ib B).length) := hnb
              subst hv21
              clear hnb
              go_wp2_with fail
              go_loopw [23] (fun kv wr => ∃ k : Nat, kv = .int .i64 k ∧ k ≤ nb ∧ Br1 w22 D2 nb (.slice a21 nb q21) wr) (fun kv _ => nb - (intOf kv).toNat)
              case atStart => exact ⟨0, rfl, by omega, HBR.out⟩
              case round =>
                clear HBR
                obtain ⟨k4, rfl, hk, hpr⟩ := hrel
                have HBR : Hid (Br1 w22 D2 nb (.slice a21 nb q21) wr) := hpr
                clear hpr
                by_cases hlt : k4 < nb
                · have hlti : (k4 : Int) < (nb : Int) := by omega
                  obtain ⟨⟨L4, hL4⟩, _, _⟩ := HBR.out
                  obtain ⟨g21, q21', e21, _⟩ := own_block hL4 (by omega)
                  simp only [Value.slice.injEq] at e21
                  obtain ⟨rfl, ha1, ha2⟩ := e21
                  obtain ⟨⟨y0, hy0⟩, hy1⟩ := HBR.out.at hlt
                  clear ha1 ha2 hL4
                  go_wp2_with fail
                  go_roundw
                  case rel => exact ⟨k4 + 1, by go_num, hlt, HBR.out.set 85⟩
                  case measure => simp [intOf]; omega
                · have hlti : ¬ (k4 : Int) < (nb : Int) := by omega
                  have HF4 : Hid (Below w4.heap.size w4 wr) := HC4'.out wr HBR.out.ch
                  have HF22 : Hid (Cv wr v22 l) := HC22.out wr HBR.out.ch
                  have HF20 : Hid (Bv wr v20 B) := HC20.out wr HBR.out.ch
                  clear HBR HC4' HC22 HC20
                  go_wp2_with fail
                  refine (encode_walk (HMH.out _ HF4.out) HOK.out).mono ?_
                  rintro e w24 ⟨v24, he, ho24, hB24⟩
                  rw [HE0.out] at he
                  rw [← HBB.out] at ho24
                  subst he
                  have HG4 : Hid (Below w4.heap.size w4 w24) := below_trans HF4.out hB24
                  have HG22 : Hid (Cv w24 v22 l) := HF22.out.below hB24
                  have HG20 : Hid (Bv w24 v20 B) := HF20.out.below hB24
                  have HG24 : Hid (Bv w24 v24 B) := own_bv ho24 HBY.out
                  clear ho24 hB24 HF4 HF22 HF20
                  go_wp2_with fail
                  refine (same_walk HG22.out (HV.out.below (below_trans HBW.out HG4.out))).mono ?_
                  rintro e w25 ⟨rfl, hB25⟩
                  have hs1 : (convert 24 9 v24).run Try.prog w25 = .ok (.string (str B)) w25 := (HG24.out.below hB25).str 24 5 9 Try.underlying24 Try.underlying5 Try.underlying9
                  have hs2 : (convert 24 9 v20).run Try.prog w25 = .ok (.string (str B)) w25 := (HG20.out.below hB25).str 24 5 9 Try.underlying24 Try.underlying5 Try.underlying9
                  go_wp2_with fail
                  go_ret
                  exact ⟨rfl, below_trans HBW.out (below_trans HG4.out hB25)⟩
end Go.Proofs.Ytjcmmhonidamoaa
