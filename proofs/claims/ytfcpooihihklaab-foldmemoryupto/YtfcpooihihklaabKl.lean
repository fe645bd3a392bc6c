/- awake: the answers that the document fixes by number. -/
import Derived.Test.YtfcpooihihklaabKk
import Derived.Deep.DeepCutAuto
import Derived.Deep.RegionHeld3
namespace Go.Proofs.Ytfcpooihihklaab
open Ieee Go.RowKit

theorem mq_ql {w : World} {g : Nat} {m : List Pr} (h : Mq w g m) : Ql w (some ⟨g, 0, none⟩) m := fun i hi => by
  obtain ⟨⟨a, b, c⟩, _⟩ := h i hi
  exact ⟨g, 0, rfl, by simpa using a, by simpa using b, by simpa using c⟩

def tA : List Pr := [⟨2, ⟨true, 1⟩⟩, ⟨5, ⟨true, 2⟩⟩]
def tB : List Pr := [⟨2, ⟨true, 2⟩⟩, ⟨5, ⟨true, 4⟩⟩]
def aRecs : List Rcd := [⟨5, 4607182418800017408⟩, ⟨2, 4613937818241073152⟩, ⟨5, 0⟩]
theorem aw_tA : batchT [⟨9, 0, 0⟩] 1 aRecs = tA := by kernel_rfl
theorem aw_trap : trapN [⟨9, 0, 0⟩] aRecs = 0 := by kernel_rfl
theorem aw_check : checkB [⟨9, 0, 0⟩] = true := by kernel_rfl
theorem aw_tB : addT 1 tA tA = tB := by kernel_rfl
theorem tab_tA : tabB tA = true := tab_iff.2 ⟨by simp [Rise, tA], by simp [hasT, tA]⟩
theorem ok_tA : okT tA := by
  intro p hp
  simp [tA] at hp
  rcases hp with rfl | rfl <;> exact ⟨by simp, by show _ < 18446744073709551616; simp⟩

theorem aw_ov (w : World) (t : TypeId) : Ov (w.alloc (Obj.cells #[.int .i64 9, .int .i64 0, .float .f64 0] t)) (.slice (some ⟨w.heap.size, 0, none⟩) 1 1) [⟨9, 0, 0⟩] := by
  refine ⟨⟨_, 1, rfl, by simp, by simp [maxLen], by simp, fun i hi => ?_⟩, ?_⟩
  · have : i = 0 := by simpa using hi
    subst this
    refine ⟨_, _, rfl, ?_, ?_, ?_⟩ <;> simp [go_sem]
  · intro o ho
    simp at ho
    subst ho
    exact ⟨⟨by simp, by simp⟩, ⟨by simp, by simp⟩, by simp⟩

theorem aw_rv (w : World) (g : Nat) (hg : g = w.heap.size) (t : TypeId) : Rv (w.alloc (Obj.cells #[.int .u64 5, .float .f64 4607182418800017408, .int .u64 2, .float .f64 4613937818241073152, .int .u64 5, .float .f64 0] t)) (.slice (some ⟨g, 0, none⟩) 3 3) aRecs := by
  subst hg
  refine ⟨⟨_, 3, rfl, by simp [aRecs], by simp [maxLen], by simp, fun i hi => ?_⟩, ?_⟩
  · have : i = 0 ∨ i = 1 ∨ i = 2 := by have : i < 3 := hi; omega
    rcases this with rfl | rfl | rfl <;> (refine ⟨_, _, rfl, ?_, ?_⟩ <;> simp [go_sem, aRecs])
  · intro r hr
    simp [aRecs] at hr
    rcases hr with rfl | rfl | rfl <;> exact ⟨by simp, by simp⟩

theorem aw_batch (w : World) (g : Nat) (hg : g = w.heap.size + 1) :
    Calls Try.prog 17 #[.slice (some ⟨w.heap.size, 0, none⟩) 1 1, .int .i64 1, .slice (some ⟨g, 0, none⟩) 3 3]
      ((w.alloc (Obj.cells #[.int .i64 9, .int .i64 0, .float .f64 0] 56)).alloc (Obj.cells #[.int .u64 5, .float .f64 4607182418800017408, .int .u64 2, .float .f64 4613937818241073152, .int .u64 5, .float .f64 0] 36))
      fun e w' => ∃ g, e = .returned (.tuple #[.slice (some ⟨g, 0, none⟩) 2 2, .int .i64 0, .int .i64 0]) ∧ Ql w' (some ⟨g, 0, none⟩) tA ∧ Below w.heap.size w w' := by
  refine (batch_good (l := [⟨9, 0, 0⟩]) (kind := 1) (recs := aRecs) ((aw_ov w _).below (below_alloc _ _)) (aw_rv _ g (by simp [hg]) _) aw_check (by decide) (by simp [aRecs])).mono ?_
  rw [aw_tA, aw_trap]
  rintro e w' ⟨g, rfl, hM, _, _, hB⟩
  exact ⟨g, rfl, mq_ql hM, below_trans (below_trans (below_alloc _ _) (below_alloc _ _)) hB⟩

theorem aw_add (w : World) {g : Nat} (h : Ql w (some ⟨g, 0, none⟩) tA) :
    Calls Try.prog 13 #[.int .i64 1, .slice (some ⟨g, 0, none⟩) 2 2, .slice (some ⟨g, 0, none⟩) 2 2] w
      fun e w' => ∃ g, e = .returned (.tuple #[.slice (some ⟨g, 0, none⟩) 2 2, .int .i64 0]) ∧ Ql w' (some ⟨g, 0, none⟩) tB ∧ Below w.heap.size w w' := by
  have hq : Qv w (.slice (some ⟨g, 0, none⟩) 2 2) tA := ⟨⟨_, 2, rfl, by simp [tA], by simp [maxLen], by simp, h⟩, ok_tA⟩
  refine (add_good (kind := 1) hq hq (by decide) tab_tA tab_tA (by simp [tA])).mono ?_
  rw [aw_tB]
  rintro e w' ⟨g, rfl, hM, _, _, hB⟩
  exact ⟨g, rfl, mq_ql hM, hB⟩

theorem ql_two (w : World) (g : Nat) (hg : g = w.heap.size) (p q : Pr) (t : TypeId) : Ql (w.alloc (Obj.cells #[.int .u64 p.k, .bool p.v.h, .int .u64 p.v.b, .int .u64 q.k, .bool q.v.h, .int .u64 q.v.b] t)) (some ⟨g, 0, none⟩) [p, q] := by
  subst hg
  intro i hi
  have : i = 0 ∨ i = 1 := by have : i < 2 := hi; omega
  rcases this with rfl | rfl <;> (refine ⟨_, _, rfl, ?_, ?_, ?_⟩ <;> simp [go_sem])

theorem sl_two (w : World) (g : Nat) (hg : g = w.heap.size) (a b : Int) (t : TypeId) : Sl .u64 (w.alloc (Obj.cells #[.int .u64 a, .int .u64 b] t)) (some ⟨g, 0, none⟩) [a, b] := by
  subst hg
  intro i hi
  have : i = 0 ∨ i = 1 := by have : i < 2 := hi; omega
  rcases this with rfl | rfl <;> (refine ⟨_, _, rfl, ?_⟩; simp [go_sem])

theorem get_tA : getT 5 tA = ⟨true, 2⟩ := rfl
theorem aw_find (w : World) {g : Nat} (h : Ql w (some ⟨g, 0, none⟩) tA) :
    Calls Try.prog 11 #[.slice (some ⟨g, 0, none⟩) 2 2, .int .u64 5] w fun e w' => e = .returned (.agg #[.bool true, .int .u64 2]) ∧ Below w.heap.size w w' :=
  find_walk (l := tA) (by simp [tA, maxLen]) h 5
theorem aw_sound (w : World) {g : Nat} (h : Ql w (some ⟨g, 0, none⟩) tA) :
    Calls Try.prog 18 #[.slice (some ⟨g, 0, none⟩) 2 2] w fun e w' => e = .returned (.bool true) ∧ Below w.heap.size w w' := by
  have := sound_walk (l := tA) (ca := 2) (by simp [tA, maxLen]) h
  rw [tab_tA] at this
  exact this
theorem aw_keys (w : World) {g : Nat} (h : Ql w (some ⟨g, 0, none⟩) tA) :
    Calls Try.prog 14 #[.slice (some ⟨g, 0, none⟩) 2 2] w fun e w' => ∃ ao cap, e = .returned (.slice ao 2 cap) ∧ Sl .u64 w' ao [2, 5] ∧ Below w.heap.size w w' := by
  refine (keys_walk (l := tA) (ca := 2) (by simp [tA]) h).mono ?_
  rintro e w' ⟨v, rfl, hown, hB⟩
  obtain ⟨ao, cap, rfl, _, _, _, hS⟩ := own_sv hown
  exact ⟨ao, cap, rfl, hS, hB⟩

set_option maxRecDepth 100000 in
set_option maxHeartbeats 8000000 in
theorem awake_walk (w : World) :
    Calls Try.prog 5 #[] w fun e w' => e = .returned (.bool true) ∧ Below w.heap.size w w' := by
  go_enter Try.func5, Try.ntmps5
  go_wp2_with fail
  refine (aw_batch w _ (by simp)).mono ?_
  rintro e w1 ⟨g1, rfl, hA1, hB1⟩
  have HA1 : Hid (Ql w1 (some ⟨g1, 0, none⟩) tA) := hA1
  have HB1 : Hid (Below w.heap.size w w1) := hB1
  clear hA1 hB1
  go_wp2_with fail
  refine (aw_add w1 HA1.out).mono ?_
  rintro e w2 ⟨g2, rfl, hA2, hB2⟩
  have HT2 : Hid (Ql w2 (some ⟨g1, 0, none⟩) tA) := HA1.out.below hB2
  have HA2 : Hid (Ql w2 (some ⟨g2, 0, none⟩) tB) := hA2
  have HB2 : Hid (Below w.heap.size w w2) := below_trans HB1.out hB2
  clear hA2 hB2 HA1 HB1
  have k0 : ∀ wx, Below w2.heap.size w2 wx → wx.cell? ⟨g1, 4, none⟩ = some (.bool true) := fun wx h => by
    obtain ⟨b, off, e, _, h1, _⟩ := HT2.out.below h 1 (by simp [tA])
    cases e
    simpa [tA] using h1
  have k1 : ∀ wx, Below w2.heap.size w2 wx → wx.cell? ⟨g1, 5, none⟩ = some (.int .u64 2) := fun wx h => by
    obtain ⟨b, off, e, _, _, h1⟩ := HT2.out.below h 1 (by simp [tA])
    cases e
    simpa [tA] using h1
  have hgv := guard_val
  have heq : ∀ wx : World, (binOp .eql 33 (.agg #[.bool true, .int .u64 2]) (.agg #[.bool true, .int .u64 2])).run Try.prog wx = .ok (.bool true) wx := fun wx => eql_val ⟨true, 2⟩ wx
  go_wp2_with fail
  refine wp_region_noPanic ?_
  refine wp_region_held_drew (S := fun wx => Below w2.heap.size w2 wx) (by kernel_rfl) ?_ (fun hHeld => ?_)
  · exact (Below.refl _ _).drew
  refine wpAnyH_take (i := 0) (oi := ⟨some 23, _, _, _, _, _⟩) (v := ?_) rfl (by kernel_rfl) (by kernel_rfl) (by kernel_rfl) (fun _ _ _ h => h) (Or.inl ⟨by rfl, ?_⟩) (by assumption) ?_
  rotate_left
  · intro w hSw; (try dsimp only at hSw); go_simp; all_goals (with_reducible rfl)
  try simp only [Act.put, List.setIfInBounds_toArray, List.set_cons_zero, List.set_cons_succ]
  refine wpAnyH_take (i := 1) (oi := ⟨some 24, _, _, _, _, _⟩) (v := ?_) rfl (by kernel_rfl) (by kernel_rfl) (by kernel_rfl) (fun _ _ _ h => h) (Or.inl ⟨by rfl, ?_⟩) (by assumption) ?_
  rotate_left
  · intro w hSw; (try dsimp only at hSw); go_simp; all_goals (with_reducible rfl)
  try simp only [Act.put, List.setIfInBounds_toArray, List.set_cons_zero, List.set_cons_succ]
  refine wpAnyH_take (i := 2) (oi := ⟨some 25, _, _, _, _, _⟩) (v := ?_) rfl (by kernel_rfl) (by kernel_rfl) (by kernel_rfl) (fun _ _ _ h => h) (Or.inl ⟨by rfl, ?_⟩) (by assumption) ?_
  rotate_left
  · intro w hSw; (try dsimp only at hSw); go_simp; all_goals (with_reducible rfl)
  try simp only [Act.put, List.setIfInBounds_toArray, List.set_cons_zero, List.set_cons_succ]
  refine wpAnyH_take (i := 3) (oi := ⟨some 26, _, _, _, _, _⟩) (v := ?_) rfl (by kernel_rfl) (by kernel_rfl) (by kernel_rfl) (fun _ _ _ h => h) (Or.inl ⟨by rfl, ?_⟩) (by assumption) ?_
  rotate_left
  · intro w hSw; (try dsimp only at hSw); go_simp; all_goals (with_reducible rfl)
  try simp only [Act.put, List.setIfInBounds_toArray, List.set_cons_zero, List.set_cons_succ]
  refine wpAnyH_take (i := 4) (oi := ⟨some 27, _, _, _, _, _⟩) (v := ?_) rfl (by kernel_rfl) (by kernel_rfl) (by kernel_rfl) (fun _ _ _ h => h) (Or.inl ⟨by rfl, ?_⟩) (by assumption) ?_
  rotate_left
  · intro w hSw; (try dsimp only at hSw); go_simp; all_goals (with_reducible rfl)
  try simp only [Act.put, List.setIfInBounds_toArray, List.set_cons_zero, List.set_cons_succ]
  refine wpAnyH_take (i := 5) (oi := ⟨some 28, _, _, _, _, _⟩) (v := ?_) rfl (by kernel_rfl) (by kernel_rfl) (by kernel_rfl) (fun _ _ _ h => h) (Or.inl ⟨by rfl, ?_⟩) (by assumption) ?_
  rotate_left
  · intro w hSw; (try dsimp only at hSw); go_simp; all_goals (with_reducible rfl)
  try simp only [Act.put, List.setIfInBounds_toArray, List.set_cons_zero, List.set_cons_succ]
  refine wpAnyH_take (i := 6) (oi := ⟨some 29, _, _, _, _, _⟩) (v := ?_) rfl (by kernel_rfl) (by kernel_rfl) (by kernel_rfl) (fun _ _ _ h => h) (Or.inl ⟨by rfl, ?_⟩) (by assumption) ?_
  rotate_left
  · intro w hSw; (try dsimp only at hSw); go_simp; all_goals (with_reducible rfl)
  try simp only [Act.put, List.setIfInBounds_toArray, List.set_cons_zero, List.set_cons_succ]
  refine wpAnyH_take (i := 7) (oi := ⟨some 30, _, _, _, _, _⟩) (v := ?_) rfl (by kernel_rfl) (by kernel_rfl) (by kernel_rfl) (fun _ _ _ h => h) (Or.inl ⟨by rfl, ?_⟩) (by assumption) ?_
  rotate_left
  · intro w hSw; (try dsimp only at hSw); go_simp; all_goals (with_reducible rfl)
  try simp only [Act.put, List.setIfInBounds_toArray, List.set_cons_zero, List.set_cons_succ]
  refine wpAnyH_ready (rs := [8]) (by kernel_rfl) (by simp) ?_
  refine AllReadyH.cons (o := ⟨some 31, _, _, _, _, _⟩) rfl (fun K hK => ?_) AllReadyH.nil
  go_simp
  refine (pair_walk 2 1 _).mono ?_
  rintro e w101 ⟨rfl, hB1⟩
  have hS1 : Below w2.heap.size w2 w101 := below_trans hHeld hB1
  go_simp
  refine hK.out _ _ ?_ (fun hHeld => ?_)
  · exact hS1
  clear hK K
  try simp only [Act.put, List.setIfInBounds_toArray, List.set_cons_zero, List.set_cons_succ]
  refine wpAnyH_ready (rs := [9]) (by kernel_rfl) (by simp) ?_
  refine AllReadyH.cons (o := ⟨some 32, _, _, _, _, _⟩) rfl (fun K hK => ?_) AllReadyH.nil
  go_simp
  refine (pair_walk 5 2 _).mono ?_
  rintro e w102 ⟨rfl, hB2⟩
  have hS2 : Below w2.heap.size w2 w102 := below_trans hHeld hB2
  go_simp
  refine hK.out _ _ ?_ (fun hHeld => ?_)
  · exact hS2
  clear hK K
  try simp only [Act.put, List.setIfInBounds_toArray, List.set_cons_zero, List.set_cons_succ]
  refine wpAnyH_ready (rs := [10]) (by kernel_rfl) (by simp) ?_
  refine AllReadyH.cons (o := ⟨some 33, _, _, _, _, _⟩) rfl (fun K hK => ?_) AllReadyH.nil
  go_simp
  refine hK.out _ _ ?_ (fun hHeld => ?_)
  · exact Below.alloc hHeld (Below.size hHeld) _
  clear hK K
  try simp only [Act.put, List.setIfInBounds_toArray, List.set_cons_zero, List.set_cons_succ]
  refine wpAnyH_ready (rs := [11]) (by kernel_rfl) (by simp) ?_
  refine AllReadyH.cons (o := ⟨some 34, _, _, _, _, _⟩) rfl (fun K hK => ?_) AllReadyH.nil
  go_simp
  refine (same_walk (l := tA) (by simp [tA, maxLen]) (HT2.out.below hHeld) (ql_two _ _ (by simp) ⟨2, ⟨true, 1⟩⟩ ⟨5, ⟨true, 2⟩⟩ _)).mono ?_
  rintro e w104 ⟨rfl, hB4⟩
  have hS4 : Below w2.heap.size w2 w104 := below_trans hHeld hB4
  go_simp
  refine hK.out _ _ ?_ (fun hHeld => ?_)
  · exact hS4
  clear hK K
  try simp only [Act.put, List.setIfInBounds_toArray, List.set_cons_zero, List.set_cons_succ]
  refine wpAnyH_take (i := 12) (oi := ⟨some 35, _, _, _, _, _⟩) (v := ?_) rfl (by kernel_rfl) (by kernel_rfl) (by kernel_rfl) (fun _ _ _ h => h) (Or.inl ⟨by rfl, ?_⟩) (by assumption) ?_
  rotate_left
  · intro w hSw; (try dsimp only at hSw); go_simp; all_goals (with_reducible rfl)
  try simp only [Act.put, List.setIfInBounds_toArray, List.set_cons_zero, List.set_cons_succ]
  refine wpAnyH_take (i := 13) (oi := ⟨some 36, _, _, _, _, _⟩) (v := ?_) rfl (by kernel_rfl) (by kernel_rfl) (by kernel_rfl) (fun _ _ _ h => h) (Or.inl ⟨by rfl, ?_⟩) (by assumption) ?_
  rotate_left
  · intro w hSw; (try dsimp only at hSw); go_simp; all_goals (with_reducible rfl)
  try simp only [Act.put, List.setIfInBounds_toArray, List.set_cons_zero, List.set_cons_succ]
  refine wpAnyH_take (i := 14) (oi := ⟨some 37, _, _, _, _, _⟩) (v := ?_) rfl (by kernel_rfl) (by kernel_rfl) (by kernel_rfl) (fun _ _ _ h => h) (Or.inl ⟨by rfl, ?_⟩) (by assumption) ?_
  rotate_left
  · intro w hSw; (try dsimp only at hSw); go_simp; all_goals (with_reducible rfl)
  try simp only [Act.put, List.setIfInBounds_toArray, List.set_cons_zero, List.set_cons_succ]
  refine wpAnyH_take (i := 15) (oi := ⟨some 38, _, _, _, _, _⟩) (v := ?_) rfl (by kernel_rfl) (by kernel_rfl) (by kernel_rfl) (fun _ _ _ h => h) (Or.inl ⟨by rfl, ?_⟩) (by assumption) ?_
  rotate_left
  · intro w hSw; (try dsimp only at hSw); go_simp; all_goals (with_reducible rfl)
  try simp only [Act.put, List.setIfInBounds_toArray, List.set_cons_zero, List.set_cons_succ]
  refine wpAnyH_take (i := 16) (oi := ⟨some 39, _, _, _, _, _⟩) (v := ?_) rfl (by kernel_rfl) (by kernel_rfl) (by kernel_rfl) (fun _ _ _ h => h) (Or.inl ⟨by rfl, ?_⟩) (by assumption) ?_
  rotate_left
  · intro w hSw; (try dsimp only at hSw); go_simp; all_goals (with_reducible rfl)
  try simp only [Act.put, List.setIfInBounds_toArray, List.set_cons_zero, List.set_cons_succ]
  refine wpAnyH_take (i := 17) (oi := ⟨some 40, _, _, _, _, _⟩) (v := ?_) rfl (by kernel_rfl) (by kernel_rfl) (by kernel_rfl) (fun _ _ _ h => h) (Or.inl ⟨by rfl, ?_⟩) (by assumption) ?_
  rotate_left
  · intro w hSw; (try dsimp only at hSw); go_simp; all_goals (with_reducible rfl)
  try simp only [Act.put, List.setIfInBounds_toArray, List.set_cons_zero, List.set_cons_succ]
  refine wpAnyH_take (i := 18) (oi := ⟨some 41, _, _, _, _, _⟩) (v := ?_) rfl (by kernel_rfl) (by kernel_rfl) (by kernel_rfl) (fun _ _ _ h => h) (Or.inl ⟨by rfl, ?_⟩) (by assumption) ?_
  rotate_left
  · intro w hSw; (try dsimp only at hSw); go_simp; all_goals (with_reducible rfl)
  try simp only [Act.put, List.setIfInBounds_toArray, List.set_cons_zero, List.set_cons_succ]
  refine wpAnyH_ready (rs := [19]) (by kernel_rfl) (by simp) ?_
  refine AllReadyH.cons (o := ⟨some 42, _, _, _, _, _⟩) rfl (fun K hK => ?_) AllReadyH.nil
  go_simp
  refine (pair_walk 2 2 _).mono ?_
  rintro e w105 ⟨rfl, hB5⟩
  have hS5 : Below w2.heap.size w2 w105 := below_trans hHeld hB5
  go_simp
  refine hK.out _ _ ?_ (fun hHeld => ?_)
  · exact hS5
  clear hK K
  try simp only [Act.put, List.setIfInBounds_toArray, List.set_cons_zero, List.set_cons_succ]
  refine wpAnyH_ready (rs := [20]) (by kernel_rfl) (by simp) ?_
  refine AllReadyH.cons (o := ⟨some 43, _, _, _, _, _⟩) rfl (fun K hK => ?_) AllReadyH.nil
  go_simp
  refine (pair_walk 5 4 _).mono ?_
  rintro e w106 ⟨rfl, hB6⟩
  have hS6 : Below w2.heap.size w2 w106 := below_trans hHeld hB6
  go_simp
  refine hK.out _ _ ?_ (fun hHeld => ?_)
  · exact hS6
  clear hK K
  try simp only [Act.put, List.setIfInBounds_toArray, List.set_cons_zero, List.set_cons_succ]
  refine wpAnyH_ready (rs := [21]) (by kernel_rfl) (by simp) ?_
  refine AllReadyH.cons (o := ⟨some 44, _, _, _, _, _⟩) rfl (fun K hK => ?_) AllReadyH.nil
  go_simp
  refine hK.out _ _ ?_ (fun hHeld => ?_)
  · exact Below.alloc hHeld (Below.size hHeld) _
  clear hK K
  try simp only [Act.put, List.setIfInBounds_toArray, List.set_cons_zero, List.set_cons_succ]
  refine wpAnyH_ready (rs := [22]) (by kernel_rfl) (by simp) ?_
  refine AllReadyH.cons (o := ⟨some 45, _, _, _, _, _⟩) rfl (fun K hK => ?_) AllReadyH.nil
  go_simp
  refine (same_walk (l := tB) (by simp [tB, maxLen]) (HA2.out.below hHeld) (ql_two _ _ (by simp) ⟨2, ⟨true, 2⟩⟩ ⟨5, ⟨true, 4⟩⟩ _)).mono ?_
  rintro e w108 ⟨rfl, hB8⟩
  have hS8 : Below w2.heap.size w2 w108 := below_trans hHeld hB8
  go_simp
  refine hK.out _ _ ?_ (fun hHeld => ?_)
  · exact hS8
  clear hK K
  try simp only [Act.put, List.setIfInBounds_toArray, List.set_cons_zero, List.set_cons_succ]
  refine wpAnyH_take (i := 23) (oi := ⟨some 46, _, _, _, _, _⟩) (v := ?_) rfl (by kernel_rfl) (by kernel_rfl) (by kernel_rfl) (fun _ _ _ h => h) (Or.inl ⟨by rfl, ?_⟩) (by assumption) ?_
  rotate_left
  · intro w hSw; (try dsimp only at hSw); go_simp; all_goals (with_reducible rfl)
  try simp only [Act.put, List.setIfInBounds_toArray, List.set_cons_zero, List.set_cons_succ]
  refine wpAnyH_take (i := 24) (oi := ⟨some 47, _, _, _, _, _⟩) (v := ?_) rfl (by kernel_rfl) (by kernel_rfl) (by kernel_rfl) (fun _ _ _ h => h) (Or.inl ⟨by rfl, ?_⟩) (by assumption) ?_
  rotate_left
  · intro w hSw; (try dsimp only at hSw); go_simp; all_goals (with_reducible rfl)
  try simp only [Act.put, List.setIfInBounds_toArray, List.set_cons_zero, List.set_cons_succ]
  refine wpAnyH_take (i := 25) (oi := ⟨some 48, _, _, _, _, _⟩) (v := ?_) rfl (by kernel_rfl) (by kernel_rfl) (by kernel_rfl) (fun _ _ _ h => h) (Or.inl ⟨by rfl, ?_⟩) (by assumption) ?_
  rotate_left
  · intro w hSw; (try dsimp only at hSw); go_simp; all_goals (with_reducible rfl)
  try simp only [Act.put, List.setIfInBounds_toArray, List.set_cons_zero, List.set_cons_succ]
  refine wpAnyH_ready (rs := [26]) (by kernel_rfl) (by simp) ?_
  refine AllReadyH.cons (o := ⟨some 49, _, _, _, _, _⟩) rfl (fun K hK => ?_) AllReadyH.nil
  go_simp
  refine (aw_sound _ (HT2.out.below hHeld)).mono ?_
  rintro e w109 ⟨rfl, hB9⟩
  have hS9 : Below w2.heap.size w2 w109 := below_trans hHeld hB9
  go_simp
  refine hK.out _ _ ?_ (fun hHeld => ?_)
  · exact hS9
  clear hK K
  try simp only [Act.put, List.setIfInBounds_toArray, List.set_cons_zero, List.set_cons_succ]
  refine wpAnyH_take (i := 27) (oi := ⟨some 50, _, _, _, _, _⟩) (v := ?_) rfl (by kernel_rfl) (by kernel_rfl) (by kernel_rfl) (fun _ _ _ h => h) (Or.inl ⟨by rfl, ?_⟩) (by assumption) ?_
  rotate_left
  · intro w hSw; (try dsimp only at hSw); go_simp; all_goals (with_reducible rfl)
  try simp only [Act.put, List.setIfInBounds_toArray, List.set_cons_zero, List.set_cons_succ]
  refine wpAnyH_take (i := 28) (oi := ⟨some 51, _, _, _, _, _⟩) (v := ?_) rfl (by kernel_rfl) (by kernel_rfl) (by kernel_rfl) (fun _ _ _ h => h) (Or.inl ⟨by rfl, ?_⟩) (by assumption) ?_
  rotate_left
  · intro w hSw; (try dsimp only at hSw); go_simp; all_goals (with_reducible rfl)
  try simp only [Act.put, List.setIfInBounds_toArray, List.set_cons_zero, List.set_cons_succ]
  refine wpAnyH_take (i := 29) (oi := ⟨some 52, _, _, _, _, _⟩) (v := ?_) rfl (by kernel_rfl) (by kernel_rfl) (by kernel_rfl) (fun _ _ _ h => h) (Or.inl ⟨by rfl, ?_⟩) (by assumption) ?_
  rotate_left
  · intro w hSw; (try dsimp only at hSw); go_simp; all_goals (with_reducible rfl)
  try simp only [Act.put, List.setIfInBounds_toArray, List.set_cons_zero, List.set_cons_succ]
  refine wpAnyH_take (i := 31) (oi := ⟨some 54, _, _, _, _, _⟩) (v := ?_) rfl (by kernel_rfl) (by kernel_rfl) (by kernel_rfl) (fun _ _ _ h => h) (Or.inl ⟨by rfl, ?_⟩) (by assumption) ?_
  rotate_left
  · intro w hSw; (try dsimp only at hSw); go_simp; all_goals (with_reducible rfl)
  try simp only [Act.put, List.setIfInBounds_toArray, List.set_cons_zero, List.set_cons_succ]
  refine wpAnyH_take (i := 32) (oi := ⟨some 55, _, _, _, _, _⟩) (v := ?_) rfl (by kernel_rfl) (by kernel_rfl) (by kernel_rfl) (fun _ _ _ h => h) (Or.inl ⟨by rfl, ?_⟩) (by assumption) ?_
  rotate_left
  · intro w hSw; (try dsimp only at hSw); go_simp; all_goals (with_reducible rfl)
  try simp only [Act.put, List.setIfInBounds_toArray, List.set_cons_zero, List.set_cons_succ]
  refine wpAnyH_take (i := 33) (oi := ⟨some 56, _, _, _, _, _⟩) (v := ?_) rfl (by kernel_rfl) (by kernel_rfl) (by kernel_rfl) (fun _ _ _ h => h) (Or.inl ⟨by rfl, ?_⟩) (by assumption) ?_
  rotate_left
  · intro w hSw; (try dsimp only at hSw); go_simp; all_goals (with_reducible rfl)
  try simp only [Act.put, List.setIfInBounds_toArray, List.set_cons_zero, List.set_cons_succ]
  refine wpAnyH_take (i := 34) (oi := ⟨some 57, _, _, _, _, _⟩) (v := ?_) rfl (by kernel_rfl) (by kernel_rfl) (by kernel_rfl) (fun _ _ _ h => h) (Or.inl ⟨by rfl, ?_⟩) (by assumption) ?_
  rotate_left
  · intro w hSw; (try dsimp only at hSw); go_simp; all_goals (with_reducible rfl)
  try simp only [Act.put, List.setIfInBounds_toArray, List.set_cons_zero, List.set_cons_succ]
  refine wpAnyH_ready (rs := [30]) (by kernel_rfl) (by simp) ?_
  refine AllReadyH.cons (o := ⟨some 53, _, _, _, _, _⟩) rfl (fun K hK => ?_) AllReadyH.nil
  go_simp
  refine (aw_find _ (HT2.out.below hHeld)).mono ?_
  rintro e w110 ⟨rfl, hB10⟩
  have hS10 : Below w2.heap.size w2 w110 := below_trans hHeld hB10
  go_simp
  refine hK.out _ _ ?_ (fun hHeld => ?_)
  · exact hS10
  clear hK K
  try simp only [Act.put, List.setIfInBounds_toArray, List.set_cons_zero, List.set_cons_succ]
  refine wpAnyH_take (i := 35) (oi := ⟨some 58, _, _, _, _, _⟩) (v := ?_) rfl (by kernel_rfl) (by kernel_rfl) (by kernel_rfl) (fun _ _ _ h => h) (Or.inl ⟨by rfl, ?_⟩) (by assumption) ?_
  rotate_left
  · intro w hSw; (try dsimp only at hSw); go_simp; all_goals (with_reducible rfl)
  try simp only [Act.put, List.setIfInBounds_toArray, List.set_cons_zero, List.set_cons_succ]
  refine wpAnyH_take (i := 36) (oi := ⟨some 59, _, _, _, _, _⟩) (v := ?_) rfl (by kernel_rfl) (by kernel_rfl) (by kernel_rfl) (fun _ _ _ h => h) (Or.inl ⟨by rfl, ?_⟩) (by assumption) ?_
  rotate_left
  · intro w hSw; (try dsimp only at hSw); go_simp; all_goals (with_reducible rfl)
  try simp only [Act.put, List.setIfInBounds_toArray, List.set_cons_zero, List.set_cons_succ]
  refine wpAnyH_take (i := 37) (oi := ⟨some 60, _, _, _, _, _⟩) (v := ?_) rfl (by kernel_rfl) (by kernel_rfl) (by kernel_rfl) (fun _ _ _ h => h) (Or.inl ⟨by rfl, ?_⟩) (by assumption) ?_
  rotate_left
  · intro w hSw; (try dsimp only at hSw); go_simp; all_goals (with_reducible rfl)
  try simp only [Act.put, List.setIfInBounds_toArray, List.set_cons_zero, List.set_cons_succ]
  refine wpAnyH_take (i := 38) (oi := ⟨some 61, _, _, _, _, _⟩) (v := ?_) rfl (by kernel_rfl) (by kernel_rfl) (by kernel_rfl) (fun _ _ _ h => h) (Or.inl ⟨by rfl, ?_⟩) (by assumption) ?_
  rotate_left
  · intro w hSw; (try dsimp only at hSw); go_simp; all_goals (with_reducible rfl)
  try simp only [Act.put, List.setIfInBounds_toArray, List.set_cons_zero, List.set_cons_succ]
  refine wpAnyH_ready (rs := [39, 40]) (by kernel_rfl) (by simp) ?_
  refine AllReadyH.cons (o := ⟨some 62, _, _, _, _, _⟩) rfl (fun K hK => ?_) (AllReadyH.cons (o := ⟨some 63, _, _, _, _, _⟩) rfl (fun K hK => ?_) AllReadyH.nil)
  · go_simp
    refine (aw_keys _ (HT2.out.below hHeld)).mono ?_
    rintro e w111 ⟨ko, kc, rfl, hK5, hB11⟩
    have hS11 : Below w2.heap.size w2 w111 := below_trans hHeld hB11
    go_simp
    refine hK.out _ _ ?_ (fun hHeld => ?_)
    · exact hS11
    clear hK K
    try simp only [Act.put, List.setIfInBounds_toArray, List.set_cons_zero, List.set_cons_succ]
    refine wpAnyH_ready (rs := [40]) (by kernel_rfl) (by simp) ?_
    refine AllReadyH.cons (o := ⟨some 63, _, _, _, _, _⟩) rfl (fun K hK => ?_) AllReadyH.nil
    go_simp
    refine hK.out _ _ ?_ (fun hHeld => ?_)
    · exact Below.alloc hHeld (Below.size hHeld) _
    clear hK K
    try simp only [Act.put, List.setIfInBounds_toArray, List.set_cons_zero, List.set_cons_succ]
    refine wpAnyH_ready (rs := [41]) (by kernel_rfl) (by simp) ?_
    refine AllReadyH.cons (o := ⟨some 64, _, _, _, _, _⟩) rfl (fun K hK => ?_) AllReadyH.nil
    go_simp
    refine (lkeys_walk (l := [2, 5]) (by simp [maxLen]) (hK5.below (below_alloc _ _)) (sl_two _ _ (by simp) 2 5 _)).mono ?_
    rintro e w113 ⟨rfl, hB13⟩
    have hS13 : Below w2.heap.size w2 w113 := below_trans hHeld hB13
    go_simp
    refine hK.out _ _ ?_ (fun hHeld => ?_)
    · exact hS13
    clear hK K
    try simp only [Act.put, List.setIfInBounds_toArray, List.set_cons_zero, List.set_cons_succ]
    refine wpAnyH_take (i := 42) (oi := ⟨some 65, _, _, _, _, _⟩) (v := ?_) rfl (by kernel_rfl) (by kernel_rfl) (by kernel_rfl) (fun _ _ _ h => h) (Or.inl ⟨by rfl, ?_⟩) (by assumption) ?_
    rotate_left
    · intro w hSw; (try dsimp only at hSw); go_simp; all_goals (with_reducible rfl)
    try simp only [Act.put, List.setIfInBounds_toArray, List.set_cons_zero, List.set_cons_succ]
    refine wpAnyH_take (i := 43) (oi := ⟨some 0, _, _, _, _, _⟩) (v := ?_) rfl (by kernel_rfl) (by kernel_rfl) (by kernel_rfl) (fun _ _ _ h => h) (Or.inl ⟨by rfl, ?_⟩) (by assumption) ?_
    rotate_left
    · intro w hSw; (try dsimp only at hSw); go_simp; all_goals (with_reducible rfl)
    try simp only [Act.put, List.setIfInBounds_toArray, List.set_cons_zero]
    refine wpAnyH_done (by kernel_rfl) ?_ _
    refine NoPanic.normal ?_
    go_wp2_with fail
    go_ret
    exact ⟨rfl, below_trans HB2.out hHeld⟩
  · go_simp
    refine hK.out _ _ ?_ (fun hHeld => ?_)
    · exact Below.alloc hHeld (Below.size hHeld) _
    clear hK K
    try simp only [Act.put, List.setIfInBounds_toArray, List.set_cons_zero, List.set_cons_succ]
    refine wpAnyH_ready (rs := [39]) (by kernel_rfl) (by simp) ?_
    refine AllReadyH.cons (o := ⟨some 62, _, _, _, _, _⟩) rfl (fun K hK => ?_) AllReadyH.nil
    go_simp
    refine (aw_keys _ (HT2.out.below hHeld)).mono ?_
    rintro e w115 ⟨ko, kc, rfl, hK5, hB15⟩
    have hS15 : Below w2.heap.size w2 w115 := below_trans hHeld hB15
    go_simp
    refine hK.out _ _ ?_ (fun hHeld => ?_)
    · exact hS15
    clear hK K
    try simp only [Act.put, List.setIfInBounds_toArray, List.set_cons_zero, List.set_cons_succ]
    refine wpAnyH_ready (rs := [41]) (by kernel_rfl) (by simp) ?_
    refine AllReadyH.cons (o := ⟨some 64, _, _, _, _, _⟩) rfl (fun K hK => ?_) AllReadyH.nil
    go_simp
    refine (lkeys_walk (l := [2, 5]) (by simp [maxLen]) hK5 ((sl_two _ _ (by simp) 2 5 _).below hB15)).mono ?_
    rintro e w116 ⟨rfl, hB16⟩
    have hS16 : Below w2.heap.size w2 w116 := below_trans hHeld hB16
    go_simp
    refine hK.out _ _ ?_ (fun hHeld => ?_)
    · exact hS16
    clear hK K
    try simp only [Act.put, List.setIfInBounds_toArray, List.set_cons_zero, List.set_cons_succ]
    refine wpAnyH_take (i := 42) (oi := ⟨some 65, _, _, _, _, _⟩) (v := ?_) rfl (by kernel_rfl) (by kernel_rfl) (by kernel_rfl) (fun _ _ _ h => h) (Or.inl ⟨by rfl, ?_⟩) (by assumption) ?_
    rotate_left
    · intro w hSw; (try dsimp only at hSw); go_simp; all_goals (with_reducible rfl)
    try simp only [Act.put, List.setIfInBounds_toArray, List.set_cons_zero, List.set_cons_succ]
    refine wpAnyH_take (i := 43) (oi := ⟨some 0, _, _, _, _, _⟩) (v := ?_) rfl (by kernel_rfl) (by kernel_rfl) (by kernel_rfl) (fun _ _ _ h => h) (Or.inl ⟨by rfl, ?_⟩) (by assumption) ?_
    rotate_left
    · intro w hSw; (try dsimp only at hSw); go_simp; all_goals (with_reducible rfl)
    try simp only [Act.put, List.setIfInBounds_toArray, List.set_cons_zero]
    refine wpAnyH_done (by kernel_rfl) ?_ _
    refine NoPanic.normal ?_
    go_wp2_with fail
    go_ret
    exact ⟨rfl, below_trans HB2.out hHeld⟩
end Go.Proofs.Ytfcpooihihklaab
