/- awake. -/
import Derived.Test.YtlblpjookbomjaaOi

namespace Go.Proofs.Ytlblpjookbomjaa

open Go.RowKit



theorem size_allocC (w : World) (o : Obj) : (w.alloc o).heap.size = w.heap.size + 1 := by simp [go_sem]


def pl8 : Pn := ⟨1, 3, 2, 1, 4, 2, 8, []⟩
def pl7 : Pn := ⟨1, 3, 2, 1, 4, 2, 7, []⟩
def kv (k : Nat) : Pr := ⟨k, ⟨false, 0⟩⟩
theorem ov_nil (w : World) : Ov w (.slice none 0 0) [] := ⟨⟨none, 0, rfl, Nat.le_refl _, by simp [maxLen], fun _ => rfl, fun i hi => by simp at hi⟩, by simp⟩
theorem qv_nil (w : World) : Qv w (.slice none 0 0) [] := ⟨⟨none, 0, rfl, Nat.le_refl _, by simp [maxLen], fun _ => rfl, fun i hi => by simp at hi⟩, by simp⟩
theorem qv_lit (w : World) (e : TypeId) (l : List Pr) (hl : l.length ≤ 100) (hok : okT l) : Qv (w.alloc (.cells (flatQ l).toArray e)) (.slice (some ⟨w.heap.size, 0, none⟩) l.length l.length) l := by
  refine ⟨⟨_, l.length, rfl, Nat.le_refl _, by simp only [maxLen]; omega, by simp, fun i hi => ?_⟩, hok⟩
  obtain ⟨a, b, c⟩ := flatQ_get l i hi
  have hg : (w.alloc (.cells (flatQ l).toArray e)).heap[w.heap.size]? = some (.cells (flatQ l).toArray e (0, 0)) := heap_alloc_new w _
  refine ⟨w.heap.size, 0, rfl, ?_, ?_, ?_⟩
  all_goals (rw [Nat.zero_add, cell_of_row _ _ _ _ _ (0, 0) hg]; simpa using (by assumption))
theorem kv_ok {k : Nat} (h : k < 18446744073709551616) : (kv k).ok := ⟨h, show 0 < 18446744073709551616 by omega⟩
def t4 : List Pr := [kv 3, kv 1, kv 4, kv 6]
theorem t4_ok : okT t4 := by
  intro q hq
  simp [t4] at hq
  rcases hq with rfl | rfl | rfl | rfl <;> exact kv_ok (by omega)
theorem two_ok {a b : Nat} (ha : a < 100) (hb : b < 100) : okT [kv a, kv b] := by
  intro q hq
  simp at hq
  rcases hq with rfl | rfl <;> exact kv_ok (by omega)
/-- The lists that the document gives. -/
theorem lq_doc (w : World) : Lq (((w.alloc (.cells (flatQ [kv 3, kv 6]).toArray 43)).alloc (.cells (flatQ [kv 1, kv 4]).toArray 43)).alloc (.cells #[.slice (some ⟨w.heap.size, 0, none⟩) 2 2, .slice (some ⟨w.heap.size + 1, 0, none⟩) 2 2, .slice none 0 0] 34))
    (.slice (some ⟨w.heap.size + 2, 0, none⟩) 3 3) 3 (dealF pl8 t4) := by
  have q0 := ((qv_lit w 43 [kv 3, kv 6] (by simp) (two_ok (by omega) (by omega))).below (below_alloc _ (.cells (flatQ [kv 1, kv 4]).toArray 43))).below (below_alloc _ (.cells #[.slice (some ⟨w.heap.size, 0, none⟩) 2 2, .slice (some ⟨w.heap.size + 1, 0, none⟩) 2 2, .slice none 0 0] 34))
  have q1 := (qv_lit (w.alloc (.cells (flatQ [kv 3, kv 6]).toArray 43)) 43 [kv 1, kv 4] (by simp) (two_ok (by omega) (by omega))).below (below_alloc _ (.cells #[.slice (some ⟨w.heap.size, 0, none⟩) 2 2, .slice (some ⟨w.heap.size + 1, 0, none⟩) 2 2, .slice none 0 0] 34))
  refine ⟨_, 3, rfl, Nat.le_refl _, by simp [maxLen], fun i hi => ?_⟩
  have h3 : i = 0 ∨ i = 1 ∨ i = 2 := by omega
  rcases h3 with rfl | rfl | rfl
  · exact ⟨w.heap.size + 2, 0, .slice (some ⟨w.heap.size, 0, none⟩) 2 2, rfl, by simp [go_sem], q0⟩
  · refine ⟨w.heap.size + 2, 0, .slice (some ⟨w.heap.size + 1, 0, none⟩) 2 2, rfl, by simp [go_sem], ?_⟩
    rw [size_allocC] at q1
    exact q1
  · exact ⟨w.heap.size + 2, 0, .slice none 0 0, rfl, by simp [go_sem], qv_nil _⟩


set_option maxRecDepth 20000 in
theorem awake_walk (w : World) : Calls Try.prog 8 #[] w fun e w' => e = .returned (.bool true) ∧ Below w.heap.size w w' := by
  obtain ⟨w1, hw1⟩ : ∃ w1, w1 = (w.alloc (Obj.cells #[.int .i64 1, .int .i64 3, .int .i64 2, .slice none 0 0, .int .i64 1, .int .i64 4, .int .i64 2, .int .i64 8] 24)).alloc (Obj.cells #[.int .i64 1, .int .i64 3, .int .i64 2, .slice none 0 0, .int .i64 1, .int .i64 4, .int .i64 2, .int .i64 7] 24) := ⟨_, rfl⟩
  have HB1 : Hid (Below w.heap.size w w1) := by rw [hw1]; exact below_trans (below_alloc _ _) (below_alloc _ _)
  have HX : Hid (Bx w1 w.heap.size pl8 (.slice none 0 0)) := by
    rw [hw1]
    exact (box_new w pl8 (.slice none 0 0)).below (below_alloc _ _) (by simp)
  have HY : Hid (Bx w1 (w.heap.size + 1) pl7 (.slice none 0 0)) := by
    rw [hw1]
    have h := box_new (w.alloc (Obj.cells #[.int .i64 1, .int .i64 3, .int .i64 2, .slice none 0 0, .int .i64 1, .int .i64 4, .int .i64 2, .int .i64 8] 24)) pl7 (.slice none 0 0)
    rw [size_allocC] at h
    exact h
  have HL : Hid (w.heap.size + 2 ≤ w1.heap.size) := by show _ ≤ _; rw [hw1]; simp
  go_enter Try.func8, Try.ntmps8
  go_upto_region 4 with (fail)
  rw [← hw1]
  clear hw1
  obtain ⟨c0, c1, c2, c3, c4, c5, c6, c7⟩ := HX.out
  obtain ⟨d0, d1, d2, d3, d4, d5, d6, d7⟩ := HY.out
  dsimp only [pl8, pl7] at c0 c1 c2 c4 c5 c6 c7 d0 d1 d2 d4 d5 d6 d7
  go_wp2_with fail
  refine (pcheck_walk (p := pl8) (ov_nil _)).mono ?_
  rw [show pl8.chk = 0 by decide]
  rintro e w2 ⟨rfl, hB2⟩
  have HR2 : Hid (Below w1.heap.size w1 w2) := hB2
  clear hB2 c0 c1 c2 c3 c4 c5 c6 c7 d0 d1 d2 d3 d4 d5 d6 d7
  obtain ⟨c0, c1, c2, c3, c4, c5, c6, c7⟩ := HX.out.below HR2.out (by have := HL.out; omega)
  obtain ⟨d0, d1, d2, d3, d4, d5, d6, d7⟩ := HY.out.below HR2.out (by have := HL.out; omega)
  dsimp only [pl8, pl7] at c0 c1 c2 c4 c5 c6 c7 d0 d1 d2 d4 d5 d6 d7
  go_wp2_with fail
  refine (pcheck_walk (p := pl7) (ov_nil _)).mono ?_
  rw [show pl7.chk = 140 by decide]
  rintro e w3 ⟨rfl, hB3⟩
  have HR3 : Hid (Below w1.heap.size w1 w3) := below_trans HR2.out hB3
  clear hB3 c0 c1 c2 c3 c4 c5 c6 c7 d0 d1 d2 d3 d4 d5 d6 d7
  obtain ⟨c0, c1, c2, c3, c4, c5, c6, c7⟩ := HX.out.below HR3.out (by have := HL.out; omega)
  obtain ⟨d0, d1, d2, d3, d4, d5, d6, d7⟩ := HY.out.below HR3.out (by have := HL.out; omega)
  dsimp only [pl8, pl7] at c0 c1 c2 c4 c5 c6 c7 d0 d1 d2 d4 d5 d6 d7
  go_wp2_with fail
  refine (nodes_walk (p := pl8) (ov_nil _)).mono ?_
  rw [show pl8.nodes = 6 by decide]
  rintro e w4 ⟨rfl, hB4⟩
  have HR4 : Hid (Below w1.heap.size w1 w4) := below_trans HR3.out hB4
  clear hB4 c0 c1 c2 c3 c4 c5 c6 c7 d0 d1 d2 d3 d4 d5 d6 d7
  obtain ⟨c0, c1, c2, c3, c4, c5, c6, c7⟩ := HX.out.below HR4.out (by have := HL.out; omega)
  obtain ⟨d0, d1, d2, d3, d4, d5, d6, d7⟩ := HY.out.below HR4.out (by have := HL.out; omega)
  dsimp only [pl8, pl7] at c0 c1 c2 c4 c5 c6 c7 d0 d1 d2 d4 d5 d6 d7
  go_wp2_with fail
  refine (kind_walk (p := pl8) 0 (ov_nil _)).mono ?_
  rw [show pl8.kind 0 = 1 by decide]
  rintro e w5 ⟨rfl, hB5⟩
  have HR5 : Hid (Below w1.heap.size w1 w5) := below_trans HR4.out hB5
  clear hB5 c0 c1 c2 c3 c4 c5 c6 c7 d0 d1 d2 d3 d4 d5 d6 d7
  obtain ⟨c0, c1, c2, c3, c4, c5, c6, c7⟩ := HX.out.below HR5.out (by have := HL.out; omega)
  obtain ⟨d0, d1, d2, d3, d4, d5, d6, d7⟩ := HY.out.below HR5.out (by have := HL.out; omega)
  dsimp only [pl8, pl7] at c0 c1 c2 c4 c5 c6 c7 d0 d1 d2 d4 d5 d6 d7
  go_wp2_with fail
  refine (kind_walk (p := pl8) 2 (ov_nil _)).mono ?_
  rw [show pl8.kind 2 = 2 by decide]
  rintro e w6 ⟨rfl, hB6⟩
  have HR6 : Hid (Below w1.heap.size w1 w6) := below_trans HR5.out hB6
  clear hB6 c0 c1 c2 c3 c4 c5 c6 c7 d0 d1 d2 d3 d4 d5 d6 d7
  obtain ⟨c0, c1, c2, c3, c4, c5, c6, c7⟩ := HX.out.below HR6.out (by have := HL.out; omega)
  obtain ⟨d0, d1, d2, d3, d4, d5, d6, d7⟩ := HY.out.below HR6.out (by have := HL.out; omega)
  dsimp only [pl8, pl7] at c0 c1 c2 c4 c5 c6 c7 d0 d1 d2 d4 d5 d6 d7
  go_wp2_with fail
  refine (kind_walk (p := pl8) 3 (ov_nil _)).mono ?_
  rw [show pl8.kind 3 = 3 by decide]
  rintro e w7 ⟨rfl, hB7⟩
  have HR7 : Hid (Below w1.heap.size w1 w7) := below_trans HR6.out hB7
  clear hB7 c0 c1 c2 c3 c4 c5 c6 c7 d0 d1 d2 d3 d4 d5 d6 d7
  obtain ⟨c0, c1, c2, c3, c4, c5, c6, c7⟩ := HX.out.below HR7.out (by have := HL.out; omega)
  obtain ⟨d0, d1, d2, d3, d4, d5, d6, d7⟩ := HY.out.below HR7.out (by have := HL.out; omega)
  dsimp only [pl8, pl7] at c0 c1 c2 c4 c5 c6 c7 d0 d1 d2 d4 d5 d6 d7
  go_wp2_with fail
  refine (worker_walk (p := pl8) 5 (by omega) (ov_nil _)).mono ?_
  rw [show pl8.worker 5 = 2 by decide]
  rintro e w8 ⟨rfl, hB8⟩
  have HR8 : Hid (Below w1.heap.size w1 w8) := below_trans HR7.out hB8
  clear hB8 c0 c1 c2 c3 c4 c5 c6 c7 d0 d1 d2 d3 d4 d5 d6 d7
  obtain ⟨c0, c1, c2, c3, c4, c5, c6, c7⟩ := HX.out.below HR8.out (by have := HL.out; omega)
  obtain ⟨d0, d1, d2, d3, d4, d5, d6, d7⟩ := HY.out.below HR8.out (by have := HL.out; omega)
  dsimp only [pl8, pl7] at c0 c1 c2 c4 c5 c6 c7 d0 d1 d2 d4 d5 d6 d7
  go_wp2_with fail
  refine (store_walk (p := pl8) 7 (by omega) (ov_nil _)).mono ?_
  rw [show pl8.store 7 = 4 by decide]
  rintro e w9 ⟨rfl, hB9⟩
  have HR9 : Hid (Below w1.heap.size w1 w9) := below_trans HR8.out hB9
  clear hB9 c0 c1 c2 c3 c4 c5 c6 c7 d0 d1 d2 d3 d4 d5 d6 d7
  obtain ⟨c0, c1, c2, c3, c4, c5, c6, c7⟩ := HX.out.below HR9.out (by have := HL.out; omega)
  obtain ⟨d0, d1, d2, d3, d4, d5, d6, d7⟩ := HY.out.below HR9.out (by have := HL.out; omega)
  dsimp only [pl8, pl7] at c0 c1 c2 c4 c5 c6 c7 d0 d1 d2 d4 d5 d6 d7
  go_wp2_with fail
  refine (deal_walk (p := pl8) (ov_nil _) (qv_lit w9 43 t4 (by simp [t4]) t4_ok) (by simp [t4])).mono ?_
  rintro e w10 ⟨v, rfl, ⟨vs, hD, _⟩, hB10⟩
  have HR10 : Hid (Below w1.heap.size w1 w10) := below_trans HR9.out (below_trans (below_alloc _ _) hB10)
  have HLQ : Hid (Lq w10 v 3 (dealF pl8 t4)) := hD.lq (fun i _ => deal_ok t4_ok i)
  obtain ⟨vo, vc, hv, _, _⟩ := row_form hD.row
  subst hv
  clear hD hB10 c0 c1 c2 c3 c4 c5 c6 c7 d0 d1 d2 d3 d4 d5 d6 d7
  go_wp2_with fail
  refine (lists_walk (n := 3) (ls := dealF pl8 t4) (HLQ.out.below (below_trans (below_trans (below_alloc _ _) (below_alloc _ _)) (below_alloc _ _))) (lq_doc w10)).mono ?_
  rintro e w11 ⟨rfl, hB11⟩
  go_wp2_with fail
  go_ret
  exact ⟨rfl, below_trans HB1.out (below_trans HR10.out (below_trans (below_trans (below_trans (below_alloc _ _) (below_alloc _ _)) (below_alloc _ _)) hB11))⟩
end Go.Proofs.Ytlblpjookbomjaa


