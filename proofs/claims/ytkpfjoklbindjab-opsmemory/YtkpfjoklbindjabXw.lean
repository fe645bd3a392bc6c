/- The statements' own first question: answers that the document fixes by number. -/
import Derived.Test.YtkpfjoklbindjabXo
namespace Go.Proofs.Ytkpfjoklbindjab
open Ieee Go.RowKit
attribute [local go_sem] run_store_float

theorem ok_small {K N : Int} {X : Nat} (h : -100 ≤ K ∧ K ≤ 100 ∧ -100 ≤ N ∧ N ≤ 100) (hX : X < 18446744073709551616) : Stp.ok ⟨K, N, X⟩ := ⟨⟨by simp only; omega, by simp only; omega⟩, ⟨by simp only; omega, by simp only; omega⟩, hX⟩
theorem aw1 : runS [⟨10, 7, 0⟩] ⟨1, 4613712638259704627⟩ = (1, ⟨1, 4613937818241073152⟩) := by kernel_rfl
theorem aw2 : runS [⟨10, 7, 0⟩] ⟨1, 4602678819172646912⟩ = (3, ⟨0, 0⟩) := by kernel_rfl
theorem aw3 : oneS ⟨1, 0, 4611686018427387904⟩ ⟨0, 4613937818241073152⟩ = (2, ⟨0, 0⟩) := by kernel_rfl
theorem aw4 : runS [⟨12, 0, 0⟩] ⟨5, 0⟩ = (1, ⟨21, 0⟩) := by kernel_rfl
theorem aw5 : chkI [⟨13, 0, 0⟩] = 30 := by kernel_rfl
theorem aw6 : sameB ⟨1, 4613937818241073152⟩ ⟨1, 4613937818241073152⟩ = true := by kernel_rfl

theorem rec_new {w w1 w2 : World} {k x : Nat} {t : TypeId} (h : w1.alloc (Obj.cells #[Value.int IntKind.u64 k, Value.float FloatKind.f64 x] t) = w2) (hB : Below w.heap.size w w1) :
    Hid (w2.heap.size = w1.heap.size + 1) ∧ Hid (RB w2 w1.heap.size k x) ∧ Hid (Below w.heap.size w w2) := by
  subst h
  refine ⟨by simp [Hid, go_sem], ⟨?_, ?_, ?_, ?_⟩, below_trans hB (below_alloc _ _)⟩
  all_goals simp [go_sem]

theorem awake_walk (w : World) :
    Calls Try.prog 5 #[] w fun e w' => e = .returned (.bool true) ∧ Below w.heap.size w w' := by
  go_enter Try.func5, Try.ntmps5
  go_wp2_with fail
  refine (run_walk ⟨1, 4613712638259704627⟩ ⟨by simp, by simp⟩ (ov_one w ⟨10, 7, 0⟩ (ok_small (by simp) (by simp)) _)).mono ?_
  rw [aw1]
  rintro e w1 ⟨rfl, hB⟩
  have HB1 : Hid (Below w.heap.size w w1) := below_trans (below_alloc _ _) hB
  clear hB
  go_wp2_with fail
  generalize hg : w1.alloc (Obj.cells #[Value.int IntKind.u64 1, Value.float FloatKind.f64 4613937818241073152] 25) = w2
  obtain ⟨HS2, HR2, HB2⟩ := rec_new hg HB1.out
  clear hg
  rw [← HS2.out]
  refine (run_walk ⟨1, 4602678819172646912⟩ ⟨by simp, by simp⟩ (ov_one w2 ⟨10, 7, 0⟩ (ok_small (by simp) (by simp)) _)).mono ?_
  rw [aw2]
  rintro e w3 ⟨rfl, hB⟩
  have HB3 : Hid (Below w2.heap.size w2 w3) := below_trans (below_alloc _ _) hB
  have HR3 : Hid (RB w3 w1.heap.size 1 4613937818241073152) := HR2.out.below HB3.out (cell_lt HR2.out.c0)
  clear hB
  go_wp2_with fail
  generalize hg : w3.alloc (Obj.cells #[Value.int IntKind.u64 0, Value.float FloatKind.f64 0] 25) = w4
  have HB4 : Hid (Below w.heap.size w w4) := by show Below _ _ _; rw [← hg]; exact below_trans (below_trans HB2.out HB3.out) (below_alloc _ _)
  have HR4 : Hid (RB w4 w1.heap.size 1 4613937818241073152) := by show RB _ _ _ _; rw [← hg]; exact HR3.out.alloc _
  clear hg
  refine (one_walk ⟨1, 0, 4611686018427387904⟩ ⟨0, 4613937818241073152⟩ (ok_small (by simp) (by simp)) ⟨by simp, by simp⟩ _).mono ?_
  rw [aw3]
  rintro e w5 ⟨rfl, hB⟩
  have HR5 : Hid (RB w5 w1.heap.size 1 4613937818241073152) := HR4.out.below hB (cell_lt HR4.out.c0)
  have HB5 : Hid (Below w.heap.size w w5) := below_trans HB4.out hB
  clear hB
  go_wp2_with fail
  generalize hg : w5.alloc (Obj.cells #[Value.int IntKind.u64 0, Value.float FloatKind.f64 0] 25) = w6
  have HS6 : Hid (w6.heap.size = w5.heap.size + 1) := by show _ = _; rw [← hg]; simp [go_sem]
  have HB6 : Hid (Below w.heap.size w w6) := by show Below _ _ _; rw [← hg]; exact below_trans HB5.out (below_alloc _ _)
  have HR6 : Hid (RB w6 w1.heap.size 1 4613937818241073152) := by show RB _ _ _ _; rw [← hg]; exact HR5.out.alloc _
  clear hg
  rw [← HS6.out]
  refine (key_walk ⟨5, 0⟩ ⟨by simp, by simp⟩ (ov_one w6 ⟨12, 0, 0⟩ (ok_small (by simp) (by simp)) _)).mono ?_
  rw [aw4]
  rintro e w7 ⟨rfl, hB⟩
  have HB7' : Hid (Below w6.heap.size w6 w7) := below_trans (below_alloc _ _) hB
  have HR7 : Hid (RB w7 w1.heap.size 1 4613937818241073152) := HR6.out.below HB7'.out (cell_lt HR6.out.c0)
  have HB7 : Hid (Below w.heap.size w w7) := below_trans HB6.out HB7'.out
  clear hB
  obtain ⟨c0, c1, z0, z1⟩ := HR7.out
  go_wp2_with fail
  refine (same_walk ⟨1, 4613937818241073152⟩ ⟨1, 4613937818241073152⟩ _).mono ?_
  rw [aw6]
  rintro e w8 ⟨rfl, hB8⟩
  have HB8 : Hid (Below w.heap.size w w8) := below_trans HB7.out hB8
  clear hB8 c0 c1 z0 z1
  go_wp2_with fail
  obtain ⟨⟨ao, cap, hv, h1, h2, h3, h4⟩, h5⟩ := ov_one w8 ⟨13, 0, 0⟩ (ok_small (by simp) (by simp)) 30
  simp only [List.length_cons, List.length_nil, Value.slice.injEq] at hv
  obtain ⟨rfl, _, rfl⟩ := hv
  refine (check_walk (l := [⟨13, 0, 0⟩]) (by simp [maxLen]) h4).mono ?_
  rw [aw5]
  rintro e w9 ⟨rfl, hB9⟩
  have HB9 : Hid (Below w.heap.size w w9) := below_trans HB8.out (below_trans (below_alloc _ _) hB9)
  clear hB9 h4
  go_wp2_with fail
  go_ret
  exact ⟨rfl, HB9.out⟩
end Go.Proofs.Ytkpfjoklbindjab
