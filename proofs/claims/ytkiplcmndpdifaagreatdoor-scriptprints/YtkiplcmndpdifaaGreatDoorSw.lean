/- Writing: which steps can't be written. Printed by gen_sw21.py. -/
import Derived.Test.YtkiplcmndpdifaaGreatDoorSv

namespace Go.Proofs.YtkiplcmndpdifaaGreatDoor

open Go.RowKit

attribute [local go_sem] run_bits


set_option maxHeartbeats 4000000 in
theorem bare_13 (s : Sp) (w : World) : Calls Tryz.prog 36 #[.int .i64 13, .agg #[.int .i64 s.K, .int .i64 s.D, .int .i64 s.N, .int .u64 s.k, .float .f64 s.x]] w fun e w' => e = .returned (.bool (bareB 13 s)) ∧ Below w.heap.size w w' := by
  have b1 : bits .and .i64 13 1 = 1 := by decide +kernel
  have b2 : bits .and .i64 13 2 = 0 := by decide +kernel
  have b4 : bits .and .i64 13 4 = 4 := by decide +kernel
  have b8 : bits .and .i64 13 8 = 8 := by decide +kernel
  by_cases hk : s.N = 0
  · have qk : (s.N == 0) = true := by rw [beq_iff_eq]; omega
    obtain ⟨R, hR⟩ : ∃ R, R = bareB 13 s := ⟨_, rfl⟩
    rw [← hR]
    have HR : Hid (R = true) := by
      show _ = _
      rw [hR]
      simp [bareB, fN, fK, fU, fV, hk]
    clear hR hk
    go_enter Tryz.func36, Tryz.ntmps36
    go_wp2_with fail
    go_ret
    rw [HR.out]
    exact ⟨rfl, below_alloc _ _⟩
  · have qk : (s.N == 0) = false := by rw [beq_eq_false_iff_ne]; omega
    obtain ⟨R, hR⟩ : ∃ R, R = bareB 13 s := ⟨_, rfl⟩
    rw [← hR]
    have HR : Hid (R = false) := by
      show _ = _
      rw [hR]
      simp [bareB, fN, fK, fU, fV, hk]
    clear hR hk
    go_enter Tryz.func36, Tryz.ntmps36
    go_wp2_with fail
    go_ret
    rw [HR.out]
    exact ⟨rfl, below_alloc _ _⟩


set_option maxHeartbeats 4000000 in
theorem bare_3 (s : Sp) (w : World) : Calls Tryz.prog 36 #[.int .i64 3, .agg #[.int .i64 s.K, .int .i64 s.D, .int .i64 s.N, .int .u64 s.k, .float .f64 s.x]] w fun e w' => e = .returned (.bool (bareB 3 s)) ∧ Below w.heap.size w w' := by
  have b1 : bits .and .i64 3 1 = 1 := by decide +kernel
  have b2 : bits .and .i64 3 2 = 2 := by decide +kernel
  have b4 : bits .and .i64 3 4 = 0 := by decide +kernel
  have b8 : bits .and .i64 3 8 = 0 := by decide +kernel
  by_cases hu : s.k = 0
  · have qu : ((s.k : Int) == 0) = true := by rw [beq_iff_eq]; omega
    by_cases hv : s.x = 0
    · have qv : ((s.x : Int) == 0) = true := by rw [beq_iff_eq]; omega
      obtain ⟨R, hR⟩ : ∃ R, R = bareB 3 s := ⟨_, rfl⟩
      rw [← hR]
      have HR : Hid (R = true) := by
        show _ = _
        rw [hR]
        simp [bareB, fN, fK, fU, fV, hu, hv]
      clear hR hu hv
      go_enter Tryz.func36, Tryz.ntmps36
      go_wp2_with fail
      go_ret
      rw [HR.out]
      exact ⟨rfl, below_alloc _ _⟩
    · have qv : ((s.x : Int) == 0) = false := by rw [beq_eq_false_iff_ne]; omega
      obtain ⟨R, hR⟩ : ∃ R, R = bareB 3 s := ⟨_, rfl⟩
      rw [← hR]
      have HR : Hid (R = false) := by
        show _ = _
        rw [hR]
        simp [bareB, fN, fK, fU, fV, hu, hv]
      clear hR hu hv
      go_enter Tryz.func36, Tryz.ntmps36
      go_wp2_with fail
      go_ret
      rw [HR.out]
      exact ⟨rfl, below_alloc _ _⟩
  · have qu : ((s.k : Int) == 0) = false := by rw [beq_eq_false_iff_ne]; omega
    obtain ⟨R, hR⟩ : ∃ R, R = bareB 3 s := ⟨_, rfl⟩
    rw [← hR]
    have HR : Hid (R = false) := by
      show _ = _
      rw [hR]
      simp [bareB, fN, fK, fU, fV, hu]
    clear hR hu
    go_enter Tryz.func36, Tryz.ntmps36
    go_wp2_with fail
    go_ret
    rw [HR.out]
    exact ⟨rfl, below_alloc _ _⟩


set_option maxHeartbeats 4000000 in
theorem bare_0 (s : Sp) (w : World) : Calls Tryz.prog 36 #[.int .i64 0, .agg #[.int .i64 s.K, .int .i64 s.D, .int .i64 s.N, .int .u64 s.k, .float .f64 s.x]] w fun e w' => e = .returned (.bool (bareB 0 s)) ∧ Below w.heap.size w w' := by
  have b1 : bits .and .i64 0 1 = 0 := by decide +kernel
  have b2 : bits .and .i64 0 2 = 0 := by decide +kernel
  have b4 : bits .and .i64 0 4 = 0 := by decide +kernel
  have b8 : bits .and .i64 0 8 = 0 := by decide +kernel
  by_cases hn : s.D = 0
  · have qn : (s.D == 0) = true := by rw [beq_iff_eq]; omega
    by_cases hk : s.N = 0
    · have qk : (s.N == 0) = true := by rw [beq_iff_eq]; omega
      by_cases hu : s.k = 0
      · have qu : ((s.k : Int) == 0) = true := by rw [beq_iff_eq]; omega
        by_cases hv : s.x = 0
        · have qv : ((s.x : Int) == 0) = true := by rw [beq_iff_eq]; omega
          obtain ⟨R, hR⟩ : ∃ R, R = bareB 0 s := ⟨_, rfl⟩
          rw [← hR]
          have HR : Hid (R = true) := by
            show _ = _
            rw [hR]
            simp [bareB, fN, fK, fU, fV, hn, hk, hu, hv]
          clear hR hn hk hu hv
          go_enter Tryz.func36, Tryz.ntmps36
          go_wp2_with fail
          go_ret
          rw [HR.out]
          exact ⟨rfl, below_alloc _ _⟩
        · have qv : ((s.x : Int) == 0) = false := by rw [beq_eq_false_iff_ne]; omega
          obtain ⟨R, hR⟩ : ∃ R, R = bareB 0 s := ⟨_, rfl⟩
          rw [← hR]
          have HR : Hid (R = false) := by
            show _ = _
            rw [hR]
            simp [bareB, fN, fK, fU, fV, hn, hk, hu, hv]
          clear hR hn hk hu hv
          go_enter Tryz.func36, Tryz.ntmps36
          go_wp2_with fail
          go_ret
          rw [HR.out]
          exact ⟨rfl, below_alloc _ _⟩
      · have qu : ((s.k : Int) == 0) = false := by rw [beq_eq_false_iff_ne]; omega
        obtain ⟨R, hR⟩ : ∃ R, R = bareB 0 s := ⟨_, rfl⟩
        rw [← hR]
        have HR : Hid (R = false) := by
          show _ = _
          rw [hR]
          simp [bareB, fN, fK, fU, fV, hn, hk, hu]
        clear hR hn hk hu
        go_enter Tryz.func36, Tryz.ntmps36
        go_wp2_with fail
        go_ret
        rw [HR.out]
        exact ⟨rfl, below_alloc _ _⟩
    · have qk : (s.N == 0) = false := by rw [beq_eq_false_iff_ne]; omega
      obtain ⟨R, hR⟩ : ∃ R, R = bareB 0 s := ⟨_, rfl⟩
      rw [← hR]
      have HR : Hid (R = false) := by
        show _ = _
        rw [hR]
        simp [bareB, fN, fK, fU, fV, hn, hk]
      clear hR hn hk
      go_enter Tryz.func36, Tryz.ntmps36
      go_wp2_with fail
      go_ret
      rw [HR.out]
      exact ⟨rfl, below_alloc _ _⟩
  · have qn : (s.D == 0) = false := by rw [beq_eq_false_iff_ne]; omega
    obtain ⟨R, hR⟩ : ∃ R, R = bareB 0 s := ⟨_, rfl⟩
    rw [← hR]
    have HR : Hid (R = false) := by
      show _ = _
      rw [hR]
      simp [bareB, fN, fK, fU, fV, hn]
    clear hR hn
    go_enter Tryz.func36, Tryz.ntmps36
    go_wp2_with fail
    go_ret
    rw [HR.out]
    exact ⟨rfl, below_alloc _ _⟩


set_option maxHeartbeats 4000000 in
theorem bare_2 (s : Sp) (w : World) : Calls Tryz.prog 36 #[.int .i64 2, .agg #[.int .i64 s.K, .int .i64 s.D, .int .i64 s.N, .int .u64 s.k, .float .f64 s.x]] w fun e w' => e = .returned (.bool (bareB 2 s)) ∧ Below w.heap.size w w' := by
  have b1 : bits .and .i64 2 1 = 0 := by decide +kernel
  have b2 : bits .and .i64 2 2 = 2 := by decide +kernel
  have b4 : bits .and .i64 2 4 = 0 := by decide +kernel
  have b8 : bits .and .i64 2 8 = 0 := by decide +kernel
  by_cases hn : s.D = 0
  · have qn : (s.D == 0) = true := by rw [beq_iff_eq]; omega
    by_cases hu : s.k = 0
    · have qu : ((s.k : Int) == 0) = true := by rw [beq_iff_eq]; omega
      by_cases hv : s.x = 0
      · have qv : ((s.x : Int) == 0) = true := by rw [beq_iff_eq]; omega
        obtain ⟨R, hR⟩ : ∃ R, R = bareB 2 s := ⟨_, rfl⟩
        rw [← hR]
        have HR : Hid (R = true) := by
          show _ = _
          rw [hR]
          simp [bareB, fN, fK, fU, fV, hn, hu, hv]
        clear hR hn hu hv
        go_enter Tryz.func36, Tryz.ntmps36
        go_wp2_with fail
        go_ret
        rw [HR.out]
        exact ⟨rfl, below_alloc _ _⟩
      · have qv : ((s.x : Int) == 0) = false := by rw [beq_eq_false_iff_ne]; omega
        obtain ⟨R, hR⟩ : ∃ R, R = bareB 2 s := ⟨_, rfl⟩
        rw [← hR]
        have HR : Hid (R = false) := by
          show _ = _
          rw [hR]
          simp [bareB, fN, fK, fU, fV, hn, hu, hv]
        clear hR hn hu hv
        go_enter Tryz.func36, Tryz.ntmps36
        go_wp2_with fail
        go_ret
        rw [HR.out]
        exact ⟨rfl, below_alloc _ _⟩
    · have qu : ((s.k : Int) == 0) = false := by rw [beq_eq_false_iff_ne]; omega
      obtain ⟨R, hR⟩ : ∃ R, R = bareB 2 s := ⟨_, rfl⟩
      rw [← hR]
      have HR : Hid (R = false) := by
        show _ = _
        rw [hR]
        simp [bareB, fN, fK, fU, fV, hn, hu]
      clear hR hn hu
      go_enter Tryz.func36, Tryz.ntmps36
      go_wp2_with fail
      go_ret
      rw [HR.out]
      exact ⟨rfl, below_alloc _ _⟩
  · have qn : (s.D == 0) = false := by rw [beq_eq_false_iff_ne]; omega
    obtain ⟨R, hR⟩ : ∃ R, R = bareB 2 s := ⟨_, rfl⟩
    rw [← hR]
    have HR : Hid (R = false) := by
      show _ = _
      rw [hR]
      simp [bareB, fN, fK, fU, fV, hn]
    clear hR hn
    go_enter Tryz.func36, Tryz.ntmps36
    go_wp2_with fail
    go_ret
    rw [HR.out]
    exact ⟨rfl, below_alloc _ _⟩


set_option maxHeartbeats 4000000 in
theorem bare_1 (s : Sp) (w : World) : Calls Tryz.prog 36 #[.int .i64 1, .agg #[.int .i64 s.K, .int .i64 s.D, .int .i64 s.N, .int .u64 s.k, .float .f64 s.x]] w fun e w' => e = .returned (.bool (bareB 1 s)) ∧ Below w.heap.size w w' := by
  have b1 : bits .and .i64 1 1 = 1 := by decide +kernel
  have b2 : bits .and .i64 1 2 = 0 := by decide +kernel
  have b4 : bits .and .i64 1 4 = 0 := by decide +kernel
  have b8 : bits .and .i64 1 8 = 0 := by decide +kernel
  by_cases hk : s.N = 0
  · have qk : (s.N == 0) = true := by rw [beq_iff_eq]; omega
    by_cases hu : s.k = 0
    · have qu : ((s.k : Int) == 0) = true := by rw [beq_iff_eq]; omega
      by_cases hv : s.x = 0
      · have qv : ((s.x : Int) == 0) = true := by rw [beq_iff_eq]; omega
        obtain ⟨R, hR⟩ : ∃ R, R = bareB 1 s := ⟨_, rfl⟩
        rw [← hR]
        have HR : Hid (R = true) := by
          show _ = _
          rw [hR]
          simp [bareB, fN, fK, fU, fV, hk, hu, hv]
        clear hR hk hu hv
        go_enter Tryz.func36, Tryz.ntmps36
        go_wp2_with fail
        go_ret
        rw [HR.out]
        exact ⟨rfl, below_alloc _ _⟩
      · have qv : ((s.x : Int) == 0) = false := by rw [beq_eq_false_iff_ne]; omega
        obtain ⟨R, hR⟩ : ∃ R, R = bareB 1 s := ⟨_, rfl⟩
        rw [← hR]
        have HR : Hid (R = false) := by
          show _ = _
          rw [hR]
          simp [bareB, fN, fK, fU, fV, hk, hu, hv]
        clear hR hk hu hv
        go_enter Tryz.func36, Tryz.ntmps36
        go_wp2_with fail
        go_ret
        rw [HR.out]
        exact ⟨rfl, below_alloc _ _⟩
    · have qu : ((s.k : Int) == 0) = false := by rw [beq_eq_false_iff_ne]; omega
      obtain ⟨R, hR⟩ : ∃ R, R = bareB 1 s := ⟨_, rfl⟩
      rw [← hR]
      have HR : Hid (R = false) := by
        show _ = _
        rw [hR]
        simp [bareB, fN, fK, fU, fV, hk, hu]
      clear hR hk hu
      go_enter Tryz.func36, Tryz.ntmps36
      go_wp2_with fail
      go_ret
      rw [HR.out]
      exact ⟨rfl, below_alloc _ _⟩
  · have qk : (s.N == 0) = false := by rw [beq_eq_false_iff_ne]; omega
    obtain ⟨R, hR⟩ : ∃ R, R = bareB 1 s := ⟨_, rfl⟩
    rw [← hR]
    have HR : Hid (R = false) := by
      show _ = _
      rw [hR]
      simp [bareB, fN, fK, fU, fV, hk]
    clear hR hk
    go_enter Tryz.func36, Tryz.ntmps36
    go_wp2_with fail
    go_ret
    rw [HR.out]
    exact ⟨rfl, below_alloc _ _⟩


set_option maxHeartbeats 4000000 in
theorem bare_4 (s : Sp) (w : World) : Calls Tryz.prog 36 #[.int .i64 4, .agg #[.int .i64 s.K, .int .i64 s.D, .int .i64 s.N, .int .u64 s.k, .float .f64 s.x]] w fun e w' => e = .returned (.bool (bareB 4 s)) ∧ Below w.heap.size w w' := by
  have b1 : bits .and .i64 4 1 = 0 := by decide +kernel
  have b2 : bits .and .i64 4 2 = 0 := by decide +kernel
  have b4 : bits .and .i64 4 4 = 4 := by decide +kernel
  have b8 : bits .and .i64 4 8 = 0 := by decide +kernel
  by_cases hn : s.D = 0
  · have qn : (s.D == 0) = true := by rw [beq_iff_eq]; omega
    by_cases hk : s.N = 0
    · have qk : (s.N == 0) = true := by rw [beq_iff_eq]; omega
      by_cases hv : s.x = 0
      · have qv : ((s.x : Int) == 0) = true := by rw [beq_iff_eq]; omega
        obtain ⟨R, hR⟩ : ∃ R, R = bareB 4 s := ⟨_, rfl⟩
        rw [← hR]
        have HR : Hid (R = true) := by
          show _ = _
          rw [hR]
          simp [bareB, fN, fK, fU, fV, hn, hk, hv]
        clear hR hn hk hv
        go_enter Tryz.func36, Tryz.ntmps36
        go_wp2_with fail
        go_ret
        rw [HR.out]
        exact ⟨rfl, below_alloc _ _⟩
      · have qv : ((s.x : Int) == 0) = false := by rw [beq_eq_false_iff_ne]; omega
        obtain ⟨R, hR⟩ : ∃ R, R = bareB 4 s := ⟨_, rfl⟩
        rw [← hR]
        have HR : Hid (R = false) := by
          show _ = _
          rw [hR]
          simp [bareB, fN, fK, fU, fV, hn, hk, hv]
        clear hR hn hk hv
        go_enter Tryz.func36, Tryz.ntmps36
        go_wp2_with fail
        go_ret
        rw [HR.out]
        exact ⟨rfl, below_alloc _ _⟩
    · have qk : (s.N == 0) = false := by rw [beq_eq_false_iff_ne]; omega
      obtain ⟨R, hR⟩ : ∃ R, R = bareB 4 s := ⟨_, rfl⟩
      rw [← hR]
      have HR : Hid (R = false) := by
        show _ = _
        rw [hR]
        simp [bareB, fN, fK, fU, fV, hn, hk]
      clear hR hn hk
      go_enter Tryz.func36, Tryz.ntmps36
      go_wp2_with fail
      go_ret
      rw [HR.out]
      exact ⟨rfl, below_alloc _ _⟩
  · have qn : (s.D == 0) = false := by rw [beq_eq_false_iff_ne]; omega
    obtain ⟨R, hR⟩ : ∃ R, R = bareB 4 s := ⟨_, rfl⟩
    rw [← hR]
    have HR : Hid (R = false) := by
      show _ = _
      rw [hR]
      simp [bareB, fN, fK, fU, fV, hn]
    clear hR hn
    go_enter Tryz.func36, Tryz.ntmps36
    go_wp2_with fail
    go_ret
    rw [HR.out]
    exact ⟨rfl, below_alloc _ _⟩


theorem bare_walk {g : Int} (hg : g = 13 ∨ g = 3 ∨ g = 0 ∨ g = 2 ∨ g = 1 ∨ g = 4) (s : Sp) (w : World) : Calls Tryz.prog 36 #[.int .i64 g, .agg #[.int .i64 s.K, .int .i64 s.D, .int .i64 s.N, .int .u64 s.k, .float .f64 s.x]] w fun e w' => e = .returned (.bool (bareB g s)) ∧ Below w.heap.size w w' := by
  rcases hg with rfl | rfl | rfl | rfl | rfl | rfl
  · exact bare_13 s w
  · exact bare_3 s w
  · exact bare_0 s w
  · exact bare_2 s w
  · exact bare_1 s w
  · exact bare_4 s w


set_option maxHeartbeats 4000000 in
theorem refuses_walk (s : Sp) (w : World) (htb : Tb w) : Calls Tryz.prog 21 #[.agg #[.int .i64 s.K, .int .i64 s.D, .int .i64 s.N, .int .u64 s.k, .float .f64 s.x]] w fun e w' => e = .returned (.int .i64 (stE s)) ∧ Below w.heap.size w w' := by
  have HT : Hid (Tb w) := htb
  obtain ⟨R, hR⟩ : ∃ R, R = stE s := ⟨_, rfl⟩
  rw [← hR]
  have HR : Hid (R = stE s) := hR
  obtain ⟨g, hg⟩ : ∃ g, g = w.heap.size := ⟨_, rfl⟩
  obtain ⟨w1, hw1⟩ : ∃ w1, w1 = w.alloc (.cells #[.int .i64 s.K, .int .i64 s.D, .int .i64 s.N, .int .u64 s.k, .float .f64 s.x] 41) := ⟨_, rfl⟩
  have HW1 : Hid (w1 = w.alloc (.cells #[.int .i64 s.K, .int .i64 s.D, .int .i64 s.N, .int .u64 s.k, .float .f64 s.x] 41) ∧ g = w.heap.size) := ⟨hw1, hg⟩
  have HG1 : Hid (w1.heap[g]? = some (.cells #[.int .i64 s.K, .int .i64 s.D, .int .i64 s.N, .int .u64 s.k, .float .f64 s.x] 41 (0, 0)) ∧ Below w.heap.size w w1) := by rw [hw1]; exact ⟨alloc_at hg, below_alloc _ _⟩
  have HFW := formOf_walk s.K w1 (htb.below HG1.out.2)
  have hfw : formL.find? (fun f => f.K == s.K) = formK s.K := rfl
  rw [hfw] at HFW
  have c0 : w1.cell? ⟨g, 0, none⟩ = some (.int .i64 s.K) := by rw [blk_cell HG1.out.1]; rfl
  clear hR hg hw1 htb hfw
  cases hf : formK s.K with
  | none =>
    rw [hf] at HFW
    simp only [FmA, FmV, FmZ, Option.getD_none, Option.isSome_none, S] at HFW
    have HFN : Hid (Calls Tryz.prog 35 #[.int .i64 s.K] w1 fun e w' => e = .returned (.tuple #[.agg #[.int .i64 0, .string ⟨#[]⟩, .int .i64 0], .bool false]) ∧ Below w1.heap.size w1 w') := HFW
    have HE : Hid (R = 200) := by show _ = _; rw [HR.out]; unfold stE; rw [hf]
    clear HFW hf
    go_enter Tryz.func21, Tryz.ntmps21
    go_wp2_with fail
    rw [← HW1.out.2, ← HW1.out.1]
    clear HW1
    try go_wp2_with fail
    refine HFN.out.mono ?_
    rintro e9 w2 ⟨rfl, hB2⟩
    go_wp2_with fail
    go_ret
    rw [HE.out]
    exact ⟨rfl, below_trans (below_trans HG1.out.2 hB2) (below_alloc _ _)⟩
  | some f =>
    rw [hf] at HFW
    simp only [FmA, FmV, Option.getD_some, Option.isSome_some, S] at HFW
    obtain ⟨fw, hfw2⟩ : ∃ k : ByteArray, k = ⟨f.w.toArray⟩ := ⟨_, rfl⟩
    obtain ⟨fg, hfg⟩ : ∃ k, k = f.g := ⟨_, rfl⟩
    rw [← hfw2, ← hfg] at HFW
    have HFN : Hid (Calls Tryz.prog 35 #[.int .i64 s.K] w1 fun e w' => e = .returned (.tuple #[.agg #[.int .i64 f.K, .string fw, .int .i64 fg], .bool true]) ∧ Below w1.heap.size w1 w') := HFW
    have HBW : Hid (∀ wx, Calls Tryz.prog 36 #[.int .i64 fg, .agg #[.int .i64 s.K, .int .i64 s.D, .int .i64 s.N, .int .u64 s.k, .float .f64 s.x]] wx fun e w' => e = .returned (.bool (bareB fg s)) ∧ Below wx.heap.size wx w') := fun wx => bare_walk (by rw [hfg]; exact (form_gK hf).1) s wx
    have HE : Hid (R = if bareB fg s then 0 else 1) := by show _ = _; rw [HR.out]; unfold stE; rw [hf, hfg]
    clear HFW hf hfw2 hfg
    go_enter Tryz.func21, Tryz.ntmps21
    go_wp2_with fail
    rw [← HW1.out.2, ← HW1.out.1]
    clear HW1
    try go_wp2_with fail
    refine HFN.out.mono ?_
    rintro e9 w2 ⟨rfl, hB2⟩
    have hg2 := blk_below HG1.out.1 hB2
    have k0 : w2.cell? ⟨g, 0, none⟩ = some (.int .i64 s.K) := by rw [blk_cell hg2]; rfl
    have k1 : w2.cell? ⟨g, 1, none⟩ = some (.int .i64 s.D) := by rw [blk_cell hg2]; rfl
    have k2 : w2.cell? ⟨g, 2, none⟩ = some (.int .i64 s.N) := by rw [blk_cell hg2]; rfl
    have k3 : w2.cell? ⟨g, 3, none⟩ = some (.int .u64 s.k) := by rw [blk_cell hg2]; rfl
    have k4 : w2.cell? ⟨g, 4, none⟩ = some (.float .f64 s.x) := by rw [blk_cell hg2]; rfl
    have hgl : g < w2.heap.size := blk_lt hg2
    have hgn : ¬ g = w2.heap.size := by omega
    have HB2 : Hid (Below w.heap.size w (w2.alloc (.cells #[.int .i64 f.K, .string fw, .int .i64 fg] 80))) := below_trans (below_trans HG1.out.2 hB2) (below_alloc _ _)
    clear hB2 HFN c0 hg2
    go_wp2_with fail
    refine (HBW.out _).mono ?_
    rintro e9 w3 ⟨rfl, hB3⟩
    cases hbb : bareB fg s with
    | true =>
      have HEE : Hid (R = 0) := by show _ = _; rw [HE.out, hbb]; rfl
      clear hbb
      go_wp2_with fail
      go_ret
      rw [HEE.out]
      exact ⟨rfl, below_trans HB2.out hB3⟩
    | false =>
      have HEE : Hid (R = 1) := by show _ = _; rw [HE.out, hbb]; rfl
      clear hbb
      go_wp2_with fail
      go_ret
      rw [HEE.out]
      exact ⟨rfl, below_trans HB2.out hB3⟩
end Go.Proofs.YtkiplcmndpdifaaGreatDoor


