/- The walk of OpsKeys. -/
import Derived.Test.YtkpfjoklbindjabXm
import Derived.Test.YtkpfjoklbindjabXz
namespace Go.Proofs.Ytkpfjoklbindjab
open Ieee Go.RowKit
attribute [local go_sem] run_store_float

theorem rb_new (w : World) (k x : Nat) (t : TypeId) : RB (w.alloc (Obj.cells #[.int .u64 k, .float .f64 x] t)) w.heap.size k x := by
  refine ⟨?_, ?_, ?_, ?_⟩ <;> simp [go_sem]
theorem side_canon (x : Nat) : sideN (canonW x) = sideN x := by
  cases h : nanB x
  · rw [canon_num h]
  · unfold sideN; rw [nan_canon, h]; rfl
theorem run_regroup {n : Int} (k x : Nat) (h1 : 1 ≤ n) : runS [⟨11, n, 0⟩] ⟨k, x⟩ = (1, ⟨k % n.toNat, canonW x⟩) := by
  have := one_keep (o := ⟨11, n, 0⟩) (r := ⟨k, x⟩) (by simp [isB, h1]) (by simp [fateI])
  rw [show oneS ⟨11, n, 0⟩ ⟨k, x⟩ = runS [⟨11, n, 0⟩] ⟨k, x⟩ from rfl] at this
  rw [this]
  simp [nextR, canR]
theorem run_side (k x : Nat) : runS [⟨12, 0, 0⟩] ⟨k, x⟩ = (1, ⟨k % 4611686018427387904 * 4 + sideN x, canonW x⟩) := by
  have := one_keep (o := ⟨12, 0, 0⟩) (r := ⟨k, x⟩) (by simp [isB]) (by simp [fateI])
  rw [show oneS ⟨12, 0, 0⟩ ⟨k, x⟩ = runS [⟨12, 0, 0⟩] ⟨k, x⟩ from rfl] at this
  rw [this]
  simp [nextR, canR, side_canon]
theorem side_facts {x : Nat} (hx : x < 18446744073709551616) (k : Nat) {K4 : Nat} (hK : K4 = k % 4611686018427387904 * 4 + sideN x) :
    (((K4 : Int) % 4 == 0) = (FloatKind.f64.format.order x 0 == some .lt)) ∧ (((K4 : Int) % 4 == 1) = (FloatKind.f64.format.order x 0 == some .eq)) ∧ (((K4 : Int) % 4 == 2) = (FloatKind.f64.format.order x 0 == some .gt)) ∧ (K4 : Int) / 4 = (k : Int) % 4611686018427387904 := by
  have hs := side_lt x
  have hm : (K4 : Int) % 4 = (sideN x : Int) := by omega
  refine ⟨?_, ?_, ?_, by omega⟩
  all_goals
    rw [hm]
    cases hn : nanB x
    · rcases order_cases (c := 0) hx (show 0 < 18446744073709551616 by omega) hn (by decide) (by decide) with ⟨o, q⟩ | ⟨o, q⟩ | ⟨o, q⟩
      all_goals
        rw [o]
        unfold sideN
        rw [hn]
        simp only [Bool.false_eq_true, if_false]
        first | (rw [if_pos (by omega)]; rfl) | (rw [if_neg (by omega), if_pos (by omega)]; rfl) | (rw [if_neg (by omega), if_neg (by omega)]; rfl)
    · rw [show FloatKind.f64.format.order x 0 = none from order_nan_left hx hn]
      unfold sideN
      rw [hn]; rfl
theorem sub_emod_self (a n : Int) : (a - a % n) % n = 0 := by
  rw [Int.sub_emod, Int.emod_emod_of_dvd _ (Int.dvd_refl n), Int.sub_self, Int.zero_emod]
/-- No other kind turns a key. -/
theorem key_stays {K n : Int} {r : Rcd} (h11 : ¬ K = 11) (h12 : ¬ K = 12) (hf : (oneS ⟨K, n, 0⟩ r).1 = 1) : (oneS ⟨K, n, 0⟩ r).2.k = r.k := by
  cases hb : isB ⟨K, n, 0⟩
  · have e : oneS ⟨K, n, 0⟩ r = (0, zeroR) := by unfold oneS runS; rw [if_neg (by simp [checkB, hb])]
    rw [e] at hf; exact absurd hf (by decide)
  · by_cases h : fateI ⟨K, n, 0⟩ (canonW r.x) = 1
    · rw [one_keep hb h]
      unfold nextR
      simp only
      rw [if_neg h11, if_neg h12]
      split <;> rfl
    · rw [one_stop hb h] at hf; exact absurd hf h

set_option linter.unusedVariables false in
set_option maxRecDepth 100000 in
set_option maxHeartbeats 1000000 in
theorem keys_n_no {r : Rcd} {n K : Int} (hr : r.ok) (hn : -9223372036854775808 ≤ n ∧ n < 9223372036854775808) (hK : -9223372036854775808 ≤ K ∧ K < 9223372036854775808) (hge : 1 ≤ n) (hl : ¬ (oneS ⟨K, n, 0⟩ r).1 = 1) (w : World) :
    Calls Try.prog 3 #[.agg #[.int .u64 r.k, .float .f64 r.x], .int .i64 n, .int .i64 K] w fun e w' => e = .returned (.bool true) ∧ Below w.heap.size w w' := by
  have HR : Hid r.ok := hr
  have HOK : Hid (Stp.ok ⟨11, n, 0⟩) := ⟨by simp, hn, by simp⟩
  have HOL : Hid (Stp.ok ⟨K, n, 0⟩) := ⟨hK, hn, by simp⟩
  obtain ⟨K4, hK4⟩ : ∃ K4, K4 = r.k % 4611686018427387904 * 4 + sideN r.x := ⟨_, rfl⟩
  have H4 : Hid (runS [⟨12, 0, 0⟩] r = (1, ⟨K4, canonW r.x⟩)) := by show _ = _; rw [hK4]; exact run_side r.k r.x
  obtain ⟨s0, s1, s2, s3⟩ := side_facts hr.2 r.k hK4
  obtain ⟨P, hP⟩ : ∃ P, P = oneS ⟨K, n, 0⟩ r := ⟨_, rfl⟩
  have HP : Hid (P = oneS ⟨K, n, 0⟩ r) := hP
  rw [← hP] at hl
  have f1 : (P.1 != 1) = true := by simpa using hl
  obtain ⟨Kn, hKn⟩ : ∃ Kn, Kn = r.k % n.toNat := ⟨_, rfl⟩
  have H1 : Hid (runS [⟨11, n, 0⟩] r = (1, ⟨Kn, canonW r.x⟩)) := by show _ = _; rw [hKn]; exact run_regroup r.k r.x hge
  have H2 : Hid (runS [⟨11, n, 0⟩] ⟨Kn, r.x⟩ = (1, ⟨Kn, canonW r.x⟩)) := by show _ = _; rw [run_regroup Kn r.x hge, hKn, Nat.mod_mod]
  have hkn : Kn ≤ r.k := by rw [hKn]; exact Nat.mod_le _ _
  have hknn : (Kn : Int) = (r.k : Int) % n := by rw [hKn, Int.natCast_emod, Int.toNat_of_nonneg (by omega)]
  have g0 : ¬ n ≤ (Kn : Int) := by have := Int.emod_lt_of_pos (r.k : Int) (show 0 < n by omega); omega
  have HRK : Hid (Rcd.ok ⟨Kn, r.x⟩) := ⟨Nat.lt_of_le_of_lt hkn hr.1, hr.2⟩
  have g1 : IntKind.u64.wrap n = n := by rw [IntKind.wrap_u64]; omega
  have g2 : IntKind.u64.wrap ((r.k : Int) - (Kn : Int)) = (r.k : Int) - (Kn : Int) := by have := hr.1; rw [IntKind.wrap_u64]; omega
  have g3 : ((r.k : Int) - (Kn : Int)).tmod n = 0 := by rw [Int.tmod_eq_emod_of_nonneg (by omega)]; rw [hknn]; exact sub_emod_self _ _
  have g5 : decide (n ≤ (Kn : Int)) = false := decide_eq_false g0
  have g4 : ¬ n = 0 := by omega
  clear hKn hkn hknn
  clear hK4 hP hl hr hn hK
  go_enter Try.func3, Try.ntmps3
  go_wp2_with fail
  generalize hg : w.alloc (Obj.cells #[Value.int IntKind.u64 r.k, Value.float FloatKind.f64 r.x] 25) = w0
  have HR0 : Hid (RB w0 w.heap.size r.k r.x) := by show RB _ _ _ _; rw [← hg]; exact rb_new _ _ _ _
  have HB0 : Hid (Below w.heap.size w w0) := by show Below _ _ _; rw [← hg]; exact below_alloc _ _
  clear hg
  refine (awake_walk _).mono ?_
  rintro e w1 ⟨rfl, hB⟩
  have HB1 : Hid (Below w.heap.size w w1) := below_trans HB0.out hB
  have HR1 : Hid (RB w1 w.heap.size r.k r.x) := HR0.out.below hB (cell_lt HR0.out.c0)
  clear hB
  have q0 : ∀ x : Obj, (w1.alloc x).cell? ⟨w.heap.size, 0, none⟩ = some (.int .u64 r.k) := fun x => (HR1.out.alloc x).c0
  have q1 : ∀ x : Obj, (w1.alloc x).cell? ⟨w.heap.size, 1, none⟩ = some (.float .f64 r.x) := fun x => (HR1.out.alloc x).c1
  go_wp2_with fail
  refine (key_walk r HR.out (ov_one w1 ⟨11, n, 0⟩ HOK.out _)).mono ?_
  rw [H1.out]
  rintro e w2 ⟨rfl, hB⟩
  have HB2 : Hid (Below w.heap.size w w2) := below_trans HB1.out (below_trans (below_alloc _ _) hB)
  have HR2 : Hid (RB w2 w.heap.size r.k r.x) := (HR1.out.alloc _).below hB (cell_lt (HR1.out.alloc _).c0)
  clear hB q0 q1
  have q0 : ∀ x : Obj, (w2.alloc x).cell? ⟨w.heap.size, 0, none⟩ = some (.int .u64 r.k) := fun x => (HR2.out.alloc x).c0
  have q1 : ∀ x : Obj, (w2.alloc x).cell? ⟨w.heap.size, 1, none⟩ = some (.float .f64 r.x) := fun x => (HR2.out.alloc x).c1
  go_wp2_with fail
  refine (key_walk ⟨Kn, r.x⟩ HRK.out (ov_one w2 ⟨11, n, 0⟩ HOK.out _)).mono ?_
  rw [H2.out]
  rintro e w3 ⟨rfl, hB⟩
  have HB3 : Hid (Below w.heap.size w w3) := below_trans HB2.out (below_trans (below_alloc _ _) hB)
  have HR3 : Hid (RB w3 w.heap.size r.k r.x) := (HR2.out.alloc _).below hB (cell_lt (HR2.out.alloc _).c0)
  clear hB q0 q1
  have q0 : ∀ x : Obj, (w3.alloc x).cell? ⟨w.heap.size, 0, none⟩ = some (.int .u64 r.k) := fun x => (HR3.out.alloc x).c0
  have q1 : ∀ x : Obj, (w3.alloc x).cell? ⟨w.heap.size, 1, none⟩ = some (.float .f64 r.x) := fun x => (HR3.out.alloc x).c1
  have p0 := HR3.out.c0
  have p1 := HR3.out.c1
  go_wp2_with fail
  refine (key_walk r HR.out (ov_one w3 ⟨12, 0, 0⟩ (ok_small (by simp) (by simp)) _)).mono ?_
  rw [H4.out]
  rintro e w4 ⟨rfl, hB⟩
  have HB4 : Hid (Below w.heap.size w w4) := below_trans HB3.out (below_trans (below_alloc _ _) hB)
  have HR4 : Hid (RB w4 w.heap.size r.k r.x) := (HR3.out.alloc _).below hB (cell_lt (HR3.out.alloc _).c0)
  clear hB q0 q1 p0 p1
  have q0 : ∀ x : Obj, (w4.alloc x).cell? ⟨w.heap.size, 0, none⟩ = some (.int .u64 r.k) := fun x => (HR4.out.alloc x).c0
  have q1 : ∀ x : Obj, (w4.alloc x).cell? ⟨w.heap.size, 1, none⟩ = some (.float .f64 r.x) := fun x => (HR4.out.alloc x).c1
  have p0 := HR4.out.c0
  have p1 := HR4.out.c1
  go_wp2_with fail
  refine (one_walk ⟨K, n, 0⟩ r HOL.out HR.out _).mono ?_
  rw [← HP.out]
  rintro e w9 ⟨rfl, hB⟩
  have HB9 : Hid (Below w.heap.size w w9) := below_trans HB4.out hB
  have HR9 : Hid (RB w9 w.heap.size r.k r.x) := HR4.out.below hB (cell_lt HR4.out.c0)
  clear hB q0 q1 p0 p1
  have q0 : ∀ x : Obj, (w9.alloc x).cell? ⟨w.heap.size, 0, none⟩ = some (.int .u64 r.k) := fun x => (HR9.out.alloc x).c0
  go_wp2_with fail
  go_ret
  exact ⟨rfl, below_trans HB9.out (below_alloc _ _)⟩

set_option linter.unusedVariables false in
set_option maxRecDepth 100000 in
set_option maxHeartbeats 1000000 in
theorem keys_n_11 {r : Rcd} {n K : Int} (hr : r.ok) (hn : -9223372036854775808 ≤ n ∧ n < 9223372036854775808) (hK : -9223372036854775808 ≤ K ∧ K < 9223372036854775808) (hge : 1 ≤ n) (hl : (oneS ⟨K, n, 0⟩ r).1 = 1) (hk : K = 11) (w : World) :
    Calls Try.prog 3 #[.agg #[.int .u64 r.k, .float .f64 r.x], .int .i64 n, .int .i64 K] w fun e w' => e = .returned (.bool true) ∧ Below w.heap.size w w' := by
  have HR : Hid r.ok := hr
  have HOK : Hid (Stp.ok ⟨11, n, 0⟩) := ⟨by simp, hn, by simp⟩
  have HOL : Hid (Stp.ok ⟨K, n, 0⟩) := ⟨hK, hn, by simp⟩
  obtain ⟨K4, hK4⟩ : ∃ K4, K4 = r.k % 4611686018427387904 * 4 + sideN r.x := ⟨_, rfl⟩
  have H4 : Hid (runS [⟨12, 0, 0⟩] r = (1, ⟨K4, canonW r.x⟩)) := by show _ = _; rw [hK4]; exact run_side r.k r.x
  obtain ⟨s0, s1, s2, s3⟩ := side_facts hr.2 r.k hK4
  obtain ⟨P, hP⟩ : ∃ P, P = oneS ⟨K, n, 0⟩ r := ⟨_, rfl⟩
  have HP : Hid (P = oneS ⟨K, n, 0⟩ r) := hP
  rw [← hP] at hl
  have f1 : (P.1 != 1) = false := by simpa using hl
  have f2 : (K == 11) = true := by simpa using hk
  clear hk
  obtain ⟨Kn, hKn⟩ : ∃ Kn, Kn = r.k % n.toNat := ⟨_, rfl⟩
  have H1 : Hid (runS [⟨11, n, 0⟩] r = (1, ⟨Kn, canonW r.x⟩)) := by show _ = _; rw [hKn]; exact run_regroup r.k r.x hge
  have H2 : Hid (runS [⟨11, n, 0⟩] ⟨Kn, r.x⟩ = (1, ⟨Kn, canonW r.x⟩)) := by show _ = _; rw [run_regroup Kn r.x hge, hKn, Nat.mod_mod]
  have hkn : Kn ≤ r.k := by rw [hKn]; exact Nat.mod_le _ _
  have hknn : (Kn : Int) = (r.k : Int) % n := by rw [hKn, Int.natCast_emod, Int.toNat_of_nonneg (by omega)]
  have g0 : ¬ n ≤ (Kn : Int) := by have := Int.emod_lt_of_pos (r.k : Int) (show 0 < n by omega); omega
  have HRK : Hid (Rcd.ok ⟨Kn, r.x⟩) := ⟨Nat.lt_of_le_of_lt hkn hr.1, hr.2⟩
  have g1 : IntKind.u64.wrap n = n := by rw [IntKind.wrap_u64]; omega
  have g2 : IntKind.u64.wrap ((r.k : Int) - (Kn : Int)) = (r.k : Int) - (Kn : Int) := by have := hr.1; rw [IntKind.wrap_u64]; omega
  have g3 : ((r.k : Int) - (Kn : Int)).tmod n = 0 := by rw [Int.tmod_eq_emod_of_nonneg (by omega)]; rw [hknn]; exact sub_emod_self _ _
  have g5 : decide (n ≤ (Kn : Int)) = false := decide_eq_false g0
  have g4 : ¬ n = 0 := by omega
  clear hKn hkn hknn
  clear hK4 hP hl hr hn hK
  go_enter Try.func3, Try.ntmps3
  go_wp2_with fail
  generalize hg : w.alloc (Obj.cells #[Value.int IntKind.u64 r.k, Value.float FloatKind.f64 r.x] 25) = w0
  have HR0 : Hid (RB w0 w.heap.size r.k r.x) := by show RB _ _ _ _; rw [← hg]; exact rb_new _ _ _ _
  have HB0 : Hid (Below w.heap.size w w0) := by show Below _ _ _; rw [← hg]; exact below_alloc _ _
  clear hg
  refine (awake_walk _).mono ?_
  rintro e w1 ⟨rfl, hB⟩
  have HB1 : Hid (Below w.heap.size w w1) := below_trans HB0.out hB
  have HR1 : Hid (RB w1 w.heap.size r.k r.x) := HR0.out.below hB (cell_lt HR0.out.c0)
  clear hB
  have q0 : ∀ x : Obj, (w1.alloc x).cell? ⟨w.heap.size, 0, none⟩ = some (.int .u64 r.k) := fun x => (HR1.out.alloc x).c0
  have q1 : ∀ x : Obj, (w1.alloc x).cell? ⟨w.heap.size, 1, none⟩ = some (.float .f64 r.x) := fun x => (HR1.out.alloc x).c1
  go_wp2_with fail
  refine (key_walk r HR.out (ov_one w1 ⟨11, n, 0⟩ HOK.out _)).mono ?_
  rw [H1.out]
  rintro e w2 ⟨rfl, hB⟩
  have HB2 : Hid (Below w.heap.size w w2) := below_trans HB1.out (below_trans (below_alloc _ _) hB)
  have HR2 : Hid (RB w2 w.heap.size r.k r.x) := (HR1.out.alloc _).below hB (cell_lt (HR1.out.alloc _).c0)
  clear hB q0 q1
  have q0 : ∀ x : Obj, (w2.alloc x).cell? ⟨w.heap.size, 0, none⟩ = some (.int .u64 r.k) := fun x => (HR2.out.alloc x).c0
  have q1 : ∀ x : Obj, (w2.alloc x).cell? ⟨w.heap.size, 1, none⟩ = some (.float .f64 r.x) := fun x => (HR2.out.alloc x).c1
  go_wp2_with fail
  refine (key_walk ⟨Kn, r.x⟩ HRK.out (ov_one w2 ⟨11, n, 0⟩ HOK.out _)).mono ?_
  rw [H2.out]
  rintro e w3 ⟨rfl, hB⟩
  have HB3 : Hid (Below w.heap.size w w3) := below_trans HB2.out (below_trans (below_alloc _ _) hB)
  have HR3 : Hid (RB w3 w.heap.size r.k r.x) := (HR2.out.alloc _).below hB (cell_lt (HR2.out.alloc _).c0)
  clear hB q0 q1
  have q0 : ∀ x : Obj, (w3.alloc x).cell? ⟨w.heap.size, 0, none⟩ = some (.int .u64 r.k) := fun x => (HR3.out.alloc x).c0
  have q1 : ∀ x : Obj, (w3.alloc x).cell? ⟨w.heap.size, 1, none⟩ = some (.float .f64 r.x) := fun x => (HR3.out.alloc x).c1
  have p0 := HR3.out.c0
  have p1 := HR3.out.c1
  go_wp2_with fail
  refine (key_walk r HR.out (ov_one w3 ⟨12, 0, 0⟩ (ok_small (by simp) (by simp)) _)).mono ?_
  rw [H4.out]
  rintro e w4 ⟨rfl, hB⟩
  have HB4 : Hid (Below w.heap.size w w4) := below_trans HB3.out (below_trans (below_alloc _ _) hB)
  have HR4 : Hid (RB w4 w.heap.size r.k r.x) := (HR3.out.alloc _).below hB (cell_lt (HR3.out.alloc _).c0)
  clear hB q0 q1 p0 p1
  have q0 : ∀ x : Obj, (w4.alloc x).cell? ⟨w.heap.size, 0, none⟩ = some (.int .u64 r.k) := fun x => (HR4.out.alloc x).c0
  have q1 : ∀ x : Obj, (w4.alloc x).cell? ⟨w.heap.size, 1, none⟩ = some (.float .f64 r.x) := fun x => (HR4.out.alloc x).c1
  have p0 := HR4.out.c0
  have p1 := HR4.out.c1
  go_wp2_with fail
  refine (one_walk ⟨K, n, 0⟩ r HOL.out HR.out _).mono ?_
  rw [← HP.out]
  rintro e w9 ⟨rfl, hB⟩
  have HB9 : Hid (Below w.heap.size w w9) := below_trans HB4.out hB
  have HR9 : Hid (RB w9 w.heap.size r.k r.x) := HR4.out.below hB (cell_lt HR4.out.c0)
  clear hB q0 q1 p0 p1
  have q0 : ∀ x : Obj, (w9.alloc x).cell? ⟨w.heap.size, 0, none⟩ = some (.int .u64 r.k) := fun x => (HR9.out.alloc x).c0
  go_wp2_with fail
  go_ret
  exact ⟨rfl, below_trans HB9.out (below_alloc _ _)⟩

set_option linter.unusedVariables false in
set_option maxRecDepth 100000 in
set_option maxHeartbeats 1000000 in
theorem keys_n_12 {r : Rcd} {n K : Int} (hr : r.ok) (hn : -9223372036854775808 ≤ n ∧ n < 9223372036854775808) (hK : -9223372036854775808 ≤ K ∧ K < 9223372036854775808) (hge : 1 ≤ n) (hl : (oneS ⟨K, n, 0⟩ r).1 = 1) (hk : K = 12) (w : World) :
    Calls Try.prog 3 #[.agg #[.int .u64 r.k, .float .f64 r.x], .int .i64 n, .int .i64 K] w fun e w' => e = .returned (.bool true) ∧ Below w.heap.size w w' := by
  have HR : Hid r.ok := hr
  have HOK : Hid (Stp.ok ⟨11, n, 0⟩) := ⟨by simp, hn, by simp⟩
  have HOL : Hid (Stp.ok ⟨K, n, 0⟩) := ⟨hK, hn, by simp⟩
  obtain ⟨K4, hK4⟩ : ∃ K4, K4 = r.k % 4611686018427387904 * 4 + sideN r.x := ⟨_, rfl⟩
  have H4 : Hid (runS [⟨12, 0, 0⟩] r = (1, ⟨K4, canonW r.x⟩)) := by show _ = _; rw [hK4]; exact run_side r.k r.x
  obtain ⟨s0, s1, s2, s3⟩ := side_facts hr.2 r.k hK4
  obtain ⟨P, hP⟩ : ∃ P, P = oneS ⟨K, n, 0⟩ r := ⟨_, rfl⟩
  have HP : Hid (P = oneS ⟨K, n, 0⟩ r) := hP
  rw [← hP] at hl
  have f1 : (P.1 != 1) = false := by simpa using hl
  have f2 : (K == 11) = false := by rw [hk]; rfl
  have f3 : (K == 12) = true := by simpa using hk
  clear hk
  obtain ⟨Kn, hKn⟩ : ∃ Kn, Kn = r.k % n.toNat := ⟨_, rfl⟩
  have H1 : Hid (runS [⟨11, n, 0⟩] r = (1, ⟨Kn, canonW r.x⟩)) := by show _ = _; rw [hKn]; exact run_regroup r.k r.x hge
  have H2 : Hid (runS [⟨11, n, 0⟩] ⟨Kn, r.x⟩ = (1, ⟨Kn, canonW r.x⟩)) := by show _ = _; rw [run_regroup Kn r.x hge, hKn, Nat.mod_mod]
  have hkn : Kn ≤ r.k := by rw [hKn]; exact Nat.mod_le _ _
  have hknn : (Kn : Int) = (r.k : Int) % n := by rw [hKn, Int.natCast_emod, Int.toNat_of_nonneg (by omega)]
  have g0 : ¬ n ≤ (Kn : Int) := by have := Int.emod_lt_of_pos (r.k : Int) (show 0 < n by omega); omega
  have HRK : Hid (Rcd.ok ⟨Kn, r.x⟩) := ⟨Nat.lt_of_le_of_lt hkn hr.1, hr.2⟩
  have g1 : IntKind.u64.wrap n = n := by rw [IntKind.wrap_u64]; omega
  have g2 : IntKind.u64.wrap ((r.k : Int) - (Kn : Int)) = (r.k : Int) - (Kn : Int) := by have := hr.1; rw [IntKind.wrap_u64]; omega
  have g3 : ((r.k : Int) - (Kn : Int)).tmod n = 0 := by rw [Int.tmod_eq_emod_of_nonneg (by omega)]; rw [hknn]; exact sub_emod_self _ _
  have g5 : decide (n ≤ (Kn : Int)) = false := decide_eq_false g0
  have g4 : ¬ n = 0 := by omega
  clear hKn hkn hknn
  clear hK4 hP hl hr hn hK
  go_enter Try.func3, Try.ntmps3
  go_wp2_with fail
  generalize hg : w.alloc (Obj.cells #[Value.int IntKind.u64 r.k, Value.float FloatKind.f64 r.x] 25) = w0
  have HR0 : Hid (RB w0 w.heap.size r.k r.x) := by show RB _ _ _ _; rw [← hg]; exact rb_new _ _ _ _
  have HB0 : Hid (Below w.heap.size w w0) := by show Below _ _ _; rw [← hg]; exact below_alloc _ _
  clear hg
  refine (awake_walk _).mono ?_
  rintro e w1 ⟨rfl, hB⟩
  have HB1 : Hid (Below w.heap.size w w1) := below_trans HB0.out hB
  have HR1 : Hid (RB w1 w.heap.size r.k r.x) := HR0.out.below hB (cell_lt HR0.out.c0)
  clear hB
  have q0 : ∀ x : Obj, (w1.alloc x).cell? ⟨w.heap.size, 0, none⟩ = some (.int .u64 r.k) := fun x => (HR1.out.alloc x).c0
  have q1 : ∀ x : Obj, (w1.alloc x).cell? ⟨w.heap.size, 1, none⟩ = some (.float .f64 r.x) := fun x => (HR1.out.alloc x).c1
  go_wp2_with fail
  refine (key_walk r HR.out (ov_one w1 ⟨11, n, 0⟩ HOK.out _)).mono ?_
  rw [H1.out]
  rintro e w2 ⟨rfl, hB⟩
  have HB2 : Hid (Below w.heap.size w w2) := below_trans HB1.out (below_trans (below_alloc _ _) hB)
  have HR2 : Hid (RB w2 w.heap.size r.k r.x) := (HR1.out.alloc _).below hB (cell_lt (HR1.out.alloc _).c0)
  clear hB q0 q1
  have q0 : ∀ x : Obj, (w2.alloc x).cell? ⟨w.heap.size, 0, none⟩ = some (.int .u64 r.k) := fun x => (HR2.out.alloc x).c0
  have q1 : ∀ x : Obj, (w2.alloc x).cell? ⟨w.heap.size, 1, none⟩ = some (.float .f64 r.x) := fun x => (HR2.out.alloc x).c1
  go_wp2_with fail
  refine (key_walk ⟨Kn, r.x⟩ HRK.out (ov_one w2 ⟨11, n, 0⟩ HOK.out _)).mono ?_
  rw [H2.out]
  rintro e w3 ⟨rfl, hB⟩
  have HB3 : Hid (Below w.heap.size w w3) := below_trans HB2.out (below_trans (below_alloc _ _) hB)
  have HR3 : Hid (RB w3 w.heap.size r.k r.x) := (HR2.out.alloc _).below hB (cell_lt (HR2.out.alloc _).c0)
  clear hB q0 q1
  have q0 : ∀ x : Obj, (w3.alloc x).cell? ⟨w.heap.size, 0, none⟩ = some (.int .u64 r.k) := fun x => (HR3.out.alloc x).c0
  have q1 : ∀ x : Obj, (w3.alloc x).cell? ⟨w.heap.size, 1, none⟩ = some (.float .f64 r.x) := fun x => (HR3.out.alloc x).c1
  have p0 := HR3.out.c0
  have p1 := HR3.out.c1
  go_wp2_with fail
  refine (key_walk r HR.out (ov_one w3 ⟨12, 0, 0⟩ (ok_small (by simp) (by simp)) _)).mono ?_
  rw [H4.out]
  rintro e w4 ⟨rfl, hB⟩
  have HB4 : Hid (Below w.heap.size w w4) := below_trans HB3.out (below_trans (below_alloc _ _) hB)
  have HR4 : Hid (RB w4 w.heap.size r.k r.x) := (HR3.out.alloc _).below hB (cell_lt (HR3.out.alloc _).c0)
  clear hB q0 q1 p0 p1
  have q0 : ∀ x : Obj, (w4.alloc x).cell? ⟨w.heap.size, 0, none⟩ = some (.int .u64 r.k) := fun x => (HR4.out.alloc x).c0
  have q1 : ∀ x : Obj, (w4.alloc x).cell? ⟨w.heap.size, 1, none⟩ = some (.float .f64 r.x) := fun x => (HR4.out.alloc x).c1
  have p0 := HR4.out.c0
  have p1 := HR4.out.c1
  go_wp2_with fail
  refine (one_walk ⟨K, n, 0⟩ r HOL.out HR.out _).mono ?_
  rw [← HP.out]
  rintro e w9 ⟨rfl, hB⟩
  have HB9 : Hid (Below w.heap.size w w9) := below_trans HB4.out hB
  have HR9 : Hid (RB w9 w.heap.size r.k r.x) := HR4.out.below hB (cell_lt HR4.out.c0)
  clear hB q0 q1 p0 p1
  have q0 : ∀ x : Obj, (w9.alloc x).cell? ⟨w.heap.size, 0, none⟩ = some (.int .u64 r.k) := fun x => (HR9.out.alloc x).c0
  go_wp2_with fail
  go_ret
  exact ⟨rfl, below_trans HB9.out (below_alloc _ _)⟩

set_option linter.unusedVariables false in
set_option maxRecDepth 100000 in
set_option maxHeartbeats 1000000 in
theorem keys_n_key {r : Rcd} {n K : Int} (hr : r.ok) (hn : -9223372036854775808 ≤ n ∧ n < 9223372036854775808) (hK : -9223372036854775808 ≤ K ∧ K < 9223372036854775808) (hge : 1 ≤ n) (hl : (oneS ⟨K, n, 0⟩ r).1 = 1) (h11 : ¬ K = 11) (h12 : ¬ K = 12) (w : World) :
    Calls Try.prog 3 #[.agg #[.int .u64 r.k, .float .f64 r.x], .int .i64 n, .int .i64 K] w fun e w' => e = .returned (.bool true) ∧ Below w.heap.size w w' := by
  have HR : Hid r.ok := hr
  have HOK : Hid (Stp.ok ⟨11, n, 0⟩) := ⟨by simp, hn, by simp⟩
  have HOL : Hid (Stp.ok ⟨K, n, 0⟩) := ⟨hK, hn, by simp⟩
  obtain ⟨K4, hK4⟩ : ∃ K4, K4 = r.k % 4611686018427387904 * 4 + sideN r.x := ⟨_, rfl⟩
  have H4 : Hid (runS [⟨12, 0, 0⟩] r = (1, ⟨K4, canonW r.x⟩)) := by show _ = _; rw [hK4]; exact run_side r.k r.x
  obtain ⟨s0, s1, s2, s3⟩ := side_facts hr.2 r.k hK4
  obtain ⟨P, hP⟩ : ∃ P, P = oneS ⟨K, n, 0⟩ r := ⟨_, rfl⟩
  have HP : Hid (P = oneS ⟨K, n, 0⟩ r) := hP
  rw [← hP] at hl
  have f1 : (P.1 != 1) = false := by simpa using hl
  have f2 : (K == 11) = false := by simpa using h11
  have f3 : (K == 12) = false := by simpa using h12
  have f4 : ((P.2.k : Int) == (r.k : Int)) = true := by
    have := key_stays h11 h12 (by rw [← hP]; exact hl)
    rw [← hP] at this; rw [this]; simp
  clear h11 h12
  obtain ⟨Kn, hKn⟩ : ∃ Kn, Kn = r.k % n.toNat := ⟨_, rfl⟩
  have H1 : Hid (runS [⟨11, n, 0⟩] r = (1, ⟨Kn, canonW r.x⟩)) := by show _ = _; rw [hKn]; exact run_regroup r.k r.x hge
  have H2 : Hid (runS [⟨11, n, 0⟩] ⟨Kn, r.x⟩ = (1, ⟨Kn, canonW r.x⟩)) := by show _ = _; rw [run_regroup Kn r.x hge, hKn, Nat.mod_mod]
  have hkn : Kn ≤ r.k := by rw [hKn]; exact Nat.mod_le _ _
  have hknn : (Kn : Int) = (r.k : Int) % n := by rw [hKn, Int.natCast_emod, Int.toNat_of_nonneg (by omega)]
  have g0 : ¬ n ≤ (Kn : Int) := by have := Int.emod_lt_of_pos (r.k : Int) (show 0 < n by omega); omega
  have HRK : Hid (Rcd.ok ⟨Kn, r.x⟩) := ⟨Nat.lt_of_le_of_lt hkn hr.1, hr.2⟩
  have g1 : IntKind.u64.wrap n = n := by rw [IntKind.wrap_u64]; omega
  have g2 : IntKind.u64.wrap ((r.k : Int) - (Kn : Int)) = (r.k : Int) - (Kn : Int) := by have := hr.1; rw [IntKind.wrap_u64]; omega
  have g3 : ((r.k : Int) - (Kn : Int)).tmod n = 0 := by rw [Int.tmod_eq_emod_of_nonneg (by omega)]; rw [hknn]; exact sub_emod_self _ _
  have g5 : decide (n ≤ (Kn : Int)) = false := decide_eq_false g0
  have g4 : ¬ n = 0 := by omega
  clear hKn hkn hknn
  clear hK4 hP hl hr hn hK
  go_enter Try.func3, Try.ntmps3
  go_wp2_with fail
  generalize hg : w.alloc (Obj.cells #[Value.int IntKind.u64 r.k, Value.float FloatKind.f64 r.x] 25) = w0
  have HR0 : Hid (RB w0 w.heap.size r.k r.x) := by show RB _ _ _ _; rw [← hg]; exact rb_new _ _ _ _
  have HB0 : Hid (Below w.heap.size w w0) := by show Below _ _ _; rw [← hg]; exact below_alloc _ _
  clear hg
  refine (awake_walk _).mono ?_
  rintro e w1 ⟨rfl, hB⟩
  have HB1 : Hid (Below w.heap.size w w1) := below_trans HB0.out hB
  have HR1 : Hid (RB w1 w.heap.size r.k r.x) := HR0.out.below hB (cell_lt HR0.out.c0)
  clear hB
  have q0 : ∀ x : Obj, (w1.alloc x).cell? ⟨w.heap.size, 0, none⟩ = some (.int .u64 r.k) := fun x => (HR1.out.alloc x).c0
  have q1 : ∀ x : Obj, (w1.alloc x).cell? ⟨w.heap.size, 1, none⟩ = some (.float .f64 r.x) := fun x => (HR1.out.alloc x).c1
  go_wp2_with fail
  refine (key_walk r HR.out (ov_one w1 ⟨11, n, 0⟩ HOK.out _)).mono ?_
  rw [H1.out]
  rintro e w2 ⟨rfl, hB⟩
  have HB2 : Hid (Below w.heap.size w w2) := below_trans HB1.out (below_trans (below_alloc _ _) hB)
  have HR2 : Hid (RB w2 w.heap.size r.k r.x) := (HR1.out.alloc _).below hB (cell_lt (HR1.out.alloc _).c0)
  clear hB q0 q1
  have q0 : ∀ x : Obj, (w2.alloc x).cell? ⟨w.heap.size, 0, none⟩ = some (.int .u64 r.k) := fun x => (HR2.out.alloc x).c0
  have q1 : ∀ x : Obj, (w2.alloc x).cell? ⟨w.heap.size, 1, none⟩ = some (.float .f64 r.x) := fun x => (HR2.out.alloc x).c1
  go_wp2_with fail
  refine (key_walk ⟨Kn, r.x⟩ HRK.out (ov_one w2 ⟨11, n, 0⟩ HOK.out _)).mono ?_
  rw [H2.out]
  rintro e w3 ⟨rfl, hB⟩
  have HB3 : Hid (Below w.heap.size w w3) := below_trans HB2.out (below_trans (below_alloc _ _) hB)
  have HR3 : Hid (RB w3 w.heap.size r.k r.x) := (HR2.out.alloc _).below hB (cell_lt (HR2.out.alloc _).c0)
  clear hB q0 q1
  have q0 : ∀ x : Obj, (w3.alloc x).cell? ⟨w.heap.size, 0, none⟩ = some (.int .u64 r.k) := fun x => (HR3.out.alloc x).c0
  have q1 : ∀ x : Obj, (w3.alloc x).cell? ⟨w.heap.size, 1, none⟩ = some (.float .f64 r.x) := fun x => (HR3.out.alloc x).c1
  have p0 := HR3.out.c0
  have p1 := HR3.out.c1
  go_wp2_with fail
  refine (key_walk r HR.out (ov_one w3 ⟨12, 0, 0⟩ (ok_small (by simp) (by simp)) _)).mono ?_
  rw [H4.out]
  rintro e w4 ⟨rfl, hB⟩
  have HB4 : Hid (Below w.heap.size w w4) := below_trans HB3.out (below_trans (below_alloc _ _) hB)
  have HR4 : Hid (RB w4 w.heap.size r.k r.x) := (HR3.out.alloc _).below hB (cell_lt (HR3.out.alloc _).c0)
  clear hB q0 q1 p0 p1
  have q0 : ∀ x : Obj, (w4.alloc x).cell? ⟨w.heap.size, 0, none⟩ = some (.int .u64 r.k) := fun x => (HR4.out.alloc x).c0
  have q1 : ∀ x : Obj, (w4.alloc x).cell? ⟨w.heap.size, 1, none⟩ = some (.float .f64 r.x) := fun x => (HR4.out.alloc x).c1
  have p0 := HR4.out.c0
  have p1 := HR4.out.c1
  go_wp2_with fail
  refine (one_walk ⟨K, n, 0⟩ r HOL.out HR.out _).mono ?_
  rw [← HP.out]
  rintro e w9 ⟨rfl, hB⟩
  have HB9 : Hid (Below w.heap.size w w9) := below_trans HB4.out hB
  have HR9 : Hid (RB w9 w.heap.size r.k r.x) := HR4.out.below hB (cell_lt HR4.out.c0)
  clear hB q0 q1 p0 p1
  have q0 : ∀ x : Obj, (w9.alloc x).cell? ⟨w.heap.size, 0, none⟩ = some (.int .u64 r.k) := fun x => (HR9.out.alloc x).c0
  go_wp2_with fail
  go_ret
  exact ⟨rfl, below_trans HB9.out (below_alloc _ _)⟩

set_option linter.unusedVariables false in
set_option maxRecDepth 100000 in
set_option maxHeartbeats 1000000 in
theorem keys_z_no {r : Rcd} {n K : Int} (hr : r.ok) (hn : -9223372036854775808 ≤ n ∧ n < 9223372036854775808) (hK : -9223372036854775808 ≤ K ∧ K < 9223372036854775808) (hge : ¬ 1 ≤ n) (hl : ¬ (oneS ⟨K, n, 0⟩ r).1 = 1) (w : World) :
    Calls Try.prog 3 #[.agg #[.int .u64 r.k, .float .f64 r.x], .int .i64 n, .int .i64 K] w fun e w' => e = .returned (.bool true) ∧ Below w.heap.size w w' := by
  have HR : Hid r.ok := hr
  have HOK : Hid (Stp.ok ⟨11, n, 0⟩) := ⟨by simp, hn, by simp⟩
  have HOL : Hid (Stp.ok ⟨K, n, 0⟩) := ⟨hK, hn, by simp⟩
  obtain ⟨K4, hK4⟩ : ∃ K4, K4 = r.k % 4611686018427387904 * 4 + sideN r.x := ⟨_, rfl⟩
  have H4 : Hid (runS [⟨12, 0, 0⟩] r = (1, ⟨K4, canonW r.x⟩)) := by show _ = _; rw [hK4]; exact run_side r.k r.x
  obtain ⟨s0, s1, s2, s3⟩ := side_facts hr.2 r.k hK4
  obtain ⟨P, hP⟩ : ∃ P, P = oneS ⟨K, n, 0⟩ r := ⟨_, rfl⟩
  have HP : Hid (P = oneS ⟨K, n, 0⟩ r) := hP
  rw [← hP] at hl
  have f1 : (P.1 != 1) = true := by simpa using hl
  clear hK4 hP hl hr hn hK
  go_enter Try.func3, Try.ntmps3
  go_wp2_with fail
  generalize hg : w.alloc (Obj.cells #[Value.int IntKind.u64 r.k, Value.float FloatKind.f64 r.x] 25) = w0
  have HR0 : Hid (RB w0 w.heap.size r.k r.x) := by show RB _ _ _ _; rw [← hg]; exact rb_new _ _ _ _
  have HB0 : Hid (Below w.heap.size w w0) := by show Below _ _ _; rw [← hg]; exact below_alloc _ _
  clear hg
  refine (awake_walk _).mono ?_
  rintro e w1 ⟨rfl, hB⟩
  have HB1 : Hid (Below w.heap.size w w1) := below_trans HB0.out hB
  have HR1 : Hid (RB w1 w.heap.size r.k r.x) := HR0.out.below hB (cell_lt HR0.out.c0)
  clear hB
  have q0 : ∀ x : Obj, (w1.alloc x).cell? ⟨w.heap.size, 0, none⟩ = some (.int .u64 r.k) := fun x => (HR1.out.alloc x).c0
  have q1 : ∀ x : Obj, (w1.alloc x).cell? ⟨w.heap.size, 1, none⟩ = some (.float .f64 r.x) := fun x => (HR1.out.alloc x).c1
  go_wp2_with fail
  refine (key_walk r HR.out (ov_one w1 ⟨12, 0, 0⟩ (ok_small (by simp) (by simp)) _)).mono ?_
  rw [H4.out]
  rintro e w2 ⟨rfl, hB⟩
  have HB2 : Hid (Below w.heap.size w w2) := below_trans HB1.out (below_trans (below_alloc _ _) hB)
  have HR2 : Hid (RB w2 w.heap.size r.k r.x) := (HR1.out.alloc _).below hB (cell_lt (HR1.out.alloc _).c0)
  clear hB q0 q1
  have q0 : ∀ x : Obj, (w2.alloc x).cell? ⟨w.heap.size, 0, none⟩ = some (.int .u64 r.k) := fun x => (HR2.out.alloc x).c0
  have q1 : ∀ x : Obj, (w2.alloc x).cell? ⟨w.heap.size, 1, none⟩ = some (.float .f64 r.x) := fun x => (HR2.out.alloc x).c1
  have p0 := HR2.out.c0
  have p1 := HR2.out.c1
  go_wp2_with fail
  refine (one_walk ⟨K, n, 0⟩ r HOL.out HR.out _).mono ?_
  rw [← HP.out]
  rintro e w9 ⟨rfl, hB⟩
  have HB9 : Hid (Below w.heap.size w w9) := below_trans HB2.out hB
  have HR9 : Hid (RB w9 w.heap.size r.k r.x) := HR2.out.below hB (cell_lt HR2.out.c0)
  clear hB q0 q1 p0 p1
  have q0 : ∀ x : Obj, (w9.alloc x).cell? ⟨w.heap.size, 0, none⟩ = some (.int .u64 r.k) := fun x => (HR9.out.alloc x).c0
  go_wp2_with fail
  go_ret
  exact ⟨rfl, below_trans HB9.out (below_alloc _ _)⟩

set_option linter.unusedVariables false in
set_option maxRecDepth 100000 in
set_option maxHeartbeats 1000000 in
theorem keys_z_11 {r : Rcd} {n K : Int} (hr : r.ok) (hn : -9223372036854775808 ≤ n ∧ n < 9223372036854775808) (hK : -9223372036854775808 ≤ K ∧ K < 9223372036854775808) (hge : ¬ 1 ≤ n) (hl : (oneS ⟨K, n, 0⟩ r).1 = 1) (hk : K = 11) (w : World) :
    Calls Try.prog 3 #[.agg #[.int .u64 r.k, .float .f64 r.x], .int .i64 n, .int .i64 K] w fun e w' => e = .returned (.bool true) ∧ Below w.heap.size w w' := by
  have HR : Hid r.ok := hr
  have HOK : Hid (Stp.ok ⟨11, n, 0⟩) := ⟨by simp, hn, by simp⟩
  have HOL : Hid (Stp.ok ⟨K, n, 0⟩) := ⟨hK, hn, by simp⟩
  obtain ⟨K4, hK4⟩ : ∃ K4, K4 = r.k % 4611686018427387904 * 4 + sideN r.x := ⟨_, rfl⟩
  have H4 : Hid (runS [⟨12, 0, 0⟩] r = (1, ⟨K4, canonW r.x⟩)) := by show _ = _; rw [hK4]; exact run_side r.k r.x
  obtain ⟨s0, s1, s2, s3⟩ := side_facts hr.2 r.k hK4
  obtain ⟨P, hP⟩ : ∃ P, P = oneS ⟨K, n, 0⟩ r := ⟨_, rfl⟩
  have HP : Hid (P = oneS ⟨K, n, 0⟩ r) := hP
  rw [← hP] at hl
  have f1 : (P.1 != 1) = false := by simpa using hl
  have f2 : (K == 11) = true := by simpa using hk
  clear hk
  clear hK4 hP hl hr hn hK
  go_enter Try.func3, Try.ntmps3
  go_wp2_with fail
  generalize hg : w.alloc (Obj.cells #[Value.int IntKind.u64 r.k, Value.float FloatKind.f64 r.x] 25) = w0
  have HR0 : Hid (RB w0 w.heap.size r.k r.x) := by show RB _ _ _ _; rw [← hg]; exact rb_new _ _ _ _
  have HB0 : Hid (Below w.heap.size w w0) := by show Below _ _ _; rw [← hg]; exact below_alloc _ _
  clear hg
  refine (awake_walk _).mono ?_
  rintro e w1 ⟨rfl, hB⟩
  have HB1 : Hid (Below w.heap.size w w1) := below_trans HB0.out hB
  have HR1 : Hid (RB w1 w.heap.size r.k r.x) := HR0.out.below hB (cell_lt HR0.out.c0)
  clear hB
  have q0 : ∀ x : Obj, (w1.alloc x).cell? ⟨w.heap.size, 0, none⟩ = some (.int .u64 r.k) := fun x => (HR1.out.alloc x).c0
  have q1 : ∀ x : Obj, (w1.alloc x).cell? ⟨w.heap.size, 1, none⟩ = some (.float .f64 r.x) := fun x => (HR1.out.alloc x).c1
  go_wp2_with fail
  refine (key_walk r HR.out (ov_one w1 ⟨12, 0, 0⟩ (ok_small (by simp) (by simp)) _)).mono ?_
  rw [H4.out]
  rintro e w2 ⟨rfl, hB⟩
  have HB2 : Hid (Below w.heap.size w w2) := below_trans HB1.out (below_trans (below_alloc _ _) hB)
  have HR2 : Hid (RB w2 w.heap.size r.k r.x) := (HR1.out.alloc _).below hB (cell_lt (HR1.out.alloc _).c0)
  clear hB q0 q1
  have q0 : ∀ x : Obj, (w2.alloc x).cell? ⟨w.heap.size, 0, none⟩ = some (.int .u64 r.k) := fun x => (HR2.out.alloc x).c0
  have q1 : ∀ x : Obj, (w2.alloc x).cell? ⟨w.heap.size, 1, none⟩ = some (.float .f64 r.x) := fun x => (HR2.out.alloc x).c1
  have p0 := HR2.out.c0
  have p1 := HR2.out.c1
  go_wp2_with fail
  refine (one_walk ⟨K, n, 0⟩ r HOL.out HR.out _).mono ?_
  rw [← HP.out]
  rintro e w9 ⟨rfl, hB⟩
  have HB9 : Hid (Below w.heap.size w w9) := below_trans HB2.out hB
  have HR9 : Hid (RB w9 w.heap.size r.k r.x) := HR2.out.below hB (cell_lt HR2.out.c0)
  clear hB q0 q1 p0 p1
  have q0 : ∀ x : Obj, (w9.alloc x).cell? ⟨w.heap.size, 0, none⟩ = some (.int .u64 r.k) := fun x => (HR9.out.alloc x).c0
  go_wp2_with fail
  go_ret
  exact ⟨rfl, below_trans HB9.out (below_alloc _ _)⟩

set_option linter.unusedVariables false in
set_option maxRecDepth 100000 in
set_option maxHeartbeats 1000000 in
theorem keys_z_12 {r : Rcd} {n K : Int} (hr : r.ok) (hn : -9223372036854775808 ≤ n ∧ n < 9223372036854775808) (hK : -9223372036854775808 ≤ K ∧ K < 9223372036854775808) (hge : ¬ 1 ≤ n) (hl : (oneS ⟨K, n, 0⟩ r).1 = 1) (hk : K = 12) (w : World) :
    Calls Try.prog 3 #[.agg #[.int .u64 r.k, .float .f64 r.x], .int .i64 n, .int .i64 K] w fun e w' => e = .returned (.bool true) ∧ Below w.heap.size w w' := by
  have HR : Hid r.ok := hr
  have HOK : Hid (Stp.ok ⟨11, n, 0⟩) := ⟨by simp, hn, by simp⟩
  have HOL : Hid (Stp.ok ⟨K, n, 0⟩) := ⟨hK, hn, by simp⟩
  obtain ⟨K4, hK4⟩ : ∃ K4, K4 = r.k % 4611686018427387904 * 4 + sideN r.x := ⟨_, rfl⟩
  have H4 : Hid (runS [⟨12, 0, 0⟩] r = (1, ⟨K4, canonW r.x⟩)) := by show _ = _; rw [hK4]; exact run_side r.k r.x
  obtain ⟨s0, s1, s2, s3⟩ := side_facts hr.2 r.k hK4
  obtain ⟨P, hP⟩ : ∃ P, P = oneS ⟨K, n, 0⟩ r := ⟨_, rfl⟩
  have HP : Hid (P = oneS ⟨K, n, 0⟩ r) := hP
  rw [← hP] at hl
  have f1 : (P.1 != 1) = false := by simpa using hl
  have f2 : (K == 11) = false := by rw [hk]; rfl
  have f3 : (K == 12) = true := by simpa using hk
  clear hk
  clear hK4 hP hl hr hn hK
  go_enter Try.func3, Try.ntmps3
  go_wp2_with fail
  generalize hg : w.alloc (Obj.cells #[Value.int IntKind.u64 r.k, Value.float FloatKind.f64 r.x] 25) = w0
  have HR0 : Hid (RB w0 w.heap.size r.k r.x) := by show RB _ _ _ _; rw [← hg]; exact rb_new _ _ _ _
  have HB0 : Hid (Below w.heap.size w w0) := by show Below _ _ _; rw [← hg]; exact below_alloc _ _
  clear hg
  refine (awake_walk _).mono ?_
  rintro e w1 ⟨rfl, hB⟩
  have HB1 : Hid (Below w.heap.size w w1) := below_trans HB0.out hB
  have HR1 : Hid (RB w1 w.heap.size r.k r.x) := HR0.out.below hB (cell_lt HR0.out.c0)
  clear hB
  have q0 : ∀ x : Obj, (w1.alloc x).cell? ⟨w.heap.size, 0, none⟩ = some (.int .u64 r.k) := fun x => (HR1.out.alloc x).c0
  have q1 : ∀ x : Obj, (w1.alloc x).cell? ⟨w.heap.size, 1, none⟩ = some (.float .f64 r.x) := fun x => (HR1.out.alloc x).c1
  go_wp2_with fail
  refine (key_walk r HR.out (ov_one w1 ⟨12, 0, 0⟩ (ok_small (by simp) (by simp)) _)).mono ?_
  rw [H4.out]
  rintro e w2 ⟨rfl, hB⟩
  have HB2 : Hid (Below w.heap.size w w2) := below_trans HB1.out (below_trans (below_alloc _ _) hB)
  have HR2 : Hid (RB w2 w.heap.size r.k r.x) := (HR1.out.alloc _).below hB (cell_lt (HR1.out.alloc _).c0)
  clear hB q0 q1
  have q0 : ∀ x : Obj, (w2.alloc x).cell? ⟨w.heap.size, 0, none⟩ = some (.int .u64 r.k) := fun x => (HR2.out.alloc x).c0
  have q1 : ∀ x : Obj, (w2.alloc x).cell? ⟨w.heap.size, 1, none⟩ = some (.float .f64 r.x) := fun x => (HR2.out.alloc x).c1
  have p0 := HR2.out.c0
  have p1 := HR2.out.c1
  go_wp2_with fail
  refine (one_walk ⟨K, n, 0⟩ r HOL.out HR.out _).mono ?_
  rw [← HP.out]
  rintro e w9 ⟨rfl, hB⟩
  have HB9 : Hid (Below w.heap.size w w9) := below_trans HB2.out hB
  have HR9 : Hid (RB w9 w.heap.size r.k r.x) := HR2.out.below hB (cell_lt HR2.out.c0)
  clear hB q0 q1 p0 p1
  have q0 : ∀ x : Obj, (w9.alloc x).cell? ⟨w.heap.size, 0, none⟩ = some (.int .u64 r.k) := fun x => (HR9.out.alloc x).c0
  go_wp2_with fail
  go_ret
  exact ⟨rfl, below_trans HB9.out (below_alloc _ _)⟩

set_option linter.unusedVariables false in
set_option maxRecDepth 100000 in
set_option maxHeartbeats 1000000 in
theorem keys_z_key {r : Rcd} {n K : Int} (hr : r.ok) (hn : -9223372036854775808 ≤ n ∧ n < 9223372036854775808) (hK : -9223372036854775808 ≤ K ∧ K < 9223372036854775808) (hge : ¬ 1 ≤ n) (hl : (oneS ⟨K, n, 0⟩ r).1 = 1) (h11 : ¬ K = 11) (h12 : ¬ K = 12) (w : World) :
    Calls Try.prog 3 #[.agg #[.int .u64 r.k, .float .f64 r.x], .int .i64 n, .int .i64 K] w fun e w' => e = .returned (.bool true) ∧ Below w.heap.size w w' := by
  have HR : Hid r.ok := hr
  have HOK : Hid (Stp.ok ⟨11, n, 0⟩) := ⟨by simp, hn, by simp⟩
  have HOL : Hid (Stp.ok ⟨K, n, 0⟩) := ⟨hK, hn, by simp⟩
  obtain ⟨K4, hK4⟩ : ∃ K4, K4 = r.k % 4611686018427387904 * 4 + sideN r.x := ⟨_, rfl⟩
  have H4 : Hid (runS [⟨12, 0, 0⟩] r = (1, ⟨K4, canonW r.x⟩)) := by show _ = _; rw [hK4]; exact run_side r.k r.x
  obtain ⟨s0, s1, s2, s3⟩ := side_facts hr.2 r.k hK4
  obtain ⟨P, hP⟩ : ∃ P, P = oneS ⟨K, n, 0⟩ r := ⟨_, rfl⟩
  have HP : Hid (P = oneS ⟨K, n, 0⟩ r) := hP
  rw [← hP] at hl
  have f1 : (P.1 != 1) = false := by simpa using hl
  have f2 : (K == 11) = false := by simpa using h11
  have f3 : (K == 12) = false := by simpa using h12
  have f4 : ((P.2.k : Int) == (r.k : Int)) = true := by
    have := key_stays h11 h12 (by rw [← hP]; exact hl)
    rw [← hP] at this; rw [this]; simp
  clear h11 h12
  clear hK4 hP hl hr hn hK
  go_enter Try.func3, Try.ntmps3
  go_wp2_with fail
  generalize hg : w.alloc (Obj.cells #[Value.int IntKind.u64 r.k, Value.float FloatKind.f64 r.x] 25) = w0
  have HR0 : Hid (RB w0 w.heap.size r.k r.x) := by show RB _ _ _ _; rw [← hg]; exact rb_new _ _ _ _
  have HB0 : Hid (Below w.heap.size w w0) := by show Below _ _ _; rw [← hg]; exact below_alloc _ _
  clear hg
  refine (awake_walk _).mono ?_
  rintro e w1 ⟨rfl, hB⟩
  have HB1 : Hid (Below w.heap.size w w1) := below_trans HB0.out hB
  have HR1 : Hid (RB w1 w.heap.size r.k r.x) := HR0.out.below hB (cell_lt HR0.out.c0)
  clear hB
  have q0 : ∀ x : Obj, (w1.alloc x).cell? ⟨w.heap.size, 0, none⟩ = some (.int .u64 r.k) := fun x => (HR1.out.alloc x).c0
  have q1 : ∀ x : Obj, (w1.alloc x).cell? ⟨w.heap.size, 1, none⟩ = some (.float .f64 r.x) := fun x => (HR1.out.alloc x).c1
  go_wp2_with fail
  refine (key_walk r HR.out (ov_one w1 ⟨12, 0, 0⟩ (ok_small (by simp) (by simp)) _)).mono ?_
  rw [H4.out]
  rintro e w2 ⟨rfl, hB⟩
  have HB2 : Hid (Below w.heap.size w w2) := below_trans HB1.out (below_trans (below_alloc _ _) hB)
  have HR2 : Hid (RB w2 w.heap.size r.k r.x) := (HR1.out.alloc _).below hB (cell_lt (HR1.out.alloc _).c0)
  clear hB q0 q1
  have q0 : ∀ x : Obj, (w2.alloc x).cell? ⟨w.heap.size, 0, none⟩ = some (.int .u64 r.k) := fun x => (HR2.out.alloc x).c0
  have q1 : ∀ x : Obj, (w2.alloc x).cell? ⟨w.heap.size, 1, none⟩ = some (.float .f64 r.x) := fun x => (HR2.out.alloc x).c1
  have p0 := HR2.out.c0
  have p1 := HR2.out.c1
  go_wp2_with fail
  refine (one_walk ⟨K, n, 0⟩ r HOL.out HR.out _).mono ?_
  rw [← HP.out]
  rintro e w9 ⟨rfl, hB⟩
  have HB9 : Hid (Below w.heap.size w w9) := below_trans HB2.out hB
  have HR9 : Hid (RB w9 w.heap.size r.k r.x) := HR2.out.below hB (cell_lt HR2.out.c0)
  clear hB q0 q1 p0 p1
  have q0 : ∀ x : Obj, (w9.alloc x).cell? ⟨w.heap.size, 0, none⟩ = some (.int .u64 r.k) := fun x => (HR9.out.alloc x).c0
  go_wp2_with fail
  go_ret
  exact ⟨rfl, below_trans HB9.out (below_alloc _ _)⟩

theorem opskeys_walk {r : Rcd} (hr : r.ok) {n : Int} (hn : -9223372036854775808 ≤ n ∧ n < 9223372036854775808) {K : Int} (hK : -9223372036854775808 ≤ K ∧ K < 9223372036854775808) (w : World) :
    Calls Try.prog 3 #[.agg #[.int .u64 r.k, .float .f64 r.x], .int .i64 n, .int .i64 K] w fun e w' => e = .returned (.bool true) ∧ Below w.heap.size w w' := by
  by_cases hge : 1 ≤ n
  · by_cases hl : (oneS ⟨K, n, 0⟩ r).1 = 1
    · by_cases h11 : K = 11
      · exact keys_n_11 hr hn hK hge hl h11 w
      · by_cases h12 : K = 12
        · exact keys_n_12 hr hn hK hge hl h12 w
        · exact keys_n_key hr hn hK hge hl h11 h12 w
    · exact keys_n_no hr hn hK hge hl w
  · by_cases hl : (oneS ⟨K, n, 0⟩ r).1 = 1
    · by_cases h11 : K = 11
      · exact keys_z_11 hr hn hK hge hl h11 w
      · by_cases h12 : K = 12
        · exact keys_z_12 hr hn hK hge hl h12 w
        · exact keys_z_key hr hn hK hge hl h11 h12 w
    · exact keys_z_no hr hn hK hge hl w
end Go.Proofs.Ytkpfjoklbindjab
