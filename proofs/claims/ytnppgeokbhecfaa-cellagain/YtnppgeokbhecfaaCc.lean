/- Contracts of cell's Fit and Apply. -/
import Derived.Test.YtnppgeokbhecfaaCb
namespace Go.Proofs.Ytnppgeokbhecfaa
open Ieee Go.RowKit

set_option maxHeartbeats 1000000 in
theorem cfit_walk (k : Int) {c : Cl} (hc : c.ok) (w : World) :
    Calls Try.prog 15 #[.int .i64 k, .agg #[.int .u64 c.k, .bool c.p.h, .int .u64 c.p.b, .bool c.c.h, .int .u64 c.c.b, .int .i64 c.n]] w fun e w' => e = .returned (.bool (fitC k c)) ∧ Below w.heap.size w w' := by
  unfold fitC
  have HC : Hid c.ok := hc
  clear hc
  obtain ⟨a1, ha1⟩ : ∃ a, a = eqV (fitV k c.p) c.p := ⟨_, rfl⟩
  obtain ⟨a2, ha2⟩ : ∃ a, a = eqV (fitV k c.c) c.c := ⟨_, rfl⟩
  have H1 : Hid (eqV (fitV k c.p) c.p = a1) := ha1.symm
  have H2 : Hid (eqV (fitV k c.c) c.c = a2) := ha2.symm
  rw [← ha1, ← ha2]
  clear ha1 ha2
  go_enter Try.func15, Try.ntmps15
  go_wp2_with fail
  generalize hg : w.alloc (Obj.cells #[.int .u64 c.k, .bool c.p.h, .int .u64 c.p.b, .bool c.c.h, .int .u64 c.c.b, .int .i64 c.n] 26) = w1
  have HV : Hid (CB w1 w.heap.size c) := by show CB _ _ _; rw [← hg]; exact cb_new w c
  have HB : Hid (Below w.heap.size w w1) := by show Below _ _ _; rw [← hg]; exact below_alloc _ _
  clear hg
  obtain ⟨c0, c1, c2, c3, c4, c5, zz⟩ := HV.out
  cases hk : knownB k
  · go_wp2_with (go_at_call 20; refine (known_walk _ _).mono ?_; rintro e w' ⟨rfl, rfl⟩)
    go_ret
    exact ⟨by simp [hk], HB.out⟩
  cases a1
  · go_wp2_with (first
      | (go_at_call 20; refine (known_walk _ _).mono ?_; rintro e w' ⟨rfl, rfl⟩)
      | (go_at_call 26; have hT := hS9; clear hT; refine (fitValue_walk _ HC.out.2 _).mono ?_; rw [H2.out]; rintro e w9 ⟨rfl, hB9⟩; have hS9 := below_trans hS9 hB9; obtain ⟨c0, c1, c2, c3, c4, c5, zz⟩ := HV.out.below hS9 (cell_lt HV.out.c0); clear hB9)
      | (go_at_call 26; refine (fitValue_walk _ HC.out.1 _).mono ?_; rw [H1.out]; rintro e w9 ⟨rfl, hB9⟩; have hS9 := hB9; obtain ⟨c0, c1, c2, c3, c4, c5, zz⟩ := HV.out.below hS9 (cell_lt HV.out.c0); clear hB9))
    go_ret
    exact ⟨by simp, below_trans HB.out (by assumption)⟩
  cases a2
  · go_wp2_with (first
      | (go_at_call 20; refine (known_walk _ _).mono ?_; rintro e w' ⟨rfl, rfl⟩)
      | (go_at_call 26; have hT := hS9; clear hT; refine (fitValue_walk _ HC.out.2 _).mono ?_; rw [H2.out]; rintro e w9 ⟨rfl, hB9⟩; have hS9 := below_trans hS9 hB9; obtain ⟨c0, c1, c2, c3, c4, c5, zz⟩ := HV.out.below hS9 (cell_lt HV.out.c0); clear hB9)
      | (go_at_call 26; refine (fitValue_walk _ HC.out.1 _).mono ?_; rw [H1.out]; rintro e w9 ⟨rfl, hB9⟩; have hS9 := hB9; obtain ⟨c0, c1, c2, c3, c4, c5, zz⟩ := HV.out.below hS9 (cell_lt HV.out.c0); clear hB9))
    go_ret
    exact ⟨by simp, below_trans HB.out (by assumption)⟩
  go_wp2_with (first
      | (go_at_call 20; refine (known_walk _ _).mono ?_; rintro e w' ⟨rfl, rfl⟩)
      | (go_at_call 26; have hT := hS9; clear hT; refine (fitValue_walk _ HC.out.2 _).mono ?_; rw [H2.out]; rintro e w9 ⟨rfl, hB9⟩; have hS9 := below_trans hS9 hB9; obtain ⟨c0, c1, c2, c3, c4, c5, zz⟩ := HV.out.below hS9 (cell_lt HV.out.c0); clear hB9)
      | (go_at_call 26; refine (fitValue_walk _ HC.out.1 _).mono ?_; rw [H1.out]; rintro e w9 ⟨rfl, hB9⟩; have hS9 := hB9; obtain ⟨c0, c1, c2, c3, c4, c5, zz⟩ := HV.out.below hS9 (cell_lt HV.out.c0); clear hB9))
  all_goals (go_ret; exact ⟨by (try simp_all) <;> omega, below_trans HB.out (by assumption)⟩)
end Go.Proofs.Ytnppgeokbhecfaa
