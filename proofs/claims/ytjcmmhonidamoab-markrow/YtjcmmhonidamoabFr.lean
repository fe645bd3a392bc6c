/- The walk of MarkRow. -/
import Derived.Test.YtjcmmhonidamoabRa
import Derived.Test.YtjcmmhonidamoabRb
import Derived.Test.YtjcmmhonidamoabRc
import Derived.Test.YtjcmmhonidamoabRd
import Derived.Test.YtjcmmhonidamoabRe
namespace Go.Proofs.Ytjcmmhonidamoab
open Go.RowKit

theorem cmpA_lt {b a ob oa : Int} (h : b < ob ∨ b = ob ∧ a < oa) : cmpA b a ob oa = -1 := by
  rcases cmpA_cases b a ob oa with ⟨_, e⟩ | ⟨h2, _⟩ | ⟨h2, h3, _⟩
  · exact e
  · omega
  · omega
theorem cmpA_gt {b a ob oa : Int} (h : ob < b ∨ b = ob ∧ oa < a) : cmpA b a ob oa = 1 := by
  rcases cmpA_cases b a ob oa with ⟨h2, _⟩ | ⟨_, e⟩ | ⟨h2, h3, _⟩
  · omega
  · exact e
  · omega
theorem cmpA_eq (b a : Int) : cmpA b a b a = 0 := by
  rcases cmpA_cases b a b a with ⟨h2, _⟩ | ⟨h2, _⟩ | ⟨_, _, e⟩
  · omega
  · omega
  · exact e
theorem cmpA_pos {b a ob oa : Int} (h : ¬ 0 < cmpA b a ob oa) : b < ob ∨ b = ob ∧ a ≤ oa := by
  rcases cmpA_cases b a ob oa with ⟨h2, _⟩ | ⟨h2, e⟩ | ⟨h2, h3, e⟩
  · omega
  · rw [e] at h; omega
  · omega
theorem cmpA_npos {b a ob oa : Int} (h : b < ob ∨ b = ob ∧ a ≤ oa) : ¬ 0 < cmpA b a ob oa := by
  rcases cmpA_cases b a ob oa with ⟨_, e⟩ | ⟨h2, _⟩ | ⟨_, _, e⟩
  · rw [e]; omega
  · omega
  · rw [e]; omega
theorem jud_arg {mb ma b a : Int} (h : b < 1 ∨ a < 1) : judI mb ma b a = 1 := by unfold judI; rw [if_pos h]
theorem jud_fine {mb ma b a c : Int} (h1 : ¬ b < 1) (h2 : ¬ a < 1) (h : cmpA b a mb ma = c) : judI mb ma b a = judE c := by unfold judI; rw [if_neg (by omega), h]

theorem markrow_walk (ab aa bb ba cb ca : Int) (w : World) :
    Calls Try.prog 8 #[.agg #[.int .i64 ab, .int .i64 aa], .agg #[.int .i64 bb, .int .i64 ba], .agg #[.int .i64 cb, .int .i64 ca]] w fun e w' => e = .returned (.bool true) ∧ Below w.heap.size w w' := by
  have bne : ∀ x y : Int, x ≠ y → (x == y) = false := fun x y h => by rw [beq_eq_false_iff_ne]; exact h
  by_cases k1 : ab < bb
  · have v1 := cmpA_lt (a := aa) (oa := ba) (.inl k1)
    have v4 : cmpA bb ba ab aa = 1 := cmpA_gt (.inl k1)
    have e2 := bne ab bb (by omega)
    by_cases k2 : 0 < cmpA bb ba cb ca
    · by_cases g1 : ab < 1
      · exact row_B1pu ab aa bb ba cb ca 0 _ _ 0 0 w v1 rfl rfl v4 (jud_arg (.inl g1)) (jud_arg (.inl g1)) k1 e2 k2 (by omega) g1
      · by_cases g2 : aa < 1
        · exact row_B1pv ab aa bb ba cb ca 0 _ _ 0 0 w v1 rfl rfl v4 (jud_arg (.inr g2)) (jud_arg (.inr g2)) k1 e2 k2 (by omega) g1 g2
        · exact row_B1pz ab aa bb ba cb ca 0 _ _ 0 _ w v1 rfl rfl v4 (jud_fine g1 g2 v1) rfl k1 e2 k2 (by omega) g1 g2
    · have k3 := cmpA_pos k2
      have v3 : cmpA ab aa cb ca = -1 := cmpA_lt (by omega)
      have n3 : ¬ 0 < cmpA ab aa cb ca := by rw [v3]; omega
      by_cases g1 : ab < 1
      · exact row_B1qu ab aa bb ba cb ca 0 _ _ 0 0 w v1 rfl rfl v4 (jud_arg (.inl g1)) (jud_arg (.inl g1)) k1 e2 k2 (by omega) n3 g1
      · by_cases g2 : aa < 1
        · exact row_B1qv ab aa bb ba cb ca 0 _ _ 0 0 w v1 rfl rfl v4 (jud_arg (.inr g2)) (jud_arg (.inr g2)) k1 e2 k2 (by omega) n3 g1 g2
        · exact row_B1qz ab aa bb ba cb ca 0 _ _ 0 0 w v1 rfl rfl v4 (jud_fine g1 g2 v1) (jud_fine g1 g2 v3) k1 e2 k2 (by omega) n3 g1 g2
  · by_cases k0 : ab = bb
    · subst k0
      by_cases k4 : aa < ba
      · have v1 : cmpA ab aa ab ba = -1 := cmpA_lt (.inr ⟨rfl, k4⟩)
        have v4 : cmpA ab ba ab aa = 1 := cmpA_gt (.inr ⟨rfl, k4⟩)
        have e4 := bne aa ba (by omega)
        by_cases k2 : 0 < cmpA ab ba cb ca
        · by_cases g1 : ab < 1
          · exact row_B2pu aa ab ba cb ca 0 _ _ 0 0 w v1 rfl rfl v4 (jud_arg (.inl g1)) (jud_arg (.inl g1)) k4 e4 k2 (by omega) g1
          · by_cases g2 : aa < 1
            · exact row_B2pv aa ab ba cb ca 0 _ _ 0 0 w v1 rfl rfl v4 (jud_arg (.inr g2)) (jud_arg (.inr g2)) k4 e4 k2 (by omega) g1 g2
            · exact row_B2pz aa ab ba cb ca 0 _ _ 0 _ w v1 rfl rfl v4 (jud_fine g1 g2 v1) rfl k4 e4 k2 (by omega) g1 g2
        · have k3 := cmpA_pos k2
          have v3 : cmpA ab aa cb ca = -1 := cmpA_lt (by omega)
          have n3 : ¬ 0 < cmpA ab aa cb ca := by rw [v3]; omega
          by_cases g1 : ab < 1
          · exact row_B2qu aa ab ba cb ca 0 _ _ 0 0 w v1 rfl rfl v4 (jud_arg (.inl g1)) (jud_arg (.inl g1)) k4 e4 k2 (by omega) n3 g1
          · by_cases g2 : aa < 1
            · exact row_B2qv aa ab ba cb ca 0 _ _ 0 0 w v1 rfl rfl v4 (jud_arg (.inr g2)) (jud_arg (.inr g2)) k4 e4 k2 (by omega) n3 g1 g2
            · exact row_B2qz aa ab ba cb ca 0 _ _ 0 0 w v1 rfl rfl v4 (jud_fine g1 g2 v1) (jud_fine g1 g2 v3) k4 e4 k2 (by omega) n3 g1 g2
      · by_cases k5 : aa = ba
        · subst k5
          have v1 := cmpA_eq ab aa
          by_cases k2 : 0 < cmpA ab aa cb ca
          · by_cases g1 : ab < 1
            · exact row_Cpu ab aa cb ca 0 _ _ 0 0 w v1 rfl rfl v1 (jud_arg (.inl g1)) (jud_arg (.inl g1)) k2 (by omega) g1
            · by_cases g2 : aa < 1
              · exact row_Cpv ab aa cb ca 0 _ _ 0 0 w v1 rfl rfl v1 (jud_arg (.inr g2)) (jud_arg (.inr g2)) k2 (by omega) g1 g2
              · exact row_Cpz ab aa cb ca 0 _ _ 0 _ w v1 rfl rfl v1 (jud_fine g1 g2 v1) rfl k2 (by omega) g1 g2
          · by_cases g1 : ab < 1
            · exact row_Cqu ab aa cb ca 0 _ _ 0 0 w v1 rfl rfl v1 (jud_arg (.inl g1)) (jud_arg (.inl g1)) k2 (by omega) k2 g1
            · by_cases g2 : aa < 1
              · exact row_Cqv ab aa cb ca 0 _ _ 0 0 w v1 rfl rfl v1 (jud_arg (.inr g2)) (jud_arg (.inr g2)) k2 (by omega) k2 g1 g2
              · exact row_Cqz ab aa cb ca 0 _ _ 0 _ w v1 rfl rfl v1 (jud_fine g1 g2 v1) rfl k2 (by omega) k2 g1 g2
        · have v1 : cmpA ab aa ab ba = 1 := cmpA_gt (.inr ⟨rfl, by omega⟩)
          have v4 : cmpA ab ba ab aa = -1 := cmpA_lt (.inr ⟨rfl, by omega⟩)
          have e4 := bne aa ba k5
          by_cases g1 : ab < 1
          · exact row_A2xu aa ab ba cb ca 0 _ _ 0 0 w v1 rfl rfl v4 (jud_arg (.inl g1)) (jud_arg (.inl g1)) k4 e4 g1
          · by_cases g2 : aa < 1
            · exact row_A2xv aa ab ba cb ca 0 _ _ 0 0 w v1 rfl rfl v4 (jud_arg (.inr g2)) (jud_arg (.inr g2)) k4 e4 g1 g2
            · exact row_A2xz aa ab ba cb ca 0 _ _ 0 _ w v1 rfl rfl v4 (jud_fine g1 g2 v1) rfl k4 e4 g1 g2
    · have v1 : cmpA ab aa bb ba = 1 := cmpA_gt (.inl (by omega))
      have v4 : cmpA bb ba ab aa = -1 := cmpA_lt (.inl (by omega))
      have e2 := bne ab bb k0
      by_cases g1 : ab < 1
      · exact row_A1xu ab aa bb ba cb ca 0 _ _ 0 0 w v1 rfl rfl v4 (jud_arg (.inl g1)) (jud_arg (.inl g1)) k1 e2 g1
      · by_cases g2 : aa < 1
        · exact row_A1xv ab aa bb ba cb ca 0 _ _ 0 0 w v1 rfl rfl v4 (jud_arg (.inr g2)) (jud_arg (.inr g2)) k1 e2 g1 g2
        · exact row_A1xz ab aa bb ba cb ca 0 _ _ 0 _ w v1 rfl rfl v4 (jud_fine g1 g2 v1) rfl k1 e2 g1 g2
end Go.Proofs.Ytjcmmhonidamoab
