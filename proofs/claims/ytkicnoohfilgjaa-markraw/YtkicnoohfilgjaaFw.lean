/- The walk of MarkRaw. -/
import Derived.Test.YtkicnoohfilgjaaKs

import Derived.Test.YtkicnoohfilgjaaKq

namespace Go.Proofs.Ytkicnoohfilgjaa

open Go.RowKit



set_option maxRecDepth 100000 in
set_option maxHeartbeats 4000000 in
theorem markraw_walk {w : World} {bv : Value} {l : List Nat} (hb : Bv w bv l) :
    Calls Try.prog 3 #[bv] w fun e w' => e = .returned (.bool true) ∧ Below w.heap.size w w' := by
  have HBW : Hid (Bv w bv l) := hb
  obtain ⟨⟨⟨B, A, K⟩, E⟩, hD⟩ : ∃ D, decM l = D := ⟨_, rfl⟩
  have HD : Hid (decM l = (⟨B, A, K⟩, E)) := hD
  clear hb hD
  go_enter Try.func3, Try.ntmps3
  go_wp2_with fail
  refine (awake_walk _).mono ?_
  rintro e w1 ⟨rfl, hB1⟩
  have HB1 : Hid (Below w.heap.size w w1) := hB1
  clear hB1
  go_wp2_with fail
  refine (mdec_walk (HBW.out.below HB1.out)).mono ?_
  unfold DGot
  rw [HD.out]
  rintro e w2 ⟨v2, rfl, ho2, hB2⟩
  have HB2 : Hid (Below w.heap.size w w2) := below_trans HB1.out hB2
  have HK2 : Hid (Kv w2 v2 K) := own_sv ho2
  clear hB2 ho2 HB1
  obtain ⟨va, vn, vc, hvv⟩ := sv_any HK2.out
  subst hvv
  go_upto_region 4 with fail
  have HM3 : Hid _ := mb_new w2 B A (.slice va vn vc)
  have HK3 : Hid (Kv (w2.alloc (Obj.cells #[.int .i64 B, .int .i64 A, .slice va vn vc] 26)) (.slice va vn vc) K) := HK2.out.below (below_alloc _ _)
  have HB3 : Hid (Below w.heap.size w (w2.alloc (Obj.cells #[.int .i64 B, .int .i64 A, .slice va vn vc] 26))) := below_trans HB2.out (below_alloc _ _)
  generalize hP : w2.heap.size = P at HM3 ⊢
  clear hP HB2 HK2
  generalize w2.alloc (Obj.cells #[.int .i64 B, .int .i64 A, .slice va vn vc] 26) = w3 at HM3 HK3 HB3 ⊢
  go_wp2_with fail
  refine (rmdec_walk (HBW.out.below HB3.out)).mono ?_
  unfold DGot
  rw [HD.out]
  rintro e w4 ⟨v4, rfl, ho4, hB4⟩
  have HB4 : Hid (Below w.heap.size w w4) := below_trans HB3.out hB4
  have HK4 : Hid (Kv w4 v4 K) := own_sv ho4
  have HU4 : Hid (Kv w4 (.slice va vn vc) K) := HK3.out.below hB4
  have HM4 : Hid _ := HM3.out.keep hB4
  clear hB4 ho4 HB3 HK3 HM3
  obtain ⟨ua, un, uc, huu⟩ := sv_any HK4.out
  subst huu
  go_upto_region 5 with fail
  have HM5 : Hid _ := mb_new w4 B A (.slice ua un uc)
  have HN5 : Hid _ := HM4.out.keep (below_alloc w4 (Obj.cells #[.int .i64 B, .int .i64 A, .slice ua un uc] 26))
  have HK5 : Hid (Kv (w4.alloc (Obj.cells #[.int .i64 B, .int .i64 A, .slice ua un uc] 26)) (.slice ua un uc) K) := HK4.out.below (below_alloc _ _)
  have HU5 : Hid (Kv (w4.alloc (Obj.cells #[.int .i64 B, .int .i64 A, .slice ua un uc] 26)) (.slice va vn vc) K) := HU4.out.below (below_alloc _ _)
  have HB5 : Hid (Below w.heap.size w (w4.alloc (Obj.cells #[.int .i64 B, .int .i64 A, .slice ua un uc] 26))) := below_trans HB4.out (below_alloc _ _)
  generalize hQ : w4.heap.size = Q at HM5 ⊢
  clear hQ HB4 HK4 HU4 HM4
  generalize w4.alloc (Obj.cells #[.int .i64 B, .int .i64 A, .slice ua un uc] 26) = w5 at HM5 HN5 HK5 HU5 HB5 ⊢
  have m0 := HM5.out.c0
  have m1 := HM5.out.c1
  have m2 := HM5.out.c2
  have n0 := HN5.out.c0
  have n1 := HN5.out.c1
  have n2 := HN5.out.c2
  go_wp2_with fail
  refine (msame_walk B A HU5.out HK5.out).mono ?_
  rintro e w6 ⟨rfl, hB6⟩
  have hEE : ((E : Int) == (E : Int)) = true := by simp
  go_wp2_with fail
  go_ret
  exact ⟨rfl, below_trans HB5.out hB6⟩
end Go.Proofs.Ytkicnoohfilgjaa


