/- The walk of BucketRaw. -/
import Derived.Test.YtjcmmhonidamoaaCg
namespace Go.Proofs.Ytjcmmhonidamoaa
open Go.RowKit

set_option maxRecDepth 100000 in
set_option maxHeartbeats 2000000 in
theorem bucketraw_walk {w : World} {bv : Value} {l : List Nat} (hb : Bv w bv l) :
    Calls Try.prog 4 #[bv] w fun e w' => e = .returned (.bool true) ∧ Below w.heap.size w w' := by
  have HBW : Hid (Bv w bv l) := hb
  clear hb
  go_enter Try.func4, Try.ntmps4
  go_wp2_with fail
  refine (awake_walk _).mono ?_
  rintro e w1 ⟨rfl, hB1⟩
  have HB1 : Hid (Below w.heap.size w w1) := hB1
  clear hB1
  go_wp2_with fail
  refine (decode_walk (HBW.out.below HB1.out)).mono ?_
  rintro e w2 ⟨v2, rfl, ho2, hB2⟩
  obtain ⟨E, hE⟩ : ∃ E, E = (decode l).2 := ⟨_, rfl⟩
  rw [← hE]
  have HE : Hid (E = (decode l).2) := hE
  have HB2 : Hid (Below w.heap.size w w2) := below_trans HB1.out hB2
  have HV2 : Hid (Cv w2 v2 (decode l).1) := (own_cv ho2).1
  clear hB2 ho2 hE
  go_wp2_with fail
  refine (rdecode_walk (HBW.out.below HB2.out)).mono ?_
  rintro e w3 ⟨v3, he, ho3, hB3⟩
  rw [← HE.out] at he
  subst he
  have HB3 : Hid (Below w.heap.size w w3) := below_trans HB2.out hB3
  have HV3 : Hid (Cv w3 v3 (decode l).1) := (own_cv ho3).1
  have HU3 : Hid (Cv w3 v2 (decode l).1) := HV2.out.below hB3
  clear hB3 ho3
  go_wp2_with fail
  refine (same_walk HU3.out HV3.out).mono ?_
  rintro e w4 ⟨rfl, hB4⟩
  have hEE : ((E : Int) == (E : Int)) = true := by simp
  go_wp2_with fail
  go_ret
  exact ⟨rfl, below_trans HB3.out hB4⟩
end Go.Proofs.Ytjcmmhonidamoaa
