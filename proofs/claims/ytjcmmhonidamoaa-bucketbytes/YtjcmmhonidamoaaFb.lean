/- The walk of BucketBytes. -/
import Derived.Test.YtjcmmhonidamoaaBq
import Derived.Test.YtjcmmhonidamoaaBr
import Derived.Test.YtjcmmhonidamoaaCd
namespace Go.Proofs.Ytjcmmhonidamoaa
open Go.RowKit

theorem enc_bytes {l : List Cl} (hok : ∀ c ∈ l, c.ok) : ∀ x ∈ (encode l).1, x < 256 := by
  by_cases h : (encode l).2 = 0
  · exact form_bytes h hok
  · rw [encode_nil h]; simp

set_option maxRecDepth 100000 in
set_option maxHeartbeats 2000000 in
theorem bucketbytes_walk {w : World} {cv : Value} {l : List Cl} (hc : Cv w cv l) (hok : ∀ c ∈ l, c.ok) :
    Calls Try.prog 3 #[cv] w fun e w' => e = .returned (.bool true) ∧ Below w.heap.size w w' := by
  have HCW : Hid (Cv w cv l) := hc
  have HOK : Hid (∀ c ∈ l, c.ok) := hok
  clear hc hok
  go_enter Try.func3, Try.ntmps3
  go_wp2_with fail
  refine (awake_walk _).mono ?_
  rintro e w1 ⟨rfl, hB1⟩
  have HB1 : Hid (Below w.heap.size w w1) := hB1
  clear hB1
  go_wp2_with fail
  refine (encode_walk (HCW.out.below HB1.out) HOK.out).mono ?_
  rintro e w2 ⟨v2, rfl, ho2, hB2⟩
  have HB2 : Hid (Below w.heap.size w w2) := below_trans HB1.out hB2
  have HV2 : Hid (Bv w2 v2 (encode l).1) := own_bv ho2 (enc_bytes HOK.out)
  clear hB2 ho2
  go_wp2_with fail
  refine (rencode_walk (HCW.out.below HB2.out) HOK.out).mono ?_
  rintro e w3 ⟨v3, rfl, ho3, hB3⟩
  have HB3 : Hid (Below w.heap.size w w3) := below_trans HB2.out hB3
  have HV3 : Hid (Bv w3 v3 (encode l).1) := own_bv ho3 (enc_bytes HOK.out)
  have HU3 : Hid (Bv w3 v2 (encode l).1) := HV2.out.below hB3
  obtain ⟨E, hE⟩ : ∃ E, E = (encode l).2 := ⟨_, rfl⟩
  obtain ⟨L, hL⟩ : ∃ L, L = (encode l).1 := ⟨_, rfl⟩
  rw [← hE]
  rw [← hL] at HV3 HU3
  have hs2 : (convert 24 9 v2).run Try.prog w3 = .ok (.string (str L)) w3 := HU3.out.str 24 5 9 Try.underlying24 Try.underlying5 Try.underlying9
  have hs3 : (convert 24 9 v3).run Try.prog w3 = .ok (.string (str L)) w3 := HV3.out.str 24 5 9 Try.underlying24 Try.underlying5 Try.underlying9
  clear hB3 ho3 hE hL
  go_wp2_with fail
  go_ret
  exact ⟨rfl, HB3.out⟩
end Go.Proofs.Ytjcmmhonidamoaa
