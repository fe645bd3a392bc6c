/- PagesRefuses' walk. -/
import Derived.Test.YtfjgpkpkhccliaaQg
import Derived.Test.YtfjgpkpkhccliaaQh
namespace Go.Proofs.Ytfjgpkpkhccliaa
open Go.RowKit
theorem refuses_walk9 {w : World} {lv u : Value} {lss : List (List (Int × List Nat))} {p0 how : Int} {d0 : List Nat} (hl : Lv w lv lss) (hb : Bv w u d0) (hp0 : -9223372036854775808 ≤ p0 ∧ p0 < 9223372036854775808) :
    Calls Try.prog 8 #[lv, .agg #[.int .i64 p0, u], .int .i64 how] w fun e w' => e = .returned (.bool true) ∧ Below w.heap.size w w' := by
  obtain ⟨uo, uc, rfl, _, _⟩ := bv_form hb
  have hm1 : modN how 3 < 3 := mod_lt how (by omega)
  have hm2 : (IntKind.u64.wrap how).tmod 3 = (modN how 3 : Int) := mod_eq how (n := 3)
  rcases (show modN how 3 = 0 ∨ modN how 3 = 1 ∨ modN how 3 = 2 by omega) with e | e | e
  · exact refuses_walk_0 hl hb hp0 (by rw [hm2, e]; rfl)
  · exact refuses_walk_1 hl hb hp0 (by rw [hm2, e]; rfl)
  · exact refuses_walk_2 hl hb hp0 (by rw [hm2, e]; rfl)
end Go.Proofs.Ytfjgpkpkhccliaa
