/- A write among the arguments, opened. -/
import Derived.Test.YtfjgpkpkhccliaaPz
namespace Go.Proofs.Ytfjgpkpkhccliaa
open Go.ChangeShapes Go.WideShapes Go.ChangeAt Go.RowKit

set_option maxRecDepth 20000 in
theorem open_pw {H : Type} {enc : TypeId × Value → H} {W : World} {v : Value} {d : DataW H} {p : List MemPlace} {base : Nat} (hv : Value.okWide Try.prog W .any base 56 v) (h : DataW.Trod enc Try.prog W 0 (fun _ => true) true 56 v d p) :
    ∃ (wp : Int) (wu : Value) (wd : List Nat), v = .agg #[.int .i64 wp, wu] ∧ Bv W wu wd ∧ (-9223372036854775808 ≤ wp ∧ wp < 9223372036854775808) := by
  obtain ⟨cs, rfl, hsz⟩ := okWide_struct Try.underlying56 hv
  obtain ⟨fuel, hf⟩ := h
  have h2 : cs.size = 2 := by simpa [Value.cells, cells_put] using hsz
  have hl : cs.toList.length = 2 := by rw [Array.length_toList]; exact h2
  simp only [Value.cells] at hf
  obtain ⟨t, u, e, hb, hr⟩ := cells_of_put hl hf
  refine ⟨t.1, u, t.2, ?_, hb, hr⟩
  have : cs = #[.int .i64 t.1, u] := by apply Array.toList_inj.1; rw [e]
  rw [this]
end Go.Proofs.Ytfjgpkpkhccliaa
