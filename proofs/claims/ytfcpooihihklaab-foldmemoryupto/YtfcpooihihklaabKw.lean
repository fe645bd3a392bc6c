/- From the walk to the row: slices of pairs among the arguments, opened. -/
import Derived.Test.YtfcpooihihklaabKz
namespace Go.Proofs.Ytfcpooihihklaab
open Go.ChangeShapes Go.WideShapes Go.ChangeAt Go.RowKit

set_option maxRecDepth 20000 in
theorem open_qv {H : Type} {enc : TypeId × Value → H} {W : World} {v : Value} {d : DataW H} {p : List MemPlace} {base : Nat}
    (hv : Value.okWide Try.prog W .any base 28 v) (h : DataW.Trod enc Try.prog W 0 (fun _ => true) true 28 v d p) :
    ∃ l : List Pr, Qv W v l ∧ ((d = .nil ∧ l = []) ∨ ∃ elems spare, d = .slice elems spare ∧ elems.length = l.length) := by
  obtain ⟨ao, len0, cap0, rfl⟩ := okWide_slice Try.underlying28 hv
  obtain ⟨fuel, hf⟩ := h
  obtain ⟨v', l, e, hq, hz⟩ := core_qv hf
  simp only [Value.cells, List.cons.injEq, and_true] at e
  subst e
  exact ⟨l, hq, hz⟩

set_option maxRecDepth 20000 in
/-- How many pairs an argument has at most. -/
theorem sized_pairs {H : Type} {ts : List TypeId} {ds : List (DataW H)} {d : DataW H} {l : List Pr} (h : (DataW.weightsEach Try.prog ts ds).all (· ≤ reachBytes) = true) {j : Nat} (ht : ts[j]? = some 28) (hd : ds[j]? = some d)
    (hz : (d = .nil ∧ l = []) ∨ ∃ elems spare, d = .slice elems spare ∧ elems.length = l.length) : l.length * 24 ≤ 140737488351232 := by
  rcases hz with ⟨_, rfl⟩ | ⟨elems, spare, rfl, hl⟩
  · simp
  · have := sized_slice h ht hd Try.underlying28
    rw [bytes_pair] at this
    simp only [reachBytes] at this
    omega
end Go.Proofs.Ytfcpooihihklaab
