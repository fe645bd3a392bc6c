/- A slice of floats among the arguments, opened; and that what only drew from the tape reads as before. -/
import Derived.Test.YtjieoemknocikaaRows
import Derived.Test.YtjieoemknocikaaFp
import Derived.WalkKit
import Derived.ProofKit
import Derived.OpenShut
import Derived.Carry
import Derived.Deep.Slices
import Derived.Deep.Draws
namespace Go.Proofs.Ytjieoemknocikaa
open Go.ChangeShapes Go.WideShapes Go.ChangeAt Go.RowKit

theorem own_knob : ownKnob Try.prog.godebug = none := by kernel_rfl
theorem cells_f : Try.prog.cellsOf 24 = 1 := by kernel_rfl

theorem grown_drewN (W : World) (n : Nat) : Grown W (W.drewN n) := Grown.refl W
theorem lt64_of_wf {x : Nat} (h : (Lit.float .f64 x).wf = true) : x < 18446744073709551616 := by
  simpa [Lit.wf] using h

/-- The cells of a slice of floats. -/
def Floats (W : World) (b off len : Nat) (X : Nat → Nat) : Prop := ∀ i, i < len → W.cell? ⟨b, off + i, none⟩ = some (.float .f64 (X i)) ∧ X i < 18446744073709551616

theorem floats_open {H : Type} {enc : TypeId × Value → H} {W : World} {v : Value} {d : DataW H} {p : List MemPlace} {base : Nat}
    (hv : Value.okWide Try.prog W .any base 22 v) (h : DataW.Trod enc Try.prog W 0 (fun _ => true) true 22 v d p) :
    (∃ a cap, v = .slice a 0 cap) ∨ ∃ b off len cap X, v = .slice (some ⟨b, off, none⟩) len cap ∧ len ≤ cap ∧ cap ≤ maxLen ∧ Floats W b off len X := by
  obtain ⟨a0, len, cap, rfl⟩ := okWide_slice Try.underlying22 hv
  by_cases h0 : len = 0
  · subst h0; exact .inl ⟨a0, cap, rfl⟩
  right
  obtain ⟨fuel, hf⟩ := h
  rcases Go.Deep.open_slice1 Try.underlying22 cells_f hf with ⟨hcs, hx⟩ | ⟨a, len', cap', m, n, V, D, Pl, hcs, _, hl, hm, hmm, hx, hel⟩
  · simp [Value.cells] at hcs; omega
  · simp [Value.cells] at hcs
    obtain ⟨rfl, rfl, rfl⟩ := hcs
    simp only [if_true] at hmm
    have each : ∀ i, i < len → ∃ x, W.cell? (a.add i) = some (.float .f64 x) ∧ x < 18446744073709551616 := by
      intro i hi
      obtain ⟨h1, h2⟩ := hel i (by omega)
      cases n with
      | zero => simp [DataW.trod] at h2
      | succ n =>
        rw [h1]
        simp only [DataW.trod, Try.underlying24] at h2
        generalize V i = v at *
        cases v <;> simp at h2
        rename_i k x
        obtain ⟨⟨rfl, hw⟩, _⟩ := h2
        exact ⟨x, rfl, lt64_of_wf hw⟩
    obtain ⟨x0, hx0, _⟩ := each 0 (by omega)
    obtain ⟨b, off, spot⟩ := a
    have hs1 : spot = none := by simpa [Addr.add] using World.cell?_spot hx0
    subst hs1
    have each' : ∀ i, ∃ x, i < len → W.cell? ⟨b, off + i, none⟩ = some (.float .f64 x) ∧ x < 18446744073709551616 := by
      intro i
      by_cases hi : i < len
      · obtain ⟨x, e1, e2⟩ := each i hi
        exact ⟨x, fun _ => ⟨by rw [add_plain] at e1; exact e1, e2⟩⟩
      · exact ⟨0, fun h => absurd h hi⟩
    exact ⟨b, off, len, cap, fun i => (each' i).choose, rfl, hl, hm, fun i hi => (each' i).choose_spec hi⟩

theorem laid_out : laidOutB Try.prog = true := by kernel_rfl
/-- The list reads behind the call as it read before. -/
theorem list_again {H : Type} {enc : TypeId × Value → H} {W : World} {m : Nat} {v : Value} {d : DataW H} {p : List MemPlace} {sp : Nat → Bool}
    (h : DataW.Trod enc Try.prog W 0 (fun _ => true) true 22 v d p) (hlt : ∀ x ∈ p, x.block < W.heap.size) (hsp : ∀ x ∈ p, sp x.block = true) :
    DataW.Trod enc Try.prog (W.drewN m) 0 sp true 22 v d p :=
  WideElems.Trod_stays laid_out (by kernel_rfl) (of_decide_eq_true (by kernel_rfl)) h
    (fun x hx => (show Below W.heap.size W (W.drewN m) from ⟨rfl, rfl, rfl, Nat.le_refl _, fun _ _ => rfl⟩).same (hlt x hx)) hsp

end Go.Proofs.Ytjieoemknocikaa
