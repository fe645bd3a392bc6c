/- The walk of the statement WireRises. -/
import Derived.Test.YtiglkmdeokmnhabWa
namespace Go.Proofs.Ytiglkmdeokmnhab
open Go.RowKit

/-- Put's answer, as a caller takes it. -/
theorem put_got (x : Nat) (hx : x < 18446744073709551616) (w : World) : Calls Try.prog 11 #[.int .u64 x] w fun e w' =>
    ∃ ao cap, e = .returned (.slice ao (Wm.enc x).length cap) ∧ Bv w' (.slice ao (Wm.enc x).length cap) (Wm.enc x) ∧ Below w.heap.size w w' := by
  refine (put_walk x hx w).mono ?_
  rintro e w' ⟨v, rfl, hown, hbel⟩
  obtain ⟨ao, cap, rfl⟩ := own_form hown
  exact ⟨ao, cap, rfl, own_bv hown (Wm.enc_lt x hx), hbel⟩

theorem shl7 {x : Nat} (h : x < 144115188075855872) : IntKind.u64.wrap ((x : Int) * 128) = ((x * 128 : Nat) : Int) := by
  rw [wrap_u64_id (by omega) (by omega)]; omega
end Go.Proofs.Ytiglkmdeokmnhab
