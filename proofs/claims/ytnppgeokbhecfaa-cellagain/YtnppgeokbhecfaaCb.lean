/- Contracts of cell's fitValue, Fit, Apply; of the reference's. -/
import Derived.Test.YtnppgeokbhecfaaCa
import Derived.Test.YtnppgeokbhecfaaGd
import Derived.Test.YtnppgeokbhecfaaGe
namespace Go.Proofs.Ytnppgeokbhecfaa
open Ieee Go.RowKit

/-- A cell's block. -/
structure CB (w : World) (b : Nat) (c : Cl) : Prop where
  c0 : w.cell? ⟨b, 0, none⟩ = some (.int .u64 c.k)
  c1 : w.cell? ⟨b, 1, none⟩ = some (.bool c.p.h)
  c2 : w.cell? ⟨b, 2, none⟩ = some (.int .u64 c.p.b)
  c3 : w.cell? ⟨b, 3, none⟩ = some (.bool c.c.h)
  c4 : w.cell? ⟨b, 4, none⟩ = some (.int .u64 c.c.b)
  c5 : w.cell? ⟨b, 5, none⟩ = some (.int .i64 c.n)
  z : ∀ j, w.frozen? ⟨b, j, none⟩ = false

theorem CB.below {w w' : World} {b B : Nat} {c : Cl} (h : CB w b c) (hb : Below B w w') (hl : b < B) : CB w' b c :=
  ⟨by rw [hb.cell (p := ⟨b, 0, none⟩) hl]; exact h.c0, by rw [hb.cell (p := ⟨b, 1, none⟩) hl]; exact h.c1, by rw [hb.cell (p := ⟨b, 2, none⟩) hl]; exact h.c2, by rw [hb.cell (p := ⟨b, 3, none⟩) hl]; exact h.c3, by rw [hb.cell (p := ⟨b, 4, none⟩) hl]; exact h.c4, by rw [hb.cell (p := ⟨b, 5, none⟩) hl]; exact h.c5, fun j => by rw [hb.frozen (p := ⟨b, j, none⟩) hl]; exact h.z j⟩

theorem cb_new (w : World) (c : Cl) : CB (w.alloc (Obj.cells #[.int .u64 c.k, .bool c.p.h, .int .u64 c.p.b, .bool c.c.h, .int .u64 c.c.b, .int .i64 c.n] 26)) w.heap.size c := by
  constructor <;> simp [go_sem]

theorem CB.other {w : World} {b : Nat} {c : Cl} (h : CB w b c) {p : Addr} (hne : b ≠ p.block) (u : Value) : CB (w.setCell p u) b c := by
  obtain ⟨c0, c1, c2, c3, c4, c5, z⟩ := h
  refine ⟨?_, ?_, ?_, ?_, ?_, ?_, fun j => by simpa [go_sem] using z j⟩
  all_goals (rw [World.cell?_setCell_other _ _ _ _ (by rintro ⟨⟩; exact hne rfl)]; assumption)

theorem guard_val : Try.prog.eqGuardType Try.prog.depth 24 = false := by kernel_rfl
theorem guard_cell : Try.prog.eqGuardType Try.prog.depth 26 = false := by kernel_rfl

set_option maxHeartbeats 1000000 in
theorem fitValue_walk (k : Int) {v : Vl} (hv : v.ok) (w : World) :
    Calls Try.prog 26 #[.int .i64 k, .agg #[.bool v.h, .int .u64 v.b]] w fun e w' => e = .returned (.bool (eqV (fitV k v) v)) ∧ Below w.heap.size w w' := by
  have hgd := guard_val
  have he := eql_gen (fitV k v) v
  go_enter Try.func26, Try.ntmps26
  go_wp2_with fail
  generalize hg : w.alloc (Obj.cells #[Value.bool v.h, Value.int IntKind.u64 (v.b : Int)] 24) = w1
  have HV : Hid (VB w1 w.heap.size v) := by show VB _ _ _; rw [← hg]; exact vb_new w v.h v.b
  have HB : Hid (Below w.heap.size w w1) := by show Below _ _ _; rw [← hg]; exact below_alloc _ _
  clear hg
  obtain ⟨c0, c1, z0, z1⟩ := HV.out
  go_region_with (go_at_call 22; refine (fit_walk k hv _).mono ?_; rintro e w9 ⟨rfl, hB9⟩; have hS9 : Below w1.heap.size w1 w9 := below_trans (by first | assumption | exact (Below.refl _ _).drew) hB9; obtain ⟨c0, c1, z0, z1⟩ := HV.out.below hS9 (cell_lt HV.out.c0))
  all_goals go_wp2_with fail
  all_goals go_ret
  all_goals exact ⟨rfl, below_trans HB.out (by assumption)⟩
end Go.Proofs.Ytnppgeokbhecfaa
