/- == of cells; a cell that a call answers laid in a block of its own; some, laid; awake. -/
import Derived.Test.YtnppgeokbhecfaaCf
namespace Go.Proofs.Ytnppgeokbhecfaa
open Ieee Go.RowKit

theorem eq_valN (n : Nat) (v : Vl) (w : World) : (Op.equalIn (n + 1 + 1) 24 (.agg #[.bool v.h, .int .u64 v.b]) (.agg #[.bool v.h, .int .u64 v.b])).run Try.prog w = .ok true w := by
  have u0 := Try.underlying4
  have u1 := Try.underlying22
  have a0 := Try.isAgg4
  have a1 := Try.isAgg22
  have z0 := Try.sizeOf4
  have z1 := Try.sizeOf22
  have hS : Try.prog.underlying 24 = some (.struct (Try.prog.fieldsOf 24)) := by kernel_rfl
  have hp : Try.prog.stoodInHeld 24 = false := by kernel_rfl
  rw [run_equalIn_agg w (n + 1) 24 _ _ hS hp]
  simp only [Program.fieldsOf, Try.underlying24]
  go_simp

theorem eq_cell (c : Cl) (w : World) : (Op.equalIn 10000 26 (.agg #[.int .u64 c.k, .bool c.p.h, .int .u64 c.p.b, .bool c.c.h, .int .u64 c.c.b, .int .i64 c.n]) (.agg #[.int .u64 c.k, .bool c.p.h, .int .u64 c.p.b, .bool c.c.h, .int .u64 c.c.b, .int .i64 c.n])).run Try.prog w = .ok true w := by
  have u1 := Try.underlying22
  have u3 := Try.underlying3
  have a1 := Try.isAgg22
  have a2 := Try.isAgg24
  have a3 := Try.isAgg3
  have z1 := Try.sizeOf22
  have z2 := Try.sizeOf24
  have z3 := Try.sizeOf3
  have hv : ∀ w, (Op.equalIn 9999 24 (.agg #[.bool c.p.h, .int .u64 c.p.b]) (.agg #[.bool c.p.h, .int .u64 c.p.b])).run Try.prog w = .ok true w := eq_valN 9997 c.p
  have hu : ∀ w, (Op.equalIn 9999 24 (.agg #[.bool c.c.h, .int .u64 c.c.b]) (.agg #[.bool c.c.h, .int .u64 c.c.b])).run Try.prog w = .ok true w := eq_valN 9997 c.c
  have hS : Try.prog.underlying 26 = some (.struct (Try.prog.fieldsOf 26)) := by kernel_rfl
  have hp : Try.prog.stoodInHeld 26 = false := by kernel_rfl
  rw [show (10000 : Nat) = 9999 + 1 from rfl, run_equalIn_agg w 9999 26 _ _ hS hp]
  simp only [Program.fieldsOf, Try.underlying26]
  go_simp

theorem eql_cell (c : Cl) (w : World) : (binOp .eql 26 (.agg #[.int .u64 c.k, .bool c.p.h, .int .u64 c.p.b, .bool c.c.h, .int .u64 c.c.b, .int .i64 c.n]) (.agg #[.int .u64 c.k, .bool c.p.h, .int .u64 c.p.b, .bool c.c.h, .int .u64 c.c.b, .int .i64 c.n])).run Try.prog w = .ok (.bool true) w := by
  rw [run_eql_struct, eq_cell]; rfl
theorem neq_cell (c : Cl) (w : World) : (binOp .neq 26 (.agg #[.int .u64 c.k, .bool c.p.h, .int .u64 c.p.b, .bool c.c.h, .int .u64 c.c.b, .int .i64 c.n]) (.agg #[.int .u64 c.k, .bool c.p.h, .int .u64 c.p.b, .bool c.c.h, .int .u64 c.c.b, .int .i64 c.n])).run Try.prog w = .ok (.bool false) w := by
  rw [run_neq_struct, eq_cell]; rfl
theorem eql_val (v : Vl) (w : World) : (binOp .eql 24 (.agg #[.bool v.h, .int .u64 v.b]) (.agg #[.bool v.h, .int .u64 v.b])).run Try.prog w = .ok (.bool true) w := by
  rw [run_eql_struct, eq_valN 9998]; rfl
theorem neq_val (v : Vl) (w : World) : (binOp .neq 24 (.agg #[.bool v.h, .int .u64 v.b]) (.agg #[.bool v.h, .int .u64 v.b])).run Try.prog w = .ok (.bool false) w := by
  rw [run_neq_struct, eq_valN 9998]; rfl

theorem some_walk (b : Nat) (w : World) :
    Calls Try.prog 21 #[.int .u64 b] w fun e w' => e = .returned (.agg #[.bool true, .int .u64 b]) ∧ Below w.heap.size w w' := by
  go_enter Try.func21, Try.ntmps21
  go_wp2_with fail
  refine bodyPost_ret (v := .agg #[.bool true, .int .u64 b]) (by simp [results, Try.results21, go_sem]) rfl ⟨rfl, below_alloc _ _⟩

theorem zero_box {w w1 : World} (h : Below (w.alloc (Obj.cells #[.int .u64 0, .bool false, .int .u64 0, .bool false, .int .u64 0, .int .i64 0] 26)).heap.size (w.alloc (Obj.cells #[.int .u64 0, .bool false, .int .u64 0, .bool false, .int .u64 0, .int .i64 0] 26)) w1) : CB w1 w.heap.size zeroC :=
  (cb_new w zeroC).below h (by rw [size_alloc]; omega)

theorem zero_boxd {w w1 : World} (h : Below (w.alloc (Obj.cells #[.int .u64 0, .bool false, .int .u64 0, .bool false, .int .u64 0, .int .i64 0] 26)).drew.heap.size (w.alloc (Obj.cells #[.int .u64 0, .bool false, .int .u64 0, .bool false, .int .u64 0, .int .i64 0] 26)).drew w1) : CB w1 w.heap.size zeroC :=
  ((cb_new w zeroC).below (below_drewN _ 1) (by rw [size_alloc]; omega)).below h (by show w.heap.size < (w.alloc _).heap.size; rw [size_alloc]; omega)

theorem laid_walk (p c : Nat) (n : Int) (w : World) :
    Calls Try.prog 23 #[.int .u64 p, .int .u64 c, .int .i64 n] w fun e w' => e = .returned (.agg #[.int .u64 7, .bool true, .int .u64 p, .bool true, .int .u64 c, .int .i64 n]) ∧ Below w.heap.size w w' := by
  go_enter Try.func23, Try.ntmps23
  go_wp2_with fail
  refine (some_walk p _).mono ?_
  rintro e w1 ⟨rfl, hB1⟩
  have hz1 := zero_box hB1
  have h1 := below_trans (below_alloc _ _) hB1
  clear hB1
  go_wp2_with fail
  refine (some_walk c _).mono ?_
  rintro e w2 ⟨rfl, hB2⟩
  have HB : Hid (Below w.heap.size w w2) := below_trans h1 hB2
  obtain ⟨d0, d1, d2, d3, d4, d5, yy⟩ := hz1.below hB2 (cell_lt hz1.c0)
  clear hz1 h1 hB2
  go_wp2_with fail
  refine bodyPost_ret (by simp [results, Try.results23, go_sem, d0, d1, d2, d3, d4, d5]) rfl ⟨rfl, keep_cell HB.out _ (Nat.le_refl _) _ _ _ _ _ _⟩

/-- Behind 'x, e := call': x lies in a block of its own. -/
def Nu (wr : World) (d : Cl) (i : Int) (uv ev : Value) (wx : World) : Prop :=
  ∃ U, uv = .pointer (some ⟨U, 0, none⟩) ∧ ev = .int .i64 i ∧ CB wx U d ∧ wr.heap.size ≤ U ∧ Below wr.heap.size wr wx

theorem nu_new {wr w3 : World} (h : Below wr.heap.size wr w3) (d : Cl) (i : Int) :
    Nu wr d i (.pointer (some ⟨w3.heap.size, 0, none⟩)) (.int .i64 i) (w3.alloc (Obj.cells #[.int .u64 d.k, .bool d.p.h, .int .u64 d.p.b, .bool d.c.h, .int .u64 d.c.b, .int .i64 d.n] 26)) :=
  ⟨_, rfl, rfl, cb_new _ _, h.size, h.alloc h.size _⟩

theorem nu_old {wr w3 : World} {U : Nat} {z : Cl} (h : Below wr.heap.size wr w3) (hU : wr.heap.size ≤ U) (hz : CB w3 U z) (d : Cl) (i : Int) :
    Nu wr d i (.pointer (some ⟨U, 0, none⟩)) (.int .i64 i) ((((((w3.setCell ⟨U, 0, none⟩ (.int .u64 d.k)).setCell ⟨U, 1, none⟩ (.bool d.p.h)).setCell ⟨U, 2, none⟩ (.int .u64 d.p.b)).setCell ⟨U, 3, none⟩ (.bool d.c.h)).setCell ⟨U, 4, none⟩ (.int .u64 d.c.b)).setCell ⟨U, 5, none⟩ (.int .i64 d.n)) :=
  ⟨_, rfl, rfl, hz.set d, hU, keep_cell h _ hU _ _ _ _ _ _⟩

theorem aw_mA : mergeV 1 ⟨false, 0⟩ ⟨true, 3⟩ = ⟨true, 3⟩ := by simp [mergeV, joinV, fitV, noV]
theorem aw_mB : mergeV 1 ⟨true, 3⟩ ⟨true, 2⟩ = ⟨true, 5⟩ := by simp [mergeV, joinV, fitV]
theorem aw_cA : appC 1 ⟨7, ⟨false, 0⟩, ⟨false, 0⟩, 0⟩ 1 ⟨true, 3⟩ = ⟨7, ⟨false, 0⟩, ⟨true, 3⟩, 1⟩ := by simp [appC, appI, aheadC, knownB, aw_mA]
theorem aw_iA : appI 1 ⟨7, ⟨false, 0⟩, ⟨false, 0⟩, 0⟩ 1 = 0 := by simp [appI, knownB]
theorem aw_cB : appC 1 ⟨7, ⟨false, 0⟩, ⟨true, 3⟩, 1⟩ 4 ⟨true, 2⟩ = ⟨7, ⟨true, 3⟩, ⟨true, 5⟩, 4⟩ := by simp [appC, appI, aheadC, knownB, aw_mB]
theorem aw_iB : appI 1 ⟨7, ⟨false, 0⟩, ⟨true, 3⟩, 1⟩ 4 = 0 := by simp [appI, knownB]
theorem aw_cC : appC 1 ⟨7, ⟨true, 3⟩, ⟨true, 5⟩, 4⟩ 3 ⟨true, 2⟩ = ⟨0, ⟨false, 0⟩, ⟨false, 0⟩, 0⟩ := by simp [appC, appI, knownB, zeroC, noV]
theorem aw_iC : appI 1 ⟨7, ⟨true, 3⟩, ⟨true, 5⟩, 4⟩ 3 = 100 := by simp [appI, knownB]
theorem aw_rev : revC ⟨7, ⟨true, 3⟩, ⟨true, 5⟩, 4⟩ 4 = ⟨7, ⟨true, 3⟩, ⟨true, 3⟩, 3⟩ := by simp [revC]
theorem aw_fit : fitC 1 ⟨7, ⟨true, 3⟩, ⟨true, 5⟩, 4⟩ = true := by simp [fitC, knownB, eqV, fitV]
theorem aw_r4 : resC ⟨7, ⟨true, 3⟩, ⟨true, 5⟩, 4⟩ 4 = ⟨true, 5⟩ := by simp [resC]
theorem aw_r3 : resC ⟨7, ⟨true, 3⟩, ⟨true, 5⟩, 4⟩ 3 = ⟨true, 3⟩ := by simp [resC]
theorem aw_emp : empC ⟨0, ⟨false, 0⟩, ⟨false, 0⟩, 5⟩ = true := rfl
theorem ok_lit {n : Nat} (h : n < 10) {b : Bool} : (Vl.mk b n).ok := by show n < 18446744073709551616; omega
end Go.Proofs.Ytnppgeokbhecfaa
