/- Cells as numbers; contracts of cell's Revert, Resolve, Empty; of the reference's. -/
import Derived.Test.YtnppgeokbhecfaaGm
import Derived.Test.YtnppgeokbhecfaaGc
import Derived.Laws.StructEq
import Derived.Deep.RegionHeld3
import Derived.Lib.Hide
namespace Go.Proofs.Ytnppgeokbhecfaa
open Ieee Go.RowKit

/-- A cell: its key, its value ahead of a batch, its value behind it, the batch's number. -/
structure Cl where
  k : Nat
  p : Vl
  c : Vl
  n : Int

def Cl.ok (c : Cl) : Prop := c.p.ok ∧ c.c.ok

def revC (c : Cl) (b : Int) : Cl := if b < 1 ∨ b ≠ c.n then c else ⟨c.k, c.p, c.p, c.n - 1⟩
def resC (c : Cl) (m : Int) : Vl := if c.n ≤ m then c.c else c.p
def empC (c : Cl) : Bool := !c.p.h && !c.c.h
def eqV (a b : Vl) : Bool := (a.h == b.h) && (a.b == b.b)
def fitC (k : Int) (c : Cl) : Bool := knownB k && eqV (fitV k c.p) c.p && eqV (fitV k c.c) c.c && decide (0 ≤ c.n) && decide (c.n ≤ 1099511627776)
def zeroC : Cl := ⟨0, noV, noV, 0⟩
def appI (k : Int) (c : Cl) (b : Int) : Int := if knownB k = false ∨ b < 1 then 1 else if b < c.n then 100 else 0
def aheadC (c : Cl) (b : Int) : Vl := if c.n < b then c.c else c.p
def appC (k : Int) (c : Cl) (b : Int) (v : Vl) : Cl := if appI k c b = 0 then ⟨c.k, aheadC c b, mergeV k (aheadC c b) v, b⟩ else zeroC

theorem sub_one {b : Int} (h : 1 ≤ b) (hb : b ≤ 9223372036854775807) : IntKind.i64.wrap (b - 1) = b - 1 := by
  rw [IntKind.wrap_i64]
  omega

theorem revert_walk (c : Cl) {b : Int} (hb : b ≤ 9223372036854775807) (w : World) :
    Calls Try.prog 11 #[.agg #[.int .u64 c.k, .bool c.p.h, .int .u64 c.p.b, .bool c.c.h, .int .u64 c.c.b, .int .i64 c.n], .int .i64 b] w fun e w' => e = .returned (.agg #[.int .u64 (revC c b).k, .bool (revC c b).p.h, .int .u64 (revC c b).p.b, .bool (revC c b).c.h, .int .u64 (revC c b).c.b, .int .i64 (revC c b).n]) ∧ Below w.heap.size w w' := by
  by_cases h : b < 1 ∨ b ≠ c.n
  · have e : revC c b = c := if_pos h
    rw [e]
    clear e
    go_enter Try.func11, Try.ntmps11
    go_wp2_with fail
    all_goals first
      | (exfalso; simp_all; done)
      | (exfalso; simp_all; omega)
      | (refine bodyPost_ret (by simp [results, Try.results11, go_sem]) rfl ⟨rfl, ?_⟩; exact below_two _ _ _)
  · have e : revC c b = ⟨c.k, c.p, c.p, c.n - 1⟩ := if_neg h
    rw [e]
    clear e
    have h1 : 1 ≤ b := by omega
    have h2 : b = c.n := by omega
    subst h2
    have hs := sub_one h1 hb
    clear h
    go_enter Try.func11, Try.ntmps11
    go_wp2_with fail
    all_goals first
      | (exfalso; simp_all; done)
      | (exfalso; simp_all; omega)
      | (refine bodyPost_ret (by simp [results, Try.results11, go_sem]) rfl ⟨rfl, ?_⟩; exact below_two _ _ _)

theorem rrevert_walk (c : Cl) {b : Int} (hb : b ≤ 9223372036854775807) (w : World) :
    Calls Try.prog 12 #[.agg #[.int .u64 c.k, .bool c.p.h, .int .u64 c.p.b, .bool c.c.h, .int .u64 c.c.b, .int .i64 c.n], .int .i64 b] w fun e w' => e = .returned (.agg #[.int .u64 (revC c b).k, .bool (revC c b).p.h, .int .u64 (revC c b).p.b, .bool (revC c b).c.h, .int .u64 (revC c b).c.b, .int .i64 (revC c b).n]) ∧ Below w.heap.size w w' := by
  by_cases h : b < 1 ∨ b ≠ c.n
  · have e : revC c b = c := if_pos h
    rw [e]
    clear e
    go_enter Try.func12, Try.ntmps12
    go_wp2_with fail
    all_goals first
      | (exfalso; simp_all; done)
      | (exfalso; simp_all; omega)
      | (refine bodyPost_ret (by simp [results, Try.results12, go_sem]) rfl ⟨rfl, ?_⟩; exact below_two _ _ _)
  · have e : revC c b = ⟨c.k, c.p, c.p, c.n - 1⟩ := if_neg h
    rw [e]
    clear e
    have h1 : 1 ≤ b := by omega
    have h2 : b = c.n := by omega
    subst h2
    have hs := sub_one h1 hb
    clear h
    go_enter Try.func12, Try.ntmps12
    go_wp2_with fail
    all_goals first
      | (exfalso; simp_all; done)
      | (exfalso; simp_all; omega)
      | (refine bodyPost_ret (by simp [results, Try.results12, go_sem]) rfl ⟨rfl, ?_⟩; exact below_two _ _ _)

theorem resolve_walk (c : Cl) (m : Int) (w : World) :
    Calls Try.prog 17 #[.agg #[.int .u64 c.k, .bool c.p.h, .int .u64 c.p.b, .bool c.c.h, .int .u64 c.c.b, .int .i64 c.n], .int .i64 m] w fun e w' => e = .returned (.agg #[.bool (resC c m).h, .int .u64 (resC c m).b]) ∧ Below w.heap.size w w' := by
  go_enter Try.func17, Try.ntmps17
  go_wp2_with fail
  · rw [show resC c m = c.c from if_pos (by assumption)]
    exact bodyPost_ret (by simp [results, Try.results17, go_sem]) rfl ⟨rfl, below_two _ _ _⟩
  · rw [show resC c m = c.p from if_neg (by omega)]
    exact bodyPost_ret (by simp [results, Try.results17, go_sem]) rfl ⟨rfl, below_two _ _ _⟩

theorem rresolve_walk (c : Cl) (m : Int) (w : World) :
    Calls Try.prog 18 #[.agg #[.int .u64 c.k, .bool c.p.h, .int .u64 c.p.b, .bool c.c.h, .int .u64 c.c.b, .int .i64 c.n], .int .i64 m] w fun e w' => e = .returned (.agg #[.bool (resC c m).h, .int .u64 (resC c m).b]) ∧ Below w.heap.size w w' := by
  go_enter Try.func18, Try.ntmps18
  go_wp2_with fail
  · rw [show resC c m = c.c from if_pos (by assumption)]
    exact bodyPost_ret (by simp [results, Try.results18, go_sem]) rfl ⟨rfl, below_two _ _ _⟩
  · rw [show resC c m = c.p from if_neg (by omega)]
    exact bodyPost_ret (by simp [results, Try.results18, go_sem]) rfl ⟨rfl, below_two _ _ _⟩

theorem empty_walk (c : Cl) (w : World) :
    Calls Try.prog 13 #[.agg #[.int .u64 c.k, .bool c.p.h, .int .u64 c.p.b, .bool c.c.h, .int .u64 c.c.b, .int .i64 c.n]] w fun e w' => e = .returned (.bool (empC c)) ∧ Below w.heap.size w w' := by
  unfold empC
  cases c.p.h <;> cases c.c.h
  all_goals
    go_enter Try.func13, Try.ntmps13
    go_wp2_with fail
    go_ret
    exact ⟨rfl, below_alloc _ _⟩

theorem rempty_walk (c : Cl) (w : World) :
    Calls Try.prog 14 #[.agg #[.int .u64 c.k, .bool c.p.h, .int .u64 c.p.b, .bool c.c.h, .int .u64 c.c.b, .int .i64 c.n]] w fun e w' => e = .returned (.bool (empC c)) ∧ Below w.heap.size w w' := by
  unfold empC
  cases c.p.h <;> cases c.c.h
  all_goals
    go_enter Try.func14, Try.ntmps14
    go_wp2_with fail
    go_ret
    exact ⟨rfl, below_alloc _ _⟩

theorem eql_gen (a b : Vl) (w : World) : (binOp .eql 24 (.agg #[.bool a.h, .int .u64 a.b]) (.agg #[.bool b.h, .int .u64 b.b])).run Try.prog w = .ok (.bool (eqV a b)) w := by
  have u0 := Try.underlying4
  have u1 := Try.underlying22
  have a0 := Try.isAgg4
  have a1 := Try.isAgg22
  have z0 := Try.sizeOf4
  have z1 := Try.sizeOf22
  have hS : Try.prog.underlying 24 = some (.struct (Try.prog.fieldsOf 24)) := by kernel_rfl
  have hp : Try.prog.stoodInHeld 24 = false := by kernel_rfl
  rw [run_eql_struct, show (10000 : Nat) = 9999 + 1 from rfl, run_equalIn_agg w 9999 24 _ _ hS hp]
  simp only [Program.fieldsOf, Try.underlying24]
  unfold eqV
  by_cases h0 : a.h = b.h
  · by_cases h1 : a.b = b.b
    · rw [h0, h1]
      go_simp
    · have h2 : (a.b == b.b) = false := by simpa using h1
      rw [h0, h2]
      go_simp
      omega
  · have h2 : (a.h == b.h) = false := by simpa using h0
    rw [h2]
    go_simp
end Go.Proofs.Ytnppgeokbhecfaa
