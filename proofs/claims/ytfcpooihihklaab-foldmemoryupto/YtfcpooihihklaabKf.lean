/- Small functions over slices of pairs: pair, Sound, Find, same; the program's and the reference's. -/
import Derived.Test.YtfcpooihihklaabKc
import Derived.Test.YtfcpooihihklaabGb
import Derived.Laws.StructEq
import Derived.Deep.RegionHeld3
namespace Go.Proofs.Ytfcpooihihklaab
open Ieee Go.RowKit

theorem eq_val (v : Vl) (w : World) : (Op.equalIn 9999 33 (.agg #[.bool v.h, .int .u64 v.b]) (.agg #[.bool v.h, .int .u64 v.b])).run Try.prog w = .ok true w := by
  have u0 := Try.underlying4
  have u1 := Try.underlying31
  have a0 := Try.isAgg4
  have a1 := Try.isAgg31
  have z0 := Try.sizeOf4
  have z1 := Try.sizeOf31
  have hS : Try.prog.underlying 33 = some (.struct (Try.prog.fieldsOf 33)) := by kernel_rfl
  have hp : Try.prog.stoodInHeld 33 = false := by kernel_rfl
  rw [show (9999 : Nat) = 9998 + 1 from rfl, run_equalIn_agg w 9998 33 _ _ hS hp]
  simp only [Program.fieldsOf, Try.underlying33]
  go_simp

theorem eq_val' (v : Vl) (w : World) : (Op.equalIn 10000 33 (.agg #[.bool v.h, .int .u64 v.b]) (.agg #[.bool v.h, .int .u64 v.b])).run Try.prog w = .ok true w := by
  have u0 := Try.underlying4
  have u1 := Try.underlying31
  have a0 := Try.isAgg4
  have a1 := Try.isAgg31
  have z0 := Try.sizeOf4
  have z1 := Try.sizeOf31
  have hS : Try.prog.underlying 33 = some (.struct (Try.prog.fieldsOf 33)) := by kernel_rfl
  have hp : Try.prog.stoodInHeld 33 = false := by kernel_rfl
  rw [show (10000 : Nat) = 9999 + 1 from rfl, run_equalIn_agg w 9999 33 _ _ hS hp]
  simp only [Program.fieldsOf, Try.underlying33]
  go_simp

theorem eq_pair (p : Pr) (w : World) : (Op.equalIn 10000 40 (.agg #[.int .u64 p.k, .bool p.v.h, .int .u64 p.v.b]) (.agg #[.int .u64 p.k, .bool p.v.h, .int .u64 p.v.b])).run Try.prog w = .ok true w := by
  have u1 := Try.underlying31
  have a1 := Try.isAgg31
  have a2 := Try.isAgg33
  have z1 := Try.sizeOf31
  have z2 := Try.sizeOf33
  have hv := eq_val p.v
  have hS : Try.prog.underlying 40 = some (.struct (Try.prog.fieldsOf 40)) := by kernel_rfl
  have hp : Try.prog.stoodInHeld 40 = false := by kernel_rfl
  rw [show (10000 : Nat) = 9999 + 1 from rfl, run_equalIn_agg w 9999 40 _ _ hS hp]
  simp only [Program.fieldsOf, Try.underlying40]
  go_simp

theorem neq_pair (p : Pr) (w : World) : (binOp .neq 40 (.agg #[.int .u64 p.k, .bool p.v.h, .int .u64 p.v.b]) (.agg #[.int .u64 p.k, .bool p.v.h, .int .u64 p.v.b])).run Try.prog w = .ok (.bool false) w := by
  rw [run_neq_struct, eq_pair]; rfl
theorem eql_val (v : Vl) (w : World) : (binOp .eql 33 (.agg #[.bool v.h, .int .u64 v.b]) (.agg #[.bool v.h, .int .u64 v.b])).run Try.prog w = .ok (.bool true) w := by
  rw [run_eql_struct, eq_val']; rfl
theorem neq_val (v : Vl) (w : World) : (binOp .neq 33 (.agg #[.bool v.h, .int .u64 v.b]) (.agg #[.bool v.h, .int .u64 v.b])).run Try.prog w = .ok (.bool false) w := by
  rw [run_neq_struct, eq_val']; rfl
theorem guard_pair : Try.prog.eqGuardType Try.prog.depth 40 = false := by kernel_rfl
theorem guard_val : Try.prog.eqGuardType Try.prog.depth 33 = false := by kernel_rfl

theorem pair_walk (k b : Nat) (w : World) :
    Calls Try.prog 12 #[.int .u64 k, .int .u64 b] w fun e w' => e = .returned (.agg #[.int .u64 k, .bool true, .int .u64 b]) ∧ Below w.heap.size w w' := by
  go_enter Try.func12, Try.ntmps12
  go_wp2_with fail
  refine bodyPost_ret (v := .agg #[.int .u64 k, .bool true, .int .u64 b]) (by simp [results, Try.results12, go_sem]) rfl ⟨rfl, ?_⟩
  exact below_alloc _ _

/-! ### same -/
set_option maxHeartbeats 1000000 in
theorem same_walk {ao bo : Option Addr} {ca cb : Nat} {l : List Pr} {w : World} (hl : l.length ≤ maxLen) (ha : Ql w ao l) (hb : Ql w bo l) :
    Calls Try.prog 15 #[.slice ao l.length ca, .slice bo l.length cb] w fun e w' => e = .returned (.bool true) ∧ Below w.heap.size w w' := by
  have hli : (l.length : Int) ≤ 9223372036854775807 := by simp only [maxLen] at hl; omega
  have HA : Hid (Ql w ao l) := ha
  have HB : Hid (Ql w bo l) := hb
  have hgd := guard_pair
  clear ha hb hl
  go_enter Try.func15, Try.ntmps15
  go_wp2_with fail
  go_loopw [5] (fun iv wr => ∃ k : Nat, k ≤ l.length ∧ iv = .int .i64 k ∧ Below w.heap.size w wr) (fun iv _ => l.length - (intOf iv).toNat)
  case atStart => exact ⟨0, Nat.zero_le _, rfl, below_same _⟩
  case round =>
    obtain ⟨k, hk, rfl, hB⟩ := hrel
    have HW : Hid (Below w.heap.size w wr) := hB
    clear hB
    by_cases hlt : k < l.length
    · obtain ⟨b, off, rfl, c0, c1, c2⟩ := HA.out.below HW.out k hlt
      obtain ⟨d, doff, rfl, d0, d1, d2⟩ := HB.out.below HW.out k hlt
      obtain ⟨o, hoe⟩ : ∃ o, o = l[k] := ⟨_, rfl⟩
      rw [← hoe] at c0 c1 c2 d0 d1 d2
      have hn := neq_pair o
      clear hoe
      go_wp2_with fail
      go_quiet (fail)
      go_wp2_with fail
      go_roundw
      case rel => exact ⟨k + 1, by omega, by go_num, below_trans HW.out (below_drewN _ _)⟩
      case measure => simp [intOf]; omega
    · go_wp2_with fail
      go_ret
      exact ⟨rfl, HW.out⟩

/-! ### Find -/
theorem get_at {l : List Pr} {k i : Nat} (hi : i < l.length) (h : ∀ j, (hj : j < l.length) → j < i → l[j].k ≠ k) (hk : l[i].k = k) : getT k l = l[i].v := by
  induction l generalizing i with
  | nil => simp at hi
  | cons a l ih =>
    cases i with
    | zero => exact if_pos hk
    | succ i =>
      have h0 : a.k ≠ k := h 0 (by simp) (by omega)
      show (if a.k = k then a.v else getT k l) = _
      rw [if_neg h0]
      exact ih (by simpa using hi) (fun j hj hji => h (j + 1) (by simpa using hj) (by omega)) hk

/-- Where a search stands. -/
def Fr (w : World) (l : List Pr) (k : Nat) (iv : Value) (wr : World) : Prop :=
  ∃ i : Nat, i ≤ l.length ∧ iv = .int .i64 i ∧ (∀ j, (hj : j < l.length) → j < i → l[j].k ≠ k) ∧ VB wr w.heap.size noV ∧ Below w.heap.size w wr

theorem fr_step {w wr w1 : World} {l : List Pr} {k i : Nat} (hi : i < l.length) (h : ∀ j, (hj : j < l.length) → j < i → l[j].k ≠ k) (hk : l[i].k ≠ k) (hv : VB wr w.heap.size noV) (hB : Below w.heap.size w wr) (h1 : Below wr.heap.size wr w1) :
    Fr w l k (.int .i64 ((i : Int) + 1)) w1 :=
  ⟨i + 1, hi, by simp, fun j hj hji => by
    rcases Nat.lt_or_ge j i with h2 | h2
    · exact h j hj h2
    · obtain rfl : j = i := by omega
      exact hk, hv.below h1 (cell_lt hv.c0), below_trans hB h1⟩

set_option maxHeartbeats 1000000 in
theorem find_walk {ao : Option Addr} {ca : Nat} {l : List Pr} {w : World} (hl : l.length ≤ maxLen) (ha : Ql w ao l) (k : Nat) :
    Calls Try.prog 11 #[.slice ao l.length ca, .int .u64 k] w fun e w' => e = .returned (.agg #[.bool (getT k l).h, .int .u64 (getT k l).b]) ∧ Below w.heap.size w w' := by
  have hli : (l.length : Int) ≤ 9223372036854775807 := by simp only [maxLen] at hl; omega
  have HA : Hid (Ql w ao l) := ha
  clear ha hl
  go_enter Try.func11, Try.ntmps11
  go_wp2_with fail
  generalize hg : w.alloc (Obj.cells #[Value.bool false, Value.int IntKind.u64 0] 33) = w0
  have hV0 : VB w0 w.heap.size noV := by rw [← hg]; constructor <;> simp [go_sem, noV]
  have hB0 : Below w.heap.size w w0 := by rw [← hg]; exact below_alloc _ _
  have R0 : Fr w l k (.int .i64 0) w0 := ⟨0, Nat.zero_le _, rfl, fun j hj h => by omega, hV0, hB0⟩
  clear hg hV0 hB0
  go_loopw [9] (fun iv wr => Fr w l k iv wr) (fun iv _ => l.length - (intOf iv).toNat)
  case atStart => exact R0
  case round =>
    clear R0
    obtain ⟨i, hi, rfl, hno, hV, hB⟩ := hrel
    have HN : Hid (∀ j, (hj : j < l.length) → j < i → l[j].k ≠ k) := hno
    have HV : Hid (VB wr w.heap.size noV) := hV
    have HW : Hid (Below w.heap.size w wr) := hB
    clear hB hV hno
    by_cases hlt : i < l.length
    · obtain ⟨b, off, rfl, c0, c1, c2⟩ := HA.out.below HW.out i hlt
      obtain ⟨o, hoe⟩ : ∃ o, o = l[i] := ⟨_, rfl⟩
      rw [← hoe] at c0 c1 c2
      have HE : Hid (o = l[i]) := hoe
      clear hoe
      by_cases hk : o.k = k
      · have hkb : ((o.k : Int) == (k : Int)) = true := by simp; omega
        have HK : Hid (o.k = k) := hk
        clear hk
        obtain ⟨v0, v1, _, _⟩ := HV.out.below (below_alloc wr (Obj.cells #[.int .u64 o.k, .bool o.v.h, .int .u64 o.v.b] 40)) (cell_lt HV.out.c0)
        go_wp2_with fail
        have e : getT k l = o.v := by rw [get_at hlt HN.out (by rw [← HE.out]; exact HK.out), HE.out]
        rw [e]
        refine bodyPost_ret (v := .agg #[.bool o.v.h, .int .u64 o.v.b]) (by simp [results, Try.results11, go_sem, v0, v1]) rfl ⟨rfl, ?_⟩
        exact ((below_trans HW.out (below_alloc _ _)).setCell (p := ⟨w.heap.size, 0, none⟩) (by simp) _).setCell (p := ⟨w.heap.size, 1, none⟩) (by simp) _
      · have hkb : ((o.k : Int) == (k : Int)) = false := by simp; omega
        have R' := fr_step hlt HN.out (by rw [← HE.out]; exact hk) HV.out HW.out (below_alloc wr (Obj.cells #[.int .u64 o.k, .bool o.v.h, .int .u64 o.v.b] 40))
        clear hk
        go_wp2_with fail
        go_roundw
        case rel => exact R'
        case measure => simp [intOf]; omega
    · obtain ⟨v0, v1, _, _⟩ := HV.out
      have e : getT k l = noV := get_none fun p hp => by
        obtain ⟨j, hj, rfl⟩ := List.getElem_of_mem hp
        exact HN.out j hj (by omega)
      go_wp2_with fail
      rw [e]
      refine bodyPost_ret (v := .agg #[.bool false, .int .u64 0]) (by simp [results, Try.results11, go_sem, v0, v1]) rfl ⟨rfl, ?_⟩
      exact (HW.out.setCell (p := ⟨w.heap.size, 0, none⟩) (by simp) _).setCell (p := ⟨w.heap.size, 1, none⟩) (by simp) _
end Go.Proofs.Ytfcpooihihklaab
