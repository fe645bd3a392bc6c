/- Contracts of both Apply; == of cells. -/
import Derived.Test.YtofkhgokfdpdiabGreatB04
import Derived.Test.YtofkhgokfdpdiabGreatB03
import Derived.Laws.StructEq
import Derived.Deep.RegionHeld3
import Derived.Deep.DeepCutAuto
import Derived.Lib.Hide
import Derived.Test.YtofkhgokfdpdiabGreatB02
set_option maxRecDepth 100000
set_option maxHeartbeats 16000000
namespace Go.Proofs.YtofkhgokfdpdiabGreat
section
open Ieee Go.RowKit

theorem eq_val (v : Vl) (w : World) : (Op.equalIn 9999 58 (.agg #[.bool v.h, .int .u64 v.b]) (.agg #[.bool v.h, .int .u64 v.b])).run Tryz.prog w = .ok true w := by
 have u0 := Tryz.underlying4
 have u1 := Tryz.underlying33
 have a0 := Tryz.isAgg4
 have a1 := Tryz.isAgg33
 have z0 := Tryz.sizeOf4
 have z1 := Tryz.sizeOf33
 have hS : Tryz.prog.underlying 58 = some (.struct (Tryz.prog.fieldsOf 58)) := by kernel_rfl
 have hp : Tryz.prog.stoodInHeld 58 = false := by kernel_rfl
 rw [show (9999 : Nat) = 9998 + 1 from rfl, run_equalIn_agg w 9998 58 _ _ hS hp]
 simp only [Program.fieldsOf, Tryz.underlying58]
 go_simp
theorem eq_val' (v : Vl) (w : World) : (Op.equalIn 10000 58 (.agg #[.bool v.h, .int .u64 v.b]) (.agg #[.bool v.h, .int .u64 v.b])).run Tryz.prog w = .ok true w := by
 have u0 := Tryz.underlying4
 have u1 := Tryz.underlying33
 have a0 := Tryz.isAgg4
 have a1 := Tryz.isAgg33
 have z0 := Tryz.sizeOf4
 have z1 := Tryz.sizeOf33
 have hS : Tryz.prog.underlying 58 = some (.struct (Tryz.prog.fieldsOf 58)) := by kernel_rfl
 have hp : Tryz.prog.stoodInHeld 58 = false := by kernel_rfl
 rw [show (10000 : Nat) = 9999 + 1 from rfl, run_equalIn_agg w 9999 58 _ _ hS hp]
 simp only [Program.fieldsOf, Tryz.underlying58]
 go_simp
theorem eq_pair (p : Pr) (w : World) : (Op.equalIn 10000 60 (.agg #[.int .u64 p.k, .bool p.v.h, .int .u64 p.v.b]) (.agg #[.int .u64 p.k, .bool p.v.h, .int .u64 p.v.b])).run Tryz.prog w = .ok true w := by
 have u1 := Tryz.underlying33
 have a1 := Tryz.isAgg33
 have a2 := Tryz.isAgg58
 have z1 := Tryz.sizeOf33
 have z2 := Tryz.sizeOf58
 have hv := eq_val p.v
 have hS : Tryz.prog.underlying 60 = some (.struct (Tryz.prog.fieldsOf 60)) := by kernel_rfl
 have hp : Tryz.prog.stoodInHeld 60 = false := by kernel_rfl
 rw [show (10000 : Nat) = 9999 + 1 from rfl, run_equalIn_agg w 9999 60 _ _ hS hp]
 simp only [Program.fieldsOf, Tryz.underlying60]
 go_simp
theorem neq_pair (p : Pr) (w : World) : (binOp .neq 60 (.agg #[.int .u64 p.k, .bool p.v.h, .int .u64 p.v.b]) (.agg #[.int .u64 p.k, .bool p.v.h, .int .u64 p.v.b])).run Tryz.prog w = .ok (.bool false) w := by
 rw [run_neq_struct, eq_pair]; rfl
theorem eql_val (v : Vl) (w : World) : (binOp .eql 58 (.agg #[.bool v.h, .int .u64 v.b]) (.agg #[.bool v.h, .int .u64 v.b])).run Tryz.prog w = .ok (.bool true) w := by
 rw [run_eql_struct, eq_val']; rfl
theorem neq_val (v : Vl) (w : World) : (binOp .neq 58 (.agg #[.bool v.h, .int .u64 v.b]) (.agg #[.bool v.h, .int .u64 v.b])).run Tryz.prog w = .ok (.bool false) w := by
 rw [run_neq_struct, eq_val']; rfl
theorem guard_pair : Tryz.prog.eqGuardType Tryz.prog.depth 60 = false := by kernel_rfl
theorem guard_val : Tryz.prog.eqGuardType Tryz.prog.depth 58 = false := by kernel_rfl
end
section
open Ieee Go.RowKit

attribute [local go_sem] run_bits run_frombits
end
section
open Ieee Go.RowKit

structure Cl where
 k : Nat
 p : Vl
 c : Vl
 n : Int
def Cl.ok (c : Cl) : Prop := c.p.ok ∧ c.c.ok
def revC (c : Cl) (b : Int) : Cl := if b < 1 ∨ b ≠ c.n then c else ⟨c.k, c.p, c.p, c.n - 1⟩
def resC (c : Cl) (m : Int) : Vl := if c.n ≤ m then c.c else c.p
def empC (c : Cl) : Bool := !c.p.h && !c.c.h
def eqV (a b : Vl) : Bool := (a.h == b.h) && (a.b == b.b)
def fitC (k : Int) (c : Cl) : Bool := knownB k && eqV (fitV k c.p) c.p && eqV (fitV k c.c) c.c && decide (0 ≤ c.n) && decide (c.n ≤ 1099511627776)
def zeroC : Cl := ⟨0, noV, noV, 0⟩
def appI (k : Int) (c : Cl) (b : Int) : Int := if knownB k = false ∨ b < 1 then 1 else if b < c.n then 100 else 0
def aheadC (c : Cl) (b : Int) : Vl := if c.n < b then c.c else c.p
def appC (k : Int) (c : Cl) (b : Int) (v : Vl) : Cl := if appI k c b = 0 then ⟨c.k, aheadC c b, mergeV k (aheadC c b) v, b⟩ else zeroC
theorem sub_one {b : Int} (h : 1 ≤ b) (hb : b ≤ 9223372036854775807) : IntKind.i64.wrap (b - 1) = b - 1 := by
 rw [IntKind.wrap_i64]
 omega
theorem revert_walk (c : Cl) {b : Int} (hb : b ≤ 9223372036854775807) (w : World) :
  Calls Tryz.prog 116 #[.agg #[.int .u64 c.k, .bool c.p.h, .int .u64 c.p.b, .bool c.c.h, .int .u64 c.c.b, .int .i64 c.n], .int .i64 b] w fun e w' => e = .returned (.agg #[.int .u64 (revC c b).k, .bool (revC c b).p.h, .int .u64 (revC c b).p.b, .bool (revC c b).c.h, .int .u64 (revC c b).c.b, .int .i64 (revC c b).n]) ∧ Below w.heap.size w w' := by
 by_cases h : b < 1 ∨ b ≠ c.n
 ·have e : revC c b = c := if_pos h
  rw [e]
  clear e
  go_in
  go_wp2_with fail
  all_goals first
   | (exfalso; simp_all; done)
   | (exfalso; simp_all; omega)
   | (refine bodyPost_ret (by simp [results, Tryz.results116, go_sem]) rfl ⟨rfl, ?_⟩; exact below_two _ _ _)
 ·have e : revC c b = ⟨c.k, c.p, c.p, c.n - 1⟩ := if_neg h
  rw [e]
  clear e
  have h1 : 1 ≤ b := by omega
  have h2 : b = c.n := by omega
  subst h2
  have hs := sub_one h1 hb
  clear h
  go_in
  go_wp2_with fail
  all_goals first
   | (exfalso; simp_all; done)
   | (exfalso; simp_all; omega)
   | (refine bodyPost_ret (by simp [results, Tryz.results116, go_sem]) rfl ⟨rfl, ?_⟩; exact below_two _ _ _)
theorem resolve_walk (c : Cl) (m : Int) (w : World) :
  Calls Tryz.prog 94 #[.agg #[.int .u64 c.k, .bool c.p.h, .int .u64 c.p.b, .bool c.c.h, .int .u64 c.c.b, .int .i64 c.n], .int .i64 m] w fun e w' => e = .returned (.agg #[.bool (resC c m).h, .int .u64 (resC c m).b]) ∧ Below w.heap.size w w' := by
 go_in
 go_wp2_with fail
 ·rw [show resC c m = c.c from if_pos (by assumption)]
  exact bodyPost_ret (by simp [results, Tryz.results94, go_sem]) rfl ⟨rfl, below_two _ _ _⟩
 ·rw [show resC c m = c.p from if_neg (by omega)]
  exact bodyPost_ret (by simp [results, Tryz.results94, go_sem]) rfl ⟨rfl, below_two _ _ _⟩
theorem empty_walk (c : Cl) (w : World) :
  Calls Tryz.prog 91 #[.agg #[.int .u64 c.k, .bool c.p.h, .int .u64 c.p.b, .bool c.c.h, .int .u64 c.c.b, .int .i64 c.n]] w fun e w' => e = .returned (.bool (empC c)) ∧ Below w.heap.size w w' := by
 unfold empC
 cases c.p.h <;> cases c.c.h
 all_goals
  go_in
  go_wp2_with fail
  go_ret
  exact ⟨rfl, below_alloc _ _⟩
theorem eql_gen (a b : Vl) (w : World) : (binOp .eql 58 (.agg #[.bool a.h, .int .u64 a.b]) (.agg #[.bool b.h, .int .u64 b.b])).run Tryz.prog w = .ok (.bool (eqV a b)) w := by
 have u0 := Tryz.underlying4
 have u1 := Tryz.underlying33
 have a0 := Tryz.isAgg4
 have a1 := Tryz.isAgg33
 have z0 := Tryz.sizeOf4
 have z1 := Tryz.sizeOf33
 have hS : Tryz.prog.underlying 58 = some (.struct (Tryz.prog.fieldsOf 58)) := by kernel_rfl
 have hp : Tryz.prog.stoodInHeld 58 = false := by kernel_rfl
 rw [run_eql_struct, show (10000 : Nat) = 9999 + 1 from rfl, run_equalIn_agg w 9999 58 _ _ hS hp]
 simp only [Program.fieldsOf, Tryz.underlying58]
 unfold eqV
 by_cases h0 : a.h = b.h
 ·by_cases h1 : a.b = b.b
  ·rw [h0, h1]
   go_simp
  ·have h2 : (a.b == b.b) = false := by simpa using h1
   rw [h0, h2]
   go_simp
   omega
 ·have h2 : (a.h == b.h) = false := by simpa using h0
  rw [h2]
  go_simp
end
section
open Ieee Go.RowKit

attribute [local go_sem] run_bits run_frombits
theorem merge_start {w w1 : World} {a b : Vl}
  (h : ((w.alloc (Obj.cells #[Value.bool a.h, Value.int IntKind.u64 (a.b : Int)] 58)).alloc (Obj.cells #[Value.bool b.h, Value.int IntKind.u64 (b.b : Int)] 58)).alloc (Obj.cells #[Value.bool false, Value.int IntKind.u64 0] 58) = w1) :
  Hid (w1.heap.size = w.heap.size + 1 + 1 + 1) ∧ Hid (Below w.heap.size w w1) ∧ Hid (VB w1 w.heap.size a) ∧ Hid (VB w1 (w.heap.size + 1) b) ∧ Hid (VB w1 (w.heap.size + 1 + 1) noV) := by
 subst h
 refine ⟨by simp [Hid, go_sem], ?_, ?_, ?_, ?_⟩
 ·exact ((below_alloc _ _).alloc (by simp [go_sem]) _).alloc (by simp [go_sem]; omega) _
 all_goals (show VB _ _ _; constructor <;> simp [go_sem, noV])
theorem merge_walk (k : Int) {a b : Vl} (ha : a.ok) (hb : b.ok) (w : World) :
  Calls Tryz.prog 99 #[.int .i64 k, .agg #[.bool a.h, .int .u64 a.b], .agg #[.bool b.h, .int .u64 b.b]] w fun e w' => e = .returned (.agg #[.bool (mergeV k a b).h, .int .u64 (mergeV k a b).b]) ∧ Below w.heap.size w w' := by
 unfold mergeV
 obtain ⟨A, hA⟩ : ∃ A, A = fitV k a := ⟨_, rfl⟩
 obtain ⟨B, hB⟩ : ∃ B, B = fitV k b := ⟨_, rfl⟩
 have HA : Hid (A = fitV k a) := hA
 have HB : Hid (B = fitV k b) := hB
 have HAO : Hid A.ok := by rw [hA]; exact fitV_ok k ha
 have HBO : Hid B.ok := by rw [hB]; exact fitV_ok k hb
 rw [← hA, ← hB]
 clear hA hB
 go_in
 go_wp2_with fail
 generalize hg : ((w.alloc (Obj.cells #[Value.bool a.h, Value.int IntKind.u64 (a.b : Int)] 58)).alloc (Obj.cells #[Value.bool b.h, Value.int IntKind.u64 (b.b : Int)] 58)).alloc (Obj.cells #[Value.bool false, Value.int IntKind.u64 0] 58) = w1
 obtain ⟨HSZ, HBW, HVA, HVB, HVC⟩ := merge_start hg
 clear hg
 go_cut [] (fun wx => ∃ wy, Below w1.heap.size w1 wy ∧ wx = (((wy.setCell ⟨w.heap.size, 0, none⟩ (.bool A.h)).setCell ⟨w.heap.size, 1, none⟩ (.int .u64 A.b)).setCell ⟨w.heap.size + 1, 0, none⟩ (.bool B.h)).setCell ⟨w.heap.size + 1, 1, none⟩ (.int .u64 B.b))
 case first =>
  obtain ⟨c0, c1, z0, z1⟩ := HVA.out
  obtain ⟨d0, d1, y0, y1⟩ := HVB.out
  go_region_with ((go_at_call 78; refine (fit_walk k (v := ⟨_, _⟩) (by first | exact ha | exact hb) _).mono ?_; (first | rw [show fitV k ⟨a.h, a.b⟩ = A from HA.out.symm] | rw [show fitV k ⟨b.h, b.b⟩ = B from HB.out.symm]); rintro e w9 ⟨rfl, hB9⟩; have hS9 : Below w1.heap.size w1 w9 := below_trans (by first | assumption | exact (Below.refl _ _).drew) hB9; obtain ⟨c0, c1, z0, z1⟩ := HVA.out.below hS9 (cell_lt HVA.out.c0); obtain ⟨d0, d1, y0, y1⟩ := HVB.out.below hS9 (cell_lt HVB.out.c0)))
  all_goals go_wp2_with fail
  all_goals go_meet
  all_goals exact ⟨_, hS9, rfl⟩
 case rest =>
  obtain ⟨wy, hBy, rfl⟩ := hcut
  generalize hg : (((wy.setCell ⟨w.heap.size, 0, none⟩ (.bool A.h)).setCell ⟨w.heap.size, 1, none⟩ (.int .u64 A.b)).setCell ⟨w.heap.size + 1, 0, none⟩ (.bool B.h)).setCell ⟨w.heap.size + 1, 1, none⟩ (.int .u64 B.b) = w2
  have GA : Hid (VB w2 w.heap.size A) := by
   show VB _ _ _
   rw [← hg]
   exact (((HVA.out.below hBy (cell_lt HVA.out.c0)).set _ _).other (by simp) _).other (by simp) _
  have GB : Hid (VB w2 (w.heap.size + 1) B) := by
   show VB _ _ _
   rw [← hg]
   exact (((HVB.out.below hBy (cell_lt HVB.out.c0)).other (by simp) _).other (by simp) _).set _ _
  have GC : Hid (VB w2 (w.heap.size + 1 + 1) noV) := by
   show VB _ _ _
   rw [← hg]
   exact ((((HVC.out.below hBy (cell_lt HVC.out.c0)).other (by simp; omega) _).other (by simp; omega) _).other (by simp) _).other (by simp) _
  have GW : Hid (Below w.heap.size w w2) := by
   show Below _ _ _
   rw [← hg]
   exact keep_store (keep_store (below_trans HBW.out hBy) _ (Nat.le_refl _) _ _) _ (Nat.le_succ _) _ _
  clear hg hBy HVA HVB HVC HBW HSZ HA HB
  have hn2 : w.heap.size ≤ w.heap.size + 1 + 1 := by omega
  have HN2 := hidH hn2
  clear hn2
  obtain ⟨c0, c1, z0, z1⟩ := GA.out
  obtain ⟨d0, d1, y0, y1⟩ := GB.out
  obtain ⟨e0, e1, x0, x1⟩ := GC.out
  cases hAh : A.h
  ·rw [hAh] at c0
   have EJ : Hid (joinV k A B = B) := by show _ = _; unfold joinV; rw [if_pos hAh]
   clear hAh
   go_wp2_with fail
   refine bodyPost_ret (v := .agg #[.bool B.h, .int .u64 B.b]) (by simp [results, Tryz.results99, go_sem, e0, e1]) rfl ⟨by rw [EJ.out], ?_⟩
   exact keep_store GW.out _ HN2.out _ _
  cases hBh : B.h
  ·rw [hAh] at c0
   rw [hBh] at d0
   have EJ : Hid (joinV k A B = A) := by show _ = _; unfold joinV; rw [if_neg (by simp [hAh]), if_pos hBh]
   have HAh : Hid (A.h = true) := hAh
   clear hAh hBh
   go_wp2_with fail
   refine bodyPost_ret (v := .agg #[.bool true, .int .u64 A.b]) (by simp [results, Tryz.results99, go_sem, e0, e1]) rfl ⟨by rw [EJ.out, HAh.out], ?_⟩
   exact keep_store GW.out _ HN2.out _ _
  rw [hAh] at c0
  rw [hBh] at d0
  have HAh : Hid (A.h = true) := hAh
  have HBh : Hid (B.h = true) := hBh
  have hav : A = ⟨true, A.b⟩ := by rw [← hAh]
  have hbv : B = ⟨true, B.b⟩ := by rw [← hBh]
  by_cases h3 : k = 3
  ·subst h3
   have EJ : Hid (joinV 3 A B = ⟨true, leastW A.b B.b⟩) := by show _ = _; unfold joinV; rw [if_neg (by simp [hAh]), if_neg (by simp [hBh]), if_pos rfl]
   clear hAh hBh
   rw [hav] at GA
   rw [hbv] at GB
   clear hav hbv
   go_wp2_with fail
   go_region_with (first
    | (go_at_call 123; refine (floatOf_walk ⟨_, _⟩ _).mono ?_; rintro e w9 ⟨rfl, hB9⟩; have hS9 : Below w2.heap.size w2 w9 := below_trans (by first | assumption | exact (Below.refl _ _).drew) hB9; obtain ⟨c0, c1, z0, z1⟩ := GA.out.below hS9 (cell_lt GA.out.c0); obtain ⟨d0, d1, y0, y1⟩ := GB.out.below hS9 (cell_lt GB.out.c0); clear hB9)
    | (go_at_call 145; refine (least_walk HAO.out HBO.out _).mono ?_; rintro e w' ⟨rfl, rfl⟩)
    | (go_at_call 101; refine (ofFloat_walk _ _).mono ?_; rintro e w9 ⟨rfl, hB9⟩; have hS9 : Below w2.heap.size w2 w9 := below_trans (by first | assumption | exact (Below.refl _ _).drew) hB9; obtain ⟨e0, e1, x0, x1⟩ := GC.out.below hS9 (cell_lt GC.out.c0)))
   all_goals go_wp2_with fail
   all_goals refine bodyPost_ret (v := .agg #[.bool true, .int .u64 (leastW A.b B.b)]) (by simp [results, Tryz.results99, go_sem, e0, e1]) rfl ⟨by rw [EJ.out], ?_⟩
   all_goals exact keep_store (below_trans GW.out hS9) _ HN2.out _ _
  by_cases h4 : k = 4
  ·subst h4
   have EJ : Hid (joinV 4 A B = ⟨true, mostW A.b B.b⟩) := by show _ = _; unfold joinV; rw [if_neg (by simp [hAh]), if_neg (by simp [hBh]), if_neg (by omega), if_pos rfl]
   clear hAh hBh
   rw [hav] at GA
   rw [hbv] at GB
   clear hav hbv
   go_wp2_with fail
   go_region_with (first
    | (go_at_call 123; refine (floatOf_walk ⟨_, _⟩ _).mono ?_; rintro e w9 ⟨rfl, hB9⟩; have hS9 : Below w2.heap.size w2 w9 := below_trans (by first | assumption | exact (Below.refl _ _).drew) hB9; obtain ⟨c0, c1, z0, z1⟩ := GA.out.below hS9 (cell_lt GA.out.c0); obtain ⟨d0, d1, y0, y1⟩ := GB.out.below hS9 (cell_lt GB.out.c0); clear hB9)
    | (go_at_call 146; refine (most_walk HAO.out HBO.out _).mono ?_; rintro e w' ⟨rfl, rfl⟩)
    | (go_at_call 101; refine (ofFloat_walk _ _).mono ?_; rintro e w9 ⟨rfl, hB9⟩; have hS9 : Below w2.heap.size w2 w9 := below_trans (by first | assumption | exact (Below.refl _ _).drew) hB9; obtain ⟨e0, e1, x0, x1⟩ := GC.out.below hS9 (cell_lt GC.out.c0)))
   all_goals go_wp2_with fail
   all_goals refine bodyPost_ret (v := .agg #[.bool true, .int .u64 (mostW A.b B.b)]) (by simp [results, Tryz.results99, go_sem, e0, e1]) rfl ⟨by rw [EJ.out], ?_⟩
   all_goals exact keep_store (below_trans GW.out hS9) _ HN2.out _ _
  ·have EJ : Hid (joinV k A B = ⟨true, (A.b + B.b) % 18446744073709551616⟩) := by show _ = _; unfold joinV; rw [if_neg (by simp [hAh]), if_neg (by simp [hBh]), if_neg h3, if_neg h4]
   have es : IntKind.u64.wrap ((A.b : Int) + (B.b : Int)) = (((A.b + B.b) % 18446744073709551616 : Nat) : Int) := by rw [IntKind.wrap_u64]; omega
   obtain ⟨sm, hsm⟩ : ∃ sm, sm = (A.b + B.b) % 18446744073709551616 := ⟨_, rfl⟩
   rw [← hsm] at es
   have HS : Hid (sm = (A.b + B.b) % 18446744073709551616) := hsm
   clear hsm
   have b3 := neq_b h3
   have b4 := neq_b h4
   clear hAh hBh hav hbv h3 h4
   go_wp2_with fail
   refine bodyPost_ret (v := .agg #[.bool true, .int .u64 sm]) (by simp [results, Tryz.results99, go_sem, e0, e1]) rfl ⟨by rw [EJ.out, HS.out], ?_⟩
   exact keep_store GW.out _ HN2.out _ _
end
section
open Ieee Go.RowKit

attribute [local go_sem] run_bits run_frombits
end
section
open Ieee Go.RowKit

structure CB (w : World) (b : Nat) (c : Cl) : Prop where
 c0 : w.cell? ⟨b, 0, none⟩ = some (.int .u64 c.k)
 c1 : w.cell? ⟨b, 1, none⟩ = some (.bool c.p.h)
 c2 : w.cell? ⟨b, 2, none⟩ = some (.int .u64 c.p.b)
 c3 : w.cell? ⟨b, 3, none⟩ = some (.bool c.c.h)
 c4 : w.cell? ⟨b, 4, none⟩ = some (.int .u64 c.c.b)
 c5 : w.cell? ⟨b, 5, none⟩ = some (.int .i64 c.n)
 z : ∀ j, w.frozen? ⟨b, j, none⟩ = false
theorem CB.below {w w' : World} {b B : Nat} {c : Cl} (h : CB w b c) (hb : Below B w w') (hl : b < B) : CB w' b c :=
 ⟨by rw [hb.cell (p := ⟨b, 0, none⟩) hl]; exact h.c0, by rw [hb.cell (p := ⟨b, 1, none⟩) hl]; exact h.c1, by rw [hb.cell (p := ⟨b, 2, none⟩) hl]; exact h.c2, by rw [hb.cell (p := ⟨b, 3, none⟩) hl]; exact h.c3, by rw [hb.cell (p := ⟨b, 4, none⟩) hl]; exact h.c4, by rw [hb.cell (p := ⟨b, 5, none⟩) hl]; exact h.c5, fun j => by rw [hb.frozen (p := ⟨b, j, none⟩) hl]; exact h.z j⟩
theorem cb_new (w : World) (c : Cl) : CB (w.alloc (Obj.cells #[.int .u64 c.k, .bool c.p.h, .int .u64 c.p.b, .bool c.c.h, .int .u64 c.c.b, .int .i64 c.n] 63)) w.heap.size c := by
 constructor <;> simp [go_sem]
theorem CB.other {w : World} {b : Nat} {c : Cl} (h : CB w b c) {p : Addr} (hne : b ≠ p.block) (u : Value) : CB (w.setCell p u) b c := by
 obtain ⟨c0, c1, c2, c3, c4, c5, z⟩ := h
 refine ⟨?_, ?_, ?_, ?_, ?_, ?_, fun j => by simpa [go_sem] using z j⟩
 all_goals (rw [World.cell?_setCell_other _ _ _ _ (by rintro ⟨⟩; exact hne rfl)]; assumption)
theorem guard_cell : Tryz.prog.eqGuardType Tryz.prog.depth 63 = false := by kernel_rfl
theorem fitValue_walk (k : Int) {v : Vl} (hv : v.ok) (w : World) :
  Calls Tryz.prog 136 #[.int .i64 k, .agg #[.bool v.h, .int .u64 v.b]] w fun e w' => e = .returned (.bool (eqV (fitV k v) v)) ∧ Below w.heap.size w w' := by
 have hgd := guard_val
 have he := eql_gen (fitV k v) v
 go_in
 go_wp2_with fail
 generalize hg : w.alloc (Obj.cells #[Value.bool v.h, Value.int IntKind.u64 (v.b : Int)] 58) = w1
 have HV : Hid (VB w1 w.heap.size v) := by show VB _ _ _; rw [← hg]; exact vb_new w v.h v.b
 have HB : Hid (Below w.heap.size w w1) := by show Below _ _ _; rw [← hg]; exact below_alloc _ _
 clear hg
 obtain ⟨c0, c1, z0, z1⟩ := HV.out
 go_region_with (go_at_call 78; refine (fit_walk k hv _).mono ?_; rintro e w9 ⟨rfl, hB9⟩; have hS9 : Below w1.heap.size w1 w9 := below_trans (by first | assumption | exact (Below.refl _ _).drew) hB9; obtain ⟨c0, c1, z0, z1⟩ := HV.out.below hS9 (cell_lt HV.out.c0))
 all_goals go_wp2_with fail
 all_goals go_ret
 all_goals exact ⟨rfl, below_trans HB.out (by assumption)⟩
end
section
open Ieee Go.RowKit

theorem cfit_walk (k : Int) {c : Cl} (hc : c.ok) (w : World) :
  Calls Tryz.prog 90 #[.int .i64 k, .agg #[.int .u64 c.k, .bool c.p.h, .int .u64 c.p.b, .bool c.c.h, .int .u64 c.c.b, .int .i64 c.n]] w fun e w' => e = .returned (.bool (fitC k c)) ∧ Below w.heap.size w w' := by
 unfold fitC
 have HC : Hid c.ok := hc
 clear hc
 obtain ⟨a1, ha1⟩ : ∃ a, a = eqV (fitV k c.p) c.p := ⟨_, rfl⟩
 obtain ⟨a2, ha2⟩ : ∃ a, a = eqV (fitV k c.c) c.c := ⟨_, rfl⟩
 have H1 : Hid (eqV (fitV k c.p) c.p = a1) := ha1.symm
 have H2 : Hid (eqV (fitV k c.c) c.c = a2) := ha2.symm
 rw [← ha1, ← ha2]
 clear ha1 ha2
 go_in
 go_wp2_with fail
 generalize hg : w.alloc (Obj.cells #[.int .u64 c.k, .bool c.p.h, .int .u64 c.p.b, .bool c.c.h, .int .u64 c.c.b, .int .i64 c.n] 63) = w1
 have HV : Hid (CB w1 w.heap.size c) := by show CB _ _ _; rw [← hg]; exact cb_new w c
 have HB : Hid (Below w.heap.size w w1) := by show Below _ _ _; rw [← hg]; exact below_alloc _ _
 clear hg
 obtain ⟨c0, c1, c2, c3, c4, c5, zz⟩ := HV.out
 cases hk : knownB k
 ·go_wp2_with (go_at_call 6; refine (known_walk _ _).mono ?_; rintro e w' ⟨rfl, rfl⟩)
  go_ret
  exact ⟨by simp [hk], HB.out⟩
 cases a1
 ·go_wp2_with (first
   | (go_at_call 6; refine (known_walk _ _).mono ?_; rintro e w' ⟨rfl, rfl⟩)
   | (go_at_call 136; have hT := hS9; clear hT; refine (fitValue_walk _ HC.out.2 _).mono ?_; rw [H2.out]; rintro e w9 ⟨rfl, hB9⟩; have hS9 := below_trans hS9 hB9; obtain ⟨c0, c1, c2, c3, c4, c5, zz⟩ := HV.out.below hS9 (cell_lt HV.out.c0); clear hB9)
   | (go_at_call 136; refine (fitValue_walk _ HC.out.1 _).mono ?_; rw [H1.out]; rintro e w9 ⟨rfl, hB9⟩; have hS9 := hB9; obtain ⟨c0, c1, c2, c3, c4, c5, zz⟩ := HV.out.below hS9 (cell_lt HV.out.c0); clear hB9))
  go_ret
  exact ⟨by simp, below_trans HB.out (by assumption)⟩
 cases a2
 ·go_wp2_with (first
   | (go_at_call 6; refine (known_walk _ _).mono ?_; rintro e w' ⟨rfl, rfl⟩)
   | (go_at_call 136; have hT := hS9; clear hT; refine (fitValue_walk _ HC.out.2 _).mono ?_; rw [H2.out]; rintro e w9 ⟨rfl, hB9⟩; have hS9 := below_trans hS9 hB9; obtain ⟨c0, c1, c2, c3, c4, c5, zz⟩ := HV.out.below hS9 (cell_lt HV.out.c0); clear hB9)
   | (go_at_call 136; refine (fitValue_walk _ HC.out.1 _).mono ?_; rw [H1.out]; rintro e w9 ⟨rfl, hB9⟩; have hS9 := hB9; obtain ⟨c0, c1, c2, c3, c4, c5, zz⟩ := HV.out.below hS9 (cell_lt HV.out.c0); clear hB9))
  go_ret
  exact ⟨by simp, below_trans HB.out (by assumption)⟩
 go_wp2_with (first
   | (go_at_call 6; refine (known_walk _ _).mono ?_; rintro e w' ⟨rfl, rfl⟩)
   | (go_at_call 136; have hT := hS9; clear hT; refine (fitValue_walk _ HC.out.2 _).mono ?_; rw [H2.out]; rintro e w9 ⟨rfl, hB9⟩; have hS9 := below_trans hS9 hB9; obtain ⟨c0, c1, c2, c3, c4, c5, zz⟩ := HV.out.below hS9 (cell_lt HV.out.c0); clear hB9)
   | (go_at_call 136; refine (fitValue_walk _ HC.out.1 _).mono ?_; rw [H1.out]; rintro e w9 ⟨rfl, hB9⟩; have hS9 := hB9; obtain ⟨c0, c1, c2, c3, c4, c5, zz⟩ := HV.out.below hS9 (cell_lt HV.out.c0); clear hB9))
 all_goals (go_ret; exact ⟨by (try simp_all) <;> omega, below_trans HB.out (by assumption)⟩)
end
section
open Ieee Go.RowKit
end
section
open Ieee Go.RowKit

theorem below_three (w : World) (o p q : Obj) : Below w.heap.size w (((w.alloc o).alloc p).alloc q) := (below_two w o p).alloc (by rw [size_alloc, size_alloc]; omega) q
theorem three_cb {w w1 : World} {A Z : Cl} {v : Vl}
  (h : ((w.alloc (Obj.cells #[.int .u64 A.k, .bool A.p.h, .int .u64 A.p.b, .bool A.c.h, .int .u64 A.c.b, .int .i64 A.n] 63)).alloc (Obj.cells #[.bool v.h, .int .u64 v.b] 58)).alloc (Obj.cells #[.int .u64 Z.k, .bool Z.p.h, .int .u64 Z.p.b, .bool Z.c.h, .int .u64 Z.c.b, .int .i64 Z.n] 63) = w1) :
  Hid (CB w1 w.heap.size A) ∧ Hid (VB w1 (w.heap.size + 1) v) ∧ Hid (CB w1 (w.heap.size + 1 + 1) Z) ∧ Hid (Below w.heap.size w w1) := by
 subst h
 refine ⟨?_, ?_, ?_, below_three _ _ _ _⟩
 ·show CB _ _ _
  constructor <;> simp [go_sem]
 ·show VB _ _ _
  constructor <;> simp [go_sem]
 ·show CB _ _ _
  constructor <;> simp [go_sem]
theorem keep_store2 {w w1 : World} (h : Below w.heap.size w w1) (b : Nat) (hb : w.heap.size ≤ b) (i j : Nat) (u v : Value) : Below w.heap.size w ((w1.setCell ⟨b, i, none⟩ u).setCell ⟨b, j, none⟩ v) := (h.setCell hb u).setCell hb v
theorem keep_cell {w w1 : World} (h : Below w.heap.size w w1) (b : Nat) (hb : w.heap.size ≤ b) (u0 u1 u2 u3 u4 u5 : Value) :
  Below w.heap.size w ((((((w1.setCell ⟨b, 0, none⟩ u0).setCell ⟨b, 1, none⟩ u1).setCell ⟨b, 2, none⟩ u2).setCell ⟨b, 3, none⟩ u3).setCell ⟨b, 4, none⟩ u4).setCell ⟨b, 5, none⟩ u5) :=
 (((((h.setCell hb u0).setCell hb u1).setCell hb u2).setCell hb u3).setCell hb u4).setCell hb u5
theorem CB.setCur {w : World} {b : Nat} {c : Cl} (h : CB w b c) (m : Vl) : CB ((w.setCell ⟨b, 3, none⟩ (.bool m.h)).setCell ⟨b, 4, none⟩ (.int .u64 m.b)) b ⟨c.k, c.p, m, c.n⟩ := by
 obtain ⟨c0, c1, c2, c3, c4, c5, z⟩ := h
 constructor <;> simp [go_sem, c0, c1, c2, c3, c4, c5, z]
theorem CB.set {w : World} {b : Nat} {c : Cl} (h : CB w b c) (d : Cl) :
  CB ((((((w.setCell ⟨b, 0, none⟩ (.int .u64 d.k)).setCell ⟨b, 1, none⟩ (.bool d.p.h)).setCell ⟨b, 2, none⟩ (.int .u64 d.p.b)).setCell ⟨b, 3, none⟩ (.bool d.c.h)).setCell ⟨b, 4, none⟩ (.int .u64 d.c.b)).setCell ⟨b, 5, none⟩ (.int .i64 d.n)) b d := by
 obtain ⟨c0, c1, c2, c3, c4, c5, z⟩ := h
 constructor <;> simp [go_sem, c0, c1, c2, c3, c4, c5, z]
theorem apply_walk (k : Int) {c : Cl} (hc : c.ok) (b : Int) {v : Vl} (hv : v.ok) (w : World) :
  Calls Tryz.prog 83 #[.int .i64 k, .agg #[.int .u64 c.k, .bool c.p.h, .int .u64 c.p.b, .bool c.c.h, .int .u64 c.c.b, .int .i64 c.n], .int .i64 b, .agg #[.bool v.h, .int .u64 v.b]] w fun e w' => e = .returned (.tuple #[.agg #[.int .u64 (appC k c b v).k, .bool (appC k c b v).p.h, .int .u64 (appC k c b v).p.b, .bool (appC k c b v).c.h, .int .u64 (appC k c b v).c.b, .int .i64 (appC k c b v).n], .int .i64 (appI k c b)]) ∧ Below w.heap.size w w' := by
 cases hk : knownB k
 ·have e : appI k c b = 1 := if_pos (.inl hk)
  have e2 : appC k c b v = zeroC := by unfold appC; rw [e]; rfl
  rw [e, e2]
  clear e e2
  unfold zeroC noV
  go_in
  go_wp2_with (go_at_call 6; refine (known_walk _ _).mono ?_; rintro e w' ⟨rfl, rfl⟩)
  all_goals (refine bodyPost_ret (by simp [results, Tryz.results83, go_sem]) rfl ⟨rfl, ?_⟩; exact below_three _ _ _ _)
 by_cases hb1 : b < 1
 ·have e : appI k c b = 1 := if_pos (.inr hb1)
  have e2 : appC k c b v = zeroC := by unfold appC; rw [e]; rfl
  rw [e, e2]
  clear e e2
  unfold zeroC noV
  go_in
  go_wp2_with (go_at_call 6; refine (known_walk _ _).mono ?_; rintro e w' ⟨rfl, rfl⟩)
  all_goals (refine bodyPost_ret (by simp [results, Tryz.results83, go_sem]) rfl ⟨rfl, ?_⟩; exact below_three _ _ _ _)
 replace hb1 : 1 ≤ b := by omega
 by_cases h2 : b < c.n
 ·have e : appI k c b = 100 := by unfold appI; rw [if_neg (by simp [hk]; omega), if_pos h2]
  have e2 : appC k c b v = zeroC := by unfold appC; rw [e]; rfl
  rw [e, e2]
  clear e e2
  unfold zeroC noV
  go_in
  go_wp2_with (go_at_call 6; refine (known_walk _ _).mono ?_; rintro e w' ⟨rfl, rfl⟩)
  all_goals (refine bodyPost_ret (by simp [results, Tryz.results83, go_sem]) rfl ⟨rfl, ?_⟩; exact below_three _ _ _ _)
 have e : appI k c b = 0 := by unfold appI; rw [if_neg (by simp [hk]; omega), if_neg h2]
 have e2 : appC k c b v = ⟨c.k, aheadC c b, mergeV k (aheadC c b) v, b⟩ := by unfold appC; rw [e]; rfl
 rw [e, e2]
 clear e e2
 obtain ⟨P, hP⟩ : ∃ P, P = aheadC c b := ⟨_, rfl⟩
 have HPO : Hid P.ok := by show P.ok; rw [hP]; unfold aheadC; split; exact hc.2; exact hc.1
 have HVO : Hid v.ok := hv
 obtain ⟨M, hM⟩ : ∃ M, M = mergeV k P v := ⟨_, rfl⟩
 have HM : Hid (mergeV k P v = M) := hM.symm
 rw [← hP, ← hM]
 clear hM hv
 go_in
 by_cases h3 : c.n < b
 ·obtain rfl : P = c.c := by rw [hP]; exact if_pos h3
  clear hc hP
  go_upto_region 7 with (go_at_call 6; refine (known_walk _ _).mono ?_; rintro e w' ⟨rfl, rfl⟩)
  all_goals try (exfalso; omega)
  generalize hg : ((w.alloc (Obj.cells #[.int .u64 c.k, .bool c.c.h, .int .u64 c.c.b, .bool c.c.h, .int .u64 c.c.b, .int .i64 b] 63)).alloc (Obj.cells #[.bool v.h, .int .u64 v.b] 58)).alloc (Obj.cells #[.int .u64 0, .bool false, .int .u64 0, .bool false, .int .u64 0, .int .i64 0] 63) = w1
  obtain ⟨HA, HV, HZ, HB⟩ := three_cb (A := ⟨c.k, c.c, c.c, b⟩) (Z := zeroC) hg
  clear hg
  obtain ⟨c0, c1, c2, c3, c4, c5, zz⟩ := HA.out
  obtain ⟨v0, v1, _, _⟩ := HV.out
  go_cut [] (fun wx => CB wx w.heap.size ⟨c.k, c.c, M, b⟩ ∧ CB wx (w.heap.size + 1 + 1) zeroC ∧ Below w.heap.size w wx)
  case first =>
   go_wp2_with (go_at_call 99; refine (merge_walk k HPO.out HVO.out _).mono ?_; rw [HM.out]; rintro e w9 ⟨rfl, hB9⟩; have HA9 := HA.out.below hB9 (cell_lt HA.out.c0); obtain ⟨c0, c1, c2, c3, c4, c5, zz⟩ := HA9)
   all_goals go_meet
   all_goals exact ⟨CB.setCur (HA.out.below (by assumption) (cell_lt HA.out.c0)) M, ((HZ.out.below (by assumption) (cell_lt HZ.out.c0)).other (by simp; omega) _).other (by simp; omega) _, keep_store2 (below_trans HB.out (by assumption)) _ (Nat.le_refl _) _ _ _ _⟩
  case rest =>
   obtain ⟨hA, hZ, hB⟩ := hcut
   have HB2 := hidH hB
   obtain ⟨c0, c1, c2, c3, c4, c5, zz⟩ := hA
   obtain ⟨d0, d1, d2, d3, d4, d5, yy⟩ := hZ
   clear hB HA HV HZ HB
   go_wp2_with fail
   refine bodyPost_ret (by simp [results, Tryz.results83, go_sem, d0, d1, d2, d3, d4, d5]) rfl ⟨rfl, ?_⟩
   exact keep_cell HB2.out _ (by omega) _ _ _ _ _ _
 ·obtain rfl : P = c.p := by rw [hP]; exact if_neg h3
  obtain rfl : b = c.n := by omega
  clear hc hP
  go_upto_region 7 with (go_at_call 6; refine (known_walk _ _).mono ?_; rintro e w' ⟨rfl, rfl⟩)
  all_goals try (exfalso; omega)
  generalize hg : ((w.alloc (Obj.cells #[.int .u64 c.k, .bool c.p.h, .int .u64 c.p.b, .bool c.c.h, .int .u64 c.c.b, .int .i64 c.n] 63)).alloc (Obj.cells #[.bool v.h, .int .u64 v.b] 58)).alloc (Obj.cells #[.int .u64 0, .bool false, .int .u64 0, .bool false, .int .u64 0, .int .i64 0] 63) = w1
  obtain ⟨HA, HV, HZ, HB⟩ := three_cb (A := ⟨c.k, c.p, c.c, c.n⟩) (Z := zeroC) hg
  clear hg
  obtain ⟨c0, c1, c2, c3, c4, c5, zz⟩ := HA.out
  obtain ⟨v0, v1, _, _⟩ := HV.out
  go_cut [] (fun wx => CB wx w.heap.size ⟨c.k, c.p, M, c.n⟩ ∧ CB wx (w.heap.size + 1 + 1) zeroC ∧ Below w.heap.size w wx)
  case first =>
   go_wp2_with (go_at_call 99; refine (merge_walk k HPO.out HVO.out _).mono ?_; rw [HM.out]; rintro e w9 ⟨rfl, hB9⟩; have HA9 := HA.out.below hB9 (cell_lt HA.out.c0); obtain ⟨c0, c1, c2, c3, c4, c5, zz⟩ := HA9)
   all_goals go_meet
   all_goals exact ⟨CB.setCur (HA.out.below (by assumption) (cell_lt HA.out.c0)) M, ((HZ.out.below (by assumption) (cell_lt HZ.out.c0)).other (by simp; omega) _).other (by simp; omega) _, keep_store2 (below_trans HB.out (by assumption)) _ (Nat.le_refl _) _ _ _ _⟩
  case rest =>
   obtain ⟨hA, hZ, hB⟩ := hcut
   have HB2 := hidH hB
   obtain ⟨c0, c1, c2, c3, c4, c5, zz⟩ := hA
   obtain ⟨d0, d1, d2, d3, d4, d5, yy⟩ := hZ
   clear hB HA HV HZ HB
   go_wp2_with fail
   refine bodyPost_ret (by simp [results, Tryz.results83, go_sem, d0, d1, d2, d3, d4, d5]) rfl ⟨rfl, ?_⟩
   exact keep_cell HB2.out _ (by omega) _ _ _ _ _ _
end
end Go.Proofs.YtofkhgokfdpdiabGreat
