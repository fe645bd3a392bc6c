/- Contract of the reference's Fit. -/
import Derived.Test.YtcmklbibehnloaaGreatB06
import Derived.Deep.RegionWith
set_option maxRecDepth 100000
set_option maxHeartbeats 16000000
namespace Go.Proofs.YtcmklbibehnloaaGreat
open Go.RowKit
section
open Ieee Go.RowKit

attribute [local go_sem] run_bits run_frombits
end
section
open Ieee

structure Stp where
 K : Int
 N : Int
 X : Nat
structure Rcd where
 k : Nat
 x : Nat
def negW (x : Nat) : Nat := Op.negFloat .f64 x
theorem unary_negW (x : Nat) : Op.unary .neg (.float .f64 x) = pure (.float .f64 (negW x)) := rfl
end
section
open Ieee

structure Pr where
 k : Nat
 v : Vl
def Pr.ok (p : Pr) : Prop := p.k < 18446744073709551616 ∧ p.v.ok
def Rise (t : List Pr) : Prop := t.Pairwise (fun p q => p.k < q.k)
def hasT (t : List Pr) : Prop := ∀ p ∈ t, p.v.h = true
end
section
open Ieee Go.RowKit

attribute [local go_sem] run_bits run_frombits unary_negW
theorem run_store_float {P : Program} {w : World} {a : Addr} {m : Mode} (k : FloatKind) (x : Nat) : (store a (.float k x) m).run P w = stored P w a (.float k x) m := run_store P w a _ m rfl
attribute [local go_sem] run_store_float
end
section
open Ieee Go.RowKit
end
section
open Ieee Go.RowKit

attribute [local go_sem] run_store_float
structure RB (w : World) (b : Nat) (k : Nat) (x : Nat) : Prop where
 c0 : w.cell? ⟨b, 0, none⟩ = some (.int .u64 k)
 c1 : w.cell? ⟨b, 1, none⟩ = some (.float .f64 x)
 z0 : w.frozen? ⟨b, 0, none⟩ = false
 z1 : w.frozen? ⟨b, 1, none⟩ = false
end
section
open Ieee Go.RowKit
end
section
open Ieee Go.RowKit

def Ql (w : World) (ao : Option Addr) (l : List Pr) : Prop :=
 ∀ i, (h : i < l.length) → ∃ b off, ao = some ⟨b, off, none⟩ ∧ w.cell? ⟨b, off + i * 3, none⟩ = some (.int .u64 l[i].k) ∧ w.cell? ⟨b, off + i * 3 + 1, none⟩ = some (.bool l[i].v.h) ∧ w.cell? ⟨b, off + i * 3 + 2, none⟩ = some (.int .u64 l[i].v.b)
def Qv (w : World) (v : Value) (l : List Pr) : Prop :=
 (∃ ao cap, v = .slice ao l.length cap ∧ l.length ≤ cap ∧ cap ≤ maxLen ∧ (ao = none → cap = 0) ∧ Ql w ao l) ∧ ∀ o ∈ l, o.ok
theorem Ql.below {w w' : World} {ao : Option Addr} {l : List Pr} (h : Ql w ao l) (hb : Below w.heap.size w w') : Ql w' ao l := by
 intro i hi;obtain ⟨b, off, e, h0, h1, h2⟩ := h i hi;exact ⟨b, off, e, by rw [hb.cell (p := ⟨b, off + i * 3, none⟩) (cell_lt h0)]; exact h0, by rw [hb.cell (p := ⟨b, off + i * 3 + 1, none⟩) (cell_lt h1)]; exact h1, by rw [hb.cell (p := ⟨b, off + i * 3 + 2, none⟩) (cell_lt h2)]; exact h2⟩
theorem Qv.below {w w' : World} {v : Value} {l : List Pr} (h : Qv w v l) (hb : Below w.heap.size w w') : Qv w' v l := by
 obtain ⟨⟨ao, cap, e, h1, h2, h3, h4⟩, h5⟩ := h;exact ⟨⟨ao, cap, e, h1, h2, h3, h4.below hb⟩, h5⟩
theorem Qv.ql {w : World} {ao : Option Addr} {n cap : Nat} {l : List Pr} (h : Qv w (.slice ao n cap) l) : Ql w ao l := by
 obtain ⟨⟨ao', cap', e, _, _, _, h4⟩, _⟩ := h;simp only [Value.slice.injEq] at e;rw [e.1]; exact h4
end
section
open Ieee Go.RowKit

open Go.ChangeMaps (putKey notKey)
end
section
open Ieee Go.RowKit

theorem eq_val' (v : Vl) (w : World) : (Op.equalIn 10000 53 (.agg #[.bool v.h, .int .u64 v.b]) (.agg #[.bool v.h, .int .u64 v.b])).run Tryz.prog w = .ok true w := by
 have u0 := Tryz.underlying4;have u1 := Tryz.underlying37;have a0 := Tryz.isAgg4;have a1 := Tryz.isAgg37;have z0 := Tryz.sizeOf4;have z1 := Tryz.sizeOf37;have hS : Tryz.prog.underlying 53 = some (.struct (Tryz.prog.fieldsOf 53)) := by kernel_rfl
 have hp : Tryz.prog.stoodInHeld 53 = false := by kernel_rfl
 rw [show (10000 : Nat) = 9999 + 1 from rfl, run_equalIn_agg w 9999 53 _ _ hS hp];simp only [Program.fieldsOf, Tryz.underlying53];go_simp
theorem eql_val (v : Vl) (w : World) : (binOp .eql 53 (.agg #[.bool v.h, .int .u64 v.b]) (.agg #[.bool v.h, .int .u64 v.b])).run Tryz.prog w = .ok (.bool true) w := by
 rw [run_eql_struct, eq_val']; rfl
theorem neq_val (v : Vl) (w : World) : (binOp .neq 53 (.agg #[.bool v.h, .int .u64 v.b]) (.agg #[.bool v.h, .int .u64 v.b])).run Tryz.prog w = .ok (.bool false) w := by
 rw [run_neq_struct, eq_val']; rfl
theorem guard_val : Tryz.prog.eqGuardType Tryz.prog.depth 53 = false := by kernel_rfl
end
section
open Ieee Go.RowKit

attribute [local go_sem] run_bits run_frombits
theorem merge_start {w w1 : World} {a b : Vl}
  (h : ((w.alloc (Obj.cells #[Value.bool a.h, Value.int IntKind.u64 (a.b : Int)] 53)).alloc (Obj.cells #[Value.bool b.h, Value.int IntKind.u64 (b.b : Int)] 53)).alloc (Obj.cells #[Value.bool false, Value.int IntKind.u64 0] 53) = w1) :
  Hid (w1.heap.size = w.heap.size + 1 + 1 + 1) ∧ Hid (Below w.heap.size w w1) ∧ Hid (VB w1 w.heap.size a) ∧ Hid (VB w1 (w.heap.size + 1) b) ∧ Hid (VB w1 (w.heap.size + 1 + 1) noV) := by
 subst h;refine ⟨by simp [Hid, go_sem], ?_, ?_, ?_, ?_⟩
 ·exact ((below_alloc _ _).alloc (by simp [go_sem]) _).alloc (by simp [go_sem]; omega) _
 all_goals (show VB _ _ _; constructor <;> simp [go_sem, noV])
theorem merge_walk (k : Int) {a b : Vl} (ha : a.ok) (hb : b.ok) (w : World) :
  Calls Tryz.prog 187 #[.int .i64 k, .agg #[.bool a.h, .int .u64 a.b], .agg #[.bool b.h, .int .u64 b.b]] w fun e w' => e = .returned (.agg #[.bool (mergeV k a b).h, .int .u64 (mergeV k a b).b]) ∧ Below w.heap.size w w' := by
 unfold mergeV;obtain ⟨A, hA⟩ : ∃ A, A = fitV k a := ⟨_, rfl⟩;obtain ⟨B, hB⟩ : ∃ B, B = fitV k b := ⟨_, rfl⟩;have HA : Hid (A = fitV k a) := hA;have HB : Hid (B = fitV k b) := hB;have HAO : Hid A.ok := by rw [hA]; exact fitV_ok k ha
 have HBO : Hid B.ok := by rw [hB]; exact fitV_ok k hb
 rw [← hA, ← hB];clear hA hB;go_in;go_wp2_with fail;generalize hg : ((w.alloc (Obj.cells #[Value.bool a.h, Value.int IntKind.u64 (a.b : Int)] 53)).alloc (Obj.cells #[Value.bool b.h, Value.int IntKind.u64 (b.b : Int)] 53)).alloc (Obj.cells #[Value.bool false, Value.int IntKind.u64 0] 53) = w1;obtain ⟨HSZ, HBW, HVA, HVB, HVC⟩ := merge_start hg;clear hg;go_cut [] (fun wx => ∃ wy, Below w1.heap.size w1 wy ∧ wx = (((wy.setCell ⟨w.heap.size, 0, none⟩ (.bool A.h)).setCell ⟨w.heap.size, 1, none⟩ (.int .u64 A.b)).setCell ⟨w.heap.size + 1, 0, none⟩ (.bool B.h)).setCell ⟨w.heap.size + 1, 1, none⟩ (.int .u64 B.b))
 case first =>
  obtain ⟨c0, c1, z0, z1⟩ := HVA.out;obtain ⟨d0, d1, y0, y1⟩ := HVB.out;go_region_with ((go_at_call 138; refine (fit_walk k (v := ⟨_, _⟩) (by first | exact ha | exact hb) _).mono ?_; (first | rw [show fitV k ⟨a.h, a.b⟩ = A from HA.out.symm] | rw [show fitV k ⟨b.h, b.b⟩ = B from HB.out.symm]); rintro e w9 ⟨rfl, hB9⟩; have hS9 : Below w1.heap.size w1 w9 := below_trans (by first | assumption | exact (Below.refl _ _).drew) hB9; obtain ⟨c0, c1, z0, z1⟩ := HVA.out.below hS9 (cell_lt HVA.out.c0); obtain ⟨d0, d1, y0, y1⟩ := HVB.out.below hS9 (cell_lt HVB.out.c0)));all_goals go_wp2_with fail
  all_goals go_meet
  all_goals exact ⟨_, hS9, rfl⟩
 case rest =>
  obtain ⟨wy, hBy, rfl⟩ := hcut;generalize hg : (((wy.setCell ⟨w.heap.size, 0, none⟩ (.bool A.h)).setCell ⟨w.heap.size, 1, none⟩ (.int .u64 A.b)).setCell ⟨w.heap.size + 1, 0, none⟩ (.bool B.h)).setCell ⟨w.heap.size + 1, 1, none⟩ (.int .u64 B.b) = w2
  have GA : Hid (VB w2 w.heap.size A) := by
   show VB _ _ _;rw [← hg];exact (((HVA.out.below hBy (cell_lt HVA.out.c0)).set _ _).other (by simp) _).other (by simp) _
  have GB : Hid (VB w2 (w.heap.size + 1) B) := by
   show VB _ _ _;rw [← hg];exact (((HVB.out.below hBy (cell_lt HVB.out.c0)).other (by simp) _).other (by simp) _).set _ _
  have GC : Hid (VB w2 (w.heap.size + 1 + 1) noV) := by
   show VB _ _ _;rw [← hg];exact ((((HVC.out.below hBy (cell_lt HVC.out.c0)).other (by simp; omega) _).other (by simp; omega) _).other (by simp) _).other (by simp) _
  have GW : Hid (Below w.heap.size w w2) := by
   show Below _ _ _;rw [← hg];exact keep_store (keep_store (below_trans HBW.out hBy) _ (Nat.le_refl _) _ _) _ (Nat.le_succ _) _ _
  clear hg hBy HVA HVB HVC HBW HSZ HA HB;have hn2 : w.heap.size ≤ w.heap.size + 1 + 1 := by omega
  have HN2 := hidH hn2;clear hn2;obtain ⟨c0, c1, z0, z1⟩ := GA.out;obtain ⟨d0, d1, y0, y1⟩ := GB.out;obtain ⟨e0, e1, x0, x1⟩ := GC.out
  cases hAh : A.h
  ·rw [hAh] at c0;have EJ : Hid (joinV k A B = B) := by show _ = _; unfold joinV; rw [if_pos hAh]
   clear hAh;go_wp2_with fail;refine bodyPost_ret (v := .agg #[.bool B.h, .int .u64 B.b]) (by simp [results, Tryz.results187, go_sem, e0, e1]) rfl ⟨by rw [EJ.out], ?_⟩;exact keep_store GW.out _ HN2.out _ _
  cases hBh : B.h
  ·rw [hAh] at c0;rw [hBh] at d0;have EJ : Hid (joinV k A B = A) := by show _ = _; unfold joinV; rw [if_neg (by simp [hAh]), if_pos hBh]
   have HAh : Hid (A.h = true) := hAh;clear hAh hBh;go_wp2_with fail;refine bodyPost_ret (v := .agg #[.bool true, .int .u64 A.b]) (by simp [results, Tryz.results187, go_sem, e0, e1]) rfl ⟨by rw [EJ.out, HAh.out], ?_⟩;exact keep_store GW.out _ HN2.out _ _
  rw [hAh] at c0;rw [hBh] at d0;have HAh : Hid (A.h = true) := hAh;have HBh : Hid (B.h = true) := hBh;have hav : A = ⟨true, A.b⟩ := by rw [← hAh]
  have hbv : B = ⟨true, B.b⟩ := by rw [← hBh]
  by_cases h3 : k = 3
  ·subst h3;have EJ : Hid (joinV 3 A B = ⟨true, leastW A.b B.b⟩) := by show _ = _; unfold joinV; rw [if_neg (by simp [hAh]), if_neg (by simp [hBh]), if_pos rfl]
   clear hAh hBh;rw [hav] at GA;rw [hbv] at GB;clear hav hbv;go_wp2_with fail
   go_region_with (first
    | (go_at_call 185; refine (floatOf_walk ⟨_, _⟩ _).mono ?_; rintro e w9 ⟨rfl, hB9⟩; have hS9 : Below w2.heap.size w2 w9 := below_trans (by first | assumption | exact (Below.refl _ _).drew) hB9; obtain ⟨c0, c1, z0, z1⟩ := GA.out.below hS9 (cell_lt GA.out.c0); obtain ⟨d0, d1, y0, y1⟩ := GB.out.below hS9 (cell_lt GB.out.c0); clear hB9)
    | (go_at_call 215; refine (least_walk HAO.out HBO.out _).mono ?_; rintro e w' ⟨rfl, rfl⟩)
    | (go_at_call 183; refine (ofFloat_walk _ _).mono ?_; rintro e w9 ⟨rfl, hB9⟩; have hS9 : Below w2.heap.size w2 w9 := below_trans (by first | assumption | exact (Below.refl _ _).drew) hB9; obtain ⟨e0, e1, x0, x1⟩ := GC.out.below hS9 (cell_lt GC.out.c0)))
   all_goals go_wp2_with fail
   all_goals refine bodyPost_ret (v := .agg #[.bool true, .int .u64 (leastW A.b B.b)]) (by simp [results, Tryz.results187, go_sem, e0, e1]) rfl ⟨by rw [EJ.out], ?_⟩
   all_goals exact keep_store (below_trans GW.out hS9) _ HN2.out _ _
  by_cases h4 : k = 4
  ·subst h4;have EJ : Hid (joinV 4 A B = ⟨true, mostW A.b B.b⟩) := by show _ = _; unfold joinV; rw [if_neg (by simp [hAh]), if_neg (by simp [hBh]), if_neg (by omega), if_pos rfl]
   clear hAh hBh;rw [hav] at GA;rw [hbv] at GB;clear hav hbv;go_wp2_with fail
   go_region_with (first
    | (go_at_call 185; refine (floatOf_walk ⟨_, _⟩ _).mono ?_; rintro e w9 ⟨rfl, hB9⟩; have hS9 : Below w2.heap.size w2 w9 := below_trans (by first | assumption | exact (Below.refl _ _).drew) hB9; obtain ⟨c0, c1, z0, z1⟩ := GA.out.below hS9 (cell_lt GA.out.c0); obtain ⟨d0, d1, y0, y1⟩ := GB.out.below hS9 (cell_lt GB.out.c0); clear hB9)
    | (go_at_call 216; refine (most_walk HAO.out HBO.out _).mono ?_; rintro e w' ⟨rfl, rfl⟩)
    | (go_at_call 183; refine (ofFloat_walk _ _).mono ?_; rintro e w9 ⟨rfl, hB9⟩; have hS9 : Below w2.heap.size w2 w9 := below_trans (by first | assumption | exact (Below.refl _ _).drew) hB9; obtain ⟨e0, e1, x0, x1⟩ := GC.out.below hS9 (cell_lt GC.out.c0)))
   all_goals go_wp2_with fail
   all_goals refine bodyPost_ret (v := .agg #[.bool true, .int .u64 (mostW A.b B.b)]) (by simp [results, Tryz.results187, go_sem, e0, e1]) rfl ⟨by rw [EJ.out], ?_⟩
   all_goals exact keep_store (below_trans GW.out hS9) _ HN2.out _ _
  ·have EJ : Hid (joinV k A B = ⟨true, (A.b + B.b) % 18446744073709551616⟩) := by show _ = _; unfold joinV; rw [if_neg (by simp [hAh]), if_neg (by simp [hBh]), if_neg h3, if_neg h4]
   have es : IntKind.u64.wrap ((A.b : Int) + (B.b : Int)) = (((A.b + B.b) % 18446744073709551616 : Nat) : Int) := by rw [IntKind.wrap_u64]; omega
   obtain ⟨sm, hsm⟩ : ∃ sm, sm = (A.b + B.b) % 18446744073709551616 := ⟨_, rfl⟩;rw [← hsm] at es;have HS : Hid (sm = (A.b + B.b) % 18446744073709551616) := hsm;clear hsm;have b3 := neq_b h3;have b4 := neq_b h4;clear hAh hBh hav hbv h3 h4;go_wp2_with fail;refine bodyPost_ret (v := .agg #[.bool true, .int .u64 sm]) (by simp [results, Tryz.results187, go_sem, e0, e1]) rfl ⟨by rw [EJ.out, HS.out], ?_⟩;exact keep_store GW.out _ HN2.out _ _
end
section
open Ieee Go.RowKit

attribute [local go_sem] run_bits run_frombits
end
section
open Ieee Go.RowKit

structure CB (w : World) (b : Nat) (c : Cl) : Prop where
 c0 : w.cell? ⟨b, 0, none⟩ = some (.int .u64 c.k)
 c1 : w.cell? ⟨b, 1, none⟩ = some (.bool c.p.h)
 c2 : w.cell? ⟨b, 2, none⟩ = some (.int .u64 c.p.b)
 c3 : w.cell? ⟨b, 3, none⟩ = some (.bool c.c.h)
 c4 : w.cell? ⟨b, 4, none⟩ = some (.int .u64 c.c.b)
 c5 : w.cell? ⟨b, 5, none⟩ = some (.int .i64 c.n)
 z : ∀ j, w.frozen? ⟨b, j, none⟩ = false
theorem CB.below {w w' : World} {b B : Nat} {c : Cl} (h : CB w b c) (hb : Below B w w') (hl : b < B) : CB w' b c :=
 ⟨by rw [hb.cell (p := ⟨b, 0, none⟩) hl]; exact h.c0, by rw [hb.cell (p := ⟨b, 1, none⟩) hl]; exact h.c1, by rw [hb.cell (p := ⟨b, 2, none⟩) hl]; exact h.c2, by rw [hb.cell (p := ⟨b, 3, none⟩) hl]; exact h.c3, by rw [hb.cell (p := ⟨b, 4, none⟩) hl]; exact h.c4, by rw [hb.cell (p := ⟨b, 5, none⟩) hl]; exact h.c5, fun j => by rw [hb.frozen (p := ⟨b, j, none⟩) hl]; exact h.z j⟩
theorem cb_new (w : World) (c : Cl) : CB (w.alloc (Obj.cells #[.int .u64 c.k, .bool c.p.h, .int .u64 c.p.b, .bool c.c.h, .int .u64 c.c.b, .int .i64 c.n] 114)) w.heap.size c := by
 constructor <;> simp [go_sem]
theorem CB.other {w : World} {b : Nat} {c : Cl} (h : CB w b c) {p : Addr} (hne : b ≠ p.block) (u : Value) : CB (w.setCell p u) b c := by
 obtain ⟨c0, c1, c2, c3, c4, c5, z⟩ := h;refine ⟨?_, ?_, ?_, ?_, ?_, ?_, fun j => by simpa [go_sem] using z j⟩;all_goals (rw [World.cell?_setCell_other _ _ _ _ (by rintro ⟨⟩; exact hne rfl)]; assumption)
theorem guard_cell : Tryz.prog.eqGuardType Tryz.prog.depth 114 = false := by kernel_rfl
theorem fitValue_walk (k : Int) {v : Vl} (hv : v.ok) (w : World) :
  Calls Tryz.prog 168 #[.int .i64 k, .agg #[.bool v.h, .int .u64 v.b]] w fun e w' => e = .returned (.bool (eqV (fitV k v) v)) ∧ Below w.heap.size w w' := by
 have hgd := guard_val;have he := eql_gen (fitV k v) v;go_in;go_wp2_with fail;generalize hg : w.alloc (Obj.cells #[Value.bool v.h, Value.int IntKind.u64 (v.b : Int)] 53) = w1;have HV : Hid (VB w1 w.heap.size v) := by show VB _ _ _; rw [← hg]; exact vb_new w v.h v.b
 have HB : Hid (Below w.heap.size w w1) := by show Below _ _ _; rw [← hg]; exact below_alloc _ _
 clear hg;obtain ⟨c0, c1, z0, z1⟩ := HV.out;go_region_with (go_at_call 138; refine (fit_walk k hv _).mono ?_; rintro e w9 ⟨rfl, hB9⟩; have hS9 : Below w1.heap.size w1 w9 := below_trans (by first | assumption | exact (Below.refl _ _).drew) hB9; obtain ⟨c0, c1, z0, z1⟩ := HV.out.below hS9 (cell_lt HV.out.c0));all_goals go_wp2_with fail
 all_goals go_ret
 all_goals exact ⟨rfl, below_trans HB.out (by assumption)⟩
end
section
open Ieee Go.RowKit

theorem cfit_walk (k : Int) {c : Cl} (hc : c.ok) (w : World) :
  Calls Tryz.prog 97 #[.int .i64 k, .agg #[.int .u64 c.k, .bool c.p.h, .int .u64 c.p.b, .bool c.c.h, .int .u64 c.c.b, .int .i64 c.n]] w fun e w' => e = .returned (.bool (fitC k c)) ∧ Below w.heap.size w w' := by
 unfold fitC;have HC : Hid c.ok := hc;clear hc;obtain ⟨a1, ha1⟩ : ∃ a, a = eqV (fitV k c.p) c.p := ⟨_, rfl⟩;obtain ⟨a2, ha2⟩ : ∃ a, a = eqV (fitV k c.c) c.c := ⟨_, rfl⟩;have H1 : Hid (eqV (fitV k c.p) c.p = a1) := ha1.symm;have H2 : Hid (eqV (fitV k c.c) c.c = a2) := ha2.symm;rw [← ha1, ← ha2];clear ha1 ha2;go_in;go_wp2_with fail;generalize hg : w.alloc (Obj.cells #[.int .u64 c.k, .bool c.p.h, .int .u64 c.p.b, .bool c.c.h, .int .u64 c.c.b, .int .i64 c.n] 114) = w1;have HV : Hid (CB w1 w.heap.size c) := by show CB _ _ _; rw [← hg]; exact cb_new w c
 have HB : Hid (Below w.heap.size w w1) := by show Below _ _ _; rw [← hg]; exact below_alloc _ _
 clear hg;obtain ⟨c0, c1, c2, c3, c4, c5, zz⟩ := HV.out
 cases hk : knownB k
 ·go_wp2_with (go_at_call 82; refine (known_walk _ _).mono ?_; rintro e w' ⟨rfl, rfl⟩);go_ret;exact ⟨by simp [hk], HB.out⟩
 cases a1
 ·go_wp2_with (first
   | (go_at_call 82; refine (known_walk _ _).mono ?_; rintro e w' ⟨rfl, rfl⟩)
   | (go_at_call 168; have hT := hS9; clear hT; refine (fitValue_walk _ HC.out.2 _).mono ?_; rw [H2.out]; rintro e w9 ⟨rfl, hB9⟩; have hS9 := below_trans hS9 hB9; obtain ⟨c0, c1, c2, c3, c4, c5, zz⟩ := HV.out.below hS9 (cell_lt HV.out.c0); clear hB9)
   | (go_at_call 168; refine (fitValue_walk _ HC.out.1 _).mono ?_; rw [H1.out]; rintro e w9 ⟨rfl, hB9⟩; have hS9 := hB9; obtain ⟨c0, c1, c2, c3, c4, c5, zz⟩ := HV.out.below hS9 (cell_lt HV.out.c0); clear hB9))
  go_ret;exact ⟨by simp, below_trans HB.out (by assumption)⟩
 cases a2
 ·go_wp2_with (first
   | (go_at_call 82; refine (known_walk _ _).mono ?_; rintro e w' ⟨rfl, rfl⟩)
   | (go_at_call 168; have hT := hS9; clear hT; refine (fitValue_walk _ HC.out.2 _).mono ?_; rw [H2.out]; rintro e w9 ⟨rfl, hB9⟩; have hS9 := below_trans hS9 hB9; obtain ⟨c0, c1, c2, c3, c4, c5, zz⟩ := HV.out.below hS9 (cell_lt HV.out.c0); clear hB9)
   | (go_at_call 168; refine (fitValue_walk _ HC.out.1 _).mono ?_; rw [H1.out]; rintro e w9 ⟨rfl, hB9⟩; have hS9 := hB9; obtain ⟨c0, c1, c2, c3, c4, c5, zz⟩ := HV.out.below hS9 (cell_lt HV.out.c0); clear hB9))
  go_ret;exact ⟨by simp, below_trans HB.out (by assumption)⟩
 go_wp2_with (first
   | (go_at_call 82; refine (known_walk _ _).mono ?_; rintro e w' ⟨rfl, rfl⟩)
   | (go_at_call 168; have hT := hS9; clear hT; refine (fitValue_walk _ HC.out.2 _).mono ?_; rw [H2.out]; rintro e w9 ⟨rfl, hB9⟩; have hS9 := below_trans hS9 hB9; obtain ⟨c0, c1, c2, c3, c4, c5, zz⟩ := HV.out.below hS9 (cell_lt HV.out.c0); clear hB9)
   | (go_at_call 168; refine (fitValue_walk _ HC.out.1 _).mono ?_; rw [H1.out]; rintro e w9 ⟨rfl, hB9⟩; have hS9 := hB9; obtain ⟨c0, c1, c2, c3, c4, c5, zz⟩ := HV.out.below hS9 (cell_lt HV.out.c0); clear hB9))
 all_goals (go_ret; exact ⟨by (try simp_all) <;> omega, below_trans HB.out (by assumption)⟩)
end
section
open Ieee Go.RowKit

theorem rcfit_walk (k : Int) {c : Cl} (hc : c.ok) (w : World) :
  Calls Tryz.prog 114 #[.int .i64 k, .agg #[.int .u64 c.k, .bool c.p.h, .int .u64 c.p.b, .bool c.c.h, .int .u64 c.c.b, .int .i64 c.n]] w fun e w' => e = .returned (.bool (fitC k c)) ∧ Below w.heap.size w w' := by
 unfold fitC;have HC : Hid c.ok := hc;clear hc;have hgd := guard_val;have he1 := eql_gen (fitV k c.p) c.p;have he2 := eql_gen (fitV k c.c) c.c;obtain ⟨a1, ha1⟩ : ∃ a, a = eqV (fitV k c.p) c.p := ⟨_, rfl⟩;obtain ⟨a2, ha2⟩ : ∃ a, a = eqV (fitV k c.c) c.c := ⟨_, rfl⟩;rw [← ha1] at he1;rw [← ha2] at he2;rw [← ha1, ← ha2];clear ha1 ha2;go_in;go_wp2_with fail;generalize hg : w.alloc (Obj.cells #[.int .u64 c.k, .bool c.p.h, .int .u64 c.p.b, .bool c.c.h, .int .u64 c.c.b, .int .i64 c.n] 114) = w1;have HV : Hid (CB w1 w.heap.size c) := by show CB _ _ _; rw [← hg]; exact cb_new w c
 have HB : Hid (Below w.heap.size w w1) := by show Below _ _ _; rw [← hg]; exact below_alloc _ _
 clear hg;have k0 : ∀ wx, Below w1.heap.size w1 wx → wx.cell? ⟨w.heap.size, 0, none⟩ = some (.int .u64 c.k) := fun wx h => (HV.out.below h (cell_lt HV.out.c0)).c0;have k1 : ∀ wx, Below w1.heap.size w1 wx → wx.cell? ⟨w.heap.size, 1, none⟩ = some (.bool c.p.h) := fun wx h => (HV.out.below h (cell_lt HV.out.c0)).c1;have k2 : ∀ wx, Below w1.heap.size w1 wx → wx.cell? ⟨w.heap.size, 2, none⟩ = some (.int .u64 c.p.b) := fun wx h => (HV.out.below h (cell_lt HV.out.c0)).c2;have k3 : ∀ wx, Below w1.heap.size w1 wx → wx.cell? ⟨w.heap.size, 3, none⟩ = some (.bool c.c.h) := fun wx h => (HV.out.below h (cell_lt HV.out.c0)).c3;have k4 : ∀ wx, Below w1.heap.size w1 wx → wx.cell? ⟨w.heap.size, 4, none⟩ = some (.int .u64 c.c.b) := fun wx h => (HV.out.below h (cell_lt HV.out.c0)).c4;have k5 : ∀ wx, Below w1.heap.size w1 wx → wx.cell? ⟨w.heap.size, 5, none⟩ = some (.int .i64 c.n) := fun wx h => (HV.out.below h (cell_lt HV.out.c0)).c5
 cases hk : knownB k
 ·skip
  refine wp_region_noPanic ?_;refine wp_region_held_drew (S := fun wx => Below w1.heap.size w1 wx) (by kernel_rfl) ?_ fun hHeld => ?_
  ·exact (Below.refl _ _).drew
  refine tkS 0 5 rfl (by assumption) ?_;refine rdH 1 6 rfl fun K hK => ?_;go_simp;refine (rknown_walk _ _).mono ?_;rw [hk];rintro e w9 ⟨rfl, hw⟩;subst hw;go_simp;refine hK.out _ _ ?_ fun hHeld => ?_
  ·exact hHeld
  clear hK K;try simp only [Act.put, zz]
  refine tkS 2 7 rfl (by assumption) ?_;refine tuH 3 8 rfl (by assumption) ?_;try simp only [Act.put, zz]
  refine tuH 4 9 rfl (by assumption) ?_;try simp only [Act.put, zz]
  refine tuH 5 10 rfl (by assumption) ?_;try simp only [Act.put, zz]
  refine tuH 6 11 rfl (by assumption) ?_;try simp only [Act.put, zz]
  refine tuH 7 12 rfl (by assumption) ?_;try simp only [Act.put, zz]
  refine tuH 8 13 rfl (by assumption) ?_;try simp only [Act.put, zz]
  refine tuH 9 14 rfl (by assumption) ?_;try simp only [Act.put, zz]
  refine tkS 10 15 rfl (by assumption) ?_;refine tkS 11 16 rfl (by assumption) ?_;refine tuH 12 17 rfl (by assumption) ?_;try simp only [Act.put, zz]
  refine tuH 13 18 rfl (by assumption) ?_;try simp only [Act.put, zz]
  refine tuH 14 19 rfl (by assumption) ?_;try simp only [Act.put, zz]
  refine tuH 15 20 rfl (by assumption) ?_;try simp only [Act.put, zz]
  refine tuH 16 21 rfl (by assumption) ?_;try simp only [Act.put, zz]
  refine tuH 17 22 rfl (by assumption) ?_;try simp only [Act.put, zz]
  refine tuH 18 23 rfl (by assumption) ?_;try simp only [Act.put, zz]
  refine tkS 19 24 rfl (by assumption) ?_;refine tkS 20 25 rfl (by assumption) ?_;refine tuH 21 26 rfl (by assumption) ?_;try simp only [Act.put, zz]
  refine tuH 22 27 rfl (by assumption) ?_;try simp only [Act.put, zz]
  refine tuH 23 28 rfl (by assumption) ?_;try simp only [Act.put, zz]
  refine tkS 24 29 rfl (by assumption) ?_;refine tkS 25 30 rfl (by assumption) ?_;refine tuH 26 31 rfl (by assumption) ?_;try simp only [Act.put, zz]
  refine tuH 27 32 rfl (by assumption) ?_;try simp only [Act.put, zz]
  refine tuH 28 33 rfl (by assumption) ?_;try simp only [Act.put, zz]
  refine tkS 29 34 rfl (by assumption) ?_;refine tkS 30 4 rfl (by assumption) ?_;refine wpAnyH_done (by kernel_rfl) ?_ _;refine NoPanic.normal ?_;go_wp2_with fail;go_ret;exact ⟨by simp [hk], below_trans HB.out (by assumption)⟩
 cases a1
 ·skip
  refine wp_region_noPanic ?_;refine wp_region_held_drew (S := fun wx => Below w1.heap.size w1 wx) (by kernel_rfl) ?_ fun hHeld => ?_
  ·exact (Below.refl _ _).drew
  refine tkS 0 5 rfl (by assumption) ?_;refine rdH 1 6 rfl fun K hK => ?_;go_simp;refine (rknown_walk _ _).mono ?_;rw [hk];rintro e w9 ⟨rfl, hw⟩;subst hw;go_simp;refine hK.out _ _ ?_ fun hHeld => ?_
  ·exact hHeld
  clear hK K;try simp only [Act.put, zz]
  refine tkS 2 7 rfl (by assumption) ?_;refine tkS 3 8 rfl (by assumption) ?_;refine tkS 4 9 rfl (by assumption) ?_;refine tkS 5 10 rfl (by assumption) ?_;refine tkS 7 12 rfl (by assumption) ?_;refine tkS 8 13 rfl (by assumption) ?_;refine rdH 6 11 rfl fun K hK => ?_;go_simp;refine (rfit_walk _ HC.out.1 _).mono ?_;rintro e w9 ⟨rfl, hB9⟩;have hS9 : Below w1.heap.size w1 w9 := below_trans hHeld hB9;clear hB9 hHeld;go_simp;refine hK.out _ _ ?_ fun hHeld => ?_
  ·exact hS9
  clear hK K;try simp only [Act.put, zz]
  refine tkS 9 14 rfl (by assumption) ?_;refine tkS 10 15 rfl (by assumption) ?_;refine tkS 11 16 rfl (by assumption) ?_;refine tuH 12 17 rfl (by assumption) ?_;try simp only [Act.put, zz]
  refine tuH 13 18 rfl (by assumption) ?_;try simp only [Act.put, zz]
  refine tuH 14 19 rfl (by assumption) ?_;try simp only [Act.put, zz]
  refine tuH 15 20 rfl (by assumption) ?_;try simp only [Act.put, zz]
  refine tuH 16 21 rfl (by assumption) ?_;try simp only [Act.put, zz]
  refine tuH 17 22 rfl (by assumption) ?_;try simp only [Act.put, zz]
  refine tuH 18 23 rfl (by assumption) ?_;try simp only [Act.put, zz]
  refine tkS 19 24 rfl (by assumption) ?_;refine tkS 20 25 rfl (by assumption) ?_;refine tuH 21 26 rfl (by assumption) ?_;try simp only [Act.put, zz]
  refine tuH 22 27 rfl (by assumption) ?_;try simp only [Act.put, zz]
  refine tuH 23 28 rfl (by assumption) ?_;try simp only [Act.put, zz]
  refine tkS 24 29 rfl (by assumption) ?_;refine tkS 25 30 rfl (by assumption) ?_;refine tuH 26 31 rfl (by assumption) ?_;try simp only [Act.put, zz]
  refine tuH 27 32 rfl (by assumption) ?_;try simp only [Act.put, zz]
  refine tuH 28 33 rfl (by assumption) ?_;try simp only [Act.put, zz]
  refine tkS 29 34 rfl (by assumption) ?_;refine tkS 30 4 rfl (by assumption) ?_;refine wpAnyH_done (by kernel_rfl) ?_ _;refine NoPanic.normal ?_;go_wp2_with fail;go_ret;exact ⟨by simp, below_trans HB.out (by assumption)⟩
 cases a2
 ·skip
  refine wp_region_noPanic ?_;refine wp_region_held_drew (S := fun wx => Below w1.heap.size w1 wx) (by kernel_rfl) ?_ fun hHeld => ?_
  ·exact (Below.refl _ _).drew
  refine tkS 0 5 rfl (by assumption) ?_;refine rdH 1 6 rfl fun K hK => ?_;go_simp;refine (rknown_walk _ _).mono ?_;rw [hk];rintro e w9 ⟨rfl, hw⟩;subst hw;go_simp;refine hK.out _ _ ?_ fun hHeld => ?_
  ·exact hHeld
  clear hK K;try simp only [Act.put, zz]
  refine tkS 2 7 rfl (by assumption) ?_;refine tkS 3 8 rfl (by assumption) ?_;refine tkS 4 9 rfl (by assumption) ?_;refine tkS 5 10 rfl (by assumption) ?_;refine tkS 7 12 rfl (by assumption) ?_;refine tkS 8 13 rfl (by assumption) ?_;refine rdH 6 11 rfl fun K hK => ?_;go_simp;refine (rfit_walk _ HC.out.1 _).mono ?_;rintro e w9 ⟨rfl, hB9⟩;have hS9 : Below w1.heap.size w1 w9 := below_trans hHeld hB9;clear hB9 hHeld;go_simp;refine hK.out _ _ ?_ fun hHeld => ?_
  ·exact hS9
  clear hK K;try simp only [Act.put, zz]
  refine tkS 9 14 rfl (by assumption) ?_;refine tkS 10 15 rfl (by assumption) ?_;refine tkS 11 16 rfl (by assumption) ?_;refine tkS 12 17 rfl (by assumption) ?_;refine tkS 13 18 rfl (by assumption) ?_;refine tkS 14 19 rfl (by assumption) ?_;refine tkS 16 21 rfl (by assumption) ?_;refine tkS 17 22 rfl (by assumption) ?_;refine rdH 15 20 rfl fun K hK => ?_;go_simp;refine (rfit_walk _ HC.out.2 _).mono ?_;rintro e w9 ⟨rfl, hB9⟩;have hS9 : Below w1.heap.size w1 w9 := below_trans hHeld hB9;clear hB9 hHeld;go_simp;refine hK.out _ _ ?_ fun hHeld => ?_
  ·exact hS9
  clear hK K;try simp only [Act.put, zz]
  refine tkS 18 23 rfl (by assumption) ?_;refine tkS 19 24 rfl (by assumption) ?_;refine tkS 20 25 rfl (by assumption) ?_;refine tuH 21 26 rfl (by assumption) ?_;try simp only [Act.put, zz]
  refine tuH 22 27 rfl (by assumption) ?_;try simp only [Act.put, zz]
  refine tuH 23 28 rfl (by assumption) ?_;try simp only [Act.put, zz]
  refine tkS 24 29 rfl (by assumption) ?_;refine tkS 25 30 rfl (by assumption) ?_;refine tuH 26 31 rfl (by assumption) ?_;try simp only [Act.put, zz]
  refine tuH 27 32 rfl (by assumption) ?_;try simp only [Act.put, zz]
  refine tuH 28 33 rfl (by assumption) ?_;try simp only [Act.put, zz]
  refine tkS 29 34 rfl (by assumption) ?_;refine tkS 30 4 rfl (by assumption) ?_;refine wpAnyH_done (by kernel_rfl) ?_ _;refine NoPanic.normal ?_;go_wp2_with fail;go_ret;exact ⟨by simp, below_trans HB.out (by assumption)⟩
 by_cases hn : 0 ≤ c.n
 ·have hd : decide (c.n ≥ 0) = true := decide_eq_true hn;refine wp_region_noPanic ?_;refine wp_region_held_drew (S := fun wx => Below w1.heap.size w1 wx) (by kernel_rfl) ?_ fun hHeld => ?_
  ·exact (Below.refl _ _).drew
  refine tkS 0 5 rfl (by assumption) ?_;refine rdH 1 6 rfl fun K hK => ?_;go_simp;refine (rknown_walk _ _).mono ?_;rw [hk];rintro e w9 ⟨rfl, hw⟩;subst hw;go_simp;refine hK.out _ _ ?_ fun hHeld => ?_
  ·exact hHeld
  clear hK K;try simp only [Act.put, zz]
  refine tkS 2 7 rfl (by assumption) ?_;refine tkS 3 8 rfl (by assumption) ?_;refine tkS 4 9 rfl (by assumption) ?_;refine tkS 5 10 rfl (by assumption) ?_;refine tkS 7 12 rfl (by assumption) ?_;refine tkS 8 13 rfl (by assumption) ?_;refine rdH 6 11 rfl fun K hK => ?_;go_simp;refine (rfit_walk _ HC.out.1 _).mono ?_;rintro e w9 ⟨rfl, hB9⟩;have hS9 : Below w1.heap.size w1 w9 := below_trans hHeld hB9;clear hB9 hHeld;go_simp;refine hK.out _ _ ?_ fun hHeld => ?_
  ·exact hS9
  clear hK K;try simp only [Act.put, zz]
  refine tkS 9 14 rfl (by assumption) ?_;refine tkS 10 15 rfl (by assumption) ?_;refine tkS 11 16 rfl (by assumption) ?_;refine tkS 12 17 rfl (by assumption) ?_;refine tkS 13 18 rfl (by assumption) ?_;refine tkS 14 19 rfl (by assumption) ?_;refine tkS 16 21 rfl (by assumption) ?_;refine tkS 17 22 rfl (by assumption) ?_;refine rdH 15 20 rfl fun K hK => ?_;go_simp;refine (rfit_walk _ HC.out.2 _).mono ?_;rintro e w9 ⟨rfl, hB9⟩;have hS9 : Below w1.heap.size w1 w9 := below_trans hHeld hB9;clear hB9 hHeld;go_simp;refine hK.out _ _ ?_ fun hHeld => ?_
  ·exact hS9
  clear hK K;try simp only [Act.put, zz]
  refine tkS 18 23 rfl (by assumption) ?_;refine tkS 19 24 rfl (by assumption) ?_;refine tkS 20 25 rfl (by assumption) ?_;refine tkS 21 26 rfl (by assumption) ?_;refine tkS 22 27 rfl (by assumption) ?_;refine tkS 23 28 rfl (by assumption) ?_;refine tkS 24 29 rfl (by assumption) ?_;refine tkS 25 30 rfl (by assumption) ?_;refine tkS 26 31 rfl (by assumption) ?_;refine tkS 27 32 rfl (by assumption) ?_;refine tkS 28 33 rfl (by assumption) ?_;refine tkS 29 34 rfl (by assumption) ?_;refine tkS 30 4 rfl (by assumption) ?_;refine wpAnyH_done (by kernel_rfl) ?_ _;refine NoPanic.normal ?_;go_wp2_with fail;go_ret;exact ⟨by simp [hn, hk], below_trans HB.out (by assumption)⟩
 ·have hd : decide (c.n ≥ 0) = false := decide_eq_false hn;refine wp_region_noPanic ?_;refine wp_region_held_drew (S := fun wx => Below w1.heap.size w1 wx) (by kernel_rfl) ?_ fun hHeld => ?_
  ·exact (Below.refl _ _).drew
  refine tkS 0 5 rfl (by assumption) ?_;refine rdH 1 6 rfl fun K hK => ?_;go_simp;refine (rknown_walk _ _).mono ?_;rw [hk];rintro e w9 ⟨rfl, hw⟩;subst hw;go_simp;refine hK.out _ _ ?_ fun hHeld => ?_
  ·exact hHeld
  clear hK K;try simp only [Act.put, zz]
  refine tkS 2 7 rfl (by assumption) ?_;refine tkS 3 8 rfl (by assumption) ?_;refine tkS 4 9 rfl (by assumption) ?_;refine tkS 5 10 rfl (by assumption) ?_;refine tkS 7 12 rfl (by assumption) ?_;refine tkS 8 13 rfl (by assumption) ?_;refine rdH 6 11 rfl fun K hK => ?_;go_simp;refine (rfit_walk _ HC.out.1 _).mono ?_;rintro e w9 ⟨rfl, hB9⟩;have hS9 : Below w1.heap.size w1 w9 := below_trans hHeld hB9;clear hB9 hHeld;go_simp;refine hK.out _ _ ?_ fun hHeld => ?_
  ·exact hS9
  clear hK K;try simp only [Act.put, zz]
  refine tkS 9 14 rfl (by assumption) ?_;refine tkS 10 15 rfl (by assumption) ?_;refine tkS 11 16 rfl (by assumption) ?_;refine tkS 12 17 rfl (by assumption) ?_;refine tkS 13 18 rfl (by assumption) ?_;refine tkS 14 19 rfl (by assumption) ?_;refine tkS 16 21 rfl (by assumption) ?_;refine tkS 17 22 rfl (by assumption) ?_;refine rdH 15 20 rfl fun K hK => ?_;go_simp;refine (rfit_walk _ HC.out.2 _).mono ?_;rintro e w9 ⟨rfl, hB9⟩;have hS9 : Below w1.heap.size w1 w9 := below_trans hHeld hB9;clear hB9 hHeld;go_simp;refine hK.out _ _ ?_ fun hHeld => ?_
  ·exact hS9
  clear hK K;try simp only [Act.put, zz]
  refine tkS 18 23 rfl (by assumption) ?_;refine tkS 19 24 rfl (by assumption) ?_;refine tkS 20 25 rfl (by assumption) ?_;refine tkS 21 26 rfl (by assumption) ?_;refine tkS 22 27 rfl (by assumption) ?_;refine tkS 23 28 rfl (by assumption) ?_;refine tkS 24 29 rfl (by assumption) ?_;refine tkS 25 30 rfl (by assumption) ?_;refine tuH 26 31 rfl (by assumption) ?_;try simp only [Act.put, zz]
  refine tuH 27 32 rfl (by assumption) ?_;try simp only [Act.put, zz]
  refine tuH 28 33 rfl (by assumption) ?_;try simp only [Act.put, zz]
  refine tkS 29 34 rfl (by assumption) ?_;refine tkS 30 4 rfl (by assumption) ?_;refine wpAnyH_done (by kernel_rfl) ?_ _;refine NoPanic.normal ?_;go_wp2_with fail;go_ret;exact ⟨by simp, below_trans HB.out (by assumption)⟩
end
end Go.Proofs.YtcmklbibehnloaaGreat
