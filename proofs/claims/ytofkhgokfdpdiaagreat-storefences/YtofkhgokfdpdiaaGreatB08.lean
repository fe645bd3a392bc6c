/- Slices as lists: of values, of flags, of acts, of rounds. -/
import Derived.Test.YtofkhgokfdpdiaaGreatB07
import Derived.Lib.Hide
set_option maxRecDepth 100000
set_option maxHeartbeats 16000000
namespace Go.Proofs.YtofkhgokfdpdiaaGreat
section
open Ieee Go.RowKit

attribute [local go_sem] run_bits run_frombits
theorem merge_start {w w1 : World} {a b : Vl}
  (h : ((w.alloc (Obj.cells #[Value.bool a.h, Value.int IntKind.u64 (a.b : Int)] 53)).alloc (Obj.cells #[Value.bool b.h, Value.int IntKind.u64 (b.b : Int)] 53)).alloc (Obj.cells #[Value.bool false, Value.int IntKind.u64 0] 53) = w1) :
  Hid (w1.heap.size = w.heap.size + 1 + 1 + 1) ∧ Hid (Below w.heap.size w w1) ∧ Hid (VB w1 w.heap.size a) ∧ Hid (VB w1 (w.heap.size + 1) b) ∧ Hid (VB w1 (w.heap.size + 1 + 1) noV) := by
 subst h
 refine ⟨by simp [Hid, go_sem], ?_, ?_, ?_, ?_⟩
 ·exact ((below_alloc _ _).alloc (by simp [go_sem]) _).alloc (by simp [go_sem]; omega) _
 all_goals (show VB _ _ _; constructor <;> simp [go_sem, noV])
theorem merge_walk (k : Int) {a b : Vl} (ha : a.ok) (hb : b.ok) (w : World) :
  Calls Tryz.prog 164 #[.int .i64 k, .agg #[.bool a.h, .int .u64 a.b], .agg #[.bool b.h, .int .u64 b.b]] w fun e w' => e = .returned (.agg #[.bool (mergeV k a b).h, .int .u64 (mergeV k a b).b]) ∧ Below w.heap.size w w' := by
 unfold mergeV
 obtain ⟨A, hA⟩ : ∃ A, A = fitV k a := ⟨_, rfl⟩
 obtain ⟨B, hB⟩ : ∃ B, B = fitV k b := ⟨_, rfl⟩
 have HA : Hid (A = fitV k a) := hA
 have HB : Hid (B = fitV k b) := hB
 have HAO : Hid A.ok := by rw [hA]; exact fitV_ok k ha
 have HBO : Hid B.ok := by rw [hB]; exact fitV_ok k hb
 rw [← hA, ← hB]
 clear hA hB
 go_in
 go_wp2_with fail
 generalize hg : ((w.alloc (Obj.cells #[Value.bool a.h, Value.int IntKind.u64 (a.b : Int)] 53)).alloc (Obj.cells #[Value.bool b.h, Value.int IntKind.u64 (b.b : Int)] 53)).alloc (Obj.cells #[Value.bool false, Value.int IntKind.u64 0] 53) = w1
 obtain ⟨HSZ, HBW, HVA, HVB, HVC⟩ := merge_start hg
 clear hg
 go_cut [] (fun wx => ∃ wy, Below w1.heap.size w1 wy ∧ wx = (((wy.setCell ⟨w.heap.size, 0, none⟩ (.bool A.h)).setCell ⟨w.heap.size, 1, none⟩ (.int .u64 A.b)).setCell ⟨w.heap.size + 1, 0, none⟩ (.bool B.h)).setCell ⟨w.heap.size + 1, 1, none⟩ (.int .u64 B.b))
 case first =>
  obtain ⟨c0, c1, z0, z1⟩ := HVA.out
  obtain ⟨d0, d1, y0, y1⟩ := HVB.out
  go_region_with ((go_at_call 168; refine (fit_walk k (v := ⟨_, _⟩) (by first | exact ha | exact hb) _).mono ?_; (first | rw [show fitV k ⟨a.h, a.b⟩ = A from HA.out.symm] | rw [show fitV k ⟨b.h, b.b⟩ = B from HB.out.symm]); rintro e w9 ⟨rfl, hB9⟩; have hS9 : Below w1.heap.size w1 w9 := below_trans (by first | assumption | exact (Below.refl _ _).drew) hB9; obtain ⟨c0, c1, z0, z1⟩ := HVA.out.below hS9 (cell_lt HVA.out.c0); obtain ⟨d0, d1, y0, y1⟩ := HVB.out.below hS9 (cell_lt HVB.out.c0)))
  all_goals go_wp2_with fail
  all_goals go_meet
  all_goals exact ⟨_, hS9, rfl⟩
 case rest =>
  obtain ⟨wy, hBy, rfl⟩ := hcut
  generalize hg : (((wy.setCell ⟨w.heap.size, 0, none⟩ (.bool A.h)).setCell ⟨w.heap.size, 1, none⟩ (.int .u64 A.b)).setCell ⟨w.heap.size + 1, 0, none⟩ (.bool B.h)).setCell ⟨w.heap.size + 1, 1, none⟩ (.int .u64 B.b) = w2
  have GA : Hid (VB w2 w.heap.size A) := by
   show VB _ _ _
   rw [← hg]
   exact (((HVA.out.below hBy (cell_lt HVA.out.c0)).set _ _).other (by simp) _).other (by simp) _
  have GB : Hid (VB w2 (w.heap.size + 1) B) := by
   show VB _ _ _
   rw [← hg]
   exact (((HVB.out.below hBy (cell_lt HVB.out.c0)).other (by simp) _).other (by simp) _).set _ _
  have GC : Hid (VB w2 (w.heap.size + 1 + 1) noV) := by
   show VB _ _ _
   rw [← hg]
   exact ((((HVC.out.below hBy (cell_lt HVC.out.c0)).other (by simp; omega) _).other (by simp; omega) _).other (by simp) _).other (by simp) _
  have GW : Hid (Below w.heap.size w w2) := by
   show Below _ _ _
   rw [← hg]
   exact keep_store (keep_store (below_trans HBW.out hBy) _ (Nat.le_refl _) _ _) _ (Nat.le_succ _) _ _
  clear hg hBy HVA HVB HVC HBW HSZ HA HB
  have hn2 : w.heap.size ≤ w.heap.size + 1 + 1 := by omega
  have HN2 : Hid (w.heap.size ≤ w.heap.size + 1 + 1) := hn2
  clear hn2
  obtain ⟨c0, c1, z0, z1⟩ := GA.out
  obtain ⟨d0, d1, y0, y1⟩ := GB.out
  obtain ⟨e0, e1, x0, x1⟩ := GC.out
  cases hAh : A.h
  ·rw [hAh] at c0
   have EJ : Hid (joinV k A B = B) := by show _ = _; unfold joinV; rw [if_pos hAh]
   clear hAh
   go_wp2_with fail
   refine bodyPost_ret (v := .agg #[.bool B.h, .int .u64 B.b]) (by simp [results, Tryz.results164, go_sem, e0, e1]) rfl ⟨by rw [EJ.out], ?_⟩
   exact keep_store GW.out _ HN2.out _ _
  cases hBh : B.h
  ·rw [hAh] at c0
   rw [hBh] at d0
   have EJ : Hid (joinV k A B = A) := by show _ = _; unfold joinV; rw [if_neg (by simp [hAh]), if_pos hBh]
   have HAh : Hid (A.h = true) := hAh
   clear hAh hBh
   go_wp2_with fail
   refine bodyPost_ret (v := .agg #[.bool true, .int .u64 A.b]) (by simp [results, Tryz.results164, go_sem, e0, e1]) rfl ⟨by rw [EJ.out, HAh.out], ?_⟩
   exact keep_store GW.out _ HN2.out _ _
  rw [hAh] at c0
  rw [hBh] at d0
  have HAh : Hid (A.h = true) := hAh
  have HBh : Hid (B.h = true) := hBh
  have hav : A = ⟨true, A.b⟩ := by rw [← hAh]
  have hbv : B = ⟨true, B.b⟩ := by rw [← hBh]
  by_cases h3 : k = 3
  ·subst h3
   have EJ : Hid (joinV 3 A B = ⟨true, leastW A.b B.b⟩) := by show _ = _; unfold joinV; rw [if_neg (by simp [hAh]), if_neg (by simp [hBh]), if_pos rfl]
   clear hAh hBh
   rw [hav] at GA
   rw [hbv] at GB
   clear hav hbv
   go_wp2_with fail
   go_region_with (first
    | (go_at_call 221; refine (floatOf_walk ⟨_, _⟩ _).mono ?_; rintro e w9 ⟨rfl, hB9⟩; have hS9 : Below w2.heap.size w2 w9 := below_trans (by first | assumption | exact (Below.refl _ _).drew) hB9; obtain ⟨c0, c1, z0, z1⟩ := GA.out.below hS9 (cell_lt GA.out.c0); obtain ⟨d0, d1, y0, y1⟩ := GB.out.below hS9 (cell_lt GB.out.c0); clear hB9)
    | (go_at_call 220; refine (least_walk HAO.out HBO.out _).mono ?_; rintro e w' ⟨rfl, rfl⟩)
    | (go_at_call 105; refine (ofFloat_walk _ _).mono ?_; rintro e w9 ⟨rfl, hB9⟩; have hS9 : Below w2.heap.size w2 w9 := below_trans (by first | assumption | exact (Below.refl _ _).drew) hB9; obtain ⟨e0, e1, x0, x1⟩ := GC.out.below hS9 (cell_lt GC.out.c0)))
   all_goals go_wp2_with fail
   all_goals refine bodyPost_ret (v := .agg #[.bool true, .int .u64 (leastW A.b B.b)]) (by simp [results, Tryz.results164, go_sem, e0, e1]) rfl ⟨by rw [EJ.out], ?_⟩
   all_goals exact keep_store (below_trans GW.out hS9) _ HN2.out _ _
  by_cases h4 : k = 4
  ·subst h4
   have EJ : Hid (joinV 4 A B = ⟨true, mostW A.b B.b⟩) := by show _ = _; unfold joinV; rw [if_neg (by simp [hAh]), if_neg (by simp [hBh]), if_neg (by omega), if_pos rfl]
   clear hAh hBh
   rw [hav] at GA
   rw [hbv] at GB
   clear hav hbv
   go_wp2_with fail
   go_region_with (first
    | (go_at_call 221; refine (floatOf_walk ⟨_, _⟩ _).mono ?_; rintro e w9 ⟨rfl, hB9⟩; have hS9 : Below w2.heap.size w2 w9 := below_trans (by first | assumption | exact (Below.refl _ _).drew) hB9; obtain ⟨c0, c1, z0, z1⟩ := GA.out.below hS9 (cell_lt GA.out.c0); obtain ⟨d0, d1, y0, y1⟩ := GB.out.below hS9 (cell_lt GB.out.c0); clear hB9)
    | (go_at_call 222; refine (most_walk HAO.out HBO.out _).mono ?_; rintro e w' ⟨rfl, rfl⟩)
    | (go_at_call 105; refine (ofFloat_walk _ _).mono ?_; rintro e w9 ⟨rfl, hB9⟩; have hS9 : Below w2.heap.size w2 w9 := below_trans (by first | assumption | exact (Below.refl _ _).drew) hB9; obtain ⟨e0, e1, x0, x1⟩ := GC.out.below hS9 (cell_lt GC.out.c0)))
   all_goals go_wp2_with fail
   all_goals refine bodyPost_ret (v := .agg #[.bool true, .int .u64 (mostW A.b B.b)]) (by simp [results, Tryz.results164, go_sem, e0, e1]) rfl ⟨by rw [EJ.out], ?_⟩
   all_goals exact keep_store (below_trans GW.out hS9) _ HN2.out _ _
  ·have EJ : Hid (joinV k A B = ⟨true, (A.b + B.b) % 18446744073709551616⟩) := by show _ = _; unfold joinV; rw [if_neg (by simp [hAh]), if_neg (by simp [hBh]), if_neg h3, if_neg h4]
   have es : IntKind.u64.wrap ((A.b : Int) + (B.b : Int)) = (((A.b + B.b) % 18446744073709551616 : Nat) : Int) := by rw [IntKind.wrap_u64]; omega
   obtain ⟨sm, hsm⟩ : ∃ sm, sm = (A.b + B.b) % 18446744073709551616 := ⟨_, rfl⟩
   rw [← hsm] at es
   have HS : Hid (sm = (A.b + B.b) % 18446744073709551616) := hsm
   clear hsm
   have b3 := neq_b h3
   have b4 := neq_b h4
   clear hAh hBh hav hbv h3 h4
   go_wp2_with fail
   refine bodyPost_ret (v := .agg #[.bool true, .int .u64 sm]) (by simp [results, Tryz.results164, go_sem, e0, e1]) rfl ⟨by rw [EJ.out, HS.out], ?_⟩
   exact keep_store GW.out _ HN2.out _ _
end
section
open Ieee Go.RowKit

attribute [local go_sem] run_bits run_frombits
end
section
open Ieee Go.RowKit

structure CB (w : World) (b : Nat) (c : Cl) : Prop where
 c0 : w.cell? ⟨b, 0, none⟩ = some (.int .u64 c.k)
 c1 : w.cell? ⟨b, 1, none⟩ = some (.bool c.p.h)
 c2 : w.cell? ⟨b, 2, none⟩ = some (.int .u64 c.p.b)
 c3 : w.cell? ⟨b, 3, none⟩ = some (.bool c.c.h)
 c4 : w.cell? ⟨b, 4, none⟩ = some (.int .u64 c.c.b)
 c5 : w.cell? ⟨b, 5, none⟩ = some (.int .i64 c.n)
 z : ∀ j, w.frozen? ⟨b, j, none⟩ = false
theorem CB.below {w w' : World} {b B : Nat} {c : Cl} (h : CB w b c) (hb : Below B w w') (hl : b < B) : CB w' b c :=
 ⟨by rw [hb.cell (p := ⟨b, 0, none⟩) hl]; exact h.c0, by rw [hb.cell (p := ⟨b, 1, none⟩) hl]; exact h.c1, by rw [hb.cell (p := ⟨b, 2, none⟩) hl]; exact h.c2, by rw [hb.cell (p := ⟨b, 3, none⟩) hl]; exact h.c3, by rw [hb.cell (p := ⟨b, 4, none⟩) hl]; exact h.c4, by rw [hb.cell (p := ⟨b, 5, none⟩) hl]; exact h.c5, fun j => by rw [hb.frozen (p := ⟨b, j, none⟩) hl]; exact h.z j⟩
theorem cb_new (w : World) (c : Cl) : CB (w.alloc (Obj.cells #[.int .u64 c.k, .bool c.p.h, .int .u64 c.p.b, .bool c.c.h, .int .u64 c.c.b, .int .i64 c.n] 134)) w.heap.size c := by
 constructor <;> simp [go_sem]
theorem CB.other {w : World} {b : Nat} {c : Cl} (h : CB w b c) {p : Addr} (hne : b ≠ p.block) (u : Value) : CB (w.setCell p u) b c := by
 obtain ⟨c0, c1, c2, c3, c4, c5, z⟩ := h
 refine ⟨?_, ?_, ?_, ?_, ?_, ?_, fun j => by simpa [go_sem] using z j⟩
 all_goals (rw [World.cell?_setCell_other _ _ _ _ (by rintro ⟨⟩; exact hne rfl)]; assumption)
theorem guard_cell : Tryz.prog.eqGuardType Tryz.prog.depth 134 = false := by kernel_rfl
end
section
open Ieee Go.RowKit
end
section
open Ieee Go.RowKit
end
section
open Ieee Go.RowKit

theorem below_three (w : World) (o p q : Obj) : Below w.heap.size w (((w.alloc o).alloc p).alloc q) := (below_two w o p).alloc (by rw [size_alloc, size_alloc]; omega) q
theorem three_cb {w w1 : World} {A Z : Cl} {v : Vl}
  (h : ((w.alloc (Obj.cells #[.int .u64 A.k, .bool A.p.h, .int .u64 A.p.b, .bool A.c.h, .int .u64 A.c.b, .int .i64 A.n] 134)).alloc (Obj.cells #[.bool v.h, .int .u64 v.b] 53)).alloc (Obj.cells #[.int .u64 Z.k, .bool Z.p.h, .int .u64 Z.p.b, .bool Z.c.h, .int .u64 Z.c.b, .int .i64 Z.n] 134) = w1) :
  Hid (CB w1 w.heap.size A) ∧ Hid (VB w1 (w.heap.size + 1) v) ∧ Hid (CB w1 (w.heap.size + 1 + 1) Z) ∧ Hid (Below w.heap.size w w1) := by
 subst h
 refine ⟨?_, ?_, ?_, below_three _ _ _ _⟩
 ·show CB _ _ _
  constructor <;> simp [go_sem]
 ·show VB _ _ _
  constructor <;> simp [go_sem]
 ·show CB _ _ _
  constructor <;> simp [go_sem]
theorem keep_store2 {w w1 : World} (h : Below w.heap.size w w1) (b : Nat) (hb : w.heap.size ≤ b) (i j : Nat) (u v : Value) : Below w.heap.size w ((w1.setCell ⟨b, i, none⟩ u).setCell ⟨b, j, none⟩ v) := (h.setCell hb u).setCell hb v
theorem keep_cell {w w1 : World} (h : Below w.heap.size w w1) (b : Nat) (hb : w.heap.size ≤ b) (u0 u1 u2 u3 u4 u5 : Value) :
  Below w.heap.size w ((((((w1.setCell ⟨b, 0, none⟩ u0).setCell ⟨b, 1, none⟩ u1).setCell ⟨b, 2, none⟩ u2).setCell ⟨b, 3, none⟩ u3).setCell ⟨b, 4, none⟩ u4).setCell ⟨b, 5, none⟩ u5) :=
 (((((h.setCell hb u0).setCell hb u1).setCell hb u2).setCell hb u3).setCell hb u4).setCell hb u5
theorem CB.setCur {w : World} {b : Nat} {c : Cl} (h : CB w b c) (m : Vl) : CB ((w.setCell ⟨b, 3, none⟩ (.bool m.h)).setCell ⟨b, 4, none⟩ (.int .u64 m.b)) b ⟨c.k, c.p, m, c.n⟩ := by
 obtain ⟨c0, c1, c2, c3, c4, c5, z⟩ := h
 constructor <;> simp [go_sem, c0, c1, c2, c3, c4, c5, z]
theorem CB.set {w : World} {b : Nat} {c : Cl} (h : CB w b c) (d : Cl) :
  CB ((((((w.setCell ⟨b, 0, none⟩ (.int .u64 d.k)).setCell ⟨b, 1, none⟩ (.bool d.p.h)).setCell ⟨b, 2, none⟩ (.int .u64 d.p.b)).setCell ⟨b, 3, none⟩ (.bool d.c.h)).setCell ⟨b, 4, none⟩ (.int .u64 d.c.b)).setCell ⟨b, 5, none⟩ (.int .i64 d.n)) b d := by
 obtain ⟨c0, c1, c2, c3, c4, c5, z⟩ := h
 constructor <;> simp [go_sem, c0, c1, c2, c3, c4, c5, z]
theorem apply_walk (k : Int) {c : Cl} (hc : c.ok) (b : Int) {v : Vl} (hv : v.ok) (w : World) :
  Calls Tryz.prog 171 #[.int .i64 k, .agg #[.int .u64 c.k, .bool c.p.h, .int .u64 c.p.b, .bool c.c.h, .int .u64 c.c.b, .int .i64 c.n], .int .i64 b, .agg #[.bool v.h, .int .u64 v.b]] w fun e w' => e = .returned (.tuple #[.agg #[.int .u64 (appC k c b v).k, .bool (appC k c b v).p.h, .int .u64 (appC k c b v).p.b, .bool (appC k c b v).c.h, .int .u64 (appC k c b v).c.b, .int .i64 (appC k c b v).n], .int .i64 (appI k c b)]) ∧ Below w.heap.size w w' := by
 cases hk : knownB k
 ·have e : appI k c b = 1 := if_pos (.inl hk)
  have e2 : appC k c b v = zeroC := by unfold appC; rw [e]; rfl
  rw [e, e2]
  clear e e2
  unfold zeroC noV
  go_in
  go_wp2_with (go_at_call 33; refine (known_walk _ _).mono ?_; rintro e w' ⟨rfl, rfl⟩)
  all_goals (refine bodyPost_ret (by simp [results, Tryz.results171, go_sem]) rfl ⟨rfl, ?_⟩; exact below_three _ _ _ _)
 by_cases hb1 : b < 1
 ·have e : appI k c b = 1 := if_pos (.inr hb1)
  have e2 : appC k c b v = zeroC := by unfold appC; rw [e]; rfl
  rw [e, e2]
  clear e e2
  unfold zeroC noV
  go_in
  go_wp2_with (go_at_call 33; refine (known_walk _ _).mono ?_; rintro e w' ⟨rfl, rfl⟩)
  all_goals (refine bodyPost_ret (by simp [results, Tryz.results171, go_sem]) rfl ⟨rfl, ?_⟩; exact below_three _ _ _ _)
 replace hb1 : 1 ≤ b := by omega
 by_cases h2 : b < c.n
 ·have e : appI k c b = 100 := by unfold appI; rw [if_neg (by simp [hk]; omega), if_pos h2]
  have e2 : appC k c b v = zeroC := by unfold appC; rw [e]; rfl
  rw [e, e2]
  clear e e2
  unfold zeroC noV
  go_in
  go_wp2_with (go_at_call 33; refine (known_walk _ _).mono ?_; rintro e w' ⟨rfl, rfl⟩)
  all_goals (refine bodyPost_ret (by simp [results, Tryz.results171, go_sem]) rfl ⟨rfl, ?_⟩; exact below_three _ _ _ _)
 have e : appI k c b = 0 := by unfold appI; rw [if_neg (by simp [hk]; omega), if_neg h2]
 have e2 : appC k c b v = ⟨c.k, aheadC c b, mergeV k (aheadC c b) v, b⟩ := by unfold appC; rw [e]; rfl
 rw [e, e2]
 clear e e2
 obtain ⟨P, hP⟩ : ∃ P, P = aheadC c b := ⟨_, rfl⟩
 have HPO : Hid P.ok := by show P.ok; rw [hP]; unfold aheadC; split; exact hc.2; exact hc.1
 have HVO : Hid v.ok := hv
 obtain ⟨M, hM⟩ : ∃ M, M = mergeV k P v := ⟨_, rfl⟩
 have HM : Hid (mergeV k P v = M) := hM.symm
 rw [← hP, ← hM]
 clear hM hv
 go_in
 by_cases h3 : c.n < b
 ·obtain rfl : P = c.c := by rw [hP]; exact if_pos h3
  clear hc hP
  go_upto_region 7 with (go_at_call 33; refine (known_walk _ _).mono ?_; rintro e w' ⟨rfl, rfl⟩)
  all_goals try (exfalso; omega)
  generalize hg : ((w.alloc (Obj.cells #[.int .u64 c.k, .bool c.c.h, .int .u64 c.c.b, .bool c.c.h, .int .u64 c.c.b, .int .i64 b] 134)).alloc (Obj.cells #[.bool v.h, .int .u64 v.b] 53)).alloc (Obj.cells #[.int .u64 0, .bool false, .int .u64 0, .bool false, .int .u64 0, .int .i64 0] 134) = w1
  obtain ⟨HA, HV, HZ, HB⟩ := three_cb (A := ⟨c.k, c.c, c.c, b⟩) (Z := zeroC) hg
  clear hg
  obtain ⟨c0, c1, c2, c3, c4, c5, zz⟩ := HA.out
  obtain ⟨v0, v1, _, _⟩ := HV.out
  go_cut [] (fun wx => CB wx w.heap.size ⟨c.k, c.c, M, b⟩ ∧ CB wx (w.heap.size + 1 + 1) zeroC ∧ Below w.heap.size w wx)
  case first =>
   go_wp2_with (go_at_call 164; refine (merge_walk k HPO.out HVO.out _).mono ?_; rw [HM.out]; rintro e w9 ⟨rfl, hB9⟩; have HA9 := HA.out.below hB9 (cell_lt HA.out.c0); obtain ⟨c0, c1, c2, c3, c4, c5, zz⟩ := HA9)
   all_goals go_meet
   all_goals exact ⟨CB.setCur (HA.out.below (by assumption) (cell_lt HA.out.c0)) M, ((HZ.out.below (by assumption) (cell_lt HZ.out.c0)).other (by simp; omega) _).other (by simp; omega) _, keep_store2 (below_trans HB.out (by assumption)) _ (Nat.le_refl _) _ _ _ _⟩
  case rest =>
   obtain ⟨hA, hZ, hB⟩ := hcut
   have HB2 : Hid (Below w.heap.size w wc) := hB
   obtain ⟨c0, c1, c2, c3, c4, c5, zz⟩ := hA
   obtain ⟨d0, d1, d2, d3, d4, d5, yy⟩ := hZ
   clear hB HA HV HZ HB
   go_wp2_with fail
   refine bodyPost_ret (by simp [results, Tryz.results171, go_sem, d0, d1, d2, d3, d4, d5]) rfl ⟨rfl, ?_⟩
   exact keep_cell HB2.out _ (by omega) _ _ _ _ _ _
 ·obtain rfl : P = c.p := by rw [hP]; exact if_neg h3
  obtain rfl : b = c.n := by omega
  clear hc hP
  go_upto_region 7 with (go_at_call 33; refine (known_walk _ _).mono ?_; rintro e w' ⟨rfl, rfl⟩)
  all_goals try (exfalso; omega)
  generalize hg : ((w.alloc (Obj.cells #[.int .u64 c.k, .bool c.p.h, .int .u64 c.p.b, .bool c.c.h, .int .u64 c.c.b, .int .i64 c.n] 134)).alloc (Obj.cells #[.bool v.h, .int .u64 v.b] 53)).alloc (Obj.cells #[.int .u64 0, .bool false, .int .u64 0, .bool false, .int .u64 0, .int .i64 0] 134) = w1
  obtain ⟨HA, HV, HZ, HB⟩ := three_cb (A := ⟨c.k, c.p, c.c, c.n⟩) (Z := zeroC) hg
  clear hg
  obtain ⟨c0, c1, c2, c3, c4, c5, zz⟩ := HA.out
  obtain ⟨v0, v1, _, _⟩ := HV.out
  go_cut [] (fun wx => CB wx w.heap.size ⟨c.k, c.p, M, c.n⟩ ∧ CB wx (w.heap.size + 1 + 1) zeroC ∧ Below w.heap.size w wx)
  case first =>
   go_wp2_with (go_at_call 164; refine (merge_walk k HPO.out HVO.out _).mono ?_; rw [HM.out]; rintro e w9 ⟨rfl, hB9⟩; have HA9 := HA.out.below hB9 (cell_lt HA.out.c0); obtain ⟨c0, c1, c2, c3, c4, c5, zz⟩ := HA9)
   all_goals go_meet
   all_goals exact ⟨CB.setCur (HA.out.below (by assumption) (cell_lt HA.out.c0)) M, ((HZ.out.below (by assumption) (cell_lt HZ.out.c0)).other (by simp; omega) _).other (by simp; omega) _, keep_store2 (below_trans HB.out (by assumption)) _ (Nat.le_refl _) _ _ _ _⟩
  case rest =>
   obtain ⟨hA, hZ, hB⟩ := hcut
   have HB2 : Hid (Below w.heap.size w wc) := hB
   obtain ⟨c0, c1, c2, c3, c4, c5, zz⟩ := hA
   obtain ⟨d0, d1, d2, d3, d4, d5, yy⟩ := hZ
   clear hB HA HV HZ HB
   go_wp2_with fail
   refine bodyPost_ret (by simp [results, Tryz.results171, go_sem, d0, d1, d2, d3, d4, d5]) rfl ⟨rfl, ?_⟩
   exact keep_cell HB2.out _ (by omega) _ _ _ _ _ _
end
section
open Ieee Go.RowKit
end
section
open Ieee Go.RowKit

theorem eq_valN (n : Nat) (v : Vl) (w : World) : (Op.equalIn (n + 1 + 1) 53 (.agg #[.bool v.h, .int .u64 v.b]) (.agg #[.bool v.h, .int .u64 v.b])).run Tryz.prog w = .ok true w := by
 have u0 := Tryz.underlying4
 have u1 := Tryz.underlying37
 have a0 := Tryz.isAgg4
 have a1 := Tryz.isAgg37
 have z0 := Tryz.sizeOf4
 have z1 := Tryz.sizeOf37
 have hS : Tryz.prog.underlying 53 = some (.struct (Tryz.prog.fieldsOf 53)) := by kernel_rfl
 have hp : Tryz.prog.stoodInHeld 53 = false := by kernel_rfl
 rw [run_equalIn_agg w (n + 1) 53 _ _ hS hp]
 simp only [Program.fieldsOf, Tryz.underlying53]
 go_simp
theorem eq_cell (c : Cl) (w : World) : (Op.equalIn 10000 134 (.agg #[.int .u64 c.k, .bool c.p.h, .int .u64 c.p.b, .bool c.c.h, .int .u64 c.c.b, .int .i64 c.n]) (.agg #[.int .u64 c.k, .bool c.p.h, .int .u64 c.p.b, .bool c.c.h, .int .u64 c.c.b, .int .i64 c.n])).run Tryz.prog w = .ok true w := by
 have u1 := Tryz.underlying37
 have u3 := Tryz.underlying3
 have a1 := Tryz.isAgg37
 have a2 := Tryz.isAgg53
 have a3 := Tryz.isAgg3
 have z1 := Tryz.sizeOf37
 have z2 := Tryz.sizeOf53
 have z3 := Tryz.sizeOf3
 have hv : ∀ w, (Op.equalIn 9999 53 (.agg #[.bool c.p.h, .int .u64 c.p.b]) (.agg #[.bool c.p.h, .int .u64 c.p.b])).run Tryz.prog w = .ok true w := eq_valN 9997 c.p
 have hu : ∀ w, (Op.equalIn 9999 53 (.agg #[.bool c.c.h, .int .u64 c.c.b]) (.agg #[.bool c.c.h, .int .u64 c.c.b])).run Tryz.prog w = .ok true w := eq_valN 9997 c.c
 have hS : Tryz.prog.underlying 134 = some (.struct (Tryz.prog.fieldsOf 134)) := by kernel_rfl
 have hp : Tryz.prog.stoodInHeld 134 = false := by kernel_rfl
 rw [show (10000 : Nat) = 9999 + 1 from rfl, run_equalIn_agg w 9999 134 _ _ hS hp]
 simp only [Program.fieldsOf, Tryz.underlying134]
 go_simp
theorem neq_cell (c : Cl) (w : World) : (binOp .neq 134 (.agg #[.int .u64 c.k, .bool c.p.h, .int .u64 c.p.b, .bool c.c.h, .int .u64 c.c.b, .int .i64 c.n]) (.agg #[.int .u64 c.k, .bool c.p.h, .int .u64 c.p.b, .bool c.c.h, .int .u64 c.c.b, .int .i64 c.n])).run Tryz.prog w = .ok (.bool false) w := by
 rw [run_neq_struct, eq_cell]; rfl
end
section
open Ieee Go.RowKit

def Gl {α : Type} (w : World) (ao : Option Addr) (n : Nat) (f : α → List Value) (l : List α) : Prop :=
 ∀ i, (h : i < l.length) → ∃ b off, ao = some ⟨b, off, none⟩ ∧ ∀ j, j < n → w.cell? ⟨b, off + (i * n + j), none⟩ = (f l[i])[j]?
def Gv {α : Type} (w : World) (v : Value) (n : Nat) (f : α → List Value) (l : List α) : Prop :=
 ∃ ao cap, v = .slice ao l.length cap ∧ l.length ≤ cap ∧ cap ≤ maxLen ∧ (ao = none → cap = 0) ∧ Gl w ao n f l
theorem Gl.below {α : Type} {w w' : World} {ao : Option Addr} {n : Nat} {f : α → List Value} {l : List α} (hf : ∀ a, (f a).length = n) (h : Gl w ao n f l) (hb : Below w.heap.size w w') : Gl w' ao n f l := by
 intro i hi
 obtain ⟨b, off, e, hc⟩ := h i hi
 refine ⟨b, off, e, fun j hj => ?_⟩
 have h1 := hc j hj
 have h2 : (f l[i])[j]? = some ((f l[i])[j]'(by rw [hf]; exact hj)) := List.getElem?_eq_getElem _
 rw [h2] at h1 ⊢
 rw [hb.cell (p := ⟨b, off + (i * n + j), none⟩) (cell_lt h1)]
 exact h1
structure At where
 a : Int
 b : Int
 v : Vl
structure Ro where
 p : Vl
 w : Vl
 f : Bool
 m : Bool
end
end Go.Proofs.YtofkhgokfdpdiaaGreat
