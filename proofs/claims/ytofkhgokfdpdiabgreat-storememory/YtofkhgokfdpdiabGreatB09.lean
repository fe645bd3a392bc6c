/- takeNum, TakeNums and its reference. -/
import Derived.Test.YtofkhgokfdpdiabGreatB02
import Derived.Test.YtofkhgokfdpdiabGreatB06
import Derived.Test.YtofkhgokfdpdiabGreatB08
import Derived.Deep.RegionHeld3
import Derived.Deep.QuietTactic
import Derived.BigQuiet
import Derived.Test.YtofkhgokfdpdiabGreatB07
set_option maxRecDepth 100000
set_option maxHeartbeats 16000000
namespace Go.Proofs.YtofkhgokfdpdiabGreat
section
open Ieee Go.RowKit

theorem eq_valX (n : Nat) (v u : Vl) (h : v ≠ u) (w : World) : (Op.equalIn (n + 1 + 1) 58 (.agg #[.bool v.h, .int .u64 v.b]) (.agg #[.bool u.h, .int .u64 u.b])).run Tryz.prog w = .ok false w := by
 have u0 := Tryz.underlying4
 have u1 := Tryz.underlying33
 have a0 := Tryz.isAgg4
 have a1 := Tryz.isAgg33
 have z0 := Tryz.sizeOf4
 have z1 := Tryz.sizeOf33
 have hS : Tryz.prog.underlying 58 = some (.struct (Tryz.prog.fieldsOf 58)) := by kernel_rfl
 have hp : Tryz.prog.stoodInHeld 58 = false := by kernel_rfl
 rw [run_equalIn_agg w (n + 1) 58 _ _ hS hp]
 simp only [Program.fieldsOf, Tryz.underlying58]
 obtain ⟨vh, vb⟩ := v
 obtain ⟨uh, ub⟩ := u
 by_cases h1 : vh = uh
 ·subst h1
  have h2 : vb ≠ ub := fun e => h (by rw [e])
  have h3 : ((vb : Int) == (ub : Int)) = false := by rw [beq_eq_false_iff_ne]; omega
  go_simp
 ·have h3 : (vh == uh) = false := by rw [beq_eq_false_iff_ne]; exact h1
  go_simp
theorem eq_cellX (c d : Cl) (h : c ≠ d) (w : World) : (Op.equalIn 10000 63 (.agg #[.int .u64 c.k, .bool c.p.h, .int .u64 c.p.b, .bool c.c.h, .int .u64 c.c.b, .int .i64 c.n]) (.agg #[.int .u64 d.k, .bool d.p.h, .int .u64 d.p.b, .bool d.c.h, .int .u64 d.c.b, .int .i64 d.n])).run Tryz.prog w = .ok false w := by
 have u1 := Tryz.underlying33
 have u3 := Tryz.underlying3
 have a1 := Tryz.isAgg33
 have a2 := Tryz.isAgg58
 have a3 := Tryz.isAgg3
 have z1 := Tryz.sizeOf33
 have z2 := Tryz.sizeOf58
 have z3 := Tryz.sizeOf3
 have hS : Tryz.prog.underlying 63 = some (.struct (Tryz.prog.fieldsOf 63)) := by kernel_rfl
 have hp : Tryz.prog.stoodInHeld 63 = false := by kernel_rfl
 rw [show (10000 : Nat) = 9999 + 1 from rfl, run_equalIn_agg w 9999 63 _ _ hS hp]
 simp only [Program.fieldsOf, Tryz.underlying63]
 obtain ⟨ck, cp, cc, cn⟩ := c
 obtain ⟨dk, dp, dc, dn⟩ := d
 by_cases h1 : ck = dk
 ·subst h1
  by_cases h2 : cp = dp
  ·subst h2
   have hv : ∀ w, (Op.equalIn 9999 58 (.agg #[.bool cp.h, .int .u64 cp.b]) (.agg #[.bool cp.h, .int .u64 cp.b])).run Tryz.prog w = .ok true w := eq_valN 9997 cp
   by_cases h3 : cc = dc
   ·subst h3
    have hu : ∀ w, (Op.equalIn 9999 58 (.agg #[.bool cc.h, .int .u64 cc.b]) (.agg #[.bool cc.h, .int .u64 cc.b])).run Tryz.prog w = .ok true w := eq_valN 9997 cc
    have h4 : cn ≠ dn := fun e => h (by rw [e])
    have h5 : (cn == dn) = false := by rw [beq_eq_false_iff_ne]; exact h4
    go_simp
   ·have hu : ∀ w, (Op.equalIn 9999 58 (.agg #[.bool cc.h, .int .u64 cc.b]) (.agg #[.bool dc.h, .int .u64 dc.b])).run Tryz.prog w = .ok false w := eq_valX 9997 cc dc h3
    go_simp
  ·have hv : ∀ w, (Op.equalIn 9999 58 (.agg #[.bool cp.h, .int .u64 cp.b]) (.agg #[.bool dp.h, .int .u64 dp.b])).run Tryz.prog w = .ok false w := eq_valX 9997 cp dp h2
   go_simp
 ·have h5 : ((ck : Int) == (dk : Int)) = false := by rw [beq_eq_false_iff_ne]; omega
  go_simp
theorem neq_cellX (c d : Cl) (h : c ≠ d) (w : World) : (binOp .neq 63 (.agg #[.int .u64 c.k, .bool c.p.h, .int .u64 c.p.b, .bool c.c.h, .int .u64 c.c.b, .int .i64 c.n]) (.agg #[.int .u64 d.k, .bool d.p.h, .int .u64 d.p.b, .bool d.c.h, .int .u64 d.c.b, .int .i64 d.n])).run Tryz.prog w = .ok (.bool true) w := by
 rw [run_neq_struct, eq_cellX c d h]; rfl
theorem neq_valX (v u : Vl) (h : v ≠ u) (w : World) : (binOp .neq 58 (.agg #[.bool v.h, .int .u64 v.b]) (.agg #[.bool u.h, .int .u64 u.b])).run Tryz.prog w = .ok (.bool true) w := by
 rw [run_neq_struct, show (10000 : Nat) = 9998 + 1 + 1 from rfl, eq_valX 9998 v u h]; rfl
def EqGot {α : Type} (l m : List α) (w : World) (e : Ending) (w' : World) : Prop := (∃ t, e = .returned (.bool t) ∧ (t = true ↔ l = m)) ∧ Below w.heap.size w w'
theorem eqgot_no {α : Type} {l m : List α} {w w' : World} (h : l ≠ m) (hb : Below w.heap.size w w') : EqGot l m w (.returned (.bool false)) w' := ⟨⟨false, rfl, by simp; exact h⟩, hb⟩
theorem eqgot_yes {α : Type} {l m : List α} {w w' : World} (h : l = m) (hb : Below w.heap.size w w') : EqGot l m w (.returned (.bool true)) w' := ⟨⟨true, rfl, by simp; exact h⟩, hb⟩
theorem sequal_walk {w : World} {u v : Value} {l m : List Cl} (hu : Cv w u l) (hv : Cv w v m) :
  Calls Tryz.prog 85 #[u, v] w (EqGot l m w) := by
 have HU : Hid (Cv w u l) := hu
 have HV : Hid (Cv w v m) := hv
 obtain ⟨ua, uc, rfl⟩ := hu.form
 obtain ⟨va, vc, rfl⟩ := hv.form
 have hlm := hu.len_le
 unfold maxLen at hlm
 clear hu hv
 by_cases hln : l.length = m.length
 rotate_left
 ·have hb : ((l.length : Int) != (m.length : Int)) = true := by rw [bne_iff_ne]; omega
  have HNE : Hid (l ≠ m) := fun e => hln (by rw [e])
  clear hln hlm
  generalize l.length = n at hb
  generalize m.length = q at hb
  go_in
  go_wp2_with fail
  go_ret
  exact eqgot_no HNE.out (Below.refl _ _)
 ·rw [← hln] at HV ⊢
  obtain ⟨n, hn⟩ : ∃ n, n = l.length := ⟨_, rfl⟩
  rw [← hn] at HU HV ⊢
  have HN : Hid (n = l.length) := hn
  have HM : Hid (n = m.length) := hn.trans hln
  have hni : (n : Int) ≤ 9223372036854775807 := by omega
  have hb : ((n : Int) != (n : Int)) = false := by simp
  clear hn hln hlm
  go_in
  go_wp2_with fail
  go_loopw [13] (fun iv wr => ∃ i : Nat, iv = .int .i64 i ∧ i ≤ n ∧ (∀ j, (h1 : j < l.length) → (h2 : j < m.length) → j < i → l[j] = m[j]) ∧ Below w.heap.size w wr) (fun iv _ => n - (intOf iv).toNat)
  case atStart => exact ⟨0, rfl, by omega, fun j _ _ h => by omega, Below.refl _ _⟩
  case round =>
   obtain ⟨i, rfl, hi, hall, hB⟩ := hrel
   have HA : Hid (∀ j, (h1 : j < l.length) → (h2 : j < m.length) → j < i → l[j] = m[j]) := hall
   have HB := hidH hB
   clear hall hB
   by_cases hlt : i < n
   ·have hlti : (i : Int) < (n : Int) := by omega
    have hltd : decide (i < n) = true := decide_eq_true hlt
    have h1 : i < l.length := by have := HN.out; omega
    have h2 : i < m.length := by have := HM.out; omega
    rcases cv_cases (HU.out.below HB.out) with ⟨h0, _⟩ | ⟨b1, o1, c1, e1, _, _, _, k1⟩
    ·rw [h0] at h1; simp at h1
    rcases cv_cases (HV.out.below HB.out) with ⟨h0, _⟩ | ⟨b2, o2, c2, e2, _, _, _, k2⟩
    ·rw [h0] at h2; simp at h2
    simp only [Value.slice.injEq] at e1 e2
    have e11 := e1.1
    have e21 := e2.1
    clear e1 e2
    subst e11 e21
    obtain ⟨x0, x1, x2, x3, x4, x5⟩ := k1 i h1
    obtain ⟨y0, y1, y2, y3, y4, y5⟩ := k2 i h2
    obtain ⟨c, hc⟩ : ∃ c, c = l[i] := ⟨_, rfl⟩
    obtain ⟨d, hd⟩ : ∃ d, d = m[i] := ⟨_, rfl⟩
    rw [← hc] at x0 x1 x2 x3 x4 x5
    rw [← hd] at y0 y1 y2 y3 y4 y5
    have X0 : ∀ q, (wr.drewN q).cell? ⟨b1, o1 + i * 6, none⟩ = some (.int .u64 c.k) := fun _ => x0
    have X1 : ∀ q, (wr.drewN q).cell? ⟨b1, o1 + i * 6 + 1, none⟩ = some (.bool c.p.h) := fun _ => x1
    have X2 : ∀ q, (wr.drewN q).cell? ⟨b1, o1 + i * 6 + 2, none⟩ = some (.int .u64 c.p.b) := fun _ => x2
    have X3 : ∀ q, (wr.drewN q).cell? ⟨b1, o1 + i * 6 + 3, none⟩ = some (.bool c.c.h) := fun _ => x3
    have X4 : ∀ q, (wr.drewN q).cell? ⟨b1, o1 + i * 6 + 4, none⟩ = some (.int .u64 c.c.b) := fun _ => x4
    have X5 : ∀ q, (wr.drewN q).cell? ⟨b1, o1 + i * 6 + 5, none⟩ = some (.int .i64 c.n) := fun _ => x5
    have Y0 : ∀ q, (wr.drewN q).cell? ⟨b2, o2 + i * 6, none⟩ = some (.int .u64 d.k) := fun _ => y0
    have Y1 : ∀ q, (wr.drewN q).cell? ⟨b2, o2 + i * 6 + 1, none⟩ = some (.bool d.p.h) := fun _ => y1
    have Y2 : ∀ q, (wr.drewN q).cell? ⟨b2, o2 + i * 6 + 2, none⟩ = some (.int .u64 d.p.b) := fun _ => y2
    have Y3 : ∀ q, (wr.drewN q).cell? ⟨b2, o2 + i * 6 + 3, none⟩ = some (.bool d.c.h) := fun _ => y3
    have Y4 : ∀ q, (wr.drewN q).cell? ⟨b2, o2 + i * 6 + 4, none⟩ = some (.int .u64 d.c.b) := fun _ => y4
    have Y5 : ∀ q, (wr.drewN q).cell? ⟨b2, o2 + i * 6 + 5, none⟩ = some (.int .i64 d.n) := fun _ => y5
    have HCD : Hid (c = l[i] ∧ d = m[i]) := ⟨hc, hd⟩
    have hg := guard_cell
    clear k1 k2 x0 x1 x2 x3 x4 x5 y0 y1 y2 y3 y4 y5 hc hd
    by_cases hcd : c = d
    ·have HNX : Hid (∀ j, (h1 : j < l.length) → (h2 : j < m.length) → j < i + 1 → l[j] = m[j]) := fun j k1 k2 hj => by
      rcases Nat.lt_or_ge j i with q | q
      ·exact HA.out j k1 k2 q
      ·obtain rfl : j = i := by omega
       rw [← HCD.out.1, ← HCD.out.2]; exact hcd
     subst hcd
     have hq := neq_cell c
     go_wp2_with fail
     go_quiet (fail)
     have HB9 : Hid (Below w.heap.size w (wr.drewN nq)) := below_trans HB.out (below_drewN _ _)
     go_wp2_with fail
     go_roundw
     case rel => exact ⟨i + 1, by go_num, hlt, HNX.out, HB9.out⟩
     case measure => simp [intOf]; omega
    ·have hq := neq_cellX c d hcd
     have HNE : Hid (l ≠ m) := fun e => by
      subst e
      exact hcd (HCD.out.1.trans HCD.out.2.symm)
     clear hcd
     go_wp2_with fail
     go_quiet (fail)
     have HB9 : Hid (Below w.heap.size w (wr.drewN nq)) := below_trans HB.out (below_drewN _ _)
     go_wp2_with fail
     go_ret
     exact eqgot_no HNE.out HB9.out
   ·have hlti : ¬ (i : Int) < (n : Int) := by omega
    have HE : Hid (l = m) := List.ext_getElem (by rw [← HN.out, ← HM.out]) (fun j k1 k2 => HA.out j k1 k2 (by have := HN.out; omega))
    go_wp2_with fail
    go_ret
    exact eqgot_yes HE.out HB.out
theorem kequal_walk {w : World} {u v : Value} {l m : List Nat} (hu : Kv w u l) (hv : Kv w v m) :
  Calls Tryz.prog 35 #[u, v] w (EqGot l m w) := by
 have HU : Hid (Kv w u l) := hu
 have HV : Hid (Kv w v m) := hv
 obtain ⟨ua, uc, rfl, hlm1, hlm2⟩ := kv_form hu
 obtain ⟨va, vc, rfl, _, _⟩ := kv_form hv
 have hlm : l.length ≤ maxLen := Nat.le_trans hlm1 hlm2
 clear hlm1 hlm2
 unfold maxLen at hlm
 clear hu hv
 by_cases hln : l.length = m.length
 rotate_left
 ·have hb : ((l.length : Int) != (m.length : Int)) = true := by rw [bne_iff_ne]; omega
  have HNE : Hid (l ≠ m) := fun e => hln (by rw [e])
  clear hln hlm
  generalize l.length = n at hb
  generalize m.length = q at hb
  go_in
  go_wp2_with fail
  go_ret
  exact eqgot_no HNE.out (Below.refl _ _)
 ·rw [← hln] at HV ⊢
  obtain ⟨n, hn⟩ : ∃ n, n = l.length := ⟨_, rfl⟩
  rw [← hn] at HU HV ⊢
  have HN : Hid (n = l.length) := hn
  have HM : Hid (n = m.length) := hn.trans hln
  have hni : (n : Int) ≤ 9223372036854775807 := by omega
  have hb : ((n : Int) != (n : Int)) = false := by simp
  clear hn hln hlm
  go_in
  go_wp2_with fail
  go_loopw [13] (fun iv wr => ∃ i : Nat, iv = .int .i64 i ∧ i ≤ n ∧ (∀ j, (h1 : j < l.length) → (h2 : j < m.length) → j < i → l[j] = m[j]) ∧ Below w.heap.size w wr) (fun iv _ => n - (intOf iv).toNat)
  case atStart => exact ⟨0, rfl, by omega, fun j _ _ h => by omega, Below.refl _ _⟩
  case round =>
   obtain ⟨i, rfl, hi, hall, hB⟩ := hrel
   have HA : Hid (∀ j, (h1 : j < l.length) → (h2 : j < m.length) → j < i → l[j] = m[j]) := hall
   have HB := hidH hB
   clear hall hB
   by_cases hlt : i < n
   ·have hlti : (i : Int) < (n : Int) := by omega
    have hltd : decide (i < n) = true := decide_eq_true hlt
    have h1 : i < l.length := by have := HN.out; omega
    have h2 : i < m.length := by have := HM.out; omega
    rcases kv_cases (HU.out.below HB.out) with ⟨h0, _⟩ | ⟨b1, o1, c1, e1, _, _, _, k1⟩
    ·rw [h0] at h1; simp at h1
    rcases kv_cases (HV.out.below HB.out) with ⟨h0, _⟩ | ⟨b2, o2, c2, e2, _, _, _, k2⟩
    ·rw [h0] at h2; simp at h2
    simp only [Value.slice.injEq] at e1 e2
    have e11 := e1.1
    have e21 := e2.1
    clear e1 e2
    subst e11 e21
    have x0 := k1 i h1
    have y0 := k2 i h2
    obtain ⟨c, hc⟩ : ∃ c, c = l[i] := ⟨_, rfl⟩
    obtain ⟨d, hd⟩ : ∃ d, d = m[i] := ⟨_, rfl⟩
    rw [← hc] at x0
    rw [← hd] at y0
    have X0 : ∀ q, (wr.drewN q).cell? ⟨b1, o1 + i, none⟩ = some (.int .u64 (c : Nat)) := fun _ => x0
    have Y0 : ∀ q, (wr.drewN q).cell? ⟨b2, o2 + i, none⟩ = some (.int .u64 (d : Nat)) := fun _ => y0
    have HCD : Hid (c = l[i] ∧ d = m[i]) := ⟨hc, hd⟩
    clear k1 k2 x0 y0 hc hd
    by_cases hcd : c = d
    ·have HNX : Hid (∀ j, (h1 : j < l.length) → (h2 : j < m.length) → j < i + 1 → l[j] = m[j]) := fun j k1 k2 hj => by
      rcases Nat.lt_or_ge j i with q | q
      ·exact HA.out j k1 k2 q
      ·obtain rfl : j = i := by omega
       rw [← HCD.out.1, ← HCD.out.2]; exact hcd
     subst hcd
     have hq : ((c : Int) != (c : Int)) = false := by simp
     go_wp2_with fail
     go_quiet (fail)
     have HB9 : Hid (Below w.heap.size w (wr.drewN nq)) := below_trans HB.out (below_drewN _ _)
     go_wp2_with fail
     go_roundw
     case rel => exact ⟨i + 1, by go_num, hlt, HNX.out, HB9.out⟩
     case measure => simp [intOf]; omega
    ·have hq : ((c : Int) != (d : Int)) = true := by rw [bne_iff_ne]; omega
     have HNE : Hid (l ≠ m) := fun e => by
      subst e
      exact hcd (HCD.out.1.trans HCD.out.2.symm)
     clear hcd
     go_wp2_with fail
     go_quiet (fail)
     have HB9 : Hid (Below w.heap.size w (wr.drewN nq)) := below_trans HB.out (below_drewN _ _)
     go_wp2_with fail
     go_ret
     exact eqgot_no HNE.out HB9.out
   ·have hlti : ¬ (i : Int) < (n : Int) := by omega
    have HE : Hid (l = m) := List.ext_getElem (by rw [← HN.out, ← HM.out]) (fun j k1 k2 => HA.out j k1 k2 (by have := HN.out; omega))
    go_wp2_with fail
    go_ret
    exact eqgot_yes HE.out HB.out
end
section
open Go.RowKit
end
section
open Go.RowKit

theorem t3_lit {r : Nat × Nat × Nat} {a b c : Nat} (h : r = (a, b, c)) : t3 r = .tuple #[.int .u64 a, .int .i64 b, .int .i64 c] := by subst h; rfl
theorem Bv.le_cap {w : World} {ao : Option Addr} {cap : Nat} {l : List Nat} (h : Bv w (.slice ao l.length cap) l) : l.length ≤ cap := by
 obtain ⟨⟨ao', cap', e, h1, _⟩, _⟩ := h
 simp only [Value.slice.injEq] at e
 obtain ⟨_, _, rfl⟩ := e
 rwa [ib_len] at h1
end
section
open Go.RowKit

def tnum (l : List Nat) : Nat × Nat × Nat := match Wm.take l with
 | (x, n, 0) => if 4611686018427387904 < x then (0, 0, 4) else (x, n, 0)
 | (_, _, e) => (0, 0, e)
def t3i (r : Nat × Nat × Nat) : Value := .tuple #[.int .i64 (r.1 : Nat), .int .i64 (r.2.1 : Nat), .int .i64 (r.2.2 : Nat)]
theorem t3i_lit {r : Nat × Nat × Nat} {a b c : Nat} (h : r = (a, b, c)) : t3i r = .tuple #[.int .i64 a, .int .i64 b, .int .i64 c] := by subst h; rfl
theorem tnum_err {l : List Nat} {e : Nat} (h : Wm.take l = (0, 0, e)) (h34 : e = 3 ∨ e = 4) : tnum l = (0, 0, e) := by
 unfold tnum; rw [h]; rcases h34 with rfl | rfl <;> rfl
theorem tnum_big {l : List Nat} {x n : Nat} (h : Wm.take l = (x, n, 0)) (hb : 4611686018427387904 < x) : tnum l = (0, 0, 4) := by
 unfold tnum; rw [h]; simp only; rw [if_pos hb]
theorem tnum_ok {l : List Nat} {x n : Nat} (h : Wm.take l = (x, n, 0)) (hb : ¬ 4611686018427387904 < x) : tnum l = (x, n, 0) := by
 unfold tnum; rw [h]; simp only; rw [if_neg hb]
theorem tnum_form (l : List Nat) (hl : ∀ c ∈ l, c < 256) :
  (∃ e, tnum l = (0, 0, e) ∧ (e = 3 ∨ e = 4) ∧ ∀ k p (b : List Nat) acc, b.drop p = l → Wm.tnums (k + 1) b p acc = ([], 0, e)) ∨
  (∃ x n, tnum l = (x, n, 0) ∧ x ≤ 4611686018427387904 ∧ 1 ≤ n ∧ n ≤ l.length ∧ ∀ k p (b : List Nat) acc, b.drop p = l → Wm.tnums (k + 1) b p acc = Wm.tnums k b (p + n) (acc ++ [x])) := by
 rcases Wm.take_form l hl with ⟨e, he, h34⟩ | ⟨x, n, hx, _, h1, h2, _⟩
 ·refine .inl ⟨e, tnum_err he h34, h34, fun k p b acc hb => ?_⟩
  rw [Wm.tnums, hb, he]
  rcases h34 with rfl | rfl <;> rfl
 ·by_cases hb : 4611686018427387904 < x
  ·refine .inl ⟨4, tnum_big hx hb, .inr rfl, fun k p b acc hd => ?_⟩
   rw [Wm.tnums, hd, hx]
   simp only
   rw [if_pos hb]
  ·refine .inr ⟨x, n, tnum_ok hx hb, by omega, h1, h2, fun k p b acc hd => ?_⟩
   rw [Wm.tnums, hd, hx]
   simp only
   rw [if_neg hb]
theorem takenum_walk {w : World} {v : Value} {l : List Nat} (h : Bv w v l) :
  Calls Tryz.prog 176 #[v] w fun e w' => e = .returned (t3i (tnum l)) ∧ w' = w := by
 have HV : Hid (Bv w v l) := h
 obtain ⟨a0, c0, rfl⟩ := bv_form h
 clear h
 go_in
 go_wp2_with fail
 refine (take_walk HV.out).mono ?_
 rintro e w1 ⟨he, rfl⟩
 rcases Wm.take_form l HV.out.2 with ⟨er, her, h34⟩ | ⟨x, n, htx, hx, hn1, hn2, henc⟩
 ·rw [t3_lit her] at he
  subst he
  have HER : Hid (Wm.take l = (0, 0, er)) := her
  clear her
  rcases h34 with rfl | rfl
  ·go_wp2_with fail
   go_ret3
   exact ⟨by rw [t3i_lit (tnum_err HER.out (.inl rfl))]; rfl, rfl⟩
  ·go_wp2_with fail
   go_ret3
   exact ⟨by rw [t3i_lit (tnum_err HER.out (.inr rfl))]; rfl, rfl⟩
 ·rw [t3_lit htx] at he
  subst he
  have HT : Hid (Wm.take l = (x, n, 0)) := htx
  clear htx henc hx hn1 hn2
  by_cases hb : (4611686018427387904 : Int) < (x : Int)
  ·go_wp2_with fail
   go_ret3
   exact ⟨by rw [t3i_lit (tnum_big HT.out (by omega))]; rfl, rfl⟩
  ·have hbb : decide ((4611686018427387904 : Int) < (x : Int)) = false := decide_eq_false hb
   have HB : Hid (¬ 4611686018427387904 < x) := by show ¬ _ < _; omega
   have hwr : IntKind.i64.wrap (x : Int) = (x : Int) := by rw [IntKind.wrap_i64]; omega
   clear hb
   go_wp2_with fail
   go_ret3
   exact ⟨by rw [t3i_lit (tnum_ok HT.out HB.out)]; rfl, rfl⟩
theorem sv_form {k : IntKind} {w : World} {v : Value} {l : List Int} (h : Sv k w v l) : ∃ ao cap, v = .slice ao l.length cap := by
 obtain ⟨ao, cap, rfl, _⟩ := h
 exact ⟨ao, cap, rfl⟩
def NumsGot (r : List Nat × Nat × Nat) (w : World) (e : Ending) (w' : World) : Prop :=
 ∃ ao cap, e = .returned (.tuple #[.slice ao (ib r.1).length cap, .int .i64 (r.2.1 : Nat), .int .i64 (r.2.2 : Nat)]) ∧ Sv .i64 w' (.slice ao (ib r.1).length cap) (ib r.1) ∧ Below w.heap.size w w' ∧ ∀ x, (Value.slice ao (ib r.1).length cap).ownBlock = some x → w.heap.size ≤ x
theorem numsgot_none {r : List Nat × Nat × Nat} {w w' : World} {e : Nat} {c : Int} (h : r = ([], 0, e)) (hc : c = e) (hB : Below w.heap.size w w') : NumsGot r w (.returned (.tuple #[.slice none 0 0, .int .i64 0, .int .i64 c])) w' := by
 subst h hc
 exact ⟨none, 0, rfl, Sv.nil _ w', hB, fun x hx => by cases hx⟩
theorem numsgot_some {r : List Nat × Nat × Nat} {w w' : World} {n p : Nat} {acc : List Nat} {v : Value} {c : Int} (h : r = (acc, p, 0)) (hown : w'.ownsRow w.heap.size 3 1 v n ((ib acc).map (Value.int .i64))) (hB : Below w.heap.size w w') (hc : c = p) :
  NumsGot r w (.returned (.tuple #[v, .int .i64 c, .int .i64 0])) w' := by
 subst h hc
 obtain ⟨ao, cap, rfl⟩ := sv_form (own_sv hown)
 exact ⟨ao, cap, rfl, own_sv hown, hB, fun x hx => (hown.lt x hx).1⟩
def TNRel (l : List Nat) (c : Nat) (r : List Nat × Nat × Nat) (H : Nat) (w : World) (pv v kv : Value) (kk : IntKind) (wr : World) : Prop :=
 ∃ (k p : Nat) (acc : List Nat), kv = .int kk k ∧ k ≤ c ∧ pv = .int .i64 p ∧ p ≤ l.length ∧ k ≤ p ∧ acc.length = k ∧ Wm.tnums (c - k) l p acc = r ∧
  wr.ownsRow H 3 1 v k ((ib acc).map (Value.int .i64)) ∧ Below H w wr
theorem tnrel_start {l : List Nat} {c p : Nat} {r : List Nat × Nat × Nat} {w : World} (kk : IntKind) (hp : p ≤ l.length) (h : Wm.tnums c l p [] = r) :
  TNRel l c r w.heap.size w (.int .i64 p) (.slice (some ⟨w.heap.size, 0, none⟩) 0 0) (.int kk 0) kk (w.alloc (.cells #[] 3)) :=
 ⟨0, p, [], rfl, Nat.zero_le _, rfl, hp, Nat.zero_le _, rfl, h, World.ownsRow_made w #[] 0 (Nat.le_refl _) (by simp [maxLen]) rfl, below_alloc w _⟩
theorem tnrel_step {l : List Nat} {c k p x n H : Nat} {r : List Nat × Nat × Nat} {acc : List Nat} {w wr w1 : World} {v v' : Value} (kk : IntKind) (hk : k < c) (hpn : p + n ≤ l.length) (hkp : k ≤ p) (hn : 1 ≤ n) (hacc : acc.length = k)
  (ht : Wm.tnums (c - k) l p acc = r) (hstep : ∀ j q (b : List Nat) a, b.drop q = l.drop p → Wm.tnums (j + 1) b q a = Wm.tnums j b (q + n) (a ++ [x])) (hbel : Below H w wr) (hH : H ≤ wr.heap.size) (o : Obj)
  (hown : wr.ownsRow H 3 1 v k ((ib acc).map (Value.int .i64))) (hown' : w1.ownsRow H 3 1 v' (k + 1) ((ib acc).map (Value.int .i64) ++ [(x : Int)].map (Value.int .i64))) (hg : (wr.alloc o).grownBy w1 v.ownBlock) :
  TNRel l c r H w (.int .i64 ((p : Int) + (n : Int))) v' (.int kk ((k : Int) + 1)) kk w1 := by
 refine ⟨k + 1, p + n, acc ++ [x], rfl, hk, by congr 1, hpn, by omega, by simp [hacc], ?_, ?_, hbel.trans (((below_alloc wr o).mono hH).trans (grown_below (hown.alloc o) hg (by simp; omega)))⟩
 ·rw [← hstep (c - (k + 1)) p l acc rfl, ← ht]
  congr 1; omega
 ·rw [ib_append, List.map_append]
  exact hown'
theorem Bv.cutFrom {w : World} {ao : Option Addr} {cap : Nat} {l : List Nat} (h : Bv w (.slice ao l.length cap) l) (p : Nat) (hp : p ≤ l.length) (hne : ¬ cap = p) :
  Bv w (.slice (ao.map fun a => a.add p) (l.length - p) (cap - p)) (l.drop p) := by
 have := h.cut p l.length hp (Nat.le_refl _) False (by simp [hne])
 have e : (l.drop p).take (l.length - p) = l.drop p := List.take_of_length_le (by rw [List.length_drop]; omega)
 rw [e] at this
 simpa using this
theorem Bv.cutEnd {w : World} {ao : Option Addr} {l : List Nat} {p : Nat} (hp : l.length ≤ p) : Bv w (.slice ao 0 0) (l.drop p) := by
 rw [List.drop_eq_nil_of_le hp]
 exact ⟨⟨ao, 0, rfl, Nat.le_refl _, by simp [maxLen], fun _ => rfl, fun i hi => by simp [ib] at hi⟩, by simp⟩
theorem takeNums_err {l : List Nat} {e : Nat} (most : Int) (h : Wm.take l = (0, 0, e)) (h34 : e = 3 ∨ e = 4) : Wm.takeNums l most = ([], 0, e) := by
 unfold Wm.takeNums; rw [h]; rcases h34 with rfl | rfl <;> rfl
theorem takeNums_long {l : List Nat} {c p : Nat} {most : Int} (h : Wm.take l = (c, p, 0)) (hm : most < (c : Int)) : Wm.takeNums l most = ([], 0, 6) := by
 unfold Wm.takeNums; rw [h]; simp only; rw [if_pos hm]
theorem takeNums_go {l : List Nat} {c p : Nat} {most : Int} (h : Wm.take l = (c, p, 0)) (hm : ¬ most < (c : Int)) : Wm.takeNums l most = Wm.tnums c l p [] := by
 unfold Wm.takeNums; rw [h]; simp only; rw [if_neg hm]
theorem takenums_walk {w : World} {v : Value} {l : List Nat} (most : Int) (h : Bv w v l) (hsz : l.length * 8 ≤ 140737488355328) (hm : most < 9223372036854775808) :
  Calls Tryz.prog 134 #[v, .int .i64 most] w (NumsGot (Wm.takeNums l most) w) := by
 have HV : Hid (Bv w v l) := h
 have HSZ := hidH hsz
 have HM := hidH hm
 have hle : (l.length : Int) ≤ 140737488355328 := by omega
 obtain ⟨r, hr⟩ : ∃ r, r = Wm.takeNums l most := ⟨_, rfl⟩
 have HR : Hid (r = Wm.takeNums l most) := hr
 rw [← hr]
 obtain ⟨a0, c0, rfl⟩ := bv_form h
 have hc0 : (l.length : Int) ≤ (c0 : Int) := by have := h.le_cap; omega
 clear h hsz hm hr
 go_in
 go_wp2_with fail
 refine (take_walk HV.out).mono ?_
 rintro e w1 ⟨he, rfl⟩
 rcases Wm.take_form l HV.out.2 with ⟨er, her, h34⟩ | ⟨c, p0, htx, hx, hn1, hn2, henc⟩
 ·rw [t3_lit her] at he
  subst he
  have HER : Hid (Wm.take l = (0, 0, er)) := her
  clear her
  rcases h34 with rfl | rfl
  ·go_wp2_with fail
   go_ret3
   exact numsgot_none (by rw [HR.out, takeNums_err most HER.out (.inl rfl)]) rfl (Below.refl _ _)
  ·go_wp2_with fail
   go_ret3
   exact numsgot_none (by rw [HR.out, takeNums_err most HER.out (.inr rfl)]) rfl (Below.refl _ _)
 ·rw [t3_lit htx] at he
  subst he
  have HT : Hid (Wm.take l = (c, p0, 0)) := htx
  have HP0 : Hid (p0 ≤ l.length) := hn2
  clear htx henc hx hn1 hn2
  by_cases hm0 : most < 0
  ·go_wp2_with fail
   go_ret3
   exact numsgot_none (by rw [HR.out, takeNums_long HT.out (by omega)]) rfl (Below.refl _ _)
  ·have hmw : IntKind.u64.wrap most = most := wrap_u64_id (by omega) (by have := HM.out; omega)
   by_cases hml : most < (c : Int)
   ·go_wp2_with fail
    go_ret3
    exact numsgot_none (by rw [HR.out, takeNums_long HT.out (by omega)]) rfl (Below.refl _ _)
   ·have hcw : IntKind.i64.wrap (c : Int) = (c : Int) := by have := HM.out; rw [IntKind.wrap_i64]; omega
    have HCL : Hid ((c : Int) < 9223372036854775808) := by have := HM.out; show _ < _; omega
    have HST : Hid (TNRel l c r w1.heap.size w1 (.int .i64 p0) (.slice (some ⟨w1.heap.size, 0, none⟩) 0 0) (.int .i64 0) .i64 (w1.alloc (.cells #[] 3))) :=
     tnrel_start .i64 HP0.out (by rw [HR.out, takeNums_go HT.out (by omega)])
    have hmlb : decide (most < (c : Int)) = false := decide_eq_false hml
    have hm0b : decide (most < 0) = false := decide_eq_false hm0
    clear hml hm0
    go_wp2_with fail
    go_loopw [8, 10, 34] (fun pv v kv wr => TNRel l c r w1.heap.size w1 pv v kv .i64 wr) (fun _ _ kv _ => c - (intOf kv).toNat)
    case atStart => exact HST.out
    case round =>
     obtain ⟨k, p, acc, rfl, hk, rfl, hp, hkp, hacc, htn, hown, hbel⟩ := hrel
     have HTN : Hid (Wm.tnums (c - k) l p acc = r) := htn
     have HA : Hid (acc.length = k) := hacc
     have hH : w1.heap.size ≤ wr.heap.size := hbel.size
     have hpl : (p : Int) ≤ (l.length : Int) := by omega
     have HVr := hidH (HV.out.below hbel)
     clear htn hacc HST
     by_cases hlt : (k : Int) < (c : Int)
     ·have hkl : (k : Int) + 1 ≤ 9223372036854775807 := by have := HCL.out; omega
      have HPN : Hid (p ≤ l.length) := hp
      have HKP : Hid (k ≤ p) := hkp
      have HKC : Hid (k < c) := by show k < c; omega
      rcases tnum_form (l.drop p) (fun d hd => HV.out.2 d (List.mem_of_mem_drop hd)) with ⟨er, her, h34, hst⟩ | ⟨x, n, htx, hx62, hn1, hn2, hst⟩
      ·have HE : Hid (r = ([], 0, er)) := by
        show r = _
        rw [← HTN.out, ← hst (c - k - 1) p l acc rfl]; congr 1; have := HKC.out; omega
       have HER : Hid (tnum (l.drop p) = (0, 0, er)) := her
       clear hst her hp hkp hk
       by_cases hcp : c0 = p
       ·have hlp : l.length = p := by omega
        have HLP : Hid (l.length ≤ p) := by show _ ≤ _; omega
        subst hcp
        go_wp2_with fail
        refine (takenum_walk (Bv.cutEnd (w := wr) (ao := a0) HLP.out)).mono ?_
        rintro e w3 ⟨he, rfl⟩
        rw [t3i_lit HER.out] at he
        subst he
        rcases h34 with rfl | rfl
        ·go_wp2_with fail
         go_ret3
         exact numsgot_none HE.out rfl hbel
        ·go_wp2_with fail
         go_ret3
         exact numsgot_none HE.out rfl hbel
       ·go_wp2_with fail
        refine (takenum_walk (HVr.out.cutFrom p HPN.out hcp)).mono ?_
        rintro e w3 ⟨he, rfl⟩
        rw [t3i_lit HER.out] at he
        subst he
        rcases h34 with rfl | rfl
        ·go_wp2_with fail
         go_ret3
         exact numsgot_none HE.out rfl hbel
        ·go_wp2_with fail
         go_ret3
         exact numsgot_none HE.out rfl hbel
      ·rw [List.length_drop] at hn2
       have HX : Hid (tnum (l.drop p) = (x, n, 0)) := htx
       have HS : Hid (∀ j q (b : List Nat) a, b.drop q = l.drop p → Wm.tnums (j + 1) b q a = Wm.tnums j b (q + n) (a ++ [x])) := hst
       have HN1 : Hid (1 ≤ n) := hn1
       have HN2 : Hid (p + n ≤ l.length) := by show _ ≤ _; omega
       have hpn : (p : Int) + (n : Int) ≤ 140737488355328 := by omega
       have hcp : ¬ c0 = p := by omega
       clear hst htx hn1 hn2 hx62 hp hkp hk
       go_wp2_with fail
       refine (takenum_walk (HVr.out.cutFrom p HPN.out hcp)).mono ?_
       rintro e w3 ⟨he, rfl⟩
       rw [t3i_lit HX.out] at he
       subst he
       have HBD : Hid ((k + 1) * 8 ≤ 140737488355328) := by show _ ≤ _; have := HKP.out; have := HN1.out; have := HN2.out; have := HSZ.out; omega
       go_wp2_with (at_builtin; refine wpList_append_sv (by rfl) (.tmp 47) (.tmp 49) 139 (by rfl) w1.heap.size 3 .i64 8 Tryz.underlying139 info_i64 _ _ _ (by rfl) (hown.alloc _) _ [_] (by rfl) (sv_one .i64 _ _ _) (by have := HBD.out; simp [maxLen]; omega) (by have := HBD.out; simp; omega) (by simp; omega) ?_; intro v' w4 hown' hgrow)
       have R := tnrel_step .i64 HKC.out HN2.out HKP.out HN1.out HA.out HTN.out HS.out hbel hH _ hown hown' hgrow
       clear hown' hgrow
       go_wp2
       go_roundw
       case rel => exact R
       case measure => simp [intOf]; omega
     ·obtain rfl : k = c := by omega
      have HO := hidH hown
      clear hown
      go_wp2_with fail
      go_ret3
      exact numsgot_some (by rw [← HTN.out, Nat.sub_self, Wm.tnums]) HO.out hbel rfl
end
end Go.Proofs.YtofkhgokfdpdiabGreat
