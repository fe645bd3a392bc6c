/- Roots as bytes: what is written, what is read; the blocks of a table; the lowest free block; what is wrong with a list. Nothing of the program is said here. -/
import Derived.Test.YtofkhgokfdpdiaaGreatB09
import Derived.Test.YtofkhgokfdpdiaaGreatB08
import Derived.Test.YtofkhgokfdpdiaaGreatB11
import Derived.Deep.RegionHeld3
import Derived.Deep.QuietTactic
import Derived.BigQuiet
import Derived.Test.YtofkhgokfdpdiaaGreatB10
import Derived.Test.YtofkhgokfdpdiaaGreatB01
set_option maxRecDepth 100000
set_option maxHeartbeats 16000000
namespace Go.Proofs.YtofkhgokfdpdiaaGreat
section
open Ieee Go.RowKit

theorem eq_valX (n : Nat) (v u : Vl) (h : v ≠ u) (w : World) : (Op.equalIn (n + 1 + 1) 53 (.agg #[.bool v.h, .int .u64 v.b]) (.agg #[.bool u.h, .int .u64 u.b])).run Tryz.prog w = .ok false w := by
 have u0 := Tryz.underlying4
 have u1 := Tryz.underlying37
 have a0 := Tryz.isAgg4
 have a1 := Tryz.isAgg37
 have z0 := Tryz.sizeOf4
 have z1 := Tryz.sizeOf37
 have hS : Tryz.prog.underlying 53 = some (.struct (Tryz.prog.fieldsOf 53)) := by kernel_rfl
 have hp : Tryz.prog.stoodInHeld 53 = false := by kernel_rfl
 rw [run_equalIn_agg w (n + 1) 53 _ _ hS hp]
 simp only [Program.fieldsOf, Tryz.underlying53]
 obtain ⟨vh, vb⟩ := v
 obtain ⟨uh, ub⟩ := u
 by_cases h1 : vh = uh
 ·subst h1
  have h2 : vb ≠ ub := fun e => h (by rw [e])
  have h3 : ((vb : Int) == (ub : Int)) = false := by rw [beq_eq_false_iff_ne]; omega
  go_simp
 ·have h3 : (vh == uh) = false := by rw [beq_eq_false_iff_ne]; exact h1
  go_simp
theorem eq_cellX (c d : Cl) (h : c ≠ d) (w : World) : (Op.equalIn 10000 134 (.agg #[.int .u64 c.k, .bool c.p.h, .int .u64 c.p.b, .bool c.c.h, .int .u64 c.c.b, .int .i64 c.n]) (.agg #[.int .u64 d.k, .bool d.p.h, .int .u64 d.p.b, .bool d.c.h, .int .u64 d.c.b, .int .i64 d.n])).run Tryz.prog w = .ok false w := by
 have u1 := Tryz.underlying37
 have u3 := Tryz.underlying3
 have a1 := Tryz.isAgg37
 have a2 := Tryz.isAgg53
 have a3 := Tryz.isAgg3
 have z1 := Tryz.sizeOf37
 have z2 := Tryz.sizeOf53
 have z3 := Tryz.sizeOf3
 have hS : Tryz.prog.underlying 134 = some (.struct (Tryz.prog.fieldsOf 134)) := by kernel_rfl
 have hp : Tryz.prog.stoodInHeld 134 = false := by kernel_rfl
 rw [show (10000 : Nat) = 9999 + 1 from rfl, run_equalIn_agg w 9999 134 _ _ hS hp]
 simp only [Program.fieldsOf, Tryz.underlying134]
 obtain ⟨ck, cp, cc, cn⟩ := c
 obtain ⟨dk, dp, dc, dn⟩ := d
 by_cases h1 : ck = dk
 ·subst h1
  by_cases h2 : cp = dp
  ·subst h2
   have hv : ∀ w, (Op.equalIn 9999 53 (.agg #[.bool cp.h, .int .u64 cp.b]) (.agg #[.bool cp.h, .int .u64 cp.b])).run Tryz.prog w = .ok true w := eq_valN 9997 cp
   by_cases h3 : cc = dc
   ·subst h3
    have hu : ∀ w, (Op.equalIn 9999 53 (.agg #[.bool cc.h, .int .u64 cc.b]) (.agg #[.bool cc.h, .int .u64 cc.b])).run Tryz.prog w = .ok true w := eq_valN 9997 cc
    have h4 : cn ≠ dn := fun e => h (by rw [e])
    have h5 : (cn == dn) = false := by rw [beq_eq_false_iff_ne]; exact h4
    go_simp
   ·have hu : ∀ w, (Op.equalIn 9999 53 (.agg #[.bool cc.h, .int .u64 cc.b]) (.agg #[.bool dc.h, .int .u64 dc.b])).run Tryz.prog w = .ok false w := eq_valX 9997 cc dc h3
    go_simp
  ·have hv : ∀ w, (Op.equalIn 9999 53 (.agg #[.bool cp.h, .int .u64 cp.b]) (.agg #[.bool dp.h, .int .u64 dp.b])).run Tryz.prog w = .ok false w := eq_valX 9997 cp dp h2
   go_simp
 ·have h5 : ((ck : Int) == (dk : Int)) = false := by rw [beq_eq_false_iff_ne]; omega
  go_simp
theorem neq_cellX (c d : Cl) (h : c ≠ d) (w : World) : (binOp .neq 134 (.agg #[.int .u64 c.k, .bool c.p.h, .int .u64 c.p.b, .bool c.c.h, .int .u64 c.c.b, .int .i64 c.n]) (.agg #[.int .u64 d.k, .bool d.p.h, .int .u64 d.p.b, .bool d.c.h, .int .u64 d.c.b, .int .i64 d.n])).run Tryz.prog w = .ok (.bool true) w := by
 rw [run_neq_struct, eq_cellX c d h]; rfl
theorem neq_valX (v u : Vl) (h : v ≠ u) (w : World) : (binOp .neq 53 (.agg #[.bool v.h, .int .u64 v.b]) (.agg #[.bool u.h, .int .u64 u.b])).run Tryz.prog w = .ok (.bool true) w := by
 rw [run_neq_struct, show (10000 : Nat) = 9998 + 1 + 1 from rfl, eq_valX 9998 v u h]; rfl
def EqGot {α : Type} (l m : List α) (w : World) (e : Ending) (w' : World) : Prop := (∃ t, e = .returned (.bool t) ∧ (t = true ↔ l = m)) ∧ Below w.heap.size w w'
theorem eqgot_no {α : Type} {l m : List α} {w w' : World} (h : l ≠ m) (hb : Below w.heap.size w w') : EqGot l m w (.returned (.bool false)) w' := ⟨⟨false, rfl, by simp; exact h⟩, hb⟩
theorem eqgot_yes {α : Type} {l m : List α} {w w' : World} (h : l = m) (hb : Below w.heap.size w w') : EqGot l m w (.returned (.bool true)) w' := ⟨⟨true, rfl, by simp; exact h⟩, hb⟩
theorem sequal_walk {w : World} {u v : Value} {l m : List Cl} (hu : Cv w u l) (hv : Cv w v m) :
  Calls Tryz.prog 173 #[u, v] w (EqGot l m w) := by
 have HU : Hid (Cv w u l) := hu
 have HV : Hid (Cv w v m) := hv
 obtain ⟨ua, uc, rfl⟩ := hu.form
 obtain ⟨va, vc, rfl⟩ := hv.form
 have hlm := hu.len_le
 unfold maxLen at hlm
 clear hu hv
 by_cases hln : l.length = m.length
 rotate_left
 ·have hb : ((l.length : Int) != (m.length : Int)) = true := by rw [bne_iff_ne]; omega
  have HNE : Hid (l ≠ m) := fun e => hln (by rw [e])
  clear hln hlm
  generalize l.length = n at hb
  generalize m.length = q at hb
  go_in
  go_wp2_with fail
  go_ret
  exact eqgot_no HNE.out (Below.refl _ _)
 ·rw [← hln] at HV ⊢
  obtain ⟨n, hn⟩ : ∃ n, n = l.length := ⟨_, rfl⟩
  rw [← hn] at HU HV ⊢
  have HN : Hid (n = l.length) := hn
  have HM : Hid (n = m.length) := hn.trans hln
  have hni : (n : Int) ≤ 9223372036854775807 := by omega
  have hb : ((n : Int) != (n : Int)) = false := by simp
  clear hn hln hlm
  go_in
  go_wp2_with fail
  go_loopw [13] (fun iv wr => ∃ i : Nat, iv = .int .i64 i ∧ i ≤ n ∧ (∀ j, (h1 : j < l.length) → (h2 : j < m.length) → j < i → l[j] = m[j]) ∧ Below w.heap.size w wr) (fun iv _ => n - (intOf iv).toNat)
  case atStart => exact ⟨0, rfl, by omega, fun j _ _ h => by omega, Below.refl _ _⟩
  case round =>
   obtain ⟨i, rfl, hi, hall, hB⟩ := hrel
   have HA := hidH hall
   have HB : Hid (Below w.heap.size w wr) := hB
   clear hall hB
   by_cases hlt : i < n
   ·have hlti : (i : Int) < (n : Int) := by omega
    have hltd : decide (i < n) = true := decide_eq_true hlt
    have h1 : i < l.length := by have := HN.out; omega
    have h2 : i < m.length := by have := HM.out; omega
    rcases cv_cases (HU.out.below HB.out) with ⟨h0, _⟩ | ⟨b1, o1, c1, e1, _, _, _, k1⟩
    ·rw [h0] at h1; simp at h1
    rcases cv_cases (HV.out.below HB.out) with ⟨h0, _⟩ | ⟨b2, o2, c2, e2, _, _, _, k2⟩
    ·rw [h0] at h2; simp at h2
    simp only [Value.slice.injEq] at e1 e2
    have e11 := e1.1
    have e21 := e2.1
    clear e1 e2
    subst e11 e21
    obtain ⟨x0, x1, x2, x3, x4, x5⟩ := k1 i h1
    obtain ⟨y0, y1, y2, y3, y4, y5⟩ := k2 i h2
    obtain ⟨c, hc⟩ : ∃ c, c = l[i] := ⟨_, rfl⟩
    obtain ⟨d, hd⟩ : ∃ d, d = m[i] := ⟨_, rfl⟩
    rw [← hc] at x0 x1 x2 x3 x4 x5
    rw [← hd] at y0 y1 y2 y3 y4 y5
    have X0 : ∀ q, (wr.drewN q).cell? ⟨b1, o1 + i * 6, none⟩ = some (.int .u64 c.k) := fun _ => x0
    have X1 : ∀ q, (wr.drewN q).cell? ⟨b1, o1 + i * 6 + 1, none⟩ = some (.bool c.p.h) := fun _ => x1
    have X2 : ∀ q, (wr.drewN q).cell? ⟨b1, o1 + i * 6 + 2, none⟩ = some (.int .u64 c.p.b) := fun _ => x2
    have X3 : ∀ q, (wr.drewN q).cell? ⟨b1, o1 + i * 6 + 3, none⟩ = some (.bool c.c.h) := fun _ => x3
    have X4 : ∀ q, (wr.drewN q).cell? ⟨b1, o1 + i * 6 + 4, none⟩ = some (.int .u64 c.c.b) := fun _ => x4
    have X5 : ∀ q, (wr.drewN q).cell? ⟨b1, o1 + i * 6 + 5, none⟩ = some (.int .i64 c.n) := fun _ => x5
    have Y0 : ∀ q, (wr.drewN q).cell? ⟨b2, o2 + i * 6, none⟩ = some (.int .u64 d.k) := fun _ => y0
    have Y1 : ∀ q, (wr.drewN q).cell? ⟨b2, o2 + i * 6 + 1, none⟩ = some (.bool d.p.h) := fun _ => y1
    have Y2 : ∀ q, (wr.drewN q).cell? ⟨b2, o2 + i * 6 + 2, none⟩ = some (.int .u64 d.p.b) := fun _ => y2
    have Y3 : ∀ q, (wr.drewN q).cell? ⟨b2, o2 + i * 6 + 3, none⟩ = some (.bool d.c.h) := fun _ => y3
    have Y4 : ∀ q, (wr.drewN q).cell? ⟨b2, o2 + i * 6 + 4, none⟩ = some (.int .u64 d.c.b) := fun _ => y4
    have Y5 : ∀ q, (wr.drewN q).cell? ⟨b2, o2 + i * 6 + 5, none⟩ = some (.int .i64 d.n) := fun _ => y5
    have HCD : Hid (c = l[i] ∧ d = m[i]) := ⟨hc, hd⟩
    have hg := guard_cell
    clear k1 k2 x0 x1 x2 x3 x4 x5 y0 y1 y2 y3 y4 y5 hc hd
    by_cases hcd : c = d
    ·have HNX : Hid (∀ j, (h1 : j < l.length) → (h2 : j < m.length) → j < i + 1 → l[j] = m[j]) := fun j k1 k2 hj => by
      rcases Nat.lt_or_ge j i with q | q
      ·exact HA.out j k1 k2 q
      ·obtain rfl : j = i := by omega
       rw [← HCD.out.1, ← HCD.out.2]; exact hcd
     subst hcd
     have hq := neq_cell c
     go_wp2_with fail
     go_quiet (fail)
     have HB9 : Hid (Below w.heap.size w (wr.drewN nq)) := below_trans HB.out (below_drewN _ _)
     go_wp2_with fail
     go_roundw
     case rel => exact ⟨i + 1, by go_num, hlt, HNX.out, HB9.out⟩
     case measure => simp [intOf]; omega
    ·have hq := neq_cellX c d hcd
     have HNE : Hid (l ≠ m) := fun e => by
      subst e
      exact hcd (HCD.out.1.trans HCD.out.2.symm)
     clear hcd
     go_wp2_with fail
     go_quiet (fail)
     have HB9 : Hid (Below w.heap.size w (wr.drewN nq)) := below_trans HB.out (below_drewN _ _)
     go_wp2_with fail
     go_ret
     exact eqgot_no HNE.out HB9.out
   ·have hlti : ¬ (i : Int) < (n : Int) := by omega
    have HE : Hid (l = m) := List.ext_getElem (by rw [← HN.out, ← HM.out]) (fun j k1 k2 => HA.out j k1 k2 (by have := HN.out; omega))
    go_wp2_with fail
    go_ret
    exact eqgot_yes HE.out HB.out
theorem kequal_walk {w : World} {u v : Value} {l m : List Nat} (hu : Kv w u l) (hv : Kv w v m) :
  Calls Tryz.prog 86 #[u, v] w (EqGot l m w) := by
 have HU : Hid (Kv w u l) := hu
 have HV : Hid (Kv w v m) := hv
 obtain ⟨ua, uc, rfl, hlm1, hlm2⟩ := kv_form hu
 obtain ⟨va, vc, rfl, _, _⟩ := kv_form hv
 have hlm : l.length ≤ maxLen := Nat.le_trans hlm1 hlm2
 clear hlm1 hlm2
 unfold maxLen at hlm
 clear hu hv
 by_cases hln : l.length = m.length
 rotate_left
 ·have hb : ((l.length : Int) != (m.length : Int)) = true := by rw [bne_iff_ne]; omega
  have HNE : Hid (l ≠ m) := fun e => hln (by rw [e])
  clear hln hlm
  generalize l.length = n at hb
  generalize m.length = q at hb
  go_in
  go_wp2_with fail
  go_ret
  exact eqgot_no HNE.out (Below.refl _ _)
 ·rw [← hln] at HV ⊢
  obtain ⟨n, hn⟩ : ∃ n, n = l.length := ⟨_, rfl⟩
  rw [← hn] at HU HV ⊢
  have HN : Hid (n = l.length) := hn
  have HM : Hid (n = m.length) := hn.trans hln
  have hni : (n : Int) ≤ 9223372036854775807 := by omega
  have hb : ((n : Int) != (n : Int)) = false := by simp
  clear hn hln hlm
  go_in
  go_wp2_with fail
  go_loopw [13] (fun iv wr => ∃ i : Nat, iv = .int .i64 i ∧ i ≤ n ∧ (∀ j, (h1 : j < l.length) → (h2 : j < m.length) → j < i → l[j] = m[j]) ∧ Below w.heap.size w wr) (fun iv _ => n - (intOf iv).toNat)
  case atStart => exact ⟨0, rfl, by omega, fun j _ _ h => by omega, Below.refl _ _⟩
  case round =>
   obtain ⟨i, rfl, hi, hall, hB⟩ := hrel
   have HA := hidH hall
   have HB : Hid (Below w.heap.size w wr) := hB
   clear hall hB
   by_cases hlt : i < n
   ·have hlti : (i : Int) < (n : Int) := by omega
    have hltd : decide (i < n) = true := decide_eq_true hlt
    have h1 : i < l.length := by have := HN.out; omega
    have h2 : i < m.length := by have := HM.out; omega
    rcases kv_cases (HU.out.below HB.out) with ⟨h0, _⟩ | ⟨b1, o1, c1, e1, _, _, _, k1⟩
    ·rw [h0] at h1; simp at h1
    rcases kv_cases (HV.out.below HB.out) with ⟨h0, _⟩ | ⟨b2, o2, c2, e2, _, _, _, k2⟩
    ·rw [h0] at h2; simp at h2
    simp only [Value.slice.injEq] at e1 e2
    have e11 := e1.1
    have e21 := e2.1
    clear e1 e2
    subst e11 e21
    have x0 := k1 i h1
    have y0 := k2 i h2
    obtain ⟨c, hc⟩ : ∃ c, c = l[i] := ⟨_, rfl⟩
    obtain ⟨d, hd⟩ : ∃ d, d = m[i] := ⟨_, rfl⟩
    rw [← hc] at x0
    rw [← hd] at y0
    have X0 : ∀ q, (wr.drewN q).cell? ⟨b1, o1 + i, none⟩ = some (.int .u64 (c : Nat)) := fun _ => x0
    have Y0 : ∀ q, (wr.drewN q).cell? ⟨b2, o2 + i, none⟩ = some (.int .u64 (d : Nat)) := fun _ => y0
    have HCD : Hid (c = l[i] ∧ d = m[i]) := ⟨hc, hd⟩
    clear k1 k2 x0 y0 hc hd
    by_cases hcd : c = d
    ·have HNX : Hid (∀ j, (h1 : j < l.length) → (h2 : j < m.length) → j < i + 1 → l[j] = m[j]) := fun j k1 k2 hj => by
      rcases Nat.lt_or_ge j i with q | q
      ·exact HA.out j k1 k2 q
      ·obtain rfl : j = i := by omega
       rw [← HCD.out.1, ← HCD.out.2]; exact hcd
     subst hcd
     have hq : ((c : Int) != (c : Int)) = false := by simp
     go_wp2_with fail
     go_quiet (fail)
     have HB9 : Hid (Below w.heap.size w (wr.drewN nq)) := below_trans HB.out (below_drewN _ _)
     go_wp2_with fail
     go_roundw
     case rel => exact ⟨i + 1, by go_num, hlt, HNX.out, HB9.out⟩
     case measure => simp [intOf]; omega
    ·have hq : ((c : Int) != (d : Int)) = true := by rw [bne_iff_ne]; omega
     have HNE : Hid (l ≠ m) := fun e => by
      subst e
      exact hcd (HCD.out.1.trans HCD.out.2.symm)
     clear hcd
     go_wp2_with fail
     go_quiet (fail)
     have HB9 : Hid (Below w.heap.size w (wr.drewN nq)) := below_trans HB.out (below_drewN _ _)
     go_wp2_with fail
     go_ret
     exact eqgot_no HNE.out HB9.out
   ·have hlti : ¬ (i : Int) < (n : Int) := by omega
    have HE : Hid (l = m) := List.ext_getElem (by rw [← HN.out, ← HM.out]) (fun j k1 k2 => HA.out j k1 k2 (by have := HN.out; omega))
    go_wp2_with fail
    go_ret
    exact eqgot_yes HE.out HB.out
end
section
open Go.RowKit
end
section
open Go.RowKit
end
section
open Go.RowKit
end
section
open Go.RowKit
end
section
def rootB (g : Nat) (t : List Nat) : List Nat := Wm.enc g ++ (Wm.enc t.length ++ Wm.encAll t)
def tn (t : List Nat) (i : Nat) : Nat := t.getD i 0
theorem tn_at {t : List Nat} {i : Nat} (h : i < t.length) : tn t i = t[i] := by unfold tn; rw [List.getD_eq_getElem?_getD, List.getElem?_eq_getElem h]; rfl
theorem tn_mem {t : List Nat} {i : Nat} (h : i < t.length) : tn t i ∈ t := by rw [tn_at h]; exact List.getElem_mem h
theorem tn_set {t : List Nat} {i j x : Nat} (hj : j < t.length) : tn (t.set i x) j = if i = j then x else tn t j := by
 rw [tn_at (by simpa using hj), List.getElem_set, tn_at hj]
def Cok (t : List Nat) (B i : Nat) : Prop := tn t i = 0 ∨ (2 ≤ tn t i ∧ tn t i < B ∧ ¬ tn t i ∈ t.take i)
def cellB (t : List Nat) (B i : Nat) : Bool := decide (tn t i = 0 ∨ (2 ≤ tn t i ∧ tn t i < B ∧ ¬ tn t i ∈ t.take i))
def Tok (t : List Nat) (B : Nat) : Prop := 1 ≤ t.length ∧ 2 + 2 * t.length ≤ B ∧ ∀ i, i < t.length → Cok t B i
def tabBP (t : List Nat) (B : Nat) : Bool := decide (1 ≤ t.length) && decide (2 + 2 * t.length ≤ B) && (List.range t.length).all (cellB t B)
theorem tab_yes {t : List Nat} {B : Nat} (h : Tok t B) : tabBP t B = true := by
 obtain ⟨h1, h2, h3⟩ := h
 unfold tabBP
 rw [decide_eq_true h1, decide_eq_true h2, Bool.and_self, Bool.true_and, List.all_eq_true]
 intro i hi
 exact decide_eq_true (h3 i (List.mem_range.1 hi))
def rootOf (b : List Nat) (B : Nat) : Option (Nat × List Nat) :=
 match Wm.take b with
 | (g, p, 0) => if 1 ≤ g ∧ g ≤ 1099511627776 then
   match Wm.takeNums (b.drop p) 8 with
   | (t, n, 0) => if p + n = b.length ∧ tabBP t B = true then some (g, t) else none
   | _ => none
  else none
 | _ => none
theorem root_some {b t : List Nat} {B g p n : Nat} (h : Wm.take b = (g, p, 0)) (h1 : 1 ≤ g) (h2 : g ≤ 1099511627776) (hn : Wm.takeNums (b.drop p) 8 = (t, n, 0)) (hl : p + n = b.length) (ht : tabBP t B = true) : rootOf b B = some (g, t) := by
 unfold rootOf; rw [h]; simp only; rw [if_pos ⟨h1, h2⟩, hn]; simp only; rw [if_pos ⟨hl, ht⟩]
theorem tnums_encAll (xs : List Nat) : ∀ (pre acc : List Nat), (∀ x ∈ xs, x ≤ 4611686018427387904) →
  Wm.tnums xs.length (pre ++ Wm.encAll xs) pre.length acc = (acc ++ xs, pre.length + (Wm.encAll xs).length, 0) := by
 induction xs with
 | nil => intro pre acc _; simp [Wm.tnums, Wm.encAll]
 | cons x xs ih =>
  intro pre acc hx
  have hd : (pre ++ Wm.encAll (x :: xs)).drop pre.length = Wm.enc x ++ Wm.encAll xs := by simp [Wm.encAll]
  have hx0 := hx x (by simp)
  have ht := Wm.take_enc x (Wm.encAll xs) (by omega)
  rw [List.length_cons, Wm.tnums, hd, ht]
  simp only
  rw [if_neg (by omega)]
  have e1 : pre ++ Wm.enc x ++ Wm.encAll xs = pre ++ Wm.encAll (x :: xs) := by simp [Wm.encAll]
  have := ih (pre ++ Wm.enc x) (acc ++ [x]) (fun y hy => hx y (by simp [hy]))
  rw [e1] at this
  rw [List.length_append] at this
  rw [this]
  simp [Wm.encAll, Nat.add_assoc]
theorem nums_back {t : List Nat} (h8 : t.length ≤ 8) (hx : ∀ x ∈ t, x ≤ 4611686018427387904) : Wm.takeNums (Wm.enc t.length ++ Wm.encAll t) 8 = (t, (Wm.enc t.length ++ Wm.encAll t).length, 0) := by
 have ht := Wm.take_enc t.length (Wm.encAll t) (by omega)
 unfold Wm.takeNums
 rw [ht]
 simp only
 rw [if_neg (by omega), tnums_encAll t (Wm.enc t.length) [] hx]
 simp
theorem root_back {g : Nat} {t : List Nat} {B : Nat} (h1 : 1 ≤ g) (h2 : g ≤ 1099511627776) (h8 : t.length ≤ 8) (hB : B ≤ 64) (ht : Tok t B) : rootOf (rootB g t) B = some (g, t) := by
 have hx : ∀ x ∈ t, x ≤ 4611686018427387904 := by
  intro x hx
  obtain ⟨i, hi, rfl⟩ := List.getElem_of_mem hx
  rcases ht.2.2 i hi with h | ⟨_, h, _⟩
  ·rw [tn_at hi] at h; omega
  ·rw [tn_at hi] at h; omega
 have hd : (rootB g t).drop (Wm.enc g).length = Wm.enc t.length ++ Wm.encAll t := by simp [rootB]
 refine root_some (n := (Wm.enc t.length ++ Wm.encAll t).length) (Wm.take_enc g _ (by omega)) h1 h2 (by rw [hd]; exact nums_back h8 hx) ?_ (tab_yes ht)
 simp [rootB]
theorem tok_lt {t : List Nat} {B : Nat} (h : Tok t B) : ∀ x ∈ t, x < B := by
 intro x hx
 obtain ⟨i, hi, rfl⟩ := List.getElem_of_mem hx
 have := h.2.1
 rcases h.2.2 i hi with h | ⟨_, h, _⟩
 ·rw [tn_at hi] at h; omega
 ·rw [tn_at hi] at h; exact h
def nextG (t : List Nat) : Nat → Nat → Nat
 | 0, x => x
 | f + 1, x => if x ∈ t then nextG t f (x + 1) else x
def nextF (t : List Nat) (b : Nat) : Nat := nextG t 64 (b + 1)
theorem nextG_out {t : List Nat} : ∀ (f x : Nat), (∀ y ∈ t, y < x + f) → nextG t f x ∉ t := by
 intro f
 induction f with
 | zero => intro x h hm; have := h x hm; omega
 | succ f ih =>
  intro x h
  unfold nextG
  split
  ·exact ih (x + 1) (fun y hy => by have := h y hy; omega)
  ·assumption
theorem nextG_ge {t : List Nat} : ∀ (f x : Nat), x ≤ nextG t f x := by
 intro f
 induction f with
 | zero => intro x; exact Nat.le_refl _
 | succ f ih =>
  intro x
  unfold nextG
  split
  ·have := ih (x + 1); omega
  ·exact Nat.le_refl _
theorem nextG_mid {t : List Nat} : ∀ (f x y : Nat), x ≤ y → y < nextG t f x → y ∈ t := by
 intro f
 induction f with
 | zero => intro x y h1 h2; unfold nextG at h2; omega
 | succ f ih =>
  intro x y h1 h2
  unfold nextG at h2
  split at h2
  ·rename_i hx
   by_cases e : y = x
   ·rw [e]; exact hx
   ·exact ih (x + 1) y (by omega) h2
  ·omega
section

variable {t : List Nat} {b r : Nat}

theorem next_out (h : ∀ y ∈ t, y < 64) : nextF t b ∉ t := nextG_out 64 (b + 1) (fun y hy => by have := h y hy; omega)
theorem next_gt : b < nextF t b := nextG_ge 64 (b + 1)
theorem next_mid {y : Nat} (h1 : b < y) (h2 : y < nextF t b) : y ∈ t := nextG_mid 64 (b + 1) y h1 h2
theorem next_is (h : ∀ y ∈ t, y < 64) (h1 : b < r) (h2 : r ∉ t) (h3 : ∀ y, b < y → y < r → y ∈ t) : nextF t b = r := by
 have a1 := next_gt (t := t) (b := b)
 rcases Nat.lt_trichotomy (nextF t b) r with e | e | e
 ·exact absurd (h3 _ a1 e) (next_out h)
 ·exact e
 ·exact absurd (next_mid h1 e) h2
end

theorem len_sub : ∀ (t l : List Nat), l.Nodup → (∀ y ∈ l, y ∈ t) → l.length ≤ t.length := by
 intro t
 induction t with
 | nil =>
  intro l _ h
  cases l with
  | nil => exact Nat.le_refl _
  | cons a l => exact absurd (h a (by simp)) (by simp)
 | cons a t ih =>
  intro l hn h
  have h1 : (l.erase a).length ≤ t.length := by
   refine ih _ (hn.erase a) (fun y hy => ?_)
   have hy2 := (List.Nodup.mem_erase_iff hn).1 hy
   have := h y hy2.2
   simp only [List.mem_cons] at this
   rcases this with e | e
   ·exact absurd e hy2.1
   ·exact e
  by_cases ha : a ∈ l
  ·rw [List.length_erase_of_mem ha] at h1
   simp only [List.length_cons]; omega
  ·rw [List.erase_of_not_mem ha] at h1
   simp only [List.length_cons]; omega
theorem free_bound {t tk : List Nat} {b : Nat} (h : ∀ y, 2 ≤ y → y ≤ b → y ∈ t ∨ y ∈ tk) : nextF t b ≤ 2 + t.length + tk.length := by
 have hs := len_sub (t ++ tk) (List.range' 2 (nextF t b - 2)) List.nodup_range' (fun y hy => by
  rw [List.mem_range'_1] at hy
  rw [List.mem_append]
  by_cases e : y ≤ b
  ·exact h y hy.1 e
  ·exact .inl (next_mid (t := t) (b := b) (y := y) (by omega) (by omega)))
 rw [List.length_range', List.length_append] at hs
 omega
def faultF (n : Nat) : List Int → List (Int × List Nat) → Int
 | _, [] => 0
 | pre, (p, d) :: l => if p < 0 ∨ (n : Int) ≤ p then 91 else if p ∈ pre then 93 else if 1024 < d.length then 6 else faultF n (pre ++ [p]) l
def faultI (n : Nat) (ps : List (Int × List Nat)) : Int := faultF n [] ps
structure Lok (n : Nat) (ps : List (Int × List Nat)) : Prop where
 pg : ∀ p ∈ ps, 0 ≤ p.1 ∧ p.1 < (n : Int)
 nd : (ps.map (·.1)).Nodup
 ln : ∀ p ∈ ps, p.2.length ≤ 1024
theorem fault_ok {n : Nat} : ∀ (ps : List (Int × List Nat)) (pre : List Int), faultF n pre ps = 0 → Lok n ps ∧ ∀ p ∈ ps, p.1 ∉ pre := by
 intro ps
 induction ps with
 | nil => intro pre _; exact ⟨⟨fun p hp => by simp at hp, by simp, fun p hp => by simp at hp⟩, fun p hp => by simp at hp⟩
 | cons a l ih =>
  obtain ⟨p, d⟩ := a
  intro pre h
  unfold faultF at h
  split at h
  ·omega
  ·rename_i h1
   split at h
   ·omega
   ·rename_i h2
    split at h
    ·omega
    ·rename_i h3
     obtain ⟨hl, hp⟩ := ih _ h
     refine ⟨⟨fun q hq => ?_, ?_, fun q hq => ?_⟩, fun q hq => ?_⟩
     ·rcases List.mem_cons.1 hq with rfl | hq
      ·exact ⟨by omega, by omega⟩
      ·exact hl.pg q hq
     ·rw [List.map_cons, List.nodup_cons]
      refine ⟨fun hm => ?_, hl.nd⟩
      obtain ⟨q, hq, e⟩ := List.mem_map.1 hm
      exact hp q hq (by rw [e]; simp)
     ·rcases List.mem_cons.1 hq with rfl | hq
      ·simpa using h3
      ·exact hl.ln q hq
     ·rcases List.mem_cons.1 hq with rfl | hq
      ·exact h2
      ·exact fun hm => hp q hq (List.mem_append_left _ hm)
theorem fault_of {n : Nat} : ∀ (ps : List (Int × List Nat)) (pre : List Int), Lok n ps → (∀ p ∈ ps, p.1 ∉ pre) → faultF n pre ps = 0 := by
 intro ps
 induction ps with
 | nil => intro pre _ _; rfl
 | cons a l ih =>
  obtain ⟨p, d⟩ := a
  intro pre h hp
  have h1 := h.pg (p, d) (by simp)
  have h2 := h.ln (p, d) (by simp)
  have h3 := h.nd
  rw [List.map_cons, List.nodup_cons] at h3
  simp only at h1 h2
  unfold faultF
  rw [if_neg (by omega), if_neg (hp (p, d) (by simp)), if_neg (by omega)]
  refine ih _ ⟨fun q hq => h.pg q (by simp [hq]), h3.2, fun q hq => h.ln q (by simp [hq])⟩ (fun q hq hm => ?_)
  rcases List.mem_append.1 hm with e | e
  ·exact hp q (by simp [hq]) e
  ·simp only [List.mem_singleton] at e
   exact h3.1 (List.mem_map.2 ⟨q, hq, e⟩)
theorem lok_len {n : Nat} {ps : List (Int × List Nat)} (h : Lok n ps) : ps.length ≤ n := by
 have h1 := len_sub (List.range n) (ps.map (·.1.toNat)) ?_ (fun y hy => ?_)
 ·simpa using h1
 ·have : ∀ (l : List (Int × List Nat)), (∀ p ∈ l, 0 ≤ p.1) → (l.map (·.1)).Nodup → (l.map (·.1.toNat)).Nodup := by
   intro l
   induction l with
   | nil => intro _ _; simp
   | cons a l ih =>
    intro hp hn
    rw [List.map_cons, List.nodup_cons] at hn ⊢
    refine ⟨fun hm => ?_, ih (fun p hp' => hp p (by simp [hp'])) hn.2⟩
    obtain ⟨q, hq, e⟩ := List.mem_map.1 hm
    have e1 := hp q (by simp [hq])
    have e2 := hp a (by simp)
    exact hn.1 (List.mem_map.2 ⟨q, hq, by omega⟩)
  exact this ps (fun p hp => (h.pg p hp).1) h.nd
 ·obtain ⟨q, hq, rfl⟩ := List.mem_map.1 hy
  have := h.pg q hq
  exact List.mem_range.2 (by omega)
theorem encAll_lenP (l : List Nat) : (Wm.encAll l).length ≤ 10 * l.length := by
 induction l with
 | nil => simp [Wm.encAll]
 | cons x l ih =>
  have := (Wm.enc_len x).2
  simp only [Wm.encAll, List.length_append, List.length_cons]; omega
theorem root_short {g : Nat} {t : List Nat} (h : t.length ≤ 8) : (rootB g t).length ≤ 100 := by
 have h1 := (Wm.enc_len g).2
 have h2 := (Wm.enc_len t.length).2
 have h3 := encAll_lenP t
 unfold rootB
 rw [List.length_append, List.length_append]; omega
theorem encAll_ltP (l : List Nat) (h : ∀ x ∈ l, x < 18446744073709551616) : ∀ c ∈ Wm.encAll l, c < 256 := by
 induction l with
 | nil => simp [Wm.encAll]
 | cons x l ih =>
  intro c hc
  simp only [Wm.encAll, List.mem_append] at hc
  rcases hc with hc | hc
  ·exact Wm.enc_lt x (h x (by simp)) c hc
  ·exact ih (fun y hy => h y (by simp [hy])) c hc
theorem root_bytes {g : Nat} {t : List Nat} (h : t.length ≤ 8) (hg : g < 18446744073709551616) (ht : ∀ x ∈ t, x < 64) : ∀ c ∈ rootB g t, c < 256 := by
 intro c hc
 unfold rootB at hc
 rw [List.mem_append, List.mem_append] at hc
 rcases hc with hc | hc | hc
 ·exact Wm.enc_lt g hg c hc
 ·exact Wm.enc_lt _ (by omega) c hc
 ·exact encAll_ltP t (fun x hx => by have := ht x hx; omega) c hc
end
end Go.Proofs.YtofkhgokfdpdiaaGreat
