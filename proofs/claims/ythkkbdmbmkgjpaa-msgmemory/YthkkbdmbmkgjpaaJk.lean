/- Contracts of repriselaw15's same (for equal messages) and awake. -/
import Derived.Test.YthkkbdmbmkgjpaaJl

import Derived.Lib.SlBytesConst

namespace Go.Proofs.Ythkkbdmbmkgjpaa

open Go.RowKit



theorem eq_val (v : Vl) (w : World) : (Op.equalIn 9999 40 (.agg #[.bool v.h, .int .u64 v.b]) (.agg #[.bool v.h, .int .u64 v.b])).run Try.prog w = .ok true w := by
  have u0 := Try.underlying4
  have u1 := Try.underlying38
  have a0 := Try.isAgg4
  have a1 := Try.isAgg38
  have z0 := Try.sizeOf4
  have z1 := Try.sizeOf38
  have hS : Try.prog.underlying 40 = some (.struct (Try.prog.fieldsOf 40)) := by kernel_rfl
  have hp : Try.prog.stoodInHeld 40 = false := by kernel_rfl
  rw [show (9999 : Nat) = 9998 + 1 from rfl, run_equalIn_agg w 9998 40 _ _ hS hp]
  simp only [Program.fieldsOf, Try.underlying40]
  go_simp


theorem eq_val' (v : Vl) (w : World) : (Op.equalIn 10000 40 (.agg #[.bool v.h, .int .u64 v.b]) (.agg #[.bool v.h, .int .u64 v.b])).run Try.prog w = .ok true w := by
  have u0 := Try.underlying4
  have u1 := Try.underlying38
  have a0 := Try.isAgg4
  have a1 := Try.isAgg38
  have z0 := Try.sizeOf4
  have z1 := Try.sizeOf38
  have hS : Try.prog.underlying 40 = some (.struct (Try.prog.fieldsOf 40)) := by kernel_rfl
  have hp : Try.prog.stoodInHeld 40 = false := by kernel_rfl
  rw [show (10000 : Nat) = 9999 + 1 from rfl, run_equalIn_agg w 9999 40 _ _ hS hp]
  simp only [Program.fieldsOf, Try.underlying40]
  go_simp


theorem eq_pair (p : Pr) (w : World) : (Op.equalIn 10000 42 (.agg #[.int .u64 p.k, .bool p.v.h, .int .u64 p.v.b]) (.agg #[.int .u64 p.k, .bool p.v.h, .int .u64 p.v.b])).run Try.prog w = .ok true w := by
  have u1 := Try.underlying38
  have a1 := Try.isAgg38
  have a2 := Try.isAgg40
  have z1 := Try.sizeOf38
  have z2 := Try.sizeOf40
  have hv := eq_val p.v
  have hS : Try.prog.underlying 42 = some (.struct (Try.prog.fieldsOf 42)) := by kernel_rfl
  have hp : Try.prog.stoodInHeld 42 = false := by kernel_rfl
  rw [show (10000 : Nat) = 9999 + 1 from rfl, run_equalIn_agg w 9999 42 _ _ hS hp]
  simp only [Program.fieldsOf, Try.underlying42]
  go_simp


theorem neq_pair (p : Pr) (w : World) : (binOp .neq 42 (.agg #[.int .u64 p.k, .bool p.v.h, .int .u64 p.v.b]) (.agg #[.int .u64 p.k, .bool p.v.h, .int .u64 p.v.b])).run Try.prog w = .ok (.bool false) w := by
  rw [run_neq_struct, eq_pair]; rfl
theorem guard_pair : Try.prog.eqGuardType Try.prog.depth 42 = false := by kernel_rfl




theorem qv_at' {w : World} {ao : Option Addr} {n cap : Nat} {l : List Pr} (h : Qv w (.slice ao n cap) l) {i : Nat} (hi : i < l.length) : ∃ b off, ao = some ⟨b, off, none⟩ ∧ w.cell? ⟨b, off + i * 3, none⟩ = some (.int .u64 l[i].k) ∧ w.cell? ⟨b, off + i * 3 + 1, none⟩ = some (.bool l[i].v.h) ∧ w.cell? ⟨b, off + i * 3 + 2, none⟩ = some (.int .u64 l[i].v.b) := h.ql i hi
theorem mx_new2 (w : World) (m : Ms) (ev qv pv : Value) (ob : Obj) : MX ((w.alloc ob).alloc (Obj.cells #[.int .i64 m.K, .int .i64 m.F, .int .i64 m.T, .int .i64 m.B, .int .i64 m.A, .int .i64 m.C, ev, qv, pv] 26)) (w.heap.size + 1) m ev qv pv := by
  have h := mx_new (w.alloc ob) m ev qv pv
  rw [size_allocC] at h
  exact h
set_option maxRecDepth 100000 in
set_option maxHeartbeats 4000000 in
theorem same_walk {w : World} {m : Ms} {ev qv pv fv rv sv : Value} (h : ML w m ev qv pv) (h' : ML w m fv rv sv) :
    Calls Try.prog 16 #[.agg #[.int .i64 m.K, .int .i64 m.F, .int .i64 m.T, .int .i64 m.B, .int .i64 m.A, .int .i64 m.C, ev, qv, pv], .agg #[.int .i64 m.K, .int .i64 m.F, .int .i64 m.T, .int .i64 m.B, .int .i64 m.A, .int .i64 m.C, fv, rv, sv]] w fun e w' => e = .returned (.bool true) ∧ Below w.heap.size w w' := by
  have HA : Hid (ML w m ev qv pv) := h
  have HB : Hid (ML w m fv rv sv) := h'
  have HX := (mx_new w m ev qv pv).keep (below_alloc _ (Obj.cells #[.int .i64 m.K, .int .i64 m.F, .int .i64 m.T, .int .i64 m.B, .int .i64 m.A, .int .i64 m.C, fv, rv, sv] 26))
  have HY := mx_new2 w m fv rv sv (Obj.cells #[.int .i64 m.K, .int .i64 m.F, .int .i64 m.T, .int .i64 m.B, .int .i64 m.A, .int .i64 m.C, ev, qv, pv] 26)
  have HW := below_trans (below_alloc w (Obj.cells #[.int .i64 m.K, .int .i64 m.F, .int .i64 m.T, .int .i64 m.B, .int .i64 m.A, .int .i64 m.C, ev, qv, pv] 26)) (below_alloc _ (Obj.cells #[.int .i64 m.K, .int .i64 m.F, .int .i64 m.T, .int .i64 m.B, .int .i64 m.A, .int .i64 m.C, fv, rv, sv] 26))
  obtain ⟨ea, en, ec, rfl, he, hem⟩ := sv_le h.e
  obtain ⟨qa, qn, qc, rfl, hq, hqm⟩ := sv_le h.q
  obtain ⟨pa, pn, pc, rfl, hp, hpm⟩ := qv_le h.p
  obtain ⟨fa, fn, fc, rfl, he', _⟩ := sv_le h'.e
  obtain ⟨ra, rn, rc, rfl, hq', _⟩ := sv_le h'.q
  obtain ⟨sa, sn, sc, rfl, hp', _⟩ := qv_le h'.p
  rw [ib_len] at hq hq' hqm
  obtain rfl : fn = en := by omega
  obtain rfl : rn = qn := by omega
  obtain rfl : sn = pn := by omega
  have HEL : Hid (fn = m.E.length) := he
  have HQL : Hid (rn = m.Q.length) := hq
  have HPL : Hid (sn = m.P.length) := hp
  have hei : (fn : Int) ≤ 9223372036854775807 := by unfold maxLen at hem; omega
  have hqi : (rn : Int) ≤ 9223372036854775807 := by unfold maxLen at hqm; omega
  have hpi : (sn : Int) ≤ 9223372036854775807 := by unfold maxLen at hpm; omega
  have hgd := guard_pair
  replace HX : Hid _ := HX
  replace HY : Hid _ := HY
  replace HW : Hid _ := HW
  clear h h' he he' hq hq' hp hp' hem hqm hpm
  go_enter Try.func16, Try.ntmps16
  go_upto_region 1 with fail
  obtain ⟨P, hP⟩ : ∃ P, P = w.heap.size := ⟨_, rfl⟩
  rw [← hP] at HX HY ⊢
  generalize (w.alloc (Obj.cells #[.int .i64 m.K, .int .i64 m.F, .int .i64 m.T, .int .i64 m.B, .int .i64 m.A, .int .i64 m.C, .slice ea fn ec, .slice qa rn qc, .slice pa sn pc] 26)).alloc (Obj.cells #[.int .i64 m.K, .int .i64 m.F, .int .i64 m.T, .int .i64 m.B, .int .i64 m.A, .int .i64 m.C, .slice fa fn fc, .slice ra rn rc, .slice sa sn sc] 26) = w1 at HX HY HW ⊢
  have HP : Hid (P = w.heap.size) := hP
  clear hP
  have x0 := HX.out.c0
  have y0 := HY.out.c0
  have x1 := HX.out.c1
  have y1 := HY.out.c1
  have x2 := HX.out.c2
  have y2 := HY.out.c2
  have x3 := HX.out.c3
  have y3 := HY.out.c3
  have x4 := HX.out.c4
  have y4 := HY.out.c4
  have x5 := HX.out.c5
  have y5 := HY.out.c5
  have x6 := HX.out.c6
  have y6 := HY.out.c6
  have x7 := HX.out.c7
  have y7 := HY.out.c7
  have x8 := HX.out.c8
  have y8 := HY.out.c8
  have hnK : (m.K != m.K) = false := by simp
  have hnF : (m.F != m.F) = false := by simp
  have hnT : (m.T != m.T) = false := by simp
  have hnB : (m.B != m.B) = false := by simp
  have hnA : (m.A != m.A) = false := by simp
  have hnC : (m.C != m.C) = false := by simp
  have hnE : ((fn : Int) != (fn : Int)) = false := by simp
  have hnQ : ((rn : Int) != (rn : Int)) = false := by simp
  have hnP : ((sn : Int) != (sn : Int)) = false := by simp
  go_upto_region 4 with fail
  clear hnK hnF hnT hnB hnA hnC hnE hnQ hnP x0 y0 x1 y1 x2 y2 x3 y3 x4 y4 x5 y5 x6 y6 x7 y7 x8 y8
  go_loopw [5] (fun iv wr => ∃ i : Nat, iv = .int .i64 i ∧ i ≤ m.E.length ∧ Below w1.heap.size w1 wr) (fun iv _ => m.E.length - (intOf iv).toNat)
  case atStart => exact ⟨0, rfl, Nat.zero_le _, Below.refl _ _⟩
  case round =>
    obtain ⟨i, rfl, hil, hbel⟩ := hrel
    have HR0 : Hid (Below w1.heap.size w1 wr) := hbel
    have HXR : Hid _ := HX.out.keep HR0.out
    have HYR : Hid _ := HY.out.keep HR0.out
    have HWR : Hid (Below w.heap.size w wr) := below_trans HW.out HR0.out
    clear hbel
    have x0 := HXR.out.c6
    have y0 := HYR.out.c6
    by_cases hlt : i < m.E.length
    · have hlti : (i : Int) < (fn : Int) := by have := HEL.out; omega
      obtain ⟨b, off, rfl, c0⟩ := sv_at (HA.out.below HWR.out).e hlt
      obtain ⟨d, doff, rfl, d0⟩ := sv_at (HB.out.below HWR.out).e hlt
      obtain ⟨o, hoe⟩ : ∃ o, o = m.E[i] := ⟨_, rfl⟩
      rw [← hoe] at c0 d0
      have hn : (o != o) = false := by simp
      clear hoe
      go_wp2_with fail
      go_quiet (fail)
      go_wp2_with fail
      go_roundw
      case rel => exact ⟨i + 1, by go_num, hlt, below_trans HR0.out (below_drewN _ _)⟩
      case measure => simp [intOf]; omega
    · have hlti : ¬ (i : Int) < (fn : Int) := by have := HEL.out; omega
      obtain ⟨w2, hwo⟩ : ∃ wo, wo = wr := ⟨_, rfl⟩
      rw [← hwo] at HXR HYR HWR x0 y0 ⊢
      clear hwo HX HY HW HR0
      have HX : Hid _ := HXR.out
      have HY : Hid _ := HYR.out
      have HW : Hid _ := HWR.out
      clear HXR HYR HWR
      go_wp2_with fail
      clear x0 y0 hlti
      go_loopw [6] (fun iv wr => ∃ i : Nat, iv = .int .i64 i ∧ i ≤ m.Q.length ∧ Below w2.heap.size w2 wr) (fun iv _ => m.Q.length - (intOf iv).toNat)
      case atStart => exact ⟨0, rfl, Nat.zero_le _, Below.refl _ _⟩
      case round =>
        obtain ⟨i, rfl, hil, hbel⟩ := hrel
        have HR1 : Hid (Below w2.heap.size w2 wr) := hbel
        have HXR : Hid _ := HX.out.keep HR1.out
        have HYR : Hid _ := HY.out.keep HR1.out
        have HWR : Hid (Below w.heap.size w wr) := below_trans HW.out HR1.out
        clear hbel
        have x0 := HXR.out.c7
        have y0 := HYR.out.c7
        by_cases hlt : i < m.Q.length
        · have hlti : (i : Int) < (rn : Int) := by have := HQL.out; omega
          obtain ⟨b, off, rfl, c0⟩ := sv_at (HA.out.below HWR.out).q (i := i) (by rw [ib_len]; exact hlt)
          obtain ⟨d, doff, rfl, d0⟩ := sv_at (HB.out.below HWR.out).q (i := i) (by rw [ib_len]; exact hlt)
          obtain ⟨o, hoe⟩ : ∃ o, o = (ib m.Q)[i]'(by rw [ib_len]; exact hlt) := ⟨_, rfl⟩
          rw [← hoe] at c0 d0
          have hn : (o != o) = false := by simp
          clear hoe
          go_wp2_with fail
          go_quiet (fail)
          go_wp2_with fail
          go_roundw
          case rel => exact ⟨i + 1, by go_num, hlt, below_trans HR1.out (below_drewN _ _)⟩
          case measure => simp [intOf]; omega
        · have hlti : ¬ (i : Int) < (rn : Int) := by have := HQL.out; omega
          obtain ⟨w3, hwo⟩ : ∃ wo, wo = wr := ⟨_, rfl⟩
          rw [← hwo] at HXR HYR HWR x0 y0 ⊢
          clear hwo HX HY HW HR1
          have HX : Hid _ := HXR.out
          have HY : Hid _ := HYR.out
          have HW : Hid _ := HWR.out
          clear HXR HYR HWR
          go_wp2_with fail
          clear x0 y0 hlti
          go_loopw [7] (fun iv wr => ∃ i : Nat, iv = .int .i64 i ∧ i ≤ m.P.length ∧ Below w3.heap.size w3 wr) (fun iv _ => m.P.length - (intOf iv).toNat)
          case atStart => exact ⟨0, rfl, Nat.zero_le _, Below.refl _ _⟩
          case round =>
            obtain ⟨i, rfl, hil, hbel⟩ := hrel
            have HR2 : Hid (Below w3.heap.size w3 wr) := hbel
            have HXR : Hid _ := HX.out.keep HR2.out
            have HYR : Hid _ := HY.out.keep HR2.out
            have HWR : Hid (Below w.heap.size w wr) := below_trans HW.out HR2.out
            clear hbel
            have x0 := HXR.out.c8
            have y0 := HYR.out.c8
            by_cases hlt : i < m.P.length
            · have hlti : (i : Int) < (sn : Int) := by have := HPL.out; omega
              obtain ⟨b, off, rfl, c0, c1, c2⟩ := qv_at' (HA.out.below HWR.out).p hlt
              obtain ⟨d, doff, rfl, d0, d1, d2⟩ := qv_at' (HB.out.below HWR.out).p hlt
              obtain ⟨o, hoe⟩ : ∃ o, o = m.P[i] := ⟨_, rfl⟩
              rw [← hoe] at c0 c1 c2 d0 d1 d2
              have hn := neq_pair o
              clear hoe
              go_wp2_with fail
              go_quiet (fail)
              go_wp2_with fail
              go_roundw
              case rel => exact ⟨i + 1, by go_num, hlt, below_trans HR2.out (below_drewN _ _)⟩
              case measure => simp [intOf]; omega
            · have hlti : ¬ (i : Int) < (sn : Int) := by have := HPL.out; omega
              go_wp2_with fail
              go_ret
              exact ⟨rfl, HWR.out⟩
end Go.Proofs.Ythkkbdmbmkgjpaa


