/- == of cells; same, laid, awake. -/
import Derived.Test.YtjcmmhonidamoaaBp
import Derived.Laws.StructEq
import Derived.Lib.SlBytesConst
namespace Go.Proofs.Ytjcmmhonidamoaa
open Go.RowKit

theorem eq_valN (n : Nat) (v : Vl) (w : World) : (Op.equalIn (n + 1 + 1) 35 (.agg #[.bool v.h, .int .u64 v.b]) (.agg #[.bool v.h, .int .u64 v.b])).run Try.prog w = .ok true w := by
  have u0 := Try.underlying4
  have u1 := Try.underlying33
  have a0 := Try.isAgg4
  have a1 := Try.isAgg33
  have z0 := Try.sizeOf4
  have z1 := Try.sizeOf33
  have hS : Try.prog.underlying 35 = some (.struct (Try.prog.fieldsOf 35)) := by kernel_rfl
  have hp : Try.prog.stoodInHeld 35 = false := by kernel_rfl
  rw [run_equalIn_agg w (n + 1) 35 _ _ hS hp]
  simp only [Program.fieldsOf, Try.underlying35]
  go_simp

theorem eq_cell (c : Cl) (w : World) : (Op.equalIn 10000 37 (.agg #[.int .u64 c.k, .bool c.p.h, .int .u64 c.p.b, .bool c.c.h, .int .u64 c.c.b, .int .i64 c.n]) (.agg #[.int .u64 c.k, .bool c.p.h, .int .u64 c.p.b, .bool c.c.h, .int .u64 c.c.b, .int .i64 c.n])).run Try.prog w = .ok true w := by
  have u1 := Try.underlying33
  have u3 := Try.underlying3
  have a1 := Try.isAgg33
  have a2 := Try.isAgg35
  have a3 := Try.isAgg3
  have z1 := Try.sizeOf33
  have z2 := Try.sizeOf35
  have z3 := Try.sizeOf3
  have hv : ∀ w, (Op.equalIn 9999 35 (.agg #[.bool c.p.h, .int .u64 c.p.b]) (.agg #[.bool c.p.h, .int .u64 c.p.b])).run Try.prog w = .ok true w := eq_valN 9997 c.p
  have hu : ∀ w, (Op.equalIn 9999 35 (.agg #[.bool c.c.h, .int .u64 c.c.b]) (.agg #[.bool c.c.h, .int .u64 c.c.b])).run Try.prog w = .ok true w := eq_valN 9997 c.c
  have hS : Try.prog.underlying 37 = some (.struct (Try.prog.fieldsOf 37)) := by kernel_rfl
  have hp : Try.prog.stoodInHeld 37 = false := by kernel_rfl
  rw [show (10000 : Nat) = 9999 + 1 from rfl, run_equalIn_agg w 9999 37 _ _ hS hp]
  simp only [Program.fieldsOf, Try.underlying37]
  go_simp

theorem eql_cell (c : Cl) (w : World) : (binOp .eql 37 (.agg #[.int .u64 c.k, .bool c.p.h, .int .u64 c.p.b, .bool c.c.h, .int .u64 c.c.b, .int .i64 c.n]) (.agg #[.int .u64 c.k, .bool c.p.h, .int .u64 c.p.b, .bool c.c.h, .int .u64 c.c.b, .int .i64 c.n])).run Try.prog w = .ok (.bool true) w := by
  rw [run_eql_struct, eq_cell]; rfl
theorem neq_cell (c : Cl) (w : World) : (binOp .neq 37 (.agg #[.int .u64 c.k, .bool c.p.h, .int .u64 c.p.b, .bool c.c.h, .int .u64 c.c.b, .int .i64 c.n]) (.agg #[.int .u64 c.k, .bool c.p.h, .int .u64 c.p.b, .bool c.c.h, .int .u64 c.c.b, .int .i64 c.n])).run Try.prog w = .ok (.bool false) w := by
  rw [run_neq_struct, eq_cell]; rfl

theorem guard_cell : Try.prog.eqGuardType Try.prog.depth 37 = false := by kernel_rfl

set_option maxRecDepth 100000 in
set_option maxHeartbeats 2000000 in
theorem same_some (l : List Cl) (b off cap b2 off2 cap2 : Nat) (w : World) (hcap : l.length ≤ maxLen) (hc : ∀ i, (hi : i < l.length) → CA w b (off + i * 6) l[i]) (hd : ∀ i, (hi : i < l.length) → CA w b2 (off2 + i * 6) l[i]) :
    Calls Try.prog 14 #[.slice (some ⟨b, off, none⟩) l.length cap, .slice (some ⟨b2, off2, none⟩) l.length cap2] w fun e w' => e = .returned (.bool true) ∧ Below w.heap.size w w' := by
  unfold maxLen at hcap
  have hli : (l.length : Int) ≤ 9223372036854775807 := by omega
  have hlb : ((l.length : Int) != (l.length : Int)) = false := by simp
  have HC : Hid (∀ i, (hi : i < l.length) → CA w b (off + i * 6) l[i]) := hc
  have HD : Hid (∀ i, (hi : i < l.length) → CA w b2 (off2 + i * 6) l[i]) := hd
  have hg := guard_cell
  clear hc hd hcap
  go_enter Try.func14, Try.ntmps14
  go_wp2_with fail
  go_loopw [5] (fun iv wr => ∃ i : Nat, iv = .int .i64 i ∧ i ≤ l.length ∧ Below w.heap.size w wr) (fun iv _ => l.length - (intOf iv).toNat)
  case atStart => exact ⟨0, rfl, by omega, Below.refl _ _⟩
  case round =>
    obtain ⟨i, rfl, hil, hbel⟩ := hrel
    have HB : Hid (Below w.heap.size w wr) := hbel
    clear hbel
    by_cases hlt : i < l.length
    · have hlti : (i : Int) < (l.length : Int) := by omega
      have hA := (HC.out i hlt).keep HB.out
      have hA2 := (HD.out i hlt).keep HB.out
      obtain ⟨c, hcd⟩ : ∃ c, l[i] = c := ⟨_, rfl⟩
      rw [hcd] at hA hA2
      clear hcd
      have hq := neq_cell c
      obtain ⟨c0, c1, c2, c3, c4, c5⟩ := hA
      obtain ⟨d0, d1, d2, d3, d4, d5⟩ := hA2
      go_wp2_with fail
      go_quiet (fail)
      have HB2 : Hid (Below w.heap.size w (wr.drewN nq)) := below_trans HB.out (below_drewN _ _)
      go_wp2_with fail
      go_roundw
      case rel => exact ⟨i + 1, by go_num, by omega, HB2.out⟩
      case measure => simp [intOf]; omega
    · have hlti : ¬ (i : Int) < (l.length : Int) := by omega
      go_wp2_with fail
      go_ret
      exact ⟨rfl, HB.out⟩
set_option maxRecDepth 100000 in
theorem same_none (ao : Option Addr) (cap : Nat) (a2 : Option Addr) (cap2 : Nat) (w : World) :
    Calls Try.prog 14 #[.slice ao 0 cap, .slice a2 0 cap2] w fun e w' => e = .returned (.bool true) ∧ Below w.heap.size w w' := by
  go_enter Try.func14, Try.ntmps14
  go_wp2
  refine wp_loop_rounds 1 ?_
  rw [rounds_succ]
  go_wp2
  go_ret
  exact ⟨rfl, Below.refl _ _⟩
theorem same_walk {w : World} {u v : Value} {l : List Cl} (hu : Cv w u l) (hv : Cv w v l) :
    Calls Try.prog 14 #[u, v] w fun e w' => e = .returned (.bool true) ∧ Below w.heap.size w w' := by
  rcases cv_cases hu with ⟨rfl, ao, cap, rfl⟩ | ⟨b, off, cap, rfl, hp, h1, h2, h3⟩
  · rcases cv_cases hv with ⟨_, a2, cap2, rfl⟩ | ⟨b2, off2, cap2, rfl, hp, _⟩
    · exact same_none ao cap a2 cap2 w
    · simp at hp
  · rcases cv_cases hv with ⟨h0, _⟩ | ⟨b2, off2, cap2, rfl, _, _, _, h4⟩
    · rw [h0] at hp; simp at hp
    · exact same_some l b off cap b2 off2 cap2 w hu.len_le h3 h4
theorem laid_walk (k x : Nat) (w : World) :
    Calls Try.prog 21 #[.int .u64 k, .int .u64 x] w fun e w' => e = .returned (.agg #[.int .u64 k, .bool false, .int .u64 0, .bool true, .int .u64 x, .int .i64 1]) ∧ Below w.heap.size w w' := by
  go_enter Try.func21, Try.ntmps21
  go_wp2_with fail
  refine bodyPost_ret (v := .agg #[.int .u64 k, .bool false, .int .u64 0, .bool true, .int .u64 x, .int .i64 1]) (by simp [results, Try.results21, go_sem]) rfl ⟨rfl, below_alloc _ _⟩

def cA : Cl := ⟨5, ⟨false, 0⟩, ⟨true, 3⟩, 1⟩
def cZ : Cl := ⟨2, ⟨false, 0⟩, ⟨true, 9⟩, 1⟩
def bA : List Nat := [1, 5, 2, 3, 0, 0, 0, 0, 0, 0, 0, 1]
theorem aw_enc : encode [cA] = (bA, 0) := by decide
theorem aw_dec : decode bA = ([cA], 0) := by
  have h : Wm.take bA = (1, 1, 0) := by decide
  rw [decode_go h (by decide) (by decide) (by decide)]
  have e : bA.drop 1 = cellB cA := by decide
  have ho : oneC none (cellB cA) = (0, cA, []) := by
    have := oneC_of (o := none) (c := cA) (by simp [cA, Cl.ok, Vl.ok]) (by decide) rfl []
    simpa using this
  rw [e]
  simp [decT, decS, ho]
theorem aw_put : putR [cA] cZ = ([cZ, cA], 0) := by simp [putR, ordB, ordE, folB, isK, fndF, cA, cZ]
theorem aw_drop : dropR [cZ, cA] 5 = ([cZ], 0) := by simp [dropR, ordB, ordE, folB, isK, fndF, cA, cZ]
theorem aw_fi : findI [cZ, cA] 5 = 1 := by simp [findI, ordB, ordE, folB, fndF, cA, cZ]
theorem aw_fb : findB [cZ, cA] 5 = true := by simp [findB, ordB, ordE, folB, isK, fndF, cA, cZ]
theorem aw_ok : ∀ c ∈ [cA], c.ok := by simp [cA, Cl.ok, Vl.ok]
theorem aw_str : str bA = ⟨#[1, 5, 2, 3, 0, 0, 0, 0, 0, 0, 0, 1]⟩ := by decide
theorem cv_two (w : World) (c d : Cl) : Cv (w.alloc (Obj.cells #[.int .u64 c.k, .bool c.p.h, .int .u64 c.p.b, .bool c.c.h, .int .u64 c.c.b, .int .i64 c.n, .int .u64 d.k, .bool d.p.h, .int .u64 d.p.b, .bool d.c.h, .int .u64 d.c.b, .int .i64 d.n] 37)) (.slice (some ⟨w.heap.size, 0, none⟩) 2 2) [c, d] := by
  refine cv_of (l := [c, d]) (by simp) (by simp [maxLen]) (fun i hi => ?_)
  have : i = 0 ∨ i = 1 := by simp at hi; omega
  rcases this with rfl | rfl <;> constructor <;> simp [go_sem]

set_option maxRecDepth 100000 in
set_option maxHeartbeats 8000000 in
theorem awake_walk (w : World) :
    Calls Try.prog 9 #[] w fun e w' => e = .returned (.bool true) ∧ Below w.heap.size w w' := by
  go_enter Try.func9, Try.ntmps9
  go_wp2_with fail
  refine (laid_walk 5 3 _).mono ?_
  rintro e w1 ⟨rfl, hB1⟩
  go_wp2_with fail
  refine (encode_walk (cv_one w1 cA) aw_ok).mono ?_
  rintro e w2 ⟨vb, he, ho2, hB2⟩
  rw [aw_enc] at he ho2
  subst he
  have HB2 : Hid (Below w.heap.size w w2) := below_trans hB1 (below_trans (below_alloc _ _) hB2)
  have HV2 : Hid (Bv w2 vb bA) := own_bv ho2 (by decide)
  clear hB1 hB2 ho2
  go_wp2_with fail
  refine (decode_walk HV2.out).mono ?_
  rintro e w3 ⟨vc, he, ho3, hB3⟩
  rw [aw_dec] at he ho3
  subst he
  have HB3 : Hid (Below w.heap.size w w3) := below_trans HB2.out hB3
  have HV3 : Hid (Bv w3 vb bA) := HV2.out.below hB3
  have HC3 : Hid (Cv w3 vc [cA]) := (own_cv ho3).1
  clear hB3 ho3 HV2 HB2
  go_wp2_with fail
  refine (laid_walk 2 9 _).mono ?_
  rintro e w4 ⟨rfl, hB4⟩
  have HB4 : Hid (Below w.heap.size w w4) := below_trans HB3.out hB4
  have HV4 : Hid (Bv w4 vb bA) := HV3.out.below hB4
  have HC4 : Hid (Cv w4 vc [cA]) := HC3.out.below hB4
  clear hB4 HV3 HC3 HB3
  go_wp2_with fail
  refine (put_walk11 HC4.out cZ (by simp)).mono ?_
  rintro e w5 ⟨vp, he, ho5, hB5⟩
  rw [aw_put] at he ho5
  subst he
  have HB5 : Hid (Below w.heap.size w w5) := below_trans HB4.out hB5
  have HV5 : Hid (Bv w5 vb bA) := HV4.out.below hB5
  have HP5 : Hid (Cv w5 vp [cZ, cA]) := (own_cv ho5).1
  clear hB5 ho5 HV4 HC4 HB4
  go_wp2_with fail
  refine (drop_walk HP5.out 5 (by simp)).mono ?_
  rintro e w6 ⟨vd, he, ho6, hB6⟩
  rw [aw_drop] at he ho6
  subst he
  have HB6 : Hid (Below w.heap.size w w6) := below_trans HB5.out hB6
  have HV6 : Hid (Bv w6 vb bA) := HV5.out.below hB6
  have HP6 : Hid (Cv w6 vp [cZ, cA]) := HP5.out.below hB6
  have HD6 : Hid (Cv w6 vd [cZ]) := (own_cv ho6).1
  clear hB6 ho6 HV5 HP5 HB5
  go_wp2_with fail
  refine (find_walk HP6.out 5).mono ?_
  rw [aw_fi, aw_fb]
  rintro e w7 ⟨rfl, hB7⟩
  have HB7 : Hid (Below w.heap.size w w7) := below_trans HB6.out hB7
  have HV7 : Hid (Bv w7 vb bA) := HV6.out.below hB7
  have HP7 : Hid (Cv w7 vp [cZ, cA]) := HP6.out.below hB7
  have HD7 : Hid (Cv w7 vd [cZ]) := HD6.out.below hB7
  have hstr : (convert 24 9 vb).run Try.prog w7 = .ok (.string ⟨#[1, 5, 2, 3, 0, 0, 0, 0, 0, 0, 0, 1]⟩) w7 := by
    rw [← aw_str]; exact HV7.out.str 24 5 9 Try.underlying24 Try.underlying5 Try.underlying9
  clear hB7 HV6 HP6 HD6 HB6
  go_wp2_with fail
  refine (laid_walk 2 9 _).mono ?_
  rintro e w8 ⟨rfl, hB8⟩
  go_wp2_with fail
  refine (laid_walk 5 3 _).mono ?_
  rintro e w9 ⟨rfl, hB9⟩
  have HB9 : Hid (Below w7.heap.size w7 w9) := below_trans hB8 hB9
  clear hB8 hB9 hstr
  go_wp2_with fail
  refine (same_walk (HP7.out.below (below_trans HB9.out (below_alloc _ _))) (cv_two w9 cZ cA)).mono ?_
  rintro e wa ⟨rfl, hBa⟩
  have HBa : Hid (Below w7.heap.size w7 wa) := below_trans HB9.out (below_trans (below_alloc _ _) hBa)
  clear hBa HB9
  go_wp2_with fail
  refine (laid_walk 2 9 _).mono ?_
  rintro e wb ⟨rfl, hBb⟩
  have HBb : Hid (Below w7.heap.size w7 wb) := below_trans HBa.out hBb
  clear hBb HBa
  go_wp2_with fail
  refine (same_walk (HD7.out.below (below_trans HBb.out (below_alloc _ _))) (cv_one wb cZ)).mono ?_
  rintro e wd ⟨rfl, hBd⟩
  have HBd : Hid (Below w7.heap.size w7 wd) := below_trans HBb.out (below_trans (below_alloc _ _) hBd)
  clear hBd HBb
  go_wp2_with fail
  go_ret
  exact ⟨rfl, below_trans HB7.out HBd.out⟩
end Go.Proofs.Ytjcmmhonidamoaa
