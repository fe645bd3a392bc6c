/- The walk of the statement WireTakes. -/
import Derived.Test.YtiglkmdeokmnhaaWl
import Derived.Test.YtiglkmdeokmnhaaWi
namespace Go.Proofs.Ytiglkmdeokmnhaa
open Go.RowKit

/-- TakeRun's answers, as a caller takes them. -/
theorem takerun_got {w : World} {v : Value} {l q : List Nat} {p er : Nat} (h : Bv w v l) (hsz : l.length ≤ 140737488355328) (hq : Wm.takeRun l = (q, p, er)) :
    Calls Try.prog 18 #[v] w fun e w' => ∃ ao cap, e = .returned (.tuple #[.slice ao q.length cap, .int .i64 p, .int .i64 er]) ∧ Bv w' (.slice ao q.length cap) q ∧ Below w.heap.size w w' := by
  refine (takerun_walk h hsz).mono fun e w' hh => ?_
  obtain ⟨ao, cap, h1, h2, h3⟩ := hh
  rw [hq] at h1 h2
  exact ⟨ao, cap, h1, h2, h3⟩
theorem rtakerun_got {w : World} {v : Value} {l q : List Nat} {p er : Nat} (h : Bv w v l) (hsz : l.length ≤ 140737488355328) (hq : Wm.takeRun l = (q, p, er)) :
    Calls Try.prog 19 #[v] w fun e w' => ∃ ao cap, e = .returned (.tuple #[.slice ao q.length cap, .int .i64 p, .int .i64 er]) ∧ Bv w' (.slice ao q.length cap) q ∧ Below w.heap.size w w' := by
  refine (rtakerun_walk h hsz).mono fun e w' hh => ?_
  obtain ⟨ao, cap, h1, h2, h3⟩ := hh
  rw [hq] at h1 h2
  exact ⟨ao, cap, h1, h2, h3⟩

/-- TakeNums' answers, as a caller takes them. -/
theorem takenums_got {w : World} {v : Value} {l q : List Nat} {p er : Nat} {most : Int} (h : Bv w v l) (hsz : l.length * 8 ≤ 140737488355328) (hm : most < 9223372036854775808) (hq : Wm.takeNums l most = (q, p, er)) :
    Calls Try.prog 20 #[v, .int .i64 most] w fun e w' => ∃ ao cap, e = .returned (.tuple #[.slice ao (ib q).length cap, .int .i64 p, .int .i64 er]) ∧ Sv .i64 w' (.slice ao (ib q).length cap) (ib q) ∧ Below w.heap.size w w' := by
  refine (takenums_walk most h hsz hm).mono fun e w' hh => ?_
  obtain ⟨ao, cap, h1, h2, h3⟩ := hh
  rw [hq] at h1 h2
  exact ⟨ao, cap, h1, h2, h3⟩
theorem rtakenums_got {w : World} {v : Value} {l q : List Nat} {p er : Nat} {most : Int} (h : Bv w v l) (hsz : l.length * 8 ≤ 140737488355328) (hm : most < 9223372036854775808) (hq : Wm.takeNums l most = (q, p, er)) :
    Calls Try.prog 21 #[v, .int .i64 most] w fun e w' => ∃ ao cap, e = .returned (.tuple #[.slice ao (ib q).length cap, .int .i64 p, .int .i64 er]) ∧ Sv .i64 w' (.slice ao (ib q).length cap) (ib q) ∧ Below w.heap.size w w' := by
  refine (rtakenums_walk most h hsz hm).mono fun e w' hh => ?_
  obtain ⟨ao, cap, h1, h2, h3⟩ := hh
  rw [hq] at h1 h2
  exact ⟨ao, cap, h1, h2, h3⟩

set_option maxRecDepth 100000 in
set_option maxHeartbeats 4000000 in
theorem takes_walk (v : Value) (l : List Nat) (most : Int) (w : World) (hv : Bv w v l) (hsz : l.length * 8 ≤ 140737488355328) (hm : most < 9223372036854775808) :
    Calls Try.prog 4 #[v, .int .i64 most] w fun e w' => e = .returned (.bool true) ∧ Below w.heap.size w w' := by
  have HV : Hid (Bv w v l) := hv
  have HSZ : Hid (l.length * 8 ≤ 140737488355328) := hsz
  have HM : Hid (most < 9223372036854775808) := hm
  obtain ⟨a0, c0, rfl⟩ := bv_form hv
  obtain ⟨t, p1, e1, ht⟩ : ∃ x n e, Wm.take l = (x, n, e) := ⟨_, _, _, rfl⟩
  have HT : Hid (Wm.take l = (t, p1, e1)) := ht
  obtain ⟨q, p2, e2, hq⟩ : ∃ x n e, Wm.takeRun l = (x, n, e) := ⟨_, _, _, rfl⟩
  have HQ : Hid (Wm.takeRun l = (q, p2, e2)) := hq
  obtain ⟨s, p3, e3, hs⟩ : ∃ x n e, Wm.takeNums l most = (x, n, e) := ⟨_, _, _, rfl⟩
  have HS : Hid (Wm.takeNums l most = (s, p3, e3)) := hs
  obtain ⟨d, e4, hd⟩ : ∃ x e, Wm.takeW l = (x, e) := ⟨_, _, rfl⟩
  have HD : Hid (Wm.takeW l = (d, e4)) := hd
  clear hv hsz hm ht hq hs hd
  go_enter Try.func4, Try.ntmps4
  go_wp2_with fail
  refine (awake_walk w).mono ?_
  rintro e w1 ⟨rfl, B1⟩
  have HB1 : Hid (Below w.heap.size w w1) := B1
  have HV1 : Hid (Bv w1 (.slice a0 l.length c0) l) := HV.out.below B1
  clear B1
  go_wp2_with fail
  refine (take_walk HV1.out).mono ?_
  rintro e w2 ⟨he, rfl⟩
  rw [t3_lit HT.out] at he
  subst he
  go_wp2_with fail
  refine (rtake_walk HV1.out).mono ?_
  rintro e w3 ⟨he, rfl⟩
  rw [t3_lit HT.out] at he
  subst he
  go_wp2_with fail
  refine (takerun_got HV1.out (by have := HSZ.out; omega) HQ.out).mono ?_
  rintro e w4 ⟨a4, c4, rfl, P4, B4⟩
  have HB4 : Hid (Below w.heap.size w w4) := below_trans HB1.out B4
  have HP4 : Hid (Bv w4 (.slice a4 q.length c4) q) := P4
  have HV4 : Hid (Bv w4 (.slice a0 l.length c0) l) := HV1.out.below B4
  clear P4 B4
  go_wp2_with fail
  refine (rtakerun_got HV4.out (by have := HSZ.out; omega) HQ.out).mono ?_
  rintro e w5 ⟨a5, c5, rfl, P5, B5⟩
  have HB5 : Hid (Below w.heap.size w w5) := below_trans HB4.out B5
  have r4 := str_of (HP4.out.below B5)
  have r5 := str_of P5
  have HV5 : Hid (Bv w5 (.slice a0 l.length c0) l) := HV4.out.below B5
  clear P5 B5
  go_wp2_with fail
  refine (takenums_got HV5.out HSZ.out HM.out HS.out).mono ?_
  rintro e w6 ⟨a6, c6, rfl, P6, B6⟩
  have HB6 : Hid (Below w.heap.size w w6) := below_trans HB5.out B6
  have HP6 : Hid (Sv .i64 w6 (.slice a6 (ib s).length c6) (ib s)) := P6
  have HV6 : Hid (Bv w6 (.slice a0 l.length c0) l) := HV5.out.below B6
  clear P6 B6 r4 r5
  go_wp2_with fail
  refine (rtakenums_got HV6.out HSZ.out HM.out HS.out).mono ?_
  rintro e w7 ⟨a7, c7, rfl, P7, B7⟩
  have HB7 : Hid (Below w.heap.size w w7) := below_trans HB6.out B7
  have HP7 : Hid (Sv .i64 w7 (.slice a7 (ib s).length c7) (ib s)) := P7
  have HP6' : Hid (Sv .i64 w7 (.slice a6 (ib s).length c6) (ib s)) := HP6.out.below B7
  have HV7 : Hid (Bv w7 (.slice a0 l.length c0) l) := HV6.out.below B7
  clear P7 B7
  go_wp2_with fail
  refine (ints_walk HP6'.out HP7.out).mono ?_
  rintro e w8 ⟨rfl, B8⟩
  have HB8 : Hid (Below w.heap.size w w8) := below_trans HB7.out B8
  have HV8 : Hid (Bv w8 (.slice a0 l.length c0) l) := HV7.out.below B8
  clear B8
  go_wp2_with fail
  refine (takew_walk HV8.out).mono ?_
  rintro e w9 ⟨he, rfl⟩
  rw [t2_lit HD.out] at he
  subst he
  go_wp2_with fail
  refine (rtakew_walk HV8.out).mono ?_
  rintro e w10 ⟨he, rfl⟩
  rw [t2_lit HD.out] at he
  subst he
  go_wp2_with fail
  go_ret
  exact ⟨rfl, HB8.out⟩
end Go.Proofs.Ytiglkmdeokmnhaa
