/- The walk of BucketActs. -/
import Derived.Test.YtjcmmhonidamoaaBq
import Derived.Test.YtjcmmhonidamoaaCc
namespace Go.Proofs.Ytjcmmhonidamoaa
open Go.RowKit

set_option maxRecDepth 100000 in
set_option maxHeartbeats 4000000 in
theorem bucketacts_walk {w : World} {cv : Value} {l : List Cl} (c : Cl) (hc : Cv w cv l) (hsz : (l.length + 1) * 48 ≤ 140737488355328) :
    Calls Try.prog 5 #[cv, .agg #[.int .u64 c.k, .bool c.p.h, .int .u64 c.p.b, .bool c.c.h, .int .u64 c.c.b, .int .i64 c.n]] w fun e w' => e = .returned (.bool true) ∧ Below w.heap.size w w' := by
  have HV : Hid (Cv w cv l) := hc
  have HSZ : Hid ((l.length + 1) * 48 ≤ 140737488355328) := hsz
  have HSD : Hid (l.length * 48 ≤ 140737488355328) := by show _ ≤ _; omega
  have HCB : Hid (CB (w.alloc (Obj.cells #[.int .u64 c.k, .bool c.p.h, .int .u64 c.p.b, .bool c.c.h, .int .u64 c.c.b, .int .i64 c.n] 37)) w.heap.size c) := cb_new w c
  have HB0 : Hid (Below w.heap.size w (w.alloc (Obj.cells #[.int .u64 c.k, .bool c.p.h, .int .u64 c.p.b, .bool c.c.h, .int .u64 c.c.b, .int .i64 c.n] 37))) := below_alloc _ _
  clear hc hsz
  go_enter Try.func5, Try.ntmps5
  go_wp2_with fail
  refine (awake_walk _).mono ?_
  rintro e w1 ⟨rfl, hB1⟩
  have HB1 : Hid (Below w.heap.size w w1) := below_trans HB0.out hB1
  have HC1 : Hid (CB w1 w.heap.size c) := HCB.out.keep hB1
  have k0 := HC1.out.c0
  clear hB1 HCB HB0
  go_wp2_with fail
  refine (find_walk (HV.out.below HB1.out) c.k).mono ?_
  obtain ⟨F, hF⟩ : ∃ F, F = findI l c.k := ⟨_, rfl⟩
  obtain ⟨T, hT⟩ : ∃ T, T = findB l c.k := ⟨_, rfl⟩
  rw [← hF, ← hT]
  rintro e w2 ⟨rfl, hB2⟩
  have HB2 : Hid (Below w.heap.size w w2) := below_trans HB1.out hB2
  have HC2 : Hid (CB w2 w.heap.size c) := HC1.out.keep hB2
  have HF : Hid (F = findI l c.k) := hF
  have HT : Hid (T = findB l c.k) := hT
  clear hB2 k0 hF hT HC1 HB1
  have k0 := HC2.out.c0
  go_wp2_with fail
  refine (rfind_walk (HV.out.below HB2.out) c.k).mono ?_
  rw [← HF.out, ← HT.out]
  rintro e w3 ⟨rfl, hB3⟩
  have HB3 : Hid (Below w.heap.size w w3) := below_trans HB2.out hB3
  have HC3 : Hid (CB w3 w.heap.size c) := HC2.out.keep hB3
  clear hB3 k0 HC2 HB2
  obtain ⟨c0, c1, c2, c3, c4, c5, zz⟩ := HC3.out
  have hFF : ((F : Int) != (F : Int)) = false := by simp
  have hTT : (T != T) = false := by simp
  go_wp2_with fail
  refine (put_walk11 (HV.out.below HB3.out) c HSZ.out).mono ?_
  rintro e w4 ⟨v4, rfl, ho4, hB4⟩
  obtain ⟨E, hE⟩ : ∃ E, E = (putR l c).2 := ⟨_, rfl⟩
  rw [← hE]
  have HE : Hid (E = (putR l c).2) := hE
  have HB4 : Hid (Below w.heap.size w w4) := below_trans HB3.out hB4
  have HC4 : Hid (CB w4 w.heap.size c) := HC3.out.keep hB4
  have HP4 : Hid (Cv w4 v4 (putR l c).1) := (own_cv ho4).1
  clear hB4 ho4 hE HB3 HC3 c0 c1 c2 c3 c4 c5 zz
  obtain ⟨c0, c1, c2, c3, c4, c5, zz⟩ := HC4.out
  go_wp2_with fail
  refine (rput_walk11 (HV.out.below HB4.out) c HSZ.out).mono ?_
  rintro e w5 ⟨v5, he, ho5, hB5⟩
  rw [← HE.out] at he
  subst he
  have HB5 : Hid (Below w.heap.size w w5) := below_trans HB4.out hB5
  have HC5 : Hid (CB w5 w.heap.size c) := HC4.out.keep hB5
  have HP5 : Hid (Cv w5 v5 (putR l c).1) := (own_cv ho5).1
  have HQ5 : Hid (Cv w5 v4 (putR l c).1) := HP4.out.below hB5
  clear hB5 ho5 HB4 HC4 HP4 c0 c1 c2 c3 c4 c5 zz
  go_wp2_with fail
  refine (same_walk HQ5.out HP5.out).mono ?_
  rintro e w6 ⟨rfl, hB6⟩
  have HB6 : Hid (Below w.heap.size w w6) := below_trans HB5.out hB6
  have HC6 : Hid (CB w6 w.heap.size c) := HC5.out.keep hB6
  clear hB6 HB5 HC5 HP5 HQ5
  have hEE : ((E : Int) != (E : Int)) = false := by simp
  have k0 := HC6.out.c0
  go_wp2_with fail
  refine (drop_walk (HV.out.below HB6.out) c.k HSD.out).mono ?_
  rintro e w7 ⟨v7, rfl, ho7, hB7⟩
  obtain ⟨D, hD⟩ : ∃ D, D = (dropR l c.k).2 := ⟨_, rfl⟩
  rw [← hD]
  have HD : Hid (D = (dropR l c.k).2) := hD
  have HB7 : Hid (Below w.heap.size w w7) := below_trans HB6.out hB7
  have HC7 : Hid (CB w7 w.heap.size c) := HC6.out.keep hB7
  have HP7 : Hid (Cv w7 v7 (dropR l c.k).1) := (own_cv ho7).1
  clear hB7 ho7 hD HB6 HC6 k0
  have k0 := HC7.out.c0
  go_wp2_with fail
  refine (rdrop_walk (HV.out.below HB7.out) c.k HSZ.out).mono ?_
  rintro e w8 ⟨v8, he, ho8, hB8⟩
  rw [← HD.out] at he
  subst he
  have HB8 : Hid (Below w.heap.size w w8) := below_trans HB7.out hB8
  have HP8 : Hid (Cv w8 v8 (dropR l c.k).1) := (own_cv ho8).1
  have HQ8 : Hid (Cv w8 v7 (dropR l c.k).1) := HP7.out.below hB8
  clear hB8 ho8 HB7 HC7 HP7 k0
  go_wp2_with fail
  refine (same_walk HQ8.out HP8.out).mono ?_
  rintro e w9 ⟨rfl, hB9⟩
  have hDD : ((D : Int) == (D : Int)) = true := by simp
  go_wp2_with fail
  go_ret
  exact ⟨rfl, below_trans HB8.out hB9⟩
end Go.Proofs.Ytjcmmhonidamoaa
