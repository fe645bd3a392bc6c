/- Contract of repriselaw12's awake. -/
import Derived.Test.YtkicnoohfilgjaaKo

import Derived.Lib.SlBytesConst

namespace Go.Proofs.Ytkicnoohfilgjaa

open Go.RowKit



def mA : Mk := ⟨3, 300, [1, 128]⟩
def bA : List Nat := [3, 172, 2, 2, 1, 128, 1]
theorem aw_enc : encM mA = (bA, 0) := by decide
theorem aw_ok : keysOk [1, 128] := by intro x hx; simp at hx; omega
theorem aw_dec : decM bA = (mA, 0) := by
  have h := formM_there (m := mA) (by decide) aw_ok []
  have e : bytesM mA = bA := by decide
  rw [e] at h
  simpa using h
theorem aw_str : str bA = ⟨#[3, 172, 2, 2, 1, 128, 1]⟩ := by decide
theorem aw_uni : uniU ([5, 1, 5] ++ [2]) = [1, 2, 5] := by decide
theorem kv_lit1 (w : World) (x : Nat) : Kv (w.alloc (Obj.cells #[.int .u64 x] 32)) (.slice (some ⟨w.heap.size, 0, none⟩) 1 1) [x] := sv_lit .u64 w 32 (ib [x]) (by simp [maxLen, ib])
theorem kv_lit2 (w : World) (x y : Nat) : Kv (w.alloc (Obj.cells #[.int .u64 x, .int .u64 y] 32)) (.slice (some ⟨w.heap.size, 0, none⟩) 2 2) [x, y] := sv_lit .u64 w 32 (ib [x, y]) (by simp [maxLen, ib])
theorem kv_lit3 (w : World) (x y z : Nat) : Kv (w.alloc (Obj.cells #[.int .u64 x, .int .u64 y, .int .u64 z] 32)) (.slice (some ⟨w.heap.size, 0, none⟩) 3 3) [x, y, z] := sv_lit .u64 w 32 (ib [x, y, z]) (by simp [maxLen, ib])
theorem bv_litA (w : World) : Bv (w.alloc (.cells #[.int .u8 3, .int .u8 172, .int .u8 2, .int .u8 2, .int .u8 1, .int .u8 128, .int .u8 1] 5 (7, 8))) (.slice (some ⟨w.heap.size, 0, none⟩) 7 7) bA := by
  have hh : (w.alloc (.cells #[.int .u8 3, .int .u8 172, .int .u8 2, .int .u8 2, .int .u8 1, .int .u8 128, .int .u8 1] 5 (7, 8))).heap[w.heap.size]? = some (.cells #[.int .u8 3, .int .u8 172, .int .u8 2, .int .u8 2, .int .u8 1, .int .u8 128, .int .u8 1] 5 (7, 8)) := heap_alloc_new w _
  refine ⟨⟨_, 7, rfl, by decide, by decide, (by intro h; cases h), fun i hi => ⟨w.heap.size, 0, rfl, ?_⟩⟩, by decide⟩
  have h7 : i < 7 := hi
  rw [Nat.zero_add, cell_of_row _ w.heap.size i _ _ (7, 8) hh]
  have : i = 0 ∨ i = 1 ∨ i = 2 ∨ i = 3 ∨ i = 4 ∨ i = 5 ∨ i = 6 := by omega
  rcases this with rfl | rfl | rfl | rfl | rfl | rfl | rfl <;> rfl
theorem conv_lit (w : World) (C : Array Value) (n c : Nat) : (convert 22 22 (.slice (some ⟨w.heap.size, 0, none⟩) n c)).run Try.prog (w.alloc (.cells C 5)) = .ok (.slice (some ⟨w.heap.size, 0, none⟩) n c) (w.alloc (.cells C 5 (C.size, C.size + 1))) :=
  Lib.run_convert_bytes_const (P := Try.prog) w 22 5 C n c Try.underlying22 Try.underlying5
theorem aw_u1 (w : World) : Kv ((w.alloc (Obj.cells #[.int .u64 5, .int .u64 1, .int .u64 5] 32)).alloc (Obj.cells #[.int .u64 2] 32)) (.slice (some ⟨w.heap.size, 0, none⟩) 3 3) [5, 1, 5] := (kv_lit3 w 5 1 5).below (below_alloc _ _)
theorem aw_u2 (w : World) : Kv ((w.alloc (Obj.cells #[.int .u64 5, .int .u64 1, .int .u64 5] 32)).alloc (Obj.cells #[.int .u64 2] 32)) (.slice (some ⟨w.heap.size + 1, 0, none⟩) 1 1) [2] := by
  have h := kv_lit1 (w.alloc (Obj.cells #[.int .u64 5, .int .u64 1, .int .u64 5] 32)) 2
  rw [size_allocC] at h
  exact h
theorem aw_u3 (w : World) : Kv (w.alloc (Obj.cells #[.int .u64 1, .int .u64 2, .int .u64 5] 32)) (.slice (some ⟨w.heap.size, 0, none⟩) 3 3) [1, 2, 5] := kv_lit3 w 1 2 5
theorem aw_start (w : World) : MB ((w.alloc (Obj.cells #[.int .u64 1, .int .u64 128] 32)).alloc (Obj.cells #[.int .i64 3, .int .i64 300, .slice (some ⟨w.heap.size, 0, none⟩) 2 2] 26)) (w.heap.size + 1) 3 300 (.slice (some ⟨w.heap.size, 0, none⟩) 2 2) := by
  have h := mb_new (w.alloc (Obj.cells #[.int .u64 1, .int .u64 128] 32)) 3 300 (.slice (some ⟨w.heap.size, 0, none⟩) 2 2)
  rw [size_allocC] at h
  exact h


set_option maxRecDepth 100000 in
set_option maxHeartbeats 8000000 in
theorem awake_walk (w : World) :
    Calls Try.prog 7 #[] w fun e w' => e = .returned (.bool true) ∧ Below w.heap.size w w' := by
  have HK0 : Hid (Kv _ _ [1, 128]) := (kv_lit2 w 1 128).below (below_alloc _ (Obj.cells #[.int .i64 3, .int .i64 300, .slice (some ⟨w.heap.size, 0, none⟩) 2 2] 26))
  have HM0 : Hid _ := aw_start w
  have HB0 : Hid _ := below_trans (below_alloc w (Obj.cells #[.int .u64 1, .int .u64 128] 32)) (below_alloc _ (Obj.cells #[.int .i64 3, .int .i64 300, .slice (some ⟨w.heap.size, 0, none⟩) 2 2] 26))
  go_enter Try.func7, Try.ntmps7
  go_upto_region 2 with fail
  change Hid (Kv ((w.alloc (Obj.cells #[.int .u64 1, .int .u64 128] 32)).alloc (Obj.cells #[.int .i64 3, .int .i64 300, .slice (some ⟨w.heap.size, 0, none⟩) 2 2] 26)) _ _) at HK0
  generalize (w.alloc (Obj.cells #[.int .u64 1, .int .u64 128] 32)).alloc (Obj.cells #[.int .i64 3, .int .i64 300, .slice (some ⟨w.heap.size, 0, none⟩) 2 2] 26) = w1 at HK0 HM0 HB0 ⊢
  obtain ⟨P, hP⟩ : ∃ P, P = w.heap.size + 1 := ⟨_, rfl⟩
  rw [← hP] at HM0 ⊢
  clear hP
  obtain ⟨q, hq⟩ : ∃ q, q = w.heap.size := ⟨_, rfl⟩
  rw [← hq] at HK0 HM0 ⊢
  clear hq
  have c0 := HM0.out.c0
  have c1 := HM0.out.c1
  have c2 := HM0.out.c2
  go_wp2_with fail
  refine (menc_walk HK0.out aw_ok 3 300).mono ?_
  rintro e w2 ⟨vb, he, ho2, hB2⟩
  rw [show (⟨3, 300, [1, 128]⟩ : Mk) = mA from rfl, aw_enc] at he ho2
  subst he
  have HB2 : Hid (Below w.heap.size w w2) := below_trans HB0.out hB2
  have HK2 : Hid (Kv w2 (.slice (some ⟨q, 0, none⟩) 2 2) [1, 128]) := HK0.out.below hB2
  have HM2 : Hid _ := HM0.out.keep hB2
  have HV2 : Hid (Bv w2 vb bA) := own_bv ho2 (by decide)
  clear hB2 ho2 HB0 HK0 HM0 c0 c1 c2
  have hcv := conv_lit w2 #[.int .u8 3, .int .u8 172, .int .u8 2, .int .u8 2, .int .u8 1, .int .u8 128, .int .u8 1] 7 7
  go_wp2_with fail
  clear hcv
  refine (mdec_walk (bv_litA w2)).mono ?_
  rintro e w3 ⟨vk, he, ho3, hB3⟩
  rw [aw_dec] at he ho3
  subst he
  have hB3' := below_trans (below_alloc _ _) hB3
  have HD3 : Hid (Kv w3 vk [1, 128]) := own_sv ho3
  obtain ⟨da, dn, dc, rfl⟩ := sv_any HD3.out
  have HD4 : Hid (Kv (w3.alloc (Obj.cells #[.int .i64 3, .int .i64 300, .slice da dn dc] 26)) (.slice da dn dc) [1, 128]) := HD3.out.below (below_alloc _ _)
  have hB4 := below_trans hB3' (below_alloc _ (Obj.cells #[.int .i64 3, .int .i64 300, .slice da dn dc] 26))
  have HB4 : Hid (Below w.heap.size w (w3.alloc (Obj.cells #[.int .i64 3, .int .i64 300, .slice da dn dc] 26))) := below_trans HB2.out hB4
  have HK4 : Hid (Kv _ (.slice (some ⟨q, 0, none⟩) 2 2) [1, 128]) := HK2.out.below hB4
  have HM4 : Hid _ := HM2.out.keep hB4
  have HV4 : Hid (Bv _ vb bA) := HV2.out.below hB4
  have HD5 : Hid _ := mb_new w3 3 300 (.slice da dn dc)
  clear hB3 hB3' ho3 HB2 HK2 HM2 HV2 HD3 hB4
  rw [show (mA, 0).fst.b = (3 : Int) from rfl, show (mA, 0).fst.a = (300 : Int) from rfl, show (((mA, 0) : Mk × Nat).snd : Int) = 0 from rfl]
  go_upto_region 4 with fail
  obtain ⟨D, hD⟩ : ∃ D, D = w3.heap.size := ⟨_, rfl⟩
  rw [← hD] at HD5 ⊢
  clear hD
  generalize w3.alloc (Obj.cells #[.int .i64 3, .int .i64 300, .slice da dn dc] 26) = w4 at HD4 HB4 HK4 HM4 HV4 HD5 ⊢
  have c0 := HM4.out.c0
  have c1 := HM4.out.c1
  have c2 := HM4.out.c2
  go_wp2_with fail
  refine (sound_walk HK4.out 3 300).mono ?_
  rw [show soundB ⟨3, 300, [1, 128]⟩ = true by decide]
  rintro e w5 ⟨rfl, hB5⟩
  have hstr := HV4.out.below hB5
  have hstr : (convert 22 9 vb).run Try.prog w5 = .ok (.string ⟨#[3, 172, 2, 2, 1, 128, 1]⟩) w5 := by
    rw [← aw_str]; exact hstr.str 22 5 9 Try.underlying22 Try.underlying5 Try.underlying9
  have HB5 : Hid (Below w.heap.size w w5) := below_trans HB4.out hB5
  have HK5 : Hid (Kv w5 (.slice (some ⟨q, 0, none⟩) 2 2) [1, 128]) := HK4.out.below hB5
  have HM5 : Hid _ := HM4.out.keep hB5
  have HD6 : Hid (Kv w5 (.slice da dn dc) [1, 128]) := HD4.out.below hB5
  have HN5 : Hid _ := HD5.out.keep hB5
  clear hB5 c0 c1 c2 HB4 HK4 HM4 HV4 HD4 HD5
  have c0 := HM5.out.c0
  have c1 := HM5.out.c1
  have c2 := HM5.out.c2
  have d0 := HN5.out.c0
  have d1 := HN5.out.c1
  have d2 := HN5.out.c2
  go_wp2_with fail
  refine (msame_walk 3 300 HD6.out HK5.out).mono ?_
  rintro e w6 ⟨rfl, hB6⟩
  have HB6 : Hid (Below w.heap.size w w6) := below_trans HB5.out hB6
  have HK6 : Hid (Kv w6 (.slice (some ⟨q, 0, none⟩) 2 2) [1, 128]) := HK5.out.below hB6
  have HM6 : Hid _ := HM5.out.keep hB6
  clear hB6 c0 c1 c2 d0 d1 d2 HB5 HK5 HM5 HD6 HN5 hstr
  have c0 := HM6.out.c0
  have c1 := HM6.out.c1
  have c2 := HM6.out.c2
  go_wp2_with fail
  refine (judge_walk 3 300 3 6 _).mono ?_
  rw [show judI 3 300 3 6 = 130 by decide]
  rintro e w7 ⟨rfl, hB7⟩
  have HB7 : Hid (Below w.heap.size w w7) := below_trans HB6.out hB7
  have HK7 : Hid (Kv w7 (.slice (some ⟨q, 0, none⟩) 2 2) [1, 128]) := HK6.out.below hB7
  have HM7 : Hid _ := HM6.out.keep hB7
  clear hB7 c0 c1 c2 HB6 HK6 HM6
  have c0 := HM7.out.c0
  have c1 := HM7.out.c1
  have c2 := HM7.out.c2
  go_wp2_with fail
  refine (judge_walk 3 300 4 1 _).mono ?_
  rw [show judI 3 300 4 1 = 131 by decide]
  rintro e w8 ⟨rfl, hB8⟩
  have HB8 : Hid (Below w.heap.size w w8) := below_trans HB7.out hB8
  have HK8 : Hid (Kv w8 (.slice (some ⟨q, 0, none⟩) 2 2) [1, 128]) := HK7.out.below hB8
  have HM8 : Hid _ := HM7.out.keep hB8
  clear hB8 c0 c1 c2 HB7 HK7 HM7
  have c0 := HM8.out.c0
  have c1 := HM8.out.c1
  have c2 := HM8.out.c2
  go_wp2_with fail
  refine (mcmp_walk 1 2 1 1 _).mono ?_
  rw [show cmpA 1 2 1 1 = 1 by decide]
  rintro e w9 ⟨rfl, hw9⟩
  replace hw9 := hw9.symm
  subst hw9
  go_wp2_with fail
  refine (has_walk HK8.out 3 300 128).mono ?_
  rw [show decide (128 ∈ [1, 128]) = true by decide]
  rintro e w9 ⟨rfl, hB9⟩
  have HB9 : Hid (Below w.heap.size w w9) := below_trans HB8.out hB9
  have HK9 : Hid (Kv w9 (.slice (some ⟨q, 0, none⟩) 2 2) [1, 128]) := HK8.out.below hB9
  have HM9 : Hid _ := HM8.out.keep hB9
  clear hB9 c0 c1 c2 HB8 HK8 HM8
  have c2 := HM9.out.c2
  go_wp2_with fail
  refine (ris_walk HK9.out).mono ?_
  rw [show risB [1, 128] = true by decide]
  rintro e wa ⟨rfl, hBa⟩
  have HBa : Hid (Below w.heap.size w wa) := below_trans HB9.out hBa
  clear hBa c2 HB9 HK9 HM9
  have hk3 := aw_u1 wa
  have hk1 := aw_u2 wa
  have hk2 : Below wa.heap.size wa _ := below_trans (below_alloc wa (Obj.cells #[.int .u64 5, .int .u64 1, .int .u64 5] 32)) (below_alloc _ (Obj.cells #[.int .u64 2] 32))
  go_wp2_with fail
  generalize (wa.alloc (Obj.cells #[.int .u64 5, .int .u64 1, .int .u64 5] 32)).alloc (Obj.cells #[.int .u64 2] 32) = wu at hk3 hk1 hk2 ⊢
  refine (union_walk hk3 hk1 (by simp)).mono ?_
  rintro e wb ⟨vu, rfl, hob, hBb⟩
  rw [aw_uni] at hob
  have HU : Hid (Kv wb vu [1, 2, 5]) := own_sv hob
  have HBb : Hid (Below w.heap.size w wb) := below_trans HBa.out (below_trans hk2 hBb)
  clear hk1 hk2 hk3 hob hBb HBa
  have hk3 := aw_u3 wb
  have hk1 : Kv _ vu [1, 2, 5] := HU.out.below (below_alloc wb (Obj.cells #[.int .u64 1, .int .u64 2, .int .u64 5] 32))
  have hk2 := below_alloc wb (Obj.cells #[.int .u64 1, .int .u64 2, .int .u64 5] 32)
  go_wp2_with fail
  generalize wb.alloc (Obj.cells #[.int .u64 1, .int .u64 2, .int .u64 5] 32) = wu2 at hk3 hk1 hk2 ⊢
  refine (eqk_walk hk1 hk3).mono ?_
  rintro e wc ⟨rfl, hBc⟩
  have HBc : Hid (Below w.heap.size w wc) := below_trans HBb.out (below_trans hk2 hBc)
  clear hk1 hk2 hk3 hBc HBb HU
  go_wp2_with fail
  go_ret
  exact ⟨rfl, HBc.out⟩
end Go.Proofs.Ytkicnoohfilgjaa


