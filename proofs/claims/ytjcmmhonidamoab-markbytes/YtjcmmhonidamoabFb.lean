/- The walk of MarkBytes. -/
import Derived.Test.YtjcmmhonidamoabKq
import Derived.Deep.RegionHeld3
namespace Go.Proofs.Ytjcmmhonidamoab
open Go.RowKit

theorem encM_lt {m : Mk} (hk : keysOk m.k) : ∀ x ∈ (encM m).1, x < 256 := by
  unfold encM
  cases h : soundB m
  · simp
  · rw [if_pos rfl]; exact bytesM_lt h hk

set_option maxRecDepth 100000 in
set_option maxHeartbeats 2000000 in
theorem markbytes_walk {w : World} {kv : Value} {k : List Nat} (b a : Int) (hk : Kv w kv k) (hok : keysOk k) :
    Calls Try.prog 3 #[.agg #[.int .i64 b, .int .i64 a, kv]] w fun e w' => e = .returned (.bool true) ∧ Below w.heap.size w w' := by
  have HK0 : Hid (Kv (w.alloc (Obj.cells #[.int .i64 b, .int .i64 a, kv] 24)) kv k) := hk.below (below_alloc _ _)
  have HM0 : Hid _ := mb_new w b a kv
  have HB0 : Hid _ := below_alloc w (Obj.cells #[.int .i64 b, .int .i64 a, kv] 24)
  have HOK : Hid _ := hok
  obtain ⟨ka, kn, kc, rfl⟩ := sv_any hk
  clear hk hok
  go_enter Try.func3, Try.ntmps3
  go_upto_region 1 with fail
  obtain ⟨P, hP⟩ : ∃ P, P = w.heap.size := ⟨_, rfl⟩
  rw [← hP] at HM0 ⊢
  clear hP
  generalize w.alloc (Obj.cells #[.int .i64 b, .int .i64 a, .slice ka kn kc] 24) = w0 at HK0 HM0 HB0 ⊢
  go_wp2_with fail
  refine (awake_walk _).mono ?_
  rintro e w1 ⟨rfl, hB1⟩
  have HB1 : Hid (Below w.heap.size w w1) := below_trans HB0.out hB1
  have HK1 : Hid (Kv w1 (.slice ka kn kc) k) := HK0.out.below hB1
  have HM1 : Hid _ := HM0.out.keep hB1
  clear hB1 HB0 HK0 HM0
  have c0 := HM1.out.c0
  have c1 := HM1.out.c1
  have c2 := HM1.out.c2
  go_wp2_with fail
  refine (menc_walk HK1.out HOK.out b a).mono ?_
  rintro e w2 ⟨v2, rfl, ho2, hB2⟩
  have HB2 : Hid (Below w.heap.size w w2) := below_trans HB1.out hB2
  have HK2 : Hid (Kv w2 (.slice ka kn kc) k) := HK1.out.below hB2
  have HM2 : Hid _ := HM1.out.keep hB2
  have HV2 : Hid (Bv w2 v2 (encM ⟨b, a, k⟩).1) := own_bv ho2 (encM_lt HOK.out)
  clear hB2 ho2 HB1 HK1 HM1 c0 c1 c2
  have c0 := HM2.out.c0
  have c1 := HM2.out.c1
  have c2 := HM2.out.c2
  go_wp2_with fail
  refine (rmenc_walk HK2.out HOK.out b a).mono ?_
  rintro e w3 ⟨v3, rfl, ho3, hB3⟩
  have HB3 : Hid (Below w.heap.size w w3) := below_trans HB2.out hB3
  have HK3 : Hid (Kv w3 (.slice ka kn kc) k) := HK2.out.below hB3
  have HM3 : Hid _ := HM2.out.keep hB3
  have HV3 : Hid (Bv w3 v3 (encM ⟨b, a, k⟩).1) := own_bv ho3 (encM_lt HOK.out)
  have HU3 : Hid (Bv w3 v2 (encM ⟨b, a, k⟩).1) := HV2.out.below hB3
  obtain ⟨E, hE⟩ : ∃ E, E = (encM ⟨b, a, k⟩).2 := ⟨_, rfl⟩
  obtain ⟨L, hL⟩ : ∃ L, L = (encM ⟨b, a, k⟩).1 := ⟨_, rfl⟩
  rw [← hE]
  rw [← hL] at HV3 HU3
  clear hE hL hB3 ho3 HB2 HK2 HM2 HV2 c0 c1 c2
  obtain ⟨S, hS⟩ : ∃ S, S = soundB ⟨b, a, k⟩ := ⟨_, rfl⟩
  have c0 : ∀ wx, Below w3.heap.size w3 wx → wx.cell? ⟨P, 0, none⟩ = some (.int .i64 b) := fun wx h => (HM3.out.keep h).c0
  have c1 : ∀ wx, Below w3.heap.size w3 wx → wx.cell? ⟨P, 1, none⟩ = some (.int .i64 a) := fun wx h => (HM3.out.keep h).c1
  have c2 : ∀ wx, Below w3.heap.size w3 wx → wx.cell? ⟨P, 2, none⟩ = some (.slice ka kn kc) := fun wx h => (HM3.out.keep h).c2
  have hs2 : ∀ wx, Below w3.heap.size w3 wx → (convert 26 9 v2).run Try.prog wx = .ok (.string (str L)) wx := fun wx h => (HU3.out.below h).str 26 5 9 Try.underlying26 Try.underlying5 Try.underlying9
  have hs3 : ∀ wx, Below w3.heap.size w3 wx → (convert 26 9 v3).run Try.prog wx = .ok (.string (str L)) wx := fun wx h => (HV3.out.below h).str 26 5 9 Try.underlying26 Try.underlying5 Try.underlying9
  go_wp2_with fail
  go_region_held3 (fun wx => Below w3.heap.size w3 wx) (first | assumption | exact (Below.refl _ _).drew)
    (first
      | (go_at_call 12; refine (sound_walk (HK3.out.below (by assumption)) b a).mono ?_; rw [← hS]; rintro e w9 ⟨rfl, hB9⟩; have hS9 := below_trans (by assumption) hB9)
      | (go_at_call 13; refine (rsound_walk (HK3.out.below (by assumption)) b a).mono ?_; rw [← hS]; rintro e w9 ⟨rfl, hB9⟩; have hS9 := below_trans (by assumption) hB9))
  all_goals go_wp2_with fail
  all_goals go_ret
  all_goals exact ⟨rfl, below_trans HB3.out (by assumption)⟩
end Go.Proofs.Ytjcmmhonidamoab
