/- BucketMemory: cells and bytes that are handed in stay, their spare room too; what is answered is new memory: written over and grown, it is seen in no other answer.
-/
import Derived.Test.YtjcmmhonidamoaaBz
import Derived.Test.YtjcmmhonidamoaaFf
import Derived.SizedLaws
namespace Go.Proofs.Ytjcmmhonidamoaa
open Go.ChangeShapes Go.WideShapes Go.ChangeAt Go.RowKit

set_option maxRecDepth 100000 in
theorem lifted_bucketMemory (os : Os) (started : os.Started) (H : Type) (enc : TypeId × Value → H) :
    ReturnsInHanded {} Try.checked os 8 .any (Rows.bucketMemorySpec.pre6 enc Try.prog Try.f8 Rows.bucketMemoryRow.domain false) (Rows.bucketMemorySpec.post enc Try.prog Try.f8 false true false false) := by
  refine returnsInHanded_of_change_sized (C := Try.checked) own_knob started (by kernel_rfl) Try.func8
    (ChangeSpec.witness6 (enc := enc) (C := Try.checked) false ⟨#[], #[.slice none 0 0, .agg #[.int .u64 0, .bool false, .int .u64 0, .bool false, .int .u64 0, .int .i64 0]], []⟩ 8 (by kernel_rfl) (by kernel_rfl) (by kernel_rfl) (by kernel_rfl)) ?_
  intro W base args ds gs before hval0 hW hcnd hsz0 _
  have hval : ∀ (j : Nat) t v, Try.f8.params[j]? = some t → args[j]? = some v → Value.okWide Try.prog W .any base t v := hval0
  have hW' := hW
  obtain ⟨p, q, hA0, hV, rfl, hfz, hnd⟩ := hW
  have hA : DataW.TrodAll enc Try.prog W 0 (fun _ => true) true Try.f8.params.toList args.toList ds p := hA0
  have hsz : (DataW.weightsEach Try.prog (Try.f8.params.toList ++ Rows.bucketMemorySpec.plain.varTypes Try.prog) (ds ++ gs)).all (· ≤ reachBytes) = true := hsz0
  rw [Try.params8] at hA hval hsz
  obtain ⟨v0, vs0, d0, ds0, p0, q0, hargs, rfl, rfl, t0, r0⟩ := trodAll_cons hA
  obtain ⟨v1, vs1, d1, ds1, p1, q1, rfl, rfl, rfl, t1, r1⟩ := trodAll_cons r0
  obtain ⟨rfl, rfl, rfl⟩ := trodAll_nil r1
  obtain rfl : args = #[v0, v1] := by cases args; simp_all
  obtain ⟨rfl, rfl⟩ := trodVars_none hV
  simp only [List.append_nil] at hW' hsz
  obtain ⟨l0, b0, y0, z0⟩ := open_arg zeroC Try.underlying22 cells_cell (by omega) (fun _ => rfl) cells_of_cell (hval 0 22 v0 rfl rfl) t0
  obtain ⟨c1, e1, b1, cn1⟩ := open_cell (hval 1 37 v1 rfl rfl) t1
  subst e1
  have hlen : (l0.length + 1) * 48 ≤ 140737488351280 := by
    rcases z0 with ⟨_, rfl⟩ | ⟨el, sp, hd, he⟩
    · simp
    · subst hd
      have hs := sized_slice hsz (j := 0) (t := 22) (e := 37) rfl rfl Try.underlying22
      rw [show Try.prog.bytesOf 37 = 48 by kernel_rfl] at hs
      simp only [reachBytes] at hs
      omega
  refine (bucketmemory_walk c1 b0 y0 hlen).mono fun e W' ⟨he, hB⟩ => ?_
  subst he
  exact ⟨_, rfl, post_of_below (pv := []) hW' (fun _ _ _ => (trodAll_cons_mk (shut_bool Try.underlying4 _) trodAll_mk0)) (fun sp hsp => (trodAll_cons_mk (again (by kernel_rfl) (of_decide_eq_true (by kernel_rfl)) t0 hB (fun x hx => by simpa using hW'.lt x (by simp [hx])) (fun x hx => hsp x (by simp [hx]))) (trodAll_cons_mk (again (by kernel_rfl) (of_decide_eq_true (by kernel_rfl)) t1 hB (fun x hx => by simpa using hW'.lt x (by simp [hx])) (fun x hx => hsp x (by simp [hx]))) trodAll_mk0))) (fun _ _ => rfl) (by simp) hB⟩

theorem bucketMemory_holds : Rows.BucketMemorySaid :=
  OpenClaim.holds_of_wide 8 Try.f8 rfl rfl rfl rfl rfl rfl rfl ⟨rfl, rfl, rfl, rfl, rfl⟩ rfl rfl rfl rfl rfl (by kernel_rfl) Try.func8 (by kernel_rfl)
    (of_decide_eq_true (by kernel_rfl)) (by unfold Func.isWrapper; first | (rw [if_pos (by decide +kernel)]; kernel_rfl) | (rw [if_neg (by decide +kernel)]; exact ⟨rfl, rfl⟩))
    (fun os started H enc _ => lifted_bucketMemory os started H enc)
#print axioms bucketMemory_holds
end Go.Proofs.Ytjcmmhonidamoaa
