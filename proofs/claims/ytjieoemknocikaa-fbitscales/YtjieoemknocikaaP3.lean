/- FbitScales, proved: at every list of floats and every power the statement answers true: Scale of each float is what the document answers by the bits, rounded once. No condition: every input.
-/
import Derived.Test.YtjieoemknocikaaOp
import Derived.Test.YtjieoemknocikaaL3
namespace Go.Proofs.Ytjieoemknocikaa
open Go.ChangeShapes Go.WideShapes Go.ChangeAt Go.RowKit

set_option maxRecDepth 100000 in
theorem lifted_fbitScales (os : Os) (started : os.Started) (H : Type) (enc : TypeId × Value → H) :
    ReturnsInHanded {} Try.checked os 5 .any (Rows.fbitScalesSpec.pre6 enc Try.prog Try.f5 Rows.fbitScalesRow.domain false) (Rows.fbitScalesSpec.post enc Try.prog Try.f5 false true false false) := by
  refine returnsInHanded_of_change (C := Try.checked) own_knob started (by kernel_rfl) Try.func5
    (ChangeSpec.witness6 (enc := enc) (C := Try.checked) false ⟨#[], #[.slice none 0 0, .int .i64 0], []⟩ 8 (by kernel_rfl) (by kernel_rfl) (by kernel_rfl) (by kernel_rfl)) ?_
  intro W base args ds gs before hval0 hW hcnd _
  have hval : ∀ (j : Nat) t v, Try.f5.params[j]? = some t → args[j]? = some v → Value.okWide Try.prog W .any base t v := hval0
  have hW' := hW
  obtain ⟨p, q, hA0, hV, rfl, hfz, hnd⟩ := hW
  have hA : DataW.TrodAll enc Try.prog W 0 (fun _ => true) true Try.f5.params.toList args.toList ds p := hA0
  rw [Try.params5] at hA hval
  obtain ⟨v0, v1, d0, d1, p0, p1, rfl, rfl, rfl, h0, h1⟩ := trodAll_two hA
  obtain ⟨rfl, rfl⟩ := trodVars_none hV
  obtain ⟨a1, rfl, rfl, rfl, w1⟩ := open_int Try.underlying3 (hval 1 3 v1 rfl rfl) h1
  clear hA0 hval0
  simp only [List.append_nil] at hW'
  have shut : ∀ (e : Ending) (W' : World), (e = .returned (.bool true) ∧ ∃ n, W' = W.drewN n) → ∃ v, e = .returned v ∧ Rows.fbitScalesSpec.post enc Try.prog Try.f5 false true false false W #[v0, .int .i64 a1] v W' := by
    rintro e W' ⟨rfl, m, rfl⟩
    have hg := grown_drewN W m
    have hlt : ∀ x ∈ p0, x.block < W.heap.size := fun x hx => by simpa using hW'.lt x (by simpa using hx)
    exact ⟨_, rfl, post_of_same (pv := []) hW' (fun _ _ _ => (trodAll_cons_mk (shut_bool Try.underlying4 _) trodAll_mk0)) (fun sp hsp => trodAll_mk2 (list_again h0 hlt (fun x hx => hsp x (by simpa using hx))) (shut_int Try.underlying3 w1)) (fun _ _ => rfl) (by simp)
      (hg.frame _) hg.2.1 (ok_one (by kernel_rfl) rfl (okWide_bool_mk Try.underlying4 _))⟩
  rcases floats_open (hval 0 22 v0 rfl rfl) h0 with ⟨a, cap, rfl⟩ | ⟨b, off, len, cap, X, rfl, hl, hm, hX⟩
  · exact (scales_nil a cap a1 W).mono fun e W' h => shut e W' h
  · exact (scales_walk b off len cap X a1 W hX hl hm).mono fun e W' h => shut e W' h

theorem fbitScales_holds : Rows.FbitScalesSaid :=
  OpenClaim.holds_of_wide 5 Try.f5 rfl rfl rfl rfl rfl rfl rfl ⟨rfl, rfl, rfl, rfl, rfl⟩ rfl rfl rfl rfl rfl (by kernel_rfl) Try.func5 (by kernel_rfl)
    (of_decide_eq_true (by kernel_rfl)) (by unfold Func.isWrapper; first | (rw [if_pos (by decide +kernel)]; kernel_rfl) | (rw [if_neg (by decide +kernel)]; exact ⟨rfl, rfl⟩))
    (fun os started H enc _ => lifted_fbitScales os started H enc)
#print axioms fbitScales_holds
end Go.Proofs.Ytjieoemknocikaa
