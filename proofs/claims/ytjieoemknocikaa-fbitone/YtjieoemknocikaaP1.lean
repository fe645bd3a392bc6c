/- FbitOne, proved: at every list of floats the statement answers true: Class, Canon, Whole and Floor of each float are what the document answers by the bits. No condition: every input.
-/
import Derived.Test.YtjieoemknocikaaOp
import Derived.Test.YtjieoemknocikaaL1
namespace Go.Proofs.Ytjieoemknocikaa
open Go.ChangeShapes Go.WideShapes Go.ChangeAt Go.RowKit

set_option maxRecDepth 100000 in
theorem lifted_fbitOne (os : Os) (started : os.Started) (H : Type) (enc : TypeId × Value → H) :
    ReturnsInHanded {} Try.checked os 3 .any (Rows.fbitOneSpec.pre6 enc Try.prog Try.f3 Rows.fbitOneRow.domain false) (Rows.fbitOneSpec.post enc Try.prog Try.f3 false true false false) := by
  refine returnsInHanded_of_change (C := Try.checked) own_knob started (by kernel_rfl) Try.func3
    (ChangeSpec.witness6 (enc := enc) (C := Try.checked) false ⟨#[], #[.slice none 0 0], []⟩ 8 (by kernel_rfl) (by kernel_rfl) (by kernel_rfl) (by kernel_rfl)) ?_
  intro W base args ds gs before hval0 hW hcnd _
  have hval : ∀ (j : Nat) t v, Try.f3.params[j]? = some t → args[j]? = some v → Value.okWide Try.prog W .any base t v := hval0
  have hW' := hW
  obtain ⟨p, q, hA0, hV, rfl, hfz, hnd⟩ := hW
  have hA : DataW.TrodAll enc Try.prog W 0 (fun _ => true) true Try.f3.params.toList args.toList ds p := hA0
  rw [Try.params3] at hA hval
  obtain ⟨v0, d0, rfl, rfl, h0⟩ := trodAll_one hA
  obtain ⟨rfl, rfl⟩ := trodVars_none hV
  clear hA0 hval0
  simp only [List.append_nil] at hW'
  have shut : ∀ (e : Ending) (W' : World), (e = .returned (.bool true) ∧ ∃ n, W' = W.drewN n) → ∃ v, e = .returned v ∧ Rows.fbitOneSpec.post enc Try.prog Try.f3 false true false false W #[v0] v W' := by
    rintro e W' ⟨rfl, m, rfl⟩
    have hg := grown_drewN W m
    have hlt : ∀ x ∈ p, x.block < W.heap.size := fun x hx => by simpa using hW'.lt x (by simpa using hx)
    exact ⟨_, rfl, post_of_same (pv := []) hW' (fun _ _ _ => (trodAll_cons_mk (shut_bool Try.underlying4 _) trodAll_mk0)) (fun sp hsp => trodAll_mk1 (list_again h0 hlt (fun x hx => hsp x (by simpa using hx)))) (fun _ _ => rfl) (by simp)
      (hg.frame _) hg.2.1 (ok_one (by kernel_rfl) rfl (okWide_bool_mk Try.underlying4 _))⟩
  rcases floats_open (hval 0 22 v0 rfl rfl) h0 with ⟨a, cap, rfl⟩ | ⟨b, off, len, cap, X, rfl, hl, hm, hX⟩
  · exact (one_nil a cap W).mono fun e W' h => shut e W' h
  · exact (one_walk b off len cap X W hX hl hm).mono fun e W' h => shut e W' h

theorem fbitOne_holds : Rows.FbitOneSaid :=
  OpenClaim.holds_of_wide 3 Try.f3 rfl rfl rfl rfl rfl rfl rfl ⟨rfl, rfl, rfl, rfl, rfl⟩ rfl rfl rfl rfl rfl (by kernel_rfl) Try.func3 (by kernel_rfl)
    (of_decide_eq_true (by kernel_rfl)) (by unfold Func.isWrapper; first | (rw [if_pos (by decide +kernel)]; kernel_rfl) | (rw [if_neg (by decide +kernel)]; exact ⟨rfl, rfl⟩))
    (fun os started H enc _ => lifted_fbitOne os started H enc)
#print axioms fbitOne_holds
end Go.Proofs.Ytjieoemknocikaa
