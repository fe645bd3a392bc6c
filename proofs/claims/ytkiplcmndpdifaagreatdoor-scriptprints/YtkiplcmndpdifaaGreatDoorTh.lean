/- ScriptForth, walked. -/
import Derived.Test.YtkiplcmndpdifaaGreatDoorTg

namespace Go.Proofs.YtkiplcmndpdifaaGreatDoor

open Go.RowKit

attribute [local go_sem] run_store_float


theorem ov_nil (w : World) : OVw w (.slice none 0 0) [] := ⟨none, 0, rfl, Nat.le_refl _, by simp [maxLen], fun _ => rfl, fun i hi => by simp at hi⟩


theorem print_of {T : Bs} {s : Rs} (h : parseT T = .ok s) : (262144 < (bareL (splitB 10 T)).length → printE s.p s.ops s.sts = 6 ∧ printT s.p s.ops s.sts = []) ∧ (¬ 262144 < (bareL (splitB 10 T)).length → printE s.p s.ops s.sts = 0 ∧ printT s.p s.ops s.sts = bareL (splitB 10 T)) := by
  obtain ⟨h1, h2, _⟩ := parse_form h
  have h4 : ¬ 4096 < s.sts.length := by have := h1.len; omega
  constructor
  · intro hb
    have e : printE s.p s.ops s.sts = 6 := by unfold printE; rw [if_neg h4, if_neg (by simp [h1.es]), h2, if_pos hb]
    refine ⟨e, ?_⟩
    unfold printT
    rw [e]
    rfl
  · intro hb
    have e : printE s.p s.ops s.sts = 0 := by unfold printE; rw [if_neg h4, if_neg (by simp [h1.es]), h2, if_neg hb]
    refine ⟨e, ?_⟩
    unfold printT
    rw [if_pos e, h2]


end Go.Proofs.YtkiplcmndpdifaaGreatDoor


