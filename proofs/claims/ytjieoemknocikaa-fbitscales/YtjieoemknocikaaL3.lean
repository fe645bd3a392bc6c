/- The walk of FbitScales: it answers true at every list of floats and every power. -/
import Derived.Test.YtjieoemknocikaaW5
import Derived.Test.YtjieoemknocikaaR6
import Derived.Test.YtjieoemknocikaaOp
import Derived.Deep.QuietTactic
import Derived.BigQuiet
namespace Go.Proofs.Ytjieoemknocikaa
open Ieee Go.RowKit

set_option maxHeartbeats 1000000 in
theorem scales_walk (b off len cap : Nat) (X : Nat → Nat) (p : Int) (w : World) (hX : Floats w b off len X) (hl : len ≤ cap) (hm : cap ≤ maxLen) :
    Calls Try.prog 5 #[.slice (some ⟨b, off, none⟩) len cap, .int .i64 p] w fun e w' => e = .returned (.bool true) ∧ ∃ n, w' = w.drewN n := by
  unfold maxLen at hm
  have HX : Hid (Floats w b off len X) := hX
  clear hX
  go_enter Try.func5, Try.ntmps5
  go_wp2_with fail
  refine (awake_walk _).mono ?_
  rintro e w' ⟨rfl, n, rfl⟩
  go_wp2_with fail
  go_loopw [5] (fun i wr => ∃ k n : Nat, k ≤ len ∧ i = .int .i64 k ∧ wr = w.drewN n) (fun i _ => len - (intOf i).toNat)
  case atStart => exact ⟨0, n, Nat.zero_le _, rfl, rfl⟩
  case round =>
    obtain ⟨k, n, hk, rfl, rfl⟩ := hrel
    by_cases hlt : k < len
    · obtain ⟨c1, b1⟩ := HX.out k hlt
      generalize X k = a at *
      have c2 : (w.drewN n).cell? ⟨b, off + k, none⟩ = some (.float .f64 a) := c1
      clear c1
      generalize hw : w.drewN n = wr at c2 ⊢
      have HW : Hid (w.drewN n = wr) := hw
      clear hw
      go_wp2_with fail
      go_quiet ((first | (go_at_call 25; exact Calls.quiet_of_same (scale_walk p b1 _)) | (go_at_call 26; exact Calls.quiet_of_same (rscale_walk p b1 _)) | (go_at_call 12; exact Calls.quiet_of_same (same_walk _ _ _))))
      go_wp2_with fail
      go_roundw
      case rel => exact ⟨k + 1, n + nq, by omega, by go_num, by rw [← HW.out, World.drewN_drewN]⟩
      case measure => simp [intOf]; omega
    · go_wp2_with fail
      go_ret
      exact ⟨rfl, n, rfl⟩

theorem scales_nil (q : Option Addr) (cap : Nat) (p : Int) (w : World) :
    Calls Try.prog 5 #[.slice q 0 cap, .int .i64 p] w fun e w' => e = .returned (.bool true) ∧ ∃ n, w' = w.drewN n := by
  go_enter Try.func5, Try.ntmps5
  go_wp2_with fail
  refine (awake_walk _).mono ?_
  rintro e w' ⟨rfl, n, rfl⟩
  go_wp2_with fail
  go_loop [5] (fun i => i = .int .i64 0) (fun _ => 0)
  case atStart => rfl
  case round =>
    subst hrel
    go_wp2_with fail
    go_ret
    exact ⟨rfl, n, rfl⟩

end Go.Proofs.Ytjieoemknocikaa
