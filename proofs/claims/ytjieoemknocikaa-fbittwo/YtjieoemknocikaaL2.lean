/- The walk of FbitTwo: it answers true at every list of floats. -/
import Derived.Test.YtjieoemknocikaaW5
import Derived.Test.YtjieoemknocikaaR1
import Derived.Test.YtjieoemknocikaaOp
namespace Go.Proofs.Ytjieoemknocikaa
open Ieee Go.RowKit

set_option maxHeartbeats 1000000 in
theorem two_walk (b off len cap : Nat) (X : Nat → Nat) (w : World) (hX : Floats w b off len X) (hl : len ≤ cap) (hm : cap ≤ maxLen) :
    Calls Try.prog 4 #[.slice (some ⟨b, off, none⟩) len cap] w fun e w' => e = .returned (.bool true) ∧ ∃ n, w' = w.drewN n := by
  unfold maxLen at hm
  have HX : Hid (Floats w b off len X) := hX
  clear hX
  go_enter Try.func4, Try.ntmps4
  go_wp2_with fail
  refine (awake_walk _).mono ?_
  rintro e w' ⟨rfl, n, rfl⟩
  go_wp2_with fail
  go_loop [3] (fun i => ∃ k : Nat, k ≤ len ∧ i = .int .i64 k) (fun i => len - (intOf i).toNat)
  case atStart => exact ⟨0, Nat.zero_le _, rfl⟩
  case round =>
    obtain ⟨k, hk, rfl⟩ := hrel
    by_cases hlt : k < len
    · obtain ⟨c1, b1⟩ := HX.out k hlt
      obtain ⟨j, hj, hjl⟩ : ∃ j : Nat, ((k : Int) + 1) % (len : Int) = (j : Int) ∧ j < len := ⟨(k + 1) % len, by simp, Nat.mod_lt _ (by omega)⟩
      obtain ⟨c2, b2⟩ := HX.out j hjl
      generalize X k = a at *
      generalize X j = c at *
      go_wp2_with fail
      refine (order_walk b1 b2 _).mono ?_
      rintro e w' ⟨rfl, rfl⟩
      go_wp2_with fail
      refine (rorder_walk b1 b2 _).mono ?_
      rintro e w' ⟨rfl, rfl⟩
      go_wp2_with fail
      refine (least_walk b1 b2 _).mono ?_
      rintro e w' ⟨rfl, rfl⟩
      go_wp2_with fail
      refine (rleast_walk b1 b2 _).mono ?_
      rintro e w' ⟨rfl, rfl⟩
      go_wp2_with fail
      refine (same_walk _ _ _).mono ?_
      rintro e w' ⟨rfl, rfl⟩
      go_wp2_with fail
      refine (most_walk b1 b2 _).mono ?_
      rintro e w' ⟨rfl, rfl⟩
      go_wp2_with fail
      refine (rmost_walk b1 b2 _).mono ?_
      rintro e w' ⟨rfl, rfl⟩
      go_wp2_with fail
      refine (same_walk _ _ _).mono ?_
      rintro e w' ⟨rfl, rfl⟩
      go_wp2_with fail
      go_round
      case rel => exact ⟨k + 1, by omega, by go_num⟩
      case measure => simp [intOf]; omega
    · go_wp2_with fail
      go_ret
      exact ⟨rfl, n, rfl⟩

theorem two_nil (p : Option Addr) (cap : Nat) (w : World) :
    Calls Try.prog 4 #[.slice p 0 cap] w fun e w' => e = .returned (.bool true) ∧ ∃ n, w' = w.drewN n := by
  go_enter Try.func4, Try.ntmps4
  go_wp2_with fail
  refine (awake_walk _).mono ?_
  rintro e w' ⟨rfl, n, rfl⟩
  go_wp2_with fail
  go_loop [3] (fun i => i = .int .i64 0) (fun _ => 0)
  case atStart => rfl
  case round =>
    subst hrel
    go_wp2_with fail
    go_ret
    exact ⟨rfl, n, rfl⟩

end Go.Proofs.Ytjieoemknocikaa
