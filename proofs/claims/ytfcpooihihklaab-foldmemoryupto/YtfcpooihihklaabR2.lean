/- Contracts of the document's answer for Whole and Floor. -/
import Derived.Test.YtfcpooihihklaabR1
import Derived.Test.YtfcpooihihklaabW2
import Derived.Test.YtfcpooihihklaabFi
namespace Go.Proofs.Ytfcpooihihklaab
open Ieee Go.RowKit

theorem mag_parts {x : Nat} (h : 1 ≤ eB x) : mag (rung x) = fB x + 4503599627370496 ∧ sh (rung x) = eB x - 1 := by
  obtain ⟨hp, hf⟩ := @rung_parts x
  unfold mag sh
  rw [hp]
  constructor
  · rw [if_neg (by omega)]; omega
  · omega

theorem whole_low {x : Nat} (hn : nanB x = false) (h : eB x < 1023) : wholeI x = 0 := by
  obtain ⟨hp, hf⟩ := @rung_parts x
  have hw : wn (rung x) = 0 := by
    have hs : sh (rung x) ≤ 1021 := by unfold sh; omega
    have hm := mag_lt (rung x)
    unfold wn
    rw [if_neg (by omega)]
    apply Nat.div_eq_of_lt
    have : 2 ^ 53 ≤ 2 ^ (1074 - sh (rung x)) := Nat.pow_le_pow_right (by omega) (by omega)
    omega
  unfold wholeI
  rw [hn, hw, if_neg (by simp), if_neg (by omega)]
  split <;> rfl

theorem whole_mid {x : Nat} (l1 : 1075 ≤ eB x) (l2 : eB x ≤ 1085) : IntKind.u64.wrap (((fB x : Int) + 4503599627370496) * 2 ^ (eB x - 1075)) = (wn (rung x) : Int) ∧ wn (rung x) < 9223372036854775808 := by
  obtain ⟨hm, hsh⟩ := mag_parts (x := x) (by omega)
  obtain ⟨hp, hf⟩ := @rung_parts x
  have hl := wn_lt (r := rung x) (by omega)
  have hw : wn (rung x) = (fB x + 4503599627370496) * 2 ^ (eB x - 1075) := by
    unfold wn; rw [hm, hsh, if_pos (by omega), show eB x - 1 - 1074 = eB x - 1075 by omega]
  refine ⟨?_, hl⟩
  have e : (((fB x + 4503599627370496) * 2 ^ (eB x - 1075) : Nat) : Int) = ((fB x : Int) + 4503599627370496) * 2 ^ (eB x - 1075) := by
    rw [Int.natCast_mul, Int.natCast_add, Int.natCast_pow]; rfl
  rw [← e, ← hw, IntKind.wrap_u64]
  omega
theorem whole_lo {x : Nat} (l1 : 1023 ≤ eB x) (l2 : eB x ≤ 1074) : ((fB x : Int) + 4503599627370496) / 2 ^ (1075 - eB x) = (wn (rung x) : Int) ∧ wn (rung x) < 9223372036854775808 := by
  obtain ⟨hm, hsh⟩ := mag_parts (x := x) (by omega)
  obtain ⟨hp, hf⟩ := @rung_parts x
  have hl := wn_lt (r := rung x) (by omega)
  have hw : wn (rung x) = (fB x + 4503599627370496) / 2 ^ (1075 - eB x) := by
    unfold wn; rw [hm, hsh, if_neg (by omega), show 1074 - (eB x - 1) = 1075 - eB x by omega]
  refine ⟨?_, hl⟩
  have e : (((fB x + 4503599627370496) / 2 ^ (1075 - eB x) : Nat) : Int) = ((fB x : Int) + 4503599627370496) / 2 ^ (1075 - eB x) := by
    rw [Int.natCast_ediv, Int.natCast_add, Int.natCast_pow]; rfl
  rw [← e, ← hw]

end Go.Proofs.Ytfcpooihihklaab
