/- Numbers as hexadecimal digits: contract of strconv's FormatUint at base 16. -/
import Derived.Test.YtomjofhjmghdfaaDoorGs
namespace Go.Proofs.YtomjofhjmghdfaaDoor
open Ieee Go.RowKit Go.Sort

def hexd (n : Nat) : UInt8 := if n < 10 then UInt8.ofNat (48 + n) else UInt8.ofNat (87 + n)

/-- The last m hexadecimal digits of u. -/
def hexRow (u : Nat) : Nat → List UInt8
  | 0 => []
  | i + 1 => hexd (u / 16 ^ i % 16) :: hexRow u i

theorem hexRow_length (u m : Nat) : (hexRow u m).length = m := by
  induction m with
  | zero => rfl
  | succ m ih => simp [hexRow, ih]

theorem hexRow_get (u m j : Nat) (h : j < (hexRow u m).length) : (hexRow u m)[j] = hexd (u / 16 ^ (m - 1 - j) % 16) := by
  induction m generalizing j with
  | zero => simp [hexRow] at h
  | succ m ih =>
    cases j with
    | zero => simp [hexRow]
    | succ j =>
      simp only [hexRow, List.getElem_cons_succ]
      rw [ih, show m + 1 - 1 - (j + 1) = m - 1 - j by omega]

theorem hexRow_pad {u m : Nat} (h : u < 16 ^ m) (j : Nat) : hexRow u (m + j) = List.replicate j 48 ++ hexRow u m := by
  induction j with
  | zero => simp
  | succ j ih =>
    have e : u / 16 ^ (m + j) = 0 := Nat.div_eq_of_lt (Nat.lt_of_lt_of_le h (Nat.pow_le_pow_right (by omega) (by omega)))
    rw [show m + (j + 1) = m + j + 1 by omega, hexRow, e, ih, List.replicate_succ]
    rfl

theorem digits_hex_fin : ∀ i : Fin 16, Lib.digits36.data.toList.getD i.val 0 = hexd i.val := by decide +kernel

theorem idx_digits (k : IntKind) (z : Int) (i : Nat) (hz : z = (i : Int)) (hi : i < 16) (w : World) :
    (Instr.index 9 (.string Lib.digits36) (.int k z)).run Tryd.prog w = .ok (.int .u8 ((hexd i).toNat : Int)) w := by
  subst hz
  rw [run_index_string w 9 Lib.digits36 k _ Tryd.underlying9, dif_pos ⟨by omega, by rw [Lib.digits36_size]; omega⟩]
  have e : ((i : Int)).toNat = i := by omega
  simp only [e]
  rw [Lib.getD_at Lib.digits36 i (by rw [Lib.digits36_size]; omega), digits_hex_fin ⟨i, hi⟩]

theorem pow2_walk (w : World) :
    Calls Tryd.prog 67 #[.int .i64 16] w fun e w' => e = .returned (.bool true) ∧ w' = w := by
  have h : bits .and .i64 16 15 = 0 := by decide +kernel
  go_enter Tryd.func67, Tryd.ntmps67
  go_wp2
  go_ret
  exact ⟨rfl, rfl⟩

theorem tz64_walk (w : World) (ht : Tb w) :
    Calls Tryd.prog 72 #[.int .u64 16] w fun e w' => e = .returned (.int .i64 4) ∧ w' = w := by
  have h : bits .and .u64 16 (IntKind.u64.wrap (-16)) = 16 := by decide +kernel
  have h2 : IntKind.u64.wrap 4573923408821661840 = 4573923408821661840 := by decide +kernel
  have hd := ht.deb
  go_enter Tryd.func72, Tryd.ntmps72
  go_wp2
  go_ret
  exact ⟨rfl, rfl⟩

theorem tz_walk (w : World) (ht : Tb w) :
    Calls Tryd.prog 68 #[.int .u64 16] w fun e w' => e = .returned (.int .i64 4) ∧ w' = w := by
  go_enter Tryd.func68, Tryd.ntmps68
  go_wp2_with (go_at_call 72; refine (tz64_walk _ ht).mono ?_; rintro e w' ⟨rfl, rfl⟩)
  go_ret
  exact ⟨rfl, rfl⟩
end Go.Proofs.YtomjofhjmghdfaaDoor
