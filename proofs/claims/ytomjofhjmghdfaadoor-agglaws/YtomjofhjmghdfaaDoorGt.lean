/- Texts of values: both Text, and decimal. -/
import Derived.Test.YtomjofhjmghdfaaDoorGc
import Derived.Test.YtomjofhjmghdfaaDoorGi
namespace Go.Proofs.YtomjofhjmghdfaaDoor
open Ieee Go.RowKit

def sumL (b : Nat) : List UInt8 := if b < 9223372036854775808 then Lib.decDigits b else 45 :: Lib.decDigits (18446744073709551616 - b)

/-- The text of a fit value that is one. -/
def digL (k : Int) (b : Nat) : List UInt8 := if k = 1 then Lib.decDigits b else if k = 2 then sumL b else hexRow b 16

def textL (k : Int) (v : Vl) : List UInt8 :=
  if knownB k = false then [] else if (fitV k v).h = false then [45] else digL k (fitV k v).b

theorem add_mk (a b : List UInt8) : (⟨a.toArray⟩ ++ ⟨b.toArray⟩ : ByteArray) = ⟨(a ++ b).toArray⟩ := by
  rw [ByteArray.ext_iff]
  simp [ByteArray.data_append]

theorem size_mk (l : List UInt8) : (⟨l.toArray⟩ : ByteArray).size = l.length := by simp [ByteArray.size]

theorem run_add (a b : List UInt8) (h : a.length + b.length ≤ 9223372036854775807) (w : World) : (Op.stringOp .add ⟨a.toArray⟩ ⟨b.toArray⟩).run Tryd.prog w = .ok (.string ⟨(a ++ b).toArray⟩) w := by
  have e := run_string_add_sum (P := Tryd.prog) w ⟨a.toArray⟩ ⟨b.toArray⟩ (by rw [size_mk, size_mk]; exact h)
  rw [add_mk] at e
  exact e

theorem itoa_sum {b : Nat} (hb : b < 18446744073709551616) : Lib.itoa (wrap64 (b : Int)) = sumL b := by
  have e : wrap64 (b : Int) = if b < 9223372036854775808 then (b : Int) else -((18446744073709551616 - b : Nat) : Int) := by
    unfold wrap64
    split <;> omega
  rw [e]
  unfold sumL
  split
  · exact Lib.itoa_nonneg b
  · exact Lib.itoa_neg _ (by omega)

theorem dec_length {b : Nat} (hb : b < 18446744073709551616) : (Lib.decDigits b).length ≤ 20 := by
  rw [Lib.decDigits_length]
  by_cases h : 1 ≤ b
  · have := Lib.numDigits_eq b h hb
    split at this <;> omega
  · rw [Lib.nDigits_small (by omega)]
    omega

def decd (n : Nat) : UInt8 := UInt8.ofNat (48 + n)

theorem dec_step {n : Nat} (h : 10 ≤ n) (s : List UInt8) : Lib.decDigits (n / 10) ++ (decd (n % 10) :: s) = Lib.decDigits n ++ s := by
  rw [Lib.decDigits.eq_1 n, dif_neg (by omega)]
  simp [decd]

theorem repeat_nought (c : Nat) : Lib.repeatL [48] c = List.replicate c 48 := by
  induction c with
  | zero => rfl
  | succ c ih => rw [Lib.repeatL, ih, List.replicate_succ]; rfl

theorem hex_whole {u m c : Nat} (h : u < 16 ^ m) (hc : m + c = 16) : Lib.repeatL [48] c ++ hexRow u m = hexRow u 16 := by
  rw [repeat_nought, ← hc, hexRow_pad h]

/-- A piece of one byte of a constant of digits. -/
theorem dec_piece_fin : ∀ i : Fin 10, (((⟨#[48, 49, 50, 51, 52, 53, 54, 55, 56, 57]⟩ : ByteArray).data.toList.drop i.val).take (i.val + 1 - i.val)) = [decd i.val] := by decide +kernel

theorem hex_piece_fin : ∀ i : Fin 16, (((⟨#[48, 49, 50, 51, 52, 53, 54, 55, 56, 57, 97, 98, 99, 100, 101, 102]⟩ : ByteArray).data.toList.drop i.val).take (i.val + 1 - i.val)) = [hexd i.val] := by decide +kernel

theorem run_dec (z z1 : Int) (i : Nat) (hz : z = (i : Int)) (hz1 : z1 = (i : Int) + 1) (hi : i < 10) (w : World) :
    (Instr.slice 9 (.string ⟨#[48, 49, 50, 51, 52, 53, 54, 55, 56, 57]⟩) (some (.int .u64 z)) (some (.int .u64 z1)) none).run Tryd.prog w = .ok (.string ⟨[decd i].toArray⟩) w := by
  subst hz hz1
  rw [run_slice_string w 9 _ .u64 .u64 _ _ Tryd.underlying9 (by omega) (by omega) (by show (i : Int) + 1 ≤ 10; omega), show ((i : Int)).toNat = i by omega, show ((i : Int) + 1).toNat = i + 1 by omega, Lib.extract_eq, dec_piece_fin ⟨i, hi⟩]

theorem run_hex (z z1 : Int) (i : Nat) (hz : z = (i : Int)) (hz1 : z1 = (i : Int) + 1) (hi : i < 16) (w : World) :
    (Instr.slice 9 (.string ⟨#[48, 49, 50, 51, 52, 53, 54, 55, 56, 57, 97, 98, 99, 100, 101, 102]⟩) (some (.int .u64 z)) (some (.int .u64 z1)) none).run Tryd.prog w = .ok (.string ⟨[hexd i].toArray⟩) w := by
  subst hz hz1
  rw [run_slice_string w 9 _ .u64 .u64 _ _ Tryd.underlying9 (by omega) (by omega) (by show (i : Int) + 1 ≤ 16; omega), show ((i : Int)).toNat = i by omega, show ((i : Int) + 1).toNat = i + 1 by omega, Lib.extract_eq, hex_piece_fin ⟨i, hi⟩]

set_option maxHeartbeats 4000000 in
theorem decimal_walk (n0 : Nat) (hn0 : n0 < 18446744073709551616) (w : World) :
    Calls Tryd.prog 36 #[.int .u64 n0] w fun e w' => e = .returned (.string ⟨(Lib.decDigits n0).toArray⟩) ∧ w' = w := by
  have HL : Hid (n0 < 18446744073709551616 ∧ (Lib.decDigits n0).length ≤ 20) := ⟨hn0, dec_length hn0⟩
  clear hn0
  go_enter Tryd.func36, Tryd.ntmps36
  go_wp2_with fail
  go_loop [0, 4] (fun vn vs => ∃ (n : Nat) (s : List UInt8), vn = .int .u64 n ∧ vs = .string ⟨s.toArray⟩ ∧ n ≤ n0 ∧ Lib.decDigits n ++ s = Lib.decDigits n0) (fun vn _ => (intOf vn).toNat)
  case atStart => exact ⟨n0, [], rfl, rfl, Nat.le_refl _, by simp⟩
  case round =>
    obtain ⟨n, s, rfl, rfl, hn', hs'⟩ := hrel
    have HS : Hid (n ≤ n0 ∧ Lib.decDigits n ++ s = Lib.decDigits n0) := ⟨hn', hs'⟩
    have HSL : Hid (s.length ≤ 20) := by
      have h := HL.out.2
      rw [← hs'] at h
      simp at h
      show _ ≤ _
      omega
    have HN : Hid (n < 18446744073709551616) := Nat.lt_of_le_of_lt hn' HL.out.1
    clear hn' hs'
    by_cases h10 : 10 ≤ n
    · have h10' : (10 : Int) ≤ (n : Int) := by omega
      have e1 : IntKind.u64.wrap ((n : Int) % 10 + 1) = (n : Int) % 10 + 1 := by rw [IntKind.wrap_u64]; omega
      have e2 : IntKind.u64.wrap ((n : Int) / 10) = (n : Int) / 10 := by have := HN.out; rw [IntKind.wrap_u64]; omega
      have hx := fun wx => run_dec ((n : Int) % 10) ((n : Int) % 10 + 1) (n % 10) (by omega) (by omega) (by omega) wx
      have ha := fun wx => run_add [decd (n % 10)] s (by have := HSL.out; simp; omega) wx
      have H10 : Hid (10 ≤ n) := h10
      clear h10
      go_wp2_with fail
      go_round
      case rel => exact ⟨n / 10, _, by simp, rfl, by have := HS.out.1; omega, by rw [dec_step H10.out]; exact HS.out.2⟩
      case measure => have := H10.out; simp [intOf]; omega
    · have h10' : (n : Int) < 10 := by omega
      have e1 : IntKind.u64.wrap ((n : Int) + 1) = (n : Int) + 1 := by rw [IntKind.wrap_u64]; omega
      have hx := fun wx => run_dec (n : Int) ((n : Int) + 1) n rfl rfl (by omega) wx
      have ha := fun wx => run_add [decd n] s (by have := HSL.out; simp; omega) wx
      have H10 : Hid (n < 10) := by show _ < _; omega
      clear h10
      go_wp2_with fail
      go_ret
      refine ⟨?_, rfl⟩
      rw [← HS.out.2, Lib.decDigits_one H10.out]
      rfl
end Go.Proofs.YtomjofhjmghdfaaDoor
