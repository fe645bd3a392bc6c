/- Decimal digits read again; bytes of a string. -/
import Derived.Test.YtomjofhjmghdfaaDoorGw
import Derived.Test.YtomjofhjmghdfaaDoorGm
namespace Go.Proofs.YtomjofhjmghdfaaDoor
open Ieee Go.RowKit

/-- What digits tell, behind n. -/
def valU (n : Nat) (l : List UInt8) : Nat := l.foldl (fun n c => (n * 10 + (c.toNat - 48)) % 18446744073709551616) n

theorem decd_nat {i : Nat} (h : i < 10) : (decd i).toNat = 48 + i := by
  unfold decd
  rw [UInt8.toNat_ofNat']
  omega

theorem dec_more {n : Nat} (h : 10 ≤ n) : Lib.decDigits n = Lib.decDigits (n / 10) ++ [decd (n % 10)] := by
  have e := dec_step h []
  rw [List.append_nil] at e
  exact e.symm

theorem dec_less {n : Nat} (h : n < 10) : Lib.decDigits n = [decd n] := Lib.decDigits_one h

theorem dec_digit (n : Nat) : ∀ c ∈ Lib.decDigits n, 48 ≤ c.toNat ∧ c.toNat ≤ 57 := by
  induction n using Nat.strongRecOn with
  | _ n ih =>
    intro c hc
    by_cases h : n < 10
    · rw [dec_less h] at hc
      simp at hc
      rw [hc, decd_nat h]
      omega
    · rw [dec_more (by omega)] at hc
      simp at hc
      rcases hc with hc | hc
      · exact ih (n / 10) (by omega) c hc
      · rw [hc, decd_nat (Nat.mod_lt _ (by omega))]
        omega

theorem dec_val (n : Nat) (hn : n < 18446744073709551616) : valU 0 (Lib.decDigits n) = n := by
  induction n using Nat.strongRecOn with
  | _ n ih =>
    by_cases h : n < 10
    · rw [dec_less h]
      show (0 * 10 + ((decd n).toNat - 48)) % 18446744073709551616 = n
      rw [decd_nat h]
      omega
    · have e := ih (n / 10) (by omega) (by omega)
      rw [dec_more (by omega)]
      unfold valU at e ⊢
      rw [List.foldl_append, e]
      show (n / 10 * 10 + ((decd (n % 10)).toNat - 48)) % 18446744073709551616 = n
      rw [decd_nat (Nat.mod_lt _ (by omega))]
      omega

theorem dec_pos (n : Nat) : 1 ≤ (Lib.decDigits n).length := by rw [Lib.decDigits_length]; exact Lib.nDigits_pos n

/-- The first digit of a number that is not nought is not nought. -/
theorem dec_head (n : Nat) (hn : 1 ≤ n) : (Lib.decDigits n).getD 0 0 ≠ 48 := by
  induction n using Nat.strongRecOn with
  | _ n ih =>
    by_cases h : n < 10
    · rw [dec_less h]
      intro e
      have e2 : (decd n).toNat = 48 := by rw [show decd n = 48 from e]; rfl
      rw [decd_nat h] at e2
      omega
    · rw [dec_more (by omega)]
      have hp := dec_pos (n / 10)
      have e := ih (n / 10) (by omega) (by omega)
      generalize Lib.decDigits (n / 10) = D at hp e ⊢
      cases D with
      | nil => simp at hp
      | cons c D => exact e

theorem dec_lone {n : Nat} (h : (Lib.decDigits n).getD 0 0 = 48) : (Lib.decDigits n).length = 1 := by
  by_cases h0 : 1 ≤ n
  · exact absurd h (dec_head n h0)
  · rw [dec_less (by omega)]
    rfl

/-- What is known of a row of digits that tells q. -/
structure Dg (D : List UInt8) (q : Nat) : Prop where
  lo : 1 ≤ D.length
  hi : D.length ≤ 20
  dig : ∀ i, (h : i < D.length) → 48 ≤ D[i].toNat ∧ D[i].toNat ≤ 57
  head : ∀ h : 0 < D.length, D[0].toNat = 48 → D.length = 1
  val : valU 0 D = q

theorem dg_dec {q : Nat} (hq : q < 18446744073709551616) : Dg (Lib.decDigits q) q := by
  refine ⟨dec_pos q, dec_length hq, fun i h => dec_digit q _ (List.getElem_mem h), fun h e => dec_lone ?_, dec_val q hq⟩
  generalize Lib.decDigits q = D at h e ⊢
  cases D with
  | nil => simp at h
  | cons c D =>
    show c = 48
    exact UInt8.toNat_inj.1 e

theorem val_next (D : List UInt8) (i : Nat) (h : i < D.length) : valU 0 (D.take (i + 1)) = (valU 0 (D.take i) * 10 + (D[i].toNat - 48)) % 18446744073709551616 := by
  rw [List.take_succ_eq_append_getElem h]
  unfold valU
  rw [List.foldl_append]
  rfl

theorem idx_str (l : List UInt8) (i : Nat) (h : i < l.length) (w : World) :
    (Instr.index 9 (.string ⟨l.toArray⟩) (.int .i64 (i : Int))).run Tryd.prog w = .ok (.int .u8 (l[i].toNat : Int)) w := by
  rw [run_index_string w 9 _ .i64 _ Tryd.underlying9, dif_pos ⟨by omega, by rw [size_mk]; omega⟩]
  have e : ((i : Int)).toNat = i := by omega
  simp only [e]
  rw [Lib.getD_at _ i (by rw [size_mk]; exact h)]
  simp [h]

theorem cut_one (c : UInt8) (l : List UInt8) (w : World) :
    (Instr.slice 9 (.string ⟨(c :: l).toArray⟩) (some (.int .i64 1)) none none).run Tryd.prog w = .ok (.string ⟨l.toArray⟩) w := by
  rw [run_slice_string_from_if w 9 _ .i64 1 Tryd.underlying9, if_pos ⟨by omega, by rw [size_mk, List.length_cons]; omega⟩]
  have e : ((1 : Int)).toNat = 1 := by omega
  rw [e, Lib.extract_eq, size_mk]
  simp
end Go.Proofs.YtomjofhjmghdfaaDoor
