/- The reference's digits: decimal, hex, and the words of kinds. -/
import Derived.Test.YtkiplcmndpdifaaGreatDoorRh

namespace Go.Proofs.YtkiplcmndpdifaaGreatDoor

open Go.RowKit

attribute [local go_sem] run_bits run_frombits run_store_float


def decd (n : Nat) : UInt8 := UInt8.ofNat (48 + n)


theorem dec_step {n : Nat} (h : 10 ≤ n) (s : List UInt8) : Lib.decDigits (n / 10) ++ (decd (n % 10) :: s) = Lib.decDigits n ++ s := by
  rw [Lib.decDigits.eq_1 n, dif_neg (by omega)]
  simp [decd]


/-- A piece of one byte of a constant of digits. -/
theorem dec_piece_fin : ∀ i : Fin 10, (((⟨#[48, 49, 50, 51, 52, 53, 54, 55, 56, 57]⟩ : ByteArray).data.toList.drop i.val).take (i.val + 1 - i.val)) = [decd i.val] := by decide +kernel


theorem hex_piece_fin : ∀ i : Fin 16, (((⟨#[48, 49, 50, 51, 52, 53, 54, 55, 56, 57, 97, 98, 99, 100, 101, 102]⟩ : ByteArray).data.toList.drop i.val).take (i.val + 1 - i.val)) = [hexd i.val] := by decide +kernel


theorem run_dec (z z1 : Int) (i : Nat) (hz : z = (i : Int)) (hz1 : z1 = (i : Int) + 1) (hi : i < 10) (w : World) :
    (Instr.slice 9 (.string ⟨#[48, 49, 50, 51, 52, 53, 54, 55, 56, 57]⟩) (some (.int .u64 z)) (some (.int .u64 z1)) none).run Tryz.prog w = .ok (.string ⟨[decd i].toArray⟩) w := by
  subst hz hz1
  rw [run_slice_string w 9 _ .u64 .u64 _ _ Tryz.underlying9 (by omega) (by omega) (by show (i : Int) + 1 ≤ 10; omega), show ((i : Int)).toNat = i by omega, show ((i : Int) + 1).toNat = i + 1 by omega, Lib.extract_eq, dec_piece_fin ⟨i, hi⟩]


theorem run_hex (z z1 : Int) (i : Nat) (hz : z = (i : Int)) (hz1 : z1 = (i : Int) + 1) (hi : i < 16) (w : World) :
    (Instr.slice 9 (.string ⟨#[48, 49, 50, 51, 52, 53, 54, 55, 56, 57, 97, 98, 99, 100, 101, 102]⟩) (some (.int .u64 z)) (some (.int .u64 z1)) none).run Tryz.prog w = .ok (.string ⟨[hexd i].toArray⟩) w := by
  subst hz hz1
  rw [run_slice_string w 9 _ .u64 .u64 _ _ Tryz.underlying9 (by omega) (by omega) (by show (i : Int) + 1 ≤ 16; omega), show ((i : Int)).toNat = i by omega, show ((i : Int) + 1).toNat = i + 1 by omega, Lib.extract_eq, hex_piece_fin ⟨i, hi⟩]


set_option maxHeartbeats 4000000 in
theorem decimal_walk (n0 : Nat) (hn0 : n0 < 18446744073709551616) (w : World) :
    Calls Tryz.prog 57 #[.int .u64 n0] w fun e w' => e = .returned (.string ⟨(Lib.decDigits n0).toArray⟩) ∧ w' = w := by
  have HL : Hid (n0 < 18446744073709551616 ∧ (Lib.decDigits n0).length ≤ 20) := ⟨hn0, dec_length hn0⟩
  clear hn0
  go_enter Tryz.func57, Tryz.ntmps57
  go_wp2_with fail
  go_loop [0, 4] (fun vn vs => ∃ (n : Nat) (s : List UInt8), vn = .int .u64 n ∧ vs = .string ⟨s.toArray⟩ ∧ n ≤ n0 ∧ Lib.decDigits n ++ s = Lib.decDigits n0) (fun vn _ => (intOf vn).toNat)
  case atStart => exact ⟨n0, [], rfl, rfl, Nat.le_refl _, by simp⟩
  case round =>
    obtain ⟨n, s, rfl, rfl, hn', hs'⟩ := hrel
    have HS : Hid (n ≤ n0 ∧ Lib.decDigits n ++ s = Lib.decDigits n0) := ⟨hn', hs'⟩
    have HSL : Hid (s.length ≤ 20) := by
      have h := HL.out.2
      rw [← hs'] at h
      simp at h
      show _ ≤ _
      omega
    have HN : Hid (n < 18446744073709551616) := Nat.lt_of_le_of_lt hn' HL.out.1
    clear hn' hs'
    by_cases h10 : 10 ≤ n
    · have h10' : (10 : Int) ≤ (n : Int) := by omega
      have e1 : IntKind.u64.wrap ((n : Int) % 10 + 1) = (n : Int) % 10 + 1 := by rw [IntKind.wrap_u64]; omega
      have e2 : IntKind.u64.wrap ((n : Int) / 10) = (n : Int) / 10 := by have := HN.out; rw [IntKind.wrap_u64]; omega
      have hx := fun wx => run_dec ((n : Int) % 10) ((n : Int) % 10 + 1) (n % 10) (by omega) (by omega) (by omega) wx
      have ha := fun wx => run_add [decd (n % 10)] s (by have := HSL.out; simp; omega) wx
      have H10 : Hid (10 ≤ n) := h10
      clear h10
      go_wp2_with fail
      go_round
      case rel => exact ⟨n / 10, _, by simp, rfl, by have := HS.out.1; omega, by rw [dec_step H10.out]; exact HS.out.2⟩
      case measure => have := H10.out; simp [intOf]; omega
    · have h10' : (n : Int) < 10 := by omega
      have e1 : IntKind.u64.wrap ((n : Int) + 1) = (n : Int) + 1 := by rw [IntKind.wrap_u64]; omega
      have hx := fun wx => run_dec (n : Int) ((n : Int) + 1) n rfl rfl (by omega) wx
      have ha := fun wx => run_add [decd n] s (by have := HSL.out; simp; omega) wx
      have H10 : Hid (n < 10) := by show _ < _; omega
      clear h10
      go_wp2_with fail
      go_ret
      refine ⟨?_, rfl⟩
      rw [← HS.out.2, Lib.decDigits_one H10.out]
      rfl


theorem rknown9 (k : Int) (hk : k = 1 ∨ k = 2) (w : World) : Calls Tryz.prog 55 #[.int .i64 k] w fun e w' => e = .returned (.bool true) ∧ w' = w := by
  rcases hk with rfl | rfl
  all_goals
    go_enter Tryz.func55, Tryz.ntmps55
    go_wp2_with fail
    go_ret
    exact ⟨rfl, rfl⟩


theorem rfit9 (k : Int) (hk : k = 1 ∨ k = 2) (b : Nat) (w : World) : Calls Tryz.prog 56 #[.int .i64 k, .agg #[.bool true, .int .u64 b]] w fun e w' => e = .returned (.agg #[.bool true, .int .u64 b]) ∧ Below w.heap.size w w' := by
  have HK : Hid (k = 1 ∨ k = 2) := hk
  have hk2 : k ≤ 2 := by omega
  clear hk
  go_enter Tryz.func56, Tryz.ntmps56
  go_wp2_with fail
  refine (rknown9 k HK.out _).mono ?_
  rintro e9 w2 ⟨rfl, hw⟩
  subst hw
  go_wp2_with fail
  refine bodyPost_ret (v := .agg #[.bool true, .int .u64 b]) (by simp [results, Tryz.results56, go_sem]) rfl ⟨rfl, ?_⟩
  exact below_trans (below_alloc _ _) (below_alloc _ _)


theorem neg_u64 {b : Nat} (h : ¬ b < 9223372036854775808) (hb : b < 18446744073709551616) : IntKind.u64.wrap (-(b : Int)) = ((18446744073709551616 - b : Nat) : Int) := by
  rw [IntKind.wrap_u64]
  omega


def sumL (b : Nat) : List UInt8 := if b < 9223372036854775808 then Lib.decDigits b else 45 :: Lib.decDigits (18446744073709551616 - b)


theorem below_set {a w : World} {B g j : Nat} {u : Value} (h : Below B a w) (hg : B ≤ g) : Below B a (w.setCell ⟨g, j, none⟩ u) := h.setCell (p := ⟨g, j, none⟩) hg u


set_option maxRecDepth 100000 in
set_option maxHeartbeats 8000000 in
theorem rtext1_walk (b : Nat) (hb : b < 18446744073709551616) (w : World) : Calls Tryz.prog 42 #[.int .i64 1, .agg #[.bool true, .int .u64 b]] w fun e w' => e = .returned (.string ⟨(Lib.decDigits b).toArray⟩) ∧ Below w.heap.size w w' := by
  have HB : Hid (b < 18446744073709551616) := hb
  clear hb
  go_enter Tryz.func42, Tryz.ntmps42
  go_wp2_with fail
  refine (rknown9 1 (.inl rfl) _).mono ?_
  rintro e9 w2 ⟨rfl, hw⟩
  subst hw
  go_wp2_with fail
  refine (rfit9 1 (.inl rfl) b _).mono ?_
  rintro e9 w3 ⟨rfl, hB3⟩
  obtain ⟨g, hg⟩ : ∃ g, g = w.heap.size := ⟨_, rfl⟩
  have hgb : w3.heap[g]? = some (.cells #[.bool true, .int .u64 b] 93 (0, 0)) := blk_below (alloc_at hg) hB3
  have HB3 : Hid (Below w.heap.size w w3 ∧ g = w.heap.size) := ⟨below_trans (below_alloc _ _) hB3, hg⟩
  have c0 : w3.cell? ⟨g, 0, none⟩ = some (.bool true) := blk_cell hgb 0
  have c1 : w3.cell? ⟨g, 1, none⟩ = some (.int .u64 b) := blk_cell hgb 1
  have z0 := blk_soft hgb 0
  have z1 := blk_soft hgb 1
  rw [← hg]
  clear hg hgb hB3
  go_wp2_with fail
  refine (decimal_walk b HB.out _).mono ?_
  rintro e9 w4 ⟨rfl, hw⟩
  subst hw
  go_wp2_with fail
  go_ret
  exact ⟨rfl, below_set (below_set HB3.out.1 (by have := HB3.out.2; omega)) (by have := HB3.out.2; omega)⟩


set_option maxRecDepth 100000 in
set_option maxHeartbeats 8000000 in
theorem rtext2_walk (b : Nat) (hb : b < 18446744073709551616) (w : World) : Calls Tryz.prog 42 #[.int .i64 2, .agg #[.bool true, .int .u64 b]] w fun e w' => e = .returned (.string ⟨(sumL b).toArray⟩) ∧ Below w.heap.size w w' := by
  have HB : Hid (b < 18446744073709551616) := hb
  clear hb
  by_cases hs : b < 9223372036854775808
  · have e : sumL b = Lib.decDigits b := by unfold sumL; rw [if_pos hs]
    have hbb : decide ((9223372036854775808 : Int) ≤ (b : Int)) = false := decide_eq_false (by omega)
    rw [e]
    clear e hs
    go_enter Tryz.func42, Tryz.ntmps42
    go_wp2_with fail
    refine (rknown9 2 (.inr rfl) _).mono ?_
    rintro e9 w2 ⟨rfl, hw⟩
    subst hw
    go_wp2_with fail
    refine (rfit9 2 (.inr rfl) b _).mono ?_
    rintro e9 w3 ⟨rfl, hB3⟩
    obtain ⟨g, hg⟩ : ∃ g, g = w.heap.size := ⟨_, rfl⟩
    have hgb : w3.heap[g]? = some (.cells #[.bool true, .int .u64 b] 93 (0, 0)) := blk_below (alloc_at hg) hB3
    have HB3 : Hid (Below w.heap.size w w3 ∧ g = w.heap.size) := ⟨below_trans (below_alloc _ _) hB3, hg⟩
    have c0 : w3.cell? ⟨g, 0, none⟩ = some (.bool true) := blk_cell hgb 0
    have c1 : w3.cell? ⟨g, 1, none⟩ = some (.int .u64 b) := blk_cell hgb 1
    have z0 := blk_soft hgb 0
    have z1 := blk_soft hgb 1
    rw [← hg]
    clear hg hgb hB3
    go_wp2_with fail
    refine (decimal_walk b HB.out _).mono ?_
    rintro e9 w4 ⟨rfl, hw⟩
    subst hw
    go_wp2_with fail
    go_ret
    exact ⟨rfl, below_set (below_set HB3.out.1 (by have := HB3.out.2; omega)) (by have := HB3.out.2; omega)⟩
  · have e : sumL b = 45 :: Lib.decDigits (18446744073709551616 - b) := by unfold sumL; rw [if_neg hs]
    have hbb : (9223372036854775808 : Int) ≤ (b : Int) := by omega
    obtain ⟨c, hc⟩ : ∃ c, c = 18446744073709551616 - b := ⟨_, rfl⟩
    have hneg : IntKind.u64.wrap (-(b : Int)) = (c : Int) := by rw [hc]; exact neg_u64 hs HB.out
    have HC : Hid (c < 18446744073709551616) := by have := HB.out; show c < _; omega
    have ha : ∀ wx, (Op.stringOp .add ⟨#[45]⟩ ⟨(Lib.decDigits c).toArray⟩).run Tryz.prog wx = .ok (.string ⟨(45 :: Lib.decDigits c).toArray⟩) wx := fun wx => run_add [45] (Lib.decDigits c) (by have := dec_length HC.out; simp; omega) wx
    rw [e, ← hc]
    clear e hs hc
    go_enter Tryz.func42, Tryz.ntmps42
    go_wp2_with fail
    refine (rknown9 2 (.inr rfl) _).mono ?_
    rintro e9 w2 ⟨rfl, hw⟩
    subst hw
    go_wp2_with fail
    refine (rfit9 2 (.inr rfl) b _).mono ?_
    rintro e9 w3 ⟨rfl, hB3⟩
    obtain ⟨g, hg⟩ : ∃ g, g = w.heap.size := ⟨_, rfl⟩
    have hgb : w3.heap[g]? = some (.cells #[.bool true, .int .u64 b] 93 (0, 0)) := blk_below (alloc_at hg) hB3
    have HB3 : Hid (Below w.heap.size w w3 ∧ g = w.heap.size) := ⟨below_trans (below_alloc _ _) hB3, hg⟩
    have c0 : w3.cell? ⟨g, 0, none⟩ = some (.bool true) := blk_cell hgb 0
    have c1 : w3.cell? ⟨g, 1, none⟩ = some (.int .u64 b) := blk_cell hgb 1
    have z0 := blk_soft hgb 0
    have z1 := blk_soft hgb 1
    rw [← hg]
    clear hg hgb hB3
    go_wp2_with fail
    refine (decimal_walk c HC.out _).mono ?_
    rintro e9 w4 ⟨rfl, hw⟩
    subst hw
    go_wp2_with fail
    go_ret
    exact ⟨rfl, below_set (below_set HB3.out.1 (by have := HB3.out.2; omega)) (by have := HB3.out.2; omega)⟩


theorem sum_itoa {x : Int} (h : In64 x) : sumL (IntKind.u64.wrap x).toNat = Lib.itoa x := by
  have hw : IntKind.u64.wrap x = if 0 ≤ x then x else x + 18446744073709551616 := by rw [IntKind.wrap_u64]; unfold In64 at h; split <;> omega
  rw [hw]
  unfold In64 at h
  by_cases h0 : 0 ≤ x
  · rw [if_pos h0]
    unfold sumL Lib.itoa
    rw [if_pos (by omega), if_neg (by omega)]
  · rw [if_neg h0]
    unfold sumL Lib.itoa
    rw [if_neg (by omega), if_pos (by omega), show 18446744073709551616 - (x + 18446744073709551616).toNat = x.natAbs by omega]


set_option maxRecDepth 100000 in
theorem rdecimal_walk {x : Int} (hx : In64 x) (w : World) : Calls Tryz.prog 25 #[.int .i64 x] w fun e w' => e = .returned (S (Lib.itoa x)) ∧ Below w.heap.size w w' := by
  obtain ⟨b, hb⟩ : ∃ b : Nat, b = (IntKind.u64.wrap x).toNat := ⟨_, rfl⟩
  have hwx : IntKind.u64.wrap x = (b : Int) := by rw [hb]; rw [IntKind.wrap_u64]; omega
  have HB : Hid (b < 18446744073709551616 ∧ sumL b = Lib.itoa x) := ⟨by rw [hb, IntKind.wrap_u64]; omega, by rw [hb]; exact sum_itoa hx⟩
  clear hb hx
  go_enter Tryz.func25, Tryz.ntmps25
  go_wp2_with fail
  refine (rtext2_walk b HB.out.1 _).mono ?_
  rintro e9 w2 ⟨rfl, hB2⟩
  have HB2 : Hid (Below w.heap.size w w2) := hB2
  clear hB2
  rw [HB.out.2]
  go_wp2_with fail
  go_ret
  exact ⟨rfl, HB2.out⟩
end Go.Proofs.YtkiplcmndpdifaaGreatDoor


