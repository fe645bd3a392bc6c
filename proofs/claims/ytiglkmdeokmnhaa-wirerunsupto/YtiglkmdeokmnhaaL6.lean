/- The walk of the statement WireRises. -/
import Derived.Test.YtiglkmdeokmnhaaWa
namespace Go.Proofs.Ytiglkmdeokmnhaa
open Go.RowKit

/-- Put's answer, as a caller takes it. -/
theorem put_got (x : Nat) (hx : x < 18446744073709551616) (w : World) : Calls Try.prog 10 #[.int .u64 x] w fun e w' =>
    ∃ ao cap, e = .returned (.slice ao (Wm.enc x).length cap) ∧ Bv w' (.slice ao (Wm.enc x).length cap) (Wm.enc x) ∧ Below w.heap.size w w' := by
  refine (put_walk x hx w).mono ?_
  rintro e w' ⟨v, rfl, hown, hbel⟩
  obtain ⟨ao, cap, rfl⟩ := own_form hown
  exact ⟨ao, cap, rfl, own_bv hown (Wm.enc_lt x hx), hbel⟩

theorem shl7 {x : Nat} (h : x < 144115188075855872) : IntKind.u64.wrap ((x : Int) * 128) = ((x * 128 : Nat) : Int) := by
  rw [wrap_u64_id (by omega) (by omega)]; omega

set_option maxRecDepth 100000 in
set_option maxHeartbeats 1000000 in
theorem rises_walk (x y : Nat) (hx : x < 18446744073709551616) (hy : y < 18446744073709551616) (w : World) :
    Calls Try.prog 8 #[.int .u64 x, .int .u64 y] w fun e w' => e = .returned (.bool true) ∧ Below w.heap.size w w' := by
  have HX : Hid (x < 18446744073709551616) := hx
  have HY : Hid (y < 18446744073709551616) := hy
  clear hx hy
  go_enter Try.func8, Try.ntmps8
  go_wp2_with fail
  refine (awake_walk w).mono ?_
  rintro e w1 ⟨rfl, B1⟩
  have HB1 : Hid (Below w.heap.size w w1) := B1
  clear B1
  by_cases h1 : (y : Int) < (x : Int)
  · go_wp2_with fail
    refine (put_got x HX.out w1).mono ?_
    rintro e w2 ⟨a2, c2, rfl, _, B2⟩
    have HB2 : Hid (Below w.heap.size w w2) := below_trans HB1.out B2
    clear B2
    go_wp2_with fail
    refine (put_got y HY.out w2).mono ?_
    rintro e w3 ⟨a3, c3, rfl, _, B3⟩
    have HB3 : Hid (Below w.heap.size w w3) := below_trans HB2.out B3
    have hle : ((Wm.enc y).length : Int) ≤ ((Wm.enc x).length : Int) := by have := Wm.enc_mono y x (by omega); omega
    clear B3
    go_wp2_with fail
    go_ret
    exact ⟨rfl, HB3.out⟩
  · by_cases h2 : (144115188075855872 : Int) ≤ (x : Int)
    · go_wp2_with fail
      go_ret
      exact ⟨rfl, HB1.out⟩
    · have h2b : decide ((144115188075855872 : Int) ≤ (x : Int)) = false := decide_eq_false h2
      have H2 : Hid (x < 144115188075855872) := by show x < _; omega
      clear h2
      by_cases h3 : (x : Int) = 0
      · have h3b : ((x : Int) == 0) = true := by simp [h3]
        clear h3
        go_wp2_with fail
        go_ret
        exact ⟨rfl, HB1.out⟩
      · have h3b : ((x : Int) == 0) = false := by simpa using h3
        have hs := shl7 (x := x) H2.out
        go_wp2_with fail
        rw [show (x : Int) * 128 = ((x * 128 : Nat) : Int) by omega]
        refine (put_got (x * 128) (by have := H2.out; omega) w1).mono ?_
        rintro e w2 ⟨a2, c2, rfl, _, B2⟩
        have HB2 : Hid (Below w.heap.size w w2) := below_trans HB1.out B2
        clear B2 hs
        go_wp2_with fail
        refine (put_got x HX.out w2).mono ?_
        rintro e w3 ⟨a3, c3, rfl, _, B3⟩
        have HB3 : Hid (Below w.heap.size w w3) := below_trans HB2.out B3
        have hle : (((Wm.enc (x * 128)).length : Int) == ((Wm.enc x).length : Int) + 1) = true := by
          have := Wm.enc_shift x (by omega) H2.out
          simp; omega
        have hl10 : ((Wm.enc x).length : Int) ≤ 10 := by have := (Wm.enc_len x).2; omega
        clear B3
        go_wp2_with fail
        go_ret
        exact ⟨rfl, HB3.out⟩
end Go.Proofs.Ytiglkmdeokmnhaa
