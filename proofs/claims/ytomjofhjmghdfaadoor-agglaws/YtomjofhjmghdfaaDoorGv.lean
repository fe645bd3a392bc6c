/- Contract of the reference's Text. -/
import Derived.Test.YtomjofhjmghdfaaDoorGu
namespace Go.Proofs.YtomjofhjmghdfaaDoor
open Ieee Go.RowKit

theorem rtext_neg {b : Nat} (h : ¬ b < 9223372036854775808) (hb : b < 18446744073709551616) : IntKind.u64.wrap (-(b : Int)) = ((18446744073709551616 - b : Nat) : Int) := by
  rw [IntKind.wrap_u64]
  omega

theorem nib (b i : Nat) : ((b : Int) / 2 ^ (4 * i)).tmod 16 = ((b / 16 ^ i % 16 : Nat) : Int) := by
  have e : (2 : Int) ^ (4 * i) = ((16 ^ i : Nat) : Int) := by
    rw [Int.pow_mul]
    simp
  rw [e, ← Int.natCast_ediv]
  generalize b / 16 ^ i = q
  rw [Int.tmod_eq_emod_of_nonneg (by omega)]
  omega

set_option maxHeartbeats 8000000 in
theorem rtext_walk (k : Int) {v : Vl} (hv : v.ok) (w : World) :
    Calls Tryd.prog 19 #[.int .i64 k, .agg #[.bool v.h, .int .u64 v.b]] w fun e w' => e = .returned (.string ⟨(textL k v).toArray⟩) ∧ Below w.heap.size w w' := by
  cases hk : knownB k
  · have e : textL k v = [] := by unfold textL; rw [if_pos hk]
    rw [e]
    go_enter Tryd.func19, Tryd.ntmps19
    go_wp2_with (go_at_call 11; refine (rknown_walk _ _).mono ?_; rintro e w' ⟨rfl, rfl⟩)
    go_ret
    exact ⟨rfl, below_alloc _ _⟩
  obtain ⟨A, hA⟩ : ∃ A, A = fitV k v := ⟨_, rfl⟩
  have HA : Hid (A = fitV k v) := hA
  have HAO : Hid A.ok := by rw [hA]; exact fitV_ok k hv
  have HTX : Hid (textL k v = if A.h = false then [45] else digL k A.b) := by show _ = _; unfold textL; rw [if_neg (by simp [hk]), hA]
  clear hA
  go_enter Tryd.func19, Tryd.ntmps19
  go_wp2_with (go_at_call 11; refine (rknown_walk _ _).mono ?_; rintro e w' ⟨rfl, rfl⟩)
  refine (rfit_walk k hv _).mono ?_
  rw [← HA.out]
  rintro e w2 ⟨rfl, hB2⟩
  have GV0 := (vb_new w v.h v.b).below hB2 (by simp [go_sem])
  have GW0 := below_trans (below_alloc w _) hB2
  have GV : Hid (VB ((w2.setCell ⟨w.heap.size, 0, none⟩ (.bool A.h)).setCell ⟨w.heap.size, 1, none⟩ (.int .u64 A.b)) w.heap.size A) := GV0.set _ _
  have GW : Hid (Below w.heap.size w ((w2.setCell ⟨w.heap.size, 0, none⟩ (.bool A.h)).setCell ⟨w.heap.size, 1, none⟩ (.int .u64 A.b))) := keep_store GW0 _ (Nat.le_refl _) _ _
  obtain ⟨c0, c1, z0, z1⟩ := GV0
  clear hB2 GW0 HA
  cases hAh : A.h
  · rw [hAh] at GV GW
    have HE : Hid (textL k v = [45]) := by show _ = _; rw [HTX.out, if_pos hAh]
    clear hAh HTX
    go_wp2_with fail
    go_ret
    exact ⟨by rw [HE.out]; rfl, GW.out⟩
  rw [hAh] at GV GW
  have HE : Hid (textL k v = digL k A.b) := by show _ = _; rw [HTX.out, if_neg (by simp [hAh])]
  clear hAh HTX
  by_cases h1 : k = 1
  · subst h1
    go_wp2_with (go_at_call 36; refine (decimal_walk A.b HAO.out _).mono ?_; rintro e w' ⟨rfl, rfl⟩)
    go_ret
    exact ⟨by rw [HE.out]; rfl, GW.out⟩
  by_cases h2 : k = 2
  · subst h2
    by_cases hb : A.b < 9223372036854775808
    · have d : decide ((A.b : Int) ≥ 9223372036854775808) = false := by simp; omega
      have HE2 : Hid (textL 2 v = Lib.decDigits A.b) := by show _ = _; rw [HE.out, digL, if_neg (by omega), if_pos rfl, sumL, if_pos hb]
      clear hb
      go_wp2_with (go_at_call 36; refine (decimal_walk A.b HAO.out _).mono ?_; rintro e w' ⟨rfl, rfl⟩)
      go_ret
      exact ⟨by rw [HE2.out]; rfl, GW.out⟩
    · have d : (9223372036854775808 : Int) ≤ (A.b : Int) := by omega
      have HE2 : Hid (textL 2 v = 45 :: Lib.decDigits (18446744073709551616 - A.b)) := by show _ = _; rw [HE.out, digL, if_neg (by omega), if_pos rfl, sumL, if_neg hb]
      have hn := rtext_neg hb HAO.out
      obtain ⟨q, hq⟩ : ∃ q, q = 18446744073709551616 - A.b := ⟨_, rfl⟩
      rw [← hq] at hn HE2
      have HQ : Hid (q < 18446744073709551616) := by show _ < _; omega
      have ha := fun wx => run_add [45] (Lib.decDigits q) (by have := dec_length HQ.out; simp; omega) wx
      clear hb hq
      generalize hD : Lib.decDigits q = D at ha HE2
      have HD : Hid (Lib.decDigits q = D) := hD
      clear hD
      go_wp2_with (go_at_call 36; refine (decimal_walk q HQ.out _).mono ?_; rw [HD.out]; rintro e w' ⟨rfl, rfl⟩)
      go_ret
      exact ⟨by rw [HE2.out]; rfl, GW.out⟩
  · have b1 := neq_b h1
    have b2 := neq_b h2
    have HE2 : Hid (textL k v = hexRow A.b 16) := by show _ = _; rw [HE.out, digL, if_neg h1, if_neg h2]
    clear h1 h2 HE
    go_wp2_with fail
    go_loop [6, 7] (fun vs vi => ∃ i : Nat, i ≤ 16 ∧ vi = .int .i64 i ∧ vs = .string ⟨(hexRow A.b i).toArray⟩) (fun _ vi => 16 - (intOf vi).toNat)
    case atStart => exact ⟨0, Nat.zero_le _, rfl, rfl⟩
    case round =>
      obtain ⟨i, hi, rfl, rfl⟩ := hrel
      by_cases hlt : i < 16
      · have hlt' : (i : Int) < 16 := by omega
        have e0 := nib A.b i
        obtain ⟨d, hd⟩ : ∃ d, d = A.b / 16 ^ i % 16 := ⟨_, rfl⟩
        rw [← hd] at e0
        have HX : Hid (hexd d :: hexRow A.b i = hexRow A.b (i + 1)) := by show _ = _; rw [hexRow, hd]
        have hd16 : d < 16 := by rw [hd]; exact Nat.mod_lt _ (by omega)
        have e1 : IntKind.u64.wrap ((d : Int) + 1) = (d : Int) + 1 := by rw [IntKind.wrap_u64]; omega
        have hx := fun wx => run_hex (d : Int) ((d : Int) + 1) d rfl rfl hd16 wx
        have ha := fun wx => run_add [hexd d] (hexRow A.b i) (by rw [hexRow_length]; simp; omega) wx
        have HLT : Hid (i < 16) := hlt
        clear hd hd16 hlt hi
        go_wp2_with fail
        go_round
        case rel => exact ⟨i + 1, HLT.out, by simp, by rw [← HX.out]⟩
        case measure => have := HLT.out; simp [intOf]; omega
      · obtain rfl : i = 16 := by omega
        clear hi hlt
        go_wp2_with fail
        go_ret
        exact ⟨by rw [HE2.out]; rfl, GW.out⟩
end Go.Proofs.YtomjofhjmghdfaaDoor
