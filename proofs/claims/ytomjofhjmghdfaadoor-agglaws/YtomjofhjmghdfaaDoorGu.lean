/- Contracts of both Text. -/
import Derived.Test.YtomjofhjmghdfaaDoorGt
namespace Go.Proofs.YtomjofhjmghdfaaDoor
open Ieee Go.RowKit

set_option maxHeartbeats 4000000 in
theorem text_walk (k : Int) {v : Vl} (hv : v.ok) (w : World) (ht : Tb w) :
    Calls Tryd.prog 18 #[.int .i64 k, .agg #[.bool v.h, .int .u64 v.b]] w fun e w' => e = .returned (.string ⟨(textL k v).toArray⟩) ∧ Below w.heap.size w w' := by
  cases hk : knownB k
  · have e : textL k v = [] := by unfold textL; rw [if_pos hk]
    rw [e]
    go_enter Tryd.func18, Tryd.ntmps18
    go_wp2_with (go_at_call 10; refine (known_walk _ _).mono ?_; rintro e w' ⟨rfl, rfl⟩)
    go_ret
    exact ⟨rfl, below_alloc _ _⟩
  obtain ⟨A, hA⟩ : ∃ A, A = fitV k v := ⟨_, rfl⟩
  have HA : Hid (A = fitV k v) := hA
  have HAO : Hid A.ok := by rw [hA]; exact fitV_ok k hv
  have HTX : Hid (textL k v = if A.h = false then [45] else digL k A.b) := by show _ = _; unfold textL; rw [if_neg (by simp [hk]), hA]
  clear hA
  go_enter Tryd.func18, Tryd.ntmps18
  go_wp2_with (go_at_call 10; refine (known_walk _ _).mono ?_; rintro e w' ⟨rfl, rfl⟩)
  refine (fit_walk k hv _).mono ?_
  rw [← HA.out]
  rintro e w2 ⟨rfl, hB2⟩
  have GV0 := (vb_new w v.h v.b).below hB2 (by simp [go_sem])
  have GW0 := below_trans (below_alloc w _) hB2
  have GV : Hid (VB ((w2.setCell ⟨w.heap.size, 0, none⟩ (.bool A.h)).setCell ⟨w.heap.size, 1, none⟩ (.int .u64 A.b)) w.heap.size A) := GV0.set _ _
  have GW : Hid (Below w.heap.size w ((w2.setCell ⟨w.heap.size, 0, none⟩ (.bool A.h)).setCell ⟨w.heap.size, 1, none⟩ (.int .u64 A.b))) := keep_store GW0 _ (Nat.le_refl _) _ _
  obtain ⟨c0, c1, z0, z1⟩ := GV0
  clear hB2 GW0 HA
  have HT : Hid (Tb ((w2.setCell ⟨w.heap.size, 0, none⟩ (.bool A.h)).setCell ⟨w.heap.size, 1, none⟩ (.int .u64 A.b))) := ht.below GW.out
  cases hAh : A.h
  · rw [hAh] at GV GW HT
    have HE : Hid (textL k v = [45]) := by show _ = _; rw [HTX.out, if_pos hAh]
    clear hAh HTX
    go_wp2_with fail
    go_ret
    exact ⟨by rw [HE.out]; rfl, GW.out⟩
  rw [hAh] at GV GW HT
  have HE : Hid (textL k v = digL k A.b) := by show _ = _; rw [HTX.out, if_neg (by simp [hAh])]
  clear hAh HTX
  by_cases h1 : k = 1
  · subst h1
    go_wp2_with fail
    refine (fmtuint_walk A.b HAO.out _ HT.out).mono ?_
    rintro e w3 ⟨rfl, hB3⟩
    go_wp2_with fail
    go_ret
    exact ⟨by rw [HE.out]; rfl, below_trans GW.out hB3⟩
  by_cases h2 : k = 2
  · subst h2
    have hr : -9223372036854775808 ≤ wrap64 (A.b : Int) ∧ wrap64 (A.b : Int) ≤ 9223372036854775807 := by unfold wrap64; omega
    have HR : Hid (-9223372036854775808 ≤ wrap64 (A.b : Int) ∧ wrap64 (A.b : Int) ≤ 9223372036854775807) := hr
    clear hr
    go_wp2_with fail
    refine (fmtint_walk _ HR.out.1 HR.out.2 _ HT.out).mono ?_
    rintro e w3 ⟨rfl, hB3⟩
    go_wp2_with fail
    go_ret
    exact ⟨by rw [HE.out, itoa_sum HAO.out]; rfl, below_trans GW.out hB3⟩
  · have b1 := neq_b h1
    have b2 := neq_b h2
    have HE2 : Hid (textL k v = hexRow A.b 16) := by show _ = _; rw [HE.out, digL, if_neg h1, if_neg h2]
    clear h1 h2 HE
    go_wp2_with fail
    refine (fmthex_walk A.b HAO.out _ HT.out).mono ?_
    rintro e w3 ⟨⟨m, hm, hlt, rfl⟩, hB3⟩
    obtain ⟨c, hc⟩ : ∃ c, m + c = 16 := ⟨16 - m, by omega⟩
    have HX : Hid (Lib.repeatL [48] c ++ hexRow A.b m = hexRow A.b 16) := hex_whole hlt hc
    have GW3 : Hid (Below w.heap.size w w3) := below_trans GW.out hB3
    have hl : (⟨(hexRow A.b m).toArray⟩ : ByteArray).size = m := by rw [size_mk, hexRow_length]
    have hs : IntKind.i64.wrap (16 - (m : Int)) = (c : Int) := by rw [IntKind.wrap_i64]; omega
    have ha := fun wx => run_add (Lib.repeatL [48] c) (hexRow A.b m) (by rw [Lib.repeatL_length, hexRow_length]; simp; omega) wx
    have HC : Hid (c ≤ 16) := by show _ ≤ _; omega
    clear hm hlt hc hB3
    generalize hexRow A.b m = R at HX hl ha ⊢
    go_wp2_with fail
    refine (repeat_walk _ c _ (by have := HC.out; omega) (by have := HC.out; show 1 * c ≤ _; omega)).mono ?_
    rintro e w4 ⟨rfl, hB4⟩
    go_wp2_with fail
    go_ret
    exact ⟨by rw [HE2.out, ← HX.out]; rfl, below_trans GW3.out hB4⟩
end Go.Proofs.YtomjofhjmghdfaaDoor
