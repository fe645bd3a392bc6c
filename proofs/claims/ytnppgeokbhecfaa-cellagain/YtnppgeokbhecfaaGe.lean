/- Contract of the reference's Merge. -/
import Derived.Test.YtnppgeokbhecfaaGd
import Derived.Lib.Hide
namespace Go.Proofs.Ytnppgeokbhecfaa
open Ieee Go.RowKit

attribute [local go_sem] run_bits run_frombits

set_option maxHeartbeats 8000000 in
theorem rmerge_walk (k : Int) {a b : Vl} (ha : a.ok) (hb : b.ok) (w : World) :
    Calls Try.prog 25 #[.int .i64 k, .agg #[.bool a.h, .int .u64 a.b], .agg #[.bool b.h, .int .u64 b.b]] w fun e w' => e = .returned (.agg #[.bool (mergeV k a b).h, .int .u64 (mergeV k a b).b]) ∧ Below w.heap.size w w' := by
  unfold mergeV
  obtain ⟨A, hA⟩ : ∃ A, A = fitV k a := ⟨_, rfl⟩
  obtain ⟨B, hB⟩ : ∃ B, B = fitV k b := ⟨_, rfl⟩
  have HA : Hid (A = fitV k a) := hA
  have HB : Hid (B = fitV k b) := hB
  have HAO : Hid A.ok := by rw [hA]; exact fitV_ok k ha
  have HBO : Hid B.ok := by rw [hB]; exact fitV_ok k hb
  rw [← hA, ← hB]
  clear hA hB
  go_enter Try.func25, Try.ntmps25
  go_wp2_with fail
  refine (rfit_walk k ha _).mono ?_
  rw [← HA.out]
  rintro e w2 ⟨rfl, hB2⟩
  obtain ⟨HSZ, HBW, HVA, HVB, HVC⟩ := merge_start (w := w) (a := a) (b := b) rfl
  have GA2 := HVA.out.below hB2 (cell_lt HVA.out.c0)
  have GB2 := HVB.out.below hB2 (cell_lt HVB.out.c0)
  have GC2 := HVC.out.below hB2 (cell_lt HVC.out.c0)
  have GW2 := below_trans HBW.out hB2
  have GA3 : Hid (VB ((w2.setCell ⟨w.heap.size, 0, none⟩ (.bool A.h)).setCell ⟨w.heap.size, 1, none⟩ (.int .u64 A.b)) w.heap.size A) := GA2.set _ _
  have GB3 : Hid (VB ((w2.setCell ⟨w.heap.size, 0, none⟩ (.bool A.h)).setCell ⟨w.heap.size, 1, none⟩ (.int .u64 A.b)) (w.heap.size + 1) b) := (GB2.other (by simp) _).other (by simp) _
  have GC3 : Hid (VB ((w2.setCell ⟨w.heap.size, 0, none⟩ (.bool A.h)).setCell ⟨w.heap.size, 1, none⟩ (.int .u64 A.b)) (w.heap.size + 1 + 1) noV) := (GC2.other (by simp; omega) _).other (by simp; omega) _
  have GW3 : Hid (Below w.heap.size w ((w2.setCell ⟨w.heap.size, 0, none⟩ (.bool A.h)).setCell ⟨w.heap.size, 1, none⟩ (.int .u64 A.b))) := keep_store GW2 _ (Nat.le_refl _) _ _
  obtain ⟨c0, c1, z0, z1⟩ := GA2
  obtain ⟨d0, d1, y0, y1⟩ := GB2
  clear hB2 GC2 GW2 HSZ HBW HVA HVB HVC
  go_wp2_with fail
  generalize hg : (w2.setCell ⟨w.heap.size, 0, none⟩ (.bool A.h)).setCell ⟨w.heap.size, 1, none⟩ (.int .u64 A.b) = w3 at GA3 GB3 GC3 GW3 ⊢
  clear hg c0 c1 z0 z1 d0 d1 y0 y1
  refine (rfit_walk k hb _).mono ?_
  rw [← HB.out]
  rintro e w4 ⟨rfl, hB4⟩
  have GA4 := GA3.out.below hB4 (cell_lt GA3.out.c0)
  have GB4 := GB3.out.below hB4 (cell_lt GB3.out.c0)
  have GC4 := GC3.out.below hB4 (cell_lt GC3.out.c0)
  have GW4 := below_trans GW3.out hB4
  have GA : Hid (VB ((w4.setCell ⟨w.heap.size + 1, 0, none⟩ (.bool B.h)).setCell ⟨w.heap.size + 1, 1, none⟩ (.int .u64 B.b)) w.heap.size A) := (GA4.other (by simp) _).other (by simp) _
  have GB : Hid (VB ((w4.setCell ⟨w.heap.size + 1, 0, none⟩ (.bool B.h)).setCell ⟨w.heap.size + 1, 1, none⟩ (.int .u64 B.b)) (w.heap.size + 1) B) := GB4.set _ _
  have GC : Hid (VB ((w4.setCell ⟨w.heap.size + 1, 0, none⟩ (.bool B.h)).setCell ⟨w.heap.size + 1, 1, none⟩ (.int .u64 B.b)) (w.heap.size + 1 + 1) noV) := (GC4.other (by simp) _).other (by simp) _
  have GW : Hid (Below w.heap.size w ((w4.setCell ⟨w.heap.size + 1, 0, none⟩ (.bool B.h)).setCell ⟨w.heap.size + 1, 1, none⟩ (.int .u64 B.b))) := keep_store GW4 _ (Nat.le_succ _) _ _
  obtain ⟨d0, d1, y0, y1⟩ := GB4
  clear hB4 GC4 GW4 GA3 GB3 GC3 GW3 GA4 HA HB
  have HN2 : Hid (w.heap.size ≤ w.heap.size + 1 + 1) := by show _ ≤ _; omega
  generalize hg : (w4.setCell ⟨w.heap.size + 1, 0, none⟩ (.bool B.h)).setCell ⟨w.heap.size + 1, 1, none⟩ (.int .u64 B.b) = w5 at GA GB GC GW
  obtain ⟨a0, a1, _, _⟩ := GA.out
  obtain ⟨b0, b1, _, _⟩ := GB.out
  obtain ⟨e0, e1, x0, x1⟩ := GC.out
  cases hAh : A.h
  · rw [hAh] at a0
    have EJ : Hid (joinV k A B = B) := by show _ = _; unfold joinV; rw [if_pos hAh]
    clear hAh
    go_wp2_with fail
    refine bodyPost_ret (v := .agg #[.bool B.h, .int .u64 B.b]) (by simp [results, Try.results25, go_sem, e0, e1]) rfl ⟨by rw [EJ.out], ?_⟩
    exact keep_store GW.out _ HN2.out _ _
  cases hBh : B.h
  · rw [hAh] at a0
    rw [hBh] at b0
    have EJ : Hid (joinV k A B = A) := by show _ = _; unfold joinV; rw [if_neg (by simp [hAh]), if_pos hBh]
    have HAh : Hid (A.h = true) := hAh
    clear hAh
    rw [hBh] at hg
    clear hBh
    go_wp2_with fail
    refine bodyPost_ret (v := .agg #[.bool true, .int .u64 A.b]) (by simp [results, Try.results25, go_sem, e0, e1]) rfl ⟨by rw [EJ.out, HAh.out], ?_⟩
    exact keep_store GW.out _ HN2.out _ _
  rw [hAh] at a0
  rw [hBh] at b0
  rw [hBh] at hg
  by_cases h3 : k = 3
  · subst h3
    have EJ : Hid (joinV 3 A B = ⟨true, leastW A.b B.b⟩) := by show _ = _; unfold joinV; rw [if_neg (by simp [hAh]), if_neg (by simp [hBh]), if_pos rfl]
    have EO : Hid (ofV 3 (leastW A.b B.b) = ⟨true, leastW A.b B.b⟩) := by show _ = _; unfold ofV; rw [if_neg (by omega), if_neg (by omega), if_pos (by omega), canonW_leastW]
    have HL : Hid (leastW A.b B.b < 18446744073709551616) := leastW_lt HAO.out HBO.out
    clear hAh hBh
    go_wp2_with (first
      | (go_at_call 33; refine (from_walk _ _).mono ?_; rintro e w' ⟨rfl, rfl⟩)
      | (go_at_call 35; refine (rleast_walk HAO.out HBO.out _).mono ?_; rintro e w' ⟨rfl, rfl⟩))
    refine (rof_walk 3 HL.out _).mono ?_
    rw [EO.out]
    rintro e w6 ⟨rfl, hB6⟩
    obtain ⟨e0, e1, x0, x1⟩ := GC.out.below hB6 (cell_lt GC.out.c0)
    have HB6 := Lib.hid hB6
    clear hB6
    go_wp2_with fail
    refine bodyPost_ret (v := .agg #[.bool true, .int .u64 (leastW A.b B.b)]) (by simp [results, Try.results25, go_sem, e0, e1]) rfl ⟨by rw [EJ.out], ?_⟩
    exact keep_store (below_trans GW.out HB6.out) _ HN2.out _ _
  by_cases h4 : k = 4
  · subst h4
    have EJ : Hid (joinV 4 A B = ⟨true, mostW A.b B.b⟩) := by show _ = _; unfold joinV; rw [if_neg (by simp [hAh]), if_neg (by simp [hBh]), if_neg (by omega), if_pos rfl]
    have EO : Hid (ofV 4 (mostW A.b B.b) = ⟨true, mostW A.b B.b⟩) := by show _ = _; unfold ofV; rw [if_neg (by omega), if_neg (by omega), if_pos (by omega), canonW_mostW]
    have HL : Hid (mostW A.b B.b < 18446744073709551616) := mostW_lt HAO.out HBO.out
    clear hAh hBh
    go_wp2_with (first
      | (go_at_call 33; refine (from_walk _ _).mono ?_; rintro e w' ⟨rfl, rfl⟩)
      | (go_at_call 36; refine (rmost_walk HAO.out HBO.out _).mono ?_; rintro e w' ⟨rfl, rfl⟩))
    refine (rof_walk 4 HL.out _).mono ?_
    rw [EO.out]
    rintro e w6 ⟨rfl, hB6⟩
    obtain ⟨e0, e1, x0, x1⟩ := GC.out.below hB6 (cell_lt GC.out.c0)
    have HB6 := Lib.hid hB6
    clear hB6
    go_wp2_with fail
    refine bodyPost_ret (v := .agg #[.bool true, .int .u64 (mostW A.b B.b)]) (by simp [results, Try.results25, go_sem, e0, e1]) rfl ⟨by rw [EJ.out], ?_⟩
    exact keep_store (below_trans GW.out HB6.out) _ HN2.out _ _
  · have EJ : Hid (joinV k A B = ⟨true, (A.b + B.b) % 18446744073709551616⟩) := by show _ = _; unfold joinV; rw [if_neg (by simp [hAh]), if_neg (by simp [hBh]), if_neg h3, if_neg h4]
    have es : IntKind.u64.wrap ((A.b : Int) + (B.b : Int)) = (((A.b + B.b) % 18446744073709551616 : Nat) : Int) := by rw [IntKind.wrap_u64]; omega
    obtain ⟨sm, hsm⟩ : ∃ sm, sm = (A.b + B.b) % 18446744073709551616 := ⟨_, rfl⟩
    rw [← hsm] at es
    have HS : Hid (sm = (A.b + B.b) % 18446744073709551616) := hsm
    clear hsm
    have b3 := neq_b h3
    have b4 := neq_b h4
    clear hAh hBh h3 h4
    go_wp2_with (go_at_call 33; refine (from_walk _ _).mono ?_; rintro e w' ⟨rfl, rfl⟩)
    refine bodyPost_ret (v := .agg #[.bool true, .int .u64 sm]) (by simp [results, Try.results25, go_sem, e0, e1]) rfl ⟨by rw [EJ.out, HS.out], ?_⟩
    exact keep_store GW.out _ HN2.out _ _
end Go.Proofs.Ytnppgeokbhecfaa
