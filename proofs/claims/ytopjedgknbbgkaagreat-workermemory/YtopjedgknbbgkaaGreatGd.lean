/- Contracts of both Merge. -/
import Derived.Test.YtopjedgknbbgkaaGreatM20
namespace Go.Proofs.YtopjedgknbbgkaaGreat

open Ieee Go.RowKit



attribute [local go_sem] run_bits run_frombits


/-- Behind the start of a Merge: both parts in blocks of the call's own, and the answer's. -/
theorem merge_start {w w1 : World} {a b : Vl}
    (h : ((w.alloc (Obj.cells #[Value.bool a.h, Value.int IntKind.u64 (a.b : Int)] 63)).alloc (Obj.cells #[Value.bool b.h, Value.int IntKind.u64 (b.b : Int)] 63)).alloc (Obj.cells #[Value.bool false, Value.int IntKind.u64 0] 63) = w1) :
    Hid (w1.heap.size = w.heap.size + 1 + 1 + 1) ∧ Hid (Below w.heap.size w w1) ∧ Hid (VB w1 w.heap.size a) ∧ Hid (VB w1 (w.heap.size + 1) b) ∧ Hid (VB w1 (w.heap.size + 1 + 1) noV) := by
  subst h
  refine ⟨by simp [Hid, go_sem], ?_, ?_, ?_, ?_⟩
  · exact ((below_alloc _ _).alloc (by simp [go_sem]) _).alloc (by simp [go_sem]; omega) _
  all_goals (show VB _ _ _; constructor <;> simp [go_sem, noV])


set_option maxHeartbeats 8000000 in
theorem merge_walk (k : Int) {a b : Vl} (ha : a.ok) (hb : b.ok) (w : World) :
    Calls Tryz.prog 79 #[.int .i64 k, .agg #[.bool a.h, .int .u64 a.b], .agg #[.bool b.h, .int .u64 b.b]] w fun e w' => e = .returned (.agg #[.bool (mergeV k a b).h, .int .u64 (mergeV k a b).b]) ∧ Below w.heap.size w w' := by
  unfold mergeV
  obtain ⟨A, hA⟩ : ∃ A, A = fitV k a := ⟨_, rfl⟩
  obtain ⟨B, hB⟩ : ∃ B, B = fitV k b := ⟨_, rfl⟩
  have HA : Hid (A = fitV k a) := hA
  have HB : Hid (B = fitV k b) := hB
  have HAO : Hid A.ok := by rw [hA]; exact fitV_ok k ha
  have HBO : Hid B.ok := by rw [hB]; exact fitV_ok k hb
  rw [← hA, ← hB]
  clear hA hB
  go_enter Tryz.func79, Tryz.ntmps79
  go_wp2_with fail
  generalize hg : ((w.alloc (Obj.cells #[Value.bool a.h, Value.int IntKind.u64 (a.b : Int)] 63)).alloc (Obj.cells #[Value.bool b.h, Value.int IntKind.u64 (b.b : Int)] 63)).alloc (Obj.cells #[Value.bool false, Value.int IntKind.u64 0] 63) = w1
  obtain ⟨HSZ, HBW, HVA, HVB, HVC⟩ := merge_start hg
  clear hg
  go_cut [] (fun wx => ∃ wy, Below w1.heap.size w1 wy ∧ wx = (((wy.setCell ⟨w.heap.size, 0, none⟩ (.bool A.h)).setCell ⟨w.heap.size, 1, none⟩ (.int .u64 A.b)).setCell ⟨w.heap.size + 1, 0, none⟩ (.bool B.h)).setCell ⟨w.heap.size + 1, 1, none⟩ (.int .u64 B.b))
  case first =>
    obtain ⟨c0, c1, z0, z1⟩ := HVA.out
    obtain ⟨d0, d1, y0, y1⟩ := HVB.out
    go_region_with ((go_at_call 20; refine (fit_walk k (v := ⟨_, _⟩) (by first | exact ha | exact hb) _).mono ?_; (first | rw [show fitV k ⟨a.h, a.b⟩ = A from HA.out.symm] | rw [show fitV k ⟨b.h, b.b⟩ = B from HB.out.symm]); rintro e w9 ⟨rfl, hB9⟩; have hS9 : Below w1.heap.size w1 w9 := below_trans (by first | assumption | exact (Below.refl _ _).drew) hB9; obtain ⟨c0, c1, z0, z1⟩ := HVA.out.below hS9 (cell_lt HVA.out.c0); obtain ⟨d0, d1, y0, y1⟩ := HVB.out.below hS9 (cell_lt HVB.out.c0)))
    all_goals go_wp2_with fail
    all_goals go_meet
    all_goals exact ⟨_, hS9, rfl⟩
  case rest =>
    obtain ⟨wy, hBy, rfl⟩ := hcut
    generalize hg : (((wy.setCell ⟨w.heap.size, 0, none⟩ (.bool A.h)).setCell ⟨w.heap.size, 1, none⟩ (.int .u64 A.b)).setCell ⟨w.heap.size + 1, 0, none⟩ (.bool B.h)).setCell ⟨w.heap.size + 1, 1, none⟩ (.int .u64 B.b) = w2
    have GA : Hid (VB w2 w.heap.size A) := by
      show VB _ _ _
      rw [← hg]
      exact (((HVA.out.below hBy (cell_lt HVA.out.c0)).set _ _).other (by simp) _).other (by simp) _
    have GB : Hid (VB w2 (w.heap.size + 1) B) := by
      show VB _ _ _
      rw [← hg]
      exact (((HVB.out.below hBy (cell_lt HVB.out.c0)).other (by simp) _).other (by simp) _).set _ _
    have GC : Hid (VB w2 (w.heap.size + 1 + 1) noV) := by
      show VB _ _ _
      rw [← hg]
      exact ((((HVC.out.below hBy (cell_lt HVC.out.c0)).other (by simp; omega) _).other (by simp; omega) _).other (by simp) _).other (by simp) _
    have GW : Hid (Below w.heap.size w w2) := by
      show Below _ _ _
      rw [← hg]
      exact keep_store (keep_store (below_trans HBW.out hBy) _ (Nat.le_refl _) _ _) _ (Nat.le_succ _) _ _
    clear hg hBy HVA HVB HVC HBW HSZ HA HB
    have hn2 : w.heap.size ≤ w.heap.size + 1 + 1 := by omega
    have HN2 : Hid (w.heap.size ≤ w.heap.size + 1 + 1) := hn2
    clear hn2
    obtain ⟨c0, c1, z0, z1⟩ := GA.out
    obtain ⟨d0, d1, y0, y1⟩ := GB.out
    obtain ⟨e0, e1, x0, x1⟩ := GC.out
    cases hAh : A.h
    · rw [hAh] at c0
      have EJ : Hid (joinV k A B = B) := by show _ = _; unfold joinV; rw [if_pos hAh]
      clear hAh
      go_wp2_with fail
      refine bodyPost_ret (v := .agg #[.bool B.h, .int .u64 B.b]) (by simp [results, Tryz.results79, go_sem, e0, e1]) rfl ⟨by rw [EJ.out], ?_⟩
      exact keep_store GW.out _ HN2.out _ _
    cases hBh : B.h
    · rw [hAh] at c0
      rw [hBh] at d0
      have EJ : Hid (joinV k A B = A) := by show _ = _; unfold joinV; rw [if_neg (by simp [hAh]), if_pos hBh]
      have HAh : Hid (A.h = true) := hAh
      clear hAh hBh
      go_wp2_with fail
      refine bodyPost_ret (v := .agg #[.bool true, .int .u64 A.b]) (by simp [results, Tryz.results79, go_sem, e0, e1]) rfl ⟨by rw [EJ.out, HAh.out], ?_⟩
      exact keep_store GW.out _ HN2.out _ _
    rw [hAh] at c0
    rw [hBh] at d0
    have HAh : Hid (A.h = true) := hAh
    have HBh : Hid (B.h = true) := hBh
    have hav : A = ⟨true, A.b⟩ := by rw [← hAh]
    have hbv : B = ⟨true, B.b⟩ := by rw [← hBh]
    by_cases h3 : k = 3
    · subst h3
      have EJ : Hid (joinV 3 A B = ⟨true, leastW A.b B.b⟩) := by show _ = _; unfold joinV; rw [if_neg (by simp [hAh]), if_neg (by simp [hBh]), if_pos rfl]
      clear hAh hBh
      rw [hav] at GA
      rw [hbv] at GB
      clear hav hbv
      go_wp2_with fail
      go_region_with (first
        | (go_at_call 55; refine (floatOf_walk ⟨_, _⟩ _).mono ?_; rintro e w9 ⟨rfl, hB9⟩; have hS9 : Below w2.heap.size w2 w9 := below_trans (by first | assumption | exact (Below.refl _ _).drew) hB9; obtain ⟨c0, c1, z0, z1⟩ := GA.out.below hS9 (cell_lt GA.out.c0); obtain ⟨d0, d1, y0, y1⟩ := GB.out.below hS9 (cell_lt GB.out.c0); clear hB9)
        | (go_at_call 101; refine (least_walk HAO.out HBO.out _).mono ?_; rintro e w' ⟨rfl, rfl⟩)
        | (go_at_call 53; refine (ofFloat_walk _ _).mono ?_; rintro e w9 ⟨rfl, hB9⟩; have hS9 : Below w2.heap.size w2 w9 := below_trans (by first | assumption | exact (Below.refl _ _).drew) hB9; obtain ⟨e0, e1, x0, x1⟩ := GC.out.below hS9 (cell_lt GC.out.c0)))
      all_goals go_wp2_with fail
      all_goals refine bodyPost_ret (v := .agg #[.bool true, .int .u64 (leastW A.b B.b)]) (by simp [results, Tryz.results79, go_sem, e0, e1]) rfl ⟨by rw [EJ.out], ?_⟩
      all_goals exact keep_store (below_trans GW.out hS9) _ HN2.out _ _
    by_cases h4 : k = 4
    · subst h4
      have EJ : Hid (joinV 4 A B = ⟨true, mostW A.b B.b⟩) := by show _ = _; unfold joinV; rw [if_neg (by simp [hAh]), if_neg (by simp [hBh]), if_neg (by omega), if_pos rfl]
      clear hAh hBh
      rw [hav] at GA
      rw [hbv] at GB
      clear hav hbv
      go_wp2_with fail
      go_region_with (first
        | (go_at_call 55; refine (floatOf_walk ⟨_, _⟩ _).mono ?_; rintro e w9 ⟨rfl, hB9⟩; have hS9 : Below w2.heap.size w2 w9 := below_trans (by first | assumption | exact (Below.refl _ _).drew) hB9; obtain ⟨c0, c1, z0, z1⟩ := GA.out.below hS9 (cell_lt GA.out.c0); obtain ⟨d0, d1, y0, y1⟩ := GB.out.below hS9 (cell_lt GB.out.c0); clear hB9)
        | (go_at_call 102; refine (most_walk HAO.out HBO.out _).mono ?_; rintro e w' ⟨rfl, rfl⟩)
        | (go_at_call 53; refine (ofFloat_walk _ _).mono ?_; rintro e w9 ⟨rfl, hB9⟩; have hS9 : Below w2.heap.size w2 w9 := below_trans (by first | assumption | exact (Below.refl _ _).drew) hB9; obtain ⟨e0, e1, x0, x1⟩ := GC.out.below hS9 (cell_lt GC.out.c0)))
      all_goals go_wp2_with fail
      all_goals refine bodyPost_ret (v := .agg #[.bool true, .int .u64 (mostW A.b B.b)]) (by simp [results, Tryz.results79, go_sem, e0, e1]) rfl ⟨by rw [EJ.out], ?_⟩
      all_goals exact keep_store (below_trans GW.out hS9) _ HN2.out _ _
    · have EJ : Hid (joinV k A B = ⟨true, (A.b + B.b) % 18446744073709551616⟩) := by show _ = _; unfold joinV; rw [if_neg (by simp [hAh]), if_neg (by simp [hBh]), if_neg h3, if_neg h4]
      have es : IntKind.u64.wrap ((A.b : Int) + (B.b : Int)) = (((A.b + B.b) % 18446744073709551616 : Nat) : Int) := by rw [IntKind.wrap_u64]; omega
      obtain ⟨sm, hsm⟩ : ∃ sm, sm = (A.b + B.b) % 18446744073709551616 := ⟨_, rfl⟩
      rw [← hsm] at es
      have HS : Hid (sm = (A.b + B.b) % 18446744073709551616) := hsm
      clear hsm
      have b3 := neq_b h3
      have b4 := neq_b h4
      clear hAh hBh hav hbv h3 h4
      go_wp2_with fail
      refine bodyPost_ret (v := .agg #[.bool true, .int .u64 sm]) (by simp [results, Tryz.results79, go_sem, e0, e1]) rfl ⟨by rw [EJ.out, HS.out], ?_⟩
      exact keep_store GW.out _ HN2.out _ _
end Go.Proofs.YtopjedgknbbgkaaGreat
