/- The reference's One, whatever the step. -/
import Derived.Test.YtjkhegekojflhabXn
namespace Go.Proofs.Ytjkhegekojflhab
open Ieee Go.RowKit
attribute [local go_sem] run_store_float

set_option linter.unusedSimpArgs false in
theorem rone_bad (o : Stp) (r : Rcd) (hb : isB o = false) (w : World) :
    Calls Try.prog 50 #[.agg #[.int .i64 o.K, .int .i64 o.N, .float .f64 o.X], .agg #[.int .u64 r.k, .float .f64 r.x]] w fun e w' =>
      e = .returned (.tuple #[.agg #[.int .u64 0, .float .f64 0], .int .i64 0]) ∧ Below w.heap.size w w' := by
  have HI : Hid (isB o = false) := hb
  clear hb
  go_enter Try.func50, Try.ntmps50
  go_wp2_with fail
  generalize hw1 : ((w.alloc (Obj.cells #[Value.int IntKind.i64 o.K, Value.int IntKind.i64 o.N, Value.float FloatKind.f64 o.X] 55)).alloc (Obj.cells #[Value.int IntKind.u64 r.k, Value.float FloatKind.f64 r.x] 40)).alloc (Obj.cells #[Value.int IntKind.u64 0, Value.float FloatKind.f64 0] 40) = w1
  obtain ⟨HS, HB, _, _, _, R1, R2⟩ := step_start hw1
  clear hw1
  refine (rstep_walk o _).mono ?_
  rw [HI.out]
  rintro e w2 ⟨rfl, hB⟩
  obtain ⟨d0, d1, y0, y1⟩ := R2.below hB (cell_lt R2.c0)
  have HB2 : Hid (Below w.heap.size w w2) := below_trans HB.out hB
  clear hB R1 R2
  go_wp2_with fail
  refine bodyPost_ret (v := .tuple #[.agg #[.int .u64 0, .float .f64 0], .int .i64 0]) (by simp [results, Try.results50, go_sem, d0, d1, y0, y1]) rfl ⟨rfl, ?_⟩
  exact (HB2.out.setCell (p := ⟨w.heap.size + 1 + 1, 0, none⟩) (by simp only; omega) _).setCell (p := ⟨w.heap.size + 1 + 1, 1, none⟩) (by simp only; omega) _

theorem one_stop' {o : Stp} {r : Rcd} {f : Int} (hb : isB o = true) (hf : fateI o (canonW r.x) = f) (h1 : ¬ f = 1) : oneS o r = (f, ⟨0, 0⟩) := by
  rw [one_stop hb (by rw [hf]; exact h1), hf]

theorem rone_walk (o : Stp) (r : Rcd) (ho : o.ok) (hr : r.ok) (w : World) :
    Calls Try.prog 50 #[.agg #[.int .i64 o.K, .int .i64 o.N, .float .f64 o.X], .agg #[.int .u64 r.k, .float .f64 r.x]] w fun e w' =>
      e = .returned (.tuple #[.agg #[.int .u64 (oneS o r).2.k, .float .f64 (oneS o r).2.x], .int .i64 (oneS o r).1]) ∧ Below w.heap.size w w' := by
  cases hb : isB o
  · rw [show oneS o r = (0, ⟨0, 0⟩) by unfold oneS runS; rw [if_neg (by simp [checkB, hb])]; rfl]
    exact rone_bad o r hb w
  have hk := isB_kind hb
  obtain ⟨K, N, X⟩ := o
  obtain ⟨k, x⟩ := r
  obtain ⟨_, ⟨_, hN⟩, _⟩ := ho
  obtain ⟨_, hx⟩ := hr
  simp only at *
  rcases hk with rfl | rfl | rfl | rfl | rfl | rfl | ⟨rfl, _⟩ | rfl | rfl | rfl | ⟨rfl, h1⟩ | rfl
  · cases h : ltB (canonW x) X
    · rw [one_stop' (o := ⟨1, N, X⟩) (r := ⟨k, x⟩) (f := 2) hb (by simp [fateI, h]) (by decide)]
      exact rone_1_drop N X k hx hb h w
    · rw [one_keep (o := ⟨1, N, X⟩) (r := ⟨k, x⟩) hb (by simp [fateI, h]), show nextR ⟨1, N, X⟩ (canR ⟨k, x⟩) = ⟨k, canonW x⟩ by simp [nextR, canR]]
      exact rone_1_keep N X k hx hb h w
  · cases h : gtB (canonW x) X
    · rw [one_stop' (o := ⟨2, N, X⟩) (r := ⟨k, x⟩) (f := 2) hb (by simp [fateI, h]) (by decide)]
      exact rone_2_drop N X k hx hb h w
    · rw [one_keep (o := ⟨2, N, X⟩) (r := ⟨k, x⟩) hb (by simp [fateI, h]), show nextR ⟨2, N, X⟩ (canR ⟨k, x⟩) = ⟨k, canonW x⟩ by simp [nextR, canR]]
      exact rone_2_keep N X k hx hb h w
  · cases h : nanB x
    · rw [one_keep (o := ⟨3, N, X⟩) (r := ⟨k, x⟩) hb (by simp [fateI, nan_canon, h]), show nextR ⟨3, N, X⟩ (canR ⟨k, x⟩) = ⟨k, canonW x⟩ by simp [nextR, canR]]
      exact rone_3_keep N X k hx hb h w
    · rw [one_stop' (o := ⟨3, N, X⟩) (r := ⟨k, x⟩) (f := 2) hb (by simp [fateI, nan_canon, h]) (by decide)]
      exact rone_3_drop N X k hx hb h w
  · rw [one_keep (o := ⟨4, N, X⟩) (r := ⟨k, x⟩) hb (by simp [fateI]), show nextR ⟨4, N, X⟩ (canR ⟨k, x⟩) = ⟨k, canonW (negW (canonW x))⟩ by simp [nextR, canR, turnW]]
    exact rone_4 N X k hx hb w
  · rw [one_keep (o := ⟨5, N, X⟩) (r := ⟨k, x⟩) hb (by simp [fateI]), show nextR ⟨5, N, X⟩ (canR ⟨k, x⟩) = ⟨k, canonW (rung (canonW x))⟩ by simp [nextR, canR, turnW]]
    exact rone_5 N X k hx hb w
  · rw [one_keep (o := ⟨6, N, X⟩) (r := ⟨k, x⟩) hb (by simp [fateI]), show nextR ⟨6, N, X⟩ (canR ⟨k, x⟩) = ⟨k, canonW (floorW (canonW x))⟩ by simp [nextR, canR, turnW]]
    exact rone_6 N X k hx hb w
  · rw [one_keep (o := ⟨7, N, X⟩) (r := ⟨k, x⟩) hb (by simp [fateI]), show nextR ⟨7, N, X⟩ (canR ⟨k, x⟩) = ⟨k, canonW (scaleR (canonW x) N)⟩ by simp [nextR, canR, turnW]]
    exact rone_7 N X k hx hb w
  · rw [one_keep (o := ⟨8, N, X⟩) (r := ⟨k, x⟩) hb (by simp [fateI]), show nextR ⟨8, N, X⟩ (canR ⟨k, x⟩) = ⟨k, canonW (invW (canonW x))⟩ by simp [nextR, canR, turnW]]
    cases h : nanB (canonW x)
    · obtain ⟨I, h1, _, h3, _⟩ := inv_some (canon_lt hx) h
      exact rone_8_num N X k hx hb h1 h3 w
    · exact rone_8_nan N X k hx hb (inv_nan (canon_lt hx) h) w
  · by_cases h : rung (canonW x) < 9218868437227405312
    · rw [one_keep (o := ⟨9, N, X⟩) (r := ⟨k, x⟩) hb (by simp [fateI, h]), show nextR ⟨9, N, X⟩ (canR ⟨k, x⟩) = ⟨k, canonW x⟩ by simp [nextR, canR]]
      exact rone_9_keep N X k hx hb h w
    · have hf : fateI ⟨9, N, X⟩ (canonW x) = 3 := by
        simp only [fateI]
        rw [if_neg (by decide), if_neg (by decide), if_neg (by decide), if_pos trivial, if_pos (by omega)]
      rw [one_stop' (o := ⟨9, N, X⟩) (r := ⟨k, x⟩) (f := 3) hb hf (by decide)]
      have hs : FloatKind.f64.format.sub (canonW x) (canonW x) = none := by
        cases hq : nanB (canonW x)
        · have := nan_f hq
          exact sub_inf (canon_lt hx) (by omega)
        · exact sub_nan (canon_lt hx) hq
      exact rone_9_trap N X k hx hb hs w
  · by_cases h : wholeI (canonW x) = 0
    · rw [one_stop' (o := ⟨10, N, X⟩) (r := ⟨k, x⟩) (f := 3) hb (by simp [fateI, h]) (by decide)]
      exact rone_10_trap N X k hx hb h w
    · rw [one_keep (o := ⟨10, N, X⟩) (r := ⟨k, x⟩) hb (by simp [fateI, h]), show nextR ⟨10, N, X⟩ (canR ⟨k, x⟩) = ⟨k, canonW (ofW (perI N (wholeI (canonW x))))⟩ by simp [nextR, canR, turnW]]
      exact rone_10_keep N X k hx hb h w
  · rw [one_keep (o := ⟨11, N, X⟩) (r := ⟨k, x⟩) hb (by simp [fateI]), show nextR ⟨11, N, X⟩ (canR ⟨k, x⟩) = ⟨k % N.toNat, canonW x⟩ by simp [nextR, canR]]
    exact rone_11 N X k hx hb h1 hN w
  · rw [one_keep (o := ⟨12, N, X⟩) (r := ⟨k, x⟩) hb (by simp [fateI]), show nextR ⟨12, N, X⟩ (canR ⟨k, x⟩) = ⟨k % 4611686018427387904 * 4 + sideN (canonW x), canonW x⟩ by simp [nextR, canR]]
    exact rone_12 N X k hx hb w
end Go.Proofs.Ytjkhegekojflhab
