/- One step over one float: the numbers that OpsEdges asks. -/
import Derived.Test.YtkpfjoklbindjaaXm
namespace Go.Proofs.Ytkpfjoklbindjaa
open Ieee Go.RowKit

theorem one_neg (k x : Nat) : oneS ⟨4, 0, 0⟩ ⟨k, x⟩ = (1, ⟨k, canonW (negW (canonW x))⟩) := by
  rw [one_keep (o := ⟨4, 0, 0⟩) (r := ⟨k, x⟩) (by simp [isB]) (by simp [fateI])]
  simp [nextR, canR, turnW]
theorem one_abs (k x : Nat) : oneS ⟨5, 0, 0⟩ ⟨k, x⟩ = (1, ⟨k, canonW (rung (canonW x))⟩) := by
  rw [one_keep (o := ⟨5, 0, 0⟩) (r := ⟨k, x⟩) (by simp [isB]) (by simp [fateI])]
  simp [nextR, canR, turnW]
theorem one_inv (k x : Nat) : oneS ⟨8, 0, 0⟩ ⟨k, x⟩ = (1, ⟨k, canonW (invW (canonW x))⟩) := by
  rw [one_keep (o := ⟨8, 0, 0⟩) (r := ⟨k, x⟩) (by simp [isB]) (by simp [fateI])]
  simp [nextR, canR, turnW]
theorem order_canon {x : Nat} (hx : x < 18446744073709551616) (y : Nat) : FloatKind.f64.format.order (canonW x) y = FloatKind.f64.format.order x y := by
  cases h : nanB x
  · rw [canon_num h]
  · rw [show FloatKind.f64.format.order x y = none from order_nan_left hx h]
    exact order_nan_left (canon_lt hx) (by rw [nan_canon]; exact h)
theorem one_less {x : Nat} (hx : x < 18446744073709551616) (y : Nat) : ∃ lf r, oneS ⟨1, 0, y⟩ ⟨0, x⟩ = (lf, r) ∧ (lf == 1) = (FloatKind.f64.format.order x y == some .lt) ∧ (lf != 3) = true := by
  have hc : ltB (canonW x) y = (FloatKind.f64.format.order x y == some .lt) := by unfold ltB; rw [order_canon hx]
  cases h : ltB (canonW x) y
  · have hf : fateI ⟨1, 0, y⟩ (canonW x) = 2 := by simp [fateI, h]
    refine ⟨2, ⟨0, 0⟩, ?_, ?_, by decide⟩
    · rw [one_stop (o := ⟨1, 0, y⟩) (r := ⟨0, x⟩) (by simp [isB]) (by simp only; rw [hf]; decide)]; simp only [hf]
    · rw [← hc, h]; rfl
  · have hf : fateI ⟨1, 0, y⟩ (canonW x) = 1 := by simp [fateI, h]
    refine ⟨1, _, one_keep (o := ⟨1, 0, y⟩) (r := ⟨0, x⟩) (by simp [isB]) hf, ?_, by decide⟩
    rw [← hc, h]; rfl
theorem one_more {x : Nat} (hx : x < 18446744073709551616) (y : Nat) : ∃ lf r, oneS ⟨2, 0, y⟩ ⟨0, x⟩ = (lf, r) ∧ (lf == 1) = (FloatKind.f64.format.order x y == some .gt) ∧ (lf != 3) = true := by
  have hc : gtB (canonW x) y = (FloatKind.f64.format.order x y == some .gt) := by unfold gtB; rw [order_canon hx]
  cases h : gtB (canonW x) y
  · have hf : fateI ⟨2, 0, y⟩ (canonW x) = 2 := by simp [fateI, h]
    refine ⟨2, ⟨0, 0⟩, ?_, ?_, by decide⟩
    · rw [one_stop (o := ⟨2, 0, y⟩) (r := ⟨0, x⟩) (by simp [isB]) (by simp only; rw [hf]; decide)]; simp only [hf]
    · rw [← hc, h]; rfl
  · have hf : fateI ⟨2, 0, y⟩ (canonW x) = 1 := by simp [fateI, h]
    refine ⟨1, _, one_keep (o := ⟨2, 0, y⟩) (r := ⟨0, x⟩) (by simp [isB]) hf, ?_, by decide⟩
    rw [← hc, h]; rfl
theorem one_real {x : Nat} (h : nanB x = false) : ∃ r, oneS ⟨3, 0, 0⟩ ⟨0, x⟩ = (1, r) :=
  ⟨_, one_keep (o := ⟨3, 0, 0⟩) (r := ⟨0, x⟩) (by simp [isB]) (by simp [fateI, nan_canon, h])⟩
theorem one_unreal {x : Nat} (h : nanB x = true) : ∃ r, oneS ⟨3, 0, 0⟩ ⟨0, x⟩ = (2, r) := by
  have hf : fateI ⟨3, 0, 0⟩ (canonW x) = 2 := by simp [fateI, nan_canon, h]
  exact ⟨⟨0, 0⟩, by rw [one_stop (o := ⟨3, 0, 0⟩) (r := ⟨0, x⟩) (by simp [isB]) (by simp only; rw [hf]; decide)]; simp only [hf]⟩

theorem canon_qnan : canonW 9221120237041090561 = 9221120237041090561 := by decide
theorem one_neg_nan {k x : Nat} (h : nanB x = true) : oneS ⟨4, 0, 0⟩ ⟨k, x⟩ = (1, ⟨k, 9221120237041090561⟩) := by
  rw [one_neg, canon_nan h, canon_nan (by rw [nan_negW (by omega)]; decide)]
theorem one_abs_nan {k x : Nat} (h : nanB x = true) : oneS ⟨5, 0, 0⟩ ⟨k, x⟩ = (1, ⟨k, 9221120237041090561⟩) := by
  rw [one_abs, canon_nan h, canon_nan (by decide)]
theorem one_inv_nan {k x : Nat} (h : nanB x = true) : oneS ⟨8, 0, 0⟩ ⟨k, x⟩ = (1, ⟨k, 9221120237041090561⟩) := by
  rw [one_inv, canon_nan h, invW_nan (inv_nan (by omega) (by decide)), canon_qnan]
theorem one_neg_num {k x : Nat} (hx : x < 18446744073709551616) (h : nanB x = false) : oneS ⟨4, 0, 0⟩ ⟨k, x⟩ = (1, ⟨k, negW x⟩) := by
  rw [one_neg, canon_num h, canon_num (by rw [nan_negW hx]; exact h)]
theorem nan_of_rung {x : Nat} (h : nanB x = false) : nanB (rung x) = false := by
  have := nan_f h
  have := rung_lt x
  unfold nanB
  rw [decide_eq_false]
  unfold rung at *
  omega
theorem one_abs_num {k x : Nat} (h : nanB x = false) : oneS ⟨5, 0, 0⟩ ⟨k, x⟩ = (1, ⟨k, rung x⟩) := by
  rw [one_abs, canon_num h, canon_num (nan_of_rung h)]
theorem one_inv_num {k x r : Nat} (h : nanB x = false) (hr : nanB r = false) (he : Ieee.double.div 4607182418800017408 x = some r) : oneS ⟨8, 0, 0⟩ ⟨k, x⟩ = (1, ⟨k, r⟩) := by
  rw [one_inv, canon_num h, invW_num he, canon_num hr]
theorem rung_pos {x : Nat} (hs : negB x = false) (hx : x < 18446744073709551616) : rung x = x := by rw [rung_of hx, hs]; rfl
theorem rung_neg {x : Nat} (hs : negB x = true) (hx : x < 18446744073709551616) : rung x = negW x := by rw [rung_of hx, negW_cases hx, hs]; rfl
theorem negW_ne {x : Nat} (hx : x < 18446744073709551616) : decide (negW x = x) = false := by
  rw [decide_eq_false]
  intro h
  have := neg_negW hx
  rw [h] at this
  cases hb : negB x <;> rw [hb] at this <;> cases this
theorem order_self_num {x : Nat} (hx : x < 18446744073709551616) (h : nanB x = false) : FloatKind.f64.format.order x x = some .eq := ord_eq' hx hx h h rfl
theorem rung_nlt0 {x : Nat} (h : nanB x = false) : (FloatKind.f64.format.order (rung x) 0 == some .lt) = false := by
  have hk : key (rung x) = rung x := by
    have := rung_lt x
    unfold key
    have e1 : negB (rung x) = false := by unfold negB; rw [decide_eq_false (by omega)]
    have e2 : rung (rung x) = rung x := by unfold rung; omega
    rw [e1, e2]; rfl
  have hl := rung_lt x
  rcases order_cases (c := 0) (x := rung x) (by omega) (show 0 < 18446744073709551616 by omega) (nan_of_rung h) (by decide) (by decide) with ⟨o, k⟩ | ⟨o, k⟩ | ⟨o, k⟩
  · omega
  · rw [o]; rfl
  · rw [o]; rfl
theorem order0 {x : Nat} (hx : x < 18446744073709551616) (h : nanB x = false) :
    (rung x = 0 → FloatKind.f64.format.order x 0 = some .eq) ∧ (rung x ≠ 0 → negB x = true → FloatKind.f64.format.order x 0 = some .lt) ∧ (rung x ≠ 0 → negB x = false → FloatKind.f64.format.order x 0 = some .gt) := by
  have h0 : key 0 = 0 := by decide
  refine ⟨fun e => ord_eq' hx (by omega) h (by decide) (by rw [h0]; exact key_zero.2 e), fun e s => ord_lt' hx (by omega) h (by decide) ?_, fun e s => ord_gt' hx (by omega) h (by decide) ?_⟩
  · rw [h0]; unfold key; rw [s]; simp; omega
  · rw [h0]; unfold key; rw [s]; simp; omega
end Go.Proofs.Ytkpfjoklbindjaa
