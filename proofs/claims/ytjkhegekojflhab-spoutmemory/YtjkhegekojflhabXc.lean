/- A step whatever its kind: kept, dropped, trapped. Slices of steps. -/
import Derived.Test.YtjkhegekojflhabXs
namespace Go.Proofs.Ytjkhegekojflhab
open Ieee Go.RowKit

theorem isB_kind {o : Stp} (h : isB o = true) : o.K = 1 ∨ o.K = 2 ∨ o.K = 3 ∨ o.K = 4 ∨ o.K = 5 ∨ o.K = 6 ∨ (o.K = 7 ∧ -2200 ≤ o.N ∧ o.N ≤ 2200) ∨ o.K = 8 ∨ o.K = 9 ∨ o.K = 10 ∨ (o.K = 11 ∧ 1 ≤ o.N) ∨ o.K = 12 := by
  unfold isB at h
  split at h
  · simp at h; omega
  split at h
  · simp at h; omega
  · simp at h; omega

theorem step_kept (o : Stp) (r : Rcd) (ho : o.ok) (hr : r.ok) (hb : isB o = true) (hf : fateI o r.x = 1) (w : World) :
    Calls Try.prog 48 #[.agg #[.int .i64 o.K, .int .i64 o.N, .float .f64 o.X], .agg #[.int .u64 r.k, .float .f64 r.x]] w fun e w' =>
      e = .returned (.tuple #[.agg #[.int .u64 (nextR o r).k, .float .f64 (nextR o r).x], .bool true]) ∧ Below w.heap.size w w' := by
  have hk := isB_kind hb
  obtain ⟨K, N, X⟩ := o
  obtain ⟨k, x⟩ := r
  obtain ⟨_, ⟨_, hN⟩, _⟩ := ho
  obtain ⟨_, hx⟩ := hr
  simp only at *
  rcases hk with rfl | rfl | rfl | rfl | rfl | rfl | ⟨rfl, _⟩ | rfl | rfl | rfl | ⟨rfl, h1⟩ | rfl
  · rw [show nextR ⟨1, N, X⟩ ⟨k, x⟩ = ⟨k, x⟩ by simp [nextR]]
    refine (step_1 N X k w).mono ?_
    rintro e w' ⟨rfl, hB⟩
    refine ⟨?_, hB⟩
    cases h : ltB x X
    · simp [fateI, h] at hf
    · rfl
  · rw [show nextR ⟨2, N, X⟩ ⟨k, x⟩ = ⟨k, x⟩ by simp [nextR]]
    refine (step_2 N X k w).mono ?_
    rintro e w' ⟨rfl, hB⟩
    refine ⟨?_, hB⟩
    cases h : gtB x X
    · simp [fateI, h] at hf
    · rfl
  · rw [show nextR ⟨3, N, X⟩ ⟨k, x⟩ = ⟨k, x⟩ by simp [nextR]]
    refine (step_3 N X k hx w).mono ?_
    rintro e w' ⟨rfl, hB⟩
    refine ⟨?_, hB⟩
    cases h : nanB x
    · rfl
    · simp [fateI, h] at hf
  · rw [show nextR ⟨4, N, X⟩ ⟨k, x⟩ = ⟨k, canonW (negW x)⟩ by simp [nextR, turnW]]
    exact step_4 N X k hx w
  · rw [show nextR ⟨5, N, X⟩ ⟨k, x⟩ = ⟨k, canonW (rung x)⟩ by simp [nextR, turnW]]
    exact step_5 N X k hx w
  · rw [show nextR ⟨6, N, X⟩ ⟨k, x⟩ = ⟨k, canonW (floorW x)⟩ by simp [nextR, turnW]]
    exact step_6 N X k hx w
  · rw [show nextR ⟨7, N, X⟩ ⟨k, x⟩ = ⟨k, canonW (scaleR x N)⟩ by simp [nextR, turnW]]
    exact step_7 N X k hx w
  · rw [show nextR ⟨8, N, X⟩ ⟨k, x⟩ = ⟨k, canonW (invW x)⟩ by simp [nextR, turnW]]
    exact step_8 N X k hx w
  · rw [show nextR ⟨9, N, X⟩ ⟨k, x⟩ = ⟨k, x⟩ by simp [nextR]]
    refine step_9 N X k hx ?_ w
    by_cases h : 9218868437227405312 ≤ rung x
    · simp [fateI, h] at hf
    · omega
  · rw [show nextR ⟨10, N, X⟩ ⟨k, x⟩ = ⟨k, canonW (ofW (perI N (wholeI x)))⟩ by simp [nextR, turnW]]
    refine step_10 N X k hx ?_ w
    intro h
    simp [fateI, h] at hf
  · rw [show nextR ⟨11, N, X⟩ ⟨k, x⟩ = ⟨k % N.toNat, x⟩ by simp [nextR]]
    exact step_11 N X k h1 hN w
  · rw [show nextR ⟨12, N, X⟩ ⟨k, x⟩ = ⟨k % 4611686018427387904 * 4 + sideN x, x⟩ by simp [nextR]]
    exact step_12 N X k hx w

theorem step_dropped (o : Stp) (r : Rcd) (hr : r.ok) (hb : isB o = true) (hf : fateI o r.x = 2) (w : World) :
    Calls Try.prog 48 #[.agg #[.int .i64 o.K, .int .i64 o.N, .float .f64 o.X], .agg #[.int .u64 r.k, .float .f64 r.x]] w fun e w' =>
      e = .returned (.tuple #[.agg #[.int .u64 r.k, .float .f64 r.x], .bool false]) ∧ Below w.heap.size w w' := by
  have hk := isB_kind hb
  obtain ⟨K, N, X⟩ := o
  obtain ⟨k, x⟩ := r
  obtain ⟨_, hx⟩ := hr
  simp only at *
  rcases hk with rfl | rfl | rfl | rfl | rfl | rfl | ⟨rfl, _⟩ | rfl | rfl | rfl | ⟨rfl, h1⟩ | rfl
  · refine (step_1 N X k w).mono ?_
    rintro e w' ⟨rfl, hB⟩
    refine ⟨?_, hB⟩
    cases h : ltB x X
    · rfl
    · simp [fateI, h] at hf
  · refine (step_2 N X k w).mono ?_
    rintro e w' ⟨rfl, hB⟩
    refine ⟨?_, hB⟩
    cases h : gtB x X
    · rfl
    · simp [fateI, h] at hf
  · refine (step_3 N X k hx w).mono ?_
    rintro e w' ⟨rfl, hB⟩
    refine ⟨?_, hB⟩
    cases h : nanB x
    · simp [fateI, h] at hf
    · rfl
  all_goals (exfalso; revert hf; simp [fateI])
  all_goals (split <;> simp)

theorem step_trapped (o : Stp) (r : Rcd) (hr : r.ok) (hb : isB o = true) (hf : fateI o r.x = 3) (w : World) :
    Calls Try.prog 48 #[.agg #[.int .i64 o.K, .int .i64 o.N, .float .f64 o.X], .agg #[.int .u64 r.k, .float .f64 r.x]] w fun e w' =>
      (∃ u pv, e = .panicked [{ v := .iface u pv, recovered := false }]) ∧ Below w.heap.size w w' := by
  have hk := isB_kind hb
  obtain ⟨K, N, X⟩ := o
  obtain ⟨k, x⟩ := r
  obtain ⟨_, hx⟩ := hr
  simp only at *
  rcases hk with rfl | rfl | rfl | rfl | rfl | rfl | ⟨rfl, _⟩ | rfl | rfl | rfl | ⟨rfl, h1⟩ | rfl
  rotate_left 8
  · refine step_9_trap N X k hx ?_ w
    by_cases h : 9218868437227405312 ≤ rung x
    · exact h
    · simp [fateI, h] at hf
  · refine step_10_trap N X k hx ?_ w
    by_cases h : wholeI x = 0
    · exact h
    · simp [fateI, h] at hf
  all_goals (exfalso; revert hf; simp [fateI])
  all_goals (split <;> simp)

theorem fate_cases (o : Stp) (x : Nat) : fateI o x = 1 ∨ fateI o x = 2 ∨ fateI o x = 3 := by
  unfold fateI
  repeat' split
  all_goals omega

/-- The cells behind ao hold the steps l. -/
def Ol (w : World) (ao : Option Addr) (l : List Stp) : Prop :=
  ∀ i, (h : i < l.length) → ∃ b off, ao = some ⟨b, off, none⟩ ∧ w.cell? ⟨b, off + i * 3, none⟩ = some (.int .i64 l[i].K) ∧ w.cell? ⟨b, off + i * 3 + 1, none⟩ = some (.int .i64 l[i].N) ∧ w.cell? ⟨b, off + i * 3 + 2, none⟩ = some (.float .f64 l[i].X)

/-- The value v is a slice that holds the steps l. -/
def Ov (w : World) (v : Value) (l : List Stp) : Prop :=
  (∃ ao cap, v = .slice ao l.length cap ∧ l.length ≤ cap ∧ cap ≤ maxLen ∧ (ao = none → cap = 0) ∧ Ol w ao l) ∧ ∀ o ∈ l, o.ok

theorem Ol.below {w w' : World} {ao : Option Addr} {l : List Stp} (h : Ol w ao l) (hb : Below w.heap.size w w') : Ol w' ao l := by
  intro i hi
  obtain ⟨b, off, e, h0, h1, h2⟩ := h i hi
  exact ⟨b, off, e, by rw [hb.cell (p := ⟨b, off + i * 3, none⟩) (cell_lt h0)]; exact h0, by rw [hb.cell (p := ⟨b, off + i * 3 + 1, none⟩) (cell_lt h1)]; exact h1, by rw [hb.cell (p := ⟨b, off + i * 3 + 2, none⟩) (cell_lt h2)]; exact h2⟩
theorem Ov.below {w w' : World} {v : Value} {l : List Stp} (h : Ov w v l) (hb : Below w.heap.size w w') : Ov w' v l := by
  obtain ⟨⟨ao, cap, e, h1, h2, h3, h4⟩, h5⟩ := h
  exact ⟨⟨ao, cap, e, h1, h2, h3, h4.below hb⟩, h5⟩
end Go.Proofs.Ytjkhegekojflhab
