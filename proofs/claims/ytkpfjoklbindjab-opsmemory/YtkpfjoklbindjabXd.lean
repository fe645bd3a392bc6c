/- Slices of steps that the call itself makes: as cells in a row; steps. -/
import Derived.Test.YtkpfjoklbindjabXm
import Derived.Test.YtkpfjoklbindjabXz
import Derived.BigQuiet
import Derived.Deep.QuietTactic
import Derived.Laws.AppendOwnNone
import Derived.OwnWalk
namespace Go.Proofs.Ytkpfjoklbindjab
open Ieee Go.RowKit
attribute [local go_sem] run_store_float

/-- The cells of steps in a row. -/
def flat (l : List Stp) : List Value := l.flatMap fun o => [.int .i64 o.K, .int .i64 o.N, .float .f64 o.X]
theorem flat_len (l : List Stp) : (flat l).length = l.length * 3 := by
  unfold flat
  induction l with
  | nil => rfl
  | cons o l ih => rw [List.flatMap_cons, List.length_append, ih]; simp; omega
theorem flat_append (l m : List Stp) : flat (l ++ m) = flat l ++ flat m := by unfold flat; exact List.flatMap_append
theorem flat_get (l : List Stp) : ∀ (i : Nat) (h : i < l.length), (flat l)[i * 3]? = some (.int .i64 l[i].K) ∧ (flat l)[i * 3 + 1]? = some (.int .i64 l[i].N) ∧ (flat l)[i * 3 + 2]? = some (.float .f64 l[i].X) := by
  induction l with
  | nil => intro i h; simp at h
  | cons o l ih =>
    intro i h
    have e : flat (o :: l) = .int .i64 o.K :: .int .i64 o.N :: .float .f64 o.X :: flat l := rfl
    rw [e]
    cases i with
    | zero => simp
    | succ i =>
      have := ih i (by simpa using h)
      rw [show (i + 1) * 3 = i * 3 + 1 + 1 + 1 by omega]
      simpa using this
theorem flat_mem {l : List Stp} {u : Value} (h : u ∈ flat l) : u.oneCell' = true := by
  unfold flat at h
  obtain ⟨o, _, ho⟩ := List.mem_flatMap.1 h
  simp at ho
  rcases ho with rfl | rfl | rfl <;> rfl

/-- Block g holds the steps m, and nothing of it is frozen. -/
def Mv (w : World) (g : Nat) (m : List Stp) : Prop :=
  ∀ i, (h : i < m.length) → (w.cell? ⟨g, i * 3, none⟩ = some (.int .i64 m[i].K) ∧ w.cell? ⟨g, i * 3 + 1, none⟩ = some (.int .i64 m[i].N) ∧ w.cell? ⟨g, i * 3 + 2, none⟩ = some (.float .f64 m[i].X)) ∧
    (w.frozen? ⟨g, i * 3, none⟩ = false ∧ w.frozen? ⟨g, i * 3 + 1, none⟩ = false ∧ w.frozen? ⟨g, i * 3 + 2, none⟩ = false)
theorem Mv.below {w w' : World} {g B : Nat} {m : List Stp} (h : Mv w g m) (hb : Below B w w') (hl : g < B) : Mv w' g m := by
  intro i hi
  obtain ⟨⟨a, b, c⟩, d, e, f⟩ := h i hi
  exact ⟨⟨by rw [hb.cell (p := ⟨g, i * 3, none⟩) hl]; exact a, by rw [hb.cell (p := ⟨g, i * 3 + 1, none⟩) hl]; exact b, by rw [hb.cell (p := ⟨g, i * 3 + 2, none⟩) hl]; exact c⟩,
    by rw [hb.frozen (p := ⟨g, i * 3, none⟩) hl]; exact d, by rw [hb.frozen (p := ⟨g, i * 3 + 1, none⟩) hl]; exact e, by rw [hb.frozen (p := ⟨g, i * 3 + 2, none⟩) hl]; exact f⟩

theorem own_mv {w : World} {base e n cap g : Nat} {m : List Stp} (h : w.ownsRow base e 3 (.slice (some ⟨g, 0, none⟩) n cap) n (flat m)) : Mv w g m := by
  obtain ⟨h1, h2⟩ := h
  rw [flat_len] at h1
  have hn : n = m.length := by omega
  subst hn
  rcases h2 with ⟨h, _⟩ | ⟨g', cap', cur, e1, hb, hg, hnc, hcm, hcs, htake⟩
  · cases h
  · simp only [Value.slice.injEq, Option.some.injEq, Addr.mk.injEq] at e1
    obtain ⟨⟨rfl, _⟩, _, rfl⟩ := e1
    have key : ∀ j u, j < m.length * 3 → (flat m)[j]? = some u → w.cell? ⟨g, j, none⟩ = some u := by
      intro j u hj hu
      rw [cell_of_row w g j cur e (0, 0) hg, ← Array.getElem?_toList]
      rw [← htake, List.getElem?_take, if_pos hj] at hu
      exact hu
    intro i hi
    obtain ⟨a, b, c⟩ := flat_get m i hi
    refine ⟨⟨key _ _ (by omega) a, key _ _ (by omega) b, key _ _ (by omega) c⟩, ?_, ?_, ?_⟩
    all_goals simp [World.frozen?, hg]

theorem mv_ov {w : World} {g cap n : Nat} {m : List Stp} (h : Mv w g m) (hn : n ≤ m.length) (hc : m.length ≤ cap) (hm : cap ≤ maxLen) (hok : ∀ o ∈ m, o.ok) : Ov w (.slice (some ⟨g, 0, none⟩) n cap) (m.take n) := by
  have hl : (m.take n).length = n := by simp; omega
  refine ⟨⟨_, cap, by rw [hl], by omega, hm, by simp, fun i hi => ?_⟩, fun o ho => hok o (List.mem_of_mem_take ho)⟩
  rw [hl] at hi
  obtain ⟨⟨a, b, c⟩, _⟩ := h i (by omega)
  refine ⟨g, 0, rfl, ?_, ?_, ?_⟩
  · simpa using a
  · simpa using b
  · simpa using c

theorem steps_walk {ao bo : Option Addr} {ca cb : Nat} {l : List Stp} {w : World} (hl : l.length ≤ maxLen) (ha : Ol w ao l) (hb : Ol w bo l) :
    Calls Try.prog 11 #[.slice ao l.length ca, .slice bo l.length cb] w fun e w' => e = .returned (.bool true) ∧ Below w.heap.size w w' := by
  have hli : (l.length : Int) ≤ 9223372036854775807 := by simp only [maxLen] at hl; omega
  have HA : Hid (Ol w ao l) := ha
  have HB : Hid (Ol w bo l) := hb
  clear ha hb hl
  go_enter Try.func11, Try.ntmps11
  go_wp2_with fail
  go_loopw [5] (fun iv wr => ∃ k : Nat, k ≤ l.length ∧ iv = .int .i64 k ∧ Below w.heap.size w wr) (fun iv _ => l.length - (intOf iv).toNat)
  case atStart => exact ⟨0, Nat.zero_le _, rfl, below_same _⟩
  case round =>
    obtain ⟨k, hk, rfl, hB⟩ := hrel
    have HW : Hid (Below w.heap.size w wr) := hB
    clear hB
    by_cases hlt : k < l.length
    · obtain ⟨b, off, rfl, c0, c1, c2⟩ := HA.out.below HW.out k hlt
      obtain ⟨d, doff, rfl, d0, d1, d2⟩ := HB.out.below HW.out k hlt
      obtain ⟨o, hoe⟩ : ∃ o, o = l[k] := ⟨_, rfl⟩
      rw [← hoe] at c0 c1 c2 d0 d1 d2
      clear hoe
      go_wp2_with fail
      go_quiet ((go_at_call 12; exact Calls.quiet_of_same (rsame_walk _ _ _)))
      go_wp2_with fail
      go_roundw
      case rel => exact ⟨k + 1, by omega, by go_num, below_trans HW.out (below_drewN _ _)⟩
      case measure => simp [intOf]; omega
    · go_wp2_with fail
      go_ret
      exact ⟨rfl, HW.out⟩
theorem new_rec {w w3 : World} {t : TypeId} {k x : Nat} (h : Below ((w.alloc (Obj.cells #[.int .u64 k, .float .f64 x] t)).drew).heap.size (w.alloc (Obj.cells #[.int .u64 k, .float .f64 x] t)).drew w3) : RB w3 w.heap.size k x := by
  have h0 : RB (w.alloc (Obj.cells #[.int .u64 k, .float .f64 x] t)).drew w.heap.size k x := by
    refine ⟨?_, ?_, ?_, ?_⟩ <;> simp [go_sem]
  exact h0.below h (cell_lt h0.c0)

theorem keep_store {wr w3 : World} (h : Below wr.heap.size wr w3) (b : Nat) (hb : wr.heap.size ≤ b) (u v : Value) : Below wr.heap.size wr ((w3.setCell ⟨b, 0, none⟩ u).setCell ⟨b, 1, none⟩ v) := (h.setCell hb u).setCell hb v

theorem cut_new {wr w3 : World} {t : TypeId} (h : Below wr.heap.size wr w3) (R : Int × Rcd) :
    ∃ b', Value.pointer (some ⟨w3.heap.size, 0, none⟩) = Value.pointer (some ⟨b', 0, none⟩) ∧ Value.int .i64 R.1 = .int .i64 R.1 ∧ RB (w3.alloc (Obj.cells #[.int .u64 R.2.k, .float .f64 R.2.x] t)) b' R.2.k R.2.x ∧ wr.heap.size ≤ b' ∧ Below wr.heap.size wr (w3.alloc (Obj.cells #[.int .u64 R.2.k, .float .f64 R.2.x] t)) := by
  refine ⟨w3.heap.size, rfl, rfl, ⟨?_, ?_, ?_, ?_⟩, h.size, h.alloc h.size _⟩
  all_goals simp [go_sem]
theorem cut_old {wr w3 : World} (h : Below wr.heap.size wr w3) (h0 : RB w3 wr.heap.size 0 0) (R : Int × Rcd) :
    ∃ b', Value.pointer (some ⟨wr.heap.size, 0, none⟩) = Value.pointer (some ⟨b', 0, none⟩) ∧ Value.int .i64 R.1 = .int .i64 R.1 ∧ RB ((w3.setCell ⟨wr.heap.size, 0, none⟩ (.int .u64 R.2.k)).setCell ⟨wr.heap.size, 1, none⟩ (.float .f64 R.2.x)) b' R.2.k R.2.x ∧ wr.heap.size ≤ b' ∧
      Below wr.heap.size wr ((w3.setCell ⟨wr.heap.size, 0, none⟩ (.int .u64 R.2.k)).setCell ⟨wr.heap.size, 1, none⟩ (.float .f64 R.2.x)) :=
  ⟨_, rfl, rfl, h0.set _ _, Nat.le_refl _, keep_store h _ (Nat.le_refl _) _ _⟩

theorem sameB_self (a : Rcd) : sameB a a = true := by simp [sameB]
end Go.Proofs.Ytkpfjoklbindjab
