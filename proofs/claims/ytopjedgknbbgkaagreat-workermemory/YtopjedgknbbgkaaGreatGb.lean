/- Contracts of agg's Known, Of, Fit and of what they are made of; of the reference's. -/
import Derived.Test.YtopjedgknbbgkaaGreatM00
import Derived.Test.YtopjedgknbbgkaaGreatM01
import Derived.Deep.Draws
import Derived.WalkLawsBesides
namespace Go.Proofs.YtopjedgknbbgkaaGreat

open Ieee Go.RowKit



attribute [local go_sem] run_bits run_frombits


theorem below_same (w : World) : Below w.heap.size w w := Below.refl _ _
theorem cells_value : Tryz.prog.cellsOf 63 = 2 := by kernel_rfl


/-- A value's block. -/
structure VB (w : World) (b : Nat) (v : Vl) : Prop where
  c0 : w.cell? ⟨b, 0, none⟩ = some (.bool v.h)
  c1 : w.cell? ⟨b, 1, none⟩ = some (.int .u64 v.b)
  z0 : w.frozen? ⟨b, 0, none⟩ = false
  z1 : w.frozen? ⟨b, 1, none⟩ = false


theorem VB.below {w w' : World} {b B : Nat} {v : Vl} (h : VB w b v) (hb : Below B w w') (hl : b < B) : VB w' b v :=
  ⟨by rw [hb.cell (p := ⟨b, 0, none⟩) hl]; exact h.c0, by rw [hb.cell (p := ⟨b, 1, none⟩) hl]; exact h.c1, by rw [hb.frozen (p := ⟨b, 0, none⟩) hl]; exact h.z0, by rw [hb.frozen (p := ⟨b, 1, none⟩) hl]; exact h.z1⟩


theorem known_walk (k : Int) (w : World) :
    Calls Tryz.prog 31 #[.int .i64 k] w fun e w' => e = .returned (.bool (knownB k)) ∧ w' = w := by
  go_enter Tryz.func31, Tryz.ntmps31
  go_wp2
  all_goals (go_ret; exact ⟨ret_bool (by unfold knownB; simp <;> omega), rfl⟩)




theorem ofFloat_walk (x : Nat) (w : World) :
    Calls Tryz.prog 53 #[.float .f64 x] w fun e w' => e = .returned (.agg #[.bool true, .int .u64 x]) ∧ Below w.heap.size w w' := by
  go_enter Tryz.func53, Tryz.ntmps53
  go_wp2
  refine bodyPost_ret (v := .agg #[.bool true, .int .u64 x]) (by simp [results, Tryz.results53, go_sem]) rfl ⟨rfl, ?_⟩
  exact below_alloc _ _


theorem floatOf_walk (v : Vl) (w : World) :
    Calls Tryz.prog 55 #[.agg #[.bool v.h, .int .u64 v.b]] w fun e w' => e = .returned (.float .f64 v.b) ∧ Below w.heap.size w w' := by
  go_enter Tryz.func55, Tryz.ntmps55
  go_wp2
  go_ret
  exact ⟨rfl, below_alloc _ _⟩


theorem vb_new (w : World) (h : Bool) (b : Nat) : VB (w.alloc (Obj.cells #[Value.bool h, Value.int IntKind.u64 (b : Int)] 63)) w.heap.size ⟨h, b⟩ := by
  constructor <;> simp [go_sem]


theorem vb_zero (w : World) : VB (w.alloc (Obj.cells #[Value.bool false, Value.int IntKind.u64 0] 63)) w.heap.size noV := by
  constructor <;> simp [go_sem, noV]


theorem VB.set {w : World} {b : Nat} {v : Vl} (h : VB w b v) (c : Bool) (x : Nat) : VB ((w.setCell ⟨b, 0, none⟩ (.bool c)).setCell ⟨b, 1, none⟩ (.int .u64 x)) b ⟨c, x⟩ := by
  obtain ⟨c0, c1, z0, z1⟩ := h
  constructor <;> simp [go_sem, c0, c1, z0, z1]


theorem VB.other {w : World} {b : Nat} {v : Vl} (h : VB w b v) {p : Addr} (hne : b ≠ p.block) (u : Value) : VB (w.setCell p u) b v := by
  have e := Below.heap_setCell w p u b hne
  obtain ⟨c0, c1, z0, z1⟩ := h
  refine ⟨?_, ?_, ?_, ?_⟩
  · rw [World.cell?_setCell_other _ _ _ _ (by rintro ⟨⟩; exact hne rfl)]; exact c0
  · rw [World.cell?_setCell_other _ _ _ _ (by rintro ⟨⟩; exact hne rfl)]; exact c1
  · simpa [go_sem] using z0
  · simpa [go_sem] using z1


theorem keep_store {w w1 : World} (h : Below w.heap.size w w1) (b : Nat) (hb : w.heap.size ≤ b) (u v : Value) : Below w.heap.size w ((w1.setCell ⟨b, 0, none⟩ u).setCell ⟨b, 1, none⟩ v) := (h.setCell hb u).setCell hb v


theorem neq_b {k c : Int} (h : k ≠ c) : (k == c) = false := by simpa using h


theorem aof_walk (k : Int) {x : Nat} (hx : x < 18446744073709551616) (w : World) :
    Calls Tryz.prog 48 #[.int .i64 k, .float .f64 x] w fun e w' => e = .returned (.agg #[.bool (ofV k x).h, .int .u64 (ofV k x).b]) ∧ Below w.heap.size w w' := by
  by_cases h1 : k = 1
  · subst h1
    go_enter Tryz.func48, Tryz.ntmps48
    go_wp2_with fail
    refine bodyPost_ret (v := .agg #[.bool true, .int .u64 1]) (by simp [results, Tryz.results48, go_sem]) rfl ⟨rfl, ?_⟩
    exact below_alloc _ _
  by_cases h2 : k = 2
  · subst h2
    have e : IntKind.u64.wrap (wholeI x) = (wholeU x : Int) := (wholeU_eq x).symm
    go_enter Tryz.func48, Tryz.ntmps48
    go_wp2_with (go_at_call 80; refine (whole_walk hx _).mono ?_; rintro e w' ⟨rfl, rfl⟩)
    refine bodyPost_ret (v := .agg #[.bool true, .int .u64 (wholeU x)]) (by simp [results, Tryz.results48, go_sem]) rfl ⟨rfl, ?_⟩
    exact below_alloc _ _
  by_cases h34 : k = 3 ∨ k = 4
  · have e : ofV k x = ⟨true, canonW x⟩ := by unfold ofV; rw [if_neg h1, if_neg h2, if_pos h34]
    rw [e]
    rcases h34 with rfl | rfl
    all_goals
      go_enter Tryz.func48, Tryz.ntmps48
      go_wp2_with (go_at_call 54; refine (canon_walk hx _).mono ?_; rintro e w' ⟨rfl, rfl⟩)
      refine (ofFloat_walk _ _).mono ?_
      rintro e w1 ⟨rfl, hB⟩
      obtain ⟨c0, c1, z0, z1⟩ := (vb_zero w).below hB (by simp [go_sem])
      have HB : Hid (Below w.heap.size w w1) := below_trans (below_alloc _ _) hB
      clear hB
      go_wp2_with fail
      refine bodyPost_ret (v := .agg #[.bool true, .int .u64 (canonW x)]) (by simp [results, Tryz.results48, go_sem, c0, c1]) rfl ⟨rfl, ?_⟩
      exact keep_store HB.out _ (Nat.le_refl _) _ _
  · have e : ofV k x = noV := by unfold ofV; rw [if_neg h1, if_neg h2, if_neg h34]
    rw [e]
    have b1 := neq_b h1
    have b2 := neq_b h2
    have b3 : (k == 3) = false := neq_b (fun h => h34 (.inl h))
    have b4 : (k == 4) = false := neq_b (fun h => h34 (.inr h))
    go_enter Tryz.func48, Tryz.ntmps48
    go_wp2_with fail
    refine bodyPost_ret (v := .agg #[.bool false, .int .u64 0]) (by simp [results, Tryz.results48, go_sem]) rfl ⟨rfl, ?_⟩
    exact below_alloc _ _




theorem size_alloc (w : World) (o : Obj) : (w.alloc o).heap.size = w.heap.size + 1 := by simp [go_sem]


theorem below_two (w : World) (o p : Obj) : Below w.heap.size w ((w.alloc o).alloc p) := (below_alloc w o).alloc (by simp [go_sem]) p


theorem fit_walk (k : Int) {v : Vl} (hv : v.ok) (w : World) :
    Calls Tryz.prog 20 #[.int .i64 k, .agg #[.bool v.h, .int .u64 v.b]] w fun e w' => e = .returned (.agg #[.bool (fitV k v).h, .int .u64 (fitV k v).b]) ∧ Below w.heap.size w w' := by
  obtain ⟨h, b⟩ := v
  cases h
  · have e : fitV k ⟨false, b⟩ = noV := by unfold fitV; rw [if_pos rfl]
    rw [e]
    go_enter Tryz.func20, Tryz.ntmps20
    go_wp2_with fail
    refine bodyPost_ret (v := .agg #[.bool false, .int .u64 0]) (by simp [results, Tryz.results20, go_sem]) rfl ⟨rfl, ?_⟩
    exact below_two _ _ _
  by_cases h12 : k = 1 ∨ k = 2
  · have e : fitV k ⟨true, b⟩ = ⟨true, b⟩ := by unfold fitV; rw [if_neg (by simp), if_pos h12]
    rw [e]
    rcases h12 with rfl | rfl
    all_goals
      go_enter Tryz.func20, Tryz.ntmps20
      go_wp2_with fail
      refine bodyPost_ret (v := .agg #[.bool true, .int .u64 b]) (by simp [results, Tryz.results20, go_sem]) rfl ⟨rfl, ?_⟩
      exact below_two _ _ _
  have b1 : (k == 1) = false := neq_b (fun h => h12 (.inl h))
  have b2 : (k == 2) = false := neq_b (fun h => h12 (.inr h))
  by_cases h34 : k = 3 ∨ k = 4
  · have e : fitV k ⟨true, b⟩ = ⟨true, canonW b⟩ := by unfold fitV; rw [if_neg (by simp), if_neg h12, if_pos h34]
    rw [e]
    clear b1 b2
    rcases h34 with rfl | rfl
    all_goals
      go_enter Tryz.func20, Tryz.ntmps20
      go_wp2_with fail
      refine (floatOf_walk ⟨true, b⟩ _).mono ?_
      rintro e w1 ⟨rfl, hB⟩
      have vb := (vb_zero (w.alloc (Obj.cells #[Value.bool true, Value.int IntKind.u64 (b : Int)] 63))).below hB (by simp [go_sem])
      have HB : Hid (Below w.heap.size w w1) := below_trans (below_two _ _ _) hB
      clear hB
      go_wp2_with (go_at_call 54; refine (canon_walk hv _).mono ?_; rintro e w' ⟨rfl, rfl⟩)
      refine (ofFloat_walk _ _).mono ?_
      rintro e w2 ⟨rfl, hB⟩
      obtain ⟨c0, c1, z0, z1⟩ := vb.below hB (cell_lt vb.c0)
      have HB2 : Hid (Below w.heap.size w w2) := below_trans HB.out hB
      clear hB vb HB
      rw [size_alloc] at c0 c1 z0 z1
      go_wp2_with fail
      refine bodyPost_ret (v := .agg #[.bool true, .int .u64 (canonW b)]) (by simp [results, Tryz.results20, go_sem, c0, c1]) rfl ⟨rfl, ?_⟩
      exact keep_store HB2.out _ (Nat.le_succ _) _ _
  · have e : fitV k ⟨true, b⟩ = noV := by unfold fitV; rw [if_neg (by simp), if_neg h12, if_neg h34]
    rw [e]
    have b3 : (k == 3) = false := neq_b (fun h => h34 (.inl h))
    have b4 : (k == 4) = false := neq_b (fun h => h34 (.inr h))
    go_enter Tryz.func20, Tryz.ntmps20
    go_wp2_with fail
    refine bodyPost_ret (v := .agg #[.bool false, .int .u64 0]) (by simp [results, Tryz.results20, go_sem]) rfl ⟨rfl, ?_⟩
    exact below_two _ _ _
end Go.Proofs.YtopjedgknbbgkaaGreat
