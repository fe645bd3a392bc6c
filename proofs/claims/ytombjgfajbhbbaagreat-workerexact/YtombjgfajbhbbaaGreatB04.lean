/- The contract of Scale, through math.Ldexp's own text. -/
import Derived.Test.YtombjgfajbhbbaaGreatB03
import Derived.Deep.RegionHeld3
import Derived.Lib.Hide
import Derived.WalkLawsBesides
set_option maxRecDepth 100000
set_option maxHeartbeats 16000000
namespace Go.Proofs.YtombjgfajbhbbaaGreat
open Go.RowKit
section
theorem hidH {p : Prop} (h : p) : Go.RowKit.Hid p := h
theorem zA {α : Type} (l : List α) (i : Nat) (a : α) : l.toArray.setIfInBounds i a = (l.set i a).toArray := List.setIfInBounds_toArray ..
theorem zB {α : Type} (x : α) (l : List α) (a : α) : (x :: l).set 0 a = a :: l := rfl
theorem zC {α : Type} (x : α) (l : List α) (i : Nat) (a : α) : (x :: l).set (i + 1) a = x :: l.set i a := rfl
theorem zz {α : Type} : (∀ (l : List α) (i : Nat) (a : α), l.toArray.setIfInBounds i a = (l.set i a).toArray) ∧ (∀ (x : α) (l : List α) (a : α), (x :: l).set 0 a = a :: l) ∧ ∀ (x : α) (l : List α) (i : Nat) (a : α), (x :: l).set (i + 1) a = x :: l.set i a := ⟨zA, zB, zC⟩
section

variable {P : Program} {md : Region.Mode} {ops : Array Oper} {Q : Exit → Act → World → Prop} {S : World → Prop} {fuel : Nat} {listed : Array Bool} {a : Act} {w : World} {o : Go.Op} {t : TypeId} {p : String} {f : Array Edge} {g : Option (Nat × Bool)}

theorem tvH (i d : Nat) (v : Value) (hi : ops[i]? = some ⟨some d, o, t, p, f, g⟩) (hy : ∀ w, S w → (execOp a.eval ⟨some d, o, t, p, f, g⟩).run P w = .ok (.value v) w) (hS : S w)
    (h : wpAnyH P md ops Q S fuel (listed.setIfInBounds i true) (a.put (some d) v) w)
    (hs : Region.noSelect ops = true := by kernel_rfl) (hf : Region.free md ops listed i = true := by kernel_rfl) (hr : (Region.ready md ops listed).contains i = true := by kernel_rfl)
    (hQ : ∀ c a w, Q (.panic c) (a.put (some d) v) w → Q (.panic c) a w := by exact fun _ _ _ h => h) (hw : Region.wanted ⟨some d, o, t, p, f, g⟩ (yielded ops a.tmps) = true := by rfl) :
    wpAnyH P md ops Q S (fuel + 1) listed a w := wpAnyH_take hi hs hf hr hQ (Or.inl ⟨hw, hy⟩) hS h
theorem tkH (i d : Nat) {v : Value} (hi : ops[i]? = some ⟨some d, o, t, p, f, g⟩) (hS : S w)
    (h : wpAnyH P md ops Q S fuel (listed.setIfInBounds i true) (a.put (some d) v) w)
    (hs : Region.noSelect ops = true := by kernel_rfl) (hf : Region.free md ops listed i = true := by kernel_rfl) (hr : (Region.ready md ops listed).contains i = true := by kernel_rfl)
    (hy : ∀ w, S w → (execOp a.eval ⟨some d, o, t, p, f, g⟩).run P w = .ok (.value v) w := by intro w hSw; (try dsimp only at hSw); go_simp; all_goals (with_reducible rfl))
    (hQ : ∀ c a w, Q (.panic c) (a.put (some d) v) w → Q (.panic c) a w := by exact fun _ _ _ h => h) (hw : Region.wanted ⟨some d, o, t, p, f, g⟩ (yielded ops a.tmps) = true := by rfl) :
    wpAnyH P md ops Q S (fuel + 1) listed a w := wpAnyH_take hi hs hf hr hQ (Or.inl ⟨hw, hy⟩) hS h
theorem tkS (i d : Nat) {v : Value} {a' : Act} (hi : ops[i]? = some ⟨some d, o, t, p, f, g⟩) (hS : S w)
    (h : wpAnyH P md ops Q S fuel (listed.setIfInBounds i true) a' w)
    (hs : Region.noSelect ops = true := by kernel_rfl) (hf : Region.free md ops listed i = true := by kernel_rfl) (hr : (Region.ready md ops listed).contains i = true := by kernel_rfl)
    (hy : ∀ w, S w → (execOp a.eval ⟨some d, o, t, p, f, g⟩).run P w = .ok (.value v) w := by intro w hSw; (try dsimp only at hSw); go_simp; all_goals (with_reducible rfl))
    (ha : a.put (some d) v = a' := by (simp only [Act.put, zA, zB, zC]) <;> rfl)
    (hQ : ∀ c a w, Q (.panic c) (a.put (some d) v) w → Q (.panic c) a w := by exact fun _ _ _ h => h) (hw : Region.wanted ⟨some d, o, t, p, f, g⟩ (yielded ops a.tmps) = true := by rfl) :
    wpAnyH P md ops Q S (fuel + 1) listed a w := wpAnyH_take hi hs hf hr hQ (Or.inl ⟨hw, hy⟩) hS (ha ▸ h)
theorem tuH (i d : Nat) (hi : ops[i]? = some ⟨some d, o, t, p, f, g⟩) (hS : S w)
    (h : wpAnyH P md ops Q S fuel (listed.setIfInBounds i true) (a.put (some d) undef) w)
    (hs : Region.noSelect ops = true := by kernel_rfl) (hf : Region.free md ops listed i = true := by kernel_rfl) (hr : (Region.ready md ops listed).contains i = true := by kernel_rfl)
    (hQ : ∀ c a w, Q (.panic c) (a.put (some d) undef) w → Q (.panic c) a w := by exact fun _ _ _ h => h) (hw : Region.wanted ⟨some d, o, t, p, f, g⟩ (yielded ops a.tmps) = false := by rfl) :
    wpAnyH P md ops Q S (fuel + 1) listed a w := wpAnyH_take hi hs hf hr hQ (Or.inr ⟨hw, rfl⟩) hS h
theorem rdH (i d : Nat) (hi : ops[i]? = some ⟨some d, o, t, p, f, g⟩)
    (h : ∀ K' : Act → World → Prop, Shut (∀ a w, S w → (S w → wpAnyH P md ops Q S fuel (listed.setIfInBounds i true) a w) → K' a w) → if Region.wanted ⟨some d, o, t, p, f, g⟩ (yielded ops a.tmps) = true then Oper.wp P ⟨some d, o, t, p, f, g⟩ a w K' Q else K' (a.put (some d) undef) w)
    (hr : Region.ready md ops listed = [i] := by kernel_rfl) : wpAnyH P md ops Q S (fuel + 1) listed a w := wpAnyH_ready hr (by simp) (AllReadyH.cons hi h AllReadyH.nil)
end
end
section
open Ieee Go.RowKit

attribute [local go_sem] run_bits run_frombits
theorem below_same (w : World) : Below w.heap.size w w := Below.refl _ _
theorem cells_value : Tryz.prog.cellsOf 64 = 2 := by kernel_rfl
structure VB (w : World) (b : Nat) (v : Vl) : Prop where
 c0 : w.cell? ⟨b, 0, none⟩ = some (.bool v.h)
 c1 : w.cell? ⟨b, 1, none⟩ = some (.int .u64 v.b)
 z0 : w.frozen? ⟨b, 0, none⟩ = false
 z1 : w.frozen? ⟨b, 1, none⟩ = false
theorem VB.below {w w' : World} {b B : Nat} {v : Vl} (h : VB w b v) (hb : Below B w w') (hl : b < B) : VB w' b v :=
 ⟨by rw [hb.cell (p := ⟨b, 0, none⟩) hl]; exact h.c0, by rw [hb.cell (p := ⟨b, 1, none⟩) hl]; exact h.c1, by rw [hb.frozen (p := ⟨b, 0, none⟩) hl]; exact h.z0, by rw [hb.frozen (p := ⟨b, 1, none⟩) hl]; exact h.z1⟩
theorem known_walk (k : Int) (w : World) :
  Calls Tryz.prog 51 #[.int .i64 k] w fun e w' => e = .returned (.bool (knownB k)) ∧ w' = w := by
 go_in;go_wp2;all_goals (go_ret; exact ⟨ret_bool (by unfold knownB; simp <;> omega), rfl⟩)
theorem rknown_walk (k : Int) (w : World) :
  Calls Tryz.prog 56 #[.int .i64 k] w fun e w' => e = .returned (.bool (knownB k)) ∧ w' = w := by
 go_in;go_wp2;all_goals (go_ret; exact ⟨ret_bool (by unfold knownB; simp <;> omega), rfl⟩)
theorem ofFloat_walk (x : Nat) (w : World) :
  Calls Tryz.prog 159 #[.float .f64 x] w fun e w' => e = .returned (.agg #[.bool true, .int .u64 x]) ∧ Below w.heap.size w w' := by
 go_in;go_wp2;refine bodyPost_ret (v := .agg #[.bool true, .int .u64 x]) (by simp [results, Tryz.results159, go_sem]) rfl ⟨rfl, ?_⟩;exact below_alloc _ _
theorem floatOf_walk (v : Vl) (w : World) :
  Calls Tryz.prog 180 #[.agg #[.bool v.h, .int .u64 v.b]] w fun e w' => e = .returned (.float .f64 v.b) ∧ Below w.heap.size w w' := by
 go_in;go_wp2;go_ret;exact ⟨rfl, below_alloc _ _⟩
theorem vb_zero (w : World) : VB (w.alloc (Obj.cells #[Value.bool false, Value.int IntKind.u64 0] 64)) w.heap.size noV := by
 constructor <;> simp [go_sem, noV]
theorem VB.set {w : World} {b : Nat} {v : Vl} (h : VB w b v) (c : Bool) (x : Nat) : VB ((w.setCell ⟨b, 0, none⟩ (.bool c)).setCell ⟨b, 1, none⟩ (.int .u64 x)) b ⟨c, x⟩ := by
 obtain ⟨c0, c1, z0, z1⟩ := h;constructor <;> simp [go_sem, c0, c1, z0, z1]
theorem VB.other {w : World} {b : Nat} {v : Vl} (h : VB w b v) {p : Addr} (hne : b ≠ p.block) (u : Value) : VB (w.setCell p u) b v := by
 have e := Below.heap_setCell w p u b hne;obtain ⟨c0, c1, z0, z1⟩ := h;refine ⟨?_, ?_, ?_, ?_⟩
 ·rw [World.cell?_setCell_other _ _ _ _ (by rintro ⟨⟩; exact hne rfl)]; exact c0
 ·rw [World.cell?_setCell_other _ _ _ _ (by rintro ⟨⟩; exact hne rfl)]; exact c1
 ·simpa [go_sem] using z0
 ·simpa [go_sem] using z1
theorem keep_store {w w1 : World} (h : Below w.heap.size w w1) (b : Nat) (hb : w.heap.size ≤ b) (u v : Value) : Below w.heap.size w ((w1.setCell ⟨b, 0, none⟩ u).setCell ⟨b, 1, none⟩ v) := (h.setCell hb u).setCell hb v
theorem neq_b {k c : Int} (h : k ≠ c) : (k == c) = false := by simpa using h
theorem aof_walk (k : Int) {x : Nat} (hx : x < 18446744073709551616) (w : World) :
  Calls Tryz.prog 120 #[.int .i64 k, .float .f64 x] w fun e w' => e = .returned (.agg #[.bool (ofV k x).h, .int .u64 (ofV k x).b]) ∧ Below w.heap.size w w' := by
 by_cases h1 : k = 1
 ·subst h1;go_in;go_wp2_with fail;refine bodyPost_ret (v := .agg #[.bool true, .int .u64 1]) (by simp [results, Tryz.results120, go_sem]) rfl ⟨rfl, ?_⟩;exact below_alloc _ _
 by_cases h2 : k = 2
 ·subst h2;have e : IntKind.u64.wrap (wholeI x) = (wholeU x : Int) := (wholeU_eq x).symm;go_in;go_wp2_with (go_at_call 158; refine (whole_walk hx _).mono ?_; rintro e w' ⟨rfl, rfl⟩);refine bodyPost_ret (v := .agg #[.bool true, .int .u64 (wholeU x)]) (by simp [results, Tryz.results120, go_sem]) rfl ⟨rfl, ?_⟩;exact below_alloc _ _
 by_cases h34 : k = 3 ∨ k = 4
 ·have e : ofV k x = ⟨true, canonW x⟩ := by unfold ofV; rw [if_neg h1, if_neg h2, if_pos h34]
  rw [e];rcases h34 with rfl | rfl
  all_goals
   go_in;go_wp2_with (go_at_call 108; refine (canon_walk hx _).mono ?_; rintro e w' ⟨rfl, rfl⟩);refine (ofFloat_walk _ _).mono ?_;rintro e w1 ⟨rfl, hB⟩;obtain ⟨c0, c1, z0, z1⟩ := (vb_zero w).below hB (by simp [go_sem]);have HB : Hid (Below w.heap.size w w1) := below_trans (below_alloc _ _) hB;clear hB;go_wp2_with fail;refine bodyPost_ret (v := .agg #[.bool true, .int .u64 (canonW x)]) (by simp [results, Tryz.results120, go_sem, c0, c1]) rfl ⟨rfl, ?_⟩;exact keep_store HB.out _ (Nat.le_refl _) _ _
 ·have e : ofV k x = noV := by unfold ofV; rw [if_neg h1, if_neg h2, if_neg h34]
  rw [e];have b1 := neq_b h1;have b2 := neq_b h2;have b3 : (k == 3) = false := neq_b (fun h => h34 (.inl h));have b4 : (k == 4) = false := neq_b (fun h => h34 (.inr h));go_in;go_wp2_with fail;refine bodyPost_ret (v := .agg #[.bool false, .int .u64 0]) (by simp [results, Tryz.results120, go_sem]) rfl ⟨rfl, ?_⟩;exact below_alloc _ _
theorem rof_walk (k : Int) {x : Nat} (hx : x < 18446744073709551616) (w : World) :
  Calls Tryz.prog 106 #[.int .i64 k, .float .f64 x] w fun e w' => e = .returned (.agg #[.bool (ofV k x).h, .int .u64 (ofV k x).b]) ∧ Below w.heap.size w w' := by
 by_cases h1 : k = 1
 ·subst h1;go_in;go_wp2_with fail;refine bodyPost_ret (v := .agg #[.bool true, .int .u64 1]) (by simp [results, Tryz.results106, go_sem]) rfl ⟨rfl, ?_⟩;exact below_alloc _ _
 by_cases h2 : k = 2
 ·subst h2;have e : IntKind.u64.wrap (wholeI x) = (wholeU x : Int) := (wholeU_eq x).symm;go_in;go_wp2_with (go_at_call 127; refine (rwhole_walk hx _).mono ?_; rintro e w' ⟨rfl, rfl⟩);refine bodyPost_ret (v := .agg #[.bool true, .int .u64 (wholeU x)]) (by simp [results, Tryz.results106, go_sem]) rfl ⟨rfl, ?_⟩;exact below_alloc _ _
 by_cases h34 : k = 3 ∨ k = 4
 ·have e : ofV k x = ⟨true, canonW x⟩ := by unfold ofV; rw [if_neg h1, if_neg h2, if_pos h34]
  rw [e];rcases h34 with rfl | rfl
  all_goals
   go_in
   go_wp2_with (first
    | (go_at_call 110; refine (rcanon_walk hx _).mono ?_; rintro e w' ⟨rfl, rfl⟩)
    | (go_at_call 128; refine (bits_walk _ _).mono ?_; rintro e w' ⟨rfl, rfl⟩))
   refine bodyPost_ret (v := .agg #[.bool true, .int .u64 (canonW x)]) (by simp [results, Tryz.results106, go_sem]) rfl ⟨rfl, ?_⟩;exact below_alloc _ _
 ·have e : ofV k x = noV := by unfold ofV; rw [if_neg h1, if_neg h2, if_neg h34]
  rw [e];have b1 := neq_b h1;have b2 := neq_b h2;have b3 : (k == 3) = false := neq_b (fun h => h34 (.inl h));have b4 : (k == 4) = false := neq_b (fun h => h34 (.inr h));go_in;go_wp2_with fail;refine bodyPost_ret (v := .agg #[.bool false, .int .u64 0]) (by simp [results, Tryz.results106, go_sem]) rfl ⟨rfl, ?_⟩;exact below_alloc _ _
theorem size_alloc (w : World) (o : Obj) : (w.alloc o).heap.size = w.heap.size + 1 := by simp [go_sem]
theorem below_two (w : World) (o p : Obj) : Below w.heap.size w ((w.alloc o).alloc p) := (below_alloc w o).alloc (by simp [go_sem]) p
theorem fit_walk (k : Int) {v : Vl} (hv : v.ok) (w : World) :
  Calls Tryz.prog 178 #[.int .i64 k, .agg #[.bool v.h, .int .u64 v.b]] w fun e w' => e = .returned (.agg #[.bool (fitV k v).h, .int .u64 (fitV k v).b]) ∧ Below w.heap.size w w' := by
 obtain ⟨h, b⟩ := v
 cases h
 ·have e : fitV k ⟨false, b⟩ = noV := by unfold fitV; rw [if_pos rfl]
  rw [e];go_in;go_wp2_with fail;refine bodyPost_ret (v := .agg #[.bool false, .int .u64 0]) (by simp [results, Tryz.results178, go_sem]) rfl ⟨rfl, ?_⟩;exact below_two _ _ _
 by_cases h12 : k = 1 ∨ k = 2
 ·have e : fitV k ⟨true, b⟩ = ⟨true, b⟩ := by unfold fitV; rw [if_neg (by simp), if_pos h12]
  rw [e];rcases h12 with rfl | rfl
  all_goals
   go_in;go_wp2_with fail;refine bodyPost_ret (v := .agg #[.bool true, .int .u64 b]) (by simp [results, Tryz.results178, go_sem]) rfl ⟨rfl, ?_⟩;exact below_two _ _ _
 have b1 : (k == 1) = false := neq_b (fun h => h12 (.inl h));have b2 : (k == 2) = false := neq_b (fun h => h12 (.inr h));by_cases h34 : k = 3 ∨ k = 4
 ·have e : fitV k ⟨true, b⟩ = ⟨true, canonW b⟩ := by unfold fitV; rw [if_neg (by simp), if_neg h12, if_pos h34]
  rw [e];clear b1 b2;rcases h34 with rfl | rfl
  all_goals
   go_in;go_wp2_with fail;refine (floatOf_walk ⟨true, b⟩ _).mono ?_;rintro e w1 ⟨rfl, hB⟩;have vb := (vb_zero (w.alloc (Obj.cells #[Value.bool true, Value.int IntKind.u64 (b : Int)] 64))).below hB (by simp [go_sem]);have HB : Hid (Below w.heap.size w w1) := below_trans (below_two _ _ _) hB;clear hB;go_wp2_with (go_at_call 108; refine (canon_walk hv _).mono ?_; rintro e w' ⟨rfl, rfl⟩);refine (ofFloat_walk _ _).mono ?_;rintro e w2 ⟨rfl, hB⟩;obtain ⟨c0, c1, z0, z1⟩ := vb.below hB (cell_lt vb.c0);have HB2 := hidH (below_trans HB.out hB);clear hB vb HB;rw [size_alloc] at c0 c1 z0 z1;go_wp2_with fail;refine bodyPost_ret (v := .agg #[.bool true, .int .u64 (canonW b)]) (by simp [results, Tryz.results178, go_sem, c0, c1]) rfl ⟨rfl, ?_⟩;exact keep_store HB2.out _ (Nat.le_succ _) _ _
 ·have e : fitV k ⟨true, b⟩ = noV := by unfold fitV; rw [if_neg (by simp), if_neg h12, if_neg h34]
  rw [e];have b3 : (k == 3) = false := neq_b (fun h => h34 (.inl h));have b4 : (k == 4) = false := neq_b (fun h => h34 (.inr h));go_in;go_wp2_with fail;refine bodyPost_ret (v := .agg #[.bool false, .int .u64 0]) (by simp [results, Tryz.results178, go_sem]) rfl ⟨rfl, ?_⟩;exact below_two _ _ _
end
section
open Ieee Go.RowKit

attribute [local go_sem] run_bits run_frombits
theorem misNaN_walk {x : Nat} (hx : x < 18446744073709551616) (w : World) :
  Calls Tryz.prog 207 #[.float .f64 x] w fun e w' => e = .returned (.bool (nanB x)) ∧ w' = w := by
 go_in;go_wp2;all_goals (go_ret; exact ⟨ret_bool (order_self hx), rfl⟩)
theorem isInf_walk {x : Nat} (hx : x < 18446744073709551616) (w : World) :
  Calls Tryz.prog 208 #[.float .f64 x, .int .i64 0] w fun e w' => e = .returned (.bool (infB x)) ∧ w' = w := by
 have hl := rung_lt x;go_in;go_wp2_with fail;refine (abs_walk hx _).mono ?_;rintro e w' ⟨rfl, rfl⟩;go_wp2_with fail;go_ret;refine ⟨ret_bool ?_, rfl⟩;unfold infB;rw [show FloatKind.f64.format = Ieee.double from rfl]
 cases hn : nanB x
 ·have hr := nan_f hn;rw [order_rung (c := 9218868437227405311) hn (by omega), Bool.eq_iff_iff];simp only [beq_iff_eq, Option.some.injEq, decide_eq_true_eq];unfold cmpI;constructor
  ·intro h; split at h
   ·cases h
   ·split at h
    ·cases h
    ·omega
  ·intro h; rw [if_neg (by omega), if_neg (by omega)]
 ·rw [order_nan_left (by omega) (by rw [nan_rung]; exact hn)];have := nan_t hn;rw [decide_eq_false (by omega)]; rfl
theorem minf_walk (n : Int) (w : World) (h : n = 1 ∨ n = -1) :
  Calls Tryz.prog 212 #[.int .i64 n] w fun e w' => e = .returned (.float .f64 (if n = 1 then 9218868437227405312 else 18442240474082181120)) ∧ w' = w := by
 rcases h with rfl | rfl
 all_goals
  go_in;go_wp2;go_ret;exact ⟨rfl, rfl⟩
theorem and_sign {x : Nat} (hx : x < 18446744073709551616) : x &&& 9223372036854775808 = Ieee.double.word (negB x) 0 := by
 rw [word_add];apply Nat.eq_of_testBit_eq;intro i;rw [Nat.testBit_and, Nat.add_zero, show (9223372036854775808 : Nat) = 2 ^ 63 from rfl, Nat.testBit_two_pow];by_cases hi : 63 = i
 ·subst hi;rw [Nat.testBit_eq_decide_div_mod_eq]
  cases hs : negB x
  ·have := neg_f hs;rw [Nat.div_eq_of_lt (by simpa using this)]; simp
  ·have := neg_t hs;rw [show x / 2 ^ 63 = 1 by omega, if_pos rfl, Nat.testBit_two_pow_self]; rfl
 ·rw [decide_eq_false hi, Bool.and_false]
  cases negB x
  ·simp
  ·simp only [if_true]; rw [Nat.testBit_two_pow, decide_eq_false hi]
theorem copysign0_bits {x : Nat} (hx : x < 18446744073709551616) :
  (bits .or .u64 (bits .andNot .u64 0 9223372036854775808) (bits .and .u64 (x : Int) 9223372036854775808)).toNat = Ieee.double.word (negB x) 0 := by
 have h := bits_and_u64_nat x 9223372036854775808 hx (by omega);rw [show ((9223372036854775808 : Nat) : Int) = 9223372036854775808 from rfl, and_sign hx] at h;have h2 := u64_andNot_nat 0 9223372036854775808 (by omega) (by omega);rw [show ((9223372036854775808 : Nat) : Int) = 9223372036854775808 from rfl, Nat.zero_and] at h2;rw [h, show (0 : Int) = ((0 : Nat) : Int) from rfl, h2, bits_or_u64_nat _ _ (by omega) (word_lt64 _ (by omega)), Int.toNat_natCast, Nat.zero_or]
theorem copysign0_walk {x : Nat} (hx : x < 18446744073709551616) (w : World) :
  Calls Tryz.prog 211 #[.float .f64 0, .float .f64 x] w fun e w' => e = .returned (.float .f64 (Ieee.double.word (negB x) 0)) ∧ w' = w := by
 go_in;go_wp2;go_ret;exact ⟨ret_float (copysign0_bits hx), rfl⟩
theorem normalize_walk {x : Nat} (hx : x < 18446744073709551616) (hn : rung x < 9218868437227405312) (h0 : rung x ≠ 0) (w : World) :
  Calls Tryz.prog 210 #[.float .f64 x] w fun e w' => e = .returned (.tuple #[.float .f64 (Ieee.double.word (negB x) (nR (rung x))), .int .i64 (nD (rung x))]) ∧ w' = w := by
 have nn : nanB x = false := by unfold nanB; simp; omega
 have ho : Ieee.double.order (rung x) 4503599627370496 = some (cmpI (rung x) (4503599627370496 : Nat)) := order_rung nn (by omega);by_cases h : rung x < 4503599627370496
 ·have h2 : FloatKind.f64.format.order (rung x) 4503599627370496 = some .lt := by
   rw [show FloatKind.f64.format = Ieee.double from rfl, ho];unfold cmpI; rw [if_pos (by omega)]
  have hm : FloatKind.f64.format.mul x 4841369599423283200 = some (Ieee.double.word (negB x) (nR (rung x))) := by
   have := mul_sub (negB x) h0 h;rw [word_self hx] at this; exact this
  have hr : ∀ w : World, (binOp .mul 41 (.float .f64 x) (.float .f64 4841369599423283200)).run Tryz.prog w = .ok (.float .f64 (Ieee.double.word (negB x) (nR (rung x)))) w := fun w => run_float_arith w .mul 41 .f64 _ _ _ hm;have hd : nD (rung x) = -52 := by unfold nD; rw [if_pos h]
  have HD : Hid (nD (rung x) = -52) := hd;clear hm ho hd;go_in;go_wp2_with fail;refine (abs_walk hx _).mono ?_;rintro e w' ⟨rfl, rfl⟩;go_wp2_with fail;go_ret2;rw [HD.out];exact ⟨rfl, rfl⟩
 ·have h2 : FloatKind.f64.format.order (rung x) 4503599627370496 = some .gt ∨ FloatKind.f64.format.order (rung x) 4503599627370496 = some .eq := by
   rw [show FloatKind.f64.format = Ieee.double from rfl, ho];unfold cmpI; rw [if_neg (by omega)];by_cases c : (rung x : Int) = (4503599627370496 : Nat)
   ·rw [if_pos c]; exact .inr rfl
   ·rw [if_neg c]; exact .inl rfl
  have hd : nD (rung x) = 0 := by unfold nD; rw [if_neg h]
  have hr : Ieee.double.word (negB x) (nR (rung x)) = x := by unfold nR; rw [if_neg h]; exact word_self hx
  have HD : Hid (nD (rung x) = 0) := hd;have HR : Hid (Ieee.double.word (negB x) (nR (rung x)) = x) := hr;clear ho hd hr;rcases h2 with h2 | h2
  all_goals
   go_in;go_wp2_with fail;refine (abs_walk hx _).mono ?_;rintro e w' ⟨rfl, rfl⟩;go_wp2_with fail;go_ret2;rw [HD.out, HR.out];exact ⟨rfl, rfl⟩
theorem ldexp_bits {x E : Nat} (hx : x < 18446744073709551616) (hE : E < 2048) :
  bits .or .u64 (bits .andNot .u64 (x : Int) 9218868437227405312) ((E * 4503599627370496 : Nat) : Int) = (Ieee.double.word (negB x) (E * 4503599627370496 + x % 4503599627370496) : Nat) := by
 have h := u64_andNot_nat x 9218868437227405312 hx (by omega);rw [show ((9218868437227405312 : Nat) : Int) = 9218868437227405312 from rfl] at h;have e1 : (18446744073709551615 - 9218868437227405312 : Nat) = 9223372036854775808 ||| (2 ^ 52 - 1) := by decide
 rw [e1, Nat.and_or_distrib_left, and_sign hx, Nat.and_two_pow_sub_one_eq_mod, show (2 ^ 52 : Nat) = 4503599627370496 from rfl] at h;have hf : x % 4503599627370496 < 4503599627370496 := Nat.mod_lt _ (by omega)
 have e2 : ∀ s : Bool, Ieee.double.word s 0 ||| x % 4503599627370496 < 18446744073709551616 := by
  intro s;have hw := word_lt64 s (r := 0) (by omega);exact Nat.or_lt_two_pow (n := 64) hw (by omega)
 rw [h, bits_or_u64_nat _ _ (e2 _) (by omega)];congr 1
 have e3 : E * 4503599627370496 + x % 4503599627370496 = x % 4503599627370496 ||| E * 4503599627370496 := by
  have := Nat.two_pow_add_eq_or_of_lt (i := 52) hf E;rw [show (2 ^ 52 : Nat) = 4503599627370496 from rfl] at this;rw [Nat.mul_comm, this, Nat.or_comm]
 rw [Nat.or_assoc, ← e3, word_add, word_add]
 cases negB x
 ·simp
 ·have := Nat.two_pow_add_eq_or_of_lt (i := 63) (b := E * 4503599627370496 + x % 4503599627370496) (by omega) 1;rw [show (2 ^ 63 : Nat) = 9223372036854775808 from rfl, Nat.mul_one] at this;simp only [if_true, Nat.add_zero];exact this.symm
theorem normalize_walk2 {x : Nat} (hx : x < 18446744073709551616) (hn : rung x < 9218868437227405312) (h0 : rung x ≠ 0) (w : World) :
  Calls Tryz.prog 210 #[.float .f64 x] w fun e w' => ∃ (y q : Nat) (d : Int), e = .returned (.tuple #[.float .f64 y, .int .i64 d]) ∧ w' = w ∧ y < 18446744073709551616 ∧ 1 ≤ q ∧ q ≤ 2046 ∧ -52 ≤ d ∧ d ≤ 0 ∧ Hid (y = Ieee.double.word (negB x) (q * 4503599627370496 + (nM (rung x) - 4503599627370496)) ∧ (q : Int) + d = nE (rung x)) := by
 refine (normalize_walk hx hn h0 w).mono ?_;rintro e w' ⟨rfl, rfl⟩;have hr := nR_range h0 hn;have h1 := nM_ge h0; have h2 := nM_lt h0;have hm := nR_mag h0;refine ⟨_, nR (rung x) / 4503599627370496, _, rfl, rfl, word_lt64 _ (by omega), by omega, by omega, by unfold nD; split <;> omega, by unfold nD; split <;> omega, ?_, nR_exp h0⟩
 have e : nR (rung x) / 4503599627370496 * 4503599627370496 + (nM (rung x) - 4503599627370496) = nR (rung x) := by
  rw [← hm];unfold mag;rw [if_neg (by omega)];omega
 rw [e]
theorem exp_bits {y q f : Nat} {s : Bool} (hy : y = Ieee.double.word s (q * 4503599627370496 + f)) (hq : q ≤ 2046) (hf : f < 4503599627370496) :
  bits .and .i64 ((y : Int) / 4503599627370496) 2047 = q := by
 have h := bits_mask .i64 63 (by decide) (fun n h0 h1 => by rw [IntKind.wrap_i64]; omega) 11 (by omega) ((y : Int) / 4503599627370496) (by omega);rw [show (2 : Int) ^ 63 = 9223372036854775808 from rfl, show (2 : Int) ^ 11 = 2048 from rfl, show (2048 : Int) - 1 = 2047 from rfl] at h;rw [word_add] at hy;rw [h (by cases s <;> simp at hy <;> omega)]
 cases s <;> simp at hy <;> omega
theorem ldexp_word {y q M : Nat} {s : Bool} {e : Int} (hy : y = Ieee.double.word s (q * 4503599627370496 + (M - 4503599627370496))) (hq : q ≤ 2046) (h1 : 4503599627370496 ≤ M) (h2 : M < 9007199254740992) (e1 : 1 ≤ e) (e2 : e ≤ 2046) :
  (bits .or .u64 (bits .andNot .u64 (y : Int) 9218868437227405312) (e * 4503599627370496)).toNat = Ieee.double.word s (e.toNat * 4503599627370496 + (M - 4503599627370496)) := by
 have hl : y < 18446744073709551616 := by rw [hy]; exact word_lt64 _ (by omega)
 have hs : negB y = s := by rw [hy]; exact neg_word _ (by omega)
 have hf : y % 4503599627370496 = M - 4503599627370496 := by
  rw [hy, word_add]; cases s <;> simp <;> omega
 have h := ldexp_bits (E := e.toNat) hl (by omega);rw [hs, hf] at h;rw [show e * 4503599627370496 = ((e.toNat * 4503599627370496 : Nat) : Int) by omega, h, Int.toNat_natCast]
theorem ldexp_low {s : Bool} {M : Nat} {e : Int} (h1 : 4503599627370496 ≤ M) (h2 : M < 9007199254740992) (e1 : -52 ≤ e) (e2 : e ≤ 0) :
  Ieee.double.mul 4368491638549381120 (Ieee.double.word s ((e + 53).toNat * 4503599627370496 + (M - 4503599627370496))) = some (scaleW s M e) := by
 obtain ⟨m1, m2⟩ := mag_of (E := (e + 53).toNat) h1 h2 (by omega);rw [mul_word s (by omega) readm53, m1, m2, show (-1074 : Int) + (((e + 53).toNat - 1 : Nat) : Int) + -105 + 52 = e - 1075 by omega, nearest_sub s h1 h2 e2];unfold scaleW;rw [if_neg (by omega), if_neg (by omega)]
theorem ldexp_mid {s : Bool} {M : Nat} {e : Int} (h1 : 4503599627370496 ≤ M) (h2 : M < 9007199254740992) (e1 : 1 ≤ e) (e2 : e ≤ 2046) :
  Ieee.double.mul 4607182418800017408 (Ieee.double.word s (e.toNat * 4503599627370496 + (M - 4503599627370496))) = some (scaleW s M e) := by
 obtain ⟨m1, m2⟩ := mag_of (E := e.toNat) h1 h2 (by omega);rw [mul_word s (by omega) read1, m1, m2, show (-1074 : Int) + ((e.toNat - 1 : Nat) : Int) + -52 + 52 = (e.toNat : Int) - 1075 by omega, nearest_norm s h1 h2 (by omega) (by omega)];unfold scaleW;rw [if_neg (by omega), if_pos (by omega), show (e - 1).toNat * 4503599627370496 + M = e.toNat * 4503599627370496 + (M - 4503599627370496) by omega]
theorem scale_far {s : Bool} {M : Nat} {e : Int} (h2 : M < 9007199254740992) (he : e < -52) : scaleW s M e = Ieee.double.word s 0 := by
 unfold scaleW;rw [if_neg (by omega), if_neg (by omega), rhe_small];have : 2 ^ 54 ≤ 2 ^ (1 - e).toNat := Nat.pow_le_pow_right (by omega) (by omega);omega
theorem scale_inf {s : Bool} {M : Nat} {e : Int} (he : 2046 < e) : scaleW s M e = Ieee.double.word s 9218868437227405312 := by
 unfold scaleW; rw [if_pos (by omega)]
theorem order_zero {y r : Nat} {s : Bool} (hy : y = Ieee.double.word s r) (h0 : r ≠ 0) (hr : r < 9218868437227405312) : FloatKind.f64.format.order y 0 = some (if s then .lt else .gt) := by
 have hl : y < 18446744073709551616 := by rw [hy]; exact word_lt64 _ (by omega)
 have hs : negB y = s := by rw [hy]; exact neg_word _ (by omega)
 have hg : rung y = r := by rw [hy]; exact rung_word _ (by omega)
 rcases order_cases (y := 0) hl (by omega) (by unfold nanB; rw [hg]; simp; omega) (by decide) (c := 0) (by decide) with ⟨h1, k1⟩ | ⟨h1, k1⟩ | ⟨h1, k1⟩
 all_goals
  rw [h1];unfold key at k1;rw [hs, hg] at k1
  cases s <;> simp at k1 ⊢ <;> (try omega)
theorem ldexp_walk {x : Nat} {n : Int} (hx : x < 18446744073709551616) (hn : rung x < 9218868437227405312) (h0 : rung x ≠ 0) (l1 : -2200 ≤ n) (l2 : n ≤ 2200) (w : World) :
  Calls Tryz.prog 201 #[.float .f64 x, .int .i64 n] w fun e w' => e = .returned (.float .f64 (scaleW (negB x) (nM (rung x)) (nE (rung x) + n))) ∧ w' = w := by
 have nn : nanB x = false := by unfold nanB; simp; omega
 have ni : infB x = false := by unfold infB; simp; omega
 have hk : key x ≠ 0 := by unfold key; split <;> omega
 have hr := nR_range h0 hn;have M1 := nM_ge h0; have M2 := nM_lt h0
 have hz : FloatKind.f64.format.order x 0 = some .lt ∨ FloatKind.f64.format.order x 0 = some .gt := by
  rcases order_cases (y := 0) hx (by omega) nn (by decide) (c := 0) (by decide) with ⟨h1, k1⟩ | ⟨h1, k1⟩ | ⟨h1, k1⟩
  ·exact .inl h1
  ·exact absurd k1 hk
  ·exact .inr h1
 clear hk;rcases hz with hz | hz
 all_goals
  go_in;go_wp2_with fail;refine (isInf_walk hx _).mono ?_;rintro e w' ⟨rfl, rfl⟩;go_wp2_with fail;refine (misNaN_walk hx _).mono ?_;rintro e w' ⟨rfl, rfl⟩;go_wp2_with fail;refine (normalize_walk2 hx hn h0 _).mono ?_;rintro e w' ⟨y, q, d, rfl, rfl, hy, q1, q2, d1, d2, HY⟩;have hb := exp_bits HY.out.1 q2 (by omega);have HM : Hid (4503599627370496 ≤ nM (rung x) ∧ nM (rung x) < 9007199254740992) := ⟨M1, M2⟩;clear hz nn ni hr M1 M2;by_cases t1 : n + d + (q - 1023) < -1075
  ·go_wp2_with fail;refine (copysign0_walk hy _).mono ?_;rintro e w' ⟨rfl, rfl⟩;go_wp2_with fail;go_ret;refine ⟨ret_float ?_, rfl⟩;have hs : negB y = negB x := by rw [HY.out.1]; exact neg_word _ (by have := HM.out; omega)
   rw [hs, scale_far HM.out.2 (by have := HY.out.2; omega)]
  by_cases t2 : 1023 < n + d + (q - 1023)
  ·have hz : FloatKind.f64.format.order y 0 = some (if negB x then .lt else .gt) := order_zero HY.out.1 (by omega) (by have := HM.out; omega)
   cases hs : negB x
   ·rw [hs] at hz;go_wp2_with fail;refine (minf_walk _ _ (by omega)).mono ?_;rintro e w' ⟨rfl, rfl⟩;go_wp2_with fail;go_ret;refine ⟨ret_float ?_, rfl⟩;rw [scale_inf (by have := HY.out.2; omega), hs]; rfl
   ·rw [hs] at hz;go_wp2_with fail;refine (minf_walk _ _ (by omega)).mono ?_;rintro e w' ⟨rfl, rfl⟩;go_wp2_with fail;go_ret;refine ⟨ret_float ?_, rfl⟩;rw [scale_inf (by have := HY.out.2; omega), hs]; rfl
  by_cases t3 : n + d + (q - 1023) < -1022
  ·have hw := ldexp_word (e := n + d + (q - 1023) + 53 + 1023) HY.out.1 q2 HM.out.1 HM.out.2 (by omega) (by omega);have hm := ldexp_low (s := negB x) (e := nE (rung x) + n) HM.out.1 HM.out.2 (by have := HY.out.2; omega) (by have := HY.out.2; omega);rw [show nE (rung x) + n + 53 = n + d + (q - 1023) + 53 + 1023 by have := HY.out.2; omega, ← hw] at hm;have hr : ∀ w : World, _ := fun w => run_float_arith (P := Tryz.prog) w .mul 41 .f64 _ _ _ hm;clear hw hm;go_wp2_with fail;go_ret;exact ⟨rfl, rfl⟩
  ·have hw := ldexp_word (e := n + d + (q - 1023) + 1023) HY.out.1 q2 HM.out.1 HM.out.2 (by omega) (by omega);have hm := ldexp_mid (s := negB x) (e := nE (rung x) + n) HM.out.1 HM.out.2 (by have := HY.out.2; omega) (by have := HY.out.2; omega);rw [show (nE (rung x) + n).toNat = (n + d + (q - 1023) + 1023).toNat by have := HY.out.2; omega, ← hw] at hm;have hr : ∀ w : World, _ := fun w => run_float_arith (P := Tryz.prog) w .mul 41 .f64 _ _ _ hm;clear hw hm;go_wp2_with fail;go_ret;exact ⟨rfl, rfl⟩
theorem ldexp_same {x : Nat} {n : Int} (hx : x < 18446744073709551616) (h : nanB x = true ∨ rung x = 9218868437227405312 ∨ rung x = 0) (w : World) :
  Calls Tryz.prog 201 #[.float .f64 x, .int .i64 n] w fun e w' => e = .returned (.float .f64 x) ∧ w' = w := by
 cases nn : nanB x
 ·have hh : rung x = 9218868437227405312 ∨ rung x = 0 := by
   rcases h with h | h
   ·rw [h] at nn; cases nn
   ·exact h
  clear h;rcases order_cases (y := 0) hx (by omega) nn (by decide) (c := 0) (by decide) with ⟨hz, k1⟩ | ⟨hz, k1⟩ | ⟨hz, k1⟩
  ·have ni : infB x = true := by
    unfold infB; rw [decide_eq_true_eq];rcases hh with hh | hh
    ·exact hh
    ·unfold key at k1; rw [hh] at k1; split at k1 <;> omega
   clear k1 hh;go_in;go_wp2_with fail;refine (isInf_walk hx _).mono ?_;rintro e w' ⟨rfl, rfl⟩;go_wp2_with fail;go_ret;exact ⟨rfl, rfl⟩
  ·clear k1 hh;go_in;go_wp2_with fail;go_ret;exact ⟨rfl, rfl⟩
  ·have ni : infB x = true := by
    unfold infB; rw [decide_eq_true_eq];rcases hh with hh | hh
    ·exact hh
    ·unfold key at k1; rw [hh] at k1; split at k1 <;> omega
   clear k1 hh;go_in;go_wp2_with fail;refine (isInf_walk hx _).mono ?_;rintro e w' ⟨rfl, rfl⟩;go_wp2_with fail;go_ret;exact ⟨rfl, rfl⟩
 ·have hz : FloatKind.f64.format.order x 0 = none := order_nan_left hx nn;have ni : infB x = false := by have := nan_t nn; unfold infB; simp; omega
  clear h;go_in;go_wp2_with fail;refine (isInf_walk hx _).mono ?_;rintro e w' ⟨rfl, rfl⟩;go_wp2_with fail;refine (misNaN_walk hx _).mono ?_;rintro e w' ⟨rfl, rfl⟩;go_wp2_with fail;go_ret;exact ⟨rfl, rfl⟩
def ldW (x : Nat) (n : Int) : Nat := if nanB x = true ∨ rung x = 9218868437227405312 ∨ rung x = 0 then x else scaleW (negB x) (nM (rung x)) (nE (rung x) + n)
theorem mldexp_walk {x : Nat} {n : Int} (hx : x < 18446744073709551616) (l1 : -2200 ≤ n) (l2 : n ≤ 2200) (w : World) :
  Calls Tryz.prog 186 #[.float .f64 x, .int .i64 n] w fun e w' => e = .returned (.float .f64 (ldW x n)) ∧ w' = w := by
 by_cases h : nanB x = true ∨ rung x = 9218868437227405312 ∨ rung x = 0
 ·have hv : ldW x n = x := by unfold ldW; rw [if_pos h]
  have H : Hid (nanB x = true ∨ rung x = 9218868437227405312 ∨ rung x = 0) := h;have HV : Hid (ldW x n = x) := hv;clear h hv;go_in;go_wp2_with fail;refine (ldexp_same hx H.out _).mono ?_;rintro e w' ⟨rfl, rfl⟩;go_wp2_with fail;go_ret;exact ⟨ret_float (Eq.symm HV), rfl⟩
 ·have hv : ldW x n = scaleW (negB x) (nM (rung x)) (nE (rung x) + n) := by unfold ldW; rw [if_neg h]
  have h1 : nanB x = false := by cases hh : nanB x; rfl; exact absurd (.inl hh) h
  have h2 := nan_f h1;have h3 : rung x ≠ 9218868437227405312 := fun k => h (.inr (.inl k));have h4 : rung x ≠ 0 := fun k => h (.inr (.inr k));have HV : Hid (ldW x n = scaleW (negB x) (nM (rung x)) (nE (rung x) + n)) := hv;clear h hv h1;go_in;go_wp2_with fail;refine (ldexp_walk hx (by omega) h4 l1 l2 _).mono ?_;rintro e w' ⟨rfl, rfl⟩;go_wp2_with fail;go_ret;exact ⟨ret_float (Eq.symm HV), rfl⟩
theorem scaleW_props (s : Bool) {M : Nat} (h2 : M < 9007199254740992) (e : Int) : ∃ r, r ≤ 9218868437227405312 ∧ scaleW s M e = Ieee.double.word s r := by
 unfold scaleW
 split
 ·exact ⟨_, by omega, rfl⟩
 ·split
  ·exact ⟨_, by omega, rfl⟩
  ·have := rhe_le M (1 - e).toNat;have := Nat.div_le_self M (2 ^ (1 - e).toNat);exact ⟨_, by omega, rfl⟩
theorem ldW_lt {x : Nat} {n : Int} (hx : x < 18446744073709551616) : ldW x n < 18446744073709551616 := by
 unfold ldW; split
 ·exact hx
 ·rename_i h
  obtain ⟨r, hr, e⟩ := scaleW_props (negB x) (nM_lt (r := rung x) (fun k => h (.inr (.inr k)))) (nE (rung x) + n);rw [e]; exact word_lt64 _ (by omega)
theorem ldW_canon {x : Nat} {n : Int} : canonW (ldW x n) = scaleR x n := by
 unfold ldW scaleR canonW
 cases nn : nanB x
 ·simp only [Bool.false_eq_true, false_or, if_false];by_cases h : rung x = 9218868437227405312 ∨ rung x = 0
  ·rw [if_pos h, nn]; simp
  ·rw [if_neg h];obtain ⟨r, hr, e⟩ := scaleW_props (negB x) (nM_lt (r := rung x) (fun k => h (.inr k))) (nE (rung x) + n);rw [e];have : nanB (Ieee.double.word (negB x) r) = false := by unfold nanB; rw [rung_word _ (by omega)]; simp; omega
   rw [this]; rfl
 ·simp [nn]
theorem scaleR_clamp (x : Nat) (n : Int) : scaleR x (max (-2200) (min n 2200)) = scaleR x n := by
 unfold scaleR
 cases nn : nanB x
 ·simp only [Bool.false_eq_true, if_false];by_cases h : rung x = 9218868437227405312 ∨ rung x = 0
  ·rw [if_pos h, if_pos h]
  ·rw [if_neg h, if_neg h];have h0 : rung x ≠ 0 := fun k => h (.inr k);have hl := nan_f nn;have hr := nE_range h0 (by have : rung x ≠ 9218868437227405312 := fun k => h (.inl k); omega);have M2 := nM_lt h0;by_cases c1 : 2200 < n
   ·rw [scale_inf (by omega), scale_inf (by omega)]
   ·by_cases c2 : n < -2200
    ·rw [scale_far M2 (by omega), scale_far M2 (by omega)]
    ·rw [show max (-2200) (min n 2200) = n by omega]
 ·rfl
theorem scale_walk {x : Nat} (n : Int) (hx : x < 18446744073709551616) (w : World) :
  Calls Tryz.prog 169 #[.float .f64 x, .int .i64 n] w fun e w' => e = .returned (.float .f64 (scaleR x n)) ∧ w' = w := by
 have hc := scaleR_clamp x n;have HC : Hid (scaleR x (max (-2200) (min n 2200)) = scaleR x n) := hc;clear hc;by_cases c1 : 2200 < n
 ·go_in;go_wp2_with fail;refine (mldexp_walk hx (by omega) (by omega) _).mono ?_;rintro e w' ⟨rfl, rfl⟩;go_wp2_with fail;refine (canon_walk (ldW_lt hx) _).mono ?_;rintro e w' ⟨rfl, rfl⟩;go_wp2_with fail;go_ret;exact ⟨ret_float (by rw [ldW_canon, ← HC.out, show max (-2200) (min n 2200) = 2200 by omega]), rfl⟩
 ·by_cases c2 : n < -2200
  ·go_in;go_wp2_with fail;refine (mldexp_walk hx (by omega) (by omega) _).mono ?_;rintro e w' ⟨rfl, rfl⟩;go_wp2_with fail;refine (canon_walk (ldW_lt hx) _).mono ?_;rintro e w' ⟨rfl, rfl⟩;go_wp2_with fail;go_ret;exact ⟨ret_float (by rw [ldW_canon, ← HC.out, show max (-2200) (min n 2200) = -2200 by omega]), rfl⟩
  ·go_in;go_wp2_with fail
   all_goals
    refine (mldexp_walk hx (by omega) (by omega) _).mono ?_;rintro e w' ⟨rfl, rfl⟩;go_wp2_with fail;refine (canon_walk (ldW_lt hx) _).mono ?_;rintro e w' ⟨rfl, rfl⟩;go_wp2_with fail;go_ret;exact ⟨ret_float (ldW_canon.trans (congrArg (scaleR x) (by omega))), rfl⟩
end
end Go.Proofs.YtombjgfajbhbbaaGreat
