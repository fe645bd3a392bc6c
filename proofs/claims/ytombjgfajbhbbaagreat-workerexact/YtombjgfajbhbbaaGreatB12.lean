/- Len, Up, Parts, Switch, Log, Read. -/
import Derived.Test.YtombjgfajbhbbaaGreatB11
import Derived.Deep.RegionLaw
import Derived.Lib.SliceRun
set_option maxRecDepth 100000
set_option maxHeartbeats 16000000
namespace Go.Proofs.YtombjgfajbhbbaaGreat
open Go.RowKit
section
open Ieee Go.RowKit

attribute [local go_sem] run_store_float run_bits run_frombits
theorem key_walk {v : Value} {l : List Stp} {w : World} (r : Rcd) (hr : r.ok) (ho : Ov w v l) :
  Calls Tryz.prog 38 #[v, .agg #[.int .u64 r.k, .float .f64 r.x]] w fun e w' =>
   e = .returned (.tuple #[.int .u64 (runS l r).2.k, .bool ((runS l r).1 == 1)]) ∧ Below w.heap.size w w' := by
 have HO : Hid (Ov w v l) := ho;have HR : Hid r.ok := hr;clear ho hr;go_in;go_wp2_with fail;refine (run_walk r HR.out (HO.out.below (below_alloc _ _))).mono ?_;rintro e w2 ⟨rfl, hB⟩;have HB : Hid (Below w.heap.size w w2) := below_trans (below_alloc _ _) hB;clear hB;go_wp2_with fail;go_ret2;exact ⟨rfl, HB.out.alloc HB.out.size _⟩
end
section
open Ieee Go.RowKit

theorem info_partsV {P : Program} {e : TypeId} {z : Value} {s b : Nat} (h : (P.info? e).map (fun i => (i.zero, i.size, i.bytes)) = some (some z, s, b)) : ∃ i, P.info? e = some i ∧ i.zero = some z ∧ i.size = s ∧ i.bytes = b := by
 obtain ⟨i, h1, h2⟩ := Option.map_eq_some_iff.1 h;simp only [Prod.mk.injEq] at h2;exact ⟨i, h1, h2.1, h2.2.1, h2.2.2⟩
theorem info_rec : (Tryz.prog.info? 43).map (fun i => (i.zero, i.size, i.bytes)) = some (some (.agg #[.int .u64 0, .float .f64 0]), 2, 16) := by kernel_rfl
def flatR (l : List Rcd) : List Value := l.flatMap fun r => [.int .u64 r.k, .float .f64 r.x]
theorem flatR_len (l : List Rcd) : (flatR l).length = l.length * 2 := by
 unfold flatR
 induction l with
 | nil => rfl
 | cons o l ih => rw [List.flatMap_cons, List.length_append, ih]; simp; omega
theorem flatR_snoc (l : List Rcd) (r : Rcd) : flatR (l ++ [r]) = flatR l ++ [.int .u64 r.k, .float .f64 r.x] := by unfold flatR; rw [List.flatMap_append]; rfl
theorem flatR_get (l : List Rcd) : ∀ (i : Nat) (h : i < l.length), (flatR l)[i * 2]? = some (.int .u64 l[i].k) ∧ (flatR l)[i * 2 + 1]? = some (.float .f64 l[i].x) := by
 induction l with
 | nil => intro i h; simp at h
 | cons o l ih =>
  intro i h;have e : flatR (o :: l) = .int .u64 o.k :: .float .f64 o.x :: flatR l := rfl;rw [e]
  cases i with
  | zero => simp
  | succ i =>
   have := ih i (by simpa using h);rw [show (i + 1) * 2 = i * 2 + 1 + 1 by omega];simpa using this
theorem own_rv {w : World} {base e n : Nat} {v : Value} {l : List Rcd} (h : w.ownsRow base e 2 v n (flatR l)) (hok : ∀ r ∈ l, r.ok) : Rv w v l := by
 obtain ⟨h1, h2⟩ := h;rw [flatR_len] at h1;have hn : n = l.length := by omega
 subst hn;refine ⟨?_, hok⟩;rcases h2 with ⟨rfl, h0⟩ | ⟨g, cap, cur, rfl, hb, hg, hnc, hcm, hcs, htake⟩
 ·have : l = [] := List.eq_nil_of_length_eq_zero h0;subst this;exact ⟨none, 0, rfl, by simp, by simp [maxLen], by simp, fun i hi => by simp at hi⟩
 ·have key : ∀ j u, j < l.length * 2 → (flatR l)[j]? = some u → w.cell? ⟨g, j, none⟩ = some u := by
   intro j u hj hu;rw [cell_of_row w g j cur e (0, 0) hg, ← Array.getElem?_toList];rw [← htake, List.getElem?_take, if_pos hj] at hu;exact hu
  refine ⟨_, cap, rfl, hnc, hcm, by simp, fun i hi => ?_⟩;obtain ⟨a, b⟩ := flatR_get l i hi;exact ⟨g, 0, rfl, by simpa using key _ _ (by omega) a, by simpa using key _ _ (by omega) b⟩
theorem one_cells {w : World} {g : Nat} {r : Rcd} (h0 : w.cell? ⟨g, 0, none⟩ = some (.int .u64 r.k)) (h1 : w.cell? ⟨g, 1, none⟩ = some (.float .f64 r.x)) :
  ∀ (j : Nat) (u : Value), ([.int .u64 r.k, .float .f64 r.x] : List Value)[j]? = some u → w.cell? ((⟨g, 0, none⟩ : Addr).add j) = some u := by
 intro j u hj;have : j = 0 ∨ j = 1 ∨ 2 ≤ j := by omega
 rcases this with rfl | rfl | h
 ·simp at hj; subst hj; simpa [WideShapes.add_plain] using h0
 ·simp at hj; subst hj; simpa [WideShapes.add_plain] using h1
 ·rw [List.getElem?_eq_none (by simpa using h)] at hj; cases hj
theorem flatR_append (l m : List Rcd) : flatR (l ++ m) = flatR l ++ flatR m := by unfold flatR; exact List.flatMap_append
theorem flatR_mem {l : List Rcd} {u : Value} (h : u ∈ flatR l) : u.oneCell' = true := by
 unfold flatR at h;obtain ⟨o, _, ho⟩ := List.mem_flatMap.1 h;simp at ho;rcases ho with rfl | rfl <;> rfl
theorem info_op : (Tryz.prog.info? 80).map (fun i => (i.zero, i.size, i.bytes)) = some (some (.agg #[.int .i64 0, .int .i64 0, .float .f64 0]), 3, 24) := by kernel_rfl
def flat (l : List Stp) : List Value := l.flatMap fun o => [.int .i64 o.K, .int .i64 o.N, .float .f64 o.X]
theorem flat_len (l : List Stp) : (flat l).length = l.length * 3 := by
 unfold flat
 induction l with
 | nil => rfl
 | cons o l ih => rw [List.flatMap_cons, List.length_append, ih]; simp; omega
theorem flat_append (l m : List Stp) : flat (l ++ m) = flat l ++ flat m := by unfold flat; exact List.flatMap_append
theorem flat_get (l : List Stp) : ∀ (i : Nat) (h : i < l.length), (flat l)[i * 3]? = some (.int .i64 l[i].K) ∧ (flat l)[i * 3 + 1]? = some (.int .i64 l[i].N) ∧ (flat l)[i * 3 + 2]? = some (.float .f64 l[i].X) := by
 induction l with
 | nil => intro i h; simp at h
 | cons o l ih =>
  intro i h;have e : flat (o :: l) = .int .i64 o.K :: .int .i64 o.N :: .float .f64 o.X :: flat l := rfl;rw [e]
  cases i with
  | zero => simp
  | succ i =>
   have := ih i (by simpa using h);rw [show (i + 1) * 3 = i * 3 + 1 + 1 + 1 by omega];simpa using this
theorem flat_mem {l : List Stp} {u : Value} (h : u ∈ flat l) : u.oneCell' = true := by
 unfold flat at h;obtain ⟨o, _, ho⟩ := List.mem_flatMap.1 h;simp at ho;rcases ho with rfl | rfl | rfl <;> rfl
def Mv (w : World) (g : Nat) (m : List Stp) : Prop :=
 ∀ i, (h : i < m.length) → (w.cell? ⟨g, i * 3, none⟩ = some (.int .i64 m[i].K) ∧ w.cell? ⟨g, i * 3 + 1, none⟩ = some (.int .i64 m[i].N) ∧ w.cell? ⟨g, i * 3 + 2, none⟩ = some (.float .f64 m[i].X)) ∧
  (w.frozen? ⟨g, i * 3, none⟩ = false ∧ w.frozen? ⟨g, i * 3 + 1, none⟩ = false ∧ w.frozen? ⟨g, i * 3 + 2, none⟩ = false)
theorem own_mv {w : World} {base e n cap g : Nat} {m : List Stp} (h : w.ownsRow base e 3 (.slice (some ⟨g, 0, none⟩) n cap) n (flat m)) : Mv w g m := by
 obtain ⟨h1, h2⟩ := h;rw [flat_len] at h1;have hn : n = m.length := by omega
 subst hn;rcases h2 with ⟨h, _⟩ | ⟨g', cap', cur, e1, hb, hg, hnc, hcm, hcs, htake⟩
 ·cases h
 ·simp only [Value.slice.injEq, Option.some.injEq, Addr.mk.injEq] at e1;obtain ⟨⟨rfl, _⟩, _, rfl⟩ := e1
  have key : ∀ j u, j < m.length * 3 → (flat m)[j]? = some u → w.cell? ⟨g, j, none⟩ = some u := by
   intro j u hj hu;rw [cell_of_row w g j cur e (0, 0) hg, ← Array.getElem?_toList];rw [← htake, List.getElem?_take, if_pos hj] at hu;exact hu
  intro i hi;obtain ⟨a, b, c⟩ := flat_get m i hi;refine ⟨⟨key _ _ (by omega) a, key _ _ (by omega) b, key _ _ (by omega) c⟩, ?_, ?_, ?_⟩;all_goals simp [World.frozen?, hg]
theorem mv_ov {w : World} {g cap n : Nat} {m : List Stp} (h : Mv w g m) (hn : n ≤ m.length) (hc : m.length ≤ cap) (hm : cap ≤ maxLen) (hok : ∀ o ∈ m, o.ok) : Ov w (.slice (some ⟨g, 0, none⟩) n cap) (m.take n) := by
 have hl : (m.take n).length = n := by simp; omega
 refine ⟨⟨_, cap, by rw [hl], by omega, hm, by simp, fun i hi => ?_⟩, fun o ho => hok o (List.mem_of_mem_take ho)⟩;rw [hl] at hi;obtain ⟨⟨a, b, c⟩, _⟩ := h i (by omega);refine ⟨g, 0, rfl, ?_, ?_, ?_⟩
 ·simpa using a
 ·simpa using b
 ·simpa using c
theorem wpList_append_rv {P : Program} {w : World} {ops : Array Oper} {rest : List Oper} {o : Oper} {a : Act} {Q : Exit → Act → World → Prop} (hgd : o.guard = none) (s x : Operand) (t : TypeId)
  (ho : o.op = .call { callee := .builtin .append, args := #[s, x], argTypes := #[t, t] })
  (base : Nat) (e : TypeId) (ht : P.underlying t = some (.slice e)) (hinf : (P.info? e).map (fun i => (i.zero, i.size, i.bytes)) = some (some (.agg #[.int .u64 0, .float .f64 0]), 2, 16))
  (v : Value) (n : Nat) (m : List Rcd) (hs : a.eval s = v) (hown : w.ownsRow base e 2 v n (flatR m))
  (y : Value) (l : List Rcd) (hx : a.eval x = y) (hy : Rv w y l) (h63 : n + l.length ≤ maxLen) (hb : (n + l.length) * 16 ≤ 140737488355328) (hbase : base ≤ w.heap.size)
  (h : ∀ v' w', w'.ownsRow base e 2 v' (n + l.length) (flatR (m ++ l)) → w.grownBy w' v.ownBlock → wpList P ops Q rest (a.put o.dst v') w') : wpList P ops Q (o :: rest) a w := by
 obtain ⟨i0, hi, hz0, hz1, hz2⟩ := info_partsV hinf;obtain ⟨⟨ao, c, rfl, hc1, hc2, hnone, hcells⟩, _⟩ := hy
 cases ao with
 | none =>
  obtain rfl := hnone rfl;have hl0 : l.length = 0 := by omega
  have hl : l = [] := List.eq_nil_of_length_eq_zero hl0;subst hl;refine wpList_append_own_none hgd s x t ho base e i0 2 ht hi _ n (flatR m) hs hown hx ?_;exact h v w (by simpa using hown) ⟨rfl, rfl, rfl, Nat.le_refl _, fun _ _ _ => rfl⟩
 | some p =>
  refine wpList_append_own w hgd s x t ho base e i0 (.agg #[.int .u64 0, .float .f64 0]) 2 16 ht hi hz0 hz1 hz2 rfl (by decide) v n (flatR m) hs hown p l.length c (flatR l) hx (flatR_len l) ?_ (fun u hu => flatR_mem hu) h63 hb hbase (fun v' w' h1 h2 _ => h v' w' (by rw [flatR_append]; exact h1) h2);intro j u hj
  have hjl : j < l.length * 2 := by
   rcases Nat.lt_or_ge j (l.length * 2) with h | h
   ·exact h
   ·rw [List.getElem?_eq_none (by rw [flatR_len]; exact h)] at hj; cases hj
  obtain ⟨b, off, e1, g0, g1⟩ := hcells (j / 2) (by omega)
  cases e1
  obtain ⟨f0, f1⟩ := flatR_get l (j / 2) (by omega);rw [WideShapes.add_plain];have hmod : j % 2 = 0 ∨ j % 2 = 1 := by omega
  rcases hmod with hm | hm
  ·have e2 : j / 2 * 2 = j := by omega
   rw [e2] at g0;rw [e2] at f0;rw [f0] at hj; rw [g0, hj]
  ·have e2 : j / 2 * 2 + 1 = j := by omega
   rw [Nat.add_assoc, e2] at g1;rw [e2] at f1;rw [f1] at hj; rw [g1, hj]
theorem wpList_append_sp {P : Program} {w : World} {ops : Array Oper} {rest : List Oper} {o : Oper} {a : Act} {Q : Exit → Act → World → Prop} (hgd : o.guard = none) (s x : Operand) (t : TypeId)
  (ho : o.op = .call { callee := .builtin .append, args := #[s, x], argTypes := #[t, t] })
  (base : Nat) (e : TypeId) (ht : P.underlying t = some (.slice e)) (hinf : (P.info? e).map (fun i => (i.zero, i.size, i.bytes)) = some (some (.agg #[.int .i64 0, .int .i64 0, .float .f64 0]), 3, 24))
  (v : Value) (n : Nat) (m : List Stp) (hs : a.eval s = v) (hown : w.ownsRow base e 3 v n (flat m))
  (y : Value) (l : List Stp) (hx : a.eval x = y) (hy : Ov w y l) (h63 : n + l.length ≤ maxLen) (hb : (n + l.length) * 24 ≤ 140737488355328) (hbase : base ≤ w.heap.size)
  (h : ∀ v' w', w'.ownsRow base e 3 v' (n + l.length) (flat (m ++ l)) → w.grownBy w' v.ownBlock → wpList P ops Q rest (a.put o.dst v') w') : wpList P ops Q (o :: rest) a w := by
 obtain ⟨i0, hi, hz0, hz1, hz2⟩ := info_partsV hinf;obtain ⟨⟨ao, c, rfl, hc1, hc2, hnone, hcells⟩, _⟩ := hy
 cases ao with
 | none =>
  obtain rfl := hnone rfl;have hl0 : l.length = 0 := by omega
  have hl : l = [] := List.eq_nil_of_length_eq_zero hl0;subst hl;refine wpList_append_own_none hgd s x t ho base e i0 3 ht hi _ n (flat m) hs hown hx ?_;exact h v w (by simpa using hown) ⟨rfl, rfl, rfl, Nat.le_refl _, fun _ _ _ => rfl⟩
 | some p =>
  refine wpList_append_own w hgd s x t ho base e i0 (.agg #[.int .i64 0, .int .i64 0, .float .f64 0]) 3 24 ht hi hz0 hz1 hz2 rfl (by decide) v n (flat m) hs hown p l.length c (flat l) hx (flat_len l) ?_ (fun u hu => flat_mem hu) h63 hb hbase (fun v' w' h1 h2 _ => h v' w' (by rw [flat_append]; exact h1) h2);intro j u hj
  have hjl : j < l.length * 3 := by
   rcases Nat.lt_or_ge j (l.length * 3) with h | h
   ·exact h
   ·rw [List.getElem?_eq_none (by rw [flat_len]; exact h)] at hj; cases hj
  obtain ⟨b, off, e1, g0, g1, g2⟩ := hcells (j / 3) (by omega)
  cases e1
  obtain ⟨f0, f1, f2⟩ := flat_get l (j / 3) (by omega);rw [WideShapes.add_plain];have hmod : j % 3 = 0 ∨ j % 3 = 1 ∨ j % 3 = 2 := by omega
  rcases hmod with hm | hm | hm
  ·have e2 : j / 3 * 3 = j := by omega
   rw [e2] at g0;rw [e2] at f0;rw [f0] at hj; rw [g0, hj]
  ·have e2 : j / 3 * 3 + 1 = j := by omega
   rw [Nat.add_assoc, e2] at g1;rw [e2] at f1;rw [f1] at hj; rw [g1, hj]
  ·have e2 : j / 3 * 3 + 2 = j := by omega
   rw [Nat.add_assoc, e2] at g2;rw [e2] at f2;rw [f2] at hj; rw [g2, hj]
theorem own_ovS {w : World} {base e n : Nat} {v : Value} {l : List Stp} (h : w.ownsRow base e 3 v n (flat l)) (hok : ∀ o ∈ l, o.ok) : Ov w v l := by
 have hz := h;obtain ⟨h1, h2⟩ := h;rw [flat_len] at h1;have hn : n = l.length := by omega
 subst hn;rcases h2 with ⟨rfl, h0⟩ | ⟨g, cap, cur, rfl, hb, hg, hnc, hcm, hcs, htake⟩
 ·have : l = [] := List.eq_nil_of_length_eq_zero h0;subst this;exact ⟨⟨none, 0, rfl, by simp, by simp [maxLen], by simp, fun i hi => by simp at hi⟩, hok⟩
 ·have := mv_ov (own_mv hz) (Nat.le_refl _) hnc hcm hok;simpa using this
theorem Rv.below {w w' : World} {v : Value} {l : List Rcd} (h : Rv w v l) (hb : Below w.heap.size w w') : Rv w' v l := by
 obtain ⟨⟨ao, cap, e, h1, h2, h3, h4⟩, h5⟩ := h;exact ⟨⟨ao, cap, e, h1, h2, h3, h4.below hb⟩, h5⟩
theorem cloneO_walk {v : Value} {l : List Stp} {w : World} (ho : Ov w v l) (hl : l.length ≤ 1048576) :
  Calls Tryz.prog 25 #[v] w fun e w' => ∃ v', e = .returned v' ∧ w'.ownsRow w.heap.size 80 3 v' l.length (flat l) ∧ Below w.heap.size w w' := by
 have HO : Hid (Ov w v l) := ho;obtain ⟨⟨ao, cap, rfl, h1, h2, h3, _⟩, _⟩ := ho;have HL := hidH hl;have H3 : Hid (ao = none → cap = 0) := h3;have H1 : Hid (l.length ≤ cap) := h1;have q : ∀ (w : World) (a : Option Addr) (n c : Nat), (binOp .eql 22 (.slice a n c) (.slice none 0 0)).run Tryz.prog w = .ok (.bool a.isNone) w := fun w a n c => Lib.run_eql_slice_nil w 22 80 a n c 0 0 Tryz.underlying22;clear hl h1 h2 h3
 cases ao with
 | none =>
  have hc := H3.out rfl;subst hc;have hl0 : l.length = 0 := by have := H1.out; omega
  have hl : l = [] := List.eq_nil_of_length_eq_zero hl0;subst hl;rw [List.length_nil];go_in;go_wp2_with fail;go_ret;exact ⟨_, rfl, World.ownsRow_nil _ _ _ _, below_same _⟩
 | some p =>
  go_in;go_wp2_with (at_builtin; refine wpList_append_sp (by rfl) _ _ 22 (by rfl) w.heap.size 80 Tryz.underlying22 info_op _ 0 [] (by rfl) (World.ownsRow_made w #[] 0 (Nat.le_refl _) (by simp [maxLen]) (by simp)) _ l (by rfl) (HO.out.below (below_alloc _ _)) (by have := HL.out; simp [maxLen]; omega) (by have := HL.out; omega) (by simp) ?_; intro v' w2 hown hgrow; go_frame);go_ret;refine ⟨_, rfl, by simpa using hown, ?_⟩;exact (below_alloc w (Obj.cells #[] 80)).grown hgrow (by simp) (by simp [Value.ownBlock])
theorem cloneR_walk {v : Value} {l : List Rcd} {w : World} (ho : Rv w v l) (hl : l.length ≤ 1048576) :
  Calls Tryz.prog 177 #[v] w fun e w' => ∃ v', e = .returned v' ∧ w'.ownsRow w.heap.size 43 2 v' l.length (flatR l) ∧ Below w.heap.size w w' := by
 have HO : Hid (Rv w v l) := ho;obtain ⟨⟨ao, cap, rfl, h1, h2, h3, _⟩, _⟩ := ho;have HL := hidH hl;have H3 : Hid (ao = none → cap = 0) := h3;have H1 : Hid (l.length ≤ cap) := h1;have q : ∀ (w : World) (a : Option Addr) (n c : Nat), (binOp .eql 85 (.slice a n c) (.slice none 0 0)).run Tryz.prog w = .ok (.bool a.isNone) w := fun w a n c => Lib.run_eql_slice_nil w 85 43 a n c 0 0 Tryz.underlying85;clear hl h1 h2 h3
 cases ao with
 | none =>
  have hc := H3.out rfl;subst hc;have hl0 : l.length = 0 := by have := H1.out; omega
  have hl : l = [] := List.eq_nil_of_length_eq_zero hl0;subst hl;rw [List.length_nil];go_in;go_wp2_with fail;go_ret;exact ⟨_, rfl, World.ownsRow_nil _ _ _ _, below_same _⟩
 | some p =>
  go_in;go_wp2_with (at_builtin; refine wpList_append_rv (by rfl) _ _ 85 (by rfl) w.heap.size 43 Tryz.underlying85 info_rec _ 0 [] (by rfl) (World.ownsRow_made w #[] 0 (Nat.le_refl _) (by simp [maxLen]) (by simp)) _ l (by rfl) (HO.out.below (below_alloc _ _)) (by have := HL.out; simp [maxLen]; omega) (by have := HL.out; omega) (by simp) ?_; intro v' w2 hown hgrow; go_frame);go_ret;refine ⟨_, rfl, by simpa using hown, ?_⟩;exact (below_alloc w (Obj.cells #[] 43)).grown hgrow (by simp) (by simp [Value.ownBlock])
end
section
open Ieee Go.RowKit

structure Sc where
 list : List Stp
 np : Nat
 logs : Nat → List Rcd
 on : Nat → Bool
 keys : List Nat
def upd {α : Type} (f : Nat → α) (p : Nat) (x : α) : Nat → α := fun q => if q = p then x else f q
theorem upd_same {α : Type} (f : Nat → α) (p : Nat) (x : α) : upd f p x p = x := if_pos rfl
theorem upd_other {α : Type} (f : Nat → α) {p q : Nat} (x : α) (h : q ≠ p) : upd f p x q = f q := if_neg h
structure Sc.ok (S : Sc) : Prop where
 np1 : 1 ≤ S.np
 np4 : S.np ≤ 4
 chk : checkB S.list = true
 lok : ∀ o ∈ S.list, o.ok
 len : ∀ p, (S.logs p).length ≤ 256
 rok : ∀ p, ∀ r ∈ S.logs p, r.ok
 kl : S.keys.length ≤ 64
 kr : RiseK S.keys
 kb : ∀ k ∈ S.keys, k < 18446744073709551616
 mem : ∀ k, k ∈ S.keys ↔ ∃ p, p < S.np ∧ ∃ r ∈ S.logs p, (runS S.list r).1 = 1 ∧ (runS S.list r).2.k = k
structure SM (D : Nat → Prop) (w : World) (sb gp gm : Nat) (lv : Value) (rv : Nat → Value) (S : Sc) : Prop where
 head : w.heap[sb]? = some (.cells #[lv, .slice (some ⟨gp, 0, none⟩) S.np S.np, .map (some gm)] 84 (0, 0))
 part : ∃ cur, w.heap[gp]? = some (.cells cur 87 (0, 0)) ∧ cur.size = S.np * 2 ∧ ∀ p, p < S.np → cur[p * 2]? = some (rv p) ∧ cur[p * 2 + 1]? = some (.bool (S.on p))
 keys : Ks w gm S.keys
 list : Ov w lv S.list
 rows : ∀ p, p < S.np → w.ownsRow 0 43 2 (rv p) (S.logs p).length (flatR (S.logs p))
 a1 : sb ≠ gp
 a2 : sb ≠ gm
 a3 : gp ≠ gm
 a4 : ∀ p x, p < S.np → (rv p).ownBlock = some x → x ≠ sb ∧ x ≠ gp ∧ x ≠ gm ∧ lv.ownBlock ≠ some x
 a5 : ∀ x, lv.ownBlock = some x → x ≠ sb ∧ x ≠ gp ∧ x ≠ gm
 a6 : ∀ p q x, p < S.np → q < S.np → p ≠ q → (rv p).ownBlock = some x → (rv q).ownBlock ≠ some x
 d1 : D sb ∧ D gp ∧ D gm
 d2 : ∀ p x, p < S.np → (rv p).ownBlock = some x → D x
 d3 : ∀ x, lv.ownBlock = some x → D x
 dl : ∀ x, D x → x < w.heap.size
def Src (D : Nat → Prop) (w : World) (v : Value) (S : Sc) : Prop := ∃ sb gp gm lv rv, v = .pointer (some ⟨sb, 0, none⟩) ∧ SM D w sb gp gm lv rv S ∧ S.ok
theorem Ov.keep {w w' : World} {v : Value} {l : List Stp} (h : Ov w v l) (hk : ∀ x, v.ownBlock = some x → w'.heap[x]? = w.heap[x]?) : Ov w' v l := by
 obtain ⟨⟨ao, cap, rfl, h1, h2, h3, h4⟩, h5⟩ := h;refine ⟨⟨ao, cap, rfl, h1, h2, h3, fun i hi => ?_⟩, h5⟩;obtain ⟨b, off, rfl, c0, c1, c2⟩ := h4 i hi;have hb := hk b rfl;exact ⟨b, off, rfl, by rw [World.cell?_of_block (w := w) hb]; exact c0, by rw [World.cell?_of_block (w := w) hb]; exact c1, by rw [World.cell?_of_block (w := w) hb]; exact c2⟩
theorem row_keep {w w' : World} {base e s n : Nat} {v : Value} {xs : List Value} (h : w.ownsRow base e s v n xs) (hk : ∀ x, v.ownBlock = some x → w'.heap[x]? = w.heap[x]?) : w'.ownsRow base e s v n xs := by
 refine ⟨h.1, ?_⟩;rcases h.2 with h0 | ⟨g, cap, cur, rfl, hb, hg, r⟩
 ·exact .inl h0
 ·exact .inr ⟨g, cap, cur, rfl, hb, by rw [hk g rfl]; exact hg, r⟩
theorem row_base {w : World} {base b' e s n : Nat} {v : Value} {xs : List Value} (h : w.ownsRow base e s v n xs) (hb : ∀ x, v.ownBlock = some x → b' ≤ x) : w.ownsRow b' e s v n xs := by
 refine ⟨h.1, ?_⟩;rcases h.2 with h0 | ⟨g, cap, cur, rfl, _, r⟩
 ·exact .inl h0
 ·exact .inr ⟨g, cap, cur, rfl, hb g rfl, r⟩
theorem SM.keep {D : Nat → Prop} {w w' : World} {sb gp gm : Nat} {lv : Value} {rv : Nat → Value} {S : Sc} (h : SM D w sb gp gm lv rv S) (hk : ∀ x, D x → w'.heap[x]? = w.heap[x]?) (hs : w.heap.size ≤ w'.heap.size) : SM D w' sb gp gm lv rv S := by
 obtain ⟨cur, p1, p2, p3⟩ := h.part
 exact ⟨by rw [hk _ h.d1.1]; exact h.head, ⟨cur, by rw [hk _ h.d1.2.1]; exact p1, p2, p3⟩, h.keys.kept (hk _ h.d1.2.2), h.list.keep (fun x hx => hk x (h.d3 x hx)), fun p hp => row_keep (h.rows p hp) (fun x hx => hk x (h.d2 p x hp hx)),
  h.a1, h.a2, h.a3, h.a4, h.a5, h.a6, h.d1, h.d2, h.d3, fun x hx => Nat.lt_of_lt_of_le (h.dl x hx) hs⟩
theorem Src.keep {D : Nat → Prop} {w w' : World} {v : Value} {S : Sc} (h : Src D w v S) (hk : ∀ x, D x → w'.heap[x]? = w.heap[x]?) (hs : w.heap.size ≤ w'.heap.size) : Src D w' v S := by
 obtain ⟨sb, gp, gm, lv, rv, e, h1, h2⟩ := h;exact ⟨sb, gp, gm, lv, rv, e, h1.keep hk hs, h2⟩
theorem Src.lt {D : Nat → Prop} {w : World} {v : Value} {S : Sc} (h : Src D w v S) {x : Nat} (hx : D x) : x < w.heap.size := by
 obtain ⟨sb, gp, gm, lv, rv, e, h1, h2⟩ := h;exact h1.dl x hx
theorem Src.good {D : Nat → Prop} {w : World} {v : Value} {S : Sc} (h : Src D w v S) : S.ok := by
 obtain ⟨sb, gp, gm, lv, rv, e, h1, h2⟩ := h;exact h2
theorem Src.below {D : Nat → Prop} {w w' : World} {v : Value} {S : Sc} (h : Src D w v S) (hb : Below w.heap.size w w') : Src D w' v S := h.keep (fun x hx => hb.block x (h.lt hx)) hb.size
theorem SM.below {D : Nat → Prop} {w w' : World} {sb gp gm : Nat} {lv : Value} {rv : Nat → Value} {S : Sc} (h : SM D w sb gp gm lv rv S) (hb : Below w.heap.size w w') : SM D w' sb gp gm lv rv S := h.keep (fun x hx => hb.block x (h.dl x hx)) hb.size
structure Ch (D : Nat → Prop) (w w' : World) : Prop where
 os : w'.os = w.os
 tape : w'.tape = w.tape
 output : w'.output = w.output
 size : w.heap.size ≤ w'.heap.size
 block : ∀ k, k < w.heap.size → ¬ D k → w'.heap[k]? = w.heap[k]?
theorem Ch.refl (D : Nat → Prop) (w : World) : Ch D w w := ⟨rfl, rfl, rfl, Nat.le_refl _, fun _ _ _ => rfl⟩
theorem Ch.trans {D E : Nat → Prop} {a b c : World} (h : Ch D a b) (k : Ch E b c) (he : ∀ x, E x → D x ∨ a.heap.size ≤ x) : Ch D a c :=
 ⟨k.os.trans h.os, k.tape.trans h.tape, k.output.trans h.output, Nat.le_trans h.size k.size, fun x hx hd => by
  rw [k.block x (Nat.lt_of_lt_of_le hx h.size) (fun e => by rcases he x e with q | q; exact hd q; omega), h.block x hx hd]⟩
theorem Ch.of_below {D : Nat → Prop} {w w' : World} (h : Below w.heap.size w w') : Ch D w w' := ⟨h.os, h.tape, h.output, h.size, fun k hk _ => h.block k hk⟩
theorem Ch.to_below {D : Nat → Prop} {w w' : World} {B : Nat} (h : Ch D w w') (hB : B ≤ w.heap.size) (hd : ∀ x, D x → B ≤ x) : Below B w w' := ⟨h.os, h.tape, h.output, h.size, fun k hk => h.block k (by omega) (fun e => by have := hd k e; omega)⟩
theorem Ch.of_grown {D : Nat → Prop} {w w' : World} {r : Option Nat} (h : w.grownBy w' r) (hr : ∀ x, r = some x → D x) : Ch D w w' := ⟨h.os, h.tape, h.output, h.size, fun k hk hd => h.block k hk (fun e => hd (hr k e.symm))⟩
section

variable {D : Nat → Prop} {w : World} {sb gp gm : Nat} {lv : Value} {rv : Nat → Value} {S : Sc}

theorem SM.c0 (h : SM D w sb gp gm lv rv S) : w.cell? ⟨sb, 0, none⟩ = some lv := by rw [cell_of_row w sb 0 _ _ (0, 0) h.head]; rfl
theorem SM.c1 (h : SM D w sb gp gm lv rv S) : w.cell? ⟨sb, 1, none⟩ = some (.slice (some ⟨gp, 0, none⟩) S.np S.np) := by rw [cell_of_row w sb 1 _ _ (0, 0) h.head]; rfl
theorem SM.c2 (h : SM D w sb gp gm lv rv S) : w.cell? ⟨sb, 2, none⟩ = some (.map (some gm)) := by rw [cell_of_row w sb 2 _ _ (0, 0) h.head]; rfl
theorem SM.p0 (h : SM D w sb gp gm lv rv S) {p : Nat} (hp : p < S.np) : w.cell? ⟨gp, p * 2, none⟩ = some (rv p) := by
 obtain ⟨cur, h1, h2, h3⟩ := h.part;rw [cell_of_row w gp _ _ _ (0, 0) h1]; exact (h3 p hp).1
theorem SM.p1 (h : SM D w sb gp gm lv rv S) {p : Nat} (hp : p < S.np) : w.cell? ⟨gp, p * 2 + 1, none⟩ = some (.bool (S.on p)) := by
 obtain ⟨cur, h1, h2, h3⟩ := h.part;rw [cell_of_row w gp _ _ _ (0, 0) h1]; exact (h3 p hp).2
theorem SM.soft (h : SM D w sb gp gm lv rv S) (x : Nat) : w.frozen? ⟨gp, x, none⟩ = false := by
 obtain ⟨cur, h1, h2, h3⟩ := h.part;simp [World.frozen?, h1]
theorem SM.recs (h : SM D w sb gp gm lv rv S) (hok : S.ok) {p : Nat} (hp : p < S.np) : Rv w (rv p) (S.logs p) := own_rv (h.rows p hp) (hok.rok p)
theorem part_nil (p : Int) (w : World) :
  Calls Tryz.prog 37 #[.pointer none, .int .i64 p] w fun e w' => e = .returned (.tuple #[.pointer none, .int .i64 2]) ∧ w' = w := by
 go_in;go_wp2_with fail;go_ret2;exact ⟨rfl, rfl⟩
theorem part_no {p : Int} (h : SM D w sb gp gm lv rv S) (hok : S.ok) (hp : p < 0 ∨ (S.np : Int) ≤ p) :
  Calls Tryz.prog 37 #[.pointer (some ⟨sb, 0, none⟩), .int .i64 p] w fun e w' => e = .returned (.tuple #[.pointer none, .int .i64 60]) ∧ w' = w := by
 have c1 := h.c1;have h4 := hok.np4;clear h hok;by_cases hp0 : p < 0
 ·go_in;go_wp2_with fail;go_ret2;exact ⟨rfl, rfl⟩
 ·have hp1 : (S.np : Int) ≤ p := by omega
  clear hp;go_in;go_wp2_with fail;go_ret2;exact ⟨rfl, rfl⟩
theorem part_ok {p : Nat} (h : SM D w sb gp gm lv rv S) (hok : S.ok) (hp : p < S.np) :
  Calls Tryz.prog 37 #[.pointer (some ⟨sb, 0, none⟩), .int .i64 p] w fun e w' => e = .returned (.tuple #[.pointer (some ⟨gp, p * 2, none⟩), .int .i64 0]) ∧ w' = w := by
 have c1 := h.c1;have h4 := hok.np4;clear h hok;go_in;go_wp2_with fail;go_ret2;exact ⟨rfl, rfl⟩
end
end
section
open Ieee Go.RowKit

abbrev hasS (S : Sc) (p : Int) : Prop := 0 ≤ p ∧ p < S.np
def lenS (S : Sc) (p : Int) : Nat := if hasS S p then (S.logs p.toNat).length else 0
def upS (S : Sc) (p : Int) : Bool := if hasS S p then S.on p.toNat else false
def logS (S : Sc) (p : Int) : List Rcd := if hasS S p then S.logs p.toNat else []
def switchI (S : Sc) (p : Int) : Int := if hasS S p then 0 else 60
def switchS (S : Sc) (p : Int) (on : Bool) : Sc := if hasS S p then { S with on := upd S.on p.toNat on } else S
theorem not_has {S : Sc} {p : Int} (h : ¬ hasS S p) : p < 0 ∨ (S.np : Int) ≤ p := by unfold hasS at h; omega
theorem has_nat {S : Sc} {p : Int} (h : hasS S p) : ∃ q : Nat, p = q ∧ q < S.np := ⟨p.toNat, by unfold hasS at h; omega, by unfold hasS at h; omega⟩
section

variable {D : Nat → Prop} {w : World} {v : Value} {S : Sc}

theorem parts_walkS (h : Src D w v S) : Calls Tryz.prog 155 #[v] w fun e w' => e = .returned (.int .i64 S.np) ∧ w' = w := by
 obtain ⟨sb, gp, gm, lv, rv, rfl, h, hok⟩ := h;have c1 := h.c1;clear h;go_in;go_wp2_with fail;go_ret;exact ⟨rfl, rfl⟩
theorem len_walk (h : Src D w v S) (p : Int) : Calls Tryz.prog 117 #[v, .int .i64 p] w fun e w' => e = .returned (.int .i64 (lenS S p)) ∧ w' = w := by
 obtain ⟨sb, gp, gm, lv, rv, rfl, h, hok⟩ := h;have HS := hidH h;have HK : Hid S.ok := hok;clear h hok;by_cases hh : hasS S p
 ·obtain ⟨q, rfl, hq⟩ := has_nat hh;have HL : Hid (lenS S q = (S.logs q).length) := by show _ = _; unfold lenS; rw [if_pos hh]; rfl
  rw [HL.out];have p0 := HS.out.p0 hq;obtain ⟨ao, cap, hrv, _⟩ := row_form (HS.out.rows q hq);rw [hrv] at p0;clear hrv hh;go_in;go_wp2_with (go_at_call 37; refine (part_ok HS.out HK.out hq).mono ?_; rintro e w9 ⟨rfl, h9⟩; have h9 := h9.symm; subst h9);go_ret;exact ⟨rfl, rfl⟩
 ·have HL : Hid (lenS S p = 0) := by show _ = _; unfold lenS; rw [if_neg hh]
  rw [HL.out];have HN : Hid (p < 0 ∨ (S.np : Int) ≤ p) := not_has hh;clear hh;go_in;go_wp2_with (go_at_call 37; refine (part_no HS.out HK.out HN.out).mono ?_; rintro e w9 ⟨rfl, h9⟩; have h9 := h9.symm; subst h9);go_ret;exact ⟨rfl, rfl⟩
theorem up_walk (h : Src D w v S) (p : Int) : Calls Tryz.prog 116 #[v, .int .i64 p] w fun e w' => e = .returned (.bool (upS S p)) ∧ w' = w := by
 obtain ⟨sb, gp, gm, lv, rv, rfl, h, hok⟩ := h;have HS := hidH h;have HK : Hid S.ok := hok;clear h hok;by_cases hh : hasS S p
 ·obtain ⟨q, rfl, hq⟩ := has_nat hh;have HL : Hid (upS S q = S.on q) := by show _ = _; unfold upS; rw [if_pos hh]; rfl
  rw [HL.out];have p1 := HS.out.p1 hq;clear hh;go_in;go_wp2_with (go_at_call 37; refine (part_ok HS.out HK.out hq).mono ?_; rintro e w9 ⟨rfl, h9⟩; have h9 := h9.symm; subst h9);go_ret;exact ⟨rfl, rfl⟩
 ·have HL : Hid (upS S p = false) := by show _ = _; unfold upS; rw [if_neg hh]
  rw [HL.out];have HN : Hid (p < 0 ∨ (S.np : Int) ≤ p) := not_has hh;clear hh;go_in;go_wp2_with (go_at_call 37; refine (part_no HS.out HK.out HN.out).mono ?_; rintro e w9 ⟨rfl, h9⟩; have h9 := h9.symm; subst h9);go_ret;exact ⟨rfl, rfl⟩
theorem log_walk (h : Src D w v S) (p : Int) : Calls Tryz.prog 156 #[v, .int .i64 p] w fun e w' => ∃ r, e = .returned r ∧ w'.ownsRow w.heap.size 43 2 r (logS S p).length (flatR (logS S p)) ∧ Below w.heap.size w w' := by
 obtain ⟨sb, gp, gm, lv, rv, rfl, h, hok⟩ := h;have HS := hidH h;have HK : Hid S.ok := hok;clear h hok;by_cases hh : hasS S p
 ·obtain ⟨q, rfl, hq⟩ := has_nat hh;have HL : Hid (logS S q = S.logs q) := by show _ = _; unfold logS; rw [if_pos hh]; rfl
  rw [HL.out];have p0 := HS.out.p0 hq;have HR : Hid (Rv w (rv q) (S.logs q)) := HS.out.recs HK.out hq;clear hh;go_in
  go_wp2_with (first
   | (go_at_call 37; refine (part_ok HS.out HK.out hq).mono ?_; rintro e w9 ⟨rfl, h9⟩; have h9 := h9.symm; subst h9)
   | (go_at_call 177; refine (cloneR_walk HR.out (by have := HK.out.len q; omega)).mono ?_; rintro e w9 ⟨r, rfl, hr, hB⟩))
  go_ret;exact ⟨r, rfl, hr, hB⟩
 ·have HL : Hid (logS S p = []) := by show _ = _; unfold logS; rw [if_neg hh]
  rw [HL.out];have HN : Hid (p < 0 ∨ (S.np : Int) ≤ p) := not_has hh;clear hh;go_in;go_wp2_with (go_at_call 37; refine (part_no HS.out HK.out HN.out).mono ?_; rintro e w9 ⟨rfl, h9⟩; have h9 := h9.symm; subst h9);go_ret;exact ⟨_, rfl, World.ownsRow_nil _ _ _ _, below_same _⟩
end
end
end Go.Proofs.YtombjgfajbhbbaaGreat
