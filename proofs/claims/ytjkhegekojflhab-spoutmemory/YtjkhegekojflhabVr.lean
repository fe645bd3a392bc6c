/- Rows of records and of steps that a call itself makes; slices.Clone. -/
import Derived.Test.YtjkhegekojflhabVa
import Derived.Test.YtjkhegekojflhabXz
import Derived.Test.YtjkhegekojflhabXo
import Derived.Laws.AppendOwnNone
import Derived.Maps.AppendAt
import Derived.Deep.RegionLaw
import Derived.Deep.RegionHeld3
import Derived.OwnWalk
import Derived.Lib.SliceRun
namespace Go.Proofs.Ytjkhegekojflhab
open Ieee Go.RowKit

theorem info_partsV {P : Program} {e : TypeId} {z : Value} {s b : Nat} (h : (P.info? e).map (fun i => (i.zero, i.size, i.bytes)) = some (some z, s, b)) : ∃ i, P.info? e = some i ∧ i.zero = some z ∧ i.size = s ∧ i.bytes = b := by
  obtain ⟨i, h1, h2⟩ := Option.map_eq_some_iff.1 h
  simp only [Prod.mk.injEq] at h2
  exact ⟨i, h1, h2.1, h2.2.1, h2.2.2⟩

theorem info_rec : (Try.prog.info? 40).map (fun i => (i.zero, i.size, i.bytes)) = some (some (.agg #[.int .u64 0, .float .f64 0]), 2, 16) := by kernel_rfl

def flatR (l : List Rcd) : List Value := l.flatMap fun r => [.int .u64 r.k, .float .f64 r.x]
theorem flatR_len (l : List Rcd) : (flatR l).length = l.length * 2 := by
  unfold flatR
  induction l with
  | nil => rfl
  | cons o l ih => rw [List.flatMap_cons, List.length_append, ih]; simp; omega
theorem flatR_snoc (l : List Rcd) (r : Rcd) : flatR (l ++ [r]) = flatR l ++ [.int .u64 r.k, .float .f64 r.x] := by unfold flatR; rw [List.flatMap_append]; rfl
theorem flatR_get (l : List Rcd) : ∀ (i : Nat) (h : i < l.length), (flatR l)[i * 2]? = some (.int .u64 l[i].k) ∧ (flatR l)[i * 2 + 1]? = some (.float .f64 l[i].x) := by
  induction l with
  | nil => intro i h; simp at h
  | cons o l ih =>
    intro i h
    have e : flatR (o :: l) = .int .u64 o.k :: .float .f64 o.x :: flatR l := rfl
    rw [e]
    cases i with
    | zero => simp
    | succ i =>
      have := ih i (by simpa using h)
      rw [show (i + 1) * 2 = i * 2 + 1 + 1 by omega]
      simpa using this

/-- What a row of the call's own holds. -/
theorem own_rv {w : World} {base e n : Nat} {v : Value} {l : List Rcd} (h : w.ownsRow base e 2 v n (flatR l)) (hok : ∀ r ∈ l, r.ok) : Rv w v l := by
  obtain ⟨h1, h2⟩ := h
  rw [flatR_len] at h1
  have hn : n = l.length := by omega
  subst hn
  refine ⟨?_, hok⟩
  rcases h2 with ⟨rfl, h0⟩ | ⟨g, cap, cur, rfl, hb, hg, hnc, hcm, hcs, htake⟩
  · have : l = [] := List.eq_nil_of_length_eq_zero h0
    subst this
    exact ⟨none, 0, rfl, by simp, by simp [maxLen], by simp, fun i hi => by simp at hi⟩
  · have key : ∀ j u, j < l.length * 2 → (flatR l)[j]? = some u → w.cell? ⟨g, j, none⟩ = some u := by
      intro j u hj hu
      rw [cell_of_row w g j cur e (0, 0) hg, ← Array.getElem?_toList]
      rw [← htake, List.getElem?_take, if_pos hj] at hu
      exact hu
    refine ⟨_, cap, rfl, hnc, hcm, by simp, fun i hi => ?_⟩
    obtain ⟨a, b⟩ := flatR_get l i hi
    exact ⟨g, 0, rfl, by simpa using key _ _ (by omega) a, by simpa using key _ _ (by omega) b⟩

theorem one_cells {w : World} {g : Nat} {r : Rcd} (h0 : w.cell? ⟨g, 0, none⟩ = some (.int .u64 r.k)) (h1 : w.cell? ⟨g, 1, none⟩ = some (.float .f64 r.x)) :
    ∀ (j : Nat) (u : Value), ([.int .u64 r.k, .float .f64 r.x] : List Value)[j]? = some u → w.cell? ((⟨g, 0, none⟩ : Addr).add j) = some u := by
  intro j u hj
  have : j = 0 ∨ j = 1 ∨ 2 ≤ j := by omega
  rcases this with rfl | rfl | h
  · simp at hj; subst hj; simpa [WideShapes.add_plain] using h0
  · simp at hj; subst hj; simpa [WideShapes.add_plain] using h1
  · rw [List.getElem?_eq_none (by simpa using h)] at hj; cases hj

theorem flatR_append (l m : List Rcd) : flatR (l ++ m) = flatR l ++ flatR m := by unfold flatR; exact List.flatMap_append
theorem flatR_mem {l : List Rcd} {u : Value} (h : u ∈ flatR l) : u.oneCell' = true := by
  unfold flatR at h
  obtain ⟨o, _, ho⟩ := List.mem_flatMap.1 h
  simp at ho
  rcases ho with rfl | rfl <;> rfl

theorem info_op : (Try.prog.info? 55).map (fun i => (i.zero, i.size, i.bytes)) = some (some (.agg #[.int .i64 0, .int .i64 0, .float .f64 0]), 3, 24) := by kernel_rfl

/-- The cells of steps in a row. -/
def flat (l : List Stp) : List Value := l.flatMap fun o => [.int .i64 o.K, .int .i64 o.N, .float .f64 o.X]
theorem flat_len (l : List Stp) : (flat l).length = l.length * 3 := by
  unfold flat
  induction l with
  | nil => rfl
  | cons o l ih => rw [List.flatMap_cons, List.length_append, ih]; simp; omega
theorem flat_append (l m : List Stp) : flat (l ++ m) = flat l ++ flat m := by unfold flat; exact List.flatMap_append
theorem flat_get (l : List Stp) : ∀ (i : Nat) (h : i < l.length), (flat l)[i * 3]? = some (.int .i64 l[i].K) ∧ (flat l)[i * 3 + 1]? = some (.int .i64 l[i].N) ∧ (flat l)[i * 3 + 2]? = some (.float .f64 l[i].X) := by
  induction l with
  | nil => intro i h; simp at h
  | cons o l ih =>
    intro i h
    have e : flat (o :: l) = .int .i64 o.K :: .int .i64 o.N :: .float .f64 o.X :: flat l := rfl
    rw [e]
    cases i with
    | zero => simp
    | succ i =>
      have := ih i (by simpa using h)
      rw [show (i + 1) * 3 = i * 3 + 1 + 1 + 1 by omega]
      simpa using this
theorem flat_mem {l : List Stp} {u : Value} (h : u ∈ flat l) : u.oneCell' = true := by
  unfold flat at h
  obtain ⟨o, _, ho⟩ := List.mem_flatMap.1 h
  simp at ho
  rcases ho with rfl | rfl | rfl <;> rfl

/-- Block g holds the steps m, and nothing of it is frozen. -/
def Mv (w : World) (g : Nat) (m : List Stp) : Prop :=
  ∀ i, (h : i < m.length) → (w.cell? ⟨g, i * 3, none⟩ = some (.int .i64 m[i].K) ∧ w.cell? ⟨g, i * 3 + 1, none⟩ = some (.int .i64 m[i].N) ∧ w.cell? ⟨g, i * 3 + 2, none⟩ = some (.float .f64 m[i].X)) ∧
    (w.frozen? ⟨g, i * 3, none⟩ = false ∧ w.frozen? ⟨g, i * 3 + 1, none⟩ = false ∧ w.frozen? ⟨g, i * 3 + 2, none⟩ = false)
theorem Mv.below {w w' : World} {g B : Nat} {m : List Stp} (h : Mv w g m) (hb : Below B w w') (hl : g < B) : Mv w' g m := by
  intro i hi
  obtain ⟨⟨a, b, c⟩, d, e, f⟩ := h i hi
  exact ⟨⟨by rw [hb.cell (p := ⟨g, i * 3, none⟩) hl]; exact a, by rw [hb.cell (p := ⟨g, i * 3 + 1, none⟩) hl]; exact b, by rw [hb.cell (p := ⟨g, i * 3 + 2, none⟩) hl]; exact c⟩,
    by rw [hb.frozen (p := ⟨g, i * 3, none⟩) hl]; exact d, by rw [hb.frozen (p := ⟨g, i * 3 + 1, none⟩) hl]; exact e, by rw [hb.frozen (p := ⟨g, i * 3 + 2, none⟩) hl]; exact f⟩

theorem own_mv {w : World} {base e n cap g : Nat} {m : List Stp} (h : w.ownsRow base e 3 (.slice (some ⟨g, 0, none⟩) n cap) n (flat m)) : Mv w g m := by
  obtain ⟨h1, h2⟩ := h
  rw [flat_len] at h1
  have hn : n = m.length := by omega
  subst hn
  rcases h2 with ⟨h, _⟩ | ⟨g', cap', cur, e1, hb, hg, hnc, hcm, hcs, htake⟩
  · cases h
  · simp only [Value.slice.injEq, Option.some.injEq, Addr.mk.injEq] at e1
    obtain ⟨⟨rfl, _⟩, _, rfl⟩ := e1
    have key : ∀ j u, j < m.length * 3 → (flat m)[j]? = some u → w.cell? ⟨g, j, none⟩ = some u := by
      intro j u hj hu
      rw [cell_of_row w g j cur e (0, 0) hg, ← Array.getElem?_toList]
      rw [← htake, List.getElem?_take, if_pos hj] at hu
      exact hu
    intro i hi
    obtain ⟨a, b, c⟩ := flat_get m i hi
    refine ⟨⟨key _ _ (by omega) a, key _ _ (by omega) b, key _ _ (by omega) c⟩, ?_, ?_, ?_⟩
    all_goals simp [World.frozen?, hg]

theorem mv_ov {w : World} {g cap n : Nat} {m : List Stp} (h : Mv w g m) (hn : n ≤ m.length) (hc : m.length ≤ cap) (hm : cap ≤ maxLen) (hok : ∀ o ∈ m, o.ok) : Ov w (.slice (some ⟨g, 0, none⟩) n cap) (m.take n) := by
  have hl : (m.take n).length = n := by simp; omega
  refine ⟨⟨_, cap, by rw [hl], by omega, hm, by simp, fun i hi => ?_⟩, fun o ho => hok o (List.mem_of_mem_take ho)⟩
  rw [hl] at hi
  obtain ⟨⟨a, b, c⟩, _⟩ := h i (by omega)
  refine ⟨g, 0, rfl, ?_, ?_, ?_⟩
  · simpa using a
  · simpa using b
  · simpa using c

theorem wpList_append_rv {P : Program} {w : World} {ops : Array Oper} {rest : List Oper} {o : Oper} {a : Act} {Q : Exit → Act → World → Prop} (hgd : o.guard = none) (s x : Operand) (t : TypeId)
    (ho : o.op = .call { callee := .builtin .append, args := #[s, x], argTypes := #[t, t] })
    (base : Nat) (e : TypeId) (ht : P.underlying t = some (.slice e)) (hinf : (P.info? e).map (fun i => (i.zero, i.size, i.bytes)) = some (some (.agg #[.int .u64 0, .float .f64 0]), 2, 16))
    (v : Value) (n : Nat) (m : List Rcd) (hs : a.eval s = v) (hown : w.ownsRow base e 2 v n (flatR m))
    (y : Value) (l : List Rcd) (hx : a.eval x = y) (hy : Rv w y l) (h63 : n + l.length ≤ maxLen) (hb : (n + l.length) * 16 ≤ 140737488355328) (hbase : base ≤ w.heap.size)
    (h : ∀ v' w', w'.ownsRow base e 2 v' (n + l.length) (flatR (m ++ l)) → w.grownBy w' v.ownBlock → wpList P ops Q rest (a.put o.dst v') w') : wpList P ops Q (o :: rest) a w := by
  obtain ⟨i0, hi, hz0, hz1, hz2⟩ := info_partsV hinf
  obtain ⟨⟨ao, c, rfl, hc1, hc2, hnone, hcells⟩, _⟩ := hy
  cases ao with
  | none =>
    obtain rfl := hnone rfl
    have hl0 : l.length = 0 := by omega
    have hl : l = [] := List.eq_nil_of_length_eq_zero hl0
    subst hl
    refine wpList_append_own_none hgd s x t ho base e i0 2 ht hi _ n (flatR m) hs hown hx ?_
    exact h v w (by simpa using hown) ⟨rfl, rfl, rfl, Nat.le_refl _, fun _ _ _ => rfl⟩
  | some p =>
    refine wpList_append_own w hgd s x t ho base e i0 (.agg #[.int .u64 0, .float .f64 0]) 2 16 ht hi hz0 hz1 hz2 rfl (by decide) v n (flatR m) hs hown p l.length c (flatR l) hx (flatR_len l) ?_ (fun u hu => flatR_mem hu) h63 hb hbase (fun v' w' h1 h2 _ => h v' w' (by rw [flatR_append]; exact h1) h2)
    intro j u hj
    have hjl : j < l.length * 2 := by
      rcases Nat.lt_or_ge j (l.length * 2) with h | h
      · exact h
      · rw [List.getElem?_eq_none (by rw [flatR_len]; exact h)] at hj; cases hj
    obtain ⟨b, off, e1, g0, g1⟩ := hcells (j / 2) (by omega)
    cases e1
    obtain ⟨f0, f1⟩ := flatR_get l (j / 2) (by omega)
    rw [WideShapes.add_plain]
    have hmod : j % 2 = 0 ∨ j % 2 = 1 := by omega
    rcases hmod with hm | hm
    · have e2 : j / 2 * 2 = j := by omega
      rw [e2] at g0
      rw [e2] at f0
      rw [f0] at hj; rw [g0, hj]
    · have e2 : j / 2 * 2 + 1 = j := by omega
      rw [Nat.add_assoc, e2] at g1
      rw [e2] at f1
      rw [f1] at hj; rw [g1, hj]

theorem wpList_append_sp {P : Program} {w : World} {ops : Array Oper} {rest : List Oper} {o : Oper} {a : Act} {Q : Exit → Act → World → Prop} (hgd : o.guard = none) (s x : Operand) (t : TypeId)
    (ho : o.op = .call { callee := .builtin .append, args := #[s, x], argTypes := #[t, t] })
    (base : Nat) (e : TypeId) (ht : P.underlying t = some (.slice e)) (hinf : (P.info? e).map (fun i => (i.zero, i.size, i.bytes)) = some (some (.agg #[.int .i64 0, .int .i64 0, .float .f64 0]), 3, 24))
    (v : Value) (n : Nat) (m : List Stp) (hs : a.eval s = v) (hown : w.ownsRow base e 3 v n (flat m))
    (y : Value) (l : List Stp) (hx : a.eval x = y) (hy : Ov w y l) (h63 : n + l.length ≤ maxLen) (hb : (n + l.length) * 24 ≤ 140737488355328) (hbase : base ≤ w.heap.size)
    (h : ∀ v' w', w'.ownsRow base e 3 v' (n + l.length) (flat (m ++ l)) → w.grownBy w' v.ownBlock → wpList P ops Q rest (a.put o.dst v') w') : wpList P ops Q (o :: rest) a w := by
  obtain ⟨i0, hi, hz0, hz1, hz2⟩ := info_partsV hinf
  obtain ⟨⟨ao, c, rfl, hc1, hc2, hnone, hcells⟩, _⟩ := hy
  cases ao with
  | none =>
    obtain rfl := hnone rfl
    have hl0 : l.length = 0 := by omega
    have hl : l = [] := List.eq_nil_of_length_eq_zero hl0
    subst hl
    refine wpList_append_own_none hgd s x t ho base e i0 3 ht hi _ n (flat m) hs hown hx ?_
    exact h v w (by simpa using hown) ⟨rfl, rfl, rfl, Nat.le_refl _, fun _ _ _ => rfl⟩
  | some p =>
    refine wpList_append_own w hgd s x t ho base e i0 (.agg #[.int .i64 0, .int .i64 0, .float .f64 0]) 3 24 ht hi hz0 hz1 hz2 rfl (by decide) v n (flat m) hs hown p l.length c (flat l) hx (flat_len l) ?_ (fun u hu => flat_mem hu) h63 hb hbase (fun v' w' h1 h2 _ => h v' w' (by rw [flat_append]; exact h1) h2)
    intro j u hj
    have hjl : j < l.length * 3 := by
      rcases Nat.lt_or_ge j (l.length * 3) with h | h
      · exact h
      · rw [List.getElem?_eq_none (by rw [flat_len]; exact h)] at hj; cases hj
    obtain ⟨b, off, e1, g0, g1, g2⟩ := hcells (j / 3) (by omega)
    cases e1
    obtain ⟨f0, f1, f2⟩ := flat_get l (j / 3) (by omega)
    rw [WideShapes.add_plain]
    have hmod : j % 3 = 0 ∨ j % 3 = 1 ∨ j % 3 = 2 := by omega
    rcases hmod with hm | hm | hm
    · have e2 : j / 3 * 3 = j := by omega
      rw [e2] at g0
      rw [e2] at f0
      rw [f0] at hj; rw [g0, hj]
    · have e2 : j / 3 * 3 + 1 = j := by omega
      rw [Nat.add_assoc, e2] at g1
      rw [e2] at f1
      rw [f1] at hj; rw [g1, hj]
    · have e2 : j / 3 * 3 + 2 = j := by omega
      rw [Nat.add_assoc, e2] at g2
      rw [e2] at f2
      rw [f2] at hj; rw [g2, hj]

theorem own_ovS {w : World} {base e n : Nat} {v : Value} {l : List Stp} (h : w.ownsRow base e 3 v n (flat l)) (hok : ∀ o ∈ l, o.ok) : Ov w v l := by
  have hz := h
  obtain ⟨h1, h2⟩ := h
  rw [flat_len] at h1
  have hn : n = l.length := by omega
  subst hn
  rcases h2 with ⟨rfl, h0⟩ | ⟨g, cap, cur, rfl, hb, hg, hnc, hcm, hcs, htake⟩
  · have : l = [] := List.eq_nil_of_length_eq_zero h0
    subst this
    exact ⟨⟨none, 0, rfl, by simp, by simp [maxLen], by simp, fun i hi => by simp at hi⟩, hok⟩
  · have := mv_ov (own_mv hz) (Nat.le_refl _) hnc hcm hok
    simpa using this

theorem below_grown {w w' : World} {r : Option Nat} (h : w.grownBy w' r) (hr : ∀ k, r = some k → w.heap.size ≤ k) : Below w.heap.size w w' :=
  ⟨h.os, h.tape, h.output, h.size, fun k hk => h.block k hk (fun e => by have := hr k e.symm; omega)⟩

theorem Rv.below {w w' : World} {v : Value} {l : List Rcd} (h : Rv w v l) (hb : Below w.heap.size w w') : Rv w' v l := by
  obtain ⟨⟨ao, cap, e, h1, h2, h3, h4⟩, h5⟩ := h
  exact ⟨⟨ao, cap, e, h1, h2, h3, h4.below hb⟩, h5⟩

set_option maxRecDepth 100000 in
theorem cloneO_walk {v : Value} {l : List Stp} {w : World} (ho : Ov w v l) (hl : l.length ≤ 1048576) :
    Calls Try.prog 28 #[v] w fun e w' => ∃ v', e = .returned v' ∧ w'.ownsRow w.heap.size 55 3 v' l.length (flat l) ∧ Below w.heap.size w w' := by
  have HO : Hid (Ov w v l) := ho
  obtain ⟨⟨ao, cap, rfl, h1, h2, h3, _⟩, _⟩ := ho
  have HL : Hid (l.length ≤ 1048576) := hl
  have H3 : Hid (ao = none → cap = 0) := h3
  have H1 : Hid (l.length ≤ cap) := h1
  have q : ∀ (w : World) (a : Option Addr) (n c : Nat), (binOp .eql 56 (.slice a n c) (.slice none 0 0)).run Try.prog w = .ok (.bool a.isNone) w := fun w a n c => Lib.run_eql_slice_nil w 56 55 a n c 0 0 Try.underlying56
  clear hl h1 h2 h3
  cases ao with
  | none =>
    have hc := H3.out rfl
    subst hc
    have hl0 : l.length = 0 := by have := H1.out; omega
    have hl : l = [] := List.eq_nil_of_length_eq_zero hl0
    subst hl
    rw [List.length_nil]
    go_enter Try.func28, Try.ntmps28
    go_wp2_with fail
    go_ret
    exact ⟨_, rfl, World.ownsRow_nil _ _ _ _, below_same _⟩
  | some p =>
    go_enter Try.func28, Try.ntmps28
    go_wp2_with (at_builtin; refine wpList_append_sp (by rfl) _ _ 56 (by rfl) w.heap.size 55 Try.underlying56 info_op _ 0 [] (by rfl) (World.ownsRow_made w #[] 0 (Nat.le_refl _) (by simp [maxLen]) (by simp)) _ l (by rfl) (HO.out.below (below_alloc _ _)) (by have := HL.out; simp [maxLen]; omega) (by have := HL.out; omega) (by simp) ?_; intro v' w2 hown hgrow; go_frame)
    go_ret
    refine ⟨_, rfl, by simpa using hown, ?_⟩
    exact (below_alloc w (Obj.cells #[] 55)).grown hgrow (by simp) (by simp [Value.ownBlock])

set_option maxRecDepth 100000 in
theorem cloneR_walk {v : Value} {l : List Rcd} {w : World} (ho : Rv w v l) (hl : l.length ≤ 1048576) :
    Calls Try.prog 45 #[v] w fun e w' => ∃ v', e = .returned v' ∧ w'.ownsRow w.heap.size 40 2 v' l.length (flatR l) ∧ Below w.heap.size w w' := by
  have HO : Hid (Rv w v l) := ho
  obtain ⟨⟨ao, cap, rfl, h1, h2, h3, _⟩, _⟩ := ho
  have HL : Hid (l.length ≤ 1048576) := hl
  have H3 : Hid (ao = none → cap = 0) := h3
  have H1 : Hid (l.length ≤ cap) := h1
  have q : ∀ (w : World) (a : Option Addr) (n c : Nat), (binOp .eql 22 (.slice a n c) (.slice none 0 0)).run Try.prog w = .ok (.bool a.isNone) w := fun w a n c => Lib.run_eql_slice_nil w 22 40 a n c 0 0 Try.underlying22
  clear hl h1 h2 h3
  cases ao with
  | none =>
    have hc := H3.out rfl
    subst hc
    have hl0 : l.length = 0 := by have := H1.out; omega
    have hl : l = [] := List.eq_nil_of_length_eq_zero hl0
    subst hl
    rw [List.length_nil]
    go_enter Try.func45, Try.ntmps45
    go_wp2_with fail
    go_ret
    exact ⟨_, rfl, World.ownsRow_nil _ _ _ _, below_same _⟩
  | some p =>
    go_enter Try.func45, Try.ntmps45
    go_wp2_with (at_builtin; refine wpList_append_rv (by rfl) _ _ 22 (by rfl) w.heap.size 40 Try.underlying22 info_rec _ 0 [] (by rfl) (World.ownsRow_made w #[] 0 (Nat.le_refl _) (by simp [maxLen]) (by simp)) _ l (by rfl) (HO.out.below (below_alloc _ _)) (by have := HL.out; simp [maxLen]; omega) (by have := HL.out; omega) (by simp) ?_; intro v' w2 hown hgrow; go_frame)
    go_ret
    refine ⟨_, rfl, by simpa using hown, ?_⟩
    exact (below_alloc w (Obj.cells #[] 40)).grown hgrow (by simp) (by simp [Value.ownBlock])

end Go.Proofs.Ytjkhegekojflhab
