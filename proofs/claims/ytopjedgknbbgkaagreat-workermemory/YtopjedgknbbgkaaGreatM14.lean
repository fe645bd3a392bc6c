/- Produce. -/
import Derived.Test.YtopjedgknbbgkaaGreatM13
import Derived.Test.YtopjedgknbbgkaaGreatM06
import Derived.Laws.AppendOwnNone
import Derived.Maps.AppendAt
import Derived.Deep.RegionLaw
import Derived.Deep.RegionHeld3
import Derived.OwnWalk
import Derived.Lib.SliceRun
namespace Go.Proofs.YtopjedgknbbgkaaGreat

open Ieee Go.RowKit



theorem info_partsV {P : Program} {e : TypeId} {z : Value} {s b : Nat} (h : (P.info? e).map (fun i => (i.zero, i.size, i.bytes)) = some (some z, s, b)) : ∃ i, P.info? e = some i ∧ i.zero = some z ∧ i.size = s ∧ i.bytes = b := by
  obtain ⟨i, h1, h2⟩ := Option.map_eq_some_iff.1 h
  simp only [Prod.mk.injEq] at h2
  exact ⟨i, h1, h2.1, h2.2.1, h2.2.2⟩


theorem info_rec : (Tryz.prog.info? 53).map (fun i => (i.zero, i.size, i.bytes)) = some (some (.agg #[.int .u64 0, .float .f64 0]), 2, 16) := by kernel_rfl


def flatR (l : List Rcd) : List Value := l.flatMap fun r => [.int .u64 r.k, .float .f64 r.x]
theorem flatR_len (l : List Rcd) : (flatR l).length = l.length * 2 := by
  unfold flatR
  induction l with
  | nil => rfl
  | cons o l ih => rw [List.flatMap_cons, List.length_append, ih]; simp; omega
theorem flatR_snoc (l : List Rcd) (r : Rcd) : flatR (l ++ [r]) = flatR l ++ [.int .u64 r.k, .float .f64 r.x] := by unfold flatR; rw [List.flatMap_append]; rfl
theorem flatR_get (l : List Rcd) : ∀ (i : Nat) (h : i < l.length), (flatR l)[i * 2]? = some (.int .u64 l[i].k) ∧ (flatR l)[i * 2 + 1]? = some (.float .f64 l[i].x) := by
  induction l with
  | nil => intro i h; simp at h
  | cons o l ih =>
    intro i h
    have e : flatR (o :: l) = .int .u64 o.k :: .float .f64 o.x :: flatR l := rfl
    rw [e]
    cases i with
    | zero => simp
    | succ i =>
      have := ih i (by simpa using h)
      rw [show (i + 1) * 2 = i * 2 + 1 + 1 by omega]
      simpa using this


/-- What a row of the call's own holds. -/
theorem own_rv {w : World} {base e n : Nat} {v : Value} {l : List Rcd} (h : w.ownsRow base e 2 v n (flatR l)) (hok : ∀ r ∈ l, r.ok) : Rv w v l := by
  obtain ⟨h1, h2⟩ := h
  rw [flatR_len] at h1
  have hn : n = l.length := by omega
  subst hn
  refine ⟨?_, hok⟩
  rcases h2 with ⟨rfl, h0⟩ | ⟨g, cap, cur, rfl, hb, hg, hnc, hcm, hcs, htake⟩
  · have : l = [] := List.eq_nil_of_length_eq_zero h0
    subst this
    exact ⟨none, 0, rfl, by simp, by simp [maxLen], by simp, fun i hi => by simp at hi⟩
  · have key : ∀ j u, j < l.length * 2 → (flatR l)[j]? = some u → w.cell? ⟨g, j, none⟩ = some u := by
      intro j u hj hu
      rw [cell_of_row w g j cur e (0, 0) hg, ← Array.getElem?_toList]
      rw [← htake, List.getElem?_take, if_pos hj] at hu
      exact hu
    refine ⟨_, cap, rfl, hnc, hcm, by simp, fun i hi => ?_⟩
    obtain ⟨a, b⟩ := flatR_get l i hi
    exact ⟨g, 0, rfl, by simpa using key _ _ (by omega) a, by simpa using key _ _ (by omega) b⟩


theorem one_cells {w : World} {g : Nat} {r : Rcd} (h0 : w.cell? ⟨g, 0, none⟩ = some (.int .u64 r.k)) (h1 : w.cell? ⟨g, 1, none⟩ = some (.float .f64 r.x)) :
    ∀ (j : Nat) (u : Value), ([.int .u64 r.k, .float .f64 r.x] : List Value)[j]? = some u → w.cell? ((⟨g, 0, none⟩ : Addr).add j) = some u := by
  intro j u hj
  have : j = 0 ∨ j = 1 ∨ 2 ≤ j := by omega
  rcases this with rfl | rfl | h
  · simp at hj; subst hj; simpa [WideShapes.add_plain] using h0
  · simp at hj; subst hj; simpa [WideShapes.add_plain] using h1
  · rw [List.getElem?_eq_none (by simpa using h)] at hj; cases hj


theorem flatR_append (l m : List Rcd) : flatR (l ++ m) = flatR l ++ flatR m := by unfold flatR; exact List.flatMap_append
theorem flatR_mem {l : List Rcd} {u : Value} (h : u ∈ flatR l) : u.oneCell' = true := by
  unfold flatR at h
  obtain ⟨o, _, ho⟩ := List.mem_flatMap.1 h
  simp at ho
  rcases ho with rfl | rfl <;> rfl


theorem info_op : (Tryz.prog.info? 72).map (fun i => (i.zero, i.size, i.bytes)) = some (some (.agg #[.int .i64 0, .int .i64 0, .float .f64 0]), 3, 24) := by kernel_rfl


/-- The cells of steps in a row. -/
def flat (l : List Stp) : List Value := l.flatMap fun o => [.int .i64 o.K, .int .i64 o.N, .float .f64 o.X]
theorem flat_len (l : List Stp) : (flat l).length = l.length * 3 := by
  unfold flat
  induction l with
  | nil => rfl
  | cons o l ih => rw [List.flatMap_cons, List.length_append, ih]; simp; omega
theorem flat_append (l m : List Stp) : flat (l ++ m) = flat l ++ flat m := by unfold flat; exact List.flatMap_append
theorem flat_get (l : List Stp) : ∀ (i : Nat) (h : i < l.length), (flat l)[i * 3]? = some (.int .i64 l[i].K) ∧ (flat l)[i * 3 + 1]? = some (.int .i64 l[i].N) ∧ (flat l)[i * 3 + 2]? = some (.float .f64 l[i].X) := by
  induction l with
  | nil => intro i h; simp at h
  | cons o l ih =>
    intro i h
    have e : flat (o :: l) = .int .i64 o.K :: .int .i64 o.N :: .float .f64 o.X :: flat l := rfl
    rw [e]
    cases i with
    | zero => simp
    | succ i =>
      have := ih i (by simpa using h)
      rw [show (i + 1) * 3 = i * 3 + 1 + 1 + 1 by omega]
      simpa using this
theorem flat_mem {l : List Stp} {u : Value} (h : u ∈ flat l) : u.oneCell' = true := by
  unfold flat at h
  obtain ⟨o, _, ho⟩ := List.mem_flatMap.1 h
  simp at ho
  rcases ho with rfl | rfl | rfl <;> rfl


/-- Block g holds the steps m, and nothing of it is frozen. -/
def Mv (w : World) (g : Nat) (m : List Stp) : Prop :=
  ∀ i, (h : i < m.length) → (w.cell? ⟨g, i * 3, none⟩ = some (.int .i64 m[i].K) ∧ w.cell? ⟨g, i * 3 + 1, none⟩ = some (.int .i64 m[i].N) ∧ w.cell? ⟨g, i * 3 + 2, none⟩ = some (.float .f64 m[i].X)) ∧
    (w.frozen? ⟨g, i * 3, none⟩ = false ∧ w.frozen? ⟨g, i * 3 + 1, none⟩ = false ∧ w.frozen? ⟨g, i * 3 + 2, none⟩ = false)
theorem Mv.below {w w' : World} {g B : Nat} {m : List Stp} (h : Mv w g m) (hb : Below B w w') (hl : g < B) : Mv w' g m := by
  intro i hi
  obtain ⟨⟨a, b, c⟩, d, e, f⟩ := h i hi
  exact ⟨⟨by rw [hb.cell (p := ⟨g, i * 3, none⟩) hl]; exact a, by rw [hb.cell (p := ⟨g, i * 3 + 1, none⟩) hl]; exact b, by rw [hb.cell (p := ⟨g, i * 3 + 2, none⟩) hl]; exact c⟩,
    by rw [hb.frozen (p := ⟨g, i * 3, none⟩) hl]; exact d, by rw [hb.frozen (p := ⟨g, i * 3 + 1, none⟩) hl]; exact e, by rw [hb.frozen (p := ⟨g, i * 3 + 2, none⟩) hl]; exact f⟩


theorem own_mv {w : World} {base e n cap g : Nat} {m : List Stp} (h : w.ownsRow base e 3 (.slice (some ⟨g, 0, none⟩) n cap) n (flat m)) : Mv w g m := by
  obtain ⟨h1, h2⟩ := h
  rw [flat_len] at h1
  have hn : n = m.length := by omega
  subst hn
  rcases h2 with ⟨h, _⟩ | ⟨g', cap', cur, e1, hb, hg, hnc, hcm, hcs, htake⟩
  · cases h
  · simp only [Value.slice.injEq, Option.some.injEq, Addr.mk.injEq] at e1
    obtain ⟨⟨rfl, _⟩, _, rfl⟩ := e1
    have key : ∀ j u, j < m.length * 3 → (flat m)[j]? = some u → w.cell? ⟨g, j, none⟩ = some u := by
      intro j u hj hu
      rw [cell_of_row w g j cur e (0, 0) hg, ← Array.getElem?_toList]
      rw [← htake, List.getElem?_take, if_pos hj] at hu
      exact hu
    intro i hi
    obtain ⟨a, b, c⟩ := flat_get m i hi
    refine ⟨⟨key _ _ (by omega) a, key _ _ (by omega) b, key _ _ (by omega) c⟩, ?_, ?_, ?_⟩
    all_goals simp [World.frozen?, hg]


theorem mv_ov {w : World} {g cap n : Nat} {m : List Stp} (h : Mv w g m) (hn : n ≤ m.length) (hc : m.length ≤ cap) (hm : cap ≤ maxLen) (hok : ∀ o ∈ m, o.ok) : Ov w (.slice (some ⟨g, 0, none⟩) n cap) (m.take n) := by
  have hl : (m.take n).length = n := by simp; omega
  refine ⟨⟨_, cap, by rw [hl], by omega, hm, by simp, fun i hi => ?_⟩, fun o ho => hok o (List.mem_of_mem_take ho)⟩
  rw [hl] at hi
  obtain ⟨⟨a, b, c⟩, _⟩ := h i (by omega)
  refine ⟨g, 0, rfl, ?_, ?_, ?_⟩
  · simpa using a
  · simpa using b
  · simpa using c


theorem wpList_append_rv {P : Program} {w : World} {ops : Array Oper} {rest : List Oper} {o : Oper} {a : Act} {Q : Exit → Act → World → Prop} (hgd : o.guard = none) (s x : Operand) (t : TypeId)
    (ho : o.op = .call { callee := .builtin .append, args := #[s, x], argTypes := #[t, t] })
    (base : Nat) (e : TypeId) (ht : P.underlying t = some (.slice e)) (hinf : (P.info? e).map (fun i => (i.zero, i.size, i.bytes)) = some (some (.agg #[.int .u64 0, .float .f64 0]), 2, 16))
    (v : Value) (n : Nat) (m : List Rcd) (hs : a.eval s = v) (hown : w.ownsRow base e 2 v n (flatR m))
    (y : Value) (l : List Rcd) (hx : a.eval x = y) (hy : Rv w y l) (h63 : n + l.length ≤ maxLen) (hb : (n + l.length) * 16 ≤ 140737488355328) (hbase : base ≤ w.heap.size)
    (h : ∀ v' w', w'.ownsRow base e 2 v' (n + l.length) (flatR (m ++ l)) → w.grownBy w' v.ownBlock → wpList P ops Q rest (a.put o.dst v') w') : wpList P ops Q (o :: rest) a w := by
  obtain ⟨i0, hi, hz0, hz1, hz2⟩ := info_partsV hinf
  obtain ⟨⟨ao, c, rfl, hc1, hc2, hnone, hcells⟩, _⟩ := hy
  cases ao with
  | none =>
    obtain rfl := hnone rfl
    have hl0 : l.length = 0 := by omega
    have hl : l = [] := List.eq_nil_of_length_eq_zero hl0
    subst hl
    refine wpList_append_own_none hgd s x t ho base e i0 2 ht hi _ n (flatR m) hs hown hx ?_
    exact h v w (by simpa using hown) ⟨rfl, rfl, rfl, Nat.le_refl _, fun _ _ _ => rfl⟩
  | some p =>
    refine wpList_append_own w hgd s x t ho base e i0 (.agg #[.int .u64 0, .float .f64 0]) 2 16 ht hi hz0 hz1 hz2 rfl (by decide) v n (flatR m) hs hown p l.length c (flatR l) hx (flatR_len l) ?_ (fun u hu => flatR_mem hu) h63 hb hbase (fun v' w' h1 h2 _ => h v' w' (by rw [flatR_append]; exact h1) h2)
    intro j u hj
    have hjl : j < l.length * 2 := by
      rcases Nat.lt_or_ge j (l.length * 2) with h | h
      · exact h
      · rw [List.getElem?_eq_none (by rw [flatR_len]; exact h)] at hj; cases hj
    obtain ⟨b, off, e1, g0, g1⟩ := hcells (j / 2) (by omega)
    cases e1
    obtain ⟨f0, f1⟩ := flatR_get l (j / 2) (by omega)
    rw [WideShapes.add_plain]
    have hmod : j % 2 = 0 ∨ j % 2 = 1 := by omega
    rcases hmod with hm | hm
    · have e2 : j / 2 * 2 = j := by omega
      rw [e2] at g0
      rw [e2] at f0
      rw [f0] at hj; rw [g0, hj]
    · have e2 : j / 2 * 2 + 1 = j := by omega
      rw [Nat.add_assoc, e2] at g1
      rw [e2] at f1
      rw [f1] at hj; rw [g1, hj]


theorem wpList_append_sp {P : Program} {w : World} {ops : Array Oper} {rest : List Oper} {o : Oper} {a : Act} {Q : Exit → Act → World → Prop} (hgd : o.guard = none) (s x : Operand) (t : TypeId)
    (ho : o.op = .call { callee := .builtin .append, args := #[s, x], argTypes := #[t, t] })
    (base : Nat) (e : TypeId) (ht : P.underlying t = some (.slice e)) (hinf : (P.info? e).map (fun i => (i.zero, i.size, i.bytes)) = some (some (.agg #[.int .i64 0, .int .i64 0, .float .f64 0]), 3, 24))
    (v : Value) (n : Nat) (m : List Stp) (hs : a.eval s = v) (hown : w.ownsRow base e 3 v n (flat m))
    (y : Value) (l : List Stp) (hx : a.eval x = y) (hy : Ov w y l) (h63 : n + l.length ≤ maxLen) (hb : (n + l.length) * 24 ≤ 140737488355328) (hbase : base ≤ w.heap.size)
    (h : ∀ v' w', w'.ownsRow base e 3 v' (n + l.length) (flat (m ++ l)) → w.grownBy w' v.ownBlock → wpList P ops Q rest (a.put o.dst v') w') : wpList P ops Q (o :: rest) a w := by
  obtain ⟨i0, hi, hz0, hz1, hz2⟩ := info_partsV hinf
  obtain ⟨⟨ao, c, rfl, hc1, hc2, hnone, hcells⟩, _⟩ := hy
  cases ao with
  | none =>
    obtain rfl := hnone rfl
    have hl0 : l.length = 0 := by omega
    have hl : l = [] := List.eq_nil_of_length_eq_zero hl0
    subst hl
    refine wpList_append_own_none hgd s x t ho base e i0 3 ht hi _ n (flat m) hs hown hx ?_
    exact h v w (by simpa using hown) ⟨rfl, rfl, rfl, Nat.le_refl _, fun _ _ _ => rfl⟩
  | some p =>
    refine wpList_append_own w hgd s x t ho base e i0 (.agg #[.int .i64 0, .int .i64 0, .float .f64 0]) 3 24 ht hi hz0 hz1 hz2 rfl (by decide) v n (flat m) hs hown p l.length c (flat l) hx (flat_len l) ?_ (fun u hu => flat_mem hu) h63 hb hbase (fun v' w' h1 h2 _ => h v' w' (by rw [flat_append]; exact h1) h2)
    intro j u hj
    have hjl : j < l.length * 3 := by
      rcases Nat.lt_or_ge j (l.length * 3) with h | h
      · exact h
      · rw [List.getElem?_eq_none (by rw [flat_len]; exact h)] at hj; cases hj
    obtain ⟨b, off, e1, g0, g1, g2⟩ := hcells (j / 3) (by omega)
    cases e1
    obtain ⟨f0, f1, f2⟩ := flat_get l (j / 3) (by omega)
    rw [WideShapes.add_plain]
    have hmod : j % 3 = 0 ∨ j % 3 = 1 ∨ j % 3 = 2 := by omega
    rcases hmod with hm | hm | hm
    · have e2 : j / 3 * 3 = j := by omega
      rw [e2] at g0
      rw [e2] at f0
      rw [f0] at hj; rw [g0, hj]
    · have e2 : j / 3 * 3 + 1 = j := by omega
      rw [Nat.add_assoc, e2] at g1
      rw [e2] at f1
      rw [f1] at hj; rw [g1, hj]
    · have e2 : j / 3 * 3 + 2 = j := by omega
      rw [Nat.add_assoc, e2] at g2
      rw [e2] at f2
      rw [f2] at hj; rw [g2, hj]


theorem own_ovS {w : World} {base e n : Nat} {v : Value} {l : List Stp} (h : w.ownsRow base e 3 v n (flat l)) (hok : ∀ o ∈ l, o.ok) : Ov w v l := by
  have hz := h
  obtain ⟨h1, h2⟩ := h
  rw [flat_len] at h1
  have hn : n = l.length := by omega
  subst hn
  rcases h2 with ⟨rfl, h0⟩ | ⟨g, cap, cur, rfl, hb, hg, hnc, hcm, hcs, htake⟩
  · have : l = [] := List.eq_nil_of_length_eq_zero h0
    subst this
    exact ⟨⟨none, 0, rfl, by simp, by simp [maxLen], by simp, fun i hi => by simp at hi⟩, hok⟩
  · have := mv_ov (own_mv hz) (Nat.le_refl _) hnc hcm hok
    simpa using this


theorem below_grown {w w' : World} {r : Option Nat} (h : w.grownBy w' r) (hr : ∀ k, r = some k → w.heap.size ≤ k) : Below w.heap.size w w' :=
  ⟨h.os, h.tape, h.output, h.size, fun k hk => h.block k hk (fun e => by have := hr k e.symm; omega)⟩


theorem Rv.below {w w' : World} {v : Value} {l : List Rcd} (h : Rv w v l) (hb : Below w.heap.size w w') : Rv w' v l := by
  obtain ⟨⟨ao, cap, e, h1, h2, h3, h4⟩, h5⟩ := h
  exact ⟨⟨ao, cap, e, h1, h2, h3, h4.below hb⟩, h5⟩


set_option maxRecDepth 100000 in
theorem cloneO_walk {v : Value} {l : List Stp} {w : World} (ho : Ov w v l) (hl : l.length ≤ 1048576) :
    Calls Tryz.prog 60 #[v] w fun e w' => ∃ v', e = .returned v' ∧ w'.ownsRow w.heap.size 72 3 v' l.length (flat l) ∧ Below w.heap.size w w' := by
  have HO : Hid (Ov w v l) := ho
  obtain ⟨⟨ao, cap, rfl, h1, h2, h3, _⟩, _⟩ := ho
  have HL : Hid (l.length ≤ 1048576) := hl
  have H3 : Hid (ao = none → cap = 0) := h3
  have H1 : Hid (l.length ≤ cap) := h1
  have q : ∀ (w : World) (a : Option Addr) (n c : Nat), (binOp .eql 22 (.slice a n c) (.slice none 0 0)).run Tryz.prog w = .ok (.bool a.isNone) w := fun w a n c => Lib.run_eql_slice_nil w 22 72 a n c 0 0 Tryz.underlying22
  clear hl h1 h2 h3
  cases ao with
  | none =>
    have hc := H3.out rfl
    subst hc
    have hl0 : l.length = 0 := by have := H1.out; omega
    have hl : l = [] := List.eq_nil_of_length_eq_zero hl0
    subst hl
    rw [List.length_nil]
    go_enter Tryz.func60, Tryz.ntmps60
    go_wp2_with fail
    go_ret
    exact ⟨_, rfl, World.ownsRow_nil _ _ _ _, below_same _⟩
  | some p =>
    go_enter Tryz.func60, Tryz.ntmps60
    go_wp2_with (at_builtin; refine wpList_append_sp (by rfl) _ _ 22 (by rfl) w.heap.size 72 Tryz.underlying22 info_op _ 0 [] (by rfl) (World.ownsRow_made w #[] 0 (Nat.le_refl _) (by simp [maxLen]) (by simp)) _ l (by rfl) (HO.out.below (below_alloc _ _)) (by have := HL.out; simp [maxLen]; omega) (by have := HL.out; omega) (by simp) ?_; intro v' w2 hown hgrow; go_frame)
    go_ret
    refine ⟨_, rfl, by simpa using hown, ?_⟩
    exact (below_alloc w (Obj.cells #[] 72)).grown hgrow (by simp) (by simp [Value.ownBlock])


set_option maxRecDepth 100000 in
theorem cloneR_walk {v : Value} {l : List Rcd} {w : World} (ho : Rv w v l) (hl : l.length ≤ 1048576) :
    Calls Tryz.prog 90 #[v] w fun e w' => ∃ v', e = .returned v' ∧ w'.ownsRow w.heap.size 53 2 v' l.length (flatR l) ∧ Below w.heap.size w w' := by
  have HO : Hid (Rv w v l) := ho
  obtain ⟨⟨ao, cap, rfl, h1, h2, h3, _⟩, _⟩ := ho
  have HL : Hid (l.length ≤ 1048576) := hl
  have H3 : Hid (ao = none → cap = 0) := h3
  have H1 : Hid (l.length ≤ cap) := h1
  have q : ∀ (w : World) (a : Option Addr) (n c : Nat), (binOp .eql 25 (.slice a n c) (.slice none 0 0)).run Tryz.prog w = .ok (.bool a.isNone) w := fun w a n c => Lib.run_eql_slice_nil w 25 53 a n c 0 0 Tryz.underlying25
  clear hl h1 h2 h3
  cases ao with
  | none =>
    have hc := H3.out rfl
    subst hc
    have hl0 : l.length = 0 := by have := H1.out; omega
    have hl : l = [] := List.eq_nil_of_length_eq_zero hl0
    subst hl
    rw [List.length_nil]
    go_enter Tryz.func90, Tryz.ntmps90
    go_wp2_with fail
    go_ret
    exact ⟨_, rfl, World.ownsRow_nil _ _ _ _, below_same _⟩
  | some p =>
    go_enter Tryz.func90, Tryz.ntmps90
    go_wp2_with (at_builtin; refine wpList_append_rv (by rfl) _ _ 25 (by rfl) w.heap.size 53 Tryz.underlying25 info_rec _ 0 [] (by rfl) (World.ownsRow_made w #[] 0 (Nat.le_refl _) (by simp [maxLen]) (by simp)) _ l (by rfl) (HO.out.below (below_alloc _ _)) (by have := HL.out; simp [maxLen]; omega) (by have := HL.out; omega) (by simp) ?_; intro v' w2 hown hgrow; go_frame)
    go_ret
    refine ⟨_, rfl, by simpa using hown, ?_⟩
    exact (below_alloc w (Obj.cells #[] 53)).grown hgrow (by simp) (by simp [Value.ownBlock])


end Go.Proofs.YtopjedgknbbgkaaGreat

namespace Go.Proofs.YtopjedgknbbgkaaGreat

open Ieee Go.RowKit



structure Sc where
  list : List Stp
  np : Nat
  logs : Nat → List Rcd
  on : Nat → Bool
  keys : List Nat


def upd {α : Type} (f : Nat → α) (p : Nat) (x : α) : Nat → α := fun q => if q = p then x else f q
theorem upd_same {α : Type} (f : Nat → α) (p : Nat) (x : α) : upd f p x p = x := if_pos rfl
theorem upd_other {α : Type} (f : Nat → α) {p q : Nat} (x : α) (h : q ≠ p) : upd f p x q = f q := if_neg h


def keepsS (S : Sc) (r : Rcd) : Prop := (runS S.list r).1 = 1
def keySS (S : Sc) (r : Rcd) : Nat := (runS S.list r).2.k


structure Sc.ok (S : Sc) : Prop where
  np1 : 1 ≤ S.np
  np4 : S.np ≤ 4
  chk : checkB S.list = true
  lok : ∀ o ∈ S.list, o.ok
  len : ∀ p, (S.logs p).length ≤ 256
  rok : ∀ p, ∀ r ∈ S.logs p, r.ok
  kl : S.keys.length ≤ 64
  kr : RiseK S.keys
  kb : ∀ k ∈ S.keys, k < 18446744073709551616
  mem : ∀ k, k ∈ S.keys ↔ ∃ p, p < S.np ∧ ∃ r ∈ S.logs p, (runS S.list r).1 = 1 ∧ (runS S.list r).2.k = k


/-- The source S lies in the blocks sb (itself), gp (its partitions), gm (its keys), lv's (its pipeline), rv's (the records); all of them are of D. -/
structure SM (D : Nat → Prop) (w : World) (sb gp gm : Nat) (lv : Value) (rv : Nat → Value) (S : Sc) : Prop where
  head : w.heap[sb]? = some (.cells #[lv, .slice (some ⟨gp, 0, none⟩) S.np S.np, .map (some gm)] 110 (0, 0))
  part : ∃ cur, w.heap[gp]? = some (.cells cur 104 (0, 0)) ∧ cur.size = S.np * 2 ∧ ∀ p, p < S.np → cur[p * 2]? = some (rv p) ∧ cur[p * 2 + 1]? = some (.bool (S.on p))
  keys : Ks w gm S.keys
  list : Ov w lv S.list
  rows : ∀ p, p < S.np → w.ownsRow 0 53 2 (rv p) (S.logs p).length (flatR (S.logs p))
  a1 : sb ≠ gp
  a2 : sb ≠ gm
  a3 : gp ≠ gm
  a4 : ∀ p x, p < S.np → (rv p).ownBlock = some x → x ≠ sb ∧ x ≠ gp ∧ x ≠ gm ∧ lv.ownBlock ≠ some x
  a5 : ∀ x, lv.ownBlock = some x → x ≠ sb ∧ x ≠ gp ∧ x ≠ gm
  a6 : ∀ p q x, p < S.np → q < S.np → p ≠ q → (rv p).ownBlock = some x → (rv q).ownBlock ≠ some x
  d1 : D sb ∧ D gp ∧ D gm
  d2 : ∀ p x, p < S.np → (rv p).ownBlock = some x → D x
  d3 : ∀ x, lv.ownBlock = some x → D x
  dl : ∀ x, D x → x < w.heap.size


/-- The value v is a source that is S; its memory is of D. -/
def Src (D : Nat → Prop) (w : World) (v : Value) (S : Sc) : Prop := ∃ sb gp gm lv rv, v = .pointer (some ⟨sb, 0, none⟩) ∧ SM D w sb gp gm lv rv S ∧ S.ok


theorem Ov.keep {w w' : World} {v : Value} {l : List Stp} (h : Ov w v l) (hk : ∀ x, v.ownBlock = some x → w'.heap[x]? = w.heap[x]?) : Ov w' v l := by
  obtain ⟨⟨ao, cap, rfl, h1, h2, h3, h4⟩, h5⟩ := h
  refine ⟨⟨ao, cap, rfl, h1, h2, h3, fun i hi => ?_⟩, h5⟩
  obtain ⟨b, off, rfl, c0, c1, c2⟩ := h4 i hi
  have hb := hk b rfl
  exact ⟨b, off, rfl, by rw [World.cell?_of_block (w := w) hb]; exact c0, by rw [World.cell?_of_block (w := w) hb]; exact c1, by rw [World.cell?_of_block (w := w) hb]; exact c2⟩
theorem row_keep {w w' : World} {base e s n : Nat} {v : Value} {xs : List Value} (h : w.ownsRow base e s v n xs) (hk : ∀ x, v.ownBlock = some x → w'.heap[x]? = w.heap[x]?) : w'.ownsRow base e s v n xs := by
  refine ⟨h.1, ?_⟩
  rcases h.2 with h0 | ⟨g, cap, cur, rfl, hb, hg, r⟩
  · exact .inl h0
  · exact .inr ⟨g, cap, cur, rfl, hb, by rw [hk g rfl]; exact hg, r⟩
theorem row_base {w : World} {base b' e s n : Nat} {v : Value} {xs : List Value} (h : w.ownsRow base e s v n xs) (hb : ∀ x, v.ownBlock = some x → b' ≤ x) : w.ownsRow b' e s v n xs := by
  refine ⟨h.1, ?_⟩
  rcases h.2 with h0 | ⟨g, cap, cur, rfl, _, r⟩
  · exact .inl h0
  · exact .inr ⟨g, cap, cur, rfl, hb g rfl, r⟩


theorem SM.keep {D : Nat → Prop} {w w' : World} {sb gp gm : Nat} {lv : Value} {rv : Nat → Value} {S : Sc} (h : SM D w sb gp gm lv rv S) (hk : ∀ x, D x → w'.heap[x]? = w.heap[x]?) (hs : w.heap.size ≤ w'.heap.size) : SM D w' sb gp gm lv rv S := by
  obtain ⟨cur, p1, p2, p3⟩ := h.part
  exact ⟨by rw [hk _ h.d1.1]; exact h.head, ⟨cur, by rw [hk _ h.d1.2.1]; exact p1, p2, p3⟩, h.keys.kept (hk _ h.d1.2.2), h.list.keep (fun x hx => hk x (h.d3 x hx)), fun p hp => row_keep (h.rows p hp) (fun x hx => hk x (h.d2 p x hp hx)),
    h.a1, h.a2, h.a3, h.a4, h.a5, h.a6, h.d1, h.d2, h.d3, fun x hx => Nat.lt_of_lt_of_le (h.dl x hx) hs⟩
theorem Src.keep {D : Nat → Prop} {w w' : World} {v : Value} {S : Sc} (h : Src D w v S) (hk : ∀ x, D x → w'.heap[x]? = w.heap[x]?) (hs : w.heap.size ≤ w'.heap.size) : Src D w' v S := by
  obtain ⟨sb, gp, gm, lv, rv, e, h1, h2⟩ := h
  exact ⟨sb, gp, gm, lv, rv, e, h1.keep hk hs, h2⟩
theorem Src.lt {D : Nat → Prop} {w : World} {v : Value} {S : Sc} (h : Src D w v S) {x : Nat} (hx : D x) : x < w.heap.size := by
  obtain ⟨sb, gp, gm, lv, rv, e, h1, h2⟩ := h
  exact h1.dl x hx
theorem Src.good {D : Nat → Prop} {w : World} {v : Value} {S : Sc} (h : Src D w v S) : S.ok := by
  obtain ⟨sb, gp, gm, lv, rv, e, h1, h2⟩ := h
  exact h2
theorem Src.below {D : Nat → Prop} {w w' : World} {v : Value} {S : Sc} (h : Src D w v S) (hb : Below w.heap.size w w') : Src D w' v S := h.keep (fun x hx => hb.block x (h.lt hx)) hb.size
theorem SM.below {D : Nat → Prop} {w w' : World} {sb gp gm : Nat} {lv : Value} {rv : Nat → Value} {S : Sc} (h : SM D w sb gp gm lv rv S) (hb : Below w.heap.size w w') : SM D w' sb gp gm lv rv S := h.keep (fun x hx => hb.block x (h.dl x hx)) hb.size


/-- The world has turned in blocks of D alone. -/
structure Ch (D : Nat → Prop) (w w' : World) : Prop where
  os : w'.os = w.os
  tape : w'.tape = w.tape
  output : w'.output = w.output
  size : w.heap.size ≤ w'.heap.size
  block : ∀ k, k < w.heap.size → ¬ D k → w'.heap[k]? = w.heap[k]?
theorem Ch.refl (D : Nat → Prop) (w : World) : Ch D w w := ⟨rfl, rfl, rfl, Nat.le_refl _, fun _ _ _ => rfl⟩
theorem Ch.trans {D E : Nat → Prop} {a b c : World} (h : Ch D a b) (k : Ch E b c) (he : ∀ x, E x → D x ∨ a.heap.size ≤ x) : Ch D a c :=
  ⟨k.os.trans h.os, k.tape.trans h.tape, k.output.trans h.output, Nat.le_trans h.size k.size, fun x hx hd => by
    rw [k.block x (Nat.lt_of_lt_of_le hx h.size) (fun e => by rcases he x e with q | q; exact hd q; omega), h.block x hx hd]⟩
theorem Ch.of_below {D : Nat → Prop} {w w' : World} (h : Below w.heap.size w w') : Ch D w w' := ⟨h.os, h.tape, h.output, h.size, fun k hk _ => h.block k hk⟩
theorem Ch.to_below {D : Nat → Prop} {w w' : World} {B : Nat} (h : Ch D w w') (hB : B ≤ w.heap.size) (hd : ∀ x, D x → B ≤ x) : Below B w w' := ⟨h.os, h.tape, h.output, h.size, fun k hk => h.block k (by omega) (fun e => by have := hd k e; omega)⟩
theorem Ch.of_grown {D : Nat → Prop} {w w' : World} {r : Option Nat} (h : w.grownBy w' r) (hr : ∀ x, r = some x → D x) : Ch D w w' := ⟨h.os, h.tape, h.output, h.size, fun k hk hd => h.block k hk (fun e => hd (hr k e.symm))⟩


section

variable {D : Nat → Prop} {w : World} {sb gp gm : Nat} {lv : Value} {rv : Nat → Value} {S : Sc}

theorem SM.c0 (h : SM D w sb gp gm lv rv S) : w.cell? ⟨sb, 0, none⟩ = some lv := by rw [cell_of_row w sb 0 _ _ (0, 0) h.head]; rfl
theorem SM.c1 (h : SM D w sb gp gm lv rv S) : w.cell? ⟨sb, 1, none⟩ = some (.slice (some ⟨gp, 0, none⟩) S.np S.np) := by rw [cell_of_row w sb 1 _ _ (0, 0) h.head]; rfl
theorem SM.c2 (h : SM D w sb gp gm lv rv S) : w.cell? ⟨sb, 2, none⟩ = some (.map (some gm)) := by rw [cell_of_row w sb 2 _ _ (0, 0) h.head]; rfl
theorem SM.p0 (h : SM D w sb gp gm lv rv S) {p : Nat} (hp : p < S.np) : w.cell? ⟨gp, p * 2, none⟩ = some (rv p) := by
  obtain ⟨cur, h1, h2, h3⟩ := h.part
  rw [cell_of_row w gp _ _ _ (0, 0) h1]; exact (h3 p hp).1
theorem SM.p1 (h : SM D w sb gp gm lv rv S) {p : Nat} (hp : p < S.np) : w.cell? ⟨gp, p * 2 + 1, none⟩ = some (.bool (S.on p)) := by
  obtain ⟨cur, h1, h2, h3⟩ := h.part
  rw [cell_of_row w gp _ _ _ (0, 0) h1]; exact (h3 p hp).2
theorem SM.soft (h : SM D w sb gp gm lv rv S) (x : Nat) : w.frozen? ⟨gp, x, none⟩ = false := by
  obtain ⟨cur, h1, h2, h3⟩ := h.part
  simp [World.frozen?, h1]
theorem SM.recs (h : SM D w sb gp gm lv rv S) (hok : S.ok) {p : Nat} (hp : p < S.np) : Rv w (rv p) (S.logs p) := own_rv (h.rows p hp) (hok.rok p)


theorem part_nil (p : Int) (w : World) :
    Calls Tryz.prog 42 #[.pointer none, .int .i64 p] w fun e w' => e = .returned (.tuple #[.pointer none, .int .i64 2]) ∧ w' = w := by
  go_enter Tryz.func42, Tryz.ntmps42
  go_wp2_with fail
  go_ret2
  exact ⟨rfl, rfl⟩


theorem part_no {p : Int} (h : SM D w sb gp gm lv rv S) (hok : S.ok) (hp : p < 0 ∨ (S.np : Int) ≤ p) :
    Calls Tryz.prog 42 #[.pointer (some ⟨sb, 0, none⟩), .int .i64 p] w fun e w' => e = .returned (.tuple #[.pointer none, .int .i64 60]) ∧ w' = w := by
  have c1 := h.c1
  have h4 := hok.np4
  clear h hok
  by_cases hp0 : p < 0
  · go_enter Tryz.func42, Tryz.ntmps42
    go_wp2_with fail
    go_ret2
    exact ⟨rfl, rfl⟩
  · have hp1 : (S.np : Int) ≤ p := by omega
    clear hp
    go_enter Tryz.func42, Tryz.ntmps42
    go_wp2_with fail
    go_ret2
    exact ⟨rfl, rfl⟩


theorem part_ok {p : Nat} (h : SM D w sb gp gm lv rv S) (hok : S.ok) (hp : p < S.np) :
    Calls Tryz.prog 42 #[.pointer (some ⟨sb, 0, none⟩), .int .i64 p] w fun e w' => e = .returned (.tuple #[.pointer (some ⟨gp, p * 2, none⟩), .int .i64 0]) ∧ w' = w := by
  have c1 := h.c1
  have h4 := hok.np4
  clear h hok
  go_enter Tryz.func42, Tryz.ntmps42
  go_wp2_with fail
  go_ret2
  exact ⟨rfl, rfl⟩
end

end Go.Proofs.YtopjedgknbbgkaaGreat

namespace Go.Proofs.YtopjedgknbbgkaaGreat

open Ieee Go.RowKit



abbrev hasS (S : Sc) (p : Int) : Prop := 0 ≤ p ∧ p < S.np
def lenS (S : Sc) (p : Int) : Nat := if hasS S p then (S.logs p.toNat).length else 0
def upS (S : Sc) (p : Int) : Bool := if hasS S p then S.on p.toNat else false
def logS (S : Sc) (p : Int) : List Rcd := if hasS S p then S.logs p.toNat else []
def switchI (S : Sc) (p : Int) : Int := if hasS S p then 0 else 60
def switchS (S : Sc) (p : Int) (on : Bool) : Sc := if hasS S p then { S with on := upd S.on p.toNat on } else S
def readI (S : Sc) (p x m : Int) : Int := if hasS S p then (if x < 0 ∨ x > (S.logs p.toNat).length ∨ m < 0 then 1 else if S.on p.toNat then 0 else 63) else 60
def readL (S : Sc) (p x m : Int) : List Rcd := if readI S p x m = 0 then ((S.logs p.toNat).drop x.toNat).take m.toNat else []


theorem not_has {S : Sc} {p : Int} (h : ¬ hasS S p) : p < 0 ∨ (S.np : Int) ≤ p := by unfold hasS at h; omega
theorem has_nat {S : Sc} {p : Int} (h : hasS S p) : ∃ q : Nat, p = q ∧ q < S.np := ⟨p.toNat, by unfold hasS at h; omega, by unfold hasS at h; omega⟩


section

variable {D : Nat → Prop} {w : World} {v : Value} {S : Sc}



theorem parts_walkS (h : Src D w v S) : Calls Tryz.prog 63 #[v] w fun e w' => e = .returned (.int .i64 S.np) ∧ w' = w := by
  obtain ⟨sb, gp, gm, lv, rv, rfl, h, hok⟩ := h
  have c1 := h.c1
  clear h
  go_enter Tryz.func63, Tryz.ntmps63
  go_wp2_with fail
  go_ret
  exact ⟨rfl, rfl⟩


theorem len_walk (h : Src D w v S) (p : Int) : Calls Tryz.prog 29 #[v, .int .i64 p] w fun e w' => e = .returned (.int .i64 (lenS S p)) ∧ w' = w := by
  obtain ⟨sb, gp, gm, lv, rv, rfl, h, hok⟩ := h
  have HS : Hid (SM D w sb gp gm lv rv S) := h
  have HK : Hid S.ok := hok
  clear h hok
  by_cases hh : hasS S p
  · obtain ⟨q, rfl, hq⟩ := has_nat hh
    have HL : Hid (lenS S q = (S.logs q).length) := by show _ = _; unfold lenS; rw [if_pos hh]; rfl
    rw [HL.out]
    have p0 := HS.out.p0 hq
    obtain ⟨ao, cap, hrv, _⟩ := row_form (HS.out.rows q hq)
    rw [hrv] at p0
    clear hrv hh
    go_enter Tryz.func29, Tryz.ntmps29
    go_wp2_with (go_at_call 42; refine (part_ok HS.out HK.out hq).mono ?_; rintro e w9 ⟨rfl, h9⟩; have h9 := h9.symm; subst h9)
    go_ret
    exact ⟨rfl, rfl⟩
  · have HL : Hid (lenS S p = 0) := by show _ = _; unfold lenS; rw [if_neg hh]
    rw [HL.out]
    have HN : Hid (p < 0 ∨ (S.np : Int) ≤ p) := not_has hh
    clear hh
    go_enter Tryz.func29, Tryz.ntmps29
    go_wp2_with (go_at_call 42; refine (part_no HS.out HK.out HN.out).mono ?_; rintro e w9 ⟨rfl, h9⟩; have h9 := h9.symm; subst h9)
    go_ret
    exact ⟨rfl, rfl⟩


theorem up_walk (h : Src D w v S) (p : Int) : Calls Tryz.prog 36 #[v, .int .i64 p] w fun e w' => e = .returned (.bool (upS S p)) ∧ w' = w := by
  obtain ⟨sb, gp, gm, lv, rv, rfl, h, hok⟩ := h
  have HS : Hid (SM D w sb gp gm lv rv S) := h
  have HK : Hid S.ok := hok
  clear h hok
  by_cases hh : hasS S p
  · obtain ⟨q, rfl, hq⟩ := has_nat hh
    have HL : Hid (upS S q = S.on q) := by show _ = _; unfold upS; rw [if_pos hh]; rfl
    rw [HL.out]
    have p1 := HS.out.p1 hq
    clear hh
    go_enter Tryz.func36, Tryz.ntmps36
    go_wp2_with (go_at_call 42; refine (part_ok HS.out HK.out hq).mono ?_; rintro e w9 ⟨rfl, h9⟩; have h9 := h9.symm; subst h9)
    go_ret
    exact ⟨rfl, rfl⟩
  · have HL : Hid (upS S p = false) := by show _ = _; unfold upS; rw [if_neg hh]
    rw [HL.out]
    have HN : Hid (p < 0 ∨ (S.np : Int) ≤ p) := not_has hh
    clear hh
    go_enter Tryz.func36, Tryz.ntmps36
    go_wp2_with (go_at_call 42; refine (part_no HS.out HK.out HN.out).mono ?_; rintro e w9 ⟨rfl, h9⟩; have h9 := h9.symm; subst h9)
    go_ret
    exact ⟨rfl, rfl⟩


theorem log_walk (h : Src D w v S) (p : Int) : Calls Tryz.prog 64 #[v, .int .i64 p] w fun e w' => ∃ r, e = .returned r ∧ w'.ownsRow w.heap.size 53 2 r (logS S p).length (flatR (logS S p)) ∧ Below w.heap.size w w' := by
  obtain ⟨sb, gp, gm, lv, rv, rfl, h, hok⟩ := h
  have HS : Hid (SM D w sb gp gm lv rv S) := h
  have HK : Hid S.ok := hok
  clear h hok
  by_cases hh : hasS S p
  · obtain ⟨q, rfl, hq⟩ := has_nat hh
    have HL : Hid (logS S q = S.logs q) := by show _ = _; unfold logS; rw [if_pos hh]; rfl
    rw [HL.out]
    have p0 := HS.out.p0 hq
    have HR : Hid (Rv w (rv q) (S.logs q)) := HS.out.recs HK.out hq
    clear hh
    go_enter Tryz.func64, Tryz.ntmps64
    go_wp2_with (first
      | (go_at_call 42; refine (part_ok HS.out HK.out hq).mono ?_; rintro e w9 ⟨rfl, h9⟩; have h9 := h9.symm; subst h9)
      | (go_at_call 90; refine (cloneR_walk HR.out (by have := HK.out.len q; omega)).mono ?_; rintro e w9 ⟨r, rfl, hr, hB⟩))
    go_ret
    exact ⟨r, rfl, hr, hB⟩
  · have HL : Hid (logS S p = []) := by show _ = _; unfold logS; rw [if_neg hh]
    rw [HL.out]
    have HN : Hid (p < 0 ∨ (S.np : Int) ≤ p) := not_has hh
    clear hh
    go_enter Tryz.func64, Tryz.ntmps64
    go_wp2_with (go_at_call 42; refine (part_no HS.out HK.out HN.out).mono ?_; rintro e w9 ⟨rfl, h9⟩; have h9 := h9.symm; subst h9)
    go_ret
    exact ⟨_, rfl, World.ownsRow_nil _ _ _ _, below_same _⟩
end

end Go.Proofs.YtopjedgknbbgkaaGreat

namespace Go.Proofs.YtopjedgknbbgkaaGreat

open Ieee Go.RowKit



section

variable {D : Nat → Prop} {w : World} {v : Value} {S : Sc}



theorem SM.setOn {sb gp gm : Nat} {lv : Value} {rv : Nat → Value} (h : SM D w sb gp gm lv rv S) {q : Nat} (hq : q < S.np) (on : Bool) : SM D (w.setCell ⟨gp, q * 2 + 1, none⟩ (.bool on)) sb gp gm lv rv { S with on := upd S.on q on } := by
  have hk : ∀ x, x ≠ gp → (w.setCell ⟨gp, q * 2 + 1, none⟩ (.bool on)).heap[x]? = w.heap[x]? := fun x hx => Below.heap_setCell w _ _ x hx
  obtain ⟨cur, p1, p2, p3⟩ := h.part
  refine ⟨by rw [hk _ h.a1]; exact h.head, ⟨cur.setIfInBounds (q * 2 + 1) (.bool on), ?_, by simpa using p2, fun p hp => ⟨?_, ?_⟩⟩, h.keys.kept (hk _ h.a3.symm), h.list.keep (fun x hx => hk x (h.a5 x hx).2.1), fun p hp => row_keep (h.rows p hp) (fun x hx => hk x (h.a4 p x hp hx).2.1),
    h.a1, h.a2, h.a3, h.a4, h.a5, h.a6, h.d1, h.d2, h.d3, fun x hx => by have := h.dl x hx; simpa [go_sem] using this⟩
  · rw [Sort.setCell_eq]
    simp [Sort.mapBlock, Array.getElem?_modify, p1, Sort.onCells]
  · rw [Array.getElem?_setIfInBounds, if_neg (by omega)]; exact (p3 p hp).1
  · by_cases e : p = q
    · subst e
      rw [Array.getElem?_setIfInBounds, if_pos rfl, if_pos (by rw [p2]; omega)]
      show _ = some (Value.bool (upd S.on p on p))
      rw [upd_same]
    · rw [Array.getElem?_setIfInBounds, if_neg (by omega)]
      show _ = some (Value.bool (upd S.on q on p))
      rw [upd_other _ _ e]; exact (p3 p hp).2
theorem ok_on (h : S.ok) (f : Nat → Bool) : ({ S with on := f } : Sc).ok := ⟨h.np1, h.np4, h.chk, h.lok, h.len, h.rok, h.kl, h.kr, h.kb, h.mem⟩


theorem switch_walk (h : Src D w v S) (p : Int) (on : Bool) : Calls Tryz.prog 14 #[v, .int .i64 p, .bool on] w fun e w' => e = .returned (.int .i64 (switchI S p)) ∧ Src D w' v (switchS S p on) ∧ Ch D w w' := by
  have HW : Hid (Src D w v S) := h
  obtain ⟨sb, gp, gm, lv, rv, rfl, h, hok⟩ := h
  have HS : Hid (SM D w sb gp gm lv rv S) := h
  have HK : Hid S.ok := hok
  clear h hok
  by_cases hh : hasS S p
  · obtain ⟨q, rfl, hq⟩ := has_nat hh
    have HL : Hid (switchI S q = 0) := by show _ = _; unfold switchI; rw [if_pos hh]
    have HT : Hid (switchS S q on = { S with on := upd S.on q on }) := by show _ = _; unfold switchS; rw [if_pos hh]; rfl
    rw [HL.out, HT.out]
    have p1 := HS.out.p1 hq
    have f1 := HS.out.soft (q * 2 + 1)
    clear hh
    go_enter Tryz.func14, Tryz.ntmps14
    go_wp2_with (go_at_call 42; refine (part_ok HS.out HK.out hq).mono ?_; rintro e w9 ⟨rfl, h9⟩; have h9 := h9.symm; subst h9)
    go_ret
    exact ⟨rfl, ⟨sb, gp, gm, lv, rv, rfl, HS.out.setOn hq on, ok_on HK.out _⟩, Ch.of_grown (grown_set w gp _ _) (fun x hx => by cases hx; exact HS.out.d1.2.1)⟩
  · have HL : Hid (switchI S p = 60) := by show _ = _; unfold switchI; rw [if_neg hh]
    have HT : Hid (switchS S p on = S) := by show _ = _; unfold switchS; rw [if_neg hh]
    rw [HL.out, HT.out]
    have HN : Hid (p < 0 ∨ (S.np : Int) ≤ p) := not_has hh
    clear hh
    go_enter Tryz.func14, Tryz.ntmps14
    go_wp2_with (go_at_call 42; refine (part_no HS.out HK.out HN.out).mono ?_; rintro e w9 ⟨rfl, h9⟩; have h9 := h9.symm; subst h9)
    go_ret
    exact ⟨rfl, HW.out, Ch.refl _ _⟩


/-- A cut of a row of records. -/
theorem cut_rv {g n cap X C : Nat} {l : List Rcd} (h : w.ownsRow 0 53 2 (.slice (some ⟨g, 0, none⟩) n cap) l.length (flatR l)) (hok : ∀ r ∈ l, r.ok) (hx : X + C ≤ l.length) (hm : cap ≤ maxLen) :
    Rv w (.slice (if cap = X then some ⟨g, 0, none⟩ else some ⟨g, X * 2, none⟩) C (cap - X)) ((l.drop X).take C) := by
  obtain ⟨⟨ao, c2, e, h1, h2, h3, h4⟩, h5⟩ := own_rv h hok
  simp only [Value.slice.injEq] at e
  obtain ⟨rfl, rfl, rfl⟩ := e
  have hl : ((l.drop X).take C).length = C := by simp; omega
  refine ⟨⟨_, cap - X, by rw [hl], by rw [hl]; omega, Nat.le_trans (Nat.sub_le _ _) hm, (fun he => by split at he <;> cases he), fun i hi => ?_⟩, fun r hr => hok r (List.mem_of_mem_drop (List.mem_of_mem_take hr))⟩
  rw [hl] at hi
  obtain ⟨b, off, eb, g0, g1⟩ := h4 (X + i) (by omega)
  cases eb
  have hcx : ¬ cap = X := by omega
  refine ⟨g, X * 2, by rw [if_neg hcx], ?_, ?_⟩
  · rw [List.getElem_take, List.getElem_drop, ← Nat.add_mul]; simpa using g0
  · rw [List.getElem_take, List.getElem_drop, ← Nat.add_mul]; simpa using g1
end

end Go.Proofs.YtopjedgknbbgkaaGreat

namespace Go.Proofs.YtopjedgknbbgkaaGreat

open Ieee Go.RowKit



def addS (S : Sc) (p : Nat) (r : Rcd) (ks : List Nat) : Sc := { S with logs := upd S.logs p (S.logs p ++ [r]), keys := ks }
def prodS (S : Sc) (p : Int) (r : Rcd) : Int × Sc :=
  if hasS S p then
    if 256 ≤ (S.logs p.toNat).length then (61, S)
    else if (runS S.list r).1 = 1 then
      if (runS S.list r).2.k ∈ S.keys ∨ S.keys.length < 64 then (0, addS S p.toNat r (insK (runS S.list r).2.k S.keys)) else (62, S)
    else (0, addS S p.toNat r S.keys)
  else (60, S)


section

variable {D : Nat → Prop} {w : World} {v : Value} {S : Sc}



set_option maxRecDepth 100000 in
theorem takes_walk {sb gp gm : Nat} {lv : Value} {rv : Nat → Value} (h : SM D w sb gp gm lv rv S) {k : Nat} (hk : k < 18446744073709551616) :
    Calls Tryz.prog 44 #[.pointer (some ⟨sb, 0, none⟩), .int .u64 k] w fun e w' => e = .returned (.bool (decide (k ∈ S.keys ∨ S.keys.length < 64))) ∧ Below w.heap.size w w' := by
  have c2 := h.c2
  have c2' : ∀ o, (w.alloc o).cell? ⟨sb, 2, none⟩ = some (.map (some gm)) := fun o => (h.below (below_alloc w o)).c2
  have hlk := ks_look h.keys hk
  have hln : ∀ o, (Builtin.len_ #[108] 3 #[.map (some gm)]).run Tryz.prog (w.alloc o) = .ok (.int .i64 S.keys.length) (w.alloc o) := fun o => ks_len (h.keys.kept ((World.grownBy_alloc w o none).block gm h.keys.lt (by simp))) _
  obtain ⟨n, hn⟩ : ∃ n, n = S.keys.length := ⟨_, rfl⟩
  rw [← hn] at hln ⊢
  clear h hk hn
  by_cases hm : k ∈ S.keys
  · rw [decide_eq_true hm] at hlk
    rw [decide_eq_true (.inl hm)]
    clear hm
    go_enter Tryz.func44, Tryz.ntmps44
    go_wp2_with fail
    go_ret
    exact ⟨rfl, below_alloc _ _⟩
  · rw [decide_eq_false hm] at hlk
    have e : decide (k ∈ S.keys ∨ n < 64) = decide ((n : Int) < 64) := by
      by_cases h64 : n < 64
      · rw [decide_eq_true (.inr h64), decide_eq_true (by omega)]
      · rw [decide_eq_false (by rintro (h | h); exact hm h; exact h64 h), decide_eq_false (by omega)]
    rw [e]
    clear hm e
    go_enter Tryz.func44, Tryz.ntmps44
    go_wp2_with fail
    go_ret
    exact ⟨rfl, below_alloc _ _⟩


theorem SM.addK {sb gp gm : Nat} {lv : Value} {rv : Nat → Value} {w' : World} {ks : List Nat} (h : SM D w sb gp gm lv rv S) (hg : w.grownBy w' (some gm)) (hk : Ks w' gm ks) : SM D w' sb gp gm lv rv { S with keys := ks } := by
  have hb : ∀ x, D x → x ≠ gm → w'.heap[x]? = w.heap[x]? := fun x hx hne => hg.block x (h.dl x hx) (by simpa using hne)
  obtain ⟨cur, p1, p2, p3⟩ := h.part
  exact ⟨by rw [hb _ h.d1.1 h.a2]; exact h.head, ⟨cur, by rw [hb _ h.d1.2.1 h.a3]; exact p1, p2, p3⟩, hk, h.list.keep (fun x hx => hb x (h.d3 x hx) (h.a5 x hx).2.2), fun p hp => row_keep (h.rows p hp) (fun x hx => hb x (h.d2 p x hp hx) (h.a4 p x hp hx).2.2.1),
    h.a1, h.a2, h.a3, h.a4, h.a5, h.a6, h.d1, h.d2, h.d3, fun x hx => Nat.lt_of_lt_of_le (h.dl x hx) hg.size⟩


theorem SM.addR {sb gp gm : Nat} {lv : Value} {rv : Nat → Value} {w2 : World} {v' : Value} {q n : Nat} {l : List Rcd} (h : SM D w sb gp gm lv rv S) (hq : q < S.np) (hg : w.grownBy w2 (rv q).ownBlock)
    (ho : w2.ownsRow 0 53 2 v' n (flatR l)) (hat : v'.ownBlock = (rv q).ownBlock ∨ v'.ownBlock = some w.heap.size) :
    SM (fun x => D x ∨ v'.ownBlock = some x) (w2.setCell ⟨gp, q * 2, none⟩ v') sb gp gm lv (upd rv q v') { S with logs := upd S.logs q l } := by
  have hn : n = l.length := by have := ho.1; rw [flatR_len] at this; omega
  subst hn
  have hb : ∀ x, D x → (rv q).ownBlock ≠ some x → w2.heap[x]? = w.heap[x]? := fun x hx hne => hg.block x (h.dl x hx) (fun e => hne e.symm)
  have hs : ∀ x, x ≠ gp → (w2.setCell ⟨gp, q * 2, none⟩ v').heap[x]? = w2.heap[x]? := fun x hx => Below.heap_setCell w2 _ _ x hx
  have nsb : (rv q).ownBlock ≠ some sb := fun e => (h.a4 q _ hq e).1 rfl
  have ngp : (rv q).ownBlock ≠ some gp := fun e => (h.a4 q _ hq e).2.1 rfl
  have ngm : (rv q).ownBlock ≠ some gm := fun e => (h.a4 q _ hq e).2.2.1 rfl
  have fresh : ∀ x, D x → x ≠ w.heap.size := fun x hx => by have := h.dl x hx; omega
  have vx : ∀ x, v'.ownBlock = some x → (x ≠ sb ∧ x ≠ gp ∧ x ≠ gm ∧ lv.ownBlock ≠ some x) ∧ (∀ p, p < S.np → p ≠ q → (rv p).ownBlock ≠ some x) := by
    intro x hx
    rcases hat with e | e
    · rw [e] at hx
      exact ⟨h.a4 q x hq hx, fun p hp hpq => h.a6 q p x hq hp (fun e => hpq e.symm) hx⟩
    · rw [hx] at e
      have hxs : x = w.heap.size := by simpa using e
      exact ⟨⟨fun e => fresh sb h.d1.1 (by omega), fun e => fresh gp h.d1.2.1 (by omega), fun e => fresh gm h.d1.2.2 (by omega), fun e => fresh x (h.d3 x e) hxs⟩, fun p hp _ e => fresh x (h.d2 p x hp e) hxs⟩
  obtain ⟨cur, p1, p2, p3⟩ := h.part
  refine ⟨by rw [hs _ h.a1, hb _ h.d1.1 nsb]; exact h.head, ⟨cur.setIfInBounds (q * 2) v', ?_, by simpa using p2, fun p hp => ⟨?_, ?_⟩⟩, h.keys.kept (by rw [hs _ h.a3.symm, hb _ h.d1.2.2 ngm]), h.list.keep (fun x hx => by rw [hs x (h.a5 x hx).2.1, hb x (h.d3 x hx) (fun e => (h.a4 q x hq e).2.2.2 hx)]), fun p hp => ?_,
    h.a1, h.a2, h.a3, fun p x hp hx => ?_, h.a5, fun p p' x hp hp' hne hx => ?_, ⟨.inl h.d1.1, .inl h.d1.2.1, .inl h.d1.2.2⟩, fun p x hp hx => ?_, fun x hx => .inl (h.d3 x hx), fun x hx => ?_⟩
  · rw [Sort.setCell_eq]
    have : w2.heap[gp]? = some (.cells cur 104 (0, 0)) := by rw [hb _ h.d1.2.1 ngp]; exact p1
    simp [Sort.mapBlock, Array.getElem?_modify, this, Sort.onCells]
  · show _ = some (upd rv q v' p)
    by_cases e : p = q
    · subst e
      rw [Array.getElem?_setIfInBounds, if_pos rfl, if_pos (by rw [p2]; omega), upd_same]
    · rw [Array.getElem?_setIfInBounds, if_neg (by omega), upd_other _ _ e]; exact (p3 p hp).1
  · rw [Array.getElem?_setIfInBounds, if_neg (by omega)]; exact (p3 p hp).2
  · show (w2.setCell ⟨gp, q * 2, none⟩ v').ownsRow 0 _ 2 (upd rv q v' p) (upd S.logs q l p).length (flatR (upd S.logs q l p))
    by_cases e : p = q
    · subst e
      rw [upd_same, upd_same]
      exact row_keep ho (fun x hx => hs x (vx x hx).1.2.1)
    · rw [upd_other _ _ e, upd_other _ _ e]
      exact row_keep (h.rows p hp) (fun x hx => by rw [hs x (h.a4 p x hp hx).2.1, hb x (h.d2 p x hp hx) (h.a6 p q x hp hq e hx)])
  · change (upd rv q v' p).ownBlock = some x at hx
    by_cases e : p = q
    · subst e; rw [upd_same] at hx; exact (vx x hx).1
    · rw [upd_other _ _ e] at hx; exact h.a4 p x hp hx
  · change (upd rv q v' p).ownBlock = some x at hx
    show (upd rv q v' p').ownBlock ≠ some x
    by_cases e : p = q
    · subst e
      rw [upd_same] at hx
      rw [upd_other _ _ (fun e => hne e.symm)]
      exact (vx x hx).2 p' hp' (fun e => hne e.symm)
    · rw [upd_other _ _ e] at hx
      by_cases e' : p' = q
      · subst e'
        rw [upd_same]
        exact fun e2 => (vx x e2).2 p hp e hx
      · rw [upd_other _ _ e']; exact h.a6 p p' x hp hp' hne hx
  · change (upd rv q v' p).ownBlock = some x at hx
    by_cases e : p = q
    · subst e; rw [upd_same] at hx; exact .inr hx
    · rw [upd_other _ _ e] at hx; exact .inl (h.d2 p x hp hx)
  · have h2 := hg.size
    have : x < w2.heap.size := by
      rcases hx with hx | hx
      · have := h.dl x hx; omega
      · exact (ho.lt x hx).2
    simpa [go_sem] using this


theorem ok_add (h : S.ok) {q : Nat} {r : Rcd} (hq : q < S.np) (hl : ¬ 256 ≤ (S.logs q).length) (hr : r.ok) {ks : List Nat}
    (hk : ((runS S.list r).1 = 1 ∧ ks = insK (runS S.list r).2.k S.keys ∧ ((runS S.list r).2.k ∈ S.keys ∨ S.keys.length < 64)) ∨ ((runS S.list r).1 ≠ 1 ∧ ks = S.keys)) : (addS S q r ks).ok := by
  have hkb := (runS_ok S.list hr).1
  refine ⟨h.np1, h.np4, h.chk, h.lok, fun p => ?_, fun p x hx => ?_, ?_, ?_, ?_, fun k => ?_⟩
  · show (upd S.logs q (S.logs q ++ [r]) p).length ≤ 256
    by_cases e : p = q
    · subst e; rw [upd_same]; simp; omega
    · rw [upd_other _ _ e]; exact h.len p
  · change x ∈ upd S.logs q (S.logs q ++ [r]) p at hx
    by_cases e : p = q
    · subst e
      rw [upd_same] at hx
      rcases List.mem_append.1 hx with hx | hx
      · exact h.rok p x hx
      · simp at hx; subst hx; exact hr
    · rw [upd_other _ _ e] at hx; exact h.rok p x hx
  · show ks.length ≤ 64
    rcases hk with ⟨_, rfl, hm⟩ | ⟨_, rfl⟩
    · by_cases hm' : (runS S.list r).2.k ∈ S.keys
      · rw [insK_old h.kr hm']; exact h.kl
      · rw [insK_len hm']
        rcases hm with hm | hm
        · exact absurd hm hm'
        · omega
    · exact h.kl
  · show RiseK ks
    rcases hk with ⟨_, rfl, _⟩ | ⟨_, rfl⟩
    · exact rise_insK h.kr
    · exact h.kr
  · show ∀ k ∈ ks, k < 18446744073709551616
    rcases hk with ⟨_, rfl, _⟩ | ⟨_, rfl⟩
    · intro k hk
      rcases mem_insK.1 hk with rfl | hk
      · exact hkb
      · exact h.kb k hk
    · exact h.kb
  · show k ∈ ks ↔ ∃ p, p < S.np ∧ ∃ x ∈ upd S.logs q (S.logs q ++ [r]) p, (runS S.list x).1 = 1 ∧ (runS S.list x).2.k = k
    have key : (∃ p, p < S.np ∧ ∃ x ∈ upd S.logs q (S.logs q ++ [r]) p, (runS S.list x).1 = 1 ∧ (runS S.list x).2.k = k) ↔ ((runS S.list r).1 = 1 ∧ (runS S.list r).2.k = k) ∨ k ∈ S.keys := by
      rw [h.mem k]
      constructor
      · rintro ⟨p, hp, x, hx, h1, h2⟩
        by_cases e : p = q
        · subst e
          rw [upd_same] at hx
          rcases List.mem_append.1 hx with hx | hx
          · exact .inr ⟨p, hp, x, hx, h1, h2⟩
          · simp at hx; subst hx; exact .inl ⟨h1, h2⟩
        · rw [upd_other _ _ e] at hx; exact .inr ⟨p, hp, x, hx, h1, h2⟩
      · rintro (⟨h1, h2⟩ | ⟨p, hp, x, hx, h1, h2⟩)
        · exact ⟨q, hq, r, by rw [upd_same]; simp, h1, h2⟩
        · refine ⟨p, hp, x, ?_, h1, h2⟩
          by_cases e : p = q
          · subst e; rw [upd_same]; exact List.mem_append_left _ hx
          · rw [upd_other _ _ e]; exact hx
    rw [key]
    rcases hk with ⟨h1, rfl, _⟩ | ⟨h1, rfl⟩
    · rw [mem_insK]
      constructor
      · rintro (h | h)
        · exact .inl ⟨h1, h.symm⟩
        · exact .inr h
      · rintro (⟨_, h⟩ | h)
        · exact .inl h.symm
        · exact .inr h
    · constructor
      · exact .inr
      · rintro (⟨h, _⟩ | h)
        · exact absurd h h1
        · exact h


/-- Append of one record onto a row of one's own, as one step of a region that draws. -/
theorem step_app_own {P : Program} {ops : Array Oper} {o : Oper} {a : Act} {w : World} {K : Act → World → Prop} {Q : Exit → Act → World → Prop} {E : Prop}
    (hg : o.guard = none) (s x : Operand) (t : TypeId) (hop : o.op = Op.call { callee := Callee.builtin Builtin.append, args := #[s, x], argTypes := #[t, t] })
    (e : TypeId) (h1 : P.underlying t = some (.slice e)) (hinf : (P.info? e).map (fun i => (i.zero, i.size, i.bytes)) = some (some (.agg #[.int .u64 0, .float .f64 0]), 2, 16))
    (v : Value) (n : Nat) (m : List Rcd) (hs : a.eval s = v) (hown : w.ownsRow 0 e 2 v n (flatR m))
    (q : Nat) (r : Rcd) (hx : a.eval x = .slice (some ⟨q, 0, none⟩) 1 1) (h0 : w.cell? ⟨q, 0, none⟩ = some (.int .u64 r.k)) (h2 : w.cell? ⟨q, 1, none⟩ = some (.float .f64 r.x)) (hn : n ≤ 1000000)
    (hK : ∀ v' w', w'.ownsRow 0 e 2 v' (n + 1) (flatR (m ++ [r])) → w.grownBy w' v.ownBlock → (v'.ownBlock = v.ownBlock ∨ v'.ownBlock = some w.heap.size) → K (a.put o.dst v') w') :
    if Region.wanted o (yielded ops a.tmps) = true then Oper.wp P o a w K Q else E := by
  have hw : Region.wanted o (yielded ops a.tmps) = true := by simp [Region.wanted, hg]
  rw [if_pos hw]
  obtain ⟨i0, hi, hz0, hz1, hz2⟩ := info_partsV hinf
  obtain ⟨v', w', hrun, r1, r2, _, r4⟩ := run_append_own_at (P := P) w 0 t o.type e i0 (.agg #[.int .u64 0, .float .f64 0]) 2 16 h1 hi hz0 hz1 hz2 rfl (by decide) v n (flatR m) hown ⟨q, 0, none⟩ 1 1 [.int .u64 r.k, .float .f64 r.x] rfl (one_cells h0 h2) (fun u hu => by simp at hu; rcases hu with rfl | rfl <;> rfl) (by simp only [maxLen]; omega) (by omega) (Nat.zero_le _)
  unfold Oper.wp
  simp [execOp, hop, resolve, invoke, builtin, hs, hx, hrun, Result.andThen]
  exact hK v' w' (by rw [flatR_snoc]; exact r1) r2 r4
end

end Go.Proofs.YtopjedgknbbgkaaGreat
