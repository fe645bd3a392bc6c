/- The walk of OpsMemory. -/
import Derived.Test.YtkpfjoklbindjabXd
import Derived.Deep.DeepCutAuto
import Derived.Deep.RegionHeld3
namespace Go.Proofs.Ytkpfjoklbindjab
open Ieee Go.RowKit
attribute [local go_sem] run_store_float

theorem info_op : (Try.prog.info? 30).map (fun i => (i.zero, i.size, i.bytes)) = some (some (.agg #[.int .i64 0, .int .i64 0, .float .f64 0]), 3, 24) := by kernel_rfl
theorem info_parts' {P : Program} {e : TypeId} {z : Value} {s b : Nat} (h : (P.info? e).map (fun i => (i.zero, i.size, i.bytes)) = some (some z, s, b)) : ∃ i, P.info? e = some i ∧ i.zero = some z ∧ i.size = s ∧ i.bytes = b := by
  cases hi : P.info? e with
  | none => rw [hi] at h; cases h
  | some i =>
    rw [hi] at h
    simp at h
    exact ⟨i, rfl, h.1, h.2.1, h.2.2⟩

def o4 : Stp := ⟨4, 0, 0⟩
def t4 : List Stp := [⟨40, 0, 0⟩, ⟨41, 0, 0⟩, ⟨42, 0, 0⟩, ⟨43, 0, 0⟩]

theorem wpList_append_ov {P : Program} {w : World} {ops : Array Oper} {rest : List Oper} {o : Oper} {a : Act} {Q : Exit → Act → World → Prop} (hgd : o.guard = none) (s x : Operand) (t : TypeId)
    (ho : o.op = .call { callee := .builtin .append, args := #[s, x], argTypes := #[t, t] })
    (base : Nat) (e : TypeId) (i0 : TypeInfo) (ht : P.underlying t = some (.slice e)) (hi : P.info? e = some i0) (hz1 : i0.size = 3)
    (g n cap : Nat) (m : List Stp) (hs : a.eval s = .slice (some ⟨g, 0, none⟩) n cap) (hown : w.ownsRow base e 3 (.slice (some ⟨g, 0, none⟩) n cap) n (flat m))
    (y : Value) (l : List Stp) (hx : a.eval x = y) (hy : Ov w y l) (hfit : n + l.length ≤ cap)
    (h : ∀ w', w'.ownsRow base e 3 (.slice (some ⟨g, 0, none⟩) (n + l.length) cap) (n + l.length) (flat (m ++ l)) → w.grownBy w' (some g) → wpList P ops Q rest (a.put o.dst (.slice (some ⟨g, 0, none⟩) (n + l.length) cap)) w') : wpList P ops Q (o :: rest) a w := by
  obtain ⟨⟨ao, c, rfl, hc1, hc2, hnone, hcells⟩, _⟩ := hy
  cases ao with
  | none =>
    obtain rfl := hnone rfl
    have hl0 : l.length = 0 := by omega
    have hl : l = [] := List.eq_nil_of_length_eq_zero hl0
    subst hl
    refine wpList_append_own_none hgd s x t ho base e i0 3 ht hi _ n (flat m) hs hown hx ?_
    have := h w (by simpa using hown) ⟨rfl, rfl, rfl, Nat.le_refl _, fun _ _ _ => rfl⟩
    simpa using this
  | some p =>
    refine wpList_append_fits w hgd s x t ho base e i0 3 ht hi hz1 g n cap (flat m) hs hown p l.length c (flat l) hx (flat_len l) ?_ (fun u hu => flat_mem hu) hfit (by rw [← flat_append]; exact h)
    intro j u hj
    have hjl : j < l.length * 3 := by
      rcases Nat.lt_or_ge j (l.length * 3) with h | h
      · exact h
      · rw [List.getElem?_eq_none (by rw [flat_len]; exact h)] at hj; cases hj
    obtain ⟨b, off, e1, g0, g1, g2⟩ := hcells (j / 3) (by omega)
    cases e1
    obtain ⟨f0, f1, f2⟩ := flat_get l (j / 3) (by omega)
    rw [WideShapes.add_plain]
    have hmod : j % 3 = 0 ∨ j % 3 = 1 ∨ j % 3 = 2 := by omega
    rcases hmod with hm | hm | hm
    · have e2 : j / 3 * 3 = j := by omega
      rw [e2] at f0 g0
      rw [f0] at hj; rw [g0, hj]
    · have e2 : j / 3 * 3 + 1 = j := by omega
      rw [Nat.add_assoc, e2] at g1
      rw [e2] at f1
      rw [f1] at hj; rw [g1, hj]
    · have e2 : j / 3 * 3 + 2 = j := by omega
      rw [Nat.add_assoc, e2] at g2
      rw [e2] at f2
      rw [f2] at hj; rw [g2, hj]

theorem Ov.ol {w : World} {ao : Option Addr} {n cap : Nat} {l : List Stp} (h : Ov w (.slice ao n cap) l) : Ol w ao l := by
  obtain ⟨⟨ao', cap', e, _, _, _, h4⟩, _⟩ := h
  simp only [Value.slice.injEq] at e
  rw [e.1]; exact h4

theorem mv_t4 {w : World} {g : Nat} {l : List Stp} (h : Mv w g (l ++ t4)) {k : Nat} (hk : k < 4) : w.cell? ⟨g, (l.length + k) * 3, none⟩ = some (.int .i64 (40 + (k : Int))) := by
  have h4 : t4.length = 4 := rfl
  have := (h (l.length + k) (by rw [List.length_append, h4]; omega)).1.1
  rw [List.getElem_append_right (by omega)] at this
  rw [this]
  have : k = 0 ∨ k = 1 ∨ k = 2 ∨ k = 3 := by omega
  rcases this with rfl | rfl | rfl | rfl <;> simp [t4]

theorem Mv.other {w : World} {g : Nat} {m : List Stp} (h : Mv w g m) {p : Addr} (hne : g ≠ p.block) (v : Value) : Mv (w.setCell p v) g m := by
  have e := Below.heap_setCell w p v g hne
  intro i hi
  obtain ⟨⟨a, b, c⟩, d, f, k⟩ := h i hi
  exact ⟨⟨by rw [World.cell?_of_block (w := w) e]; exact a, by rw [World.cell?_of_block (w := w) e]; exact b, by rw [World.cell?_of_block (w := w) e]; exact c⟩,
    by rw [World.frozen?_of_block (w := w) e]; exact d, by rw [World.frozen?_of_block (w := w) e]; exact f, by rw [World.frozen?_of_block (w := w) e]; exact k⟩

/-- A step laid into the row. -/
theorem Mv.set {w : World} {g : Nat} {m : List Stp} (h : Mv w g m) {j : Nat} (hj : j < m.length) (o : Stp) :
    Mv (((w.setCell ⟨g, j * 3, none⟩ (.int .i64 o.K)).setCell ⟨g, j * 3 + 1, none⟩ (.int .i64 o.N)).setCell ⟨g, j * 3 + 2, none⟩ (.float .f64 o.X)) g (m.set j o) := by
  obtain ⟨⟨a, b, c⟩, d, e, f⟩ := h j hj
  intro i hi
  rw [List.length_set] at hi
  obtain ⟨⟨a', b', c'⟩, d', e', f'⟩ := h i hi
  by_cases hij : j = i
  · subst hij
    rw [List.getElem_set_self]
    refine ⟨⟨?_, ?_, ?_⟩, ?_, ?_, ?_⟩ <;> simp [go_sem, a, b, c, d, e, f]
  · rw [List.getElem_set_ne hij]
    have n0 : ¬ j * 3 = i * 3 := by omega
    have n1 : ¬ j * 3 = i * 3 + 1 := by omega
    have n2 : ¬ j * 3 = i * 3 + 2 := by omega
    have n3 : ¬ j * 3 + 1 = i * 3 := by omega
    have n4 : ¬ j * 3 + 1 = i * 3 + 1 := by omega
    have n5 : ¬ j * 3 + 1 = i * 3 + 2 := by omega
    have n6 : ¬ j * 3 + 2 = i * 3 := by omega
    have n7 : ¬ j * 3 + 2 = i * 3 + 1 := by omega
    have n8 : ¬ j * 3 + 2 = i * 3 + 2 := by omega
    have k0 : ∀ (p q : Nat) (v : Value) (w : World), ¬ p = q → (w.setCell ⟨g, p, none⟩ v).cell? ⟨g, q, none⟩ = w.cell? ⟨g, q, none⟩ := fun p q v w hne => World.cell?_setCell_other w _ _ v (by rintro ⟨⟩; exact hne rfl)
    refine ⟨⟨?_, ?_, ?_⟩, ?_, ?_, ?_⟩
    · rw [k0 _ _ _ _ n6, k0 _ _ _ _ n3, k0 _ _ _ _ n0]; exact a'
    · rw [k0 _ _ _ _ n7, k0 _ _ _ _ n4, k0 _ _ _ _ n1]; exact b'
    · rw [k0 _ _ _ _ n8, k0 _ _ _ _ n5, k0 _ _ _ _ n2]; exact c'
    all_goals simp [go_sem, d', e', f']

/-- Where the last loop of OpsMemory stands. -/
def Mem3 (w : World) (g b9 : Nat) (l : List Stp) (r : Rcd) (R : Int × Rcd) (iv : Value) (wr : World) : Prop :=
  ∃ j : Nat, j ≤ l.length ∧ iv = .int .i64 j ∧ Mv wr g (List.replicate j o4 ++ (l ++ t4).drop j) ∧ RB wr w.heap.size r.k r.x ∧ RB wr b9 R.2.k R.2.x ∧ Below w.heap.size w wr
theorem rep_set {j : Nat} {m : List Stp} (h : j < m.length) : (List.replicate j o4 ++ m.drop j).set j o4 = List.replicate (j + 1) o4 ++ m.drop (j + 1) := by
  rw [List.set_append_right _ _ (by simp), List.length_replicate, Nat.sub_self, List.drop_eq_getElem_cons h, List.set_cons_zero, List.replicate_succ', List.append_assoc]; rfl
theorem mem3_step {w wr : World} {g b9 j : Nat} {l : List Stp} {r : Rcd} {R : Int × Rcd} (hlj : j < l.length) (hM : Mv wr g (List.replicate j o4 ++ (l ++ t4).drop j)) (h1 : RB wr w.heap.size r.k r.x) (h2 : RB wr b9 R.2.k R.2.x) (hB : Below w.heap.size w wr)
    (hn : b9 ≠ g ∧ w.heap.size ≠ g ∧ w.heap.size ≤ g ∧ w.heap.size ≠ b9 ∧ w.heap.size ≤ b9) :
    Mem3 w g b9 l r R (.int .i64 ((j : Int) + 1)) (((wr.setCell ⟨g, j * 3, none⟩ (.int .i64 4)).setCell ⟨g, j * 3 + 1, none⟩ (.int .i64 0)).setCell ⟨g, j * 3 + 2, none⟩ (.float .f64 0)) := by
  obtain ⟨n1, n2, n3, _, _⟩ := hn
  refine ⟨j + 1, hlj, by simp, ?_, ((h1.other n2 _).other n2 _).other n2 _, ((h2.other n1 _).other n1 _).other n1 _, ((hB.setCell n3 _).setCell n3 _).setCell n3 _⟩
  rw [← rep_set (by simp; omega)]
  exact hM.set (by simp; omega) o4

theorem cell_of_mv {w : World} {g : Nat} {n : Nat} {l : List Stp} (h : Mv w g (List.replicate n o4 ++ (l ++ t4).drop l.length)) : g < w.heap.size := by
  have h4 : ((l ++ t4).drop l.length).length = 4 := by simp [t4]
  exact cell_lt (h 0 (by rw [List.length_append, h4]; omega)).1.1
theorem o4_ok : o4.ok := ok_small (by simp) (by simp)
theorem mem3_ov {w : World} {g : Nat} {l : List Stp} (h : Mv w g (List.replicate l.length o4 ++ (l ++ t4).drop l.length)) (hm : l.length + 4 ≤ maxLen) : Ov w (.slice (some ⟨g, 0, none⟩) l.length (l.length + 4)) (List.replicate l.length o4) := by
  rw [List.drop_left] at h
  have hok : ∀ o ∈ List.replicate l.length o4 ++ t4, o.ok := by
    intro o ho
    rcases List.mem_append.1 ho with k | k
    · rw [(List.mem_replicate.1 k).2]; exact o4_ok
    · simp [t4] at k
      rcases k with rfl | rfl | rfl | rfl <;> exact ok_small (by simp) (by simp)
  have := mv_ov (n := l.length) (cap := l.length + 4) h (by simp) (by simp [t4]) hm hok
  rwa [List.take_append_of_le_length (by simp), List.take_of_length_le (by simp)] at this

/-- A value turned round n times. -/
def negV (n x : Nat) : Nat := if n % 2 = 0 then x else canonW (negW x)
theorem neg_twice {x : Nat} (hx : x < 18446744073709551616) (hc : canonW x = x) : canonW (negW (canonW (negW x))) = x := by
  cases h : nanB x
  · have h1 : nanB (negW x) = false := by rw [nan_negW hx]; exact h
    rw [canon_num h1, negW_negW, canon_num h]
  · have h1 : nanB (negW x) = true := by rw [nan_negW hx]; exact h
    rw [canon_nan h1, canon_nan (by rw [nan_negW (by omega)]; decide), ← canon_nan h, hc]
theorem neg_run (n : Nat) : ∀ (q : Rcd), q.x < 18446744073709551616 → canonW q.x = q.x → goS (List.replicate n o4) q = (1, ⟨q.k, negV n q.x⟩) := by
  induction n with
  | zero => intro q _ _; simp [goS, negV]
  | succ n ih =>
    intro q hx hc
    have e : nextR o4 q = ⟨q.k, canonW (negW q.x)⟩ := by simp [nextR, o4, turnW]
    rw [List.replicate_succ, goS_keep (by simp [fateI, o4]), e, ih _ (canon_lt (negW_lt hx)) (canon_canon _)]
    unfold negV
    rcases Nat.mod_two_eq_zero_or_one n with h | h
    · rw [if_pos h, if_neg (by omega)]
    · rw [if_neg (by omega), if_pos (by omega), neg_twice hx hc]
theorem rep_short {n : Nat} {r : Rcd} (h : n ≤ 8) (hr : r.x < 18446744073709551616) : runS (List.replicate n o4) r = (1, ⟨r.k, negV n (canonW r.x)⟩) := by
  unfold runS
  rw [if_pos, neg_run n (canR r) (canon_lt hr) (canon_canon _)]
  · rfl
  · unfold checkB
    rw [Bool.and_eq_true]
    refine ⟨by simpa using h, List.all_eq_true.2 fun o ho => ?_⟩
    rw [(List.mem_replicate.1 ho).2]; decide
theorem rep_long {n : Nat} {r : Rcd} (h : 8 < n) : runS (List.replicate n o4) r = (0, zeroR) := by
  unfold runS
  rw [if_neg]
  unfold checkB
  rw [decide_eq_false (by simp; omega)]; simp
theorem negV_same {x : Nat} (hx : x < 18446744073709551616) (hn : nanB x = false) (n : Nat) : decide (negV n (canonW x) = x) = ((n : Int).tmod 2 == 0) := by
  rw [canon_num hn]
  unfold negV
  rcases Nat.mod_two_eq_zero_or_one n with h | h
  · rw [if_pos h, decide_eq_true rfl]
    have : (n : Int).tmod 2 = 0 := by rw [Int.tmod_eq_emod_of_nonneg (by omega)]; omega
    rw [this]; rfl
  · rw [if_neg (by omega), canon_num (by rw [nan_negW hx]; exact hn)]
    have h1 : (n : Int).tmod 2 = 1 := by rw [Int.tmod_eq_emod_of_nonneg (by omega)]; omega
    rw [h1, decide_eq_false]
    · rfl
    · intro he
      have := neg_negW hx
      rw [he] at this
      cases hb : negB x <;> rw [hb] at this <;> cases this

/-- Where the first loop of OpsMemory stands. -/
def Mem1 (w : World) (g : Nat) (l : List Stp) (r : Rcd) (mv iv : Value) (wr : World) : Prop :=
  ∃ k : Nat, k ≤ 4 ∧ mv = .slice (some ⟨g, 0, none⟩) (l.length + k) (l.length + 4) ∧ iv = .int .i64 k ∧ wr.ownsRow g 30 3 (.slice (some ⟨g, 0, none⟩) (l.length + k) (l.length + 4)) (l.length + k) (flat (l ++ t4.take k)) ∧
    RB wr w.heap.size r.k r.x ∧ Below w.heap.size w wr ∧ g < wr.heap.size
theorem t4_step {k : Nat} (h : k < 4) : t4.take k ++ [⟨40 + (k : Int), 0, 0⟩] = t4.take (k + 1) := by
  have : k = 0 ∨ k = 1 ∨ k = 2 ∨ k = 3 := by omega
  rcases this with rfl | rfl | rfl | rfl <;> rfl
theorem mem1_step {w wr w5 : World} {g : Nat} {l : List Stp} {r : Rcd} {k : Nat} {ob : Obj} (hlt : k < 4)
    (hown : w5.ownsRow g 30 3 (.slice (some ⟨g, 0, none⟩) (l.length + k + [(⟨40 + (k : Int), 0, 0⟩ : Stp)].length) (l.length + 4)) (l.length + k + [(⟨40 + (k : Int), 0, 0⟩ : Stp)].length) (flat (l ++ t4.take k ++ [⟨40 + (k : Int), 0, 0⟩])))
    (hg : (wr.alloc ob).grownBy w5 (some g)) (hR : RB wr w.heap.size r.k r.x) (hB : Below w.heap.size w wr) (hlg : w.heap.size < g) (hgl : g < wr.heap.size) :
    Mem1 w g l r (.slice (some ⟨g, 0, none⟩) (l.length + k + 1) (l.length + 4)) (.int .i64 ((k : Int) + 1)) w5 := by
  have hb5 : Below g wr w5 := ((Below.refl g wr).alloc (Nat.le_of_lt hgl) ob).grown hg (by simp [go_sem]; omega) (by simp)
  rw [List.append_assoc, t4_step hlt] at hown
  refine ⟨k + 1, by omega, by rw [Nat.add_assoc], by simp, by rw [← Nat.add_assoc]; exact hown, hR.below hb5 hlg, (hB.trans (hb5.mono (Nat.le_of_lt hlg))), Nat.lt_of_lt_of_le hgl hb5.size⟩

set_option maxRecDepth 100000 in
set_option maxHeartbeats 2000000 in
theorem opsmemory_walk {v : Value} {l : List Stp} {w : World} (ho : Ov w v l) (r : Rcd) (hr : r.ok) (hsz : l.length * 24 ≤ 140737488355328) :
    Calls Try.prog 4 #[v, .agg #[.int .u64 r.k, .float .f64 r.x]] w fun e w' => e = .returned (.bool true) ∧ Below w.heap.size w w' := by
  obtain ⟨⟨ao, cap, rfl, h1, h2, h3, h4⟩, h5⟩ := ho
  have HV : Hid (Ov w (.slice ao l.length cap) l) := ⟨⟨ao, cap, rfl, h1, h2, h3, h4⟩, h5⟩
  have HO : Hid (Ol w ao l) := h4
  have HKO : Hid (∀ o ∈ l, o.ok) := h5
  have HR : Hid r.ok := hr
  have HSZ : Hid (l.length * 24 ≤ 140737488355328) := hsz
  obtain ⟨i0, hi0, hz0, hz1, hz2⟩ := info_parts' info_op
  have HI0 : Hid (Try.prog.info? 30 = some i0) := hi0
  have HI1 : Hid (i0.zero = some (.agg #[.int .i64 0, .int .i64 0, .float .f64 0])) := hz0
  have HI2 : Hid (i0.size = 3) := hz1
  have HI3 : Hid (i0.bytes = 24) := hz2
  have hli : (l.length : Int) ≤ 5864062014806 := by omega
  clear h1 h2 h3 h4 h5 hr hsz hi0 hz0 hz1 hz2
  go_enter Try.func4, Try.ntmps4
  go_wp2_with fail
  generalize hg : w.alloc (Obj.cells #[Value.int IntKind.u64 r.k, Value.float FloatKind.f64 r.x] 25) = w0
  have HR0 : Hid (RB w0 w.heap.size r.k r.x) := by show RB _ _ _ _; rw [← hg]; refine ⟨?_, ?_, ?_, ?_⟩ <;> simp [go_sem]
  have HB0 : Hid (Below w.heap.size w w0) := by show Below _ _ _; rw [← hg]; exact below_alloc _ _
  clear hg
  refine (awake_walk _).mono ?_
  rintro e w1 ⟨rfl, hB⟩
  have HB1 : Hid (Below w.heap.size w w1) := below_trans HB0.out hB
  have HR1 : Hid (RB w1 w.heap.size r.k r.x) := HR0.out.below hB (cell_lt HR0.out.c0)
  clear hB
  have HMX : Hid (l.length + 4 ≤ maxLen) := by show _ ≤ _; simp only [maxLen]; omega
  go_wp2_with (first
    | (at_make; refine wpList_make_own _ (by rfl) _ _ 31 (by rfl) w1.heap.size 30 i0 (.agg #[.int .i64 0, .int .i64 0, .float .f64 0]) 3 Try.underlying31 HI0.out HI1.out HI2.out .i64 .i64 _ (l.length + 4) (by rfl) (by rfl) (by omega) (by rw [HI3.out]; have := HSZ.out; omega) HMX.out (Nat.le_refl _) ?_; intro w2 hown hgrow; have HB2 : Hid (Below w1.heap.size w1 w2) := (Below.refl _ _).grown hgrow (Nat.le_refl _) (by simp))
    | (at_builtin; refine wpList_append_ov (by rfl) (.tmp 22) (.tmp 23) 31 (by rfl) w1.heap.size 30 i0 Try.underlying31 HI0.out HI2.out w1.heap.size 0 (l.length + 4) [] (by rfl) hown _ l (by rfl) (HV.out.below (below_trans HB1.out HB2.out)) (by omega) ?_; intro w3 hown3 hgrow3; simp only [Nat.zero_add, List.nil_append] at hown3 ⊢; have HB3 : Hid (Below w1.heap.size w1 w3) := HB2.out.grown hgrow3 HB2.out.size (by simp)))
  have R0 : Mem1 w w1.heap.size l r (.slice (some ⟨w1.heap.size, 0, none⟩) l.length (l.length + 4)) (.int .i64 0) w3 :=
    ⟨0, by omega, rfl, rfl, by simpa [t4] using hown3, HR1.out.below HB3.out (cell_lt HR1.out.c0), below_trans HB1.out HB3.out, (hown3.lt w1.heap.size rfl).2⟩
  have HG : Hid (w.heap.size < w1.heap.size) := cell_lt HR1.out.c0
  clear hown hown3 hgrow hgrow3 HB2 HB3
  go_loopw [6, 7] (fun mv iv wr => Mem1 w w1.heap.size l r mv iv wr) (fun _ iv _ => 4 - (intOf iv).toNat)
  case atStart => exact R0
  case round =>
    clear R0
    obtain ⟨k, hk, rfl, rfl, hown, hRr, hB, hgl⟩ := hrel
    have HOW : Hid (wr.ownsRow w1.heap.size 30 3 (.slice (some ⟨w1.heap.size, 0, none⟩) (l.length + k) (l.length + 4)) (l.length + k) (flat (l ++ t4.take k))) := hown
    have HRR : Hid (RB wr w.heap.size r.k r.x) := hRr
    have HBB : Hid (Below w.heap.size w wr) := hB
    have HGL : Hid (w1.heap.size < wr.heap.size) := hgl
    clear hown hRr hB hgl
    by_cases hlt : k < 4
    · have hlt' : (k : Int) < 4 := by omega
      have HOK : Hid (Stp.ok ⟨40 + (k : Int), 0, 0⟩) := ok_small (by omega) (by simp)
      go_wp2_with (at_builtin; refine wpList_append_ov (by rfl) (.tmp 29) (.tmp 33) 31 (by rfl) w1.heap.size 30 i0 Try.underlying31 HI0.out HI2.out w1.heap.size (l.length + k) (l.length + 4) (l ++ t4.take k) (by rfl) (HOW.out.alloc _) _ [⟨40 + (k : Int), 0, 0⟩] (by rfl) (ov_one wr ⟨40 + (k : Int), 0, 0⟩ HOK.out _) (by simp; omega) ?_; intro w5 hown5 hgrow5)
      have R' : Mem1 w w1.heap.size l r (.slice (some ⟨w1.heap.size, 0, none⟩) (l.length + k + 1) (l.length + 4)) (.int .i64 ((k : Int) + 1)) w5 := mem1_step hlt hown5 hgrow5 HRR.out HBB.out HG.out HGL.out
      clear hown5 hgrow5
      go_wp2_with fail
      go_roundw
      case rel => exact R'
      case measure => simp [intOf]; omega
    · have hk4 : k = 4 := by omega
      subst hk4
      obtain ⟨wA, hwA⟩ : ∃ wA, wA = wr := ⟨_, rfl⟩
      subst hwA
      have HMV : Hid (Mv wA w1.heap.size (l ++ t4)) := own_mv HOW.out
      have HMOK : Hid (∀ o ∈ l ++ t4, o.ok) := by
        intro o ho
        rcases List.mem_append.1 ho with h | h
        · exact HKO.out o h
        · simp [t4] at h
          rcases h with rfl | rfl | rfl | rfl <;> exact ok_small (by simp) (by simp)
      have HMO : Hid (∀ wx, Below wA.heap.size wA wx → Ov wx (.slice (some ⟨w1.heap.size, 0, none⟩) l.length (l.length + 4)) l) := fun wx h => by
        have := mv_ov (n := l.length) (cap := l.length + 4) (HMV.out.below h HGL.out) (by simp) (by simp [t4]) HMX.out HMOK.out
        rwa [List.take_left] at this
      obtain ⟨R, hRe⟩ : ∃ R, R = runS l r := ⟨_, rfl⟩
      have HE : Hid (R = runS l r) := hRe
      have hlc : (l.length : Int) ≤ (l.length : Int) + 4 := by omega
      clear hRe HOW
      go_wp2_with fail
      refine (check_walk (l := l) (by have := HMX.out; omega) (HMO.out _ (below_same _)).ol).mono ?_
      rintro e w2 ⟨rfl, hB⟩
      have HB2 : Hid (Below wA.heap.size wA w2) := hB
      clear hB
      have k0 : ∀ wx, Below w2.heap.size w2 wx → wx.cell? ⟨w.heap.size, 0, none⟩ = some (.int .u64 r.k) := fun wx h => (HRR.out.below (below_trans HB2.out h) (cell_lt HRR.out.c0)).c0
      have k1 : ∀ wx, Below w2.heap.size w2 wx → wx.cell? ⟨w.heap.size, 1, none⟩ = some (.float .f64 r.x) := fun wx h => (HRR.out.below (below_trans HB2.out h) (cell_lt HRR.out.c0)).c1
      go_wp2_with fail
      go_cut [9, 10] (fun p f wx => ∃ b', p = .pointer (some ⟨b', 0, none⟩) ∧ f = .int .i64 R.1 ∧ RB wx b' R.2.k R.2.x ∧ w2.heap.size ≤ b' ∧ Below w2.heap.size w2 wx)
      case first =>
        go_region_held3 (fun wx => Below w2.heap.size w2 wx) (first | assumption | exact (Below.refl _ _).drew | exact Below.drew ((Below.refl _ _).alloc (Nat.le_refl _) _) | exact Below.alloc (by assumption) (Below.size (by assumption)) _ | exact keep_store (by assumption) _ (Nat.le_refl _) _ _)
          (first | (go_at_call 9; refine (run_walk r HR.out (HMO.out _ (below_trans HB2.out (by assumption)))).mono ?_; rw [← HE.out]; rintro e w5 ⟨rfl, hB3⟩; have hS3 : Below w2.heap.size w2 w5 := below_trans (by assumption) hB3; try (have q0 := (new_rec hB3).c0; have q1 := (new_rec hB3).c1; have q2 := (new_rec hB3).z0; have q3 := (new_rec hB3).z1)))
        all_goals go_wp2_with fail
        all_goals go_meet
        · exact cut_new hS3 R
        · exact cut_old hS3 ⟨q0, q1, q2, q3⟩ R
      case rest =>
        obtain ⟨b9, rfl, rfl, hR9, hb9, hBc⟩ := hcut
        obtain ⟨w3, hw3⟩ : ∃ w3, w3 = wc := ⟨_, rfl⟩
        subst hw3
        have HR9 : Hid (RB w3 b9 R.2.k R.2.x) := hR9
        have HB3 : Hid (Below wA.heap.size wA w3) := below_trans HB2.out hBc
        have HB9 : Hid (wA.heap.size ≤ b9) := Nat.le_trans HB2.out.size hb9
        clear k0 k1 hBc hb9 hR9
        have k0 : ∀ wx, Below w3.heap.size w3 wx → wx.cell? ⟨w.heap.size, 0, none⟩ = some (.int .u64 r.k) := fun wx h => (HRR.out.below (below_trans HB3.out h) (cell_lt HRR.out.c0)).c0
        have k1 : ∀ wx, Below w3.heap.size w3 wx → wx.cell? ⟨w.heap.size, 1, none⟩ = some (.float .f64 r.x) := fun wx h => (HRR.out.below (below_trans HB3.out h) (cell_lt HRR.out.c0)).c1
        go_wp2_with fail
        go_cut [11, 12] (fun p f wx => ∃ b', p = .pointer (some ⟨b', 0, none⟩) ∧ f = .int .i64 R.1 ∧ RB wx b' R.2.k R.2.x ∧ w3.heap.size ≤ b' ∧ Below w3.heap.size w3 wx)
        case first =>
          go_region_held3 (fun wx => Below w3.heap.size w3 wx) (first | assumption | exact (Below.refl _ _).drew | exact Below.drew ((Below.refl _ _).alloc (Nat.le_refl _) _) | exact Below.alloc (by assumption) (Below.size (by assumption)) _ | exact keep_store (by assumption) _ (Nat.le_refl _) _ _)
            (first | (go_at_call 9; refine (run_walk r HR.out (HMO.out _ (below_trans HB3.out (by assumption)))).mono ?_; rw [← HE.out]; rintro e w5 ⟨rfl, hB3⟩; have hS3 : Below w3.heap.size w3 w5 := below_trans (by assumption) hB3; try (have q0 := (new_rec hB3).c0; have q1 := (new_rec hB3).c1; have q2 := (new_rec hB3).z0; have q3 := (new_rec hB3).z1)))
          all_goals go_wp2_with fail
          all_goals go_meet
          · exact cut_new hS3 R
          · exact cut_old hS3 ⟨q0, q1, q2, q3⟩ R
        case rest =>
          obtain ⟨b11, rfl, rfl, hR11, _, hBc⟩ := hcut
          clear k0 k1
          have HR9' : Hid (RB wc b9 R.2.k R.2.x) := HR9.out.below hBc (cell_lt HR9.out.c0)
          have HB4 : Hid (Below wA.heap.size wA wc) := below_trans HB3.out hBc
          clear hBc
          obtain ⟨s0, s1, _, _⟩ := HR9'.out
          obtain ⟨u0, u1, _, _⟩ := hR11
          go_wp2_with fail
          refine (same_walk R.2 R.2 _).mono ?_
          rw [sameB_self]
          rintro e w5 ⟨rfl, hB⟩
          have HB5 : Hid (Below wA.heap.size wA w5) := below_trans HB4.out hB
          have HR5 : Hid (RB w5 b9 R.2.k R.2.x) := HR9'.out.below hB (cell_lt HR9'.out.c0)
          clear hB s0 s1 u0 u1
          go_wp2_with fail
          refine (steps_walk (by have := HMX.out; omega) (HMO.out _ HB5.out).ol (HO.out.below (below_trans HBB.out HB5.out))).mono ?_
          rintro e w6 ⟨rfl, hB⟩
          have HB6 : Hid (Below wA.heap.size wA w6) := below_trans HB5.out hB
          have HR6 : Hid (RB w6 b9 R.2.k R.2.x) := HR5.out.below hB (cell_lt HR5.out.c0)
          clear hB
          go_wp2_with fail
          refine (check_walk (l := l) (by have := HMX.out; omega) (HMO.out _ HB6.out).ol).mono ?_
          rintro e w7 ⟨rfl, hB⟩
          have HB7 : Hid (Below wA.heap.size wA w7) := below_trans HB6.out hB
          have HR7 : Hid (RB w7 b9 R.2.k R.2.x) := HR6.out.below hB (cell_lt HR6.out.c0)
          clear hB
          have HM7 : Hid (Mv w7 w1.heap.size (l ++ t4)) := HMV.out.below HB7.out HGL.out
          go_wp2_with fail
          go_loop [13] (fun iv => ∃ k : Nat, k ≤ 4 ∧ iv = .int .i64 k) (fun iv => 4 - (intOf iv).toNat)
          case atStart => exact ⟨0, by omega, rfl⟩
          case round =>
            obtain ⟨k, hk, rfl⟩ := hrel
            by_cases hlt : k < 4
            · have hlt' : (k : Int) < 4 := by omega
              have hcell : w7.cell? ⟨w1.heap.size, (l.length + k) * 3, none⟩ = some (.int .i64 (40 + (k : Int))) := mv_t4 HM7.out hlt
              have hidx : (0 : Int) ≤ (l.length : Int) + (k : Int) ∧ (l.length : Int) + (k : Int) < ((l.length + 4 : Nat) : Int) := by omega
              go_wp2_with fail
              go_round
              case rel => exact ⟨k + 1, by omega, by go_num⟩
              case measure => simp [intOf]; omega
            · have R0 : Mem3 w w1.heap.size b9 l r R (.int .i64 0) w7 :=
                ⟨0, Nat.zero_le _, rfl, by simpa using HM7.out, HRR.out.below HB7.out (cell_lt HRR.out.c0), HR7.out, below_trans HBB.out HB7.out⟩
              have HN9 : Hid (b9 ≠ w1.heap.size ∧ w.heap.size ≠ w1.heap.size ∧ w.heap.size ≤ w1.heap.size ∧ w.heap.size ≠ b9 ∧ w.heap.size ≤ b9) := by
                have := HGL.out; have := HB9.out; have := HG.out; show _ ∧ _; omega
              go_wp2_with fail
              go_loopw [14] (fun iv wr => Mem3 w w1.heap.size b9 l r R iv wr) (fun iv _ => l.length - (intOf iv).toNat)
              case atStart => exact R0
              case round =>
                clear R0 HM7 HB7 HR7
                obtain ⟨j, hj, rfl, hM, h1, h2, hB⟩ := hrel
                have HM : Hid (Mv wr w1.heap.size (List.replicate j o4 ++ (l ++ t4).drop j)) := hM
                have H1 : Hid (RB wr w.heap.size r.k r.x) := h1
                have H2 : Hid (RB wr b9 R.2.k R.2.x) := h2
                have HB : Hid (Below w.heap.size w wr) := hB
                clear hM h1 h2 hB
                by_cases hlj : j < l.length
                · have hlj' : (j : Int) < (l.length : Int) := by omega
                  have hidx : (0 : Int) ≤ (j : Int) ∧ (j : Int) < ((l.length + 4 : Nat) : Int) := by omega
                  obtain ⟨⟨c0, c1, c2⟩, z0, z1, z2⟩ := HM.out j (by simp; omega)
                  have R' := mem3_step hlj HM.out H1.out H2.out HB.out HN9.out
                  go_wp2_with fail
                  go_roundw
                  case rel => exact R'
                  case measure => simp [intOf]; omega
                · have hjl : j = l.length := by omega
                  subst hjl
                  have HM3 : Hid (∀ wx, Below wr.heap.size wr wx → Ov wx (.slice (some ⟨w1.heap.size, 0, none⟩) l.length (l.length + 4)) (List.replicate l.length o4)) := fun wx h => mem3_ov (HM.out.below h (cell_of_mv HM.out)) HMX.out
                  obtain ⟨U, hUe⟩ : ∃ U, U = runS (List.replicate l.length o4) r := ⟨_, rfl⟩
                  have HU : Hid (U = runS (List.replicate l.length o4) r) := hUe
                  have HD : Hid (Below wr.heap.size wr wr.drew) := (Below.refl _ _).drew
                  clear hUe HMO HMV
                  obtain ⟨c0, c1, _, _⟩ := H1.out
                  obtain ⟨d0, d1, y0, y1⟩ := H2.out
                  go_wp2_with fail
                  go_cut [10] (fun f wx => ∃ wy, Below wr.heap.size wr wy ∧ f = .int .i64 U.1 ∧ wx = (wy.setCell ⟨b9, 0, none⟩ (.int .u64 U.2.k)).setCell ⟨b9, 1, none⟩ (.float .f64 U.2.x))
                  case first =>
                    go_region_with ((go_at_call 9; refine (run_walk r HR.out (HM3.out _ HD.out)).mono ?_; rw [← HU.out]; rintro e w9 ⟨rfl, hB9⟩; have hS9 : Below wr.heap.size wr w9 := below_trans HD.out hB9; have f0 := (H2.out.below hS9 (cell_lt H2.out.c0)).c0; have f1 := (H2.out.below hS9 (cell_lt H2.out.c0)).c1; have f2 := (H2.out.below hS9 (cell_lt H2.out.c0)).z0; have f3 := (H2.out.below hS9 (cell_lt H2.out.c0)).z1))
                    all_goals go_wp2_with fail
                    all_goals go_meet
                    all_goals exact ⟨_, hS9, rfl, rfl⟩
                  case rest =>
                    obtain ⟨wy, hBy, rfl, rfl⟩ := hcut
                    clear c0 c1 d0 d1 y0 y1
                    generalize hg : (wy.setCell ⟨b9, 0, none⟩ (.int .u64 U.2.k)).setCell ⟨b9, 1, none⟩ (.float .f64 U.2.x) = wz
                    have HX : Hid (RB wz b9 U.2.k U.2.x) := by show RB _ _ _ _; rw [← hg]; exact (H2.out.below hBy (cell_lt H2.out.c0)).set _ _
                    have HRZ : Hid (RB wz w.heap.size r.k r.x) := by show RB _ _ _ _; rw [← hg]; exact ((H1.out.below hBy (cell_lt H1.out.c0)).other HN9.out.2.2.2.1 _).other HN9.out.2.2.2.1 _
                    have HBZ : Hid (Below w.heap.size w wz) := by show Below _ _ _; rw [← hg]; exact ((below_trans HB.out hBy).setCell HN9.out.2.2.2.2 _).setCell HN9.out.2.2.2.2 _
                    clear hg hBy
                    by_cases h8 : (8 : Int) < (l.length : Int)
                    · have e0 : (U.1 == 0) = true := by rw [HU.out, rep_long (by omega)]; rfl
                      go_wp2_with fail
                      go_ret
                      exact ⟨rfl, HBZ.out⟩
                    · have hUV := rep_short (n := l.length) (r := r) (by omega) HR.out.2
                      rw [← HU.out] at hUV
                      have e1 : (U.1 == 1) = true := by rw [hUV]; rfl
                      have e2 : ((U.2.k : Int) == (r.k : Int)) = true := by rw [hUV]; simp
                      have HUX : Hid (U.2.x = negV l.length (canonW r.x)) := by show _ = _; rw [hUV]
                      clear hUV
                      obtain ⟨c0, c1, _, _⟩ := HRZ.out
                      obtain ⟨d0, d1, _, _⟩ := HX.out
                      cases hn : nanB r.x
                      · have ox : FloatKind.f64.format.order r.x r.x = some .eq := ord_eq' HR.out.2 HR.out.2 hn hn rfl
                        have hs := negV_same HR.out.2 hn l.length
                        rw [← HUX.out] at hs
                        go_wp2_with fail
                        refine (rsame_walk _ _ _).mono ?_
                        rw [hs]
                        rintro e w' ⟨rfl, rfl⟩
                        go_wp2_with fail
                        go_ret
                        exact ⟨rfl, HBZ.out⟩
                      · have ox : FloatKind.f64.format.order r.x r.x = none := order_nan_left HR.out.2 hn
                        go_wp2_with fail
                        go_ret
                        exact ⟨rfl, HBZ.out⟩
end Go.Proofs.Ytkpfjoklbindjab
