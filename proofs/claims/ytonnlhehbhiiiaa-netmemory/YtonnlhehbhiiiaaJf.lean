/- Contracts of the reader's ends, value, keys, pairs. -/
import Derived.Test.YtonnlhehbhiiiaaJe

namespace Go.Proofs.Ytonnlhehbhiiiaa

open Go.RowKit

variable {M : Nat}



theorem t2_litB {r : Nat × Nat} {a b : Nat} (h : r = (a, b)) : t2 r = .tuple #[.int .u64 a, .int .i64 b] := by subst h; rfl
structure VB (w : World) (b : Nat) (v : Vl) : Prop where
  c0 : w.cell? ⟨b, 0, none⟩ = some (.bool v.h)
  c1 : w.cell? ⟨b, 1, none⟩ = some (.int .u64 v.b)
  z : ∀ j, w.frozen? ⟨b, j, none⟩ = false
theorem vb_new (w : World) (v : Vl) : VB (w.alloc (Obj.cells #[.bool v.h, .int .u64 v.b] 58)) w.heap.size v := by
  constructor <;> simp [go_sem]
theorem VB.ch {D : Nat → Prop} {w w' : World} {b : Nat} {v : Vl} (h : VB w b v) (hc : Ch D w w') (hd : ¬ D b) : VB w' b v :=
  ⟨hc.cell h.c0 hd, hc.cell h.c1 hd, fun j => by
    have e := hc.block b (cell_lt h.c0) hd
    have hz := h.z j
    unfold World.frozen? at hz ⊢
    rw [e]; exact hz⟩
theorem RD.setV {w : World} {R B : Nat} {v : Value} {a : Vl} {l : List Nat} {f : Nat} (h : RD M w R v l f) (hv : VB w B a) (hne : B ≠ R) (y : Bool) (x : Int) : RD M ((w.setCell ⟨B, 0, none⟩ (.bool y)).setCell ⟨B, 1, none⟩ (.int .u64 x)) R v l f :=
  (h.setB hne hv.c0 (by intro x e; cases e) _).setB hne (u := .int .u64 a.b) (by rw [World.cell?_setCell_other _ _ _ _ (by rintro ⟨⟩)]; exact hv.c1) (by intro x e; cases e) _
theorem ch_set2 {w0 w : World} {R B : Nat} (h : Ch (fun x => x = R) w0 w) (hB : w0.heap.size ≤ B) (i j : Nat) (u v : Value) : Ch (fun x => x = R) w0 ((w.setCell ⟨B, i, none⟩ u).setCell ⟨B, j, none⟩ v) :=
  (h.trans (ch_set _ _ _ _) (fun x hx => by subst hx; exact .inr hB)).trans (ch_set _ _ _ _) (fun x hx => by subst hx; exact .inr hB)


theorem info_pair : (Try.prog.info? 60).map (fun i => (i.zero, i.size, i.bytes)) = some (some (.agg #[.int .u64 0, .bool false, .int .u64 0]), 3, 24) := by kernel_rfl


theorem qv_one (w : World) (p : Pr) (hp : p.ok) (t : TypeId) : Qv (w.alloc (Obj.cells #[.int .u64 p.k, .bool p.v.h, .int .u64 p.v.b] t)) (.slice (some ⟨w.heap.size, 0, none⟩) 1 1) [p] := by
  refine ⟨⟨_, 1, rfl, by simp, by simp [maxLen], by simp, fun i hi => ?_⟩, by simpa using hp⟩
  have : i = 0 := by simpa using hi
  subst this
  refine ⟨_, _, rfl, ?_, ?_, ?_⟩ <;> simp [go_sem]


theorem qv_at (w : World) (p : Pr) (hp : p.ok) (t : TypeId) (g : Nat) (hg : g = w.heap.size) : Qv (w.alloc (Obj.cells #[.int .u64 p.k, .bool p.v.h, .int .u64 p.v.b] t)) (.slice (some ⟨g, 0, none⟩) 1 1) [p] := by
  subst hg; exact qv_one w p hp t


theorem wpList_append_qs {P : Program} {w : World} {ops : Array Oper} {rest : List Oper} {o : Oper} {a : Act} {Q : Exit → Act → World → Prop} (hgd : o.guard = none) (s x : Operand) (t : TypeId)
    (ho : o.op = .call { callee := .builtin .append, args := #[s, x], argTypes := #[t, t] })
    (base : Nat) (e : TypeId) (i0 : TypeInfo) (ht : P.underlying t = some (.slice e)) (hi : P.info? e = some i0) (hz0 : i0.zero = some (.agg #[.int .u64 0, .bool false, .int .u64 0])) (hz1 : i0.size = 3) (hz2 : i0.bytes = 24)
    (v : Value) (n : Nat) (m : List Pr) (hs : a.eval s = v) (hown : w.ownsRow base e 3 v n (flatQ m))
    (y : Value) (l : List Pr) (hx : a.eval x = y) (hy : Qv w y l) (h63 : n + l.length ≤ maxLen) (hb : (n + l.length) * 24 ≤ 140737488355328) (hbase : base ≤ w.heap.size)
    (h : ∀ v' w', w'.ownsRow base e 3 v' (n + l.length) (flatQ (m ++ l)) → w.grownBy w' v.ownBlock → wpList P ops Q rest (a.put o.dst v') w') : wpList P ops Q (o :: rest) a w := by
  obtain ⟨⟨ao, c, rfl, hc1, hc2, hnone, hcells⟩, _⟩ := hy
  cases ao with
  | none =>
    obtain rfl := hnone rfl
    have hl0 : l.length = 0 := by omega
    have hl : l = [] := List.eq_nil_of_length_eq_zero hl0
    subst hl
    refine wpList_append_own_none hgd s x t ho base e i0 3 ht hi _ n (flatQ m) hs hown hx ?_
    exact h v w (by simpa using hown) ⟨rfl, rfl, rfl, Nat.le_refl _, fun _ _ _ => rfl⟩
  | some p =>
    refine wpList_append_own w hgd s x t ho base e i0 (.agg #[.int .u64 0, .bool false, .int .u64 0]) 3 24 ht hi hz0 hz1 hz2 rfl (by decide) v n (flatQ m) hs hown p l.length c (flatQ l) hx (flatQ_len l) ?_ (fun u hu => flatQ_mem hu) h63 hb hbase (fun v' w' h1 h2 _ => h v' w' (by rw [flatQ_append]; exact h1) h2)
    intro j u hj
    have hjl : j < l.length * 3 := by
      rcases Nat.lt_or_ge j (l.length * 3) with h | h
      · exact h
      · rw [List.getElem?_eq_none (by rw [flatQ_len]; exact h)] at hj; cases hj
    obtain ⟨b, off, e1, g0, g1, g2⟩ := hcells (j / 3) (by omega)
    cases e1
    obtain ⟨f0, f1, f2⟩ := flatQ_get l (j / 3) (by omega)
    rw [WideShapes.add_plain]
    have hmod : j % 3 = 0 ∨ j % 3 = 1 ∨ j % 3 = 2 := by omega
    rcases hmod with hm | hm | hm
    · have e2 : j / 3 * 3 = j := by omega
      rw [e2] at f0 g0
      rw [f0] at hj; rw [g0, hj]
    · have e2 : j / 3 * 3 + 1 = j := by omega
      rw [Nat.add_assoc, e2] at g1
      rw [e2] at f1
      rw [f1] at hj; rw [g1, hj]
    · have e2 : j / 3 * 3 + 2 = j := by omega
      rw [Nat.add_assoc, e2] at g2
      rw [e2] at f2
      rw [f2] at hj; rw [g2, hj]


theorem tn_le {l q : List Nat} {z : Nat} (hl : ∀ c ∈ l, c < 256) (hq : Wm.takeNums l 4 = (q, z, 0)) : z ≤ l.length ∧ ∀ x ∈ q, x ≤ 4611686018427387904 := by
  obtain ⟨x, n, e, ht⟩ : ∃ x n e, Wm.take l = (x, n, e) := ⟨_, _, _, rfl⟩
  by_cases h1 : e = 0
  · subst h1
    rw [tn_go4 ht] at hq
    by_cases h4 : 4 < x
    · rw [if_pos h4] at hq; simp at hq
    · rw [if_neg h4] at hq
      have hc := take_cut hl ht
      have hn : n ≤ l.length := by have h1 := congrArg List.length hc.1; rw [List.length_append, ← hc.2.2] at h1; omega
      obtain ⟨xs, i1, _, i3, i4, _⟩ := tn_back x l n [] q z hl hn hq
      simp only [List.nil_append] at i1
      subst i1
      exact ⟨i4, i3⟩
  · rw [tn_err4 (by rw [ht]; exact h1), ht] at hq
    simp at hq
    exact absurd hq.2.2 h1
theorem rd_chR {w : World} {R : Nat} {v : Value} {l : List Nat} {f : Nat} (h : RD M w R v l f) : R < w.heap.size := cell_lt h.c0


/-- What a call that reads a list leaves: D its fault, its list, the bytes behind. -/
def LGot (M R : Nat) {α : Type} (T sz : Nat) (fl : List α → List Value) (D : Nat × List α × List Nat) (f : Nat) (w : World) (e : Ending) (w' : World) : Prop :=
  (D.1 ≠ 0 ∧ Bad R D.1 w e w') ∨ (D.1 = 0 ∧ ∃ y, e = .returned y ∧ w'.ownsRow w.heap.size T sz y D.2.1.length (fl D.2.1) ∧ (∃ v', RD M w' R v' D.2.2 f) ∧ Ch (fun x => x = R) w w')
def flI (l : List Nat) : List Value := (ib l).map (Value.int .i64)
def flU (l : List Nat) : List Value := (ib l).map (Value.int .u64)





/-! Lists that are read one by one. -/
def At {α : Type} (D S : Nat × List α × List Nat) (acc : List α) : Prop := D.1 = S.1 ∧ (S.1 = 0 → D.2.1 = acc ++ S.2.1 ∧ D.2.2 = S.2.2)
theorem at_start {α : Type} (D : Nat × List α × List Nat) : At D D [] := ⟨rfl, fun _ => ⟨rfl, rfl⟩⟩
theorem key_step {D : Nat × List Nat × List Nat} {k : Nat} {l acc : List Nat} (h : At D (keyS (k + 1) l) acc) (h0 : (Wm.take l).2.2 = 0) : At D (keyS k (l.drop (Wm.take l).2.1)) (acc ++ [(Wm.take l).1]) := by
  unfold At at h ⊢
  rw [keyS, if_neg (by simpa using h0)] at h
  by_cases q : (keyS k (l.drop (Wm.take l).2.1)).1 = 0
  · rw [if_neg (by simpa using q)] at h
    refine ⟨by rw [q]; exact h.1, fun _ => ?_⟩
    obtain ⟨a, b⟩ := h.2 rfl
    exact ⟨by rw [a]; simp, b⟩
  · rw [if_pos q] at h
    exact ⟨h.1, fun e => absurd e q⟩
theorem key_stop {D : Nat × List Nat × List Nat} {k : Nat} {l acc : List Nat} (h : At D (keyS (k + 1) l) acc) (h0 : (Wm.take l).2.2 ≠ 0) : D.1 = (Wm.take l).2.2 := by
  unfold At at h
  rw [keyS, if_pos h0] at h
  exact h.1
theorem pair_step {D : Nat × List Pr × List Nat} {k : Nat} {l : List Nat} {acc : List Pr} (h : At D (pairS (k + 1) l) acc) (h0 : (Wm.take l).2.2 = 0) (h8 : ¬ (l.drop (Wm.take l).2.1).length < 8) :
    At D (pairS k ((l.drop (Wm.take l).2.1).drop 8)) (acc ++ [⟨(Wm.take l).1, ⟨true, (Wm.takeW (l.drop (Wm.take l).2.1)).1⟩⟩]) := by
  unfold At at h ⊢
  rw [pairS, if_neg (by simpa using h0), if_neg (by rw [takeW_ok h8]; simp)] at h
  by_cases q : (pairS k ((l.drop (Wm.take l).2.1).drop 8)).1 = 0
  · rw [if_neg (by simpa using q)] at h
    refine ⟨by rw [q]; exact h.1, fun _ => ?_⟩
    obtain ⟨a, b⟩ := h.2 rfl
    exact ⟨by rw [a]; simp, b⟩
  · rw [if_pos q] at h
    exact ⟨h.1, fun e => absurd e q⟩
theorem pair_stop {D : Nat × List Pr × List Nat} {k : Nat} {l : List Nat} {acc : List Pr} (h : At D (pairS (k + 1) l) acc) (h0 : (Wm.take l).2.2 ≠ 0) : D.1 = (Wm.take l).2.2 := by
  unfold At at h
  rw [pairS, if_pos h0] at h
  exact h.1
theorem pair_stop8 {D : Nat × List Pr × List Nat} {k : Nat} {l : List Nat} {acc : List Pr} (h : At D (pairS (k + 1) l) acc) (h0 : (Wm.take l).2.2 = 0) (h8 : (l.drop (Wm.take l).2.1).length < 8) : D.1 = 3 := by
  unfold At at h
  rw [pairS, if_neg (by simpa using h0), if_pos (by rw [takeW_short h8]; simp), takeW_short h8] at h
  exact h.1
def keyD (l : List Nat) : Nat × List Nat × List Nat := if (manL l).1 ≠ 0 then ((manL l).1, [], []) else keyS (manL l).2.1 (manL l).2.2
def pairD (l : List Nat) : Nat × List Pr × List Nat := if (manL l).1 ≠ 0 then ((manL l).1, [], []) else pairS (manL l).2.1 (manL l).2.2
theorem man_le {l : List Nat} : (manL l).2.1 ≤ 64 := by
  unfold manL
  repeat' split
  all_goals simp
  omega
def KRel (M R x : Nat) (D : Nat × List Nat × List Nat) (f : Nat) (w : World) (kv iv : Value) (wr : World) : Prop :=
  ∃ (i : Nat) (acc : List Nat) (v : Value) (l : List Nat), iv = .int .u64 i ∧ i ≤ x ∧ acc.length = i ∧ At D (keyS (x - i) l) acc ∧ RD M wr R v l f ∧ wr.ownsRow w.heap.size 56 1 kv acc.length ((ib acc).map (Value.int .u64)) ∧ Ch (fun x => x = R) w wr




def PRel (M R x : Nat) (D : Nat × List Pr × List Nat) (f : Nat) (w : World) (kv iv : Value) (wr : World) : Prop :=
  ∃ (i : Nat) (acc : List Pr) (v : Value) (l : List Nat), iv = .int .u64 i ∧ i ≤ x ∧ acc.length = i ∧ At D (pairS (x - i) l) acc ∧ RD M wr R v l f ∧ wr.ownsRow w.heap.size 60 3 kv acc.length (flatQ acc) ∧ Ch (fun x => x = R) w wr
theorem takeW_lt {l : List Nat} (hl : ∀ c ∈ l, c < 256) : (Wm.takeW l).1 < 18446744073709551616 := by
  unfold Wm.takeW
  split
  · simp
  · rename_i h
    have := Wm.unw_lt (l.take 8) (fun c hc => hl c (List.mem_of_mem_take hc))
    rw [show (l.take 8).length = 8 by rw [List.length_take]; omega] at this
    exact this
theorem take_lt {l : List Nat} (hl : ∀ c ∈ l, c < 256) : (Wm.take l).1 < 18446744073709551616 := by
  rcases Wm.take_form l hl with ⟨e, h1, _⟩ | ⟨x, n, h1, h2, _⟩
  · rw [h1]; simp
  · rw [h1]; exact h2
theorem qv_pair (w : World) (k b : Nat) (hk : k < 18446744073709551616) (hb : b < 18446744073709551616) (t : TypeId) : Qv (w.alloc (Obj.cells #[.int .u64 k, .bool true, .int .u64 b] t)) (.slice (some ⟨w.heap.size, 0, none⟩) 1 1) [⟨k, ⟨true, b⟩⟩] := qv_one w ⟨k, ⟨true, b⟩⟩ ⟨hk, hb⟩ t


end Go.Proofs.Ytonnlhehbhiiiaa


