/- StoreMemory: the walk. -/
import Derived.Test.YtofkhgokfdpdiabGreatB50
import Derived.Test.YtofkhgokfdpdiabGreatB48
import Derived.Laws.AppendOwnNone
import Derived.Test.YtofkhgokfdpdiabGreatB02
set_option maxRecDepth 100000
set_option maxHeartbeats 16000000
namespace Go.Proofs.YtofkhgokfdpdiabGreat
section
open Go.RowKit

theorem make_k {q : Nat} (hq : q ≤ 64) : ∀ wx : World, (Instr.makeSlice 30 (.int .i64 0) (.int .i64 q)).run Tryz.prog wx = .ok (.slice (some ⟨wx.heap.size, 0, none⟩) 0 q) (wx.alloc (.cells (madeCells #[.int .u64 0] (q * 1)) 33)) := fun wx => by
 obtain ⟨i0, hi0, hz0, hz1, hz2⟩ := info_partsVB info_u64
 have := run_make (P := Tryz.prog) wx 30 33 i0 (.int .u64 0) Tryz.underlying30 hi0 hz0 .i64 .i64 0 q (by omega) (by omega) (by rw [hz2]; omega) (by omega)
 rw [hz1] at this
 simp only [Int.toNat_natCast] at this
 exact this
theorem make_p {q : Nat} (hq : q ≤ 64) : ∀ wx : World, (Instr.makeSlice 29 (.int .i64 0) (.int .i64 q)).run Tryz.prog wx = .ok (.slice (some ⟨wx.heap.size, 0, none⟩) 0 q) (wx.alloc (.cells (madeCells #[.int .u64 0, .bool false, .int .u64 0] (q * 3)) 60)) := fun wx => by
 obtain ⟨i0, hi0, hz0, hz1, hz2⟩ := info_partsVB info_pair
 have := run_make (P := Tryz.prog) wx 29 60 i0 (.agg #[.int .u64 0, .bool false, .int .u64 0]) Tryz.underlying29 hi0 hz0 .i64 .i64 0 q (by omega) (by omega) (by rw [hz2]; omega) (by omega)
 rw [hz1] at this
 simp only [Int.toNat_natCast] at this
 exact this
theorem own_madeM (w : World) {base q s : Nat} {e : TypeId} {zs : Array Value} (hb : base ≤ w.heap.size) (hq : q ≤ maxLen) : (w.alloc (.cells (madeCells zs (q * s)) e)).ownsRow base e s (.slice (some ⟨w.heap.size, 0, none⟩) 0 q) 0 [] :=
 ⟨by simp, .inr ⟨_, q, _, rfl, hb, heap_alloc_new w _, Nat.zero_le _, hq, by rw [size_madeCells], by simp⟩⟩
theorem wpList_append_qsM {P : Program} {w : World} {ops : Array Oper} {rest : List Oper} {o : Oper} {a : Act} {Q : Exit → Act → World → Prop} (hgd : o.guard = none) (s x : Operand) (t : TypeId)
  (ho : o.op = .call { callee := .builtin .append, args := #[s, x], argTypes := #[t, t] })
  (base : Nat) (e : TypeId) (i0 : TypeInfo) (ht : P.underlying t = some (.slice e)) (hi : P.info? e = some i0) (hz0 : i0.zero = some (.agg #[.int .u64 0, .bool false, .int .u64 0])) (hz1 : i0.size = 3) (hz2 : i0.bytes = 24)
  (v : Value) (n : Nat) (m : List Pr) (hs : a.eval s = v) (hown : w.ownsRow base e 3 v n (flatQ m))
  (y : Value) (l : List Pr) (hx : a.eval x = y) (hy : Qv w y l) (h63 : n + l.length ≤ maxLen) (hb : (n + l.length) * 24 ≤ 140737488355328) (hbase : base ≤ w.heap.size)
  (h : ∀ v' w', w'.ownsRow base e 3 v' (n + l.length) (flatQ (m ++ l)) → w.grownBy w' v.ownBlock → wpList P ops Q rest (a.put o.dst v') w') : wpList P ops Q (o :: rest) a w := by
 obtain ⟨⟨ao, c, rfl, hc1, hc2, hnone, hcells⟩, _⟩ := hy
 cases ao with
 | none =>
  obtain rfl := hnone rfl
  have hl0 : l.length = 0 := by omega
  have hl : l = [] := List.eq_nil_of_length_eq_zero hl0
  subst hl
  refine wpList_append_own_none hgd s x t ho base e i0 3 ht hi _ n (flatQ m) hs hown hx ?_
  exact h v w (by simpa using hown) ⟨rfl, rfl, rfl, Nat.le_refl _, fun _ _ _ => rfl⟩
 | some p =>
  refine wpList_append_own w hgd s x t ho base e i0 (.agg #[.int .u64 0, .bool false, .int .u64 0]) 3 24 ht hi hz0 hz1 hz2 rfl (by decide) v n (flatQ m) hs hown p l.length c (flatQ l) hx (flatQ_len l) ?_ (fun u hu => flatQ_mem hu) h63 hb hbase (fun v' w' h1 h2 _ => h v' w' (by rw [flatQ_append]; exact h1) h2)
  intro j u hj
  have hjl : j < l.length * 3 := by
   rcases Nat.lt_or_ge j (l.length * 3) with h | h
   ·exact h
   ·rw [List.getElem?_eq_none (by rw [flatQ_len]; exact h)] at hj; cases hj
  obtain ⟨b, off, e1, g0, g1, g2⟩ := hcells (j / 3) (by omega)
  cases e1
  obtain ⟨f0, f1, f2⟩ := flatQ_get l (j / 3) (by omega)
  rw [WideShapes.add_plain]
  have hmod : j % 3 = 0 ∨ j % 3 = 1 ∨ j % 3 = 2 := by omega
  rcases hmod with hm | hm | hm
  ·have e2 : j / 3 * 3 = j := by omega
   rw [e2] at f0 g0
   rw [f0] at hj; rw [g0, hj]
  ·have e2 : j / 3 * 3 + 1 = j := by omega
   rw [Nat.add_assoc, e2] at g1
   rw [e2] at f1
   rw [f1] at hj; rw [g1, hj]
  ·have e2 : j / 3 * 3 + 2 = j := by omega
   rw [Nat.add_assoc, e2] at g2
   rw [e2] at f2
   rw [f2] at hj; rw [g2, hj]
def Mu (w : World) (g : Nat) (l : List Nat) : Prop := ∀ i, (h : i < l.length) → w.cell? ⟨g, i, none⟩ = some (.int .u64 l[i]) ∧ w.frozen? ⟨g, i, none⟩ = false
def Rcl (w : World) (g N : Nat) : Prop := ∀ o, o < N → (∃ x, w.cell? ⟨g, o, none⟩ = some x) ∧ w.frozen? ⟨g, o, none⟩ = false
section

variable {w w' : World} {g N n cap : Nat} {l : List Nat} {D : Nat → Prop}

theorem Rcl.put {g' : Nat} {v : Value} (h : Rcl w g N) (_hv : v.ownBlock = some g) {o' : Nat} {u : Value} : Rcl (w.setCell ⟨g', o', none⟩ u) g N := by
 intro o ho
 obtain ⟨⟨x, hx⟩, hz⟩ := h o ho
 by_cases e : (⟨g', o', none⟩ : Addr) = ⟨g, o, none⟩
 ·cases e
  exact ⟨⟨u, by simp [go_sem, hx]⟩, by simpa [go_sem] using hz⟩
 ·exact ⟨⟨x, by rw [World.cell?_setCell_other _ _ _ _ e]; exact hx⟩, by simpa [go_sem] using hz⟩
theorem Mu.set (h : Mu w g l) (j x : Nat) : Mu (w.setCell ⟨g, j, none⟩ (.int .u64 x)) g (l.set j x) := by
 intro i hi
 rw [List.length_set] at hi
 obtain ⟨h1, h2⟩ := h i hi
 by_cases e : j = i
 ·subst e
  exact ⟨by simp [go_sem, h1], by simpa [go_sem] using h2⟩
 ·exact ⟨by rw [World.cell?_setCell_other _ _ _ _ (by intro q; cases q; exact e rfl), List.getElem_set_ne e]; exact h1, by simpa [go_sem] using h2⟩
theorem Mu.ch (h : Mu w g l) (hc : Ch D w w') (hd : ¬ D g) : Mu w' g l := by
 intro i hi
 obtain ⟨h1, h2⟩ := h i hi
 exact ⟨hc.cell h1 hd, by rw [frozen_ch (p := ⟨g, i, none⟩) hc (cell_lt h1) hd]; exact h2⟩
theorem mq_ch {m : List Pr} (h : Mq w g m) (hc : Ch D w w') (hd : ¬ D g) : Mq w' g m := by
 intro i hi
 obtain ⟨⟨a, b, c⟩, d, e, f⟩ := h i hi
 have hl := cell_lt a
 exact ⟨⟨hc.cell a hd, hc.cell b hd, hc.cell c hd⟩, by rw [frozen_ch (p := ⟨g, i * 3, none⟩) hc hl hd]; exact d, by rw [frozen_ch (p := ⟨g, i * 3 + 1, none⟩) hc hl hd]; exact e, by rw [frozen_ch (p := ⟨g, i * 3 + 2, none⟩) hc hl hd]; exact f⟩
theorem Mu.kv (h : Mu w g l) (hn : n ≤ l.length) (hc : l.length ≤ cap) (hm : cap ≤ maxLen) : Kv w (.slice (some ⟨g, 0, none⟩) n cap) (l.take n) := by
 have e : (l.take n).length = n := by rw [List.length_take]; omega
 refine ⟨some ⟨g, 0, none⟩, cap, by rw [ib_len, e], by rw [ib_len, e]; omega, hm, by simp, fun i hi => ⟨g, 0, rfl, ?_⟩⟩
 rw [ib_len, e] at hi
 rw [Nat.zero_add, (h i (by omega)).1]
 have hi2 : i < l.length := by omega
 simp [ib, hi, hi2]
theorem mu_own {base : Nat} {v : Value} (h : w.ownsRow base 33 1 v l.length ((ib l).map (Value.int .u64))) (hp : 0 < l.length) : ∃ g cap, v = .slice (some ⟨g, 0, none⟩) l.length cap ∧ l.length ≤ cap ∧ cap ≤ maxLen ∧ base ≤ g ∧ g < w.heap.size ∧ Mu w g l := by
 rcases h.2 with ⟨_, h0⟩ | ⟨g, cap, cur, rfl, hg, hh, hnc, hcm, hcs, htk⟩
 ·omega
 ·refine ⟨g, cap, rfl, hnc, hcm, hg, (Array.getElem?_eq_some_iff.1 hh).1, fun i hi => ⟨?_, by simp [World.frozen?, hh]⟩⟩
  rw [cell_of_row w g i cur 33 (0, 0) hh]
  have e := congrArg (fun x => x[i]?) htk
  simp only [List.getElem?_take, Nat.mul_one, hi, if_true, Array.getElem?_toList] at e
  rw [e]
  simp [ib, hi]
theorem rc_own {base e s : Nat} {v : Value} {xs : List Value} (h : w.ownsRow base e s v n xs) : (v = .slice none 0 0 ∧ n = 0) ∨ ∃ g cap, v = .slice (some ⟨g, 0, none⟩) n cap ∧ base ≤ g ∧ g < w.heap.size ∧ Rcl w g (n * s) := by
 rcases h.2 with ⟨h1, h0⟩ | ⟨g, cap, cur, rfl, hg, hh, hnc, hcm, hcs, htk⟩
 ·exact .inl ⟨h1, h0⟩
 ·refine .inr ⟨g, cap, rfl, hg, (Array.getElem?_eq_some_iff.1 hh).1, fun o ho => ⟨?_, by simp [World.frozen?, hh]⟩⟩
  have hlt : o < cur.size := by rw [hcs]; exact Nat.lt_of_lt_of_le ho (Nat.mul_le_mul_right _ hnc)
  exact ⟨cur[o], by rw [cell_of_row w g o cur e (0, 0) hh]; simp [hlt]⟩
theorem mq_ownM {base : Nat} {v : Value} {m : List Pr} (h : w.ownsRow base 60 3 v m.length (flatQ m)) (hp : 0 < m.length) : ∃ g cap, v = .slice (some ⟨g, 0, none⟩) m.length cap ∧ m.length ≤ cap ∧ cap ≤ maxLen ∧ base ≤ g ∧ g < w.heap.size ∧ Mq w g m := by
 have hh := h
 rcases hh.2 with ⟨_, h0⟩ | ⟨g, cap, cur, rfl, hg, hh, hnc, hcm, hcs, htk⟩
 ·omega
 ·exact ⟨g, cap, rfl, hnc, hcm, hg, (Array.getElem?_eq_some_iff.1 hh).1, own_mq h⟩
theorem sv_two (w : World) (e : TypeId) (a b : Int) : Sv .u64 (w.alloc (.cells #[.int .u64 a, .int .u64 b] e)) (.slice (some ⟨w.heap.size, 0, none⟩) 2 2) [a, b] := sv_lit .u64 w e [a, b] (by simp [maxLen])
theorem qv_two (w : World) (p q : Pr) (hp : p.ok) (hq : q.ok) : Qv (w.alloc (.cells #[.int .u64 p.k, .bool p.v.h, .int .u64 p.v.b, .int .u64 q.k, .bool q.v.h, .int .u64 q.v.b] 60)) (.slice (some ⟨w.heap.size, 0, none⟩) 2 2) [p, q] := by
 refine ⟨⟨_, 2, rfl, Nat.le_refl _, by simp [maxLen], by simp, fun i hi => ?_⟩, fun o ho => ?_⟩
 ·have h : i = 0 ∨ i = 1 := by simp at hi; omega
  rcases h with rfl | rfl
  ·exact ⟨w.heap.size, 0, rfl, by simp [go_sem], by simp [go_sem], by simp [go_sem]⟩
  ·exact ⟨w.heap.size, 0, rfl, by simp [go_sem], by simp [go_sem], by simp [go_sem]⟩
 ·simp at ho
  rcases ho with rfl | rfl
  ·exact hp
  ·exact hq
theorem mc_rc {d : List Cl} (h : Mc w g d) : Rcl w g (d.length * 6) := by
 intro o ho
 have hi : o / 6 < d.length := by omega
 obtain ⟨h1, h2⟩ := h (o / 6) (o % 6) hi (by omega)
 rw [show o / 6 * 6 + o % 6 = o by omega] at h1 h2
 exact ⟨⟨_, by rw [h1]; exact clF_some _ (by omega)⟩, h2⟩
end
end
section
open Go.RowKit

section

variable {wz w w' : World} {K E : Nat → Prop} {sp sb : Nat} {k : Int} {m : Mk} {Ls : List (List Cl)} {c : Int → Prop} {N : Nat}

theorem Cr.chK (h : Cr wz K sp sb k m Ls c N w) (hc : Ch E w w') (hE : ∀ x, E x → K x) : Cr wz K sp sb k m Ls c N w' := by
 obtain ⟨A, P, S, h1, h2, h3, h4, h9⟩ := h
 exact ⟨A, P, S, ⟨h1.st.high hc (fun x hA q => h4.ap x (hE x q) hA) (fun q => h9 (hE _ q)), h1.iw, h1.gk⟩, h2, h3, ⟨h4.ap, fun x hx => Nat.lt_of_lt_of_le (h4.kl x hx) hc.size, h4.kz, h4.az, h4.bw.trans (hc.to_below h4.bw.size (fun x hx => h4.kz x (hE x hx)))⟩, h9⟩
theorem cr_markO (h : Cr wz K sp sb k m Ls c N w) (hN : N < 1000000000) :
  Calls Tryz.prog 9 #[.pointer (some ⟨sp, 0, none⟩)] w fun e w' => ∃ v, e = .returned (.tuple #[.agg #[.int .i64 m.b, .int .i64 m.a, v], .int .i64 0]) ∧ w'.ownsRow w.heap.size 33 1 v m.k.length ((ib m.k).map (Value.int .u64)) ∧ Ch (fun x => ¬ K x) w w' ∧ Cr wz (nwK K w w') sp sb k m Ls c (N + 1) w' := by
 obtain ⟨A, P, S, h1, h2, h3, h4, h9⟩ := h
 refine (smark_rsx h1 (by unfold cntS at h3; omega)).mono ?_
 rintro e w1 ⟨v, rfl, ho, S', hst, hr, hc⟩
 exact ⟨v, rfl, ho, h4.ch hc, A, P, S', ⟨hst, h1.iw.rdd hr, h1.gk⟩, by rw [hr.left]; exact h2, by have := cnt_rdd (P := P) hr; omega, h4.grow (fun _ h => h) (fun x hx => h1.st.lt hx) hc, nw_not h9 h1.st.pl2⟩
end

theorem own_belowM {w w' : World} {base e s n : Nat} {v : Value} {xs : List Value} (h : w.ownsRow base e s v n xs) (hb : Below w.heap.size w w') : w'.ownsRow base e s v n xs := by
 obtain ⟨h1, h2⟩ := h
 refine ⟨h1, ?_⟩
 rcases h2 with h2 | ⟨g, cap, cur, e1, hg, hh, r⟩
 ·exact .inl h2
 ·exact .inr ⟨g, cap, cur, e1, hg, by rw [hb.block g (Array.getElem?_eq_some_iff.1 hh).1]; exact hh, r⟩
theorem mu_at {w : World} {g i x : Nat} {l : List Nat} (h : Mu w g l) (e : l[i]? = some x) : w.cell? ⟨g, i, none⟩ = some (.int .u64 x) ∧ w.frozen? ⟨g, i, none⟩ = false := by
 obtain ⟨hi, rfl⟩ := List.getElem?_eq_some_iff.1 e
 exact h i hi
theorem mq_at {w : World} {g i : Nat} {p : Pr} {l : List Pr} (h : Mq w g l) (e : l[i]? = some p) : (w.cell? ⟨g, i * 3, none⟩ = some (.int .u64 p.k) ∧ w.cell? ⟨g, i * 3 + 1, none⟩ = some (.bool p.v.h) ∧ w.cell? ⟨g, i * 3 + 2, none⟩ = some (.int .u64 p.v.b)) ∧ w.frozen? ⟨g, i * 3, none⟩ = false ∧ w.frozen? ⟨g, i * 3 + 1, none⟩ = false ∧ w.frozen? ⟨g, i * 3 + 2, none⟩ = false := by
 obtain ⟨hi, rfl⟩ := List.getElem?_eq_some_iff.1 e
 exact h i hi
theorem ch_putM {D : Nat → Prop} {w0 w : World} {g : Nat} (h : Ch D w0 w) (hg : D g) (i : Nat) (u : Value) : Ch D w0 (w.setCell ⟨g, i, none⟩ u) := h.trans (ch_set _ g i u) (fun y hy => by subst hy; exact .inl hg)
section

variable {wz w w' : World} {K : Nat → Prop} {sp sb : Nat} {k : Int} {m : Mk} {Ls : List (List Cl)} {c : Int → Prop} {N : Nat}

theorem cr_cellsO (h : Cr wz K sp sb k m Ls c N w) (hN : N < 1000000000) :
  Calls Tryz.prog 10 #[.pointer (some ⟨sp, 0, none⟩)] w fun e w' => ∃ v d, e = .returned (.tuple #[v, .int .i64 0]) ∧ SrtOf Ls.flatten d ∧ Cw w' v d ∧ (d ≠ [] → ∀ x, v.ownBlock = some x → w.heap.size ≤ x ∧ x < w'.heap.size) ∧ Ch (fun x => ¬ K x) w w' ∧ Cr wz (nwK K w w') sp sb k m Ls c (N + 6) w' := by
 obtain ⟨A, P, S, h1, h2, h3, h4, h9⟩ := h
 refine (scells_rsx h1 (by unfold cntS at h3; omega)).mono ?_
 rintro e w1 ⟨v, d, rfl, hs, hw, hv, S', hst, hr, hc⟩
 exact ⟨v, d, rfl, hs, hw, hv, h4.ch hc, A, P, S', ⟨hst, h1.iw.rdd hr, h1.gk⟩, by rw [hr.left]; exact h2, by have := cnt_rdd (P := P) hr; omega, h4.grow (fun _ h => h) (fun x hx => h1.st.lt hx) hc, nw_not h9 h1.st.pl2⟩
end

theorem own_chM {D : Nat → Prop} {w w' : World} {base e s n : Nat} {v : Value} {xs : List Value} (h : w.ownsRow base e s v n xs) (hc : Ch D w w') (hd : ∀ x, v.ownBlock = some x → ¬ D x) : w'.ownsRow base e s v n xs := by
 obtain ⟨h1, h2⟩ := h
 refine ⟨h1, ?_⟩
 rcases h2 with h2 | ⟨g, cap, cur, e1, hg, hh, r⟩
 ·exact .inl h2
 ·exact .inr ⟨g, cap, cur, e1, hg, by rw [hc.block g (Array.getElem?_eq_some_iff.1 hh).1 (hd g (by rw [e1]; rfl))]; exact hh, r⟩
def L3R (v : Value) (n s : Nat) (wi : World) (iv : Value) (wr : World) : Prop :=
 ∃ i : Nat, iv = .int .i64 i ∧ i ≤ n ∧ (∀ g, n ≠ 0 → v.ownBlock = some g → Rcl wr g (n * s)) ∧ Ch (fun x => n ≠ 0 ∧ v.ownBlock = some x) wi wr
def L1R (T : List Pr) (g2 : Nat) (wA : World) (iv : Value) (wr : World) : Prop :=
 ∃ (i : Nat) (l : List Pr), iv = .int .i64 i ∧ i ≤ T.length ∧ l.length = T.length + 2 ∧ (∀ j, (h : j < T.length) → i ≤ j → l[j]? = some T[j]) ∧ Mq wr g2 l ∧ Ch (fun x => x = g2) wA wr
def L2R (ks : List Nat) (g1 : Nat) (wA : World) (iv : Value) (wr : World) : Prop :=
 ∃ (i : Nat) (l : List Nat), iv = .int .i64 i ∧ i ≤ ks.length ∧ l.length = ks.length + 2 ∧ (∀ j, (h : j < ks.length) → i ≤ j → l[j]? = some ks[j]) ∧ Mu wr g1 l ∧ Ch (fun x => x = g1) wA wr
theorem bd_k {n : Nat} (h : n ≤ 40) : 0 + n ≤ maxLen ∧ (0 + n) * 8 ≤ 140737488355328 := ⟨by simp only [maxLen]; omega, by omega⟩
theorem memory_walk {k : Int} {w : World} {jv rv mv : Value} {jobs : List Jb} {recs : List Rcd} {more : List Nat} (hj : Jv w jv jobs) (hr : Rv w rv recs) (hm : Kv w mv more) (f s : Bool) :
  Calls Tryz.prog 4 #[.int .i64 k, jv, .agg #[rv, mv, .bool f, .bool s]] w fun e w' => e = .returned (.bool true) ∧ Below w.heap.size w w' := by
 obtain ⟨ra, rn, rc, rfl⟩ : ∃ x y z, rv = .slice x y z := by obtain ⟨⟨x, z, e, _⟩, _⟩ := id hr; exact ⟨x, _, z, e⟩
 obtain ⟨ma, mn, mc, rfl⟩ := sv_any hm
 have HB0 : Hid (Below w.heap.size w (w.alloc (Obj.cells #[.slice ra rn rc, .slice ma mn mc, .bool f, .bool s] 40))) := below_alloc _ _
 have HC0 : Hid ((w.alloc (Obj.cells #[.slice ra rn rc, .slice ma mn mc, .bool f, .bool s] 40)).cell? ⟨w.heap.size, 0, none⟩ = some (.slice ra rn rc) ∧ (w.alloc (Obj.cells #[.slice ra rn rc, .slice ma mn mc, .bool f, .bool s] 40)).cell? ⟨w.heap.size, 1, none⟩ = some (.slice ma mn mc) ∧ (w.alloc (Obj.cells #[.slice ra rn rc, .slice ma mn mc, .bool f, .bool s] 40)).cell? ⟨w.heap.size, 2, none⟩ = some (.bool f) ∧ (w.alloc (Obj.cells #[.slice ra rn rc, .slice ma mn mc, .bool f, .bool s] 40)).cell? ⟨w.heap.size, 3, none⟩ = some (.bool s)) := ⟨by simp [go_sem], by simp [go_sem], by simp [go_sem], by simp [go_sem]⟩
 have HJ : Hid (Jv w jv jobs) := hj
 obtain ⟨⟨ja, jn, jc, rfl⟩⟩ : Nonempty (∃ x y z, jv = .slice x y z) := by obtain ⟨x, z, e, _⟩ := hj; exact ⟨x, _, z, e⟩
 have HR := hidH hr
 have HM := hidH hm
 clear hj hr hm
 go_in
 go_upto_region 1 with fail
 obtain ⟨NB, hN⟩ : ∃ N, N = w.heap.size := ⟨_, rfl⟩
 rw [← hN] at HC0 ⊢
 generalize (w.alloc (Obj.cells #[.slice ra rn rc, .slice ma mn mc, .bool f, .bool s] 40)) = w0 at HB0 HC0 ⊢
 clear hN
 go_wp2_with fail
 refine (awake_walkS w0).mono ?_
 rintro e w1 ⟨rfl, hb1⟩
 have HB1 := hidH hb1
 clear hb1
 obtain ⟨KN, hK⟩ : ∃ Kq, Kq = knownB k := ⟨_, rfl⟩
 have HK : Hid (KN = knownB k) := hK
 clear hK
 go_wp2_with fail
 refine (known_walk k w1).mono ?_
 rw [← HK.out]
 rintro e w2 ⟨rfl, hw2⟩
 replace hw2 := hw2.symm
 subst hw2
 cases KN
 ·go_wp2_with fail
  go_ret
  exact ⟨rfl, below_trans HB0.out HB1.out⟩
 have HB01 := hidH (below_trans HB0.out HB1.out)
 go_wp2_with fail
 refine (rowed_walk HK.out.symm (HJ.out.below HB01.out)).mono ?_
 obtain ⟨js, hjs⟩ : ∃ js, js = jobs.take 60 := ⟨_, rfl⟩
 have HJ60 : Hid (js.length ≤ 60) := by rw [hjs, List.length_take]; show _ ≤ _; omega
 rw [← hjs]
 clear hjs
 rintro e w3 ⟨sp, sb, rfl, A3, P3, S3, m3, L3, hrw, hA3, hsp, hcn, hbl, hb3⟩
 obtain ⟨B, hB⟩ : ∃ B, B = rowB js := ⟨_, rfl⟩
 rw [List.take_length, ← hB] at hrw
 rw [← hB]
 have HBB : Hid (1 ≤ B ∧ B ≤ 61) := by
  have h1 := rowB_le js
  have h2 := HJ60.out
  have h3 : 1 ≤ rowB js := by unfold rowB; omega
  exact ⟨by omega, by omega⟩
 have HRW := hidH hrw
 have HC3 := hidH hcn
 have HA3 : Hid (∀ x, A3 x → w.heap.size ≤ x) := fun x hx => Nat.le_trans HB01.out.size (hA3 x hx)
 have HB03 := hidH (below_trans HB1.out hb3)
 have HW3 := hidH (below_trans HB0.out HB03.out)
 have d0 : w3.cell? ⟨NB, 0, none⟩ = some (.slice ra rn rc) := by rw [HB03.out.cell (p := ⟨NB, 0, none⟩) (cell_lt HC0.out.1)]; exact HC0.out.1
 have d1 : w3.cell? ⟨NB, 1, none⟩ = some (.slice ma mn mc) := by rw [HB03.out.cell (p := ⟨NB, 1, none⟩) (cell_lt HC0.out.2.1)]; exact HC0.out.2.1
 have d2 : w3.cell? ⟨NB, 2, none⟩ = some (.bool f) := by rw [HB03.out.cell (p := ⟨NB, 2, none⟩) (cell_lt HC0.out.2.2.1)]; exact HC0.out.2.2.1
 have d3 : w3.cell? ⟨NB, 3, none⟩ = some (.bool s) := by rw [HB03.out.cell (p := ⟨NB, 3, none⟩) (cell_lt HC0.out.2.2.2)]; exact HC0.out.2.2.2
 clear hrw hA3 hsp hcn hbl hb3 hB
 go_wp2_with fail
 refine (part_walk HK.out.symm (HR.out.below HW3.out) (HM.out.below HW3.out) f s).mono ?_
 rintro e w5 ⟨tv, kv, rfl, hqv, hqb, hkv, hb5⟩
 obtain ⟨T, hT⟩ : ∃ T, T = ptT k recs := ⟨_, rfl⟩
 obtain ⟨ks, hks⟩ : ∃ ks, ks = ptK k recs more := ⟨_, rfl⟩
 have HTA : Hid (Ta k ⟨(B : Nat), 99, ks⟩ T) := by rw [hT, hks]; exact pt_ta HK.out.symm HR.out.2 _ _ _
 have HKS : Hid (keysOk ks ∧ ks.length ≤ 64 ∧ risB ks = true) := by rw [hks]; exact ⟨ptK_ok _ _ _, ptK_len _ _ _, ptK_ris _ _ _⟩
 have HKL : Hid (ks.length ≤ 40) := by rw [hks]; exact rise_len (rise_uni _) ptK_low
 have HTL : Hid (T.length ≤ 40) := by rw [hT]; exact pt_len k recs
 rw [← hT] at hqv
 rw [← hks] at hkv
 have HKV : Hid (Kv w5 kv ks) := own_sv hkv
 have HKB : Hid (∀ x, kv.ownBlock = some x → w3.heap.size ≤ x ∧ x < w5.heap.size) := fun x hx => hkv.lt x hx
 have HQ : Hid (Qv w5 tv T) := hqv
 have HQB : Hid (∀ x, tv.ownBlock = some x → w3.heap.size ≤ x ∧ x < w5.heap.size) := hqb
 have HB5 := hidH hb5
 obtain ⟨ta, tn, tc, rfl, htn⟩ : ∃ x y z, tv = .slice x y z ∧ y = T.length := by obtain ⟨⟨x, z, e, _⟩, _⟩ := hqv; exact ⟨x, _, z, e, rfl⟩
 obtain ⟨ka, kn, kc, rfl, hkn⟩ : ∃ x y z, kv = .slice x y z ∧ y = ks.length := by obtain ⟨x, z, e, _⟩ := HKV.out; exact ⟨x, _, z, e, by rw [ib_len]⟩
 have HTN : Hid (tn = T.length) := htn
 have HKN : Hid (kn = ks.length) := hkn
 obtain ⟨n1, hn1⟩ : ∃ n1, n1 = kn + 1 := ⟨_, rfl⟩
 obtain ⟨n2, hn2⟩ : ∃ n2, n2 = kn + 2 := ⟨_, rfl⟩
 obtain ⟨t1, ht1⟩ : ∃ t1, t1 = tn + 1 := ⟨_, rfl⟩
 obtain ⟨t2, ht2⟩ : ∃ t2, t2 = tn + 2 := ⟨_, rfl⟩
 have hkn40 : (kn : Int) ≤ 40 := by have := HKL.out; omega
 have htn40 : (tn : Int) ≤ 40 := by have := HTL.out; omega
 have ew2 : IntKind.i64.wrap ((kn : Int) + 2) = (n2 : Int) := by rw [IntKind.wrap_i64]; omega
 have et2 : IntKind.i64.wrap ((tn : Int) + 2) = (t2 : Int) := by rw [IntKind.wrap_i64]; omega
 have HN : Hid (n1 = kn + 1 ∧ n2 = kn + 2 ∧ t1 = tn + 1 ∧ t2 = tn + 2) := ⟨hn1, hn2, ht1, ht2⟩
 have ew2' : (kn : Int) + 2 = (n2 : Int) := by omega
 have et2' : (tn : Int) + 2 = (t2 : Int) := by omega
 have hmk := make_k (q := n2) (by omega)
 have hmp := make_p (q := t2) (by omega)
 have HO6 : Hid ((w5.alloc (Obj.cells (madeCells #[.int .u64 0] n2) 33)).ownsRow w5.heap.size 33 1 (.slice (some ⟨w5.heap.size, 0, none⟩) 0 n2) 0 (([] : List Int).map (Value.int .u64))) := by have h := own_madeM (s := 1) (e := 33) (zs := #[.int .u64 0]) (q := n2) w5 (Nat.le_refl _) (by simp only [maxLen]; omega); rw [Nat.mul_one] at h; exact h
 have HB6 : Hid (Below w5.heap.size w5 (w5.alloc (Obj.cells (madeCells #[.int .u64 0] n2) 33))) := below_alloc _ _
 clear hqv hqb hkv hb5 d0 d1 d2 d3 hT hks htn hkn hn1 hn2 ht1 ht2 HC0 HB03
 go_upto_region 10 with fail
 generalize (w5.alloc (Obj.cells (madeCells #[.int .u64 0] n2) 33)) = w6 at HO6 HB6 ⊢
 generalize hz5 : w5.heap.size = Z5 at HO6 ⊢
 have HZ5 : Hid (w5.heap.size = Z5) := hz5
 clear hz5
 have HK6 := hidH (HKV.out.below HB6.out)
 have HS6 : Hid (Z5 ≤ w6.heap.size) := by have := HB6.out.size; rw [HZ5.out] at this; exact this
 go_upto_region 11 with (at_builtin; refine wpList_append_sv (by rfl) (.tmp 50) (.tmp 51) 30 (by rfl) Z5 33 .u64 8 Tryz.underlying30 info_u64 _ _ _ (by rfl) HO6.out _ (ib ks) (by rfl) HK6.out (by rw [ib_len]; exact (bd_k HKL.out).1) (by rw [ib_len]; exact (bd_k HKL.out).2) HS6.out ?_; intro v1 wx1 ho1 hg1)
 have HO7 : Hid (wx1.ownsRow Z5 33 1 v1 ks.length ((ib ks).map (Value.int .u64))) := by
  have h := ho1
  rw [ib_len, Nat.zero_add] at h
  exact h
 have HB7 : Hid (Below w5.heap.size w5 wx1) := HB6.out.grown hg1 HB6.out.size (fun q hq => by have := (HO6.out.lt q hq).1; rw [HZ5.out]; exact this)
 obtain ⟨va, vn, vc, rfl⟩ : ∃ x y z, v1 = .slice x y z := by obtain ⟨x, z, e⟩ := own_form8 ho1; exact ⟨x, _, z, e⟩
 clear ho1 hg1 HO6 HB6 HK6 HS6 hmk ew2 ew2'
 have HS7 : Hid (Z5 ≤ (wx1.alloc (Obj.cells #[.int .u64 71, .int .u64 72] 33)).heap.size) := by
  have h1 := HB7.out.size
  have h2 := HZ5.out
  rw [size_allocC]
  show _ ≤ _
  omega
 go_upto_region 12 with (at_builtin; refine wpList_append_sv (by rfl) (.tmp 53) (.tmp 54) 30 (by rfl) Z5 33 .u64 8 Tryz.underlying30 info_u64 _ _ _ (by rfl) (HO7.out.alloc _) _ [71, 72] (by rfl) (by simpa [go_sem] using sv_two wx1 33 71 72) (by have := HKL.out; simp only [maxLen, List.length_cons, List.length_nil]; omega) (by have := HKL.out; simp only [List.length_cons, List.length_nil]; omega) HS7.out ?_; intro v2 w7 ho2 hg2)
 have HO9 : Hid (w7.ownsRow Z5 33 1 v2 (ks ++ [71, 72]).length ((ib (ks ++ [71, 72])).map (Value.int .u64))) := by
  show _
  rw [ib_append, List.map_append, List.length_append]
  exact ho2
 have HB8 : Hid (Below w5.heap.size w5 w7) := (below_trans HB7.out (below_alloc _ _)).grown hg2 (below_trans HB7.out (below_alloc wx1 (Obj.cells #[.int .u64 71, .int .u64 72] 33))).size (fun q hq => by have := (HO7.out.lt q hq).1; rw [HZ5.out]; exact this)
 obtain ⟨g1, c1, rfl, hl1, hm1, hg1b, hg1l, hmu⟩ := mu_own HO9.out (by simp)
 have eL : (ks ++ [71, 72]).length = n2 := by have h1 := HN.out; have h2 := HKN.out; rw [List.length_append]; simp only [List.length_cons, List.length_nil]; omega
 rw [eL] at hl1 ⊢
 have HMU7 : Hid (Mu w7 g1 (ks ++ [71, 72]) ∧ Z5 ≤ g1 ∧ g1 < w7.heap.size ∧ n2 ≤ c1 ∧ c1 ≤ maxLen) := ⟨hmu, hg1b, hg1l, hl1, hm1⟩
 clear ho2 hg2 HO7 HO9 HB7 HS7 hl1 hm1 hg1b hg1l hmu eL
 have HQ7 := hidH (HQ.out.below HB8.out)
 have HO10 : Hid ((w7.alloc (Obj.cells (madeCells #[.int .u64 0, .bool false, .int .u64 0] (t2 * 3)) 60)).ownsRow w7.heap.size 60 3 (.slice (some ⟨w7.heap.size, 0, none⟩) 0 t2) 0 (flatQ [])) := own_madeM w7 (Nat.le_refl _) (by simp only [maxLen]; omega)
 have HB10 : Hid (Below w7.heap.size w7 (w7.alloc (Obj.cells (madeCells #[.int .u64 0, .bool false, .int .u64 0] (t2 * 3)) 60))) := below_alloc _ _
 go_upto_region 13 with fail
 generalize (w7.alloc (Obj.cells (madeCells #[.int .u64 0, .bool false, .int .u64 0] (t2 * 3)) 60)) = w8 at HO10 HB10 ⊢
 generalize hz7 : w7.heap.size = Z7 at HO10 ⊢
 have HZ7 : Hid (w7.heap.size = Z7) := hz7
 clear hz7 hmp et2 et2'
 obtain ⟨i0, q1, q2, q3, q4⟩ := info_partsVB info_pair
 have HI0 : Hid (Tryz.prog.info? 60 = some i0 ∧ i0.zero = some (.agg #[.int .u64 0, .bool false, .int .u64 0]) ∧ i0.size = 3 ∧ i0.bytes = 24) := ⟨q1, q2, q3, q4⟩
 have HQ8 := hidH (HQ7.out.below HB10.out)
 have HS8 : Hid (Z7 ≤ w8.heap.size) := by have := HB10.out.size; rw [HZ7.out] at this; exact this
 clear q1 q2 q3 q4 HQ7
 go_upto_region 14 with (at_builtin; refine wpList_append_qsM (by rfl) (.tmp 60) (.tmp 61) 29 (by rfl) Z7 60 i0 Tryz.underlying29 HI0.out.1 HI0.out.2.1 HI0.out.2.2.1 HI0.out.2.2.2 _ _ [] (by rfl) HO10.out _ T (by rfl) HQ8.out (by have := HTL.out; simp only [maxLen]; omega) (by have := HTL.out; omega) HS8.out ?_; intro v3 wx3 ho3 hg3)
 have HO11 : Hid (wx3.ownsRow Z7 60 3 v3 T.length (flatQ T)) := by
  have h := ho3
  rw [Nat.zero_add, List.nil_append] at h
  exact h
 have HB11 : Hid (Below w7.heap.size w7 wx3) := HB10.out.grown hg3 HB10.out.size (fun q hq => by have := (HO10.out.lt q hq).1; rw [HZ7.out]; exact this)
 obtain ⟨ya, yn, yc, rfl⟩ : ∃ x y z, v3 = .slice x y z := by
  rcases ho3.2 with ⟨h, _⟩ | ⟨g, cap, cur, h, _⟩
  ·exact ⟨_, _, _, h⟩
  ·exact ⟨_, _, _, h⟩
 clear ho3 hg3 HO10 HB10 HQ8 HS8
 go_wp2_with fail
 refine (pair_walkS 73 1 _).mono ?_
 rintro e wp1 ⟨rfl, hp1⟩
 have HP1 := hidH hp1
 clear hp1
 go_wp2_with fail
 refine (pair_walkS 74 2 _).mono ?_
 rintro e wp2 ⟨rfl, hp2⟩
 have HP2 := hidH (below_trans HP1.out hp2)
 have HO12 : Hid (wp2.ownsRow Z7 60 3 (.slice ya yn yc) T.length (flatQ T)) := own_belowM HO11.out HP2.out
 have HB12 := hidH (below_trans HB11.out HP2.out)
 have HS12 : Hid (Z7 ≤ (wp2.alloc (Obj.cells #[.int .u64 73, .bool true, .int .u64 1, .int .u64 74, .bool true, .int .u64 2] 60)).heap.size) := by
  have h1 := HB12.out.size
  have h2 := HZ7.out
  rw [size_allocC]
  show _ ≤ _
  omega
 have HQ12 : Hid (Qv (wp2.alloc (Obj.cells #[.int .u64 73, .bool true, .int .u64 1, .int .u64 74, .bool true, .int .u64 2] 60)) (.slice (some ⟨wp2.heap.size, 0, none⟩) 2 2) [⟨73, ⟨true, 1⟩⟩, ⟨74, ⟨true, 2⟩⟩]) := qv_two wp2 ⟨73, ⟨true, 1⟩⟩ ⟨74, ⟨true, 2⟩⟩ ⟨by show (73 : Nat) < _; decide, by show (1 : Nat) < _; decide⟩ ⟨by show (74 : Nat) < _; decide, by show (2 : Nat) < _; decide⟩
 clear hp2 HP1 HP2 HO11 HB11
 go_upto_region 15 with (at_builtin; refine wpList_append_qsM (by rfl) (.tmp 63) (.tmp 66) 29 (by rfl) Z7 60 i0 Tryz.underlying29 HI0.out.1 HI0.out.2.1 HI0.out.2.2.1 HI0.out.2.2.2 _ _ T (by rfl) (HO12.out.alloc _) _ [⟨73, ⟨true, 1⟩⟩, ⟨74, ⟨true, 2⟩⟩] (by rfl) HQ12.out (by have := HTL.out; simp only [maxLen, List.length_cons, List.length_nil]; omega) (by have := HTL.out; simp only [List.length_cons, List.length_nil]; omega) HS12.out ?_; intro v4 w9 ho4 hg4)
 obtain ⟨ps, hps⟩ : ∃ ps : List Pr, ps = [⟨73, ⟨true, 1⟩⟩, ⟨74, ⟨true, 2⟩⟩] := ⟨_, rfl⟩
 rw [← hps] at ho4
 have HPS : Hid (ps = [⟨73, ⟨true, 1⟩⟩, ⟨74, ⟨true, 2⟩⟩]) := hps
 have HO13 : Hid (w9.ownsRow Z7 60 3 v4 (T ++ ps).length (flatQ (T ++ ps))) := by
  show _
  rw [List.length_append]
  exact ho4
 have HB13 : Hid (Below w7.heap.size w7 w9) := (below_trans HB12.out (below_alloc _ _)).grown hg4 (below_trans HB12.out (below_alloc wp2 (Obj.cells #[.int .u64 73, .bool true, .int .u64 1, .int .u64 74, .bool true, .int .u64 2] 60))).size (fun q hq => by have := (HO12.out.lt q hq).1; rw [HZ7.out]; exact this)
 obtain ⟨g2, c2, rfl, hl2, hm2, hg2b, hg2l, hmq⟩ := mq_ownM HO13.out (by rw [hps]; simp)
 have eL : (T ++ ps).length = t2 := by have h1 := HN.out; have h2 := HTN.out; rw [List.length_append, hps]; simp only [List.length_cons, List.length_nil]; omega
 rw [eL] at hl2 ⊢
 have HMQ9 : Hid (Mq w9 g2 (T ++ ps) ∧ Z7 ≤ g2 ∧ g2 < w9.heap.size ∧ t2 ≤ c2 ∧ c2 ≤ maxLen ∧ (T ++ ps).length = t2) := ⟨hmq, hg2b, hg2l, hl2, hm2, eL⟩
 have HMU9 : Hid (Mu w9 g1 (ks ++ [71, 72])) := HMU7.out.1.ch (D := fun _ => False) (Ch.of_below HB13.out) (fun q => q)
 have HB59 := hidH (below_trans HB8.out HB13.out)
 have HB39 := hidH (below_trans HB5.out HB59.out)
 have HSZ : Hid (w3.heap.size ≤ w5.heap.size ∧ w5.heap.size ≤ w7.heap.size ∧ w7.heap.size ≤ w9.heap.size) := ⟨HB5.out.size, HB8.out.size, HB13.out.size⟩
 clear ho4 hg4 hps HO12 HO13 HB12 HS12 HQ12 hl2 hm2 hg2b hg2l hmq eL HI0
 obtain ⟨Kq, hK⟩ : ∃ Kq : Nat → Prop, Kq = fun x => w3.heap.size ≤ x ∧ x < w9.heap.size := ⟨_, rfl⟩
 have HKg : Hid (Kq g1 ∧ Kq g2 ∧ g1 ≠ g2) := by
  have h1 := HMU7.out; have h2 := HMQ9.out; have h3 := HSZ.out; have h4 := HZ5.out; have h5 := HZ7.out
  rw [hK]
  exact ⟨⟨by omega, by omega⟩, ⟨by omega, by omega⟩, by omega⟩
 have HKV9 : Hid (∀ x, (Value.slice ka kn kc).ownBlock = some x → Kq x ∧ x ≠ g1 ∧ x ≠ g2) := fun x hx => by
  have h1 := HMU7.out; have h2 := HMQ9.out; have h3 := HSZ.out; have h4 := HZ5.out; have h5 := HZ7.out; have h6 := HKB.out x hx
  rw [hK]
  exact ⟨⟨by omega, by omega⟩, by omega, by omega⟩
 have HTV9 : Hid (∀ x, (Value.slice ta tn tc).ownBlock = some x → Kq x ∧ x ≠ g1 ∧ x ≠ g2) := fun x hx => by
  have h1 := HMU7.out; have h2 := HMQ9.out; have h3 := HSZ.out; have h4 := HZ5.out; have h5 := HZ7.out; have h6 := HQB.out x hx
  rw [hK]
  exact ⟨⟨by omega, by omega⟩, by omega, by omega⟩
 have HCR : Hid (Cr w Kq sp sb k m3 L3 (fun x => x = -1) 2060 w9) := by
  have hA : ∀ x, A3 x → x < w3.heap.size := fun x hx => HRW.out.rs.st.lt hx
  rw [hK]
  refine ⟨A3, P3, S3, (HRW.out.rs.below HB39.out).x, HRW.out.rs.lf, by have h1 := HC3.out; have h2 := HJ60.out; omega, ⟨fun x hx hA' => by have h2 := hA x hA'; omega, fun x hx => hx.2, fun x hx => by have h2 := HW3.out.size; omega, HA3.out, below_trans HW3.out HB39.out⟩, fun hx => by have h2 := HRW.out.rs.st.pl2; omega⟩
 have hb1i : (1 : Int) ≤ (B : Int) := by have := HBB.out; omega
 have hb2i : (B : Int) ≤ 61 := by have := HBB.out; omega
 have HMB : Hid ((((B : Nat) : Int) = m3.b ∨ ((B : Nat) : Int) = m3.b + 1) ∧ (m3.b < ((B : Nat) : Int) ∨ (((B : Nat) : Int) = m3.b ∧ m3.a < 99))) := by
  have h1 := HRW.out.mb
  have h2 := HRW.out.ma
  have h3 := HJ60.out
  exact ⟨by omega, by omega⟩
 obtain ⟨L9, hap⟩ : ∃ L9, appA k (B : Nat) (begS L3 m3 (B : Nat)) T = (0, L9) ∧ Gk k ⟨(B : Nat), 99, ks⟩ L9 := by
  have hg := beg_good (a := 99) (ks := ks) HRW.out.rs.gk HMB.out.1 hb1i (sound_beg hb1i (by omega) (by omega) (by omega) HKS.out.2.1 HKS.out.2.2) HKS.out.1
  obtain ⟨L2, e2, g2, _⟩ := app_all (k := k) (m := ⟨(B : Nat), 99, ks⟩) (b := (B : Nat)) rfl hb1i T _ hg.1 (hg.2.2.2 HRW.out.low) HTA.out
  exact ⟨L2, e2, g2⟩
 have HAP : Hid (appA k (B : Nat) (begS L3 m3 (B : Nat)) T = (0, L9) ∧ Gk k ⟨(B : Nat), 99, ks⟩ L9) := hap
 have HBD : Hid (Below w9.heap.size w9 w9.drew) := ⟨rfl, rfl, rfl, Nat.le_refl _, fun _ _ => rfl⟩
 have HCR0 : Hid (Cr w Kq sp sb k m3 L3 (fun x => x = -1) 2060 w9.drew) := (HCR.out.below HBD.out).mono (fun x h => .inl h) (fun _ h => h) (Nat.le_refl _)
 have HKK : Hid (∀ x, (Value.slice (some ⟨g1, 0, none⟩) kn c1).ownBlock = some x → Kq x) := fun x hx => by simp [Value.ownBlock] at hx; subst hx; exact HKg.out.1
 have HTK : Hid (∀ x, (Value.slice (some ⟨g2, 0, none⟩) tn c2).ownBlock = some x → Kq x) := fun x hx => by simp [Value.ownBlock] at hx; subst hx; exact HKg.out.2.1
 have HKM : Hid (∀ wx, Ch (fun x => ¬ Kq x) w9 wx → Kv wx (.slice (some ⟨g1, 0, none⟩) kn c1) ks) := fun wx h => by
  have h1 := HMU7.out; have h2 := HN.out; have h3 := HKN.out
  have q := (HMU9.out.ch h (fun q => q HKg.out.1)).kv (n := kn) (cap := c1) (by rw [List.length_append]; omega) (by rw [List.length_append]; simp only [List.length_cons, List.length_nil]; omega) h1.2.2.2.2
  rw [List.take_append_of_le_length (by omega), List.take_of_length_le (by omega)] at q
  exact q
 have HTOK : Hid (∀ o ∈ T ++ ps, o.ok) := by
  intro o ho
  rcases List.mem_append.1 ho with q | q
  ·exact HQ.out.2 o q
  ·rw [HPS.out] at q
   simp at q
   rcases q with rfl | rfl
   ·exact ⟨by show (73 : Nat) < _; decide, by show (1 : Nat) < _; decide⟩
   ·exact ⟨by show (74 : Nat) < _; decide, by show (2 : Nat) < _; decide⟩
 have HQM : Hid (∀ wx, Ch (fun x => ¬ Kq x) w9 wx → Qv wx (.slice (some ⟨g2, 0, none⟩) tn c2) T) := fun wx h => by
  have h1 := HMQ9.out; have h2 := HN.out; have h3 := HTN.out
  have q := mq_qv (n := tn) (cap := c2) (mq_ch HMQ9.out.1 h (fun q => q HKg.out.2.1)) (by omega) (by omega) h1.2.2.2.2.1 HTOK.out
  rw [List.take_append_of_le_length (by omega), List.take_of_length_le (by omega)] at q
  exact q
 have k71 : ∀ wx, Ch (fun x => ¬ Kq x) w9 wx → wx.cell? ⟨g1, kn, none⟩ = some (.int .u64 71) := fun wx h => (mu_at (x := 71) (HMU9.out.ch h (fun q => q HKg.out.1)) (by rw [HKN.out]; simp)).1
 have k72 : ∀ wx, Ch (fun x => ¬ Kq x) w9 wx → wx.cell? ⟨g1, n1, none⟩ = some (.int .u64 72) := fun wx h => (mu_at (x := 72) (HMU9.out.ch h (fun q => q HKg.out.1)) (by rw [HN.out.1, HKN.out]; simp)).1
 have q73 : ∀ wx, Ch (fun x => ¬ Kq x) w9 wx → wx.cell? ⟨g2, tn * 3, none⟩ = some (.int .u64 73) ∧ wx.cell? ⟨g2, tn * 3 + 1, none⟩ = some (.bool true) ∧ wx.cell? ⟨g2, tn * 3 + 2, none⟩ = some (.int .u64 1) := fun wx h => (mq_at (p := ⟨73, ⟨true, 1⟩⟩) (mq_ch HMQ9.out.1 h (fun q => q HKg.out.2.1)) (by rw [HTN.out, HPS.out]; simp)).1
 have q74 : ∀ wx, Ch (fun x => ¬ Kq x) w9 wx → wx.cell? ⟨g2, t1 * 3, none⟩ = some (.int .u64 74) ∧ wx.cell? ⟨g2, t1 * 3 + 1, none⟩ = some (.bool true) ∧ wx.cell? ⟨g2, t1 * 3 + 2, none⟩ = some (.int .u64 2) := fun wx h => (mq_at (p := ⟨74, ⟨true, 2⟩⟩) (mq_ch HMQ9.out.1 h (fun q => q HKg.out.2.1)) (by rw [HN.out.2.2.1, HTN.out, HPS.out]; simp)).1
 have a0 : ∀ wx, Ch (fun x => ¬ Kq x) w9 wx → wx.cell? ⟨g2, tn * 3, none⟩ = some (.int .u64 73) := fun wx h => (q73 wx h).1
 have a1 : ∀ wx, Ch (fun x => ¬ Kq x) w9 wx → wx.cell? ⟨g2, tn * 3 + 1, none⟩ = some (.bool true) := fun wx h => (q73 wx h).2.1
 have a2 : ∀ wx, Ch (fun x => ¬ Kq x) w9 wx → wx.cell? ⟨g2, tn * 3 + 2, none⟩ = some (.int .u64 1) := fun wx h => (q73 wx h).2.2
 have b0 : ∀ wx, Ch (fun x => ¬ Kq x) w9 wx → wx.cell? ⟨g2, t1 * 3, none⟩ = some (.int .u64 74) := fun wx h => (q74 wx h).1
 have b1 : ∀ wx, Ch (fun x => ¬ Kq x) w9 wx → wx.cell? ⟨g2, t1 * 3 + 1, none⟩ = some (.bool true) := fun wx h => (q74 wx h).2.1
 have b2 : ∀ wx, Ch (fun x => ¬ Kq x) w9 wx → wx.cell? ⟨g2, t1 * 3 + 2, none⟩ = some (.int .u64 2) := fun wx h => (q74 wx h).2.2
 have v73 : ∀ wx, (binOp .neq 60 (.agg #[.int .u64 73, .bool true, .int .u64 1]) (.agg #[.int .u64 73, .bool true, .int .u64 1])).run Tryz.prog wx = .ok (.bool false) wx := neq_pair ⟨73, ⟨true, 1⟩⟩
 have v74 : ∀ wx, (binOp .neq 60 (.agg #[.int .u64 74, .bool true, .int .u64 2]) (.agg #[.int .u64 74, .bool true, .int .u64 2])).run Tryz.prog wx = .ok (.bool false) wx := neq_pair ⟨74, ⟨true, 2⟩⟩
 have hgp := guard_pair
 have hkc : (kn : Int) ≤ (c1 : Int) := by have h1 := HMU7.out; have h2 := HN.out; omega
 have htc : (tn : Int) ≤ (c2 : Int) := by have h1 := HMQ9.out; have h2 := HN.out; omega
 have hk2 : (kn : Int) < (n2 : Int) := by have h2 := HN.out; omega
 have hk2' : kn < n2 := by have h2 := HN.out; omega
 have hk12 : (n1 : Int) < (n2 : Int) := by have h2 := HN.out; omega
 have hk12' : n1 < n2 := by have h2 := HN.out; omega
 have ht2i : (tn : Int) < (t2 : Int) := by have h2 := HN.out; omega
 have ht2' : tn < t2 := by have h2 := HN.out; omega
 have ht12 : (t1 : Int) < (t2 : Int) := by have h2 := HN.out; omega
 have ht12' : t1 < t2 := by have h2 := HN.out; omega
 have ek1 : IntKind.i64.wrap ((kn : Int) + 1) = (n1 : Int) := by have h2 := HN.out; rw [IntKind.wrap_i64]; omega
 have et1 : IntKind.i64.wrap ((tn : Int) + 1) = (t1 : Int) := by have h2 := HN.out; rw [IntKind.wrap_i64]; omega
 clear hK hap q73 q74 HCR HRW
 refine wp_region_noPanic ?_
 refine wp_region_held_drew (S := fun wx => Ch (fun x => ¬ Kq x) w9 wx) (by kernel_rfl) ?_ (fun hHeld => ?_)
 ·exact Ch.of_below HBD.out
 refine tkS 0 68 rfl hHeld ?_
 refine tkS 1 69 rfl hHeld ?_
 refine tkS 2 70 rfl hHeld ?_
 refine tkS 3 71 rfl hHeld ?_
 refine tkS 4 72 rfl hHeld ?_
 refine tkS 5 73 rfl hHeld ?_
 refine rdH 6 74 rfl (fun K hK => ?_)
 go_simp
 have x6 := hHeld
 refine (cr_begin HCR0.out (by omega) (HKM.out _ x6) HKS.out.1 HKK.out (b := (B : Nat)) (a := 99) HMB.out.1 hb1i (by omega) (by omega) (by omega) HKS.out.2.1 HKS.out.2.2 HMB.out.2).mono ?_
 rintro e9 w6 ⟨⟨h6, _⟩, hg6⟩
 obtain ⟨rfl, hr6⟩ := hg6 (fun _ h => h)
 have HR6 : Hid (Cr w Kq sp sb k ⟨(B : Nat), 99, ks⟩ (begS L3 m3 (B : Nat)) (fun x => x = -1) (2060 + 17) w6) := hr6
 have h6' := x6.self h6
 clear hHeld x6 hg6 hr6 h6
 refine hK.out _ _ ?_ (fun hHeld => ?_)
 ·exact h6'
 clear hK K
 try simp only [Act.put, zA, zB, zC]
 refine tkS 7 75 rfl hHeld ?_
 refine tkS 8 76 rfl hHeld ?_
 refine tkS 9 77 rfl hHeld ?_
 refine tkS 10 78 rfl hHeld ?_
 refine tkS 11 79 rfl hHeld ?_
 refine tkS 12 80 rfl hHeld ?_
 refine tkS 13 81 rfl hHeld ?_
 refine tkS 14 82 rfl hHeld ?_
 refine rdH 15 83 rfl (fun K hK => ?_)
 go_simp
 have x15 := hHeld
 refine (cr_apply HR6.out (by omega) (HQM.out _ x15) HTK.out hb1i (by show (1 : Int) ≤ 99; omega) HTA.out ⟨L9, HAP.out⟩).mono ?_
 rw [HAP.out.1]
 rintro e9 w15 ⟨⟨h15, _⟩, hg15⟩
 obtain ⟨rfl, hr15⟩ := hg15 (fun _ h => h)
 have HR15 : Hid (Cr w Kq sp sb k ⟨(B : Nat), 99, ks⟩ L9 (fun x => x = -1) (2060 + 17 + 17) w15) := hr15
 have h15' := x15.self h15
 clear hHeld x15 hg15 hr15 h15 HR6
 refine hK.out _ _ ?_ (fun hHeld => ?_)
 ·exact h15'
 clear hK K
 try simp only [Act.put, zA, zB, zC]
 refine tkS 16 84 rfl hHeld ?_
 refine tkS 17 85 rfl hHeld ?_
 refine tkS 18 86 rfl hHeld ?_
 refine tkS 19 87 rfl hHeld ?_
 refine tkS 20 88 rfl hHeld ?_
 refine tkS 21 89 rfl hHeld ?_
 refine tkS 22 90 rfl hHeld ?_
 refine tkS 23 91 rfl hHeld ?_
 refine tkS 24 92 rfl hHeld ?_
 refine tkS 25 93 rfl hHeld ?_
 refine tkS 26 94 rfl hHeld ?_
 refine tkS 27 95 rfl hHeld ?_
 refine tkS 28 96 rfl hHeld ?_
 refine tkS 29 97 rfl hHeld ?_
 refine tkS 30 98 rfl hHeld ?_
 refine tkS 31 99 rfl hHeld ?_
 refine tkS 32 100 rfl hHeld ?_
 refine tkS 33 101 rfl hHeld ?_
 refine tkS 34 102 rfl hHeld ?_
 refine tkS 35 103 rfl hHeld ?_
 refine tkS 36 104 rfl hHeld ?_
 refine tkS 37 105 rfl hHeld ?_
 refine tkS 38 106 rfl hHeld ?_
 refine tkS 39 107 rfl hHeld ?_
 refine tkS 40 108 rfl hHeld ?_
 refine rdH 41 109 rfl (fun K hK => ?_)
 go_simp
 have x41 := hHeld
 refine (pair_walkS 73 1 _).mono ?_
 rintro e9 w41 ⟨rfl, h41⟩
 have h41' := x41.self (Ch.of_below h41)
 have HR41 : Hid (Cr w Kq sp sb k ⟨(B : Nat), 99, ks⟩ L9 (fun x => x = -1) (2060 + 17 + 17) w41) := (HR15.out.below h41).mono (fun x h => .inl h) (fun _ h => h) (Nat.le_refl _)
 clear hHeld x41 h41 HR15
 refine hK.out _ _ ?_ (fun hHeld => ?_)
 ·exact h41'
 clear hK K
 try simp only [Act.put, zA, zB, zC]
 refine tkS 42 110 rfl hHeld ?_
 refine tkS 43 111 rfl hHeld ?_
 refine tkS 44 112 rfl hHeld ?_
 refine tkS 45 113 rfl hHeld ?_
 refine tkS 46 114 rfl hHeld ?_
 refine tkS 47 115 rfl hHeld ?_
 refine tkS 48 116 rfl hHeld ?_
 refine tkS 49 117 rfl hHeld ?_
 refine tkS 50 118 rfl hHeld ?_
 refine rdH 51 119 rfl (fun K hK => ?_)
 go_simp
 have x51 := hHeld
 refine (pair_walkS 74 2 _).mono ?_
 rintro e9 w51 ⟨rfl, h51⟩
 have h51' := x51.self (Ch.of_below h51)
 have HR51 : Hid (Cr w Kq sp sb k ⟨(B : Nat), 99, ks⟩ L9 (fun x => x = -1) (2060 + 17 + 17) w51) := (HR41.out.below h51).mono (fun x h => .inl h) (fun _ h => h) (Nat.le_refl _)
 clear hHeld x51 h51 HR41
 refine hK.out _ _ ?_ (fun hHeld => ?_)
 ·exact h51'
 clear hK K
 try simp only [Act.put, zA, zB, zC]
 refine tkS 52 120 rfl hHeld ?_
 refine tkS 53 121 rfl hHeld ?_
 refine wpAnyH_done (by kernel_rfl) ?_ _
 refine NoPanic.normal ?_
 clear k71 k72 a0 a1 a2 b0 b1 b2 v73 v74 hkc htc hk2 hk2' hk12 hk12' ht2i ht2' ht12 ht12' ek1 et1
 have HCA := hidH hHeld
 have HMUA : Hid (Mu w51 g1 (ks ++ [71, 72])) := HMU9.out.ch hHeld (fun q => q HKg.out.1)
 have HMQA : Hid (Mq w51 g2 (T ++ ps)) := mq_ch HMQ9.out.1 hHeld (fun q => q HKg.out.2.1)
 have HKVA : Hid (Kv w51 (.slice ka kn kc) ks) := kv_ch (HKV.out.below HB59.out) hHeld (fun x hx q => q (HKV9.out x hx).1)
 have HQVA : Hid (Qv w51 (.slice ta tn tc) T) := qv_ch (HQ.out.below HB59.out) hHeld (fun _ x hx q => q (HTV9.out x hx).1)
 have HL2 : Hid ((T ++ ps).length = T.length + 2) := by show _ = _; rw [HPS.out]; simp
 have HL1 : Hid ((ks ++ [71, 72]).length = ks.length + 2) := by show _ = _; simp
 clear hHeld HCR0 HKM HQM HKK HTK HBD HMB HMU9
 go_wp2_with fail
 go_loopw [14] (fun iv wr => L1R T g2 w51 iv wr) (fun iv _ => tn - (intOf iv).toNat)
 case atStart => exact ⟨0, T ++ ps, rfl, Nat.zero_le _, HL2.out, fun j h _ => by rw [List.getElem?_append_left h]; simp [h], HMQA.out, Ch.refl _ _⟩
 case round =>
  obtain ⟨i, l, rfl, hi, hll, hlj, hmq, hch⟩ := hrel
  have HI : Hid (i ≤ T.length ∧ l.length = T.length + 2) := ⟨hi, hll⟩
  have HLJ : Hid (∀ j, (h : j < T.length) → i ≤ j → l[j]? = some T[j]) := hlj
  have HMQ : Hid (Mq wr g2 l) := hmq
  have HCH : Hid (Ch (fun x => x = g2) w51 wr) := hch
  have HTVR : Hid (Qv wr (.slice ta tn tc) T) := qv_ch HQVA.out hch (fun _ x hx => (HTV9.out x hx).2.2)
  clear hi hll hlj hmq hch
  by_cases hlt : i < tn
  ·have hlti : (i : Int) < (tn : Int) := by omega
   have hil : i < T.length := by have := HTN.out; omega
   have hi2 : (i : Int) < (t2 : Int) := by have := HN.out; omega
   have hi2' : i < t2 := by have := HN.out; omega
   obtain ⟨p, hp⟩ : ∃ p, p = T[i] := ⟨_, rfl⟩
   have HP : Hid (l[i]? = some p) := by show _ = _; rw [hp]; exact HLJ.out i hil (Nat.le_refl _)
   obtain ⟨⟨⟨ao, cap, e, _, _, _, hql⟩, _⟩⟩ : Nonempty (Qv wr (.slice ta tn tc) T) := ⟨HTVR.out⟩
   cases e
   obtain ⟨b, off, rfl, u0, u1, u2⟩ := hql i hil
   rw [← hp] at u0 u1 u2
   obtain ⟨⟨r0, r1, r2⟩, _⟩ := mq_at HMQ.out HP.out
   have x0 : ∀ wx, Below wr.heap.size wr wx → wx.cell? ⟨g2, i * 3, none⟩ = some (.int .u64 p.k) := fun wx h => by rw [h.cell (p := ⟨g2, i * 3, none⟩) (cell_lt r0)]; exact r0
   have x1 : ∀ wx, Below wr.heap.size wr wx → wx.cell? ⟨g2, i * 3 + 1, none⟩ = some (.bool p.v.h) := fun wx h => by rw [h.cell (p := ⟨g2, i * 3 + 1, none⟩) (cell_lt r1)]; exact r1
   have x2 : ∀ wx, Below wr.heap.size wr wx → wx.cell? ⟨g2, i * 3 + 2, none⟩ = some (.int .u64 p.v.b) := fun wx h => by rw [h.cell (p := ⟨g2, i * 3 + 2, none⟩) (cell_lt r2)]; exact r2
   have y0 : ∀ wx, Below wr.heap.size wr wx → wx.cell? ⟨b, off + i * 3, none⟩ = some (.int .u64 p.k) := fun wx h => by rw [h.cell (p := ⟨b, off + i * 3, none⟩) (cell_lt u0)]; exact u0
   have y1 : ∀ wx, Below wr.heap.size wr wx → wx.cell? ⟨b, off + i * 3 + 1, none⟩ = some (.bool p.v.h) := fun wx h => by rw [h.cell (p := ⟨b, off + i * 3 + 1, none⟩) (cell_lt u1)]; exact u1
   have y2 : ∀ wx, Below wr.heap.size wr wx → wx.cell? ⟨b, off + i * 3 + 2, none⟩ = some (.int .u64 p.v.b) := fun wx h => by rw [h.cell (p := ⟨b, off + i * 3 + 2, none⟩) (cell_lt u2)]; exact u2
   have qv : ∀ wx, (binOp .neq 60 (.agg #[.int .u64 p.k, .bool p.v.h, .int .u64 p.v.b]) (.agg #[.int .u64 p.k, .bool p.v.h, .int .u64 p.v.b])).run Tryz.prog wx = .ok (.bool false) wx := neq_pair p
   clear u0 u1 u2 r0 r1 r2 hp hql
   go_upto_region 20 with fail
   refine wp_region_noPanic ?_
   refine wp_region_held_drew (S := fun wx => Below wr.heap.size wr wx) (by kernel_rfl) ?_ (fun hHeld => ?_)
   ·exact (Below.refl _ _).drew
   refine tkS 0 128 rfl hHeld ?_
   refine tkS 1 129 rfl hHeld ?_
   refine tkS 2 130 rfl hHeld ?_
   refine tkS 3 131 rfl hHeld ?_
   refine tkS 4 132 rfl hHeld ?_
   refine tkS 5 133 rfl hHeld ?_
   refine tkS 6 134 rfl hHeld ?_
   refine tkS 7 135 rfl hHeld ?_
   refine tkS 8 136 rfl hHeld ?_
   refine wpAnyH_done (by kernel_rfl) ?_ _
   refine NoPanic.normal ?_
   have HBX := hidH hHeld
   clear x0 x1 x2 y0 y1 y2 qv hHeld
   go_wp2_with fail
   refine (pair_walkS 5 5 _).mono ?_
   rintro e wp ⟨rfl, hpb⟩
   have HBP := hidH (below_trans HBX.out hpb)
   have HMP : Hid (Mq wp g2 l) := mq_ch (D := fun _ => False) HMQ.out (Ch.of_below HBP.out) (fun q => q)
   have HCP : Hid (Ch (fun x => x = g2) w51 wp) := HCH.out.self (Ch.of_below HBP.out)
   clear hpb HBX HMQ HCH HTVR
   obtain ⟨⟨r0, r1, r2⟩, z0, z1, z2⟩ := mq_at HMP.out HP.out
   go_wp2_with fail
   go_roundw
   case rel => exact ⟨i + 1, l.set i ⟨5, ⟨true, 5⟩⟩, by go_num, by have := HTN.out; omega, by rw [List.length_set]; exact HI.out.2, fun j h hj => by rw [List.getElem?_set_ne (by omega)]; exact HLJ.out j h (by omega), HMP.out.set (by have := HI.out.2; omega) ⟨5, ⟨true, 5⟩⟩, ch_putM (ch_putM (ch_putM HCP.out rfl _ _) rfl _ _) rfl _ _⟩
   case measure => simp [intOf]; omega
  ·have hlti : ¬ (i : Int) < (tn : Int) := by omega
   obtain ⟨wB, hwB⟩ : ∃ wB, wB = wr := ⟨_, rfl⟩
   subst hwB
   have HMUB : Hid (Mu wB g1 (ks ++ [71, 72])) := HMUA.out.ch HCH.out HKg.out.2.2
   have HKVB : Hid (Kv wB (.slice ka kn kc) ks) := kv_ch HKVA.out HCH.out (fun x hx => (HKV9.out x hx).2.2)
   have HCB : Hid (Ch (fun x => x = g1 ∨ x = g2) w51 wB) := ch_up HCH.out (fun x h => .inr h)
   clear HTVR HMQ HLJ HI
   go_wp2_with fail
   go_loopw [15] (fun iv wr => L2R ks g1 wB iv wr) (fun iv _ => kn - (intOf iv).toNat)
   case atStart => exact ⟨0, ks ++ [71, 72], rfl, Nat.zero_le _, HL1.out, fun j h _ => by rw [List.getElem?_append_left h]; simp [h], HMUB.out, Ch.refl _ _⟩
   case round =>
    obtain ⟨i2, l, rfl, hi, hll, hlj, hmu, hch⟩ := hrel
    have HI : Hid (i2 ≤ ks.length ∧ l.length = ks.length + 2) := ⟨hi, hll⟩
    have HLJ : Hid (∀ j, (h : j < ks.length) → i2 ≤ j → l[j]? = some ks[j]) := hlj
    have HMU : Hid (Mu wr g1 l) := hmu
    have HCH : Hid (Ch (fun x => x = g1) wB wr) := hch
    have HKVR : Hid (Kv wr (.slice ka kn kc) ks) := kv_ch HKVB.out hch (fun x hx => (HKV9.out x hx).2.1)
    clear hi hll hlj hmu hch
    by_cases hlk : i2 < kn
    ·have hlki : (i2 : Int) < (kn : Int) := by omega
     have hil : i2 < ks.length := by have := HKN.out; omega
     have hi2 : (i2 : Int) < (n2 : Int) := by have := HN.out; omega
     have hi2' : i2 < n2 := by have := HN.out; omega
     obtain ⟨x, hx⟩ : ∃ x, x = ks[i2] := ⟨_, rfl⟩
     have HP : Hid (l[i2]? = some x) := by show _ = _; rw [hx]; exact HLJ.out i2 hil (Nat.le_refl _)
     obtain ⟨b, off, rfl, u0⟩ := kv_get HKVR.out hil
     rw [← hx] at u0
     have r0 := (mu_at HMU.out HP.out).1
     have x0 : ∀ wx, Below wr.heap.size wr wx → wx.cell? ⟨g1, i2, none⟩ = some (.int .u64 x) := fun wx h => by rw [h.cell (p := ⟨g1, i2, none⟩) (cell_lt r0)]; exact r0
     have y0 : ∀ wx, Below wr.heap.size wr wx → wx.cell? ⟨b, off + i2, none⟩ = some (.int .u64 x) := fun wx h => by rw [h.cell (p := ⟨b, off + i2, none⟩) (cell_lt u0)]; exact u0
     have hxx : ((x : Int) != (x : Int)) = false := by simp
     clear u0 r0 hx
     go_upto_region 26 with fail
     refine wp_region_noPanic ?_
     refine wp_region_held_drew (S := fun wx => Below wr.heap.size wr wx) (by kernel_rfl) ?_ (fun hHeld => ?_)
     ·exact (Below.refl _ _).drew
     refine tkS 0 147 rfl hHeld ?_
     refine tkS 1 148 rfl hHeld ?_
     refine tkS 2 149 rfl hHeld ?_
     refine tkS 3 150 rfl hHeld ?_
     refine tkS 4 151 rfl hHeld ?_
     refine tkS 5 152 rfl hHeld ?_
     refine tkS 6 153 rfl hHeld ?_
     refine tkS 7 154 rfl hHeld ?_
     refine tkS 8 155 rfl hHeld ?_
     refine wpAnyH_done (by kernel_rfl) ?_ _
     refine NoPanic.normal ?_
     have HMP : Hid (Mu wr.drew g1 l) := HMU.out.ch (D := fun _ => False) (Ch.of_below hHeld) (fun q => q)
     have HCP : Hid (Ch (fun x => x = g1) wB wr.drew) := HCH.out.self (Ch.of_below hHeld)
     generalize wr.drew = wp at HMP HCP ⊢
     clear x0 y0 hxx hHeld HMU HCH HKVR
     obtain ⟨r0, z0⟩ := mu_at HMP.out HP.out
     go_wp2_with fail
     go_roundw
     case rel => exact ⟨i2 + 1, l.set i2 6, by go_num, by have := HKN.out; omega, by rw [List.length_set]; exact HI.out.2, fun j h hj => by rw [List.getElem?_set_ne (by omega)]; exact HLJ.out j h (by omega), HMP.out.set i2 6, ch_putM HCP.out rfl _ _⟩
     case measure => simp [intOf]; omega
    ·have hlki : ¬ (i2 : Int) < (kn : Int) := by omega
     obtain ⟨wC, hwC⟩ : ∃ wC, wC = wr := ⟨_, rfl⟩
     subst hwC
     have HCC : Hid (Ch (fun x => x = g1 ∨ x = g2) w51 wC) := HCB.out.self (ch_up HCH.out (fun x h => .inl h))
     have HRC : Hid (Cr w Kq sp sb k ⟨(B : Nat), 99, ks⟩ L9 (fun x => x = -1) (2060 + 17 + 17) wC) := HR51.out.chK HCC.out (fun x hx => by rcases hx with rfl | rfl; exact HKg.out.1; exact HKg.out.2.1)
     clear HMU HCH HLJ HI HMUB HCB HMUA HMQA HKVA HQVA HR51
     have HKVC : Hid (Kv wC (.slice ka kn kc) ks) := HKVR.out
     clear HKVR HKVB
     go_wp2_with fail
     refine (cr_markO HRC.out (by omega)).mono ?_
     rintro e wd ⟨mw, rfl, ho, hc, hr⟩
     have HMO := hidH ho
     obtain ⟨Kd, hKd⟩ : ∃ Kd, Kd = nwK Kq wC wd := ⟨_, rfl⟩
     rw [← hKd] at hr
     have HKd : Hid ((∀ x, Kq x → Kd x) ∧ ∀ x, mw.ownBlock = some x → Kd x) := ⟨fun x h => by rw [hKd]; exact .inl h, fun x hx => by rw [hKd]; exact .inr (ho.lt x hx)⟩
     have HRd : Hid (Cr w Kd sp sb k ⟨(B : Nat), 99, ks⟩ L9 (fun x => x = -1) (2060 + 17 + 17 + 1) wd) := hr
     have HKVd : Hid (Kv wd (.slice ka kn kc) ks) := kv_ch HKVC.out hc (fun x hx q => q (HKV9.out x hx).1)
     have HMWB : Hid (∀ x, mw.ownBlock = some x → wC.heap.size ≤ x ∧ x < wd.heap.size) := fun x hx => ho.lt x hx
     have HKC : Hid (∀ x, Kq x → x < wC.heap.size) := HRC.out.kl
     have HCD : Hid (wC.heap.size ≤ wd.heap.size) := hc.size
     obtain ⟨xa, xn, xc, rfl, hxn⟩ : ∃ x y z, mw = .slice x y z ∧ y = ks.length := by obtain ⟨x, z, e⟩ := own_form8 ho; exact ⟨x, _, z, e, rfl⟩
     have HXN : Hid (xn = ks.length) := hxn
     clear ho hc hr hKd hxn HRC HKVC
     go_upto_region 30 with fail
     have HBe : Hid (Below wd.heap.size wd (wd.alloc (Obj.cells #[.int .i64 (B : Nat), .int .i64 99, .slice xa xn xc] 42))) := below_alloc _ _
     have HM16 : Hid (MB (wd.alloc (Obj.cells #[.int .i64 (B : Nat), .int .i64 99, .slice xa xn xc] 42)) wd.heap.size (B : Nat) 99 (.slice xa xn xc)) := mb_new wd (B : Nat) 99 (.slice xa xn xc)
     have HLTe : Hid (wd.heap.size < (wd.alloc (Obj.cells #[.int .i64 (B : Nat), .int .i64 99, .slice xa xn xc] 42)).heap.size) := by rw [size_allocC]; show _ < _; omega
     obtain ⟨T16, hT16⟩ : ∃ T, T = wd.heap.size := ⟨_, rfl⟩
     have HT16 : Hid (T16 = wd.heap.size) := hT16
     rw [← hT16] at HM16 ⊢
     clear hT16
     generalize (wd.alloc (Obj.cells #[.int .i64 (B : Nat), .int .i64 99, .slice xa xn xc] 42)) = we at HBe HM16 HLTe ⊢
     obtain ⟨Ke, hKe⟩ : ∃ Ke, Ke = nwK Kd wd we := ⟨_, rfl⟩
     have HKe : Hid ((∀ x, Kd x → Ke x) ∧ Ke T16) := ⟨fun x h => by rw [hKe]; exact .inl h, by rw [hKe]; exact .inr ⟨by rw [HT16.out]; exact Nat.le_refl _, by rw [HT16.out]; exact HLTe.out⟩⟩
     have HRe : Hid (Cr w Ke sp sb k ⟨(B : Nat), 99, ks⟩ L9 (fun x => x = -1) (2060 + 17 + 17 + 1) we) := by rw [hKe]; exact HRd.out.below HBe.out
     have HKVe := hidH (HKVd.out.below HBe.out)
     have HMOe : Hid (we.ownsRow wC.heap.size 33 1 (.slice xa xn xc) ks.length ((ib ks).map (Value.int .u64))) := own_belowM HMO.out HBe.out
     clear hKe HMO HRd HKVd HBe
     go_wp2_with fail
     refine (cr_cellsO HRe.out (by omega)).mono ?_
     rintro e wf ⟨lw, d, rfl, hsr, hcw, hlb, hc, hr⟩
     have HSR : Hid (SrtOf L9.flatten d) := hsr
     obtain ⟨Kf, hKf⟩ : ∃ Kf, Kf = nwK Ke we wf := ⟨_, rfl⟩
     rw [← hKf] at hr
     have HKf : Hid ((∀ x, Ke x → Kf x) ∧ (d ≠ [] → ∀ x, lw.ownBlock = some x → Kf x)) := ⟨fun x h => by rw [hKf]; exact .inl h, fun e x hx => by rw [hKf]; exact .inr (hlb e x hx)⟩
     have HRf : Hid (Cr w Kf sp sb k ⟨(B : Nat), 99, ks⟩ L9 (fun x => x = -1) (2060 + 17 + 17 + 1 + 6) wf) := hr
     have HKVf : Hid (Kv wf (.slice ka kn kc) ks) := kv_ch HKVe.out hc (fun x hx q => q (HKe.out.1 x (HKd.out.1 x (HKV9.out x hx).1)))
     have HMOf : Hid (wf.ownsRow wC.heap.size 33 1 (.slice xa xn xc) ks.length ((ib ks).map (Value.int .u64))) := own_chM HMOe.out hc (fun x hx q => q (HKe.out.1 x (HKd.out.2 x hx)))
     have HM16f : Hid (MB wf T16 (B : Nat) 99 (.slice xa xn xc)) := HM16.out.ch hc (fun q => q HKe.out.2)
     have HWE : Hid (we.heap.size ≤ wf.heap.size) := hc.size
     have HLB : Hid (d ≠ [] → ∀ x, lw.ownBlock = some x → we.heap.size ≤ x ∧ x < wf.heap.size) := hlb
     have HCWf : Hid (Cw wf lw d) := hcw
     obtain ⟨la, ln, lc, rfl, hln⟩ : ∃ x y z, lw = .slice x y z ∧ y = d.length := by obtain ⟨x, z, e, _⟩ := hcw; exact ⟨x, _, z, e, rfl⟩
     have HLN : Hid (ln = d.length) := hln
     have HLNi : Hid (d.length ≤ maxLen) := by obtain ⟨_, _, _, h1, h2, _⟩ := HCWf.out; exact Nat.le_trans h1 h2
     clear hsr hcw hlb hc hr hKf hln HRe HKVe HMOe HM16
     go_wp2_with fail
     refine (cr_cellsO HRf.out (by omega)).mono ?_
     rintro e wg ⟨kw, d2, rfl, hsr, hcw, hlb, hc, hr⟩
     obtain rfl : d2 = d := srt_eq HAP.out.2.gd.pok.1 HAP.out.2.lk hsr HSR.out
     obtain ⟨Kg, hKg⟩ : ∃ Kg, Kg = nwK Kf wf wg := ⟨_, rfl⟩
     rw [← hKg] at hr
     have HKgg : Hid ((∀ x, Kf x → Kg x) ∧ (d2 ≠ [] → ∀ x, kw.ownBlock = some x → Kg x)) := ⟨fun x h => by rw [hKg]; exact .inl h, fun e x hx => by rw [hKg]; exact .inr (hlb e x hx)⟩
     have HRg : Hid (Cr w Kg sp sb k ⟨(B : Nat), 99, ks⟩ L9 (fun x => x = -1) (2060 + 17 + 17 + 1 + 6 + 6) wg) := hr
     have HKVg : Hid (Kv wg (.slice ka kn kc) ks) := kv_ch HKVf.out hc (fun x hx q => q (HKf.out.1 x (HKe.out.1 x (HKd.out.1 x (HKV9.out x hx).1))))
     have HMOg : Hid (wg.ownsRow wC.heap.size 33 1 (.slice xa xn xc) ks.length ((ib ks).map (Value.int .u64))) := own_chM HMOf.out hc (fun x hx q => q (HKf.out.1 x (HKe.out.1 x (HKd.out.2 x hx))))
     have HM16g : Hid (MB wg T16 (B : Nat) 99 (.slice xa xn xc)) := HM16f.out.ch hc (fun q => q (HKf.out.1 _ HKe.out.2))
     have HCLg : Hid (Cw wg (.slice la ln lc) d2) := cw_ch HCWf.out hc (fun e x hx q => q (HKf.out.2 e x hx))
     have HCKg : Hid (Cw wg kw d2) := hcw
     have HKB2 : Hid (d2 ≠ [] → ∀ x, kw.ownBlock = some x → wf.heap.size ≤ x ∧ x < wg.heap.size) := hlb
     have HWFs : Hid (we.heap.size ≤ wf.heap.size ∧ wf.heap.size ≤ wg.heap.size) := ⟨HWE.out, hc.size⟩
     obtain ⟨za, zn, zc, rfl⟩ : ∃ x y z, kw = .slice x y z := by obtain ⟨x, z, e, _⟩ := hcw; exact ⟨x, _, z, e⟩
     clear hsr hcw hlb hc hr hKg HRf HKVf HMOf HM16f HCWf
     obtain ⟨f0, f1, f2, _⟩ := HM16g.out
     have HKMg : Hid (Kv wg (.slice xa xn xc) ks) := own_sv HMOg.out
     go_wp2_with fail
     refine (marks_same HKMg.out HKVg.out (B : Nat) 99).mono ?_
     rintro e wh ⟨rfl, hb⟩
     have HBh := hidH hb
     clear hb f0 f1 f2
     go_wp2_with fail
     refine (cells_same (cw_below HCLg.out HBh.out) (cw_below HCKg.out HBh.out)).mono ?_
     rintro e wi ⟨rfl, hb⟩
     have HBi := hidH (below_trans HBh.out hb)
     have HKVi := hidH (HKVg.out.below HBi.out)
     have HM16i := hidH (HM16g.out.keep HBi.out)
     have HMOi : Hid (wi.ownsRow wC.heap.size 33 1 (.slice xa xn xc) ks.length ((ib ks).map (Value.int .u64))) := own_belowM HMOg.out HBi.out
     have HCLi : Hid (Cw wi (.slice la ln lc) d2) := cw_below HCLg.out HBi.out
     have HCKi : Hid (Cw wi (.slice za zn zc) d2) := cw_below HCKg.out HBi.out
     have HRi : Hid (Cr w Kg sp sb k ⟨(B : Nat), 99, ks⟩ L9 (fun x => x = -1) (2060 + 17 + 17 + 1 + 6 + 6) wi) := (HRg.out.below HBi.out).mono (fun x h => .inl h) (fun _ h => h) (Nat.le_refl _)
     have HKQG : Hid (∀ x, Kq x → Kg x) := fun x h => HKgg.out.1 x (HKf.out.1 x (HKe.out.1 x (HKd.out.1 x h)))
     have HNE : Hid ((∀ x, (Value.slice xa xn xc).ownBlock = some x → Kg x ∧ x ≠ T16 ∧ ¬ Kq x ∧ (d2 ≠ [] → (Value.slice la ln lc).ownBlock ≠ some x) ∧ (d2 ≠ [] → (Value.slice za zn zc).ownBlock ≠ some x)) ∧ (d2 ≠ [] → ∀ x, (Value.slice la ln lc).ownBlock = some x → Kg x ∧ ¬ Kq x ∧ (Value.slice za zn zc).ownBlock ≠ some x)) := by
      have s1 := HLTe.out
      have s2 := HT16.out
      have s3 := HWFs.out
      refine ⟨fun x hx => ?_, fun e x hx => ?_⟩
      ·have b1 := HMWB.out x hx
       refine ⟨HKgg.out.1 x (HKf.out.1 x (HKe.out.1 x (HKd.out.2 x hx))), by omega, fun q => by have := HKC.out x q; omega, fun e q => by have := HLB.out e x q; omega, fun e q => by have := HKB2.out e x q; omega⟩
      ·have b1 := HLB.out e x hx
       refine ⟨HKgg.out.1 x (HKf.out.2 e x hx), fun q => by have h1 := HKC.out x q; have h2 := HCD.out; omega, fun q => by have := HKB2.out e x q; omega⟩
     have R3 : L3R (.slice xa xn xc) xn 1 wi (.int .i64 0) wi := ⟨0, rfl, Nat.zero_le _, fun g _ hg => by
      rcases rc_own HMOi.out with ⟨h1, h2⟩ | ⟨g', cap, h1, _, _, h2⟩
      ·cases h1; simp [Value.ownBlock] at hg
      ·cases h1; simp [Value.ownBlock] at hg; subst hg; exact h2, Ch.refl _ _⟩
     have HXA : Hid (xn ≠ 0 → ∃ g, xa = some ⟨g, 0, none⟩) := fun hn => by
      rcases rc_own HMOi.out with ⟨h1, h2⟩ | ⟨g', cap, h1, _, _, h2⟩
      ·exact absurd (HXN.out.trans h2) hn
      ·cases h1; exact ⟨g', rfl⟩
     have hxni : (xn : Int) ≤ 40 := by have h1 := HXN.out; have h2 := HKL.out; omega
     clear hb HBh HBi HKVg HM16g HMOg HCLg HCKg HRg HKMg HMOi
     go_wp2_with fail
     go_loopw [22] (fun iv wr => L3R (.slice xa xn xc) xn 1 wi iv wr) (fun iv _ => xn - (intOf iv).toNat)
     case atStart => exact R3
     case round =>
      clear R3
      obtain ⟨i3, rfl, hi, hrc, hch⟩ := hrel
      have HRC3 : Hid (∀ g, xn ≠ 0 → (Value.slice xa xn xc).ownBlock = some g → Rcl wr g (xn * 1)) := hrc
      have HCH3 : Hid (Ch (fun x => xn ≠ 0 ∧ (Value.slice xa xn xc).ownBlock = some x) wi wr) := hch
      have HM16r : Hid (MB wr T16 (B : Nat) 99 (.slice xa xn xc)) := HM16i.out.ch hch (fun q => (HNE.out.1 _ q.2).2.1 rfl)
      clear hrc hch
      obtain ⟨f0, f1, f2, _⟩ := HM16r.out
      by_cases hlx : i3 < xn
      ·have hlxi : (i3 : Int) < (xn : Int) := by omega
       have hx0 : xn ≠ 0 := by omega
       obtain ⟨g3, rfl⟩ := HXA.out hx0
       obtain ⟨⟨y0, e0⟩, z0⟩ := HRC3.out g3 hx0 rfl i3 (by omega)
       have HX0 : Hid (xn ≠ 0) := hx0
       clear hx0
       go_wp2_with fail
       go_roundw
       case rel => exact ⟨i3 + 1, by go_num, by omega, fun g hn hg => (HRC3.out g hn hg).put hg, ch_putM HCH3.out ⟨HX0.out, rfl⟩ _ _⟩
       case measure => simp [intOf]; omega
      ·have hlxi : ¬ (i3 : Int) < (xn : Int) := by omega
       obtain ⟨wj, hwj⟩ : ∃ wj, wj = wr := ⟨_, rfl⟩
       subst hwj
       have HKVj : Hid (Kv wj (.slice ka kn kc) ks) := kv_ch HKVi.out HCH3.out (fun x hx q => (HNE.out.1 x q.2).2.2.1 (HKV9.out x hx).1)
       have HCLj : Hid (Cw wj (.slice la ln lc) d2) := cw_ch HCLi.out HCH3.out (fun e x hx q => (HNE.out.1 x q.2).2.2.2.1 e hx)
       have HCKj : Hid (Cw wj (.slice za zn zc) d2) := cw_ch HCKi.out HCH3.out (fun e x hx q => (HNE.out.1 x q.2).2.2.2.2 e hx)
       have HRj : Hid (Cr w Kg sp sb k ⟨(B : Nat), 99, ks⟩ L9 (fun x => x = -1) (2060 + 17 + 17 + 1 + 6 + 6) wj) := HRi.out.chK HCH3.out (fun x hx => (HNE.out.1 x hx.2).1)
       have HLA : Hid (ln ≠ 0 → d2 ≠ [] ∧ ∃ g, la = some ⟨g, 0, none⟩) := fun hn => by
        have hd : d2 ≠ [] := fun e => hn (by rw [HLN.out, e]; rfl)
        obtain ⟨ao, cap, e, _, _, h⟩ := HCLj.out
        cases e
        obtain ⟨g, e, _⟩ := h hd
        exact ⟨hd, g, e⟩
       have R4 : L3R (.slice la ln lc) ln 6 wj (.int .i64 0) wj := ⟨0, rfl, Nat.zero_le _, fun g hn hg => by
        obtain ⟨ao, cap, e, _, _, h⟩ := HCLj.out
        cases e
        obtain ⟨g', e, _, hm⟩ := h (HLA.out hn).1
        subst e
        simp [Value.ownBlock] at hg
        subst hg
        rw [HLN.out]
        exact mc_rc hm, Ch.refl _ _⟩
       have hlni : (ln : Int) ≤ 9223372036854775807 := by have h1 := HLNi.out; have h2 := HLN.out; simp only [maxLen] at h1; omega
       clear HM16i HKVi HCLi HCKi HRi HRC3 HCH3 HXA
       go_wp2_with fail
       clear f0 f1 f2 HM16r
       go_loopw [23] (fun iv wr => L3R (.slice la ln lc) ln 6 wj iv wr) (fun iv _ => ln - (intOf iv).toNat)
       case atStart => exact R4
       case round =>
        clear R4
        obtain ⟨i4, rfl, hi4, hrc, hch⟩ := hrel
        have HRC4 : Hid (∀ g, ln ≠ 0 → (Value.slice la ln lc).ownBlock = some g → Rcl wr g (ln * 6)) := hrc
        have HCH4 : Hid (Ch (fun x => ln ≠ 0 ∧ (Value.slice la ln lc).ownBlock = some x) wj wr) := hch
        clear hrc hch
        by_cases hll4 : i4 < ln
        ·have hll4i : (i4 : Int) < (ln : Int) := by omega
         have hx0 : ln ≠ 0 := by omega
         obtain ⟨_, g4, rfl⟩ := HLA.out hx0
         have HR4 : Hid (Rcl wr g4 (ln * 6)) := HRC4.out g4 hx0 rfl
         obtain ⟨⟨y0, e0⟩, z0⟩ := HR4.out (i4 * 6) (by omega)
         obtain ⟨⟨y1, e1⟩, z1⟩ := HR4.out (i4 * 6 + 1) (by omega)
         obtain ⟨⟨y2, e2⟩, z2⟩ := HR4.out (i4 * 6 + 2) (by omega)
         obtain ⟨⟨y3, e3⟩, z3⟩ := HR4.out (i4 * 6 + 3) (by omega)
         obtain ⟨⟨y4, e4⟩, z4⟩ := HR4.out (i4 * 6 + 4) (by omega)
         obtain ⟨⟨y5, e5⟩, z5⟩ := HR4.out (i4 * 6 + 5) (by omega)
         have HX0 : Hid (ln ≠ 0) := hx0
         clear hx0
         go_wp2_with fail
         go_roundw
         case rel => exact ⟨i4 + 1, by go_num, by omega, fun g hn hg => (((((((HRC4.out g hn hg).put hg).put hg).put hg).put hg).put hg).put hg), ch_putM (ch_putM (ch_putM (ch_putM (ch_putM (ch_putM HCH4.out ⟨HX0.out, rfl⟩ _ _) ⟨HX0.out, rfl⟩ _ _) ⟨HX0.out, rfl⟩ _ _) ⟨HX0.out, rfl⟩ _ _) ⟨HX0.out, rfl⟩ _ _) ⟨HX0.out, rfl⟩ _ _⟩
         case measure => simp [intOf]; omega
        ·have hll4i : ¬ (i4 : Int) < (ln : Int) := by omega
         obtain ⟨wk, hwk⟩ : ∃ wk, wk = wr := ⟨_, rfl⟩
         subst hwk
         have HKVk : Hid (Kv wk (.slice ka kn kc) ks) := kv_ch HKVj.out HCH4.out (fun x hx q => (HNE.out.2 (HLA.out q.1).1 x q.2).2.1 (HKV9.out x hx).1)
         have HCKk : Hid (Cw wk (.slice za zn zc) d2) := cw_ch HCKj.out HCH4.out (fun e x hx q => (HNE.out.2 e x q.2).2.2 hx)
         have HRk : Hid (Cr w Kg sp sb k ⟨(B : Nat), 99, ks⟩ L9 (fun x => x = -1) (2060 + 17 + 17 + 1 + 6 + 6) wk) := HRj.out.chK HCH4.out (fun x hx => (HNE.out.2 (HLA.out hx.1).1 x hx.2).1)
         clear HKVj HCKj HRj HCLj HRC4 HCH4
         go_wp2_with fail
         refine (cr_mark HRk.out (by omega)).mono ?_
         rintro e wl ⟨nw, rfl, hmk, hmK, hc, hr⟩
         obtain ⟨oa, on, oc, rfl⟩ := sv_any hmk
         obtain ⟨Kl, hKl⟩ : ∃ Kl, Kl = nwK Kg wk wl := ⟨_, rfl⟩
         rw [← hKl] at hr
         have HKl : Hid ((∀ x, Kg x → Kl x) ∧ ∀ x, (Value.slice oa on oc).ownBlock = some x → Kl x) := ⟨fun x h => by rw [hKl]; exact .inl h, fun x hx => by rw [hKl]; exact .inr (hmK x hx)⟩
         have HRl : Hid (Cr w Kl sp sb k ⟨(B : Nat), 99, ks⟩ L9 (fun x => x = -1) (2060 + 17 + 17 + 1 + 6 + 6 + 1) wl) := hr
         have HKVl : Hid (Kv wl (.slice ka kn kc) ks) := kv_ch HKVk.out hc (fun x hx q => q (HKQG.out x (HKV9.out x hx).1))
         have HCKl : Hid (Cw wl (.slice za zn zc) d2) := cw_ch HCKk.out hc (fun e x hx q => q (HKgg.out.2 e x hx))
         have HNVl := hidH hmk
         clear hmk hmK hc hr hKl HKVk HCKk HRk
         go_upto_region 43 with fail
         have HBm : Hid (Below wl.heap.size wl (wl.alloc (Obj.cells #[.int .i64 (B : Nat), .int .i64 99, .slice oa on oc] 42))) := below_alloc _ _
         have HM24 : Hid (MB (wl.alloc (Obj.cells #[.int .i64 (B : Nat), .int .i64 99, .slice oa on oc] 42)) wl.heap.size (B : Nat) 99 (.slice oa on oc)) := mb_new wl (B : Nat) 99 (.slice oa on oc)
         have HLTm : Hid (wl.heap.size < (wl.alloc (Obj.cells #[.int .i64 (B : Nat), .int .i64 99, .slice oa on oc] 42)).heap.size) := by rw [size_allocC]; show _ < _; omega
         obtain ⟨T24, hT24⟩ : ∃ T, T = wl.heap.size := ⟨_, rfl⟩
         have HT24 : Hid (T24 = wl.heap.size) := hT24
         rw [← hT24] at HM24 ⊢
         clear hT24
         generalize (wl.alloc (Obj.cells #[.int .i64 (B : Nat), .int .i64 99, .slice oa on oc] 42)) = wm at HBm HM24 HLTm ⊢
         obtain ⟨Km, hKm⟩ : ∃ Km, Km = nwK Kl wl wm := ⟨_, rfl⟩
         have HKm : Hid ((∀ x, Kl x → Km x) ∧ Km T24) := ⟨fun x h => by rw [hKm]; exact .inl h, by rw [hKm]; exact .inr ⟨by rw [HT24.out]; exact Nat.le_refl _, by rw [HT24.out]; exact HLTm.out⟩⟩
         have HRm : Hid (Cr w Km sp sb k ⟨(B : Nat), 99, ks⟩ L9 (fun x => x = -1) (2060 + 17 + 17 + 1 + 6 + 6 + 1) wm) := by rw [hKm]; exact HRl.out.below HBm.out
         have HKVm := hidH (HKVl.out.below HBm.out)
         have HNVm := hidH (HNVl.out.below HBm.out)
         have HCKm : Hid (Cw wm (.slice za zn zc) d2) := cw_below HCKl.out HBm.out
         clear hKm HRl HKVl HNVl HCKl HBm
         go_wp2_with fail
         refine (cr_cells HRm.out (by omega)).mono ?_
         rintro e wo ⟨jw, d3, rfl, hsr, hcw, _, hc, hr⟩
         obtain rfl : d3 = d2 := srt_eq HAP.out.2.gd.pok.1 HAP.out.2.lk hsr HSR.out
         have HKVo : Hid (Kv wo (.slice ka kn kc) ks) := kv_ch HKVm.out hc (fun x hx q => q (HKm.out.1 x (HKl.out.1 x (HKQG.out x (HKV9.out x hx).1))))
         have HNVo : Hid (Kv wo (.slice oa on oc) ks) := kv_ch HNVm.out hc (fun x hx q => q (HKm.out.1 x (HKl.out.2 x hx)))
         have HCKo : Hid (Cw wo (.slice za zn zc) d3) := cw_ch HCKm.out hc (fun e x hx q => q (HKm.out.1 x (HKl.out.1 x (HKgg.out.2 e x hx))))
         have HM24o : Hid (MB wo T24 (B : Nat) 99 (.slice oa on oc)) := HM24.out.ch hc (fun q => q HKm.out.2)
         have HCJo : Hid (Cw wo jw d3) := hcw
         have HBWo : Hid (Below w.heap.size w wo) := hr.bw
         obtain ⟨ja, jn', jc', rfl⟩ : ∃ x y z, jw = .slice x y z := by obtain ⟨x, z, e, _⟩ := hcw; exact ⟨x, _, z, e⟩
         clear hsr hcw hc hr HKVm HNVm HCKm HM24 HRm
         obtain ⟨f0, f1, f2, _⟩ := HM24o.out
         go_wp2_with fail
         refine (marks_same HNVo.out HKVo.out (B : Nat) 99).mono ?_
         rintro e wq ⟨rfl, hb⟩
         have HBq := hidH hb
         clear hb f0 f1 f2
         go_wp2_with fail
         refine (cells_same (cw_below HCJo.out HBq.out) (cw_below HCKo.out HBq.out)).mono ?_
         rintro e ws ⟨rfl, hb⟩
         have HBs := hidH (below_trans HBWo.out (below_trans HBq.out hb))
         clear hb
         go_wp2_with fail
         go_ret
         exact ⟨rfl, HBs.out⟩
end
end Go.Proofs.YtofkhgokfdpdiabGreat
