/- NetMemory: rows of the call's own; what stays while they are written over. -/
import Derived.Test.YtonnlhehbhiiiaaNk

import Derived.Test.YtonnlhehbhiiiaaLh

import Derived.Deep.DeepCutAuto

namespace Go.Proofs.Ytonnlhehbhiiiaa

open Go.RowKit



theorem own_make0 (w : World) (e s : Nat) {base : Nat} (hb : base ≤ w.heap.size) : (w.alloc (.cells #[] e)).ownsRow base e s (.slice (some ⟨w.heap.size, 0, none⟩) 0 0) 0 [] :=
  ⟨by simp, .inr ⟨_, 0, #[], rfl, hb, heap_alloc_new w _, Nat.le_refl _, by simp [maxLen], by simp, by simp⟩⟩
theorem step_app_sv {ops : Array Oper} {o : Oper} {a : Act} {w : World} {K : Act → World → Prop} {Q : Exit → Act → World → Prop} {E : Prop}
    (hg : o.guard = none) (s x : Operand) (t : TypeId) (hop : o.op = Op.call { callee := Callee.builtin Builtin.append, args := #[s, x], argTypes := #[t, t] })
    (base : Nat) (e : TypeId) (k : IntKind) (ht : Try.prog.underlying t = some (.slice e)) (hinf : (Try.prog.info? e).map (fun i => (i.zero, i.size, i.bytes)) = some (some (.int k 0), 1, 8))
    (v : Value) (n : Nat) (xs : List Value) (hs : a.eval s = v) (hown : w.ownsRow base e 1 v n xs)
    (y : Value) (l : List Int) (hx : a.eval x = y) (hy : Sv k w y l) (h63 : (n + l.length) * 8 ≤ 140737488355328) (hbase : base ≤ w.heap.size)
    (hK : ∀ v' w', w'.ownsRow base e 1 v' (n + l.length) (xs ++ l.map (Value.int k)) → w.grownBy w' v.ownBlock → (v'.ownBlock = v.ownBlock ∨ v'.ownBlock = some w.heap.size) → K (a.put o.dst v') w') :
    if Region.wanted o (yielded ops a.tmps) = true then Oper.wp Try.prog o a w K Q else E := by
  have hw : Region.wanted o (yielded ops a.tmps) = true := by simp [Region.wanted, hg]
  rw [if_pos hw]
  obtain ⟨i0, hi, hz0, hz1, hz2⟩ := info_partsQ hinf
  obtain ⟨ao, cap, rfl, hc1, hc2, hnone, hcells⟩ := hy
  cases ao with
  | none =>
    obtain rfl := hnone rfl
    have hl0 : l.length = 0 := by omega
    have hl : l = [] := List.eq_nil_of_length_eq_zero hl0
    subst hl
    have hrun := run_append_owned_none (P := Try.prog) (w := w) base t o.type e i0 1 ht hi v n xs hown
    have hx' : a.eval x = .slice none 0 0 := hx
    unfold Oper.wp
    simp [execOp, hop, resolve, invoke, builtin, hs, hx', hrun, Result.andThen]
    exact hK v w (by simpa using hown) ⟨rfl, rfl, rfl, Nat.le_refl _, fun _ _ _ => rfl⟩ (.inl rfl)
  | some p =>
    obtain ⟨v', w', hrun, r1, r2, _, r4⟩ := run_append_own_at (P := Try.prog) w base t o.type e i0 (.int k 0) 1 8 ht hi hz0 hz1 hz2 rfl (by decide) v n xs hown p l.length cap (l.map (Value.int k)) (by simp) (fun j u hj => by
      have hjl : j < l.length := by
        rcases Nat.lt_or_ge j l.length with h | h
        · exact h
        · simp [List.getElem?_eq_none (show (l.map (Value.int k)).length ≤ j by simpa using h)] at hj
      obtain ⟨b, off, e1, e2⟩ := hcells j hjl
      cases e1
      rw [WideShapes.add_plain, e2]
      simp [List.getElem?_eq_getElem hjl] at hj
      simp [List.getD, List.getElem?_eq_getElem hjl, hj]) (fun u hu => by obtain ⟨z, _, rfl⟩ := List.mem_map.1 hu; rfl) (by unfold maxLen; omega) h63 hbase
    unfold Oper.wp
    simp [execOp, hop, resolve, invoke, builtin, hs, hx, hrun, Result.andThen]
    exact hK v' w' r1 r2 r4
theorem qv_flat {w : World} {p : Addr} {n cap : Nat} {l : List Pr} (h : Qv w (.slice (some p) n cap) l) : ∀ j u, (flatQ l)[j]? = some u → w.cell? (p.add j) = some u := by
  obtain ⟨⟨ao, c, e0, hc1, hc2, hnone, hcells⟩, _⟩ := h
  cases e0
  intro j u hj
  have hjl : j < l.length * 3 := by
    rcases Nat.lt_or_ge j (l.length * 3) with h | h
    · exact h
    · rw [List.getElem?_eq_none (by rw [flatQ_len]; exact h)] at hj; cases hj
  obtain ⟨b, off, e1, g0, g1, g2⟩ := hcells (j / 3) (by omega)
  cases e1
  obtain ⟨f0, f1, f2⟩ := flatQ_get l (j / 3) (by omega)
  rw [WideShapes.add_plain]
  have hmod : j % 3 = 0 ∨ j % 3 = 1 ∨ j % 3 = 2 := by omega
  rcases hmod with hm | hm | hm
  · have e2 : j / 3 * 3 = j := by omega
    rw [e2] at f0 g0
    rw [f0] at hj; rw [g0, hj]
  · have e2 : j / 3 * 3 + 1 = j := by omega
    rw [Nat.add_assoc, e2] at g1
    rw [e2] at f1
    rw [f1] at hj; rw [g1, hj]
  · have e2 : j / 3 * 3 + 2 = j := by omega
    rw [Nat.add_assoc, e2] at g2
    rw [e2] at f2
    rw [f2] at hj; rw [g2, hj]
theorem step_app_qv {ops : Array Oper} {o : Oper} {a : Act} {w : World} {K : Act → World → Prop} {Q : Exit → Act → World → Prop} {E : Prop}
    (hg : o.guard = none) (s x : Operand) (hop : o.op = Op.call { callee := Callee.builtin Builtin.append, args := #[s, x], argTypes := #[33, 33] })
    (base : Nat) (v : Value) (n : Nat) (m : List Pr) (hs : a.eval s = v) (hown : w.ownsRow base 60 3 v n (flatQ m))
    (y : Value) (l : List Pr) (hx : a.eval x = y) (hy : Qv w y l) (h63 : (n + l.length) * 24 ≤ 140737488355328) (hbase : base ≤ w.heap.size)
    (hK : ∀ v' w', w'.ownsRow base 60 3 v' (n + l.length) (flatQ (m ++ l)) → w.grownBy w' v.ownBlock → (v'.ownBlock = v.ownBlock ∨ v'.ownBlock = some w.heap.size) → K (a.put o.dst v') w') :
    if Region.wanted o (yielded ops a.tmps) = true then Oper.wp Try.prog o a w K Q else E := by
  have hw : Region.wanted o (yielded ops a.tmps) = true := by simp [Region.wanted, hg]
  rw [if_pos hw]
  obtain ⟨i0, hi, hz0, hz1, hz2⟩ := info_partsQ info_pairN
  have hfl := hy
  obtain ⟨⟨ao, cap, rfl, hc1, hc2, hnone, _⟩, _⟩ := hy
  cases ao with
  | none =>
    obtain rfl := hnone rfl
    have hl0 : l.length = 0 := by omega
    have hl : l = [] := List.eq_nil_of_length_eq_zero hl0
    subst hl
    have hrun := run_append_owned_none (P := Try.prog) (w := w) base 33 o.type 60 i0 3 Try.underlying33 hi v n (flatQ m) hown
    have hx' : a.eval x = .slice none 0 0 := hx
    unfold Oper.wp
    simp [execOp, hop, resolve, invoke, builtin, hs, hx', hrun, Result.andThen]
    exact hK v w (by simpa using hown) ⟨rfl, rfl, rfl, Nat.le_refl _, fun _ _ _ => rfl⟩ (.inl rfl)
  | some p =>
    obtain ⟨v', w', hrun, r1, r2, _, r4⟩ := run_append_own_at (P := Try.prog) w base 33 o.type 60 i0 (.agg #[.int .u64 0, .bool false, .int .u64 0]) 3 24 Try.underlying33 hi hz0 hz1 hz2 rfl (by decide) v n (flatQ m) hown p l.length cap (flatQ l) (flatQ_len l) (qv_flat hfl) (fun u hu => flatQ_mem hu) (by unfold maxLen; omega) h63 hbase
    unfold Oper.wp
    simp [execOp, hop, resolve, invoke, builtin, hs, hx, hrun, Result.andThen]
    exact hK v' w' (by rw [flatQ_append]; exact r1) r2 r4
theorem own_cutN {w : World} {base e s n k g cap : Nat} {xs : List Value} (h : w.ownsRow base e s (.slice (some ⟨g, 0, none⟩) n cap) n xs) (hk : k ≤ n) : w.ownsRow base e s (.slice (some ⟨g, 0, none⟩) k cap) k (xs.take (k * s)) := by
  obtain ⟨h1, h2⟩ := h
  have hks : k * s ≤ n * s := Nat.mul_le_mul_right _ hk
  refine ⟨by rw [List.length_take]; omega, .inr ?_⟩
  rcases h2 with ⟨h3, _⟩ | ⟨g', cap', cur, e1, hg, hh, hnc, hcm, hcs, htk⟩
  · cases h3
  · cases e1
    refine ⟨g, cap, cur, rfl, hg, hh, by omega, hcm, hcs, ?_⟩
    rw [← htk, List.take_take, Nat.min_eq_left hks]
/-- Three lists that are written over, in blocks of D. -/
structure Wv (lo hi : Nat) (w9 w : World) (ve vq vp : Value) (ne nq np : Nat) : Prop where
  ch : Ch (fun x => lo ≤ x ∧ x < hi) w9 w
  e : Rw w lo hi ve ne 1
  q : Rw w lo hi vq nq 1
  p : Rw w lo hi vp np 3
theorem Wv.put {lo hi : Nat} {w9 w : World} {ve vq vp : Value} {ne nq np : Nat} (h : Wv lo hi w9 w ve vq vp ne nq np) {g : Nat} (hg : lo ≤ g ∧ g < hi) (o : Nat) (u : Value) : Wv lo hi w9 (w.setCell ⟨g, o, none⟩ u) ve vq vp ne nq np :=
  ⟨h.ch.trans (ch_set _ _ _ _) (fun x hx => by left; rw [hx]; exact hg), h.e.put _ _ _, h.q.put _ _ _, h.p.put _ _ _⟩
theorem Wv.put3 {lo hi : Nat} {w9 w : World} {ve vq vp : Value} {ne nq np : Nat} (h : Wv lo hi w9 w ve vq vp ne nq np) {g : Nat} (hg : lo ≤ g ∧ g < hi) (o p q : Nat) (a b c : Value) : Wv lo hi w9 (((w.setCell ⟨g, o, none⟩ a).setCell ⟨g, p, none⟩ b).setCell ⟨g, q, none⟩ c) ve vq vp ne nq np := ((h.put hg o a).put hg p b).put hg q c
end Go.Proofs.Ytonnlhehbhiiiaa


