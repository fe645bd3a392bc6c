/- Produce. -/
import Derived.Test.YtjkhegekojflhabVd
namespace Go.Proofs.Ytjkhegekojflhab
open Ieee Go.RowKit

def addS (S : Sc) (p : Nat) (r : Rcd) (ks : List Nat) : Sc := { S with logs := upd S.logs p (S.logs p ++ [r]), keys := ks }
def prodS (S : Sc) (p : Int) (r : Rcd) : Int × Sc :=
  if hasS S p then
    if 256 ≤ (S.logs p.toNat).length then (61, S)
    else if (runS S.list r).1 = 1 then
      if (runS S.list r).2.k ∈ S.keys ∨ S.keys.length < 64 then (0, addS S p.toNat r (insK (runS S.list r).2.k S.keys)) else (62, S)
    else (0, addS S p.toNat r S.keys)
  else (60, S)

section
variable {D : Nat → Prop} {w : World} {v : Value} {S : Sc}

set_option maxRecDepth 100000 in
theorem takes_walk {sb gp gm : Nat} {lv : Value} {rv : Nat → Value} (h : SM D w sb gp gm lv rv S) {k : Nat} (hk : k < 18446744073709551616) :
    Calls Try.prog 32 #[.pointer (some ⟨sb, 0, none⟩), .int .u64 k] w fun e w' => e = .returned (.bool (decide (k ∈ S.keys ∨ S.keys.length < 64))) ∧ Below w.heap.size w w' := by
  have c2 := h.c2
  have c2' : ∀ o, (w.alloc o).cell? ⟨sb, 2, none⟩ = some (.map (some gm)) := fun o => (h.below (below_alloc w o)).c2
  have hlk := ks_look h.keys hk
  have hln : ∀ o, (Builtin.len_ #[71] 3 #[.map (some gm)]).run Try.prog (w.alloc o) = .ok (.int .i64 S.keys.length) (w.alloc o) := fun o => ks_len (h.keys.kept ((World.grownBy_alloc w o none).block gm h.keys.lt (by simp))) _
  obtain ⟨n, hn⟩ : ∃ n, n = S.keys.length := ⟨_, rfl⟩
  rw [← hn] at hln ⊢
  clear h hk hn
  by_cases hm : k ∈ S.keys
  · rw [decide_eq_true hm] at hlk
    rw [decide_eq_true (.inl hm)]
    clear hm
    go_enter Try.func32, Try.ntmps32
    go_wp2_with fail
    go_ret
    exact ⟨rfl, below_alloc _ _⟩
  · rw [decide_eq_false hm] at hlk
    have e : decide (k ∈ S.keys ∨ n < 64) = decide ((n : Int) < 64) := by
      by_cases h64 : n < 64
      · rw [decide_eq_true (.inr h64), decide_eq_true (by omega)]
      · rw [decide_eq_false (by rintro (h | h); exact hm h; exact h64 h), decide_eq_false (by omega)]
    rw [e]
    clear hm e
    go_enter Try.func32, Try.ntmps32
    go_wp2_with fail
    go_ret
    exact ⟨rfl, below_alloc _ _⟩

theorem SM.addK {sb gp gm : Nat} {lv : Value} {rv : Nat → Value} {w' : World} {ks : List Nat} (h : SM D w sb gp gm lv rv S) (hg : w.grownBy w' (some gm)) (hk : Ks w' gm ks) : SM D w' sb gp gm lv rv { S with keys := ks } := by
  have hb : ∀ x, D x → x ≠ gm → w'.heap[x]? = w.heap[x]? := fun x hx hne => hg.block x (h.dl x hx) (by simpa using hne)
  obtain ⟨cur, p1, p2, p3⟩ := h.part
  exact ⟨by rw [hb _ h.d1.1 h.a2]; exact h.head, ⟨cur, by rw [hb _ h.d1.2.1 h.a3]; exact p1, p2, p3⟩, hk, h.list.keep (fun x hx => hb x (h.d3 x hx) (h.a5 x hx).2.2), fun p hp => row_keep (h.rows p hp) (fun x hx => hb x (h.d2 p x hp hx) (h.a4 p x hp hx).2.2.1),
    h.a1, h.a2, h.a3, h.a4, h.a5, h.a6, h.d1, h.d2, h.d3, fun x hx => Nat.lt_of_lt_of_le (h.dl x hx) hg.size⟩

theorem SM.addR {sb gp gm : Nat} {lv : Value} {rv : Nat → Value} {w2 : World} {v' : Value} {q n : Nat} {l : List Rcd} (h : SM D w sb gp gm lv rv S) (hq : q < S.np) (hg : w.grownBy w2 (rv q).ownBlock)
    (ho : w2.ownsRow 0 40 2 v' n (flatR l)) (hat : v'.ownBlock = (rv q).ownBlock ∨ v'.ownBlock = some w.heap.size) :
    SM (fun x => D x ∨ v'.ownBlock = some x) (w2.setCell ⟨gp, q * 2, none⟩ v') sb gp gm lv (upd rv q v') { S with logs := upd S.logs q l } := by
  have hn : n = l.length := by have := ho.1; rw [flatR_len] at this; omega
  subst hn
  have hb : ∀ x, D x → (rv q).ownBlock ≠ some x → w2.heap[x]? = w.heap[x]? := fun x hx hne => hg.block x (h.dl x hx) (fun e => hne e.symm)
  have hs : ∀ x, x ≠ gp → (w2.setCell ⟨gp, q * 2, none⟩ v').heap[x]? = w2.heap[x]? := fun x hx => Below.heap_setCell w2 _ _ x hx
  have nsb : (rv q).ownBlock ≠ some sb := fun e => (h.a4 q _ hq e).1 rfl
  have ngp : (rv q).ownBlock ≠ some gp := fun e => (h.a4 q _ hq e).2.1 rfl
  have ngm : (rv q).ownBlock ≠ some gm := fun e => (h.a4 q _ hq e).2.2.1 rfl
  have fresh : ∀ x, D x → x ≠ w.heap.size := fun x hx => by have := h.dl x hx; omega
  have vx : ∀ x, v'.ownBlock = some x → (x ≠ sb ∧ x ≠ gp ∧ x ≠ gm ∧ lv.ownBlock ≠ some x) ∧ (∀ p, p < S.np → p ≠ q → (rv p).ownBlock ≠ some x) := by
    intro x hx
    rcases hat with e | e
    · rw [e] at hx
      exact ⟨h.a4 q x hq hx, fun p hp hpq => h.a6 q p x hq hp (fun e => hpq e.symm) hx⟩
    · rw [hx] at e
      have hxs : x = w.heap.size := by simpa using e
      exact ⟨⟨fun e => fresh sb h.d1.1 (by omega), fun e => fresh gp h.d1.2.1 (by omega), fun e => fresh gm h.d1.2.2 (by omega), fun e => fresh x (h.d3 x e) hxs⟩, fun p hp _ e => fresh x (h.d2 p x hp e) hxs⟩
  obtain ⟨cur, p1, p2, p3⟩ := h.part
  refine ⟨by rw [hs _ h.a1, hb _ h.d1.1 nsb]; exact h.head, ⟨cur.setIfInBounds (q * 2) v', ?_, by simpa using p2, fun p hp => ⟨?_, ?_⟩⟩, h.keys.kept (by rw [hs _ h.a3.symm, hb _ h.d1.2.2 ngm]), h.list.keep (fun x hx => by rw [hs x (h.a5 x hx).2.1, hb x (h.d3 x hx) (fun e => (h.a4 q x hq e).2.2.2 hx)]), fun p hp => ?_,
    h.a1, h.a2, h.a3, fun p x hp hx => ?_, h.a5, fun p p' x hp hp' hne hx => ?_, ⟨.inl h.d1.1, .inl h.d1.2.1, .inl h.d1.2.2⟩, fun p x hp hx => ?_, fun x hx => .inl (h.d3 x hx), fun x hx => ?_⟩
  · rw [Sort.setCell_eq]
    have : w2.heap[gp]? = some (.cells cur 75 (0, 0)) := by rw [hb _ h.d1.2.1 ngp]; exact p1
    simp [Sort.mapBlock, Array.getElem?_modify, this, Sort.onCells]
  · show _ = some (upd rv q v' p)
    by_cases e : p = q
    · subst e
      rw [Array.getElem?_setIfInBounds, if_pos rfl, if_pos (by rw [p2]; omega), upd_same]
    · rw [Array.getElem?_setIfInBounds, if_neg (by omega), upd_other _ _ e]; exact (p3 p hp).1
  · rw [Array.getElem?_setIfInBounds, if_neg (by omega)]; exact (p3 p hp).2
  · show (w2.setCell ⟨gp, q * 2, none⟩ v').ownsRow 0 _ 2 (upd rv q v' p) (upd S.logs q l p).length (flatR (upd S.logs q l p))
    by_cases e : p = q
    · subst e
      rw [upd_same, upd_same]
      exact row_keep ho (fun x hx => hs x (vx x hx).1.2.1)
    · rw [upd_other _ _ e, upd_other _ _ e]
      exact row_keep (h.rows p hp) (fun x hx => by rw [hs x (h.a4 p x hp hx).2.1, hb x (h.d2 p x hp hx) (h.a6 p q x hp hq e hx)])
  · change (upd rv q v' p).ownBlock = some x at hx
    by_cases e : p = q
    · subst e; rw [upd_same] at hx; exact (vx x hx).1
    · rw [upd_other _ _ e] at hx; exact h.a4 p x hp hx
  · change (upd rv q v' p).ownBlock = some x at hx
    show (upd rv q v' p').ownBlock ≠ some x
    by_cases e : p = q
    · subst e
      rw [upd_same] at hx
      rw [upd_other _ _ (fun e => hne e.symm)]
      exact (vx x hx).2 p' hp' (fun e => hne e.symm)
    · rw [upd_other _ _ e] at hx
      by_cases e' : p' = q
      · subst e'
        rw [upd_same]
        exact fun e2 => (vx x e2).2 p hp e hx
      · rw [upd_other _ _ e']; exact h.a6 p p' x hp hp' hne hx
  · change (upd rv q v' p).ownBlock = some x at hx
    by_cases e : p = q
    · subst e; rw [upd_same] at hx; exact .inr hx
    · rw [upd_other _ _ e] at hx; exact .inl (h.d2 p x hp hx)
  · have h2 := hg.size
    have : x < w2.heap.size := by
      rcases hx with hx | hx
      · have := h.dl x hx; omega
      · exact (ho.lt x hx).2
    simpa [go_sem] using this

theorem ok_add (h : S.ok) {q : Nat} {r : Rcd} (hq : q < S.np) (hl : ¬ 256 ≤ (S.logs q).length) (hr : r.ok) {ks : List Nat}
    (hk : ((runS S.list r).1 = 1 ∧ ks = insK (runS S.list r).2.k S.keys ∧ ((runS S.list r).2.k ∈ S.keys ∨ S.keys.length < 64)) ∨ ((runS S.list r).1 ≠ 1 ∧ ks = S.keys)) : (addS S q r ks).ok := by
  have hkb := (runS_ok S.list hr).1
  refine ⟨h.np1, h.np4, h.chk, h.lok, fun p => ?_, fun p x hx => ?_, ?_, ?_, ?_, fun k => ?_⟩
  · show (upd S.logs q (S.logs q ++ [r]) p).length ≤ 256
    by_cases e : p = q
    · subst e; rw [upd_same]; simp; omega
    · rw [upd_other _ _ e]; exact h.len p
  · change x ∈ upd S.logs q (S.logs q ++ [r]) p at hx
    by_cases e : p = q
    · subst e
      rw [upd_same] at hx
      rcases List.mem_append.1 hx with hx | hx
      · exact h.rok p x hx
      · simp at hx; subst hx; exact hr
    · rw [upd_other _ _ e] at hx; exact h.rok p x hx
  · show ks.length ≤ 64
    rcases hk with ⟨_, rfl, hm⟩ | ⟨_, rfl⟩
    · by_cases hm' : (runS S.list r).2.k ∈ S.keys
      · rw [insK_old h.kr hm']; exact h.kl
      · rw [insK_len hm']
        rcases hm with hm | hm
        · exact absurd hm hm'
        · omega
    · exact h.kl
  · show RiseK ks
    rcases hk with ⟨_, rfl, _⟩ | ⟨_, rfl⟩
    · exact rise_insK h.kr
    · exact h.kr
  · show ∀ k ∈ ks, k < 18446744073709551616
    rcases hk with ⟨_, rfl, _⟩ | ⟨_, rfl⟩
    · intro k hk
      rcases mem_insK.1 hk with rfl | hk
      · exact hkb
      · exact h.kb k hk
    · exact h.kb
  · show k ∈ ks ↔ ∃ p, p < S.np ∧ ∃ x ∈ upd S.logs q (S.logs q ++ [r]) p, (runS S.list x).1 = 1 ∧ (runS S.list x).2.k = k
    have key : (∃ p, p < S.np ∧ ∃ x ∈ upd S.logs q (S.logs q ++ [r]) p, (runS S.list x).1 = 1 ∧ (runS S.list x).2.k = k) ↔ ((runS S.list r).1 = 1 ∧ (runS S.list r).2.k = k) ∨ k ∈ S.keys := by
      rw [h.mem k]
      constructor
      · rintro ⟨p, hp, x, hx, h1, h2⟩
        by_cases e : p = q
        · subst e
          rw [upd_same] at hx
          rcases List.mem_append.1 hx with hx | hx
          · exact .inr ⟨p, hp, x, hx, h1, h2⟩
          · simp at hx; subst hx; exact .inl ⟨h1, h2⟩
        · rw [upd_other _ _ e] at hx; exact .inr ⟨p, hp, x, hx, h1, h2⟩
      · rintro (⟨h1, h2⟩ | ⟨p, hp, x, hx, h1, h2⟩)
        · exact ⟨q, hq, r, by rw [upd_same]; simp, h1, h2⟩
        · refine ⟨p, hp, x, ?_, h1, h2⟩
          by_cases e : p = q
          · subst e; rw [upd_same]; exact List.mem_append_left _ hx
          · rw [upd_other _ _ e]; exact hx
    rw [key]
    rcases hk with ⟨h1, rfl, _⟩ | ⟨h1, rfl⟩
    · rw [mem_insK]
      constructor
      · rintro (h | h)
        · exact .inl ⟨h1, h.symm⟩
        · exact .inr h
      · rintro (⟨_, h⟩ | h)
        · exact .inl h.symm
        · exact .inr h
    · constructor
      · exact .inr
      · rintro (⟨h, _⟩ | h)
        · exact absurd h h1
        · exact h

/-- Append of one record onto a row of one's own, as one step of a region that draws. -/
theorem step_app_own {P : Program} {ops : Array Oper} {o : Oper} {a : Act} {w : World} {K : Act → World → Prop} {Q : Exit → Act → World → Prop} {E : Prop}
    (hg : o.guard = none) (s x : Operand) (t : TypeId) (hop : o.op = Op.call { callee := Callee.builtin Builtin.append, args := #[s, x], argTypes := #[t, t] })
    (e : TypeId) (h1 : P.underlying t = some (.slice e)) (hinf : (P.info? e).map (fun i => (i.zero, i.size, i.bytes)) = some (some (.agg #[.int .u64 0, .float .f64 0]), 2, 16))
    (v : Value) (n : Nat) (m : List Rcd) (hs : a.eval s = v) (hown : w.ownsRow 0 e 2 v n (flatR m))
    (q : Nat) (r : Rcd) (hx : a.eval x = .slice (some ⟨q, 0, none⟩) 1 1) (h0 : w.cell? ⟨q, 0, none⟩ = some (.int .u64 r.k)) (h2 : w.cell? ⟨q, 1, none⟩ = some (.float .f64 r.x)) (hn : n ≤ 1000000)
    (hK : ∀ v' w', w'.ownsRow 0 e 2 v' (n + 1) (flatR (m ++ [r])) → w.grownBy w' v.ownBlock → (v'.ownBlock = v.ownBlock ∨ v'.ownBlock = some w.heap.size) → K (a.put o.dst v') w') :
    if Region.wanted o (yielded ops a.tmps) = true then Oper.wp P o a w K Q else E := by
  have hw : Region.wanted o (yielded ops a.tmps) = true := by simp [Region.wanted, hg]
  rw [if_pos hw]
  obtain ⟨i0, hi, hz0, hz1, hz2⟩ := info_partsV hinf
  obtain ⟨v', w', hrun, r1, r2, _, r4⟩ := run_append_own_at (P := P) w 0 t o.type e i0 (.agg #[.int .u64 0, .float .f64 0]) 2 16 h1 hi hz0 hz1 hz2 rfl (by decide) v n (flatR m) hown ⟨q, 0, none⟩ 1 1 [.int .u64 r.k, .float .f64 r.x] rfl (one_cells h0 h2) (fun u hu => by simp at hu; rcases hu with rfl | rfl <;> rfl) (by simp only [maxLen]; omega) (by omega) (Nat.zero_le _)
  unfold Oper.wp
  simp [execOp, hop, resolve, invoke, builtin, hs, hx, hrun, Result.andThen]
  exact hK v' w' (by rw [flatR_snoc]; exact r1) r2 r4
end
end Go.Proofs.Ytjkhegekojflhab
