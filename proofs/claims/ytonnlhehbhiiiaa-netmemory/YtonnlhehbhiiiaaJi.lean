/- A slice of bytes of the call's own in a variable's block; contract of Encode's inner function. -/
import Derived.Test.YtonnlhehbhiiiaaJe

import Derived.Maps.AppendAt

namespace Go.Proofs.Ytonnlhehbhiiiaa

open Go.RowKit



theorem own_off {D : Nat → Prop} {w w' : World} {base e size n : Nat} {v : Value} {xs : List Value} (h : w.ownsRow base e size v n xs) (hc : Ch D w w') (hd : ∀ x, v.ownBlock = some x → ¬ D x) : w'.ownsRow base e size v n xs := by
  refine ⟨h.1, ?_⟩
  rcases h.2 with h' | ⟨g, cap, cur, hv, hg, hh, r⟩
  · exact .inl h'
  · exact .inr ⟨g, cap, cur, hv, hg, by rw [hc.block g ((Array.getElem?_eq_some_iff.1 hh).1) (hd g (by rw [hv]; rfl))]; exact hh, r⟩
theorem own_lt {w : World} {base e size n x : Nat} {v : Value} {xs : List Value} (h : w.ownsRow base e size v n xs) (hx : v.ownBlock = some x) : base ≤ x ∧ x < w.heap.size := by
  rcases h.2 with ⟨rfl, _⟩ | ⟨g, cap, cur, rfl, hg, hh, _⟩
  · cases hx
  · cases hx
    exact ⟨hg, (Array.getElem?_eq_some_iff.1 hh).1⟩
def cb (l : List Nat) : List Value := (ib l).map (Value.int .u8)
theorem cb_append (l r : List Nat) : cb (l ++ r) = cb l ++ cb r := by unfold cb; rw [ib_append, List.map_append]


/-- Append of bytes onto a row of one's own, as one step of a region that draws. -/
theorem step_app_by {ops : Array Oper} {o : Oper} {a : Act} {w : World} {K : Act → World → Prop} {Q : Exit → Act → World → Prop} {X : Prop}
    (hg : o.guard = none) (s x : Operand) (hop : o.op = Op.call { callee := Callee.builtin Builtin.append, args := #[s, x], argTypes := #[79, 79] })
    (base : Nat) (v : Value) (L : List Nat) (hs : a.eval s = v) (hown : w.ownsRow base 5 1 v L.length (cb L))
    (y : Value) (l : List Nat) (hx : a.eval x = y) (hy : Sv .u8 w y (ib l)) (hn : L.length + l.length ≤ 1000000) (hb : base ≤ w.heap.size)
    (hK : ∀ v' w', w'.ownsRow base 5 1 v' (L ++ l).length (cb (L ++ l)) → w.grownBy w' v.ownBlock → (v'.ownBlock = v.ownBlock ∨ v'.ownBlock = some w.heap.size) → K (a.put o.dst v') w') :
    if Region.wanted o (yielded ops a.tmps) = true then Oper.wp Try.prog o a w K Q else X := by
  have hw : Region.wanted o (yielded ops a.tmps) = true := by simp [Region.wanted, hg]
  rw [if_pos hw]
  obtain ⟨i0, hi, hz0, hz1, hz2⟩ := info_partsQ info_u8
  obtain ⟨ao, c, rfl, hc1, hc2, hnone, hcells⟩ := hy
  rw [ib_len] at hc1
  cases ao with
  | none =>
    obtain rfl := hnone rfl
    have hl0 : l.length = 0 := by omega
    have hl : l = [] := List.eq_nil_of_length_eq_zero hl0
    subst hl
    have hrun := run_append_owned_none (P := Try.prog) (w := w) base 79 o.type 5 i0 1 Try.underlying79 hi v L.length (cb L) hown
    unfold Oper.wp
    simp [execOp, hop, resolve, invoke, builtin, hs, hx, hrun, Result.andThen, ib]
    exact hK v w (by simpa using hown) ⟨rfl, rfl, rfl, Nat.le_refl _, fun _ _ _ => rfl⟩ (.inl rfl)
  | some p =>
    obtain ⟨v', w', hrun, r1, r2, _, r4⟩ := run_append_own_at (P := Try.prog) w base 79 o.type 5 i0 (.int .u8 0) 1 1 Try.underlying79 hi hz0 hz1 hz2 rfl (by decide) v L.length (cb L) hown p (ib l).length c (cb l) (by unfold cb; simp) (by
      intro j u hj
      unfold cb at hj
      have hjl : j < (ib l).length := by
        rcases Nat.lt_or_ge j (ib l).length with h | h
        · exact h
        · simp [List.getElem?_eq_none (show ((ib l).map (Value.int .u8)).length ≤ j by simpa using h)] at hj
      obtain ⟨b, off, e1, e2⟩ := hcells j hjl
      cases e1
      rw [WideShapes.add_plain, e2]
      simp [List.getElem?_eq_getElem hjl] at hj
      simp [List.getD, List.getElem?_eq_getElem hjl, hj]) (by
      intro u hu
      obtain ⟨z, _, rfl⟩ := List.mem_map.1 hu
      rfl) (by rw [ib_len]; simp only [maxLen]; omega) (by rw [ib_len]; omega) hb
    rw [ib_len] at r1
    unfold Oper.wp
    simp [execOp, hop, resolve, invoke, builtin, hs, hx, hrun, Result.andThen]
    exact hK v' w' (by rw [List.length_append, cb_append]; exact r1) r2 r4


/-- Block BB holds the slice v of the call's own, which holds L; the blocks of A are none of its. -/
structure EB (A : Nat → Prop) (base BB : Nat) (L : List Nat) (w : World) (v : Value) : Prop where
  c : w.cell? ⟨BB, 0, none⟩ = some v
  z : ∀ j, w.frozen? ⟨BB, j, none⟩ = false
  own : w.ownsRow base 5 1 v L.length (cb L)
  ne : ∀ x, v.ownBlock = some x → ¬ A x
  ab : A BB
  al : ∀ x, A x → x < w.heap.size
  bb : base ≤ BB
variable {A : Nat → Prop} {base BB : Nat} {L M : List Nat} {w w' : World} {v v' : Value}

theorem EB.below (h : EB A base BB L w v) (hb : Below w.heap.size w w') : EB A base BB L w' v :=
  ⟨by rw [hb.cell (p := ⟨BB, 0, none⟩) (cell_lt h.c)]; exact h.c, fun j => by rw [hb.frozen (p := ⟨BB, j, none⟩) (h.al _ h.ab)]; exact h.z j, own_belowC h.own hb, h.ne, h.ab, fun x hx => Nat.lt_of_lt_of_le (h.al x hx) hb.size, h.bb⟩
/-- What a write leaves as it was. -/
def Wn (A : Nat → Prop) (base BB : Nat) (x : Nat) : Prop := x = BB ∨ (base ≤ x ∧ ¬ A x)
theorem Ch.mono {D E : Nat → Prop} {a b : World} (h : Ch D a b) (he : ∀ x, D x → E x) : Ch E a b := ⟨h.os, h.tape, h.output, h.size, fun k hk hd => h.block k hk (fun e => hd (he k e))⟩
theorem EB.app (h : EB A base BB L w v) (hown : w'.ownsRow base 5 1 v' (L ++ M).length (cb (L ++ M))) (hg : w.grownBy w' v.ownBlock) (ha : v'.ownBlock = v.ownBlock ∨ v'.ownBlock = some w.heap.size) :
    w'.cell? ⟨BB, 0, none⟩ = some v ∧ w'.frozen? ⟨BB, 0, none⟩ = false ∧ EB A base BB (L ++ M) (w'.setCell ⟨BB, 0, none⟩ v') v' ∧ Ch (Wn A base BB) w w' ∧ Ch (Wn A base BB) w (w'.setCell ⟨BB, 0, none⟩ v') := by
  have hc : Ch (Wn A base BB) w w' := Ch.of_grown hg (fun x hx => .inr ⟨(own_lt h.own hx).1, h.ne x hx⟩)
  have hn : ¬ v.ownBlock = some BB := fun e => h.ne BB e h.ab
  have hb : w'.heap[BB]? = w.heap[BB]? := hg.block BB (h.al _ h.ab) (fun e => hn e.symm)
  have c' : w'.cell? ⟨BB, 0, none⟩ = some v := by simp only [World.cell?, hb]; exact h.c
  have f' : ∀ j, w'.frozen? ⟨BB, j, none⟩ = false := fun j => by
    have hz := h.z j
    unfold World.frozen? at hz ⊢
    rw [hb]; exact hz
  have ne' : ∀ x, v'.ownBlock = some x → ¬ A x := by
    intro x hx hA
    rcases ha with e | e
    · exact h.ne x (by rw [← e]; exact hx) hA
    · rw [e] at hx
      cases hx
      have := h.al _ hA
      omega
  refine ⟨c', f' 0, ⟨by simp [go_sem, c'], fun j => by simpa [go_sem] using f' j, own_off hown (ch_set _ _ _ _) (fun x hx e => by subst e; exact ne' _ hx h.ab), ne', h.ab, fun x hx => by simpa [go_sem] using Nat.lt_of_lt_of_le (h.al x hx) hg.size, h.bb⟩, hc, ?_⟩
  exact hc.self ((ch_set w' BB 0 v').mono (fun x hx => .inl hx))


end Go.Proofs.Ytonnlhehbhiiiaa


