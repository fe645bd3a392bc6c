/- Append of a slice that holds a list onto a row of one's own. -/
import Derived.Test.YtkiplcmndpdifaaGreatDoorTk

import Derived.Test.YtkiplcmndpdifaaGreatDoorTg

import Derived.Laws.AppendOwnNone

namespace Go.Proofs.YtkiplcmndpdifaaGreatDoor

open Go.RowKit



theorem flat_get {α : Type} {f : α → List Value} {n : Nat} (hn : 0 < n) (hf : ∀ a, (f a).length = n) {l : List α} {j : Nat} {u : Value} (h : (l.flatMap f)[j]? = some u) : ∃ (hi : j / n < l.length), (f l[j / n])[j % n]? = some u := by
  have hlt : j < l.length * n := by
    have := (List.getElem?_eq_some_iff.1 h).1
    rw [flat_len f n hf] at this
    exact this
  have hi : j / n < l.length := by rw [Nat.div_lt_iff_lt_mul hn]; exact hlt
  refine ⟨hi, ?_⟩
  have e := flat_nth f n hf l (j / n) hi (j % n) (Nat.mod_lt _ hn)
  rw [show j / n * n + j % n = j by rw [Nat.mul_comm]; exact Nat.div_add_mod j n] at e
  rw [← e]
  exact h


theorem wpl_app_gv {ops : Array Oper} {rest : List Oper} {o : Oper} {a : Act} {Q : Exit → Act → World → Prop} {α : Type} {f : α → List Value} {base : Nat} {w : World} {v xv : Value} {n sz by9 : Nat} {xs : List Value} {l : List α} {t e : TypeId} {z : Value}
    (hinfo : (Tryz.prog.info? e).map (fun i => (i.zero, i.size, i.bytes)) = some (some z, sz, by9)) (ht : Tryz.prog.underlying t = some (.slice e)) (hzc : z.cells.size = sz) (hsz : 0 < sz) (hf : ∀ a, (f a).length = sz) (hone : ∀ a, ∀ u ∈ f a, u.oneCell' = true)
    (hgd : o.guard = none) (sl x : Operand) (ho : o.op = .call { callee := .builtin .append, args := #[sl, x], argTypes := #[t, t] }) (hs : a.eval sl = v) (h : w.ownsRow base e sz v n xs) (hx : a.eval x = xv) (hg : Gv w xv sz f l)
    (h63 : n + l.length ≤ maxLen) (hbytes : (n + l.length) * by9 ≤ 140737488355328) (hb : base ≤ w.heap.size)
    (hK : ∀ v' w', w'.ownsRow base e sz v' (n + l.length) (xs ++ l.flatMap f) → w.grownBy w' v.ownBlock → (v'.ownBlock = v.ownBlock ∨ v'.ownBlock = some w.heap.size) → wpList Tryz.prog ops Q rest (a.put o.dst v') w') : wpList Tryz.prog ops Q (o :: rest) a w := by
  obtain ⟨i0, hi0, hz0, hz1, hz2⟩ := info_parts21 hinfo
  obtain ⟨ao, cap, rfl, hlc, hcm, hnil, hgl⟩ := hg
  cases ao with
  | none =>
    have hl : l = [] := by
      cases l with
      | nil => rfl
      | cons b l => obtain ⟨b, off, e, _⟩ := hgl 0 (by simp); cases e
    subst hl
    refine wpList_append_own_none hgd sl x t ho base e i0 sz ht hi0 v n xs hs h (by rw [hx, hnil rfl]; rfl) ?_
    exact hK v w (by simpa using h) ⟨rfl, rfl, rfl, Nat.le_refl _, fun _ _ _ => rfl⟩ (.inl rfl)
  | some ad =>
    refine wpList_append_own_at _ hgd sl x t ho base e i0 z sz by9 ht hi0 hz0 hz1 hz2 hzc hsz v n xs hs h ad l.length cap (l.flatMap f) hx (by rw [flat_len f sz hf]) (fun j u hj => ?_) (fun u hu => ?_) h63 hbytes hb ?_
    · obtain ⟨hi, hc⟩ := flat_get hsz hf hj
      obtain ⟨b, off, e1, hcell⟩ := hgl (j / sz) hi
      cases e1
      rw [WideShapes.add_plain]
      have := hcell (j % sz) (Nat.mod_lt _ hsz)
      rw [show j / sz * sz + j % sz = j by rw [Nat.mul_comm]; exact Nat.div_add_mod j sz] at this
      rw [this]
      exact hc
    · obtain ⟨c, _, hu⟩ := List.mem_flatMap.1 hu
      exact hone c u hu
    · intro v' w' hr hgr _ hat
      exact hK v' w' hr hgr hat


theorem gv_lit {α : Type} {f : α → List Value} {n : Nat} (hf : ∀ a, (f a).length = n) (w : World) {l : List α} {cs : Array Value} {t : TypeId} (hc : cs.toList = l.flatMap f) (hl : l.length ≤ maxLen) : Gv (w.alloc (.cells cs t)) (.slice (some ⟨w.heap.size, 0, none⟩) l.length l.length) n f l :=
  own_gv (base := w.heap.size) (e := t) hf ⟨by rw [flat_len f n hf], .inr ⟨w.heap.size, _, cs, rfl, Nat.le_refl _, heap_alloc_new w _, Nat.le_refl _, hl, by rw [← Array.length_toList, hc, flat_len f n hf], by rw [hc]; exact List.take_of_length_le (by rw [flat_len f n hf]; exact Nat.le_refl _)⟩⟩


theorem row_type {w : World} {lo e s n : Nat} {v : Value} {xs : List Value} (h : w.ownsRow lo e s v n xs) {x : Nat} (hx : v.ownBlock = some x) : (∃ cur, w.heap[x]? = some (.cells cur e (0, 0))) ∧ lo ≤ x := by
  rcases h.2 with ⟨rfl, _⟩ | ⟨g, cap, cur, rfl, hg, hh, _⟩
  · cases hx
  · cases hx
    exact ⟨⟨cur, hh⟩, hg⟩


/-- A text as one cell. -/
def sF (l : Bs) : List Value := [S l]
theorem sF_map (ws : List Bs) : ws.flatMap sF = ws.map S := by
  induction ws with
  | nil => rfl
  | cons a l ih => rw [List.flatMap_cons, ih]; rfl
theorem one_s (l : Bs) : ∀ u ∈ sF l, u.oneCell' = true := by
  intro u hu
  simp only [sF, List.mem_cons, List.not_mem_nil, or_false] at hu
  rw [hu]; rfl


/-- A row of texts of one's own. -/
def WR (base : Nat) (w : World) (v : Value) (ws : List Bs) : Prop := w.ownsRow base 9 1 v ws.length (ws.flatMap sF)
theorem WR.keep {base : Nat} {w w' : World} {v : Value} {ws : List Bs} (h : WR base w v ws) (hb : Below w.heap.size w w') : WR base w' v ws := row_keep h fun x hx => hb.block x (World.ownsRow.lt h x hx).2
theorem WR.ar {base : Nat} {w : World} {v : Value} {ws : List Bs} (h : WR base w v ws) : AR w v ws := by
  unfold WR at h
  rw [sF_map] at h
  exact (own_ar h).1
theorem WR.nil (w : World) {base : Nat} (hb : base ≤ w.heap.size) : WR base (w.alloc (.cells #[] 9)) (.slice (some ⟨w.heap.size, 0, none⟩) 0 0) [] :=
  ⟨rfl, .inr ⟨w.heap.size, 0, #[], rfl, hb, heap_alloc_new w _, Nat.le_refl _, by simp [maxLen], rfl, rfl⟩⟩


theorem wpl_app_word {ops : Array Oper} {rest : List Oper} {o : Oper} {a : Act} {Q : Exit → Act → World → Prop} {base : Nat} {w : World} {v : Value} {ws : List Bs} (p : Bs) {t : ByteArray} (ht : t = ⟨p.toArray⟩) (hgd : o.guard = none) (sl x : Operand)
    (ho : o.op = .call { callee := .builtin .append, args := #[sl, x], argTypes := #[46, 46] }) (hs : a.eval sl = v) (h : WR base w v ws) (hx : a.eval x = .slice (some ⟨w.heap.size, 0, none⟩) 1 1) (hlen : ws.length ≤ 262145) (hb : base ≤ w.heap.size)
    (hK : ∀ v' w', WR base w' v' (ws ++ [p]) → Below base w w' → base ≤ w'.heap.size → wpList Tryz.prog ops Q rest (a.put o.dst v') w') : wpList Tryz.prog ops Q (o :: rest) a (w.alloc (.cells #[.string t] 9)) := by
  subst ht
  refine wpl_app_gv (base := base) (l := [p]) (f := sF) (n := ws.length) (xs := ws.flatMap sF) info_str Tryz.underlying46 (by rfl) (by decide) (fun _ => rfl) one_s hgd sl x ho hs (h.keep (below_alloc _ _)) hx (gv_lit (f := sF) (n := 1) (l := [p]) (cs := #[S p]) (t := 9) (fun _ => rfl) w rfl (by simp [maxLen])) (by simp [maxLen]; omega) (by simp; omega) (by rw [alloc_sz]; omega) ?_
  intro v' w' hr hg _
  refine hK v' w' ?_ (((Below.refl base w).alloc hb _).trans ((Below.refl base _).grown hg (by rw [alloc_sz]; omega) (fun y hy => (World.ownsRow.lt h y hy).1))) (Nat.le_trans (by rw [alloc_sz]; omega) hg.size)
  unfold WR
  rw [List.length_append, List.flatMap_append]
  exact hr
end Go.Proofs.YtkiplcmndpdifaaGreatDoor


