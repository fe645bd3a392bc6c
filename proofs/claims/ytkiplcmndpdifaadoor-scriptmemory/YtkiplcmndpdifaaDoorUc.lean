/- Append of a text and of a byte onto a row of bytes of one's own. -/
import Derived.Test.YtkiplcmndpdifaaDoorTh

namespace Go.Proofs.YtkiplcmndpdifaaDoor

open Go.RowKit



theorem wpl_app_str {ops : Array Oper} {rest : List Oper} {o : Oper} {a : Act} {Q : Exit → Act → World → Prop} {base : Nat} {w : World} {v : Value} {l : Bs} (s : Bs) {t : ByteArray} (hgd : o.guard = none) (sl x : Operand)
    (ho : o.op = .call { callee := .builtin .append, args := #[sl, x], argTypes := #[36, 9] }) (hs : a.eval sl = v) (h : TX base w v l) (hx : a.eval x = .string t) (ht : t = ⟨s.toArray⟩) (hlen : l.length + s.length ≤ 262144) (hb : base ≤ w.heap.size)
    (hK : ∀ v' w', TX base w' v' (l ++ s) → Below base w w' → base ≤ w'.heap.size → wpList Tryd.prog ops Q rest (a.put o.dst v') w') : wpList Tryd.prog ops Q (o :: rest) a w := by
  obtain ⟨iu, hiu, hu0, hu1, hu2⟩ := info_parts21 info_u8
  subst ht
  refine Lib.wpList_append_own_string _ hgd sl x 36 9 ho base 5 iu Tryd.underlying36 Tryd.underlying9 hiu hu0 hu1 hu2 v l.length (bc l) hs h ⟨s.toArray⟩ hx (by rw [size_mk]; unfold maxLen; omega) (by rw [size_mk]; omega) hb ?_
  intro v' w' hr hgr _
  refine hK v' w' ?_ ((Below.refl base w).grown hgr hb (fun y hy => (World.ownsRow.lt h y hy).1)) (Nat.le_trans hb hgr.size)
  unfold TX
  rw [bc_app, List.length_append, ← str_bc s]
  rw [size_mk] at hr
  exact hr


theorem wpl_app_byte {ops : Array Oper} {rest : List Oper} {o : Oper} {a : Act} {Q : Exit → Act → World → Prop} {base : Nat} {w : World} {v : Value} {l : Bs} (c : UInt8) {g : Nat} {z : Int} {t : TypeId} {fr : Nat × Nat} (hgd : o.guard = none) (sl x : Operand)
    (ho : o.op = .call { callee := .builtin .append, args := #[sl, x], argTypes := #[36, 36] }) (hs : a.eval sl = v) (h : TX base w v l) (hx : a.eval x = .slice (some ⟨g, 0, none⟩) 1 1) (hg : w.heap[g]? = some (.cells #[.int .u8 z] t fr)) (hz : z = (c.toNat : Int)) (hlen : l.length + 1 ≤ 262144) (hb : base ≤ w.heap.size)
    (hK : ∀ v' w', TX base w' v' (l ++ [c]) → Below base w w' → base ≤ w'.heap.size → wpList Tryd.prog ops Q rest (a.put o.dst v') w') : wpList Tryd.prog ops Q (o :: rest) a w := by
  obtain ⟨iu, hiu, hu0, hu1, hu2⟩ := info_parts21 info_u8
  subst hz
  refine wpList_append_own _ hgd sl x 36 ho base 5 iu (.int .u8 0) 1 1 Tryd.underlying36 hiu hu0 hu1 hu2 (by rfl) (by decide) v l.length (bc l) hs h ⟨g, 0, none⟩ 1 1 [.int .u8 (c.toNat : Int)] hx (by rfl) (fun j u hj => by rw [WideShapes.add_plain, Nat.zero_add, cell_of_row _ g j _ t fr hg]; simpa using hj) (by intro u hu; simp at hu; subst hu; rfl) (by unfold maxLen; omega) (by omega) hb ?_
  intro v' w' hr hgr _
  refine hK v' w' ?_ ((Below.refl base w).grown hgr hb (fun y hy => (World.ownsRow.lt h y hy).1)) (Nat.le_trans hb hgr.size)
  unfold TX
  rw [bc_app, List.length_append]
  exact hr
theorem no_ten {T : Bs} (h : ∀ (i : Nat) (c : UInt8), T[i]? = some c → c ≠ 10) : (10 : UInt8) ∉ T := by
  intro hm
  obtain ⟨i, hi, e⟩ := List.getElem_of_mem hm
  exact h i 10 (by rw [List.getElem?_eq_getElem hi, e]) rfl
end Go.Proofs.YtkiplcmndpdifaaDoor


