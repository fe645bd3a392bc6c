/- The reference's source in memory; has, Parts, Up, Len, Log, Switch. -/
import Derived.Test.YtjkhegekojflhabVi
namespace Go.Proofs.Ytjkhegekojflhab
open Ieee Go.RowKit

/-- The reference's source S lies in the blocks sb (itself), gp (its logs), gq (which are off), lv's (its pipeline), rv's (the records); all of them are of D. -/
structure RM (D : Nat → Prop) (w : World) (sb gp gq : Nat) (lv : Value) (rv : Nat → Value) (S : Sc) : Prop where
  head : w.heap[sb]? = some (.cells #[.slice (some ⟨gp, 0, none⟩) S.np S.np, .slice (some ⟨gq, 0, none⟩) S.np S.np, lv] 79 (0, 0))
  part : ∃ cur, w.heap[gp]? = some (.cells cur 22 (0, 0)) ∧ cur.size = S.np ∧ ∀ p, p < S.np → cur[p]? = some (rv p)
  off : ∃ cur, w.heap[gq]? = some (.cells cur 4 (0, 0)) ∧ cur.size = S.np ∧ ∀ p, p < S.np → cur[p]? = some (.bool (!S.on p))
  list : Ov w lv S.list
  rows : ∀ p, p < S.np → w.ownsRow 0 40 2 (rv p) (S.logs p).length (flatR (S.logs p))
  a1 : sb ≠ gp
  a2 : sb ≠ gq
  a3 : gp ≠ gq
  a4 : ∀ p x, p < S.np → (rv p).ownBlock = some x → x ≠ sb ∧ x ≠ gp ∧ x ≠ gq ∧ lv.ownBlock ≠ some x
  a5 : ∀ x, lv.ownBlock = some x → x ≠ sb ∧ x ≠ gp ∧ x ≠ gq
  a6 : ∀ p q x, p < S.np → q < S.np → p ≠ q → (rv p).ownBlock = some x → (rv q).ownBlock ≠ some x
  d1 : D sb ∧ D gp ∧ D gq
  d2 : ∀ p x, p < S.np → (rv p).ownBlock = some x → D x
  d3 : ∀ x, lv.ownBlock = some x → D x
  dl : ∀ x, D x → x < w.heap.size

/-- The value v is a source of the reference that is S; its memory is of D. -/
def Rs (D : Nat → Prop) (w : World) (v : Value) (S : Sc) : Prop := ∃ sb gp gq lv rv, v = .pointer (some ⟨sb, 0, none⟩) ∧ RM D w sb gp gq lv rv S ∧ S.ok

section
variable {D : Nat → Prop} {w w' : World} {v : Value} {sb gp gq : Nat} {lv : Value} {rv : Nat → Value} {S : Sc}
theorem RM.keep (h : RM D w sb gp gq lv rv S) (hk : ∀ x, D x → w'.heap[x]? = w.heap[x]?) (hs : w.heap.size ≤ w'.heap.size) : RM D w' sb gp gq lv rv S := by
  obtain ⟨cur, p1, p2, p3⟩ := h.part
  obtain ⟨cuq, q1, q2, q3⟩ := h.off
  exact ⟨by rw [hk _ h.d1.1]; exact h.head, ⟨cur, by rw [hk _ h.d1.2.1]; exact p1, p2, p3⟩, ⟨cuq, by rw [hk _ h.d1.2.2]; exact q1, q2, q3⟩, h.list.keep (fun x hx => hk x (h.d3 x hx)), fun p hp => row_keep (h.rows p hp) (fun x hx => hk x (h.d2 p x hp hx)),
    h.a1, h.a2, h.a3, h.a4, h.a5, h.a6, h.d1, h.d2, h.d3, fun x hx => Nat.lt_of_lt_of_le (h.dl x hx) hs⟩
theorem Rs.keep (h : Rs D w v S) (hk : ∀ x, D x → w'.heap[x]? = w.heap[x]?) (hs : w.heap.size ≤ w'.heap.size) : Rs D w' v S := by
  obtain ⟨sb, gp, gm, lv, rv, e, h1, h2⟩ := h
  exact ⟨sb, gp, gm, lv, rv, e, h1.keep hk hs, h2⟩
theorem Rs.lt (h : Rs D w v S) {x : Nat} (hx : D x) : x < w.heap.size := by
  obtain ⟨sb, gp, gm, lv, rv, e, h1, h2⟩ := h
  exact h1.dl x hx
theorem Rs.good (h : Rs D w v S) : S.ok := by
  obtain ⟨sb, gp, gm, lv, rv, e, h1, h2⟩ := h
  exact h2
theorem Rs.below (h : Rs D w v S) (hb : Below w.heap.size w w') : Rs D w' v S := h.keep (fun x hx => hb.block x (h.lt hx)) hb.size
theorem RM.below (h : RM D w sb gp gq lv rv S) (hb : Below w.heap.size w w') : RM D w' sb gp gq lv rv S := h.keep (fun x hx => hb.block x (h.dl x hx)) hb.size
theorem RM.c0 (h : RM D w sb gp gq lv rv S) : w.cell? ⟨sb, 0, none⟩ = some (.slice (some ⟨gp, 0, none⟩) S.np S.np) := by rw [cell_of_row w sb 0 _ _ (0, 0) h.head]; rfl
theorem RM.c1 (h : RM D w sb gp gq lv rv S) : w.cell? ⟨sb, 1, none⟩ = some (.slice (some ⟨gq, 0, none⟩) S.np S.np) := by rw [cell_of_row w sb 1 _ _ (0, 0) h.head]; rfl
theorem RM.c2 (h : RM D w sb gp gq lv rv S) : w.cell? ⟨sb, 2, none⟩ = some lv := by rw [cell_of_row w sb 2 _ _ (0, 0) h.head]; rfl
theorem RM.p0 (h : RM D w sb gp gq lv rv S) {p : Nat} (hp : p < S.np) : w.cell? ⟨gp, p, none⟩ = some (rv p) := by
  obtain ⟨cur, h1, h2, h3⟩ := h.part
  rw [cell_of_row w gp _ _ _ (0, 0) h1]; exact h3 p hp
theorem RM.p1 (h : RM D w sb gp gq lv rv S) {p : Nat} (hp : p < S.np) : w.cell? ⟨gq, p, none⟩ = some (.bool (!S.on p)) := by
  obtain ⟨cur, h1, h2, h3⟩ := h.off
  rw [cell_of_row w gq _ _ _ (0, 0) h1]; exact h3 p hp
theorem RM.soft (h : RM D w sb gp gq lv rv S) (x : Nat) : w.frozen? ⟨gp, x, none⟩ = false := by
  obtain ⟨cur, h1, h2, h3⟩ := h.part
  simp [World.frozen?, h1]
theorem RM.soft1 (h : RM D w sb gp gq lv rv S) (x : Nat) : w.frozen? ⟨gq, x, none⟩ = false := by
  obtain ⟨cur, h1, h2, h3⟩ := h.off
  simp [World.frozen?, h1]
theorem RM.recs (h : RM D w sb gp gq lv rv S) (hok : S.ok) {p : Nat} (hp : p < S.np) : Rv w (rv p) (S.logs p) := own_rv (h.rows p hp) (hok.rok p)

theorem rhas_no {p : Int} (h : RM D w sb gp gq lv rv S) (hok : S.ok) (hp : p < 0 ∨ (S.np : Int) ≤ p) :
    Calls Try.prog 33 #[.pointer (some ⟨sb, 0, none⟩), .int .i64 p] w fun e w' => e = .returned (.bool false) ∧ w' = w := by
  have c0 := h.c0
  have h4 := hok.np4
  clear h hok
  by_cases hp0 : p < 0
  · go_enter Try.func33, Try.ntmps33
    go_wp2_with fail
    go_ret
    exact ⟨rfl, rfl⟩
  · have hp1 : (S.np : Int) ≤ p := by omega
    have hd : decide (p < (S.np : Int)) = false := decide_eq_false (by omega)
    clear hp
    go_enter Try.func33, Try.ntmps33
    go_wp2_with fail
    go_ret
    exact ⟨rfl, rfl⟩

theorem rhas_ok {p : Nat} (h : RM D w sb gp gq lv rv S) (hok : S.ok) (hp : p < S.np) :
    Calls Try.prog 33 #[.pointer (some ⟨sb, 0, none⟩), .int .i64 p] w fun e w' => e = .returned (.bool true) ∧ w' = w := by
  have c0 := h.c0
  have h4 := hok.np4
  clear h hok
  go_enter Try.func33, Try.ntmps33
  go_wp2_with fail
  go_ret
  exact ⟨rfl, rfl⟩

theorem rparts_walk (h : Rs D w v S) : Calls Try.prog 44 #[v] w fun e w' => e = .returned (.int .i64 S.np) ∧ w' = w := by
  obtain ⟨sb, gp, gm, lv, rv, rfl, h, hok⟩ := h
  have c0 := h.c0
  clear h
  go_enter Try.func44, Try.ntmps44
  go_wp2_with fail
  go_ret
  exact ⟨rfl, rfl⟩

theorem RM.setOff (h : RM D w sb gp gq lv rv S) {q : Nat} (hq : q < S.np) (on : Bool) : RM D (w.setCell ⟨gq, q, none⟩ (.bool (!on))) sb gp gq lv rv { S with on := upd S.on q on } := by
  have hk : ∀ x, x ≠ gq → (w.setCell ⟨gq, q, none⟩ (.bool (!on))).heap[x]? = w.heap[x]? := fun x hx => Below.heap_setCell w _ _ x hx
  obtain ⟨cur, p1, p2, p3⟩ := h.part
  obtain ⟨cuq, q1, q2, q3⟩ := h.off
  refine ⟨by rw [hk _ h.a2]; exact h.head, ⟨cur, by rw [hk _ h.a3]; exact p1, p2, p3⟩, ⟨cuq.setIfInBounds q (.bool (!on)), ?_, by simpa using q2, fun p hp => ?_⟩, h.list.keep (fun x hx => hk x (h.a5 x hx).2.2), fun p hp => row_keep (h.rows p hp) (fun x hx => hk x (h.a4 p x hp hx).2.2.1),
    h.a1, h.a2, h.a3, h.a4, h.a5, h.a6, h.d1, h.d2, h.d3, fun x hx => by have := h.dl x hx; simpa [go_sem] using this⟩
  · rw [Sort.setCell_eq]
    simp [Sort.mapBlock, Array.getElem?_modify, q1, Sort.onCells]
  · by_cases e : p = q
    · subst e
      rw [Array.getElem?_setIfInBounds, if_pos rfl, if_pos (by rw [q2]; omega)]
      show _ = some (Value.bool (!upd S.on p on p))
      rw [upd_same]
    · rw [Array.getElem?_setIfInBounds, if_neg (fun x => e x.symm)]
      show _ = some (Value.bool (!upd S.on q on p))
      rw [upd_other _ _ e]; exact q3 p hp

theorem rswitch_walk (h : Rs D w v S) (p : Int) (on : Bool) : Calls Try.prog 19 #[v, .int .i64 p, .bool on] w fun e w' => e = .returned (.int .i64 (switchI S p)) ∧ Rs D w' v (switchS S p on) ∧ Ch D w w' := by
  have HW : Hid (Rs D w v S) := h
  obtain ⟨sb, gp, gq, lv, rv, rfl, h, hok⟩ := h
  have HS : Hid (RM D w sb gp gq lv rv S) := h
  have HK : Hid S.ok := hok
  clear h hok
  by_cases hh : hasS S p
  · obtain ⟨q, rfl, hq⟩ := has_nat hh
    have HL : Hid (switchI S q = 0) := by show _ = _; unfold switchI; rw [if_pos hh]
    have HT : Hid (switchS S q on = { S with on := upd S.on q on }) := by show _ = _; unfold switchS; rw [if_pos hh]; rfl
    rw [HL.out, HT.out]
    have c1 := HS.out.c1
    have p1 := HS.out.p1 hq
    have f1 := HS.out.soft1 q
    have h4 := HK.out.np4
    clear hh
    go_enter Try.func19, Try.ntmps19
    go_wp2_with (go_at_call 33; refine (rhas_ok HS.out HK.out hq).mono ?_; rintro e w9 ⟨rfl, h9⟩; have h9 := h9.symm; subst h9)
    go_ret
    exact ⟨rfl, ⟨sb, gp, gq, lv, rv, rfl, HS.out.setOff hq on, ok_on HK.out _⟩, Ch.of_grown (grown_set w gq _ _) (fun x hx => by cases hx; exact HS.out.d1.2.2)⟩
  · have HL : Hid (switchI S p = 60) := by show _ = _; unfold switchI; rw [if_neg hh]
    have HT : Hid (switchS S p on = S) := by show _ = _; unfold switchS; rw [if_neg hh]
    rw [HL.out, HT.out]
    have HN : Hid (p < 0 ∨ (S.np : Int) ≤ p) := not_has hh
    clear hh
    go_enter Try.func19, Try.ntmps19
    go_wp2_with (go_at_call 33; refine (rhas_no HS.out HK.out HN.out).mono ?_; rintro e w9 ⟨rfl, h9⟩; have h9 := h9.symm; subst h9)
    go_ret
    exact ⟨rfl, HW.out, Ch.refl _ _⟩
end
end Go.Proofs.Ytjkhegekojflhab
