/- Switch, Read. -/
import Derived.Test.YtjkhegekojflhabVc
namespace Go.Proofs.Ytjkhegekojflhab
open Ieee Go.RowKit

section
variable {D : Nat → Prop} {w : World} {v : Value} {S : Sc}

theorem SM.setOn {sb gp gm : Nat} {lv : Value} {rv : Nat → Value} (h : SM D w sb gp gm lv rv S) {q : Nat} (hq : q < S.np) (on : Bool) : SM D (w.setCell ⟨gp, q * 2 + 1, none⟩ (.bool on)) sb gp gm lv rv { S with on := upd S.on q on } := by
  have hk : ∀ x, x ≠ gp → (w.setCell ⟨gp, q * 2 + 1, none⟩ (.bool on)).heap[x]? = w.heap[x]? := fun x hx => Below.heap_setCell w _ _ x hx
  obtain ⟨cur, p1, p2, p3⟩ := h.part
  refine ⟨by rw [hk _ h.a1]; exact h.head, ⟨cur.setIfInBounds (q * 2 + 1) (.bool on), ?_, by simpa using p2, fun p hp => ⟨?_, ?_⟩⟩, h.keys.kept (hk _ h.a3.symm), h.list.keep (fun x hx => hk x (h.a5 x hx).2.1), fun p hp => row_keep (h.rows p hp) (fun x hx => hk x (h.a4 p x hp hx).2.1),
    h.a1, h.a2, h.a3, h.a4, h.a5, h.a6, h.d1, h.d2, h.d3, fun x hx => by have := h.dl x hx; simpa [go_sem] using this⟩
  · rw [Sort.setCell_eq]
    simp [Sort.mapBlock, Array.getElem?_modify, p1, Sort.onCells]
  · rw [Array.getElem?_setIfInBounds, if_neg (by omega)]; exact (p3 p hp).1
  · by_cases e : p = q
    · subst e
      rw [Array.getElem?_setIfInBounds, if_pos rfl, if_pos (by rw [p2]; omega)]
      show _ = some (Value.bool (upd S.on p on p))
      rw [upd_same]
    · rw [Array.getElem?_setIfInBounds, if_neg (by omega)]
      show _ = some (Value.bool (upd S.on q on p))
      rw [upd_other _ _ e]; exact (p3 p hp).2
theorem ok_on (h : S.ok) (f : Nat → Bool) : ({ S with on := f } : Sc).ok := ⟨h.np1, h.np4, h.chk, h.lok, h.len, h.rok, h.kl, h.kr, h.kb, h.mem⟩

theorem switch_walk (h : Src D w v S) (p : Int) (on : Bool) : Calls Try.prog 18 #[v, .int .i64 p, .bool on] w fun e w' => e = .returned (.int .i64 (switchI S p)) ∧ Src D w' v (switchS S p on) ∧ Ch D w w' := by
  have HW : Hid (Src D w v S) := h
  obtain ⟨sb, gp, gm, lv, rv, rfl, h, hok⟩ := h
  have HS : Hid (SM D w sb gp gm lv rv S) := h
  have HK : Hid S.ok := hok
  clear h hok
  by_cases hh : hasS S p
  · obtain ⟨q, rfl, hq⟩ := has_nat hh
    have HL : Hid (switchI S q = 0) := by show _ = _; unfold switchI; rw [if_pos hh]
    have HT : Hid (switchS S q on = { S with on := upd S.on q on }) := by show _ = _; unfold switchS; rw [if_pos hh]; rfl
    rw [HL.out, HT.out]
    have p1 := HS.out.p1 hq
    have f1 := HS.out.soft (q * 2 + 1)
    clear hh
    go_enter Try.func18, Try.ntmps18
    go_wp2_with (go_at_call 30; refine (part_ok HS.out HK.out hq).mono ?_; rintro e w9 ⟨rfl, h9⟩; have h9 := h9.symm; subst h9)
    go_ret
    exact ⟨rfl, ⟨sb, gp, gm, lv, rv, rfl, HS.out.setOn hq on, ok_on HK.out _⟩, Ch.of_grown (grown_set w gp _ _) (fun x hx => by cases hx; exact HS.out.d1.2.1)⟩
  · have HL : Hid (switchI S p = 60) := by show _ = _; unfold switchI; rw [if_neg hh]
    have HT : Hid (switchS S p on = S) := by show _ = _; unfold switchS; rw [if_neg hh]
    rw [HL.out, HT.out]
    have HN : Hid (p < 0 ∨ (S.np : Int) ≤ p) := not_has hh
    clear hh
    go_enter Try.func18, Try.ntmps18
    go_wp2_with (go_at_call 30; refine (part_no HS.out HK.out HN.out).mono ?_; rintro e w9 ⟨rfl, h9⟩; have h9 := h9.symm; subst h9)
    go_ret
    exact ⟨rfl, HW.out, Ch.refl _ _⟩

/-- A cut of a row of records. -/
theorem cut_rv {g n cap X C : Nat} {l : List Rcd} (h : w.ownsRow 0 40 2 (.slice (some ⟨g, 0, none⟩) n cap) l.length (flatR l)) (hok : ∀ r ∈ l, r.ok) (hx : X + C ≤ l.length) (hm : cap ≤ maxLen) :
    Rv w (.slice (if cap = X then some ⟨g, 0, none⟩ else some ⟨g, X * 2, none⟩) C (cap - X)) ((l.drop X).take C) := by
  obtain ⟨⟨ao, c2, e, h1, h2, h3, h4⟩, h5⟩ := own_rv h hok
  simp only [Value.slice.injEq] at e
  obtain ⟨rfl, rfl, rfl⟩ := e
  have hl : ((l.drop X).take C).length = C := by simp; omega
  refine ⟨⟨_, cap - X, by rw [hl], by rw [hl]; omega, Nat.le_trans (Nat.sub_le _ _) hm, (fun he => by split at he <;> cases he), fun i hi => ?_⟩, fun r hr => hok r (List.mem_of_mem_drop (List.mem_of_mem_take hr))⟩
  rw [hl] at hi
  obtain ⟨b, off, eb, g0, g1⟩ := h4 (X + i) (by omega)
  cases eb
  have hcx : ¬ cap = X := by omega
  refine ⟨g, X * 2, by rw [if_neg hcx], ?_, ?_⟩
  · rw [List.getElem_take, List.getElem_drop, ← Nat.add_mul]; simpa using g0
  · rw [List.getElem_take, List.getElem_drop, ← Nat.add_mul]; simpa using g1
end
end Go.Proofs.Ytjkhegekojflhab
