/- Switch, Read. -/
import Derived.Test.YtfgeabcdcepfdaaGreatVc
namespace Go.Proofs.YtfgeabcdcepfdaaGreat
open Ieee Go.RowKit

section
variable {D : Nat → Prop} {w : World} {v : Value} {S : Sc}

theorem SM.setOn {sb gp gm : Nat} {lv : Value} {rv : Nat → Value} (h : SM D w sb gp gm lv rv S) {q : Nat} (hq : q < S.np) (on : Bool) : SM D (w.setCell ⟨gp, q * 2 + 1, none⟩ (.bool on)) sb gp gm lv rv { S with on := upd S.on q on } := by
  have hk : ∀ x, x ≠ gp → (w.setCell ⟨gp, q * 2 + 1, none⟩ (.bool on)).heap[x]? = w.heap[x]? := fun x hx => Below.heap_setCell w _ _ x hx
  obtain ⟨cur, p1, p2, p3⟩ := h.part
  refine ⟨by rw [hk _ h.a1]; exact h.head, ⟨cur.setIfInBounds (q * 2 + 1) (.bool on), ?_, by simpa using p2, fun p hp => ⟨?_, ?_⟩⟩, h.keys.kept (hk _ h.a3.symm), h.list.keep (fun x hx => hk x (h.a5 x hx).2.1), fun p hp => row_keep (h.rows p hp) (fun x hx => hk x (h.a4 p x hp hx).2.1),
    h.a1, h.a2, h.a3, h.a4, h.a5, h.a6, h.d1, h.d2, h.d3, fun x hx => by have := h.dl x hx; simpa [go_sem] using this⟩
  · rw [Sort.setCell_eq]
    simp [Sort.mapBlock, Array.getElem?_modify, p1, Sort.onCells]
  · rw [Array.getElem?_setIfInBounds, if_neg (by omega)]; exact (p3 p hp).1
  · by_cases e : p = q
    · subst e
      rw [Array.getElem?_setIfInBounds, if_pos rfl, if_pos (by rw [p2]; omega)]
      show _ = some (Value.bool (upd S.on p on p))
      rw [upd_same]
    · rw [Array.getElem?_setIfInBounds, if_neg (by omega)]
      show _ = some (Value.bool (upd S.on q on p))
      rw [upd_other _ _ e]; exact (p3 p hp).2
theorem ok_on (h : S.ok) (f : Nat → Bool) : ({ S with on := f } : Sc).ok := ⟨h.np1, h.np4, h.chk, h.lok, h.len, h.rok, h.kl, h.kr, h.kb, h.mem⟩

theorem switch_walk (h : Src D w v S) (p : Int) (on : Bool) : Calls Tryz.prog 26 #[v, .int .i64 p, .bool on] w fun e w' => e = .returned (.int .i64 (switchI S p)) ∧ Src D w' v (switchS S p on) ∧ Ch D w w' := by
  have HW : Hid (Src D w v S) := h
  obtain ⟨sb, gp, gm, lv, rv, rfl, h, hok⟩ := h
  have HS : Hid (SM D w sb gp gm lv rv S) := h
  have HK : Hid S.ok := hok
  clear h hok
  by_cases hh : hasS S p
  · obtain ⟨q, rfl, hq⟩ := has_nat hh
    have HL : Hid (switchI S q = 0) := by show _ = _; unfold switchI; rw [if_pos hh]
    have HT : Hid (switchS S q on = { S with on := upd S.on q on }) := by show _ = _; unfold switchS; rw [if_pos hh]; rfl
    rw [HL.out, HT.out]
    have p1 := HS.out.p1 hq
    have f1 := HS.out.soft (q * 2 + 1)
    clear hh
    go_enter Tryz.func26, Tryz.ntmps26
    go_wp2_with (go_at_call 33; refine (part_ok HS.out HK.out hq).mono ?_; rintro e w9 ⟨rfl, h9⟩; have h9 := h9.symm; subst h9)
    go_ret
    exact ⟨rfl, ⟨sb, gp, gm, lv, rv, rfl, HS.out.setOn hq on, ok_on HK.out _⟩, Ch.of_grown (grown_set w gp _ _) (fun x hx => by cases hx; exact HS.out.d1.2.1)⟩
  · have HL : Hid (switchI S p = 60) := by show _ = _; unfold switchI; rw [if_neg hh]
    have HT : Hid (switchS S p on = S) := by show _ = _; unfold switchS; rw [if_neg hh]
    rw [HL.out, HT.out]
    have HN : Hid (p < 0 ∨ (S.np : Int) ≤ p) := not_has hh
    clear hh
    go_enter Tryz.func26, Tryz.ntmps26
    go_wp2_with (go_at_call 33; refine (part_no HS.out HK.out HN.out).mono ?_; rintro e w9 ⟨rfl, h9⟩; have h9 := h9.symm; subst h9)
    go_ret
    exact ⟨rfl, HW.out, Ch.refl _ _⟩

/-- A cut of a row of records. -/
theorem cut_rv {g n cap X C : Nat} {l : List Rcd} (h : w.ownsRow 0 38 2 (.slice (some ⟨g, 0, none⟩) n cap) l.length (flatR l)) (hok : ∀ r ∈ l, r.ok) (hx : X + C ≤ l.length) (hm : cap ≤ maxLen) :
    Rv w (.slice (if cap = X then some ⟨g, 0, none⟩ else some ⟨g, X * 2, none⟩) C (cap - X)) ((l.drop X).take C) := by
  obtain ⟨⟨ao, c2, e, h1, h2, h3, h4⟩, h5⟩ := own_rv h hok
  simp only [Value.slice.injEq] at e
  obtain ⟨rfl, rfl, rfl⟩ := e
  have hl : ((l.drop X).take C).length = C := by simp; omega
  refine ⟨⟨_, cap - X, by rw [hl], by rw [hl]; omega, Nat.le_trans (Nat.sub_le _ _) hm, (fun he => by split at he <;> cases he), fun i hi => ?_⟩, fun r hr => hok r (List.mem_of_mem_drop (List.mem_of_mem_take hr))⟩
  rw [hl] at hi
  obtain ⟨b, off, eb, g0, g1⟩ := h4 (X + i) (by omega)
  cases eb
  have hcx : ¬ cap = X := by omega
  refine ⟨g, X * 2, by rw [if_neg hcx], ?_, ?_⟩
  · rw [List.getElem_take, List.getElem_drop, ← Nat.add_mul]; simpa using g0
  · rw [List.getElem_take, List.getElem_drop, ← Nat.add_mul]; simpa using g1

set_option maxRecDepth 100000 in
theorem read_walk (h : Src D w v S) (p x m : Int) (hx : -9223372036854775808 ≤ x ∧ x < 9223372036854775808) (hm : m < 9223372036854775808) : Calls Tryz.prog 21 #[v, .int .i64 p, .int .i64 x, .int .i64 m] w fun e w' =>
    ∃ r, e = .returned (.tuple #[r, .int .i64 (readI S p x m)]) ∧ w'.ownsRow w.heap.size 38 2 r (readL S p x m).length (flatR (readL S p x m)) ∧ Below w.heap.size w w' := by
  obtain ⟨sb, gp, gm, lv, rv, rfl, h, hok⟩ := h
  have HS : Hid (SM D w sb gp gm lv rv S) := h
  have HK : Hid S.ok := hok
  clear h hok
  by_cases hh : hasS S p
  · obtain ⟨q, rfl, hq⟩ := has_nat hh
    have HI : Hid (readI S q x m = if x < 0 ∨ x > (S.logs q).length ∨ m < 0 then 1 else if S.on q then 0 else 63) := by show _ = _; unfold readI; rw [if_pos hh]; rfl
    have HLL : Hid (readL S q x m = if readI S q x m = 0 then ((S.logs q).drop x.toNat).take m.toNat else []) := rfl
    have p0 := HS.out.p0 hq
    have p1 := HS.out.p1 hq
    have HR : Hid (w.ownsRow 0 38 2 (rv q) (S.logs q).length (flatR (S.logs q))) := HS.out.rows q hq
    have hlen := HK.out.len q
    obtain ⟨n, hn⟩ : ∃ n, n = (S.logs q).length := ⟨_, rfl⟩
    rw [← hn] at hlen
    obtain ⟨ao, cap, hrv, hnc, hcm⟩ := row_form (HS.out.rows q hq)
    rw [hrv, ← hn] at p0
    have HN : Hid (n = (S.logs q).length) := hn
    have HRV : Hid (rv q = .slice ao n cap) := by show _ = _; rw [hrv, hn]
    have HNC : Hid (n ≤ cap ∧ cap ≤ maxLen) := by show _ ∧ _; rw [hn]; exact ⟨hnc, hcm⟩
    clear hh hn hrv hnc hcm
    by_cases hbad : x < 0 ∨ x > n ∨ m < 0
    · have HE : Hid (readI S q x m = 1) := by show _ = _; rw [HI.out, ← HN.out, if_pos hbad]
      have HZ : Hid (readL S q x m = []) := by show _ = _; rw [HLL.out, HE.out]; rfl
      rw [HE.out, HZ.out]
      by_cases hx0 : x < 0
      · clear hbad
        go_enter Tryz.func21, Tryz.ntmps21
        go_wp2_with (go_at_call 33; refine (part_ok HS.out HK.out hq).mono ?_; rintro e w9 ⟨rfl, h9⟩; have h9 := h9.symm; subst h9)
        go_ret2
        exact ⟨_, rfl, World.ownsRow_nil _ _ _ _, below_same _⟩
      · by_cases hxn : (n : Int) < x
        · clear hbad
          go_enter Tryz.func21, Tryz.ntmps21
          go_wp2_with (go_at_call 33; refine (part_ok HS.out HK.out hq).mono ?_; rintro e w9 ⟨rfl, h9⟩; have h9 := h9.symm; subst h9)
          go_ret2
          exact ⟨_, rfl, World.ownsRow_nil _ _ _ _, below_same _⟩
        · have hm0 : m < 0 := by omega
          clear hbad
          go_enter Tryz.func21, Tryz.ntmps21
          go_wp2_with (go_at_call 33; refine (part_ok HS.out HK.out hq).mono ?_; rintro e w9 ⟨rfl, h9⟩; have h9 := h9.symm; subst h9)
          go_ret2
          exact ⟨_, rfl, World.ownsRow_nil _ _ _ _, below_same _⟩
    · obtain ⟨X, rfl⟩ : ∃ X : Nat, x = X := ⟨x.toNat, by omega⟩
      have hXn : X ≤ n := by omega
      have hm0 : 0 ≤ m := by omega
      cases hon : S.on q
      · have HE : Hid (readI S q X m = 63) := by show _ = _; rw [HI.out, ← HN.out, if_neg hbad, hon]; rfl
        have HZ : Hid (readL S q X m = []) := by show _ = _; rw [HLL.out, HE.out]; rfl
        rw [HE.out, HZ.out]
        rw [hon] at p1
        clear hbad hon
        go_enter Tryz.func21, Tryz.ntmps21
        go_wp2_with (go_at_call 33; refine (part_ok HS.out HK.out hq).mono ?_; rintro e w9 ⟨rfl, h9⟩; have h9 := h9.symm; subst h9)
        go_ret2
        exact ⟨_, rfl, World.ownsRow_nil _ _ _ _, below_same _⟩
      · have HE : Hid (readI S q X m = 0) := by show _ = _; rw [HI.out, ← HN.out, if_neg hbad, hon]; rfl
        have HZ : Hid (readL S q X m = ((S.logs q).drop X).take m.toNat) := by show _ = _; rw [HLL.out, HE.out]; rfl
        rw [HE.out, HZ.out]
        rw [hon] at p1
        clear hbad hon
        obtain ⟨C, hC⟩ : ∃ C : Nat, (C : Int) = min m ((n : Int) - (X : Int)) := ⟨(min m ((n : Int) - (X : Int))).toNat, by omega⟩
        have rC : min m ((n : Int) - (X : Int)) = (C : Int) := hC.symm
        have hCn : X + C ≤ n := by omega
        have hCm : C = min m.toNat (n - X) := by omega
        have HCM : Hid (C = min m.toNat (n - X)) := hCm
        clear hC hCm
        have HRL : Hid (((S.logs q).drop X).take m.toNat = ((S.logs q).drop X).take C) := by
          show _ = _
          rw [HCM.out, HN.out]
          rcases Nat.le_total m.toNat ((S.logs q).length - X) with h | h
          · rw [Nat.min_eq_left h]
          · rw [Nat.min_eq_right h, List.take_of_length_le (by simpa using h), List.take_of_length_le (by simp)]
        rw [HRL.out]
        rcases HR.out.2 with ⟨hv, h0⟩ | ⟨g, cap', cur, hv, _, hg, hnc, hcm, hcs, htk⟩
        · have hao : ao = none ∧ n = 0 ∧ cap = 0 := by have := HRV.out; rw [hv] at this; simp at this; exact ⟨this.1.symm, this.2.1.symm, this.2.2.symm⟩
          obtain ⟨rfl, rfl, rfl⟩ := hao
          obtain rfl : X = 0 := by omega
          obtain rfl : C = 0 := by omega
          have rC0 : min m 0 = 0 := by omega
          clear rC
          have HRN : Hid (Rv w (.slice none 0 0) (((S.logs q).drop 0).take 0)) := by
            rw [List.take_zero]
            exact ⟨⟨none, 0, rfl, by simp, by simp [maxLen], by simp, fun i hi => by simp at hi⟩, by simp⟩
          go_enter Tryz.func21, Tryz.ntmps21
          go_wp2_with (go_at_call 33; refine (part_ok HS.out HK.out hq).mono ?_; rintro e w9 ⟨rfl, h9⟩; have h9 := h9.symm; subst h9)
          refine (cloneR_walk HRN.out (by simp)).mono ?_
          rintro e w9 ⟨r, rfl, hr, hB⟩
          go_wp2_with fail
          go_ret2
          exact ⟨r, rfl, hr, hB⟩
        · have hao : ao = some ⟨g, 0, none⟩ := by have := HRV.out; rw [hv] at this; simp at this; exact this.1.symm
          have hcc : cap' = cap := by have := HRV.out; rw [hv] at this; simp at this; exact this.2.2
          subst hao
          subst hcc
          have HCU : Hid (Rv w (.slice (if cap' = X then some ⟨g, 0, none⟩ else some ⟨g, X * 2, none⟩) C (cap' - X)) (((S.logs q).drop X).take C)) := by
            refine cut_rv (n := (S.logs q).length) ?_ (HK.out.rok q) ?_ hcm
            · rw [← hv]; exact HR.out
            · rw [← HN.out]; exact hCn
          have HC2 : Hid ((((S.logs q).drop X).take C).length ≤ 1048576) := by show _ ≤ _; simp; omega
          clear hv hg hnc hcm hcs htk
          have hnc := HNC.out.1
          have hXC : (X : Int) + (C : Int) ≤ (cap' : Int) := by omega
          by_cases hcx : cap' = X
          · rw [if_pos hcx, show cap' - X = 0 by omega] at HCU
            go_enter Tryz.func21, Tryz.ntmps21
            go_wp2_with (go_at_call 33; refine (part_ok HS.out HK.out hq).mono ?_; rintro e w9 ⟨rfl, h9⟩; have h9 := h9.symm; subst h9)
            refine (cloneR_walk HCU.out HC2.out).mono ?_
            rintro e w9 ⟨r, rfl, hr, hB⟩
            go_wp2_with fail
            go_ret2
            exact ⟨r, rfl, hr, hB⟩
          · rw [if_neg hcx] at HCU
            go_enter Tryz.func21, Tryz.ntmps21
            go_wp2_with (go_at_call 33; refine (part_ok HS.out HK.out hq).mono ?_; rintro e w9 ⟨rfl, h9⟩; have h9 := h9.symm; subst h9)
            refine (cloneR_walk HCU.out HC2.out).mono ?_
            rintro e w9 ⟨r, rfl, hr, hB⟩
            go_wp2_with fail
            go_ret2
            exact ⟨r, rfl, hr, hB⟩
  · have HE : Hid (readI S p x m = 60) := by show _ = _; unfold readI; rw [if_neg hh]
    have HZ : Hid (readL S p x m = []) := by show _ = _; unfold readL; rw [HE.out]; rfl
    rw [HE.out, HZ.out]
    have HN : Hid (p < 0 ∨ (S.np : Int) ≤ p) := not_has hh
    clear hh
    go_enter Tryz.func21, Tryz.ntmps21
    go_wp2_with (go_at_call 33; refine (part_no HS.out HK.out HN.out).mono ?_; rintro e w9 ⟨rfl, h9⟩; have h9 := h9.symm; subst h9)
    go_ret2
    exact ⟨_, rfl, World.ownsRow_nil _ _ _ _, below_same _⟩
end
end Go.Proofs.YtfgeabcdcepfdaaGreat
