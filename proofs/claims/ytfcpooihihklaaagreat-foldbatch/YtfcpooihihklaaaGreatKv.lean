/- The reference's With: a table with a part more. -/
import Derived.Test.YtfcpooihihklaaaGreatKq
import Derived.Test.YtfcpooihihklaaaGreatGe
namespace Go.Proofs.YtfcpooihihklaaaGreat
open Ieee Go.RowKit

def zP : Pr := ⟨0, noV⟩

theorem pair_cells {w : World} {g k b : Nat} {c : Bool} (h0 : w.cell? ⟨g, 0, none⟩ = some (.int .u64 k)) (h1 : w.cell? ⟨g, 1, none⟩ = some (.bool c)) (h2 : w.cell? ⟨g, 2, none⟩ = some (.int .u64 b)) :
    ∀ (j : Nat) (u : Value), ([.int .u64 k, .bool c, .int .u64 b] : List Value)[j]? = some u → w.cell? ((⟨g, 0, none⟩ : Addr).add j) = some u := by
  intro j u hj
  have : j = 0 ∨ j = 1 ∨ j = 2 ∨ 3 ≤ j := by omega
  rcases this with rfl | rfl | rfl | h
  · simp at hj; subst hj; simpa [WideShapes.add_plain] using h0
  · simp at hj; subst hj; simpa [WideShapes.add_plain] using h1
  · simp at hj; subst hj; simpa [WideShapes.add_plain] using h2
  · rw [List.getElem?_eq_none (by simpa using h)] at hj; cases hj

/-- A pair onto a row that may have to grow. -/
theorem wpList_append_qg {P : Program} {w : World} {ops : Array Oper} {rest : List Oper} {o : Oper} {a : Act} {Q : Exit → Act → World → Prop} (hgd : o.guard = none) (s x : Operand) (t : TypeId)
    (ho : o.op = .call { callee := .builtin .append, args := #[s, x], argTypes := #[t, t] })
    (base : Nat) (e : TypeId) (i0 : TypeInfo) (ht : P.underlying t = some (.slice e)) (hi : P.info? e = some i0) (hz0 : i0.zero = some (.agg #[.int .u64 0, .bool false, .int .u64 0])) (hz1 : i0.size = 3) (hz2 : i0.bytes = 24)
    (v : Value) (n : Nat) (m : List Pr) (hs : a.eval s = v) (hown : w.ownsRow base e 3 v n (flatQ m))
    (q : Nat) (r : Pr) (hx : a.eval x = .slice (some ⟨q, 0, none⟩) 1 1) (h0 : w.cell? ⟨q, 0, none⟩ = some (.int .u64 r.k)) (h1 : w.cell? ⟨q, 1, none⟩ = some (.bool r.v.h)) (h2 : w.cell? ⟨q, 2, none⟩ = some (.int .u64 r.v.b)) (h63 : n + 1 ≤ maxLen) (hb : (n + 1) * 24 ≤ 140737488355328) (hbase : base ≤ w.heap.size)
    (h : ∀ g cap w', w'.ownsRow base e 3 (.slice (some ⟨g, 0, none⟩) (n + 1) cap) (n + 1) (flatQ (m ++ [r])) → w.grownBy w' v.ownBlock → wpList P ops Q rest (a.put o.dst (.slice (some ⟨g, 0, none⟩) (n + 1) cap)) w') : wpList P ops Q (o :: rest) a w := by
  refine wpList_append_own w hgd s x t ho base e i0 (.agg #[.int .u64 0, .bool false, .int .u64 0]) 3 24 ht hi hz0 hz1 hz2 rfl (by decide) v n (flatQ m) hs hown ⟨q, 0, none⟩ 1 1 [.int .u64 r.k, .bool r.v.h, .int .u64 r.v.b] hx rfl (pair_cells h0 h1 h2) ?_ h63 hb hbase
    (fun v' w' h1 h2 _ => ?_)
  · intro u hu
    simp at hu
    rcases hu with rfl | rfl | rfl <;> rfl
  · rcases h1.2 with ⟨_, h⟩ | ⟨g, cap, cur, e1, _⟩
    · omega
    · subst e1
      exact h g cap w' (by rw [flatQ_append]; exact h1) h2

/-- Where the loop of With stands: the pairs from i on one place further. -/
def Wh (w : World) (B g cap vb : Nat) (v : Vl) (t : List Pr) (at_ : Nat) (iv : Value) (wr : World) : Prop :=
  ∃ (i : Nat) (x : Pr), at_ ≤ i ∧ i ≤ t.length ∧ iv = .int .i64 i ∧ Ow wr g cap (t.take i ++ x :: t.drop i) ∧ VB wr vb v ∧ Below B w wr

theorem shift_step {t : List Pr} {j : Nat} (hj : j < t.length) (x : Pr) : (t.take (j + 1) ++ x :: t.drop (j + 1)).set (j + 1) t[j] = t.take j ++ t[j] :: t.drop j := by
  have hl : (t.take (j + 1)).length = j + 1 := by simp; omega
  rw [List.set_append_right _ _ (by omega), hl, Nat.sub_self, List.set_cons_zero, List.take_succ_eq_append_getElem hj, List.append_assoc]
  rw [List.drop_eq_getElem_cons hj]
  rfl
theorem shift_get {t : List Pr} {j : Nat} (hj : j < t.length) (x : Pr) (h : j < (t.take (j + 1) ++ x :: t.drop (j + 1)).length) : (t.take (j + 1) ++ x :: t.drop (j + 1))[j] = t[j] := by
  rw [List.getElem_append_left (by simp; omega), List.getElem_take]
theorem shift_len {t : List Pr} {i : Nat} (hi : i ≤ t.length) (x : Pr) : (t.take i ++ x :: t.drop i).length = t.length + 1 := by simp; omega
theorem shift_end {t : List Pr} {i : Nat} (hi : i ≤ t.length) (x y : Pr) : (t.take i ++ x :: t.drop i).set i y = t.take i ++ y :: t.drop i := by
  have hl : (t.take i).length = i := by simp; omega
  rw [List.set_append_right _ _ (by omega), hl, Nat.sub_self, List.set_cons_zero]

theorem keep3 {B g : Nat} {w wr : World} (h : Below B w wr) (hg : B ≤ g) (o1 o2 o3 : Nat) (u1 u2 u3 : Value) : Below B w (((wr.setCell ⟨g, o1, none⟩ u1).setCell ⟨g, o2, none⟩ u2).setCell ⟨g, o3, none⟩ u3) := ((h.setCell hg u1).setCell hg u2).setCell hg u3
theorem below_both {B : Nat} {w w1 w2 : World} (h : Below B w w1) (hB : B ≤ w1.heap.size) (k : Below w1.heap.size w1 w2) : Below B w w2 := ⟨k.os.trans h.os, k.tape.trans h.tape, k.output.trans h.output, Nat.le_trans h.size k.size, fun i hi => (k.block i (Nat.lt_of_lt_of_le hi hB)).trans (h.block i hi)⟩

set_option maxRecDepth 100000 in
set_option maxHeartbeats 8000000 in
theorem with_found (kind : Int) {g cap B k : Nat} {t : List Pr} {v : Vl} (w : World) (hO : Ow w g cap t) (hB : B ≤ g) (ht : okT t) (hv : v.ok) (hat : posT k t < t.length) (hke : t[posT k t].k = k) :
    Calls Tryz.prog 23 #[.int .i64 kind, .slice (some ⟨g, 0, none⟩) t.length cap, .int .u64 k, .agg #[.bool v.h, .int .u64 v.b]] w fun e w' => ∃ g' cap', e = .returned (.slice (some ⟨g', 0, none⟩) (withT kind k v t).length cap') ∧ Ow w' g' cap' (withT kind k v t) ∧ B ≤ g' ∧ Below B w w' := by
  have HO : Hid (Ow w g cap t) := hO
  have HBG : Hid (B ≤ g) := hB
  have HV : Hid v.ok := hv
  have HL : Hid (t.length ≤ maxLen) := Nat.le_trans hO.2.1 hO.2.2.1
  have hli : (t.length : Int) ≤ 9223372036854775807 := by have := HL.out; simp only [maxLen] at this; omega
  obtain ⟨p, hpe⟩ : ∃ p, p = t[posT k t] := ⟨_, rfl⟩
  have HPE : Hid (p = t[posT k t]) := hpe
  have HPO : Hid p.ok := by show p.ok; rw [hpe]; exact ht _ (List.getElem_mem hat)
  have hpk : p.k = k := by rw [hpe]; exact hke
  obtain ⟨M, hM⟩ : ∃ M, M = mergeV kind p.v v := ⟨_, rfl⟩
  have HM : Hid (mergeV kind p.v v = M) := hM.symm
  have HW : Hid (withT kind k v t = t.set (posT k t) ⟨t[posT k t].k, M⟩) := by
    show _ = _
    unfold withT
    rw [(put_found (mergeV kind (getT k t) v) hat hke).1, (put_found noV hat hke).2, ← hpe, ← hM, hpk]
  have HWL : Hid ((withT kind k v t).length = t.length) := by show _ = _; rw [HW.out]; simp
  clear hpe hM hke hO hv ht
  have hai : ((posT k t : Nat) : Int) < (t.length : Int) := by omega
  go_enter Tryz.func23, Tryz.ntmps23
  go_wp2_with fail
  have hv0 : VB (w.alloc (Obj.cells #[.bool v.h, .int .u64 v.b] 40)) w.heap.size v := by constructor <;> simp [go_sem]
  refine (rplace_walk HL.out (mq_ql (HO.out.below (below_alloc w (Obj.cells #[.bool v.h, .int .u64 v.b] 40))).2.2.2) k).mono ?_
  rintro e w1 ⟨rfl, hB1⟩
  have HB1 : Hid (Below w.heap.size w w1) := below_trans (below_alloc _ _) hB1
  have HV1 : Hid (VB w1 w.heap.size v) := hv0.below hB1 (cell_lt hv0.c0)
  have HO1 : Hid (Ow w1 g cap t) := HO.out.below HB1.out
  clear hB1 hv0
  have HSF : Hid (∀ wx, Below w1.heap.size w1 wx → wx.cell? ⟨w.heap.size, 0, none⟩ = some (.bool v.h) ∧ wx.cell? ⟨w.heap.size, 1, none⟩ = some (.int .u64 v.b)) := fun wx h => by
    have := HV1.out.below h (cell_lt HV1.out.c0)
    exact ⟨this.c0, this.c1⟩
  have HSS : Hid (∀ wx, Below w1.heap.size w1 wx → ((wx.setCell ⟨g, posT k t * 3 + 1, none⟩ (.bool M.h)).setCell ⟨g, posT k t * 3 + 2, none⟩ (.int .u64 M.b)).cell? ⟨w.heap.size, 0, none⟩ = some (.bool v.h) ∧ ((wx.setCell ⟨g, posT k t * 3 + 1, none⟩ (.bool M.h)).setCell ⟨g, posT k t * 3 + 2, none⟩ (.int .u64 M.b)).cell? ⟨w.heap.size, 1, none⟩ = some (.int .u64 v.b)) := fun wx h => by
    obtain ⟨s0, s1⟩ := HSF.out wx h
    have n1 : w.heap.size ≠ g := by have := HO.out.lt; omega
    have e0 : ∀ (p : Addr) (u : Value) (wy : World), p.block ≠ g → ∀ o, (wy.setCell ⟨g, o, none⟩ u).cell? p = wy.cell? p := fun p u wy hp o => World.cell?_of_block (w := wy) (Below.heap_setCell wy ⟨g, o, none⟩ u p.block hp)
    exact ⟨by rw [e0 _ _ _ n1, e0 _ _ _ n1]; exact s0, by rw [e0 _ _ _ n1, e0 _ _ _ n1]; exact s1⟩
  obtain ⟨⟨m0, _, _⟩, _⟩ := HO1.out.2.2.2 (posT k t) hat
  rw [← HPE.out] at m0
  have hkb : ((p.k : Int) == (k : Int)) = true := by simp; omega
  clear hpk
  go_wp2_with fail
  clear m0 hkb
  refine wp_region_noPanic ?_
  have hSd : Below w1.heap.size w1 w1.drew := (Below.refl _ _).drew
  refine wp_region_held_drew (S := fun wx => wx.cell? ⟨w.heap.size, 0, none⟩ = some (.bool v.h) ∧ wx.cell? ⟨w.heap.size, 1, none⟩ = some (.int .u64 v.b)) (by kernel_rfl) ?_ (fun hHeld => ?_)
  · exact HSF.out _ hSd
  refine wpAnyH_take (i := 0) (oi := ⟨some 27, _, _, _, _, _⟩) (v := ?_) rfl (by kernel_rfl) (by kernel_rfl) (by kernel_rfl) (fun _ _ _ h => h) (Or.inl ⟨by rfl, ?_⟩) (by assumption) ?_
  rotate_left
  · intro w hSw; (try dsimp only at hSw); obtain ⟨s0, s1⟩ := hSw; go_simp; all_goals (with_reducible rfl)
  try simp only [Act.put, List.setIfInBounds_toArray, List.set_cons_zero, List.set_cons_succ]
  refine wpAnyH_take (i := 1) (oi := ⟨some 28, _, _, _, _, _⟩) (v := ?_) rfl (by kernel_rfl) (by kernel_rfl) (by kernel_rfl) (fun _ _ _ h => h) (Or.inl ⟨by rfl, ?_⟩) (by assumption) ?_
  rotate_left
  · intro w hSw; (try dsimp only at hSw); obtain ⟨s0, s1⟩ := hSw; go_simp; all_goals (with_reducible rfl)
  try simp only [Act.put, List.setIfInBounds_toArray, List.set_cons_zero, List.set_cons_succ]
  refine wpAnyH_take (i := 2) (oi := ⟨some 29, _, _, _, _, _⟩) (v := ?_) rfl (by kernel_rfl) (by kernel_rfl) (by kernel_rfl) (fun _ _ _ h => h) (Or.inl ⟨by rfl, ?_⟩) (by assumption) ?_
  rotate_left
  · intro w hSw; (try dsimp only at hSw); obtain ⟨s0, s1⟩ := hSw; go_simp; all_goals (with_reducible rfl)
  try simp only [Act.put, List.setIfInBounds_toArray, List.set_cons_zero, List.set_cons_succ]
  refine wpAnyH_take (i := 3) (oi := ⟨some 30, _, _, _, _, _⟩) (v := ?_) rfl (by kernel_rfl) (by kernel_rfl) (by kernel_rfl) (fun _ _ _ h => h) (Or.inl ⟨by rfl, ?_⟩) (by assumption) ?_
  rotate_left
  · intro w hSw; (try dsimp only at hSw); obtain ⟨s0, s1⟩ := hSw; go_simp; all_goals (with_reducible rfl)
  try simp only [Act.put, List.setIfInBounds_toArray, List.set_cons_zero, List.set_cons_succ]
  refine wpAnyH_take (i := 4) (oi := ⟨some 31, _, _, _, _, _⟩) (v := ?_) rfl (by kernel_rfl) (by kernel_rfl) (by kernel_rfl) (fun _ _ _ h => h) (Or.inl ⟨by rfl, ?_⟩) (by assumption) ?_
  rotate_left
  · intro w hSw; (try dsimp only at hSw); obtain ⟨s0, s1⟩ := hSw; go_simp; all_goals (with_reducible rfl)
  try simp only [Act.put, List.setIfInBounds_toArray, List.set_cons_zero, List.set_cons_succ]
  refine wpAnyH_take (i := 5) (oi := ⟨some 32, _, _, _, _, _⟩) (v := ?_) rfl (by kernel_rfl) (by kernel_rfl) (by kernel_rfl) (fun _ _ _ h => h) (Or.inl ⟨by rfl, ?_⟩) (by assumption) ?_
  rotate_left
  · intro w hSw; (try dsimp only at hSw); obtain ⟨s0, s1⟩ := hSw; go_simp; all_goals (with_reducible rfl)
  try simp only [Act.put, List.setIfInBounds_toArray, List.set_cons_zero, List.set_cons_succ]
  refine wpAnyH_take (i := 6) (oi := ⟨some 33, _, _, _, _, _⟩) (v := ?_) rfl (by kernel_rfl) (by kernel_rfl) (by kernel_rfl) (fun _ _ _ h => h) (Or.inl ⟨by rfl, ?_⟩) (by assumption) ?_
  rotate_left
  · intro w hSw; (try dsimp only at hSw); obtain ⟨s0, s1⟩ := hSw; go_simp; all_goals (with_reducible rfl)
  try simp only [Act.put, List.setIfInBounds_toArray, List.set_cons_zero, List.set_cons_succ]
  refine wpAnyH_take (i := 8) (oi := ⟨some 35, _, _, _, _, _⟩) (v := ?_) rfl (by kernel_rfl) (by kernel_rfl) (by kernel_rfl) (fun _ _ _ h => h) (Or.inl ⟨by rfl, ?_⟩) (by assumption) ?_
  rotate_left
  · intro w hSw; (try dsimp only at hSw); obtain ⟨s0, s1⟩ := hSw; go_simp; all_goals (with_reducible rfl)
  try simp only [Act.put, List.setIfInBounds_toArray, List.set_cons_zero, List.set_cons_succ]
  refine wpAnyH_ready (rs := [7]) (by kernel_rfl) (by simp) ?_
  refine AllReadyH.cons (o := ⟨some 34, _, _, _, _, _⟩) rfl (fun K hK => ?_) AllReadyH.nil
  obtain ⟨⟨_, x1, x2⟩, _⟩ := (HO1.out.below hSd).2.2.2 (posT k t) hat
  rw [← HPE.out] at x1 x2
  go_simp
  refine hK.out _ _ ?_ (fun hHeld => ?_)
  · exact HSF.out _ hSd
  clear hK K x1 x2
  try simp only [Act.put, List.setIfInBounds_toArray, List.set_cons_zero, List.set_cons_succ]
  refine wpAnyH_ready (rs := [9]) (by kernel_rfl) (by simp) ?_
  refine AllReadyH.cons (o := ⟨some 36, _, _, _, _, _⟩) rfl (fun K hK => ?_) AllReadyH.nil
  go_simp
  refine (rmerge_walk kind HPO.out.2 HV.out _).mono ?_
  rw [HM.out]
  rintro e w5 ⟨rfl, hB5⟩
  have hS5 : Below w1.heap.size w1 w5 := below_trans hSd hB5
  clear hB5
  go_simp
  refine hK.out _ _ ?_ (fun hHeld => ?_)
  · exact HSF.out _ hS5
  clear hK K
  try simp only [Act.put, List.setIfInBounds_toArray, List.set_cons_zero, List.set_cons_succ]
  refine wpAnyH_take (i := 10) (oi := ⟨some 37, _, _, _, _, _⟩) (v := ?_) rfl (by kernel_rfl) (by kernel_rfl) (by kernel_rfl) (fun _ _ _ h => h) (Or.inl ⟨by rfl, ?_⟩) (by assumption) ?_
  rotate_left
  · intro w hSw; (try dsimp only at hSw); obtain ⟨s0, s1⟩ := hSw; go_simp; all_goals (with_reducible rfl)
  try simp only [Act.put, List.setIfInBounds_toArray, List.set_cons_zero, List.set_cons_succ]
  refine wpAnyH_take (i := 11) (oi := ⟨some 38, _, _, _, _, _⟩) (v := ?_) rfl (by kernel_rfl) (by kernel_rfl) (by kernel_rfl) (fun _ _ _ h => h) (Or.inl ⟨by rfl, ?_⟩) (by assumption) ?_
  rotate_left
  · intro w hSw; (try dsimp only at hSw); obtain ⟨s0, s1⟩ := hSw; go_simp; all_goals (with_reducible rfl)
  try simp only [Act.put, List.setIfInBounds_toArray, List.set_cons_zero, List.set_cons_succ]
  refine wpAnyH_ready (rs := [12]) (by kernel_rfl) (by simp) ?_
  refine AllReadyH.cons (o := ⟨none, _, _, _, _, _⟩) rfl (fun K hK => ?_) AllReadyH.nil
  obtain ⟨⟨_, x1, x2⟩, _, y1, y2⟩ := (HO1.out.below hS5).2.2.2 (posT k t) hat
  go_simp
  have R' := (HO1.out.below hS5).setv hat M
  refine hK.out _ _ ?_ (fun hHeld => ?_)
  · exact HSS.out _ hS5
  clear hK K x1 x2 y1 y2
  try simp only [Act.put, List.setIfInBounds_toArray, List.set_cons_zero, List.set_cons_succ]
  refine wpAnyH_done (by kernel_rfl) ?_ _
  refine NoPanic.normal ?_
  go_wp2_with fail
  go_ret
  refine ⟨g, cap, ?_, ?_, HBG.out, ?_⟩
  · rw [HWL.out]; rfl
  · rw [HW.out]; exact R'
  · exact ((below_both ((HB1.out.mono (Nat.le_trans HBG.out (Nat.le_of_lt HO.out.lt)))) (Nat.le_trans HBG.out (Nat.le_of_lt HO1.out.lt)) hS5).setCell (p := ⟨g, posT k t * 3 + 1, none⟩) HBG.out _).setCell (p := ⟨g, posT k t * 3 + 2, none⟩) HBG.out _
end Go.Proofs.YtfcpooihihklaaaGreat
