/- The reader: a pipeline's line, a step's line; rows that grow. -/
import Derived.Test.YtkiplcmndpdifaaGreatDoorSj

import Derived.Deep.RegionHeld3

import Derived.Deep.CutBlock

namespace Go.Proofs.YtkiplcmndpdifaaGreatDoor

open Go.RowKit



theorem run_store_float {P : Program} {w : World} {a : Addr} {m : Mode} (k : FloatKind) (x : Nat) : (store a (.float k x) m).run P w = stored P w a (.float k x) m := run_store P w a _ m rfl
attribute [local go_sem] run_store_float
attribute [local go_sem] run_store_float


theorem hidH {p : Prop} (h : p) : Hid p := h


theorem info_parts21 {P : Program} {e : TypeId} {z : Value} {s b : Nat} (h : (P.info? e).map (fun i => (i.zero, i.size, i.bytes)) = some (some z, s, b)) : ∃ i, P.info? e = some i ∧ i.zero = some z ∧ i.size = s ∧ i.bytes = b := by
  cases hq : P.info? e with
  | none => simp [hq] at h
  | some i => simp [hq] at h; exact ⟨i, rfl, h.1, h.2.1, h.2.2⟩


theorem info_op : (Tryz.prog.info? 53).map (fun i => (i.zero, i.size, i.bytes)) = some (some (.agg #[.int .i64 0, .int .i64 0, .float .f64 0]), 3, 24) := by kernel_rfl
theorem step_app_op {ops : Array Oper} {o : Oper} {a : Act} {w : World} {K : Act → World → Prop} {Q : Exit → Act → World → Prop} {E : Prop}
    (hg : o.guard = none) (s x : Operand) (hop : o.op = Op.call { callee := Callee.builtin Builtin.append, args := #[s, x], argTypes := #[23, 23] })
    {base : Nat} (v : Value) (n : Nat) (xs : List Value) (hs : a.eval s = v) (hown : w.ownsRow base 53 3 v n xs)
    (q : Nat) (cs : List Value) (hx : a.eval x = .slice (some ⟨q, 0, none⟩) 1 1) (hcl : cs.length = 3) (hnews : w.heap[q]? = some (.cells cs.toArray 53 (0, 0))) (h1 : ∀ u ∈ cs, u.oneCell' = true) (hn : n ≤ 300000) (hb : base ≤ w.heap.size)
    (hK : ∀ v' w', w'.ownsRow base 53 3 v' (n + 1) (xs ++ cs) → w.grownBy w' v.ownBlock → (v'.ownBlock = v.ownBlock ∨ v'.ownBlock = some w.heap.size) → K (a.put o.dst v') w') :
    if Region.wanted o (yielded ops a.tmps) = true then Oper.wp Tryz.prog o a w K Q else E := by
  have hw : Region.wanted o (yielded ops a.tmps) = true := by simp [Region.wanted, hg]
  rw [if_pos hw]
  obtain ⟨i0, hi, hz0, hz1, hz2⟩ := info_parts21 info_op
  obtain ⟨v', w', hrun, r1, r2, _, r4⟩ := run_append_own_at (P := Tryz.prog) w base 23 o.type 53 i0 _ 3 24 Tryz.underlying23 hi hz0 hz1 hz2 rfl (by decide) v n xs hown ⟨q, 0, none⟩ 1 1 cs (by rw [hcl]) (fun j u hj => by rw [WideShapes.add_plain, Nat.zero_add, blk_cell hnews]; simpa using hj) h1 (by unfold maxLen; omega) (by omega) hb
  unfold Oper.wp
  simp [execOp, hop, resolve, invoke, builtin, hs, hx, hrun, Result.andThen]
  exact hK v' w' r1 r2 r4


theorem info_st : (Tryz.prog.info? 41).map (fun i => (i.zero, i.size, i.bytes)) = some (some (.agg #[.int .i64 0, .int .i64 0, .int .i64 0, .int .u64 0, .float .f64 0]), 5, 40) := by kernel_rfl
theorem step_app_st {ops : Array Oper} {o : Oper} {a : Act} {w : World} {K : Act → World → Prop} {Q : Exit → Act → World → Prop} {E : Prop}
    (hg : o.guard = none) (s x : Operand) (hop : o.op = Op.call { callee := Callee.builtin Builtin.append, args := #[s, x], argTypes := #[26, 26] })
    {base : Nat} (v : Value) (n : Nat) (xs : List Value) (hs : a.eval s = v) (hown : w.ownsRow base 41 5 v n xs)
    (q : Nat) (cs : List Value) (hx : a.eval x = .slice (some ⟨q, 0, none⟩) 1 1) (hcl : cs.length = 5) (hnews : w.heap[q]? = some (.cells cs.toArray 41 (0, 0))) (h1 : ∀ u ∈ cs, u.oneCell' = true) (hn : n ≤ 300000) (hb : base ≤ w.heap.size)
    (hK : ∀ v' w', w'.ownsRow base 41 5 v' (n + 1) (xs ++ cs) → w.grownBy w' v.ownBlock → (v'.ownBlock = v.ownBlock ∨ v'.ownBlock = some w.heap.size) → K (a.put o.dst v') w') :
    if Region.wanted o (yielded ops a.tmps) = true then Oper.wp Tryz.prog o a w K Q else E := by
  have hw : Region.wanted o (yielded ops a.tmps) = true := by simp [Region.wanted, hg]
  rw [if_pos hw]
  obtain ⟨i0, hi, hz0, hz1, hz2⟩ := info_parts21 info_st
  obtain ⟨v', w', hrun, r1, r2, _, r4⟩ := run_append_own_at (P := Tryz.prog) w base 26 o.type 41 i0 _ 5 40 Tryz.underlying26 hi hz0 hz1 hz2 rfl (by decide) v n xs hown ⟨q, 0, none⟩ 1 1 cs (by rw [hcl]) (fun j u hj => by rw [WideShapes.add_plain, Nat.zero_add, blk_cell hnews]; simpa using hj) h1 (by unfold maxLen; omega) (by omega) hb
  unfold Oper.wp
  simp [execOp, hop, resolve, invoke, builtin, hs, hx, hrun, Result.andThen]
  exact hK v' w' r1 r2 r4


theorem own_form21 {w : World} {base e sz n : Nat} {v : Value} {xs : List Value} (h : w.ownsRow base e sz v n xs) : ∃ ao cap, v = .slice ao n cap ∧ n ≤ cap ∧ cap ≤ maxLen := by
  obtain ⟨h1, h2⟩ := h
  rcases h2 with ⟨rfl, h0⟩ | ⟨g, cap, cur, rfl, hb, hg, hnc, hcm, hcs, htake⟩
  · exact ⟨none, 0, by rw [h0], by omega, by simp [maxLen]⟩
  · exact ⟨_, cap, rfl, hnc, hcm⟩


section

variable {B R M : Nat} {r : Rd} {ov sv : Value} {w : World}



theorem RM.keep (h : RM B R r ov sv M w) {w' : World} {g : Nat} (hc : Ch (fun x => x = g) w w') (hR : R ≠ g) (ho : ∀ x, ov.ownBlock = some x → x ≠ g) (hs : ∀ x, sv.ownBlock = some x → x ≠ g) (hg : R ≤ g) : RM B R r ov sv M w' :=
  ⟨blk_ch h.blk hc hR, h.rb, h.bm, Nat.le_trans h.ms hc.size, row_keep h.ops fun x hx => hc.block x (h.ops.lt x hx).2 (ho x hx), h.olo, row_keep h.sts fun x hx => hc.block x (h.sts.lt x hx).2 (hs x hx), h.tb.blocks h.gs (fun k hk => hc.block k (by have := blk_lt h.blk; omega) (by omega)), h.gs, h.nb, h.len, h.snil⟩


/-- A step of a pipeline goes behind the others. -/
theorem RM.addOp (h : RM B R r ov sv M w) (hs : r.s.sts = []) {w1 w2 : World} (hB1 : Below w.heap.size w w1) {v' : Value} {og : Og} (hr : w2.ownsRow B 53 3 v' (r.s.ops.length + 1) (opsF r.s.ops ++ opF og)) (hg : w1.grownBy w2 ov.ownBlock) :
    RM B R { r with s := { r.s with ops := r.s.ops ++ [og] } } v' sv w2.heap.size (w2.setCell ⟨R, 7, none⟩ v') ∧ Ch (fun x => x = R ∨ B ≤ x) w (w2.setCell ⟨R, 7, none⟩ v') := by
  have hrb := h.rb
  have hbm := h.bm
  have hms := h.ms
  have hs1 := hB1.size
  have hs2 := hg.size
  have hob : ∀ x, ov.ownBlock = some x → B ≤ x := fun x hx => (h.ops.lt x hx).1
  have hk : ∀ k, k < w.heap.size → k < B → w2.heap[k]? = w.heap[k]? := fun k hk hkb => by
    rw [hg.block k (by omega) (fun e => by have := hob k e.symm; omega), hB1.block k hk]
  have hblk : w2.heap[R]? = some (.cells (RC r ov sv) 44 (0, 0)) := by rw [hk R (blk_lt h.blk) hrb]; exact h.blk
  have hsv := h.snil hs
  subst hsv
  refine ⟨⟨?_, hrb, by omega, by simp [go_sem], ?_, ?_, ?_, ?_, h.gs, h.nb, h.len, fun _ => rfl⟩, ?_⟩
  · rw [set_row hblk]; rfl
  · have e : opsF (r.s.ops ++ [og]) = opsF r.s.ops ++ opF og := by simp [opsF]
    show (w2.setCell _ _).ownsRow B _ 3 v' (r.s.ops ++ [og]).length (opsF (r.s.ops ++ [og]))
    rw [e, List.length_append, List.length_singleton]
    exact row_keep hr fun x hx => set_other _ (by have := (hr.lt x hx).1; omega)
  · exact fun x hx => (hr.lt x hx).2
  · show (w2.setCell _ _).ownsRow _ _ 5 (.slice none 0 0) r.s.sts.length (stsF r.s.sts)
    rw [hs]
    exact World.ownsRow_nil _ _ _ _
  · refine h.tb.blocks h.gs (fun k hk' => ?_)
    rw [set_other _ (by omega)]
    exact hk k (by have := blk_lt h.blk; omega) (by omega)
  · refine ((Ch.of_below hB1).trans (Ch.of_grown (D := fun x => x = R ∨ B ≤ x) hg (fun x hx => .inr (hob x hx))) (fun x hx => .inl hx)).self ((ch_set _ _ _ _).le fun x hx => .inl hx)


/-- A step of the script goes behind the others. -/
theorem RM.addSt (h : RM B R r ov sv M w) {w1 w2 : World} (hB1 : Below w.heap.size w w1) {v' : Value} {st : Sp} (hr : w2.ownsRow M 41 5 v' (r.s.sts.length + 1) (stsF r.s.sts ++ stF st)) (hg : w1.grownBy w2 sv.ownBlock) :
    RM B R { r with s := { r.s with sts := r.s.sts ++ [st] } } ov v' M (w2.setCell ⟨R, 12, none⟩ v') ∧ Ch (fun x => x = R ∨ B ≤ x) w (w2.setCell ⟨R, 12, none⟩ v') := by
  have hrb := h.rb
  have hbm := h.bm
  have hms := h.ms
  have hs1 := hB1.size
  have hs2 := hg.size
  have hob : ∀ x, sv.ownBlock = some x → M ≤ x := fun x hx => (h.sts.lt x hx).1
  have hk : ∀ k, k < w.heap.size → k < M → w2.heap[k]? = w.heap[k]? := fun k hk hkb => by
    rw [hg.block k (by omega) (fun e => by have := hob k e.symm; omega), hB1.block k hk]
  have hblk : w2.heap[R]? = some (.cells (RC r ov sv) 44 (0, 0)) := by rw [hk R (blk_lt h.blk) (by omega)]; exact h.blk
  refine ⟨⟨?_, hrb, hbm, by simp [go_sem]; omega, ?_, h.olo, ?_, ?_, h.gs, h.nb, h.len, fun e => by simp at e⟩, ?_⟩
  · rw [set_row hblk]; rfl
  · refine row_keep h.ops fun x hx => ?_
    have h1 := (h.ops.lt x hx).1
    have h2 := h.olo x hx
    rw [set_other _ (by omega)]
    exact hk x (by omega) h2
  · have e : stsF (r.s.sts ++ [st]) = stsF r.s.sts ++ stF st := by simp [stsF]
    show (w2.setCell _ _).ownsRow M _ 5 v' (r.s.sts ++ [st]).length (stsF (r.s.sts ++ [st]))
    rw [e, List.length_append, List.length_singleton]
    exact row_keep hr fun x hx => set_other _ (by have := (hr.lt x hx).1; omega)
  · refine h.tb.blocks h.gs (fun k hk' => ?_)
    rw [set_other _ (by omega)]
    exact hk k (by have := blk_lt h.blk; omega) (by omega)
  · refine ((Ch.of_below hB1).trans (Ch.of_grown (D := fun x => x = R ∨ B ≤ x) hg (fun x hx => .inr (by have := hob x hx; omega))) (fun x hx => .inl hx)).self ((ch_set _ _ _ _).le fun x hx => .inl hx)


/-- What taking a line comes to: the reader with what was read, or a fault. -/
def LineGot (B R : Nat) (r : Rd) (A : Option (Rs × List Bs)) (w : World) (e : Ending) (w' : World) : Prop :=
  match A with
  | none => Bad B R r.ln 211 w e w'
  | some (s, vs) => e = .returned (.tuple #[]) ∧ (∃ ov sv M, RM B R { r with ws := vs, s := s } ov sv M w') ∧ Ch (fun x => x = R ∨ B ≤ x) w w'


set_option maxRecDepth 100000 in
set_option maxHeartbeats 8000000 in
theorem takeOp_walk (h : RM B R r ov sv M w) (hs0 : r.s.sts = []) (hon : r.s.ops.length ≤ 300000) :
    Calls Tryz.prog 49 #[.pointer (some ⟨R, 0, none⟩)] w (LineGot B R r ((opA r.ws).map fun x => ({ r.s with ops := r.s.ops ++ [x.1] }, x.2)) w) := by
  have HR : Hid (RM B R r ov sv M w) := h
  have HS0 : Hid (r.s.sts = []) := hs0
  have HON : Hid (r.s.ops.length ≤ 300000) := hon
  obtain ⟨A, hA⟩ : ∃ A, A = (opA r.ws).map fun x => ({ r.s with ops := r.s.ops ++ [x.1] }, x.2) := ⟨_, rfl⟩
  rw [← hA]
  have HAA : Hid (A = (opA r.ws).map fun x => ({ r.s with ops := r.s.ops ++ [x.1] }, x.2)) := hA
  obtain ⟨g, hg⟩ : ∃ g, g = w.heap.size := ⟨_, rfl⟩
  have HGS : Hid (g = w.heap.size) := hg
  obtain ⟨w1, hw1⟩ : ∃ w1, w1 = w.alloc (.cells #[.int .i64 0, .int .i64 0, .float .f64 0] 53) := ⟨_, rfl⟩
  have HW1 : Hid (w1 = w.alloc (.cells #[.int .i64 0, .int .i64 0, .float .f64 0] 53)) := hw1
  have HR1 : Hid (RM B R r ov sv M w1) := by show RM _ _ _ _ _ _ _; rw [hw1]; exact h.go (below_alloc _ _)
  have HG1 : Hid (w1.heap[g]? = some (.cells #[.int .i64 0, .int .i64 0, .float .f64 0] 53 (0, 0))) := by show _ = _; rw [hw1]; exact alloc_at hg
  have HB1 : Hid (Below w.heap.size w w1) := by show Below _ _ _; rw [hw1]; exact below_alloc _ _
  have HRG : Hid (g ≠ R) := by show _ ≠ _; have := blk_lt h.blk; omega
  have HGO : Hid (∀ x, ov.ownBlock = some x → x ≠ g) := fun x hx => by have := (h.ops.lt x hx).2; omega
  have HGO2 : Hid (∀ x, sv.ownBlock = some x → x ≠ g) := fun x hx => by have := (h.sts.lt x hx).2; omega
  have HG9 : Hid (R ≤ g) := by show _ ≤ _; have := blk_lt h.blk; omega
  clear h hs0 hon hA hw1
  go_enter Tryz.func49, Tryz.ntmps49
  go_wp2_with fail
  rw [← hg, ← HW1.out]
  clear hg
  refine (number_walk HR1.out).mono ?_
  rintro e9 w2 hT
  have hT2 : Took B R M (Rd.mk r.ln r.ws r.fa r.s) ov sv ((nm r.ws).map fun x => (.int .i64 x.1, x.2)) w1 e9 w2 := hT
  clear hT
  cases hn : nm r.ws with
  | none =>
    rw [hn] at hT2
    have hT' : Bad B R r.ln 211 w1 e9 w2 := hT2
    have HAN : Hid (A = none) := by
      show _ = _
      rw [HAA.out]
      simp only [opA, hn]
      rfl
    have HBD : Hid (Bad B R r.ln 211 w e9 w2) := Bad.from hT' (Ch.of_below HB1.out)
    obtain ⟨⟨u, pv, rfl⟩, _⟩ := hT'
    clear hT2 hn
    go_wp2_with fail
    refine ⟨rfl, ?_⟩
    rw [HAN.out]
    exact HBD.out
  | some y =>
    obtain ⟨k, v1⟩ := y
    rw [hn] at hT2
    have HN0 : Hid (nm r.ws = some (k, v1)) := hn
    have hT' : Good B R M (Rd.mk r.ln r.ws r.fa r.s) ov sv (.int .i64 k) v1 w1 e9 w2 := hT2
    obtain ⟨rfl, hr2, hc2⟩ := hT'
    have HQ0 : Hid (RM B R (Rd.mk r.ln v1 r.fa r.s) ov sv M w2) := hr2
    have HD0 : Hid (Ch (fun x => x = R) w w2) := (Ch.of_below HB1.out).self hc2
    have HP0 : Hid (w2.heap[g]? = some (.cells #[.int .i64 0, .int .i64 0, .float .f64 0] 53 (0, 0))) := blk_ch HG1.out hc2 HRG.out
    have g00 : w2.cell? ⟨g, 0, none⟩ = some (.int .i64 0) := by rw [blk_cell HP0.out]; rfl
    have z0 : w2.frozen? ⟨g, 0, none⟩ = false := blk_soft HP0.out 0
    clear hT2 hn hr2 hc2
    go_wp2_with fail
    obtain ⟨wb, hwb⟩ : ∃ wy, wy = w2.setCell ⟨g, 0, none⟩ (.int .i64 k) := ⟨_, rfl⟩
    have HS1R : Hid (RM B R (Rd.mk r.ln v1 r.fa r.s) ov sv M wb) := by
      show RM _ _ _ _ _ _ _
      rw [hwb]
      exact HQ0.out.keep (ch_set _ _ _ _) (fun e => HRG.out e.symm) (fun x hx => HGO.out x hx) (fun x hx => HGO2.out x hx) HG9.out
    have HS1G : Hid (wb.heap[g]? = some (.cells #[.int .i64 k, .int .i64 0, .float .f64 0] 53 (0, 0))) := by
      show _ = _
      rw [hwb, set_row HP0.out]
      rfl
    have HS1C : Hid (Ch (fun x => x = R) w wb) := by
      show Ch _ _ _
      rw [hwb]
      exact HD0.out.trans (ch_set _ _ _ _) (fun x hx => .inr (by rw [hx]; exact Nat.le_of_eq HGS.out.symm))
    rw [← hwb]
    clear hwb g00 z0
    refine (number_walk HS1R.out).mono ?_
    rintro e9 w3 hT
    have hT2 : Took B R M (Rd.mk r.ln v1 r.fa r.s) ov sv ((nm v1).map fun x => (.int .i64 x.1, x.2)) wb e9 w3 := hT
    clear hT
    cases hn : nm v1 with
    | none =>
      rw [hn] at hT2
      have hT' : Bad B R r.ln 211 wb e9 w3 := hT2
      have HAN : Hid (A = none) := by
        show _ = _
        rw [HAA.out]
        simp only [opA, HN0.out, hn]
        rfl
      have HBD : Hid (Bad B R r.ln 211 w e9 w3) := Bad.from hT' ((HS1C.out).le fun x hx => .inl hx)
      obtain ⟨⟨u, pv, rfl⟩, _⟩ := hT'
      clear hT2 hn
      go_wp2_with fail
      refine ⟨rfl, ?_⟩
      rw [HAN.out]
      exact HBD.out
    | some y =>
      obtain ⟨n, v2⟩ := y
      rw [hn] at hT2
      have HN1 : Hid (nm v1 = some (n, v2)) := hn
      have hT' : Good B R M (Rd.mk r.ln v1 r.fa r.s) ov sv (.int .i64 n) v2 wb e9 w3 := hT2
      obtain ⟨rfl, hr2, hc2⟩ := hT'
      have HQ1 : Hid (RM B R (Rd.mk r.ln v2 r.fa r.s) ov sv M w3) := hr2
      have HD1 : Hid (Ch (fun x => x = R) w w3) := (HS1C.out).self hc2
      have HP1 : Hid (w3.heap[g]? = some (.cells #[.int .i64 k, .int .i64 0, .float .f64 0] 53 (0, 0))) := blk_ch HS1G.out hc2 HRG.out
      have g11 : w3.cell? ⟨g, 1, none⟩ = some (.int .i64 0) := by rw [blk_cell HP1.out]; rfl
      have z1 : w3.frozen? ⟨g, 1, none⟩ = false := blk_soft HP1.out 1
      clear hT2 hn hr2 hc2
      go_wp2_with fail
      obtain ⟨wc, hwc⟩ : ∃ wy, wy = w3.setCell ⟨g, 1, none⟩ (.int .i64 n) := ⟨_, rfl⟩
      have HS2R : Hid (RM B R (Rd.mk r.ln v2 r.fa r.s) ov sv M wc) := by
        show RM _ _ _ _ _ _ _
        rw [hwc]
        exact HQ1.out.keep (ch_set _ _ _ _) (fun e => HRG.out e.symm) (fun x hx => HGO.out x hx) (fun x hx => HGO2.out x hx) HG9.out
      have HS2G : Hid (wc.heap[g]? = some (.cells #[.int .i64 k, .int .i64 n, .float .f64 0] 53 (0, 0))) := by
        show _ = _
        rw [hwc, set_row HP1.out]
        rfl
      have HS2C : Hid (Ch (fun x => x = R) w wc) := by
        show Ch _ _ _
        rw [hwc]
        exact HD1.out.trans (ch_set _ _ _ _) (fun x hx => .inr (by rw [hx]; exact Nat.le_of_eq HGS.out.symm))
      rw [← hwc]
      clear hwc g11 z1
      refine (float_walk HS2R.out).mono ?_
      rintro e9 w3x hT
      have hT2 : Took B R M (Rd.mk r.ln v2 r.fa r.s) ov sv ((fl v2).map fun x => (.float .f64 x.1, x.2)) wc e9 w3x := hT
      clear hT
      cases hn : fl v2 with
      | none =>
        rw [hn] at hT2
        have hT' : Bad B R r.ln 211 wc e9 w3x := hT2
        have HAN : Hid (A = none) := by
          show _ = _
          rw [HAA.out]
          simp only [opA, HN0.out, HN1.out, hn]
          rfl
        have HBD : Hid (Bad B R r.ln 211 w e9 w3x) := Bad.from hT' ((HS2C.out).le fun x hx => .inl hx)
        obtain ⟨⟨u, pv, rfl⟩, _⟩ := hT'
        clear hT2 hn
        go_wp2_with fail
        refine ⟨rfl, ?_⟩
        rw [HAN.out]
        exact HBD.out
      | some y =>
        obtain ⟨x, vs⟩ := y
        rw [hn] at hT2
        have HN2 : Hid (fl v2 = some (x, vs)) := hn
        have hT' : Good B R M (Rd.mk r.ln v2 r.fa r.s) ov sv (.float .f64 x) vs wc e9 w3x := hT2
        obtain ⟨rfl, hr2, hc2⟩ := hT'
        have HQ2 : Hid (RM B R (Rd.mk r.ln vs r.fa r.s) ov sv M w3x) := hr2
        have HD2 : Hid (Ch (fun x => x = R) w w3x) := (HS2C.out).self hc2
        have HP2 : Hid (w3x.heap[g]? = some (.cells #[.int .i64 k, .int .i64 n, .float .f64 0] 53 (0, 0))) := blk_ch HS2G.out hc2 HRG.out
        have g22 : w3x.cell? ⟨g, 2, none⟩ = some (.float .f64 0) := by rw [blk_cell HP2.out]; rfl
        have z2 : w3x.frozen? ⟨g, 2, none⟩ = false := blk_soft HP2.out 2
        clear hT2 hn hr2 hc2
        go_wp2_with fail
        obtain ⟨w4, hw4⟩ : ∃ wy, wy = w3x.setCell ⟨g, 2, none⟩ (.float .f64 x) := ⟨_, rfl⟩
        have HS3R : Hid (RM B R (Rd.mk r.ln vs r.fa r.s) ov sv M w4) := by
          show RM _ _ _ _ _ _ _
          rw [hw4]
          exact HQ2.out.keep (ch_set _ _ _ _) (fun e => HRG.out e.symm) (fun x hx => HGO.out x hx) (fun x hx => HGO2.out x hx) HG9.out
        have HS3G : Hid (w4.heap[g]? = some (.cells #[.int .i64 k, .int .i64 n, .float .f64 x] 53 (0, 0))) := by
          show _ = _
          rw [hw4, set_row HP2.out]
          rfl
        have HS3C : Hid (Ch (fun x => x = R) w w4) := by
          show Ch _ _ _
          rw [hw4]
          exact HD2.out.trans (ch_set _ _ _ _) (fun x hx => .inr (by rw [hx]; exact Nat.le_of_eq HGS.out.symm))
        rw [← hw4]
        clear hw4 g22 z2
        have HA : Hid (A = some ({ r.s with ops := r.s.ops ++ [⟨k, n, x⟩] }, vs)) := by
          show _ = _
          rw [HAA.out]
          simp only [opA, HN0.out, HN1.out, HN2.out]
          rfl
        obtain ⟨oa, oc, hov, _, _⟩ := own_form21 HS3R.out.ops
        have HOV : Hid (ov = .slice oa r.s.ops.length oc) := hov
        have hr4 := HS3R.out
        have hgo := HGO.out
        rw [hov] at hr4 hgo
        have HR4 : Hid (RM B R (Rd.mk r.ln vs r.fa r.s) (.slice oa r.s.ops.length oc) sv M w4) := hr4
        have HGOO : Hid (∀ x, (Value.slice oa r.s.ops.length oc).ownBlock = some x → x ≠ g) := hgo
        have HG4 := HS3G
        have HC4 := HS3C
        have c7 : w4.cell? ⟨R, 7, none⟩ = some (.slice oa r.s.ops.length oc) := by rw [blk_cell hr4.blk]; rfl
        have x0 : ∀ wx : World, wx.heap[g]? = some (.cells #[.int .i64 k, .int .i64 n, .float .f64 x] 53 (0, 0)) → wx.cell? ⟨g, 0, none⟩ = some (.int .i64 k) := fun wx h => by rw [blk_cell h]; rfl
        have x1 : ∀ wx : World, wx.heap[g]? = some (.cells #[.int .i64 k, .int .i64 n, .float .f64 x] 53 (0, 0)) → wx.cell? ⟨g, 1, none⟩ = some (.int .i64 n) := fun wx h => by rw [blk_cell h]; rfl
        have x2 : ∀ wx : World, wx.heap[g]? = some (.cells #[.int .i64 k, .int .i64 n, .float .f64 x] 53 (0, 0)) → wx.cell? ⟨g, 2, none⟩ = some (.float .f64 x) := fun wx h => by rw [blk_cell h]; rfl
        have hR4 : R < w4.heap.size := blk_lt hr4.blk
        have hR5 : ¬ R = w4.heap.size := by omega
        clear hov hr4 hgo
        go_wp2_with fail
        refine wp_region_noPanic ?_
        refine wp_region_held_drew (S := fun wx => wx.heap[g]? = some (.cells #[.int .i64 k, .int .i64 n, .float .f64 x] 53 (0, 0))) (by kernel_rfl) ?_ (fun hHeld => ?_)
        · exact HG4.out
        refine wpAnyH_take (i := 0) (oi := ⟨some 12, _, _, _, _, _⟩) (v := ?_) rfl (by kernel_rfl) (by kernel_rfl) (by kernel_rfl) (fun _ _ _ h => h) (Or.inl ⟨by rfl, ?_⟩) hHeld ?_
        rotate_left
        · intro w hSw; (try dsimp only at hSw); go_simp; all_goals (with_reducible rfl)
        try simp only [Act.put, List.setIfInBounds_toArray, List.set_cons_zero, List.set_cons_succ]
        refine wpAnyH_take (i := 1) (oi := ⟨some 13, _, _, _, _, _⟩) (v := ?_) rfl (by kernel_rfl) (by kernel_rfl) (by kernel_rfl) (fun _ _ _ h => h) (Or.inl ⟨by rfl, ?_⟩) hHeld ?_
        rotate_left
        · intro w hSw; (try dsimp only at hSw); go_simp; all_goals (with_reducible rfl)
        try simp only [Act.put, List.setIfInBounds_toArray, List.set_cons_zero, List.set_cons_succ]
        refine wpAnyH_take (i := 2) (oi := ⟨some 14, _, _, _, _, _⟩) (v := ?_) rfl (by kernel_rfl) (by kernel_rfl) (by kernel_rfl) (fun _ _ _ h => h) (Or.inl ⟨by rfl, ?_⟩) hHeld ?_
        rotate_left
        · intro w hSw; (try dsimp only at hSw); go_simp; all_goals (with_reducible rfl)
        try simp only [Act.put, List.setIfInBounds_toArray, List.set_cons_zero, List.set_cons_succ]
        refine wpAnyH_take (i := 3) (oi := ⟨some 15, _, _, _, _, _⟩) (v := ?_) rfl (by kernel_rfl) (by kernel_rfl) (by kernel_rfl) (fun _ _ _ h => h) (Or.inl ⟨by rfl, ?_⟩) hHeld ?_
        rotate_left
        · intro w hSw; (try dsimp only at hSw); go_simp; all_goals (with_reducible rfl)
        try simp only [Act.put, List.setIfInBounds_toArray, List.set_cons_zero, List.set_cons_succ]
        refine wpAnyH_take (i := 4) (oi := ⟨some 16, _, _, _, _, _⟩) (v := ?_) rfl (by kernel_rfl) (by kernel_rfl) (by kernel_rfl) (fun _ _ _ h => h) (Or.inl ⟨by rfl, ?_⟩) hHeld ?_
        rotate_left
        · intro w hSw; (try dsimp only at hSw); go_simp; all_goals (with_reducible rfl)
        try simp only [Act.put, List.setIfInBounds_toArray, List.set_cons_zero, List.set_cons_succ]
        refine wpAnyH_take (i := 6) (oi := ⟨some 18, _, _, _, _, _⟩) (v := ?_) rfl (by kernel_rfl) (by kernel_rfl) (by kernel_rfl) (fun _ _ _ h => h) (Or.inl ⟨by rfl, ?_⟩) hHeld ?_
        rotate_left
        · intro w hSw; (try dsimp only at hSw); go_simp; all_goals (with_reducible rfl)
        try simp only [Act.put, List.setIfInBounds_toArray, List.set_cons_zero, List.set_cons_succ]
        refine wpAnyH_ready (rs := [5, 7]) (by kernel_rfl) (by simp) ?_
        refine AllReadyH.cons (o := ⟨some 17, _, _, _, _, _⟩) rfl (fun K hK => ?_) (AllReadyH.cons (o := ⟨some 19, _, _, _, _, _⟩) rfl (fun K hK => ?_) AllReadyH.nil)
        · go_simp
          refine hK.out _ _ ?_ (fun hHeld => ?_)
          · exact hHeld
          clear hK K
          try simp only [Act.put, List.setIfInBounds_toArray, List.set_cons_zero, List.set_cons_succ]
          refine wpAnyH_ready (rs := [7]) (by kernel_rfl) (by simp) ?_
          refine AllReadyH.cons (o := ⟨some 19, _, _, _, _, _⟩) rfl (fun K hK => ?_) AllReadyH.nil
          go_simp
          refine hK.out _ _ ?_ (fun hHeld => ?_)
          · exact (alloc_old hHeld)
          clear hK K
          try simp only [Act.put, List.setIfInBounds_toArray, List.set_cons_zero, List.set_cons_succ]
          refine wpAnyH_ready (rs := [8]) (by kernel_rfl) (by simp) ?_
          refine AllReadyH.cons (o := ⟨some 20, _, _, _, _, _⟩) rfl (fun K hK => ?_) AllReadyH.nil
          refine step_app_op rfl (.tmp 17) (.tmp 19) rfl (base := B) (.slice oa r.s.ops.length oc) r.s.ops.length (opsF r.s.ops) (by simp [Act.eval]) (row_keep HR4.out.ops fun y hy => (below_trans (below_alloc w4 (.cells #[.int .i64 k, .int .i64 n, .float .f64 x] 53)) (below_drew _)).block y (HR4.out.ops.lt y hy).2) w4.heap.size [.int .i64 k, .int .i64 n, .float .f64 x] (by simp [Act.eval]) rfl (alloc_at rfl) (by intro u hu; simp only [List.mem_cons, List.not_mem_nil, or_false] at hu; rcases hu with rfl | rfl | rfl <;> rfl) HON.out (by have h1 := HR4.out.bm; have h2 := HR4.out.ms; have h3 := (below_trans (below_alloc w4 (.cells #[.int .i64 k, .int .i64 n, .float .f64 x] 53)) (below_drew _)).size; exact Nat.le_trans (Nat.le_trans h1 h2) h3) ?_
          intro v5 w5 hr5 hg5 hat5
          have HR5 : Hid (w5.ownsRow B 53 3 v5 (r.s.ops.length + 1) (opsF r.s.ops ++ opF ⟨k, n, x⟩)) := hr5
          have HG5 := hidH hg5
          obtain ⟨a5, cp5, rfl, _, _⟩ := own_form21 hr5
          have hb5 : ∀ y, y < w4.heap.size → (Value.slice oa r.s.ops.length oc).ownBlock ≠ some y → w5.heap[y]? = w4.heap[y]? := fun y hy hn => by rw [hg5.block y (by have h3 := (below_trans (below_alloc w4 (.cells #[.int .i64 k, .int .i64 n, .float .f64 x] 53)) (below_drew _)).size; exact Nat.lt_of_lt_of_le hy h3) (fun e => hn e.symm)]; exact (below_trans (below_alloc w4 (.cells #[.int .i64 k, .int .i64 n, .float .f64 x] 53)) (below_drew _)).block y hy
          have hh5 : w5.heap[R]? = some (.cells (RC (Rd.mk r.ln vs r.fa r.s) (.slice oa r.s.ops.length oc) sv) 44 (0, 0)) := by rw [hb5 R (blk_lt HR4.out.blk) (fun e => by have h1 := (HR4.out.ops.lt R e).1; have h2 := HR4.out.rb; omega)]; exact HR4.out.blk
          have v7 : w5.cell? ⟨R, 7, none⟩ = some (.slice oa r.s.ops.length oc) := by rw [blk_cell hh5]; rfl
          have y7 : w5.frozen? ⟨R, 7, none⟩ = false := blk_soft hh5 7
          have HT5 : Hid (w5.heap[g]? = some (.cells #[.int .i64 k, .int .i64 n, .float .f64 x] 53 (0, 0))) := by
                show _ = _
                rw [hb5 g (blk_lt HG4.out) (fun e => HGOO.out g e rfl)]
                exact HG4.out
          clear hr5 hg5 hat5 hh5 hb5
          refine hK.out _ _ ?_ (fun hHeld => ?_)
          · exact HT5.out
          clear hK K
          try simp only [Act.put, List.setIfInBounds_toArray, List.set_cons_zero, List.set_cons_succ]
          refine wpAnyH_take (i := 9) (oi := ⟨some 21, _, _, _, _, _⟩) (v := ?_) rfl (by kernel_rfl) (by kernel_rfl) (by kernel_rfl) (fun _ _ _ h => h) (Or.inl ⟨by rfl, ?_⟩) hHeld ?_
          rotate_left
          · intro w hSw; (try dsimp only at hSw); go_simp; all_goals (with_reducible rfl)
          try simp only [Act.put, List.setIfInBounds_toArray, List.set_cons_zero, List.set_cons_succ]
          refine wpAnyH_take (i := 10) (oi := ⟨some 22, _, _, _, _, _⟩) (v := ?_) rfl (by kernel_rfl) (by kernel_rfl) (by kernel_rfl) (fun _ _ _ h => h) (Or.inl ⟨by rfl, ?_⟩) hHeld ?_
          rotate_left
          · intro w hSw; (try dsimp only at hSw); go_simp; all_goals (with_reducible rfl)
          try simp only [Act.put, List.setIfInBounds_toArray, List.set_cons_zero, List.set_cons_succ]
          refine wpAnyH_take (i := 11) (oi := ⟨some 23, _, _, _, _, _⟩) (v := ?_) rfl (by kernel_rfl) (by kernel_rfl) (by kernel_rfl) (fun _ _ _ h => h) (Or.inl ⟨by rfl, ?_⟩) hHeld ?_
          rotate_left
          · intro w hSw; (try dsimp only at hSw); go_simp; all_goals (with_reducible rfl)
          try simp only [Act.put, List.setIfInBounds_toArray, List.set_cons_zero, List.set_cons_succ]
          refine wpAnyH_ready (rs := [12]) (by kernel_rfl) (by simp) ?_
          refine AllReadyH.cons (o := ⟨none, _, _, _, _, _⟩) rfl (fun K hK => ?_) AllReadyH.nil
          go_simp
          refine hK.out _ _ ?_ (fun hHeld => ?_)
          · exact (by rw [set_other _ HRG.out]; exact HT5.out)
          clear hK K
          try simp only [Act.put, List.setIfInBounds_toArray, List.set_cons_zero, List.set_cons_succ]
          refine wpAnyH_done (by kernel_rfl) ?_ _
          refine NoPanic.normal ?_
          have HE := hidH (RM.addOp HR4.out HS0.out (og := ⟨k, n, x⟩) (below_trans (below_alloc w4 (.cells #[.int .i64 k, .int .i64 n, .float .f64 x] 53)) (below_drew _)) HR5.out HG5.out)
          refine bodyPost_end (results_none rfl _ _ _) rfl ?_
          rw [HA.out]
          exact ⟨rfl, ⟨_, _, _, HE.out.1⟩, (HC4.out.le fun x hx => .inl hx).self HE.out.2⟩
        · go_simp
          refine hK.out _ _ ?_ (fun hHeld => ?_)
          · exact (alloc_old hHeld)
          clear hK K
          try simp only [Act.put, List.setIfInBounds_toArray, List.set_cons_zero, List.set_cons_succ]
          refine wpAnyH_ready (rs := [5]) (by kernel_rfl) (by simp) ?_
          refine AllReadyH.cons (o := ⟨some 17, _, _, _, _, _⟩) rfl (fun K hK => ?_) AllReadyH.nil
          go_simp
          refine hK.out _ _ ?_ (fun hHeld => ?_)
          · exact hHeld
          clear hK K
          try simp only [Act.put, List.setIfInBounds_toArray, List.set_cons_zero, List.set_cons_succ]
          refine wpAnyH_ready (rs := [8]) (by kernel_rfl) (by simp) ?_
          refine AllReadyH.cons (o := ⟨some 20, _, _, _, _, _⟩) rfl (fun K hK => ?_) AllReadyH.nil
          refine step_app_op rfl (.tmp 17) (.tmp 19) rfl (base := B) (.slice oa r.s.ops.length oc) r.s.ops.length (opsF r.s.ops) (by simp [Act.eval]) (row_keep HR4.out.ops fun y hy => (below_trans (below_alloc w4 (.cells #[.int .i64 k, .int .i64 n, .float .f64 x] 53)) (below_drew _)).block y (HR4.out.ops.lt y hy).2) w4.heap.size [.int .i64 k, .int .i64 n, .float .f64 x] (by simp [Act.eval]) rfl (alloc_at rfl) (by intro u hu; simp only [List.mem_cons, List.not_mem_nil, or_false] at hu; rcases hu with rfl | rfl | rfl <;> rfl) HON.out (by have h1 := HR4.out.bm; have h2 := HR4.out.ms; have h3 := (below_trans (below_alloc w4 (.cells #[.int .i64 k, .int .i64 n, .float .f64 x] 53)) (below_drew _)).size; exact Nat.le_trans (Nat.le_trans h1 h2) h3) ?_
          intro v5 w5 hr5 hg5 hat5
          have HR5 : Hid (w5.ownsRow B 53 3 v5 (r.s.ops.length + 1) (opsF r.s.ops ++ opF ⟨k, n, x⟩)) := hr5
          have HG5 := hidH hg5
          obtain ⟨a5, cp5, rfl, _, _⟩ := own_form21 hr5
          have hb5 : ∀ y, y < w4.heap.size → (Value.slice oa r.s.ops.length oc).ownBlock ≠ some y → w5.heap[y]? = w4.heap[y]? := fun y hy hn => by rw [hg5.block y (by have h3 := (below_trans (below_alloc w4 (.cells #[.int .i64 k, .int .i64 n, .float .f64 x] 53)) (below_drew _)).size; exact Nat.lt_of_lt_of_le hy h3) (fun e => hn e.symm)]; exact (below_trans (below_alloc w4 (.cells #[.int .i64 k, .int .i64 n, .float .f64 x] 53)) (below_drew _)).block y hy
          have hh5 : w5.heap[R]? = some (.cells (RC (Rd.mk r.ln vs r.fa r.s) (.slice oa r.s.ops.length oc) sv) 44 (0, 0)) := by rw [hb5 R (blk_lt HR4.out.blk) (fun e => by have h1 := (HR4.out.ops.lt R e).1; have h2 := HR4.out.rb; omega)]; exact HR4.out.blk
          have v7 : w5.cell? ⟨R, 7, none⟩ = some (.slice oa r.s.ops.length oc) := by rw [blk_cell hh5]; rfl
          have y7 : w5.frozen? ⟨R, 7, none⟩ = false := blk_soft hh5 7
          have HT5 : Hid (w5.heap[g]? = some (.cells #[.int .i64 k, .int .i64 n, .float .f64 x] 53 (0, 0))) := by
                show _ = _
                rw [hb5 g (blk_lt HG4.out) (fun e => HGOO.out g e rfl)]
                exact HG4.out
          clear hr5 hg5 hat5 hh5 hb5
          refine hK.out _ _ ?_ (fun hHeld => ?_)
          · exact HT5.out
          clear hK K
          try simp only [Act.put, List.setIfInBounds_toArray, List.set_cons_zero, List.set_cons_succ]
          refine wpAnyH_take (i := 9) (oi := ⟨some 21, _, _, _, _, _⟩) (v := ?_) rfl (by kernel_rfl) (by kernel_rfl) (by kernel_rfl) (fun _ _ _ h => h) (Or.inl ⟨by rfl, ?_⟩) hHeld ?_
          rotate_left
          · intro w hSw; (try dsimp only at hSw); go_simp; all_goals (with_reducible rfl)
          try simp only [Act.put, List.setIfInBounds_toArray, List.set_cons_zero, List.set_cons_succ]
          refine wpAnyH_take (i := 10) (oi := ⟨some 22, _, _, _, _, _⟩) (v := ?_) rfl (by kernel_rfl) (by kernel_rfl) (by kernel_rfl) (fun _ _ _ h => h) (Or.inl ⟨by rfl, ?_⟩) hHeld ?_
          rotate_left
          · intro w hSw; (try dsimp only at hSw); go_simp; all_goals (with_reducible rfl)
          try simp only [Act.put, List.setIfInBounds_toArray, List.set_cons_zero, List.set_cons_succ]
          refine wpAnyH_take (i := 11) (oi := ⟨some 23, _, _, _, _, _⟩) (v := ?_) rfl (by kernel_rfl) (by kernel_rfl) (by kernel_rfl) (fun _ _ _ h => h) (Or.inl ⟨by rfl, ?_⟩) hHeld ?_
          rotate_left
          · intro w hSw; (try dsimp only at hSw); go_simp; all_goals (with_reducible rfl)
          try simp only [Act.put, List.setIfInBounds_toArray, List.set_cons_zero, List.set_cons_succ]
          refine wpAnyH_ready (rs := [12]) (by kernel_rfl) (by simp) ?_
          refine AllReadyH.cons (o := ⟨none, _, _, _, _, _⟩) rfl (fun K hK => ?_) AllReadyH.nil
          go_simp
          refine hK.out _ _ ?_ (fun hHeld => ?_)
          · exact (by rw [set_other _ HRG.out]; exact HT5.out)
          clear hK K
          try simp only [Act.put, List.setIfInBounds_toArray, List.set_cons_zero, List.set_cons_succ]
          refine wpAnyH_done (by kernel_rfl) ?_ _
          refine NoPanic.normal ?_
          have HE := hidH (RM.addOp HR4.out HS0.out (og := ⟨k, n, x⟩) (below_trans (below_alloc w4 (.cells #[.int .i64 k, .int .i64 n, .float .f64 x] 53)) (below_drew _)) HR5.out HG5.out)
          refine bodyPost_end (results_none rfl _ _ _) rfl ?_
          rw [HA.out]
          exact ⟨rfl, ⟨_, _, _, HE.out.1⟩, (HC4.out.le fun x hx => .inl hx).self HE.out.2⟩
end

end Go.Proofs.YtkiplcmndpdifaaGreatDoor


