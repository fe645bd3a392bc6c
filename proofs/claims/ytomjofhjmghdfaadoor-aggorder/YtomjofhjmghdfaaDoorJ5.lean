/- The walk of AggOrder. -/
import Derived.Test.YtomjofhjmghdfaaDoorGg
namespace Go.Proofs.YtomjofhjmghdfaaDoor
open Ieee Go.RowKit

/-- How far the way back has come: the values from the last down to place j are gathered in block bT. -/
def Tp (w : World) (bA bT : Nat) (G : Vl) (k : Int) (l : List Nat) (iv : Value) (wr : World) : Prop :=
  ∃ (j : Nat) (i : Int), j ≤ l.length ∧ i = (j : Int) - 1 ∧ iv = .int .i64 i ∧ Below w.heap.size w wr ∧ VB wr bA G ∧ VB wr bT (gathV k noV (l.drop j).reverse)

theorem gath_back (k : Int) (l : List Nat) (j : Nat) (h : j < l.length) : gathV k noV (l.drop j).reverse = mergeV k (gathV k noV (l.drop (j + 1)).reverse) (ofV k l[j]) := by
  rw [List.drop_eq_getElem_cons h, List.reverse_cons]
  unfold gathV
  rw [List.foldl_append]
  rfl

theorem Fc.take {w : World} {ao : Option Addr} {l : List Nat} (h : Fc w ao l) (m : Nat) : Fc w ao (l.take m) := by
  intro i hi
  rw [List.length_take] at hi
  obtain ⟨b, off, e, c⟩ := h i (by omega)
  exact ⟨b, off, e, by rw [List.getElem_take]; exact c⟩

theorem Fc.drop {w : World} {b off : Nat} {l : List Nat} (h : Fc w (some ⟨b, off, none⟩) l) (m : Nat) : Fc w (some ⟨b, off + m, none⟩) (l.drop m) := by
  intro i hi
  rw [List.length_drop] at hi
  obtain ⟨b', off', e, c⟩ := h (m + i) (by omega)
  cases e
  exact ⟨b, off + m, rfl, by rw [List.getElem_drop, Nat.add_assoc]; exact c⟩

theorem rem_word64 (a : Int) (n : Nat) (hn : n ≠ 0) : ∃ m : Nat, m < n ∧ (IntKind.u64.wrap a).tmod (n : Int) = (m : Int) := by
  rw [IntKind.wrap_u64, Int.tmod_eq_emod_of_nonneg (Int.emod_nonneg _ (by omega))]
  refine ⟨((a % 18446744073709551616) % (n : Int)).toNat, ?_, ?_⟩
  · have := Int.emod_lt_of_pos (a % 18446744073709551616) (show (0 : Int) < (n : Int) by omega)
    have := Int.emod_nonneg (a % 18446744073709551616) (show (n : Int) ≠ 0 by omega)
    omega
  · have := Int.emod_nonneg (a % 18446744073709551616) (show (n : Int) ≠ 0 by omega)
    omega

set_option maxRecDepth 100000 in
set_option maxHeartbeats 16000000 in
theorem aggorder_walk (k : Int) {l : List Nat} {v : Value} (a : Int) (w : World) (ht : Tb w) (hv : Fv w v l) :
    Calls Tryd.prog 7 #[.int .i64 k, v, .int .i64 a] w fun e w' => e = .returned (.bool true) ∧ Below w.heap.size w w' := by
  obtain ⟨⟨ao, cap, rfl, hlc, hcm, hnil, hV⟩, hok⟩ := hv
  have HF : Hid (Fc w ao l) := hV
  have HOK : Hid (allOk l) := hok
  have hll : l.length ≤ 9223372036854775807 := by unfold maxLen at hcm; omega
  have hcc : cap ≤ 9223372036854775807 := by unfold maxLen at hcm; omega
  clear hV hok hnil hcm
  obtain ⟨G, hG⟩ : ∃ G, G = gathV k noV l := ⟨_, rfl⟩
  have HG : Hid (G = gathV k noV l) := hG
  clear hG
  go_enter Tryd.func7, Tryd.ntmps7
  go_wp2_with fail
  refine (awake_walk _ ht).mono ?_
  rintro e w1 ⟨rfl, hB1⟩
  have HB1 : Hid (Below w.heap.size w w1) := hB1
  clear hB1
  go_wp2_with fail
  refine (gathered_walk k rfl _ (HF.out.below HB1.out) HOK.out hll).mono ?_
  rw [← HG.out]
  rintro e w2 ⟨rfl, hB2⟩
  have HB2 : Hid (Below w.heap.size w w2) := below_trans HB1.out hB2
  clear hB2 HB1
  by_cases hn0 : l.length = 0
  · have hl : l = [] := List.eq_nil_of_length_eq_zero hn0
    have hG0 : G = noV := by rw [HG.out, hl]; rfl
    subst hG0
    clear hl
    go_wp2_with fail
    go_ret
    exact ⟨rfl, below_trans HB2.out (below_alloc _ _)⟩
  obtain ⟨b, off, rfl, _⟩ := HF.out 0 (by omega)
  obtain ⟨m, hm, hrem⟩ := rem_word64 a l.length hn0
  have hn0' : ¬ (l.length : Int) = 0 := by omega
  have hn0b : ((l.length : Int) == 0) = false := neq_b hn0'
  have hmI : (m : Int) ≤ 9223372036854775807 := by omega
  go_wp2_with fail
  go_loopw [11] (fun iv wr => Tp w w2.heap.size (w2.heap.size + 1) G k l iv wr) (fun iv _ => (intOf iv + 1).toNat)
  case atStart =>
    refine ⟨l.length, _, Nat.le_refl _, rfl, rfl, below_trans HB2.out (below_two _ _ _), (vb_new w2 G.h G.b).below (below_alloc _ _) (by rw [size_alloc]; omega), ?_⟩
    have h := vb_zero (w2.alloc (Obj.cells #[Value.bool G.h, Value.int IntKind.u64 (G.b : Int)] 27))
    rw [size_alloc] at h
    rw [List.drop_length]
    exact h
  case round =>
    obtain ⟨j, i, hj, hij, rfl, hBr, hVA, hVT⟩ := hrel
    have HBR : Hid (Below w.heap.size w wr) := hBr
    have HVA : Hid (VB wr w2.heap.size G) := hVA
    obtain ⟨V, hV⟩ : ∃ V, V = gathV k noV (l.drop j).reverse := ⟨_, rfl⟩
    rw [← hV] at hVT
    have HVT : Hid (VB wr (w2.heap.size + 1) V) := hVT
    have HVE : Hid (V = gathV k noV (l.drop j).reverse) := hV
    have HVO : Hid V.ok := by show V.ok; rw [hV]; exact gath_ok k noV_ok (fun x hx => allOk_drop HOK.out j x (by simpa using hx))
    clear hBr hVA hVT hV
    obtain ⟨c0, c1, z0, z1⟩ := HVT.out
    by_cases hj0 : j = 0
    · obtain rfl : i = -1 := by omega
      subst hj0
      have HVG : Hid (V = G) := by show _ = _; rw [HVE.out, HG.out, List.drop_zero]; exact gath_turned k HOK.out
      clear hj hij
      go_wp2_with fail
      obtain ⟨H, hH⟩ : ∃ H, H = gathV k noV (l.take m) := ⟨_, rfl⟩
      have HHE : Hid (H = gathV k noV (l.take m)) := hH
      have HHO : Hid H.ok := by show H.ok; rw [hH]; exact gath_ok k noV_ok (allOk_take HOK.out m)
      obtain ⟨T, hT⟩ : ∃ T, T = gathV k noV (l.drop m) := ⟨_, rfl⟩
      have HTE : Hid (T = gathV k noV (l.drop m)) := hT
      have HTO : Hid T.ok := by show T.ok; rw [hT]; exact gath_ok k noV_ok (allOk_drop HOK.out m)
      have HHT : Hid (G = mergeV k H T) := by show _ = _; rw [hH, hT, HG.out, ← gath_cut k (allOk_take HOK.out m) (allOk_drop HOK.out m), List.take_append_drop]
      have HTH : Hid (G = mergeV k T H) := by show _ = _; rw [HHT.out]; exact merge_comm k HHO.out HTO.out
      have HVT' : Hid (VB wr (w2.heap.size + 1) G) := by show VB _ _ _; rw [← HVG.out]; exact HVT.out
      clear hH hT c0 c1 z0 z1
      refine (gathered_walk k (l := l.take m) (by rw [List.length_take]; omega) _ ((HF.out.below HBR.out).take m) (allOk_take HOK.out m) (by omega)).mono ?_
      rw [← HHE.out]
      rintro e w6 ⟨rfl, hB6⟩
      have HB6 : Hid (Below wr.heap.size wr (w6.alloc (Obj.cells #[Value.bool H.h, Value.int IntKind.u64 (H.b : Int)] 27))) := below_trans hB6 (below_alloc _ _)
      have HV6 : Hid (VB (w6.alloc (Obj.cells #[Value.bool H.h, Value.int IntKind.u64 (H.b : Int)] 27)) w6.heap.size H) := vb_new w6 H.h H.b
      clear hB6
      have hcm : ¬ cap = m := by omega
      go_wp2_with fail
      generalize w6.alloc (Obj.cells #[Value.bool H.h, Value.int IntKind.u64 (H.b : Int)] 27) = w6' at HB6 HV6 ⊢
      refine (gathered_walk k (l := l.drop m) (by rw [List.length_drop]) _ (((HF.out.below HBR.out).below HB6.out).drop m) (allOk_drop HOK.out m) (by omega)).mono ?_
      rw [← HTE.out]
      rintro e w7 ⟨rfl, hB7⟩
      have HB7 : Hid (Below w6'.heap.size w6' (w7.alloc (Obj.cells #[Value.bool T.h, Value.int IntKind.u64 (T.b : Int)] 27))) := below_trans hB7 (below_alloc _ _)
      have HV7 : Hid (VB (w7.alloc (Obj.cells #[Value.bool T.h, Value.int IntKind.u64 (T.b : Int)] 27)) w7.heap.size T) := vb_new w7 T.h T.b
      clear hB7
      go_wp2_with fail
      generalize w7.alloc (Obj.cells #[Value.bool T.h, Value.int IntKind.u64 (T.b : Int)] 27) = w8 at HB7 HV7 ⊢
      have HB8 : Hid (Below wr.heap.size wr w8) := below_trans HB6.out HB7.out
      have HA8 : Hid (VB w8 w2.heap.size G) := HVA.out.below HB8.out (cell_lt HVA.out.c0)
      have HT8 : Hid (VB w8 (w2.heap.size + 1) G) := HVT'.out.below HB8.out (cell_lt HVT'.out.c0)
      have HH8 : Hid (VB w8 w6.heap.size H) := HV6.out.below HB7.out (cell_lt HV6.out.c0)
      have k0 : ∀ wx, Below w8.heap.size w8 wx → wx.cell? ⟨w2.heap.size, 0, none⟩ = some (.bool G.h) := fun wx h => (HA8.out.below h (cell_lt HA8.out.c0)).c0
      have k1 : ∀ wx, Below w8.heap.size w8 wx → wx.cell? ⟨w2.heap.size, 1, none⟩ = some (.int .u64 G.b) := fun wx h => (HA8.out.below h (cell_lt HA8.out.c0)).c1
      have k2 : ∀ wx, Below w8.heap.size w8 wx → wx.cell? ⟨w2.heap.size + 1, 0, none⟩ = some (.bool G.h) := fun wx h => (HT8.out.below h (cell_lt HT8.out.c0)).c0
      have k3 : ∀ wx, Below w8.heap.size w8 wx → wx.cell? ⟨w2.heap.size + 1, 1, none⟩ = some (.int .u64 G.b) := fun wx h => (HT8.out.below h (cell_lt HT8.out.c0)).c1
      have k4 : ∀ wx, Below w8.heap.size w8 wx → wx.cell? ⟨w6.heap.size, 0, none⟩ = some (.bool H.h) := fun wx h => (HH8.out.below h (cell_lt HH8.out.c0)).c0
      have k5 : ∀ wx, Below w8.heap.size w8 wx → wx.cell? ⟨w6.heap.size, 1, none⟩ = some (.int .u64 H.b) := fun wx h => (HH8.out.below h (cell_lt HH8.out.c0)).c1
      have k6 : ∀ wx, Below w8.heap.size w8 wx → wx.cell? ⟨w7.heap.size, 0, none⟩ = some (.bool T.h) := fun wx h => (HV7.out.below h (cell_lt HV7.out.c0)).c0
      have k7 : ∀ wx, Below w8.heap.size w8 wx → wx.cell? ⟨w7.heap.size, 1, none⟩ = some (.int .u64 T.b) := fun wx h => (HV7.out.below h (cell_lt HV7.out.c0)).c1
      go_cut [76] (fun g wx => g = .bool false ∧ Below w8.heap.size w8 wx)
      case first =>
        go_region_held3 (fun wx => Below w8.heap.size w8 wx) (first | assumption | exact (Below.refl _ _).drew)
          ((go_at_call 16; refine (merge_walk k (a := ⟨_, _⟩) (b := ⟨_, _⟩) (by first | exact HHO.out | exact HTO.out) (by first | exact HHO.out | exact HTO.out) _).mono ?_; (first | rw [show mergeV k ⟨H.h, H.b⟩ ⟨T.h, T.b⟩ = G from HHT.out.symm] | rw [show mergeV k ⟨T.h, T.b⟩ ⟨H.h, H.b⟩ = G from HTH.out.symm]); rintro e w3 ⟨rfl, hB3⟩; have hS3 : Below w8.heap.size w8 w3 := below_trans (by assumption) hB3))
        all_goals go_wp2_with fail
        all_goals go_meet
        all_goals exact ⟨by simp, by assumption⟩
      case rest =>
        obtain ⟨rfl, hBc⟩ := hcut
        have HBC : Hid (Below w.heap.size w _) := below_trans HBR.out (below_trans HB8.out hBc)
        obtain ⟨c0, c1, _, _⟩ := HA8.out.below hBc (cell_lt HA8.out.c0)
        clear hBc k0 k1 k2 k3 k4 k5 k6 k7
        by_cases hk : k = 1
        · subst hk
          have hgc : G = ⟨true, l.length⟩ := by rw [HG.out, gath_count l (by intro h; rw [h] at hn0; exact hn0 rfl), Nat.mod_eq_of_lt (by omega)]
          rw [hgc] at c0 c1
          clear hgc
          go_wp2_with fail
          go_ret
          exact ⟨rfl, HBC.out⟩
        · have hk' := neq_b hk
          go_wp2_with fail
          go_ret
          exact ⟨rfl, HBC.out⟩
    · obtain ⟨q, rfl⟩ : ∃ q, j = q + 1 := ⟨j - 1, by omega⟩
      obtain rfl : i = (q : Int) := by omega
      have hql : q < l.length := by omega
      obtain ⟨x, hxe⟩ : ∃ x, x = l[q] := ⟨_, rfl⟩
      have f0 : wr.cell? ⟨b, off + q, none⟩ = some (.float .f64 x) := by
        obtain ⟨b', off', hbo, f0⟩ := HF.out.below HBR.out q hql
        cases hbo
        rw [hxe]
        exact f0
      have HX : Hid (x < 18446744073709551616) := by show _ < _; rw [hxe]; exact HOK.out _ (List.getElem_mem hql)
      obtain ⟨O, hO⟩ : ∃ O, O = ofV k x := ⟨_, rfl⟩
      have HOE : Hid (O = ofV k x) := hO
      have HOO : Hid O.ok := by show O.ok; rw [hO]; exact ofV_ok k HX.out
      obtain ⟨M, hM⟩ : ∃ M, M = mergeV k V O := ⟨_, rfl⟩
      have HME : Hid (M = mergeV k V O) := hM
      have HMN : Hid (gathV k noV (l.drop q).reverse = M) := by show _ = _; rw [gath_back k l q hql, hM, HVE.out, hO, hxe]
      have HQL : Hid (q < l.length) := hql
      clear hO hM hxe hj hij hj0
      go_wp2_with fail
      go_region_with (first
        | (go_at_call 12; refine (aof_walk k HX.out _).mono ?_; rw [← HOE.out]; rintro e w3 ⟨rfl, hB3⟩; have hS3 : Below wr.heap.size wr w3 := below_trans (by first | assumption | exact (Below.refl _ _).drew) hB3; obtain ⟨c0, c1, z0, z1⟩ := HVT.out.below hS3 (cell_lt HVT.out.c0); clear hB3)
        | (go_at_call 16; refine (merge_walk k HVO.out HOO.out _).mono ?_; rw [← HME.out]; rintro e w3 ⟨rfl, hB3⟩; have hS3 : Below wr.heap.size wr w3 := below_trans (by first | assumption | exact (Below.refl _ _).drew) hB3; obtain ⟨c0, c1, z0, z1⟩ := HVT.out.below hS3 (cell_lt HVT.out.c0)))
      all_goals
        have HBY : Hid (Below wr.heap.size wr _) := hS3
        go_wp2_with fail
        go_roundw
        case rel =>
          have hvy := HVT.out.below HBY.out (cell_lt HVT.out.c0)
          have hay := HVA.out.below HBY.out (cell_lt HVA.out.c0)
          refine ⟨q, _, Nat.le_of_lt HQL.out, rfl, rfl, keep_store (below_trans HBR.out HBY.out) _ (Nat.le_succ_of_le HB2.out.size) _ _, (hay.other (by simp) _).other (by simp) _, ?_⟩
          rw [HMN.out]
          exact hvy.set _ _
        case measure => simp [intOf]
end Go.Proofs.YtomjofhjmghdfaaDoor
