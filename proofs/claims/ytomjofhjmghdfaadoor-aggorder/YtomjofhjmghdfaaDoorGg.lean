/- gathered: the values of floats, one behind the other. -/
import Derived.Test.YtomjofhjmghdfaaDoorGl
import Derived.Test.YtomjofhjmghdfaaDoorGm
namespace Go.Proofs.YtomjofhjmghdfaaDoor
open Ieee Go.RowKit

/-- How far the gathering has come: the value of the first i floats lies in block b. -/
def Gp (w : World) (b : Nat) (k : Int) (l : List Nat) (iv : Value) (wr : World) : Prop :=
  ∃ i : Nat, i ≤ l.length ∧ iv = .int .i64 i ∧ Below w.heap.size w wr ∧ VB wr w.heap.size noV ∧ VB wr b (gathV k noV (l.take i))

theorem gath_next (k : Int) (l : List Nat) (i : Nat) (h : i < l.length) : gathV k noV (l.take (i + 1)) = mergeV k (gathV k noV (l.take i)) (ofV k l[i]) := by
  rw [List.take_succ_eq_append_getElem h]
  unfold gathV
  rw [List.foldl_append]
  rfl

theorem allOk_take {l : List Nat} (h : allOk l) (i : Nat) : allOk (l.take i) := fun x hx => h x (List.mem_of_mem_take hx)
theorem allOk_drop {l : List Nat} (h : allOk l) (i : Nat) : allOk (l.drop i) := fun x hx => h x (List.mem_of_mem_drop hx)

theorem gp_start (w : World) (k : Int) (l : List Nat) :
    Gp w (w.heap.size + 1) k l (.int .i64 0) ((w.alloc (Obj.cells #[Value.bool false, Value.int IntKind.u64 0] 27)).alloc (Obj.cells #[Value.bool false, Value.int IntKind.u64 0] 27)) := by
  refine ⟨0, Nat.zero_le _, rfl, below_two _ _ _, (vb_zero w).below (below_alloc _ _) (by rw [size_alloc]; omega), ?_⟩
  have h := vb_zero (w.alloc (Obj.cells #[Value.bool false, Value.int IntKind.u64 0] 27))
  rw [size_alloc] at h
  exact h

set_option maxRecDepth 100000 in
set_option maxHeartbeats 8000000 in
theorem gathered_walk (k : Int) {l : List Nat} {ao : Option Addr} {n cap : Nat} (hn : n = l.length) (w : World) (hF : Fc w ao l) (hok : allOk l) (hll : n ≤ 9223372036854775807) :
    Calls Tryd.prog 20 #[.int .i64 k, .slice ao n cap] w fun e w' => e = .returned (.agg #[.bool (gathV k noV l).h, .int .u64 (gathV k noV l).b]) ∧ Below w.heap.size w w' := by
  have HF : Hid (Fc w ao l) := hF
  have HOK : Hid (allOk l) := hok
  have HN : Hid (n = l.length) := hn
  clear hF hok hn
  go_enter Tryd.func20, Tryd.ntmps20
  go_wp2_with fail
  go_loopw [6] (fun iv wr => Gp w (w.heap.size + 1) k l iv wr) (fun iv _ => n - (intOf iv).toNat)
  case atStart => exact gp_start w k l
  case round =>
    obtain ⟨i, hi, rfl, hBr, hV0, hV1⟩ := hrel
    have HBR : Hid (Below w.heap.size w wr) := hBr
    have HV0 : Hid (VB wr w.heap.size noV) := hV0
    obtain ⟨V, hV⟩ : ∃ V, V = gathV k noV (l.take i) := ⟨_, rfl⟩
    rw [← hV] at hV1
    have HV1 : Hid (VB wr (w.heap.size + 1) V) := hV1
    have HVE : Hid (V = gathV k noV (l.take i)) := hV
    have HVO : Hid V.ok := by show V.ok; rw [hV]; exact gath_ok k noV_ok (allOk_take HOK.out i)
    clear hBr hV0 hV1 hV
    by_cases hlt : i < n
    · have hlt' : i < l.length := by rw [← HN.out]; exact hlt
      obtain ⟨b, off, rfl, f0⟩ := HF.out.below HBR.out i hlt'
      obtain ⟨x, hxe⟩ : ∃ x, x = l[i] := ⟨_, rfl⟩
      rw [← hxe] at f0
      have HX : Hid (x < 18446744073709551616) := by show _ < _; rw [hxe]; exact HOK.out _ (List.getElem_mem hlt')
      obtain ⟨O, hO⟩ : ∃ O, O = ofV k x := ⟨_, rfl⟩
      have HOE : Hid (O = ofV k x) := hO
      have HOO : Hid O.ok := by show O.ok; rw [hO]; exact ofV_ok k HX.out
      obtain ⟨M, hM⟩ : ∃ M, M = mergeV k V O := ⟨_, rfl⟩
      have HME : Hid (M = mergeV k V O) := hM
      have HMN : Hid (gathV k noV (l.take (i + 1)) = M) := by show _ = _; rw [gath_next k l i hlt', hM, HVE.out, hO, hxe]
      have HLT : Hid (i < l.length) := hlt'
      clear hO hM hxe hlt' hi
      obtain ⟨c0, c1, z0, z1⟩ := HV1.out
      go_wp2_with fail
      go_region_with (first
        | (go_at_call 12; refine (aof_walk k HX.out _).mono ?_; rw [← HOE.out]; rintro e w3 ⟨rfl, hB3⟩; have hS3 : Below wr.heap.size wr w3 := below_trans (by first | assumption | exact (Below.refl _ _).drew) hB3; obtain ⟨c0, c1, z0, z1⟩ := HV1.out.below hS3 (cell_lt HV1.out.c0); clear hB3)
        | (go_at_call 16; refine (merge_walk k HVO.out HOO.out _).mono ?_; rw [← HME.out]; rintro e w3 ⟨rfl, hB3⟩; have hS3 : Below wr.heap.size wr w3 := below_trans (by first | assumption | exact (Below.refl _ _).drew) hB3; obtain ⟨c0, c1, z0, z1⟩ := HV1.out.below hS3 (cell_lt HV1.out.c0)))
      all_goals
        have HBY : Hid (Below wr.heap.size wr _) := hS3
        go_wp2_with fail
        go_roundw
        case rel =>
          have hvy := HV1.out.below HBY.out (cell_lt HV1.out.c0)
          have hzy := HV0.out.below HBY.out (cell_lt HV0.out.c0)
          refine ⟨i + 1, HLT.out, by simp, keep_store (below_trans HBR.out HBY.out) _ (Nat.le_succ _) _ _, (hzy.other (by simp) _).other (by simp) _, ?_⟩
          rw [HMN.out]
          exact hvy.set _ _
        case measure => simp [intOf]; omega
    · obtain ⟨c0, c1, _, _⟩ := HV1.out
      obtain ⟨e0, e1, x0, x1⟩ := HV0.out
      have HE : Hid (gathV k noV l = V) := by show _ = _; rw [HVE.out, List.take_of_length_le (by have := HN.out; omega)]
      go_wp2_with fail
      refine bodyPost_ret (v := .agg #[.bool V.h, .int .u64 V.b]) (by simp [results, Tryd.results20, go_sem, e0, e1]) rfl ⟨by rw [HE.out], ?_⟩
      exact keep_store HBR.out _ (Nat.le_refl _) _ _
end Go.Proofs.YtomjofhjmghdfaaDoor
