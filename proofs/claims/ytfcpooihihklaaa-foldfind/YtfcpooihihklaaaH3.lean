/- The walk of FoldFind. -/
import Derived.Test.YtfcpooihihklaaaKn
namespace Go.Proofs.Ytfcpooihihklaaa
open Ieee Go.RowKit

set_option maxRecDepth 100000 in
set_option maxHeartbeats 4000000 in
theorem foldfind_walk {v : Value} {l : List Pr} {w : World} (hv : Qv w v l) (hsz : l.length ≤ 11728124029610) (k : Nat) :
    Calls Try.prog 4 #[v, .int .u64 k] w fun e w' => e = .returned (.bool true) ∧ Below w.heap.size w w' := by
  have HLM : Hid (l.length ≤ maxLen) := hv.len
  obtain ⟨⟨ao, cap, rfl, _, _, _, h4⟩, _⟩ := hv
  have HQ : Hid (Ql w ao l) := h4
  have hli : (l.length : Int) ≤ 11728124029610 := by omega
  have hgv := guard_val
  clear h4
  go_enter Try.func4, Try.ntmps4
  go_wp2_with fail
  refine (awake_walk _).mono ?_
  rintro e w1 ⟨rfl, hB1⟩
  have HB1 : Hid (Below w.heap.size w w1) := hB1
  clear hB1
  go_wp2_with fail
  refine (keys_walk hsz (HQ.out.below HB1.out)).mono ?_
  rintro e w2 ⟨v2, rfl, hK2, hB2⟩
  have HB2 : Hid (Below w.heap.size w w2) := below_trans HB1.out hB2
  obtain ⟨ko, kc, hkv, _, _, _, hS2⟩ := own_sv hK2
  subst hkv
  have HS2 : Hid (Sl .u64 w2 ko (keyL l)) := hS2
  rw [keyL_len]
  clear hK2 hB2 hS2
  go_wp2_with fail
  refine (rkeys_walk hsz (HQ.out.below HB2.out)).mono ?_
  rintro e w3 ⟨v3, rfl, hK3, hB3⟩
  have HB3 : Hid (Below w.heap.size w w3) := below_trans HB2.out hB3
  have HS23 : Hid (Sl .u64 w3 ko (keyL l)) := HS2.out.below hB3
  obtain ⟨qo, qc, hqv, _, _, _, hS3⟩ := own_sv hK3
  subst hqv
  have HS3 : Hid (Sl .u64 w3 qo (keyL l)) := hS3
  have HKM : Hid ((keyL l).length ≤ maxLen) := by show _ ≤ _; rw [keyL_len]; exact HLM.out
  clear hK3 hB3 hS3
  rw [keyL_len]
  go_wp2_with fail
  have hlk := lkeys_walk (ca := kc) (cb := qc) HKM.out HS23.out HS3.out
  rw [keyL_len] at hlk
  refine hlk.mono ?_
  rintro e w4 ⟨rfl, hB4⟩
  have HB4 : Hid (Below w.heap.size w w4) := below_trans HB3.out hB4
  clear hB4 hlk
  go_wp2_with fail
  refine (find_walk HLM.out (HQ.out.below HB4.out) k).mono ?_
  rintro e w5 ⟨rfl, hB5⟩
  have HB5 : Hid (Below w.heap.size w w5) := below_trans HB4.out hB5
  clear hB5
  go_wp2_with fail
  refine (rfind_walk HLM.out (HQ.out.below HB5.out) k).mono ?_
  rintro e w6 ⟨rfl, hB6⟩
  have HB6 : Hid (Below w.heap.size w w6) := below_trans HB5.out hB6
  clear hB6
  have hn1 := neq_val (getT k l)
  go_wp2_with fail
  go_loopw [5] (fun iv wr => ∃ i : Nat, i ≤ l.length ∧ iv = .int .i64 i ∧ Below w.heap.size w wr) (fun iv _ => l.length - (intOf iv).toNat)
  case atStart => exact ⟨0, Nat.zero_le _, rfl, HB6.out⟩
  case round =>
    obtain ⟨i, hi, rfl, hB⟩ := hrel
    have HW : Hid (Below w.heap.size w wr) := hB
    clear hB hn1
    by_cases hlt : i < l.length
    · by_cases h256 : (i : Int) < 256
      · obtain ⟨b, off, rfl, c0, c1, c2⟩ := HQ.out.below HW.out i hlt
        obtain ⟨o, hoe⟩ : ∃ o, o = l[i] := ⟨_, rfl⟩
        rw [← hoe] at c0 c1 c2
        have HC0 : Hid (wr.cell? ⟨b, off + i * 3, none⟩ = some (.int .u64 o.k)) := c0
        clear hoe c0 c1 c2
        have k0 : ∀ wx, Below wr.heap.size wr wx → wx.cell? ⟨b, off + i * 3, none⟩ = some (.int .u64 o.k) := fun wx h => by rw [h.cell (p := ⟨b, off + i * 3, none⟩) (cell_lt HC0.out)]; exact HC0.out
        have hn2 := neq_val (getT o.k l)
        have hil : (i : Int) < (l.length : Int) := by omega
        go_wp2_with fail
        go_cut [49] (fun f wx => f = .bool false ∧ Below wr.heap.size wr wx)
        case first =>
          go_region_held3 (fun wx => Below wr.heap.size wr wx) (first | assumption | exact (Below.refl _ _).drew)
            (first
              | (go_at_call 17; refine (find_walk HLM.out (HQ.out.below (below_trans HW.out (by assumption))) o.k).mono ?_; rintro e w9 ⟨rfl, hB9⟩; have hS9 : Below wr.heap.size wr w9 := below_trans (by assumption) hB9)
              | (go_at_call 18; refine (rfind_walk HLM.out (HQ.out.below (below_trans HW.out (by assumption))) o.k).mono ?_; rintro e w9 ⟨rfl, hB9⟩; have hS9 : Below wr.heap.size wr w9 := below_trans (by assumption) hB9))
          all_goals go_wp2_with fail
          all_goals go_meet
          all_goals exact ⟨rfl, by assumption⟩
        case rest =>
          obtain ⟨rfl, hBc⟩ := hcut
          have R' : Below w.heap.size w wc := below_trans HW.out hBc
          clear hBc
          go_wp2_with fail
          go_roundw
          case rel => exact ⟨i + 1, by omega, by go_num, R'⟩
          case measure => simp [intOf]; omega
      · have hil : (i : Int) < (l.length : Int) := by omega
        go_wp2_with fail
        go_ret
        exact ⟨rfl, HW.out⟩
    · have hil : ¬ ((i : Int) < (l.length : Int)) := by omega
      go_wp2_with fail
      go_ret
      exact ⟨rfl, HW.out⟩
end Go.Proofs.Ytfcpooihihklaaa
