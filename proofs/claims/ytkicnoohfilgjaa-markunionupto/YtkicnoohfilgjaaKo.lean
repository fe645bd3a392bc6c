/- Contracts of repriselaw12's keys, same and awake. -/
import Derived.Test.YtkicnoohfilgjaaKm

import Derived.Test.YtkicnoohfilgjaaKi

import Derived.Test.YtkicnoohfilgjaaKl

namespace Go.Proofs.Ytkicnoohfilgjaa

open Go.RowKit



set_option maxRecDepth 100000 in
set_option maxHeartbeats 2000000 in
theorem eqk_some (l : List Nat) (b off cap b2 off2 cap2 : Nat) (w : World) (hl : l.length ≤ cap) (hcap : cap ≤ maxLen) (hc : ∀ i, (hi : i < l.length) → w.cell? ⟨b, off + i, none⟩ = some (.int .u64 (l[i] : Nat))) (hd : ∀ i, (hi : i < l.length) → w.cell? ⟨b2, off2 + i, none⟩ = some (.int .u64 (l[i] : Nat))) :
    Calls Try.prog 11 #[.slice (some ⟨b, off, none⟩) l.length cap, .slice (some ⟨b2, off2, none⟩) l.length cap2] w fun e w' => e = .returned (.bool true) ∧ Below w.heap.size w w' := by
  unfold maxLen at hcap
  have hli : (l.length : Int) ≤ 9223372036854775807 := by omega
  have HC : Hid (∀ i, (hi : i < l.length) → w.cell? ⟨b, off + i, none⟩ = some (.int .u64 (l[i] : Nat))) := hc
  have HD : Hid (∀ i, (hi : i < l.length) → w.cell? ⟨b2, off2 + i, none⟩ = some (.int .u64 (l[i] : Nat))) := hd
  clear hc hd hcap hl
  go_enter Try.func11, Try.ntmps11
  go_wp2_with fail
  go_loopw [5] (fun iv wr => ∃ i : Nat, iv = .int .i64 i ∧ i ≤ l.length ∧ Below w.heap.size w wr) (fun iv _ => l.length - (intOf iv).toNat)
  case atStart => exact ⟨0, rfl, by omega, Below.refl _ _⟩
  case round =>
    obtain ⟨i, rfl, hil, hbel⟩ := hrel
    have HB : Hid (Below w.heap.size w wr) := hbel
    clear hbel
    by_cases hlt : i < l.length
    · have hA := HC.out i hlt
      have hD := HD.out i hlt
      have hA2 : wr.cell? ⟨b, off + i, none⟩ = some (.int .u64 (l[i] : Nat)) := by rw [HB.out.cell (p := ⟨b, off + i, none⟩) (cell_lt hA)]; exact hA
      have hD2 : wr.cell? ⟨b2, off2 + i, none⟩ = some (.int .u64 (l[i] : Nat)) := by rw [HB.out.cell (p := ⟨b2, off2 + i, none⟩) (cell_lt hD)]; exact hD
      obtain ⟨c, hcd⟩ : ∃ c, l[i] = c := ⟨_, rfl⟩
      rw [hcd] at hA2 hD2
      clear hcd hA hD
      have hlti : (i : Int) < (l.length : Int) := by omega
      go_wp2_with fail
      go_quiet (fail)
      have HB2 : Hid (Below w.heap.size w (wr.drewN nq)) := below_trans HB.out (below_drewN _ _)
      go_wp2_with fail
      go_roundw
      case rel => exact ⟨i + 1, by go_num, by omega, HB2.out⟩
      case measure => simp [intOf]; omega
    · have hlti : ¬ (i : Int) < (l.length : Int) := by omega
      go_wp2_with fail
      go_ret
      exact ⟨rfl, HB.out⟩
set_option maxRecDepth 100000 in
theorem eqk_none (ao : Option Addr) (cap : Nat) (a2 : Option Addr) (cap2 : Nat) (w : World) :
    Calls Try.prog 11 #[.slice ao 0 cap, .slice a2 0 cap2] w fun e w' => e = .returned (.bool true) ∧ Below w.heap.size w w' := by
  go_enter Try.func11, Try.ntmps11
  go_wp2_with fail
  refine wp_loop_rounds 1 ?_
  rw [rounds_succ]
  go_wp2_with fail
  go_ret
  exact ⟨rfl, Below.refl _ _⟩
theorem eqk_walk {w : World} {u v : Value} {l : List Nat} (hu : Kv w u l) (hv : Kv w v l) :
    Calls Try.prog 11 #[u, v] w fun e w' => e = .returned (.bool true) ∧ Below w.heap.size w w' := by
  rcases kv_cases hu with ⟨rfl, ao, cap, rfl⟩ | ⟨b, off, cap, rfl, hp, h1, h2, h3⟩
  · rcases kv_cases hv with ⟨_, a2, cap2, rfl⟩ | ⟨b2, off2, cap2, rfl, hp, _⟩
    · exact eqk_none ao cap a2 cap2 w
    · simp at hp
  · rcases kv_cases hv with ⟨h0, _⟩ | ⟨b2, off2, cap2, rfl, _, _, _, h4⟩
    · rw [h0] at hp; simp at hp
    · exact eqk_some l b off cap b2 off2 cap2 w h1 h2 h3 h4


set_option maxRecDepth 100000 in
theorem msame_walk {w : World} {u v : Value} {l : List Nat} (b a : Int) (hu : Kv w u l) (hv : Kv w v l) :
    Calls Try.prog 10 #[.agg #[.int .i64 b, .int .i64 a, u], .agg #[.int .i64 b, .int .i64 a, v]] w fun e w' => e = .returned (.bool true) ∧ Below w.heap.size w w' := by
  have HB : Hid (Below w.heap.size w ((w.alloc (Obj.cells #[.int .i64 b, .int .i64 a, u] 26)).alloc (Obj.cells #[.int .i64 b, .int .i64 a, v] 26))) := below_trans (below_alloc _ _) (below_alloc _ _)
  have HU : Hid (Kv w u l) := hu
  have HV : Hid (Kv w v l) := hv
  obtain ⟨ua, un, uc, rfl⟩ := sv_any hu
  obtain ⟨va, vn, vc, rfl⟩ := sv_any hv
  clear hu hv
  go_enter Try.func10, Try.ntmps10
  go_wp2_with fail
  refine (eqk_walk (HU.out.below HB.out) (HV.out.below HB.out)).mono ?_
  rintro e w2 ⟨rfl, hB2⟩
  have HB2 : Hid (Below w.heap.size w w2) := below_trans HB.out hB2
  clear hB2 HB
  go_wp2_with fail
  go_ret
  exact ⟨rfl, HB2.out⟩
end Go.Proofs.Ytkicnoohfilgjaa


