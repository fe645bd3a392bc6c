/- The reference's Find and Keys. -/
import Derived.Test.YtfcpooihihklaaaKl
namespace Go.Proofs.Ytfcpooihihklaaa
open Ieee Go.RowKit

set_option maxHeartbeats 1000000 in
theorem rfind_walk {ao : Option Addr} {ca : Nat} {l : List Pr} {w : World} (hl : l.length ≤ maxLen) (ha : Ql w ao l) (k : Nat) :
    Calls Try.prog 18 #[.slice ao l.length ca, .int .u64 k] w fun e w' => e = .returned (.agg #[.bool (getT k l).h, .int .u64 (getT k l).b]) ∧ Below w.heap.size w w' := by
  have hli : (l.length : Int) ≤ 9223372036854775807 := by simp only [maxLen] at hl; omega
  have HA : Hid (Ql w ao l) := ha
  clear ha hl
  go_enter Try.func18, Try.ntmps18
  go_wp2_with fail
  generalize hg : w.alloc (Obj.cells #[Value.bool false, Value.int IntKind.u64 0] 35) = w0
  have hV0 : VB w0 w.heap.size noV := by rw [← hg]; constructor <;> simp [go_sem, noV]
  have hB0 : Below w.heap.size w w0 := by rw [← hg]; exact below_alloc _ _
  have R0 : Fr w l k (.int .i64 0) w0 := ⟨0, Nat.zero_le _, rfl, fun j hj h => by omega, hV0, hB0⟩
  clear hg hV0 hB0
  go_loopw [5] (fun iv wr => Fr w l k iv wr) (fun iv _ => l.length - (intOf iv).toNat)
  case atStart => exact R0
  case round =>
    clear R0
    obtain ⟨i, hi, rfl, hno, hV, hB⟩ := hrel
    have HN : Hid (∀ j, (hj : j < l.length) → j < i → l[j].k ≠ k) := hno
    have HV : Hid (VB wr w.heap.size noV) := hV
    have HW : Hid (Below w.heap.size w wr) := hB
    clear hB hV hno
    by_cases hlt : i < l.length
    · obtain ⟨b, off, rfl, c0, c1, c2⟩ := HA.out.below HW.out i hlt
      obtain ⟨o, hoe⟩ : ∃ o, o = l[i] := ⟨_, rfl⟩
      rw [← hoe] at c0 c1 c2
      have HE : Hid (o = l[i]) := hoe
      clear hoe
      by_cases hk : o.k = k
      · have hkb : ((o.k : Int) == (k : Int)) = true := by simp; omega
        have HK : Hid (o.k = k) := hk
        clear hk
        obtain ⟨v0, v1, _, _⟩ := HV.out
        go_wp2_with fail
        have e : getT k l = o.v := by rw [get_at hlt HN.out (by rw [← HE.out]; exact HK.out), HE.out]
        rw [e]
        refine bodyPost_ret (v := .agg #[.bool o.v.h, .int .u64 o.v.b]) (by simp [results, Try.results18, go_sem, v0, v1]) rfl ⟨rfl, ?_⟩
        exact (HW.out.setCell (p := ⟨w.heap.size, 0, none⟩) (by simp) _).setCell (p := ⟨w.heap.size, 1, none⟩) (by simp) _
      · have hkb : ((o.k : Int) == (k : Int)) = false := by simp; omega
        have R' := fr_step hlt HN.out (by rw [← HE.out]; exact hk) HV.out HW.out (below_same wr)
        clear hk
        go_wp2_with fail
        go_roundw
        case rel => exact R'
        case measure => simp [intOf]; omega
    · obtain ⟨v0, v1, _, _⟩ := HV.out
      have e : getT k l = noV := get_none fun p hp => by
        obtain ⟨j, hj, rfl⟩ := List.getElem_of_mem hp
        exact HN.out j hj (by omega)
      go_wp2_with fail
      rw [e]
      refine bodyPost_ret (v := .agg #[.bool false, .int .u64 0]) (by simp [results, Try.results18, go_sem, v0, v1]) rfl ⟨rfl, ?_⟩
      exact (HW.out.setCell (p := ⟨w.heap.size, 0, none⟩) (by simp) _).setCell (p := ⟨w.heap.size, 1, none⟩) (by simp) _

set_option maxRecDepth 100000 in
set_option maxHeartbeats 2000000 in
theorem rkeys_walk {ao : Option Addr} {ca : Nat} {l : List Pr} {w : World} (hl : l.length ≤ 11728124029610) (ha : Ql w ao l) :
    Calls Try.prog 16 #[.slice ao l.length ca] w fun e w' => ∃ v, e = .returned v ∧ w'.ownsRow w.heap.size 30 1 v l.length ((keyL l).map (Value.int .u64)) ∧ Below w.heap.size w w' := by
  have hli : (l.length : Int) ≤ 11728124029610 := by omega
  have HA : Hid (Ql w ao l) := ha
  clear ha hl
  go_enter Try.func16, Try.ntmps16
  go_wp2_with fail
  have R0 : Ky w l (.slice (some ⟨w.heap.size, 0, none⟩) 0 0) (.int .i64 0) (w.alloc (Obj.cells #[] 30)) :=
    ⟨0, Nat.zero_le _, rfl, by simpa [keyL] using World.ownsRow_lit (base := w.heap.size) (e := 30) (size := 1) w #[] 0 (Nat.le_refl _) (by simp [maxLen]) (by simp), below_alloc _ _⟩
  go_loopw [3, 4] (fun v iv wr => Ky w l v iv wr) (fun _ iv _ => l.length - (intOf iv).toNat)
  case atStart => exact R0
  case round =>
    clear R0
    obtain ⟨i, hi, rfl, hown, hB⟩ := hrel
    have HOW : Hid (wr.ownsRow w.heap.size 30 1 u3 i ((keyL (l.take i)).map (Value.int .u64))) := hown
    have HB : Hid (Below w.heap.size w wr) := hB
    clear hown hB
    by_cases hlt : i < l.length
    · obtain ⟨b, off, rfl, c0, c1, c2⟩ := HA.out.below HB.out i hlt
      obtain ⟨p, hpe⟩ : ∃ p, p = l[i] := ⟨_, rfl⟩
      rw [← hpe] at c0 c1 c2
      have HE : Hid (p = l[i]) := hpe
      clear hpe
      go_wp2_with (at_builtin; refine wpList_append_sv (by rfl) _ _ 32 (by rfl) w.heap.size 30 .u64 8 Try.underlying32 info_u64 _ _ _ (by rfl) (HOW.out.alloc _) _ [(p.k : Int)] (by rfl) (sv_one .u64 _ _ _) (by simp [maxLen]; omega) (by simp; omega) (by have := HB.out.size; simp; omega) ?_; intro v' w4 hown' hgrow)
      have R' := ky_step hlt HE.out HB.out (below_alloc wr (Obj.cells #[.int .u64 p.k] 30)) (HOW.out.alloc _) hgrow hown'
      clear hown' hgrow
      go_wp2_with fail
      go_roundw
      case rel => exact R'
      case measure => simp [intOf]; omega
    · have e : i = l.length := by omega
      have HEND : Hid (wr.ownsRow w.heap.size 30 1 u3 l.length ((keyL l).map (Value.int .u64))) := by
        have := HOW.out
        rw [e, List.take_length] at this
        exact this
      clear e
      go_wp2_with fail
      go_ret
      exact ⟨_, rfl, HEND.out, HB.out⟩
end Go.Proofs.Ytfcpooihihklaaa
