/- The walk of OpsRun. -/
import Derived.Test.YtkpfjoklbindjaaXv
import Derived.Test.YtkpfjoklbindjaaXz
namespace Go.Proofs.Ytkpfjoklbindjaa
open Ieee Go.RowKit
attribute [local go_sem] run_store_float

theorem sameB_self (a : Rcd) : sameB a a = true := by simp [sameB]
/-- A loop that only goes on: where it is, the world since. -/
def Onw (w0 : World) (n : Nat) (iv : Value) (wr : World) : Prop := ∃ k : Nat, k ≤ n ∧ iv = .int .i64 k ∧ Below w0.heap.size w0 wr
theorem onw_step {w0 wr : World} {n k : Nat} (hk : k < n) (hB : Below w0.heap.size w0 wr) : Onw w0 n (.int .i64 ((k : Int) + 1)) wr := ⟨k + 1, hk, by simp, hB⟩
theorem rb_new (w : World) (k x : Nat) (t : TypeId) : RB (w.alloc (Obj.cells #[.int .u64 k, .float .f64 x] t)) w.heap.size k x := by
  refine ⟨?_, ?_, ?_, ?_⟩ <;> simp [go_sem]

set_option maxRecDepth 100000 in
theorem opsrun_walk {v u : Value} {l : List Stp} {rs : List Rcd} {w : World} (ho : Ov w v l) (hr : Rv w u rs) :
    Calls Try.prog 4 #[v, u] w fun e w' => e = .returned (.bool true) ∧ Below w.heap.size w w' := by
  obtain ⟨⟨ao, cap, rfl, h1, h2, h3, h4⟩, h5⟩ := hr
  have hli : (rs.length : Int) ≤ 9223372036854775807 := by simp only [maxLen] at h2; omega
  have HV : Hid (Ov w v l) := ho
  have HO : Hid (Rl w ao rs) := h4
  have HK : Hid (∀ r ∈ rs, r.ok) := h5
  clear h1 h2 h3 h4 h5 ho
  go_enter Try.func4, Try.ntmps4
  go_wp2_with fail
  refine (awake_walk _).mono ?_
  rintro e w1 ⟨rfl, hB⟩
  have HB1 : Hid (Below w.heap.size w w1) := hB
  clear hB
  go_wp2_with fail
  go_loopw [5] (fun iv wr => Onw w rs.length iv wr) (fun iv _ => rs.length - (intOf iv).toNat)
  case atStart => exact ⟨0, Nat.zero_le _, rfl, HB1.out⟩
  case round =>
    clear HB1
    obtain ⟨k, hk, rfl, hB⟩ := hrel
    have HB : Hid (Below w.heap.size w wr) := hB
    clear hB
    by_cases hlt : k < rs.length
    · obtain ⟨b, off, rfl, c0, c1⟩ := HO.out.below HB.out k hlt
      obtain ⟨r, hre⟩ : ∃ r, r = rs[k] := ⟨_, rfl⟩
      rw [← hre] at c0 c1
      have HR : Hid r.ok := by show r.ok; rw [hre]; exact HK.out _ (List.getElem_mem hlt)
      clear hre
      obtain ⟨R, hRe⟩ : ∃ R, R = runS l r := ⟨_, rfl⟩
      have HE : Hid (R = runS l r) := hRe
      have e1 : ((R.2.k : Int) != (R.2.k : Int)) = false := by simp
      clear hRe
      go_wp2_with fail
      refine (run_walk r HR.out (HV.out.below HB.out)).mono ?_
      rw [← HE.out]
      rintro e w2 ⟨rfl, hB⟩
      have HB2 : Hid (Below wr.heap.size wr w2) := hB
      have q0 : ∀ x : Obj, (w2.alloc x).cell? ⟨b, off + k * 2, none⟩ = some (.int .u64 r.k) := fun x => by rw [(below_trans HB2.out (below_alloc _ _)).cell (p := ⟨b, off + k * 2, none⟩) (cell_lt c0)]; exact c0
      have q1 : ∀ x : Obj, (w2.alloc x).cell? ⟨b, off + k * 2 + 1, none⟩ = some (.float .f64 r.x) := fun x => by rw [(below_trans HB2.out (below_alloc _ _)).cell (p := ⟨b, off + k * 2 + 1, none⟩) (cell_lt c1)]; exact c1
      clear hB
      go_wp2_with fail
      generalize hg : w2.alloc (Obj.cells #[Value.int IntKind.u64 R.2.k, Value.float FloatKind.f64 R.2.x] 31) = w3
      have HR3 : Hid (RB w3 w2.heap.size R.2.k R.2.x) := by show RB _ _ _ _; rw [← hg]; exact rb_new _ _ _ _
      have HB3 : Hid (Below wr.heap.size wr w3) := by show Below _ _ _; rw [← hg]; exact below_trans HB2.out (below_alloc _ _)
      clear hg q0 q1
      refine (rrun_walk r HR.out (HV.out.below (below_trans HB.out HB3.out))).mono ?_
      rw [← HE.out]
      rintro e w4 ⟨rfl, hB⟩
      have HB4 : Hid (Below wr.heap.size wr w4) := below_trans HB3.out hB
      have HR4 : Hid (RB w4 w2.heap.size R.2.k R.2.x) := HR3.out.below hB (cell_lt HR3.out.c0)
      have q0 : ∀ x : Obj, (w4.alloc x).cell? ⟨b, off + k * 2, none⟩ = some (.int .u64 r.k) := fun x => by rw [(below_trans HB4.out (below_alloc _ _)).cell (p := ⟨b, off + k * 2, none⟩) (cell_lt c0)]; exact c0
      have q1 : ∀ x : Obj, (w4.alloc x).cell? ⟨b, off + k * 2 + 1, none⟩ = some (.float .f64 r.x) := fun x => by rw [(below_trans HB4.out (below_alloc _ _)).cell (p := ⟨b, off + k * 2 + 1, none⟩) (cell_lt c1)]; exact c1
      clear hB
      go_wp2_with fail
      generalize hg : w4.alloc (Obj.cells #[Value.int IntKind.u64 R.2.k, Value.float FloatKind.f64 R.2.x] 31) = w5
      have HR5 : Hid (RB w5 w2.heap.size R.2.k R.2.x) := by show RB _ _ _ _; rw [← hg]; exact HR4.out.alloc _
      have HT5 : Hid (RB w5 w4.heap.size R.2.k R.2.x) := by show RB _ _ _ _; rw [← hg]; exact rb_new _ _ _ _
      have HB5 : Hid (Below wr.heap.size wr w5) := by show Below _ _ _; rw [← hg]; exact below_trans HB4.out (below_alloc _ _)
      clear hg q0 q1
      refine (key_walk r HR.out (HV.out.below (below_trans HB.out HB5.out))).mono ?_
      rw [← HE.out]
      rintro e w6 ⟨rfl, hB⟩
      have HB6 : Hid (Below wr.heap.size wr w6) := below_trans HB5.out hB
      have HR6 : Hid (RB w6 w2.heap.size R.2.k R.2.x) := HR5.out.below hB (cell_lt HR5.out.c0)
      have HT6 : Hid (RB w6 w4.heap.size R.2.k R.2.x) := HT5.out.below hB (cell_lt HT5.out.c0)
      have q0 : w6.cell? ⟨b, off + k * 2, none⟩ = some (.int .u64 r.k) := by rw [HB6.out.cell (p := ⟨b, off + k * 2, none⟩) (cell_lt c0)]; exact c0
      have q1 : w6.cell? ⟨b, off + k * 2 + 1, none⟩ = some (.float .f64 r.x) := by rw [HB6.out.cell (p := ⟨b, off + k * 2 + 1, none⟩) (cell_lt c1)]; exact c1
      clear hB
      go_wp2_with fail
      refine (rkey_walk r HR.out (HV.out.below (below_trans HB.out HB6.out))).mono ?_
      rw [← HE.out]
      rintro e w7 ⟨rfl, hB⟩
      have HB7 : Hid (Below wr.heap.size wr w7) := below_trans HB6.out hB
      obtain ⟨s0, s1, _, _⟩ := HR6.out.below hB (cell_lt HR6.out.c0)
      obtain ⟨t0, t1, _, _⟩ := HT6.out.below hB (cell_lt HT6.out.c0)
      clear hB
      go_wp2_with fail
      refine (same_walk R.2 R.2 _).mono ?_
      rw [sameB_self]
      rintro e w8 ⟨rfl, hB⟩
      have HB8 : Hid (Below w.heap.size w w8) := below_trans HB.out (below_trans HB7.out hB)
      clear hB
      go_wp2_with fail
      go_roundw
      case rel => exact onw_step hlt HB8.out
      case measure => simp [intOf]; omega
    · go_wp2_with fail
      go_ret
      exact ⟨rfl, HB.out⟩
end Go.Proofs.Ytkpfjoklbindjaa
