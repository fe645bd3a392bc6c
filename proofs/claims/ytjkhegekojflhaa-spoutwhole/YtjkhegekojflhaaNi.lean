/- awake: the answers that the document fixes by number. -/
import Derived.Test.YtjkhegekojflhaaNg
import Derived.Test.YtjkhegekojflhaaNh
namespace Go.Proofs.Ytjkhegekojflhaa
open Ieee Go.RowKit

theorem nv_lit (w : World) (e : TypeId) (l : List Int) (hm : l.length ≤ maxLen) (hl : In64 l) :
    Nv (w.alloc (.cells (l.map (Value.int .i64)).toArray e)) (.slice (some ⟨w.heap.size, 0, none⟩) l.length l.length) l := by
  have := World.ownsRow_lit (base := w.heap.size) (e := e) (size := 1) w (l.map (Value.int .i64)).toArray l.length (Nat.le_refl _) hm (by simp)
  exact own_nv (by simpa using this) hl
theorem rv_lit (w : World) (e : TypeId) (l : List Rcd) (hm : l.length ≤ maxLen) (hl : ∀ r ∈ l, r.ok) :
    Rv (w.alloc (.cells (flatR l).toArray e)) (.slice (some ⟨w.heap.size, 0, none⟩) l.length l.length) l := by
  have := World.ownsRow_lit (base := w.heap.size) (e := e) (size := 2) w (flatR l).toArray l.length (Nat.le_refl _) hm (by simp [flatR_len])
  exact own_rv (by simpa using this) hl

theorem own_rl' {w : World} {ao : Option Addr} {n cap : Nat} {l : List Rcd} (h : Rv w (.slice ao n cap) l) : Rl w ao l := by
  obtain ⟨⟨ao', cap', e, _, _, _, h4⟩, _⟩ := h
  cases e
  exact h4

def awF : Fl := ⟨2, [⟨1, 0⟩, ⟨2, 0⟩, ⟨3, 0⟩, ⟨4, 0⟩], [0, 0, 0, 1], []⟩
theorem awF_fI : formI (filS awF) [0, 0] 2 = 0 := by kernel_rfl
theorem awF_fL : formL (filS awF) [0, 0] 2 = [2, 1] := by kernel_rfl
theorem awF_fR : formR (filS awF) [0, 0] 2 = [⟨1, 0⟩, ⟨2, 0⟩, ⟨4, 0⟩] := by kernel_rfl
theorem awF_aI : againI (filS awF) [1, 0] [3, 1] = 0 := by kernel_rfl
theorem awF_aR : againR (filS awF) [1, 0] [3, 1] = [⟨2, 0⟩, ⟨3, 0⟩, ⟨4, 0⟩] := by kernel_rfl
theorem awF_lI : leftI (filS awF) [1, 0] = 0 := by kernel_rfl
theorem awF_lN : leftN (filS awF) [1, 0] = 3 := by kernel_rfl
theorem awF_f : fwdB [1] [2] = true := by kernel_rfl
theorem in64_lit {l : List Int} (h : l.all (fun x => decide (-9223372036854775808 ≤ x ∧ x < 9223372036854775808)) = true) : In64 l := fun x hx => by simpa using List.all_eq_true.1 h x hx
theorem rok_lit {l : List Rcd} (h : l.all (fun r => decide (r.k < 18446744073709551616 ∧ r.x < 18446744073709551616)) = true) : ∀ r ∈ l, r.ok := fun r hr => by simpa [Rcd.ok] using List.all_eq_true.1 h r hr

theorem aw_recs (w : World) (t : TypeId) : Rv (w.alloc (Obj.cells #[.int .u64 1, .float .f64 0, .int .u64 2, .float .f64 0, .int .u64 3, .float .f64 0, .int .u64 4, .float .f64 0] t)) (.slice (some ⟨w.heap.size, 0, none⟩) 4 4) [⟨1, 0⟩, ⟨2, 0⟩, ⟨3, 0⟩, ⟨4, 0⟩] := rv_lit w t [⟨1, 0⟩, ⟨2, 0⟩, ⟨3, 0⟩, ⟨4, 0⟩] (by simp [maxLen]) (rok_lit (by kernel_rfl))
theorem aw_places (w : World) (t : TypeId) : Nv (w.alloc (Obj.cells #[.int .i64 0, .int .i64 0, .int .i64 0, .int .i64 1] t)) (.slice (some ⟨w.heap.size, 0, none⟩) 4 4) [0, 0, 0, 1] := nv_lit w t [0, 0, 0, 1] (by simp [maxLen]) (in64_lit (by kernel_rfl))
theorem aw_two (w : World) (t : TypeId) (a b : Int) (ha : -9223372036854775808 ≤ a ∧ a < 9223372036854775808) (hb : -9223372036854775808 ≤ b ∧ b < 9223372036854775808) : Nv (w.alloc (Obj.cells #[.int .i64 a, .int .i64 b] t)) (.slice (some ⟨w.heap.size, 0, none⟩) 2 2) [a, b] := nv_lit w t [a, b] (by simp [maxLen]) (fun x hx => by simp at hx; rcases hx with rfl | rfl; exact ha; exact hb)
theorem aw_two2 (w : World) (o : Obj) (t : TypeId) (a b : Int) (ha : -9223372036854775808 ≤ a ∧ a < 9223372036854775808) (hb : -9223372036854775808 ≤ b ∧ b < 9223372036854775808) : Nv ((w.alloc o).alloc (Obj.cells #[.int .i64 a, .int .i64 b] t)) (.slice (some ⟨w.heap.size + 1, 0, none⟩) 2 2) [a, b] := by
  have := aw_two (w.alloc o) t a b ha hb
  simpa using this
theorem aw_one2 (w : World) (o : Obj) (t : TypeId) (a : Int) (ha : -9223372036854775808 ≤ a ∧ a < 9223372036854775808) : Nv ((w.alloc o).alloc (Obj.cells #[.int .i64 a] t)) (.slice (some ⟨w.heap.size + 1, 0, none⟩) 1 1) [a] := by
  have := nv_one (w.alloc o) a ha t
  simpa using this
theorem aw_three (w : World) (t : TypeId) (a b c : Nat) (ha : a < 18446744073709551616) (hb : b < 18446744073709551616) (hc : c < 18446744073709551616) : Rl (w.alloc (Obj.cells #[.int .u64 (a : Nat), .float .f64 0, .int .u64 (b : Nat), .float .f64 0, .int .u64 (c : Nat), .float .f64 0] t)) (some ⟨w.heap.size, 0, none⟩) [⟨a, 0⟩, ⟨b, 0⟩, ⟨c, 0⟩] := own_rl' (rv_lit w t [⟨a, 0⟩, ⟨b, 0⟩, ⟨c, 0⟩] (by simp [maxLen]) (fun r hr => by simp at hr; rcases hr with rfl | rfl | rfl <;> exact ⟨by simpa using ‹_›, by simp⟩))
theorem aw_filled (w w1 : World) (t1 t2 : TypeId) (h1 : w1 = (w.alloc (Obj.cells #[.int .u64 1, .float .f64 0, .int .u64 2, .float .f64 0, .int .u64 3, .float .f64 0, .int .u64 4, .float .f64 0] t1)).alloc (Obj.cells #[.int .i64 0, .int .i64 0, .int .i64 0, .int .i64 1] t2)) :
    Calls Try.prog 11 #[.agg #[.int .i64 2, .slice (some ⟨w.heap.size, 0, none⟩) 4 4, .slice (some ⟨w.heap.size + 1, 0, none⟩) 4 4, .slice none 0 0]] w1 fun e w' => ∃ sv tv, e = .returned (.tuple #[sv, tv]) ∧ Fd w1 w' sv tv (filS awF) := by
  have hr : Rv w1 (.slice (some ⟨w.heap.size, 0, none⟩) 4 4) awF.recs := by rw [h1]; exact (aw_recs w t1).below (below_alloc _ _)
  have ha : Nv w1 (.slice (some ⟨w.heap.size + 1, 0, none⟩) 4 4) awF.places := by
    have := aw_places (w.alloc (Obj.cells #[.int .u64 1, .float .f64 0, .int .u64 2, .float .f64 0, .int .u64 3, .float .f64 0, .int .u64 4, .float .f64 0] t1)) t2
    rw [h1]
    simpa [awF] using this
  exact filled_walk (F := awF) (by show (1 : Int) ≤ 2; omega) (by show (2 : Int) ≤ 4; omega) hr ha (Nv.nil _)

set_option maxRecDepth 100000 in
set_option maxHeartbeats 1000000 in
theorem awake_walk (w : World) :
    Calls Try.prog 9 #[] w fun e w' => e = .returned (.bool true) ∧ Below w.heap.size w w' := by
  go_enter Try.func9, Try.ntmps9
  go_wp2_with fail
  refine (aw_filled w _ _ _ rfl).mono ?_
  rintro e w1 ⟨sv, tv, rfl, hF⟩
  have HB1 : Hid (Below w.heap.size w w1) := below_trans (below_trans (below_alloc _ _) (below_alloc _ _)) hF.world
  obtain ⟨Ds, hS, _⟩ := hF.src
  have HS1 : Hid (Src Ds w1 sv (filS awF)) := hS
  obtain ⟨sb, tb, rfl, rfl⟩ := hF.form
  clear hF hS
  go_wp2_with fail
  refine (form_walk (a := [0, 0]) (m := 2) (HS1.out.below (below_alloc _ _)) (aw_two w1 _ 0 0 (by omega) (by omega))).mono ?_
  rintro e w2 ⟨t1, r1, he, ht, hr, _, hB⟩
  rw [awF_fI] at he
  rw [awF_fL] at ht
  rw [awF_fR] at hr
  subst he
  have HB2 : Hid (Below w1.heap.size w1 w2) := below_trans (below_alloc _ _) hB
  have HT2 : Hid (Nv w2 t1 [2, 1]) := own_nv ht (in64_lit (by kernel_rfl))
  have HR2 : Hid (Rv w2 r1 [⟨1, 0⟩, ⟨2, 0⟩, ⟨4, 0⟩]) := own_rv hr (rok_lit (by kernel_rfl))
  have HS2 : Hid (Src Ds w2 (.pointer (some ⟨sb, 0, none⟩)) (filS awF)) := HS1.out.below HB2.out
  clear ht hr hB
  go_wp2_with fail
  refine (again_walk (a := [1, 0]) (b := [3, 1]) (HS2.out.below (below_trans (below_alloc _ _) (below_alloc _ _))) ((aw_two w2 _ 1 0 (by omega) (by omega)).below (below_alloc _ _)) (aw_two2 w2 _ _ 3 1 (by omega) (by omega))).mono ?_
  rw [awF_aI, awF_aR]
  rintro e w3 ⟨r2, rfl, hr, hB⟩
  have HB3 : Hid (Below w2.heap.size w2 w3) := below_trans (below_trans (below_alloc _ _) (below_alloc _ _)) hB
  have HR3 : Hid (Rv w3 r2 [⟨2, 0⟩, ⟨3, 0⟩, ⟨4, 0⟩]) := own_rv hr (rok_lit (by kernel_rfl))
  have HS3 : Hid (Src Ds w3 (.pointer (some ⟨sb, 0, none⟩)) (filS awF)) := HS2.out.below HB3.out
  clear hr hB
  go_wp2_with fail
  refine (left_walk (l := [1, 0]) (HS3.out.below (below_alloc _ _)) (aw_two w3 _ 1 0 (by omega) (by omega))).mono ?_
  rw [awF_lI, awF_lN]
  rintro e w4 ⟨rfl, hB⟩
  have HB4 : Hid (Below w3.heap.size w3 w4) := below_trans (below_alloc _ _) hB
  clear hB
  go_wp2_with fail
  refine (ints_walk (a := [2, 1]) (b := [2, 1]) (HT2.out.below (below_trans (below_trans HB3.out HB4.out) (below_alloc _ _))) (aw_two w4 _ 2 1 (by omega) (by omega))).mono ?_
  rw [show decide (([2, 1] : List Int) = [2, 1]) = true from by kernel_rfl]
  rintro e w5 ⟨rfl, hB⟩
  have HB5 : Hid (Below w4.heap.size w4 w5) := below_trans (below_alloc _ _) hB
  clear hB
  obtain ⟨ro, rc, hr1, _, _, _, hrl⟩ := (HR2.out.below (below_trans (below_trans HB3.out HB4.out) HB5.out)).1
  subst hr1
  have HR5 : Hid (Rl w5 ro [⟨1, 0⟩, ⟨2, 0⟩, ⟨4, 0⟩]) := hrl
  clear hrl
  go_wp2_with fail
  refine (lrecs_walk (l := [⟨1, 0⟩, ⟨2, 0⟩, ⟨4, 0⟩]) (by simp) (HR5.out.below (below_alloc _ _)) (aw_three w5 _ 1 2 4 (by omega) (by omega) (by omega))).mono ?_
  rintro e w6 ⟨rfl, hB⟩
  have HB6 : Hid (Below w5.heap.size w5 w6) := below_trans (below_alloc _ _) hB
  clear hB
  obtain ⟨so, sc, hr2, _, _, _, hsl⟩ := (HR3.out.below (below_trans (below_trans HB4.out HB5.out) HB6.out)).1
  subst hr2
  have HR6 : Hid (Rl w6 so [⟨2, 0⟩, ⟨3, 0⟩, ⟨4, 0⟩]) := hsl
  clear hsl
  go_wp2_with fail
  refine (lrecs_walk (l := [⟨2, 0⟩, ⟨3, 0⟩, ⟨4, 0⟩]) (by simp) (HR6.out.below (below_alloc _ _)) (aw_three w6 _ 2 3 4 (by omega) (by omega) (by omega))).mono ?_
  rintro e w7 ⟨rfl, hB⟩
  have HB7 : Hid (Below w6.heap.size w6 w7) := below_trans (below_alloc _ _) hB
  clear hB
  go_wp2_with fail
  refine (fwd_walk (a := [1]) (b := [2]) ((nv_one w7 1 (by omega) _).below (below_alloc _ _)) (aw_one2 w7 _ _ 2 (by omega))).mono ?_
  rw [awF_f]
  rintro e w8 ⟨rfl, hB⟩
  have HB8 : Hid (Below w7.heap.size w7 w8) := below_trans (below_trans (below_alloc _ _) (below_alloc _ _)) hB
  clear hB
  go_wp2_with fail
  go_ret
  exact ⟨rfl, below_trans (below_trans (below_trans (below_trans (below_trans (below_trans (below_trans HB1.out HB2.out) HB3.out) HB4.out) HB5.out) HB6.out) HB7.out) HB8.out⟩
end Go.Proofs.Ytjkhegekojflhaa
