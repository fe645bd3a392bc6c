/- The reference's Keys. -/
import Derived.Test.YtombjgfajbhbbaaGreatB19
set_option maxRecDepth 100000
set_option maxHeartbeats 16000000
namespace Go.Proofs.YtombjgfajbhbbaaGreat
open Go.RowKit
section
open Ieee Go.RowKit

attribute [local go_sem] run_store_float
set_option linter.unusedSimpArgs false in
theorem rone_bad (o : Stp) (r : Rcd) (hb : isB o = false) (w : World) :
  Calls Tryz.prog 111 #[.agg #[.int .i64 o.K, .int .i64 o.N, .float .f64 o.X], .agg #[.int .u64 r.k, .float .f64 r.x]] w fun e w' =>
   e = .returned (.tuple #[.agg #[.int .u64 0, .float .f64 0], .int .i64 0]) ∧ Below w.heap.size w w' := by
 have HI : Hid (isB o = false) := hb;clear hb;go_in;go_wp2_with fail;generalize hw1 : ((w.alloc (Obj.cells #[Value.int IntKind.i64 o.K, Value.int IntKind.i64 o.N, Value.float FloatKind.f64 o.X] 80)).alloc (Obj.cells #[Value.int IntKind.u64 r.k, Value.float FloatKind.f64 r.x] 43)).alloc (Obj.cells #[Value.int IntKind.u64 0, Value.float FloatKind.f64 0] 43) = w1;obtain ⟨HS, HB, _, _, _, R1, R2⟩ := step_start hw1;clear hw1;refine (rstep_walk o _).mono ?_;rw [HI.out];rintro e w2 ⟨rfl, hB⟩;obtain ⟨d0, d1, y0, y1⟩ := R2.below hB (cell_lt R2.c0);have HB2 := hidH (below_trans HB.out hB);clear hB R1 R2;go_wp2_with fail;refine bodyPost_ret (v := .tuple #[.agg #[.int .u64 0, .float .f64 0], .int .i64 0]) (by simp [results, Tryz.results111, go_sem, d0, d1, y0, y1]) rfl ⟨rfl, ?_⟩;exact (HB2.out.setCell (p := ⟨w.heap.size + 1 + 1, 0, none⟩) (by simp only; omega) _).setCell (p := ⟨w.heap.size + 1 + 1, 1, none⟩) (by simp only; omega) _
theorem one_stop' {o : Stp} {r : Rcd} {f : Int} (hb : isB o = true) (hf : fateI o (canonW r.x) = f) (h1 : ¬ f = 1) : oneS o r = (f, ⟨0, 0⟩) := by
 rw [one_stop hb (by rw [hf]; exact h1), hf]
theorem rone_walk (o : Stp) (r : Rcd) (ho : o.ok) (hr : r.ok) (w : World) :
  Calls Tryz.prog 111 #[.agg #[.int .i64 o.K, .int .i64 o.N, .float .f64 o.X], .agg #[.int .u64 r.k, .float .f64 r.x]] w fun e w' =>
   e = .returned (.tuple #[.agg #[.int .u64 (oneS o r).2.k, .float .f64 (oneS o r).2.x], .int .i64 (oneS o r).1]) ∧ Below w.heap.size w w' := by
 cases hb : isB o
 ·rw [show oneS o r = (0, ⟨0, 0⟩) by unfold oneS runS; rw [if_neg (by simp [checkB, hb])]; rfl];exact rone_bad o r hb w
 have hk := isB_kind hb;obtain ⟨K, N, X⟩ := o;obtain ⟨k, x⟩ := r;obtain ⟨_, ⟨_, hN⟩, _⟩ := ho;obtain ⟨_, hx⟩ := hr;simp only at *;rcases hk with rfl | rfl | rfl | rfl | rfl | rfl | ⟨rfl, _⟩ | rfl | rfl | rfl | ⟨rfl, h1⟩ | rfl
 ·cases h : ltB (canonW x) X
  ·rw [one_stop' (o := ⟨1, N, X⟩) (r := ⟨k, x⟩) (f := 2) hb (by simp [fateI, h]) (by decide)];exact rone_1_drop N X k hx hb h w
  ·rw [one_keep (o := ⟨1, N, X⟩) (r := ⟨k, x⟩) hb (by simp [fateI, h]), show nextR ⟨1, N, X⟩ (canR ⟨k, x⟩) = ⟨k, canonW x⟩ by simp [nextR, canR]];exact rone_1_keep N X k hx hb h w
 ·cases h : gtB (canonW x) X
  ·rw [one_stop' (o := ⟨2, N, X⟩) (r := ⟨k, x⟩) (f := 2) hb (by simp [fateI, h]) (by decide)];exact rone_2_drop N X k hx hb h w
  ·rw [one_keep (o := ⟨2, N, X⟩) (r := ⟨k, x⟩) hb (by simp [fateI, h]), show nextR ⟨2, N, X⟩ (canR ⟨k, x⟩) = ⟨k, canonW x⟩ by simp [nextR, canR]];exact rone_2_keep N X k hx hb h w
 ·cases h : nanB x
  ·rw [one_keep (o := ⟨3, N, X⟩) (r := ⟨k, x⟩) hb (by simp [fateI, nan_canon, h]), show nextR ⟨3, N, X⟩ (canR ⟨k, x⟩) = ⟨k, canonW x⟩ by simp [nextR, canR]];exact rone_3_keep N X k hx hb h w
  ·rw [one_stop' (o := ⟨3, N, X⟩) (r := ⟨k, x⟩) (f := 2) hb (by simp [fateI, nan_canon, h]) (by decide)];exact rone_3_drop N X k hx hb h w
 ·rw [one_keep (o := ⟨4, N, X⟩) (r := ⟨k, x⟩) hb (by simp [fateI]), show nextR ⟨4, N, X⟩ (canR ⟨k, x⟩) = ⟨k, canonW (negW (canonW x))⟩ by simp [nextR, canR, turnW]];exact rone_4 N X k hx hb w
 ·rw [one_keep (o := ⟨5, N, X⟩) (r := ⟨k, x⟩) hb (by simp [fateI]), show nextR ⟨5, N, X⟩ (canR ⟨k, x⟩) = ⟨k, canonW (rung (canonW x))⟩ by simp [nextR, canR, turnW]];exact rone_5 N X k hx hb w
 ·rw [one_keep (o := ⟨6, N, X⟩) (r := ⟨k, x⟩) hb (by simp [fateI]), show nextR ⟨6, N, X⟩ (canR ⟨k, x⟩) = ⟨k, canonW (floorW (canonW x))⟩ by simp [nextR, canR, turnW]];exact rone_6 N X k hx hb w
 ·rw [one_keep (o := ⟨7, N, X⟩) (r := ⟨k, x⟩) hb (by simp [fateI]), show nextR ⟨7, N, X⟩ (canR ⟨k, x⟩) = ⟨k, canonW (scaleR (canonW x) N)⟩ by simp [nextR, canR, turnW]];exact rone_7 N X k hx hb w
 ·rw [one_keep (o := ⟨8, N, X⟩) (r := ⟨k, x⟩) hb (by simp [fateI]), show nextR ⟨8, N, X⟩ (canR ⟨k, x⟩) = ⟨k, canonW (invW (canonW x))⟩ by simp [nextR, canR, turnW]]
  cases h : nanB (canonW x)
  ·obtain ⟨I, h1, _, h3, _⟩ := inv_some (canon_lt hx) h;exact rone_8_num N X k hx hb h1 h3 w
  ·exact rone_8_nan N X k hx hb (inv_nan (canon_lt hx) h) w
 ·by_cases h : rung (canonW x) < 9218868437227405312
  ·rw [one_keep (o := ⟨9, N, X⟩) (r := ⟨k, x⟩) hb (by simp [fateI, h]), show nextR ⟨9, N, X⟩ (canR ⟨k, x⟩) = ⟨k, canonW x⟩ by simp [nextR, canR]];exact rone_9_keep N X k hx hb h w
  ·have hf : fateI ⟨9, N, X⟩ (canonW x) = 3 := by
    simp only [fateI];rw [if_neg (by decide), if_neg (by decide), if_neg (by decide), if_pos trivial, if_pos (by omega)]
   rw [one_stop' (o := ⟨9, N, X⟩) (r := ⟨k, x⟩) (f := 3) hb hf (by decide)]
   have hs : FloatKind.f64.format.sub (canonW x) (canonW x) = none := by
    cases hq : nanB (canonW x)
    ·have := nan_f hq;exact sub_inf (canon_lt hx) (by omega)
    ·exact sub_nan (canon_lt hx) hq
   exact rone_9_trap N X k hx hb hs w
 ·by_cases h : wholeI (canonW x) = 0
  ·rw [one_stop' (o := ⟨10, N, X⟩) (r := ⟨k, x⟩) (f := 3) hb (by simp [fateI, h]) (by decide)];exact rone_10_trap N X k hx hb h w
  ·rw [one_keep (o := ⟨10, N, X⟩) (r := ⟨k, x⟩) hb (by simp [fateI, h]), show nextR ⟨10, N, X⟩ (canR ⟨k, x⟩) = ⟨k, canonW (ofW (perI N (wholeI (canonW x))))⟩ by simp [nextR, canR, turnW]];exact rone_10_keep N X k hx hb h w
 ·rw [one_keep (o := ⟨11, N, X⟩) (r := ⟨k, x⟩) hb (by simp [fateI]), show nextR ⟨11, N, X⟩ (canR ⟨k, x⟩) = ⟨k % N.toNat, canonW x⟩ by simp [nextR, canR]];exact rone_11 N X k hx hb h1 hN w
 ·rw [one_keep (o := ⟨12, N, X⟩) (r := ⟨k, x⟩) hb (by simp [fateI]), show nextR ⟨12, N, X⟩ (canR ⟨k, x⟩) = ⟨k % 4611686018427387904 * 4 + sideN (canonW x), canonW x⟩ by simp [nextR, canR]];exact rone_12 N X k hx hb w
end
section
open Ieee Go.RowKit

attribute [local go_sem] run_store_float
theorem rrun_start {w w1 : World} {k x : Nat}
  (h : (w.alloc (Obj.cells #[Value.int IntKind.u64 k, Value.float FloatKind.f64 x] 43)).alloc (Obj.cells #[Value.int IntKind.u64 0, Value.float FloatKind.f64 0] 43) = w1) :
  Hid (w1.heap.size = w.heap.size + 1 + 1) ∧ Hid (Below w.heap.size w w1) ∧ RB w1 w.heap.size k x ∧ RB w1 (w.heap.size + 1) 0 0 := by
 subst h;refine ⟨by simp [Hid, go_sem], ?_, ⟨?_, ?_, ?_, ?_⟩, ⟨?_, ?_, ?_, ?_⟩⟩
 ·exact (below_alloc _ _).alloc (by simp [go_sem]) _
 all_goals simp [go_sem]
set_option linter.unusedSimpArgs false in
theorem rrun_bad {ao : Option Addr} {cap : Nat} {l : List Stp} {w : World} (r : Rcd) (hl : l.length ≤ maxLen) (ho : Ol w ao l) (hc : checkB l = false) :
  Calls Tryz.prog 85 #[.slice ao l.length cap, .agg #[.int .u64 r.k, .float .f64 r.x]] w fun e w' => e = .returned (.tuple #[.agg #[.int .u64 0, .float .f64 0], .int .i64 0]) ∧ Below w.heap.size w w' := by
 have HO : Hid (Ol w ao l) := ho;have HL : Hid (l.length ≤ maxLen) := hl;have HC : Hid (chkI l = 30) := by show _ = _; unfold chkI; rw [hc]; rfl
 clear ho hl hc;go_in;go_wp2_with fail;generalize hw1 : (w.alloc (Obj.cells #[Value.int IntKind.u64 r.k, Value.float FloatKind.f64 r.x] 43)).alloc (Obj.cells #[Value.int IntKind.u64 0, Value.float FloatKind.f64 0] 43) = w1;obtain ⟨HS, HB, R1, R2⟩ := rrun_start hw1;clear hw1;refine (rcheck_walk HL.out (HO.out.below HB.out)).mono ?_;rw [HC.out];rintro e w2 ⟨rfl, hB⟩;obtain ⟨d0, d1, y0, y1⟩ := R2.below hB (cell_lt R2.c0);have HB2 := hidH (below_trans HB.out hB);clear hB R1 R2;go_wp2_with fail;refine bodyPost_ret (v := .tuple #[.agg #[.int .u64 0, .float .f64 0], .int .i64 0]) (by simp [results, Tryz.results85, go_sem, d0, d1, y0, y1]) rfl ⟨rfl, ?_⟩;exact (HB2.out.setCell (p := ⟨w.heap.size + 1, 0, none⟩) (by simp only; omega) _).setCell (p := ⟨w.heap.size + 1, 1, none⟩) (by simp only; omega) _
theorem rec_cut (w2 : World) (k x : Nat) (t : TypeId) : Value.pointer (some ⟨w2.heap.size, 0, none⟩) = Value.pointer (some ⟨w2.heap.size, 0, none⟩) ∧ RB (w2.alloc (Obj.cells #[.int .u64 k, .float .f64 x] t)).drew w2.heap.size k x ∧ Below w2.heap.size w2 (w2.alloc (Obj.cells #[.int .u64 k, .float .f64 x] t)).drew := by
 refine ⟨rfl, ⟨?_, ?_, ?_, ?_⟩, (below_alloc _ _).drew⟩;all_goals simp [go_sem]
theorem new_rec {w w3 : World} {t : TypeId} {k x : Nat} (h : Below ((w.alloc (Obj.cells #[.int .u64 k, .float .f64 x] t)).drew).heap.size (w.alloc (Obj.cells #[.int .u64 k, .float .f64 x] t)).drew w3) : RB w3 w.heap.size k x := by
 have h0 : RB (w.alloc (Obj.cells #[.int .u64 k, .float .f64 x] t)).drew w.heap.size k x := by
  refine ⟨?_, ?_, ?_, ?_⟩ <;> simp [go_sem]
 exact h0.below h (cell_lt h0.c0)
theorem keep_storeO {wr w3 : World} (h : Below wr.heap.size wr w3) (b : Nat) (hb : wr.heap.size ≤ b) (u v : Value) : Below wr.heap.size wr ((w3.setCell ⟨b, 0, none⟩ u).setCell ⟨b, 1, none⟩ v) := (h.setCell hb u).setCell hb v
def RRel (w0 : World) (bo : Nat) (l : List Stp) (r0 : Rcd) (iv : Value) (wr : World) : Prop :=
 ∃ (k : Nat) (r : Rcd), k ≤ l.length ∧ iv = .int .i64 k ∧ r.ok ∧ canonW r.x = r.x ∧ goS l r0 = goS (l.drop k) r ∧ RB wr bo r.k r.x ∧ RB wr (w0.heap.size + 1) 0 0 ∧ Below w0.heap.size w0 wr
theorem rrel_start {w wc : World} {bo : Nat} {l : List Stp} {r : Rcd} (hr : r.ok) (h1 : RB wc bo r.k (canonW r.x)) (h2 : RB wc (w.heap.size + 1) 0 0) (hB : Below w.heap.size w wc) : RRel w bo l (canR r) (.int .i64 0) wc :=
 ⟨0, canR r, Nat.zero_le _, rfl, canR_ok hr, canon_canon _, rfl, h1, h2, hB⟩
theorem cut_new {wr w3 : World} {t : TypeId} (h : Below wr.heap.size wr w3) (R : Int × Rcd) :
  ∃ b', Value.pointer (some ⟨w3.heap.size, 0, none⟩) = Value.pointer (some ⟨b', 0, none⟩) ∧ Value.int .i64 R.1 = .int .i64 R.1 ∧ RB (w3.alloc (Obj.cells #[.int .u64 R.2.k, .float .f64 R.2.x] t)) b' R.2.k R.2.x ∧ wr.heap.size ≤ b' ∧ Below wr.heap.size wr (w3.alloc (Obj.cells #[.int .u64 R.2.k, .float .f64 R.2.x] t)) := by
 refine ⟨w3.heap.size, rfl, rfl, ⟨?_, ?_, ?_, ?_⟩, h.size, h.alloc h.size _⟩;all_goals simp [go_sem]
theorem cut_old {wr w3 : World} (h : Below wr.heap.size wr w3) (h0 : RB w3 wr.heap.size 0 0) (R : Int × Rcd) :
  ∃ b', Value.pointer (some ⟨wr.heap.size, 0, none⟩) = Value.pointer (some ⟨b', 0, none⟩) ∧ Value.int .i64 R.1 = .int .i64 R.1 ∧ RB ((w3.setCell ⟨wr.heap.size, 0, none⟩ (.int .u64 R.2.k)).setCell ⟨wr.heap.size, 1, none⟩ (.float .f64 R.2.x)) b' R.2.k R.2.x ∧ wr.heap.size ≤ b' ∧
   Below wr.heap.size wr ((w3.setCell ⟨wr.heap.size, 0, none⟩ (.int .u64 R.2.k)).setCell ⟨wr.heap.size, 1, none⟩ (.float .f64 R.2.x)) :=
 ⟨_, rfl, rfl, h0.set _ _, Nat.le_refl _, keep_storeO h _ (Nat.le_refl _) _ _⟩
theorem rrel_step {w wc : World} {bo : Nat} {l : List Stp} {r0 r : Rcd} {k : Nat} (hlt : k < l.length) (hr : r.ok) (hcr : canonW r.x = r.x) (hg : goS l r0 = goS (l.drop k) r) (hf : fateI l[k] r.x = 1)
  (h1 : RB wc bo r.k r.x) (h2 : RB wc (w.heap.size + 1) 0 0) (hB : Below w.heap.size w wc) (hne : w.heap.size + 1 < bo) :
  RRel w bo l r0 (.int .i64 ((k : Int) + 1)) ((wc.setCell ⟨bo, 0, none⟩ (.int .u64 (nextR l[k] r).k)).setCell ⟨bo, 1, none⟩ (.float .f64 (nextR l[k] r).x)) := by
 refine ⟨k + 1, nextR l[k] r, hlt, by simp, nextR_ok hr, nextR_can hcr, ?_, h1.set _ _, (h2.other (by simp only; omega) _).other (by simp only; omega) _, (hB.setCell (by simp only; omega) _).setCell (by simp only; omega) _⟩;rw [hg, List.drop_eq_getElem_cons hlt, goS_keep hf]
set_option linter.unusedSimpArgs false in
theorem rrun_good {ao : Option Addr} {cap : Nat} {l : List Stp} {w : World} (r : Rcd) (hr : r.ok) (hl : l.length ≤ maxLen) (ho : Ol w ao l) (hok : ∀ o ∈ l, o.ok) (hc : checkB l = true) :
  Calls Tryz.prog 85 #[.slice ao l.length cap, .agg #[.int .u64 r.k, .float .f64 r.x]] w fun e w' =>
   e = .returned (.tuple #[.agg #[.int .u64 (goS l (canR r)).2.k, .float .f64 (goS l (canR r)).2.x], .int .i64 (goS l (canR r)).1]) ∧ Below w.heap.size w w' := by
 have hli : (l.length : Int) ≤ 9223372036854775807 := by simp only [maxLen] at hl; omega
 have HO : Hid (Ol w ao l) := ho;have HK : Hid (∀ o ∈ l, o.ok) := hok;have HL : Hid (l.length ≤ maxLen) := hl;have HC : Hid (chkI l = 0) := by show _ = _; unfold chkI; rw [hc]; rfl
 have HA : Hid (checkB l = true) := hc;have HR : Hid r.ok := hr;clear ho hl hc hok;go_in;go_wp2_with fail;generalize hw1 : (w.alloc (Obj.cells #[Value.int IntKind.u64 r.k, Value.float FloatKind.f64 r.x] 43)).alloc (Obj.cells #[Value.int IntKind.u64 0, Value.float FloatKind.f64 0] 43) = w1;obtain ⟨HS, HB, R1, R2⟩ := rrun_start hw1;clear hw1;refine (rcheck_walk HL.out (HO.out.below HB.out)).mono ?_;rw [HC.out];rintro e w2 ⟨rfl, hB⟩;have HR2 : Hid (RB w2 (w.heap.size + 1) 0 0) := R2.below hB (cell_lt R2.c0);obtain ⟨c0, c1, z0, z1⟩ := R1.below hB (cell_lt R1.c0);have HB2 := hidH (below_trans HB.out hB);have a0 : ∀ x : Obj, (w2.alloc x).cell? ⟨w.heap.size, 0, none⟩ = some (.int .u64 r.k) := fun x => ((RB.mk c0 c1 z0 z1).alloc x).c0;have a1 : ∀ x : Obj, (w2.alloc x).cell? ⟨w.heap.size, 1, none⟩ = some (.float .f64 r.x) := fun x => ((RB.mk c0 c1 z0 z1).alloc x).c1;clear hB R1 R2;go_wp2_with fail;go_cut [6] (fun p wx => p = .pointer (some ⟨w2.heap.size, 0, none⟩) ∧ RB wx w2.heap.size r.k (canonW r.x) ∧ Below w2.heap.size w2 wx)
 case first =>
  go_region_held3 (fun wx => wx.cell? ⟨w.heap.size, 0, none⟩ = some (.int .u64 r.k) ∧ wx.cell? ⟨w.heap.size, 1, none⟩ = some (.float .f64 r.x)) (go_keep) (first | (go_at_call 110; refine (rcanon_walk HR.out.2 _).mono ?_; rintro e w' ⟨rfl, rfl⟩));all_goals go_wp2_with fail
  all_goals go_meet
  all_goals exact rec_cut _ _ _ _
 case rest =>
  obtain ⟨rfl, hR6, hBc⟩ := hcut;have R0 := rrel_start HR.out hR6 (HR2.out.below hBc (cell_lt HR2.out.c0)) (below_trans HB2.out hBc) (l := l);have HNE : Hid (w.heap.size + 1 < w2.heap.size) := cell_lt HR2.out.c0;clear a0 a1 c0 c1 z0 z1 hR6 hBc;go_wp2_with fail;go_loopw [7] (fun iv wr => RRel w w2.heap.size l (canR r) iv wr) (fun iv _ => l.length - (intOf iv).toNat)
  case atStart => exact R0
  case round =>
   clear R0 HR2 HB2 HB HS;obtain ⟨k, q, hk, rfl, hq, hcq, hg, h1, h2, hB⟩ := hrel;have HG : Hid (goS l (canR r) = goS (l.drop k) q) := hg;have HR1 := hidH h1;have HR2 := hidH h2;have HB := hidH hB;have HQ : Hid q.ok := hq;have HCQ : Hid (canonW q.x = q.x) := hcq;clear hg h1 h2 hB hq hcq;by_cases hlt : k < l.length
   ·obtain ⟨b, off, rfl, o0, o1, o2⟩ := HO.out.below HB.out k hlt;obtain ⟨o, hoe⟩ : ∃ o, o = l[k] := ⟨_, rfl⟩;rw [← hoe] at o0 o1 o2;have HE : Hid (o = l[k]) := hoe;have HOK : Hid o.ok := by show o.ok; rw [hoe]; exact HK.out _ (List.getElem_mem hlt)
    have HBB : Hid (isB o = true) := by show _ = _; rw [hoe]; exact check_all HA.out hlt
    clear hoe;obtain ⟨c0, c1, z0, z1⟩ := HR1.out;obtain ⟨R, hRe⟩ : ∃ R, R = oneS o q := ⟨_, rfl⟩;have HRE : Hid (R = oneS o q) := hRe;clear hRe;go_wp2_with fail;go_cut [8, 9] (fun p f wx => ∃ b', p = .pointer (some ⟨b', 0, none⟩) ∧ f = .int .i64 R.1 ∧ RB wx b' R.2.k R.2.x ∧ wr.heap.size ≤ b' ∧ Below wr.heap.size wr wx)
    case first =>
     have k0 : ∀ wx, Below wr.heap.size wr wx → wx.cell? ⟨b, off + k * 3, none⟩ = some (.int .i64 o.K) := fun wx h => by rw [h.cell (p := ⟨b, off + k * 3, none⟩) (cell_lt o0)]; exact o0
     have k1 : ∀ wx, Below wr.heap.size wr wx → wx.cell? ⟨b, off + k * 3 + 1, none⟩ = some (.int .i64 o.N) := fun wx h => by rw [h.cell (p := ⟨b, off + k * 3 + 1, none⟩) (cell_lt o1)]; exact o1
     have k2 : ∀ wx, Below wr.heap.size wr wx → wx.cell? ⟨b, off + k * 3 + 2, none⟩ = some (.float .f64 o.X) := fun wx h => by rw [h.cell (p := ⟨b, off + k * 3 + 2, none⟩) (cell_lt o2)]; exact o2
     have k3 : ∀ wx, Below wr.heap.size wr wx → wx.cell? ⟨w2.heap.size, 0, none⟩ = some (.int .u64 q.k) := fun wx h => by rw [h.cell (p := ⟨w2.heap.size, 0, none⟩) (cell_lt c0)]; exact c0
     have k4 : ∀ wx, Below wr.heap.size wr wx → wx.cell? ⟨w2.heap.size, 1, none⟩ = some (.float .f64 q.x) := fun wx h => by rw [h.cell (p := ⟨w2.heap.size, 1, none⟩) (cell_lt c1)]; exact c1
     go_region_held3 (fun wx => Below wr.heap.size wr wx) (first | assumption | exact (Below.refl _ _).drew | exact Below.drew ((Below.refl _ _).alloc (Nat.le_refl _) _) | exact Below.alloc (by assumption) (Below.size (by assumption)) _ | exact keep_storeO (by assumption) _ (Nat.le_refl _) _ _)
      (first | (go_at_call 111; refine (rone_walk o q HOK.out HQ.out _).mono ?_; rw [← HRE.out]; rintro e w3 ⟨rfl, hB3⟩; have hS3 : Below wr.heap.size wr w3 := below_trans (by assumption) hB3; try (have q0 := (new_rec hB3).c0; have q1 := (new_rec hB3).c1; have q2 := (new_rec hB3).z0; have q3 := (new_rec hB3).z1)))
     all_goals go_wp2_with fail
     all_goals go_meet
     ·exact cut_new hS3 R
     ·exact cut_old hS3 ⟨q0, q1, q2, q3⟩ R
    case rest =>
     obtain ⟨b', rfl, rfl, hR8, hb8, hBc⟩ := hcut;clear o0 o1 o2 c0 c1 z0 z1;have HT1 : Hid (RB wc w2.heap.size q.k q.x) := HR1.out.below hBc (cell_lt HR1.out.c0);have HT2 : Hid (RB wc (w.heap.size + 1) 0 0) := HR2.out.below hBc (cell_lt HR2.out.c0);have HTB := hidH (below_trans HB.out hBc);clear hBc hb8;by_cases hf : fateI o q.x = 1
     ·have HF : Hid (fateI o q.x = 1) := hf;obtain rfl : R = (1, nextR o q) := by rw [HRE.out, one_keep HBB.out (by rw [HCQ.out]; exact hf), canR_can HCQ.out]
      clear hf;obtain ⟨c0, c1, z0, z1⟩ := HT1.out;obtain ⟨p0, p1, _, _⟩ := hR8;have R' := rrel_step hlt HQ.out HCQ.out HG.out (by rw [← HE.out]; exact HF.out) HT1.out HT2.out HTB.out HNE.out;rw [← HE.out] at R';go_wp2_with fail;go_roundw
      case rel => exact R'
      case measure => simp [intOf]; omega
     ·have HF : Hid (¬ fateI o q.x = 1) := hf;obtain rfl : R = (fateI o q.x, ⟨0, 0⟩) := by rw [HRE.out, one_stop HBB.out (by rw [HCQ.out]; exact hf), HCQ.out]
      have b1 : (fateI o q.x != 1) = true := by simpa using hf
      clear hf hR8;obtain ⟨d0, d1, y0, y1⟩ := HT2.out;have hE := goS_at hlt HG.out (by rw [← HE.out]; exact HF.out);rw [← HE.out] at hE;have HEE : Hid (goS l (canR r) = (fateI o q.x, zeroR)) := hE;clear hE;go_wp2_with fail;refine bodyPost_ret (v := .tuple #[.agg #[.int .u64 0, .float .f64 0], .int .i64 (fateI o q.x)]) (by simp [results, Tryz.results85, go_sem, d0, d1, y0, y1]) rfl ⟨by rw [HEE.out]; rfl, ?_⟩;exact (HTB.out.setCell (p := ⟨w.heap.size + 1, 0, none⟩) (by simp only; omega) _).setCell (p := ⟨w.heap.size + 1, 1, none⟩) (by simp only; omega) _
   ·obtain ⟨c0, c1, z0, z1⟩ := HR1.out;obtain ⟨d0, d1, y0, y1⟩ := HR2.out;have HEE : Hid (goS l (canR r) = (1, q)) := goS_end hk hlt HG.out;go_wp2_with fail;refine bodyPost_ret (v := .tuple #[.agg #[.int .u64 q.k, .float .f64 q.x], .int .i64 1]) (by simp [results, Tryz.results85, go_sem, d0, d1, y0, y1]) rfl ⟨by rw [HEE.out], ?_⟩;exact (HB.out.setCell (p := ⟨w.heap.size + 1, 0, none⟩) (by simp only; omega) _).setCell (p := ⟨w.heap.size + 1, 1, none⟩) (by simp only; omega) _
theorem rrun_walk {v : Value} {l : List Stp} {w : World} (r : Rcd) (hr : r.ok) (ho : Ov w v l) :
  Calls Tryz.prog 85 #[v, .agg #[.int .u64 r.k, .float .f64 r.x]] w fun e w' =>
   e = .returned (.tuple #[.agg #[.int .u64 (runS l r).2.k, .float .f64 (runS l r).2.x], .int .i64 (runS l r).1]) ∧ Below w.heap.size w w' := by
 obtain ⟨⟨ao, cap, rfl, h1, h2, h3, h4⟩, h5⟩ := ho;unfold runS
 cases hc : checkB l
 ·exact rrun_bad r (by omega) h4 hc
 ·exact rrun_good r hr (by omega) h4 h5 hc
theorem rkey_walk {v : Value} {l : List Stp} {w : World} (r : Rcd) (hr : r.ok) (ho : Ov w v l) :
  Calls Tryz.prog 41 #[v, .agg #[.int .u64 r.k, .float .f64 r.x]] w fun e w' =>
   e = .returned (.tuple #[.int .u64 (runS l r).2.k, .bool ((runS l r).1 == 1)]) ∧ Below w.heap.size w w' := by
 have HO : Hid (Ov w v l) := ho;have HR : Hid r.ok := hr;clear ho hr;go_in;go_wp2_with fail;refine (rrun_walk r HR.out (HO.out.below (below_alloc _ _))).mono ?_;rintro e w2 ⟨rfl, hB⟩;have HB : Hid (Below w.heap.size w w2) := below_trans (below_alloc _ _) hB;clear hB;go_wp2_with fail;go_ret2;exact ⟨rfl, HB.out.alloc HB.out.size _⟩
end
section
open Ieee Go.RowKit

def Kg (S : Sc) (p i : Nat) (ks : List Nat) : Prop := RiseK ks ∧ ks.length ≤ p * 256 + i ∧ ∀ k, k ∈ ks ↔ (∃ q, q < p ∧ ∃ r ∈ S.logs q, (runS S.list r).1 = 1 ∧ (runS S.list r).2.k = k) ∨ ∃ r ∈ (S.logs p).take i, (runS S.list r).1 = 1 ∧ (runS S.list r).2.k = k
theorem kg_start (S : Sc) : Kg S 0 0 [] := ⟨by simp [RiseK], by simp, fun k => by simp⟩
theorem kg_next {S : Sc} {p i : Nat} {ks : List Nat} (h : Kg S p i ks) (hi : i = (S.logs p).length) (h6 : i ≤ 256) : Kg S (p + 1) 0 ks := by
 have h2 : ks.length ≤ p * 256 + i := h.2.1;have h3 : ks.length ≤ (p + 1) * 256 + 0 := by omega
 refine ⟨h.1, h3, fun k => ?_⟩;rw [h.2.2 k, hi, List.take_length];constructor
 ·rintro (⟨q, hq, r⟩ | r)
  ·exact .inl ⟨q, by omega, r⟩
  ·exact .inl ⟨p, by omega, r⟩
 ·rintro (⟨q, hq, r⟩ | ⟨r, hr, _⟩)
  ·rcases Nat.lt_or_ge q p with h2 | h2
   ·exact .inl ⟨q, h2, r⟩
   ·obtain rfl : q = p := by omega
    exact .inr r
  ·simp at hr
theorem kg_skip {S : Sc} {p i : Nat} {ks : List Nat} {r : Rcd} (h : Kg S p i ks) (hi : i < (S.logs p).length) (hr : r = (S.logs p)[i]) (hf : (runS S.list r).1 ≠ 1) : Kg S p (i + 1) ks := by
 refine ⟨h.1, by have := h.2.1; omega, fun k => ?_⟩;rw [h.2.2 k, List.take_succ_eq_append_getElem hi, ← hr];constructor
 ·rintro (h | ⟨x, hx, e⟩)
  ·exact .inl h
  ·exact .inr ⟨x, List.mem_append_left _ hx, e⟩
 ·rintro (h | ⟨x, hx, e⟩)
  ·exact .inl h
  ·rcases List.mem_append.1 hx with hx | hx
   ·exact .inr ⟨x, hx, e⟩
   ·simp at hx; subst hx; exact absurd e.1 hf
theorem kg_keep {S : Sc} {p i : Nat} {ks : List Nat} {r : Rcd} (h : Kg S p i ks) (hi : i < (S.logs p).length) (hr : r = (S.logs p)[i]) (hf : (runS S.list r).1 = 1) : Kg S p (i + 1) (insK (runS S.list r).2.k ks) := by
 refine ⟨rise_insK h.1, by have := h.2.1; have := insK_le (k := (runS S.list r).2.k) (l := ks); omega, fun k => ?_⟩;rw [mem_insK, h.2.2 k, List.take_succ_eq_append_getElem hi, ← hr];constructor
 ·rintro (rfl | h | ⟨x, hx, e⟩)
  ·exact .inr ⟨r, by simp, hf, rfl⟩
  ·exact .inl h
  ·exact .inr ⟨x, List.mem_append_left _ hx, e⟩
 ·rintro (h | ⟨x, hx, e⟩)
  ·exact .inr (.inl h)
  ·rcases List.mem_append.1 hx with hx | hx
   ·exact .inr (.inr ⟨x, hx, e⟩)
   ·simp at hx; subst hx; exact .inl e.2.symm
theorem kg_end {S : Sc} {ks : List Nat} (h : Kg S S.np 0 ks) (hok : S.ok) : ks = S.keys := by
 refine rise_ext h.1 hok.kr fun k => ?_;rw [h.2.2 k, hok.mem k];simp
def Kr (w : World) (S : Sc) (p i : Nat) (lv : Value) (wr : World) : Prop :=
 ∃ g cap ks, lv = .slice (some ⟨g, 0, none⟩) ks.length cap ∧ Uw wr g cap ks ∧ w.heap.size ≤ g ∧ Kg S p i ks ∧ Below w.heap.size w wr
theorem Rl.get {w : World} {ao : Option Addr} {l : List Rcd} (h : Rl w ao l) {i : Nat} (hi : i < l.length) : ∃ b off, ao = some ⟨b, off, none⟩ ∧ w.cell? ⟨b, off + i * 2, none⟩ = some (.int .u64 l[i].k) ∧ w.cell? ⟨b, off + i * 2 + 1, none⟩ = some (.float .f64 l[i].x) := h i hi
theorem rkeys_walk {D : Nat → Prop} {w : World} {v : Value} {S : Sc} (h : Rs D w v S) :
  Calls Tryz.prog 42 #[v] w fun e w' => ∃ g cap, e = .returned (.slice (some ⟨g, 0, none⟩) S.keys.length cap) ∧ Uw w' g cap S.keys ∧ w.heap.size ≤ g ∧ Below w.heap.size w w' := by
 have HW : Hid (Rs D w v S) := h;obtain ⟨sb, gp, gq, lv, rv, rfl, h, hok⟩ := h;have HS := hidH h;have HK : Hid S.ok := hok;have h4 := hok.np4;clear h hok;go_in;go_wp2_with fail
 have R0 : ∃ p : Nat, p ≤ S.np ∧ Value.int .i64 0 = .int .i64 p ∧ Kr w S p 0 (.slice (some ⟨w.heap.size, 0, none⟩) 0 0) (w.alloc (Obj.cells #[] 40)) :=
  ⟨0, Nat.zero_le _, rfl, w.heap.size, 0, [], rfl, ⟨⟨#[], heap_alloc_new w _, rfl, fun i hi => by simp at hi⟩, Nat.le_refl _, Nat.zero_le _⟩, Nat.le_refl _, kg_start S, below_alloc _ _⟩
 go_loopw [3, 4] (fun lv pv wr => ∃ p : Nat, p ≤ S.np ∧ pv = .int .i64 p ∧ Kr w S p 0 lv wr) (fun _ pv _ => S.np - (intOf pv).toNat)
 case atStart => exact R0
 case round =>
  clear R0;obtain ⟨p, hp, rfl, g, cap, ks, rfl, hU, hg, hKg, hB⟩ := hrel;have HKR : Hid (Kr w S p 0 (.slice (some ⟨g, 0, none⟩) ks.length cap) wr) := ⟨g, cap, ks, rfl, hU, hg, hKg, hB⟩;have HUW : Hid (Uw wr g cap ks) := hU;have HG : Hid (w.heap.size ≤ g) := hg;have HKG : Hid (Kg S p 0 ks) := hKg;have HB := hidH hB;clear hU hg hKg hB;by_cases hlt : p < S.np
  ·have hli : (p : Int) < (S.np : Int) := by omega
   have hn := HK.out.len p;obtain ⟨n, hne⟩ : ∃ n, n = (S.logs p).length := ⟨_, rfl⟩;rw [← hne] at hn;obtain ⟨ao, cp, hrv, _⟩ := row_form (HS.out.rows p hlt);rw [← hne] at hrv;have HNE : Hid (n = (S.logs p).length) := hne;have HRV : Hid (rv p = .slice ao n cp) := hrv;clear hne hrv;go_wp2_with (go_at_call 86; refine (rparts_walk (HW.out.below HB.out)).mono ?_; rintro e w9 ⟨rfl, h9⟩; have h9 := h9.symm; subst h9);go_loopw [3, 5] (fun lv iv wx => ∃ i : Nat, i ≤ n ∧ iv = .int .i64 i ∧ Kr w S p i lv wx) (fun _ iv _ => n - (intOf iv).toNat)
   case atStart => exact ⟨0, Nat.zero_le _, rfl, HKR.out⟩
   case round =>
    clear HKR HUW HG HKG HB;obtain ⟨i, hi, hiv, g, cap, ks, hlv, hU, hg, hKg, hB⟩ := hrel;subst hiv;subst hlv;have HUW : Hid (Uw wr g cap ks) := hU;have HG : Hid (w.heap.size ≤ g) := hg;have HKG : Hid (Kg S p i ks) := hKg;have HB := hidH hB;have HS1 := hidH (HS.out.below hB);clear hU hg hKg hB;have j0 : ∀ wx, Below wr.heap.size wr wx → wx.cell? ⟨sb, 0, none⟩ = some (.slice (some ⟨gp, 0, none⟩) S.np S.np) := fun wx hb => (HS1.out.below hb).c0;have j1 : ∀ wx, Below wr.heap.size wr wx → wx.cell? ⟨sb, 2, none⟩ = some lv := fun wx hb => (HS1.out.below hb).c2;have j2 : ∀ wx, Below wr.heap.size wr wx → wx.cell? ⟨gp, p, none⟩ = some (.slice ao n cp) := fun wx hb => by rw [(HS1.out.below hb).p0 hlt, HRV.out]
    have k0 := HS1.out.c0;have k2 : wr.cell? ⟨gp, p, none⟩ = some (.slice ao n cp) := by rw [HS1.out.p0 hlt, HRV.out]
    by_cases hin : i < n
    ·have hil : (i : Int) < (n : Int) := by omega
     have HIL : Hid (i < (S.logs p).length) := by show _ < _; rw [← HNE.out]; exact hin
     obtain ⟨⟨ao2, cp2, e2, _, _, _, hRl⟩, hrok⟩ := HS1.out.recs HK.out hlt;rw [HRV.out] at e2;simp only [Value.slice.injEq] at e2;obtain ⟨e3, _, _⟩ := e2;subst e3;obtain ⟨b, off, hao, c0, c1⟩ := Rl.get hRl HIL.out;subst hao;have HRK : Hid ((S.logs p)[i]'HIL.out).ok := hrok _ (List.getElem_mem _);obtain ⟨r, hre⟩ : ∃ r, r = (S.logs p)[i]'HIL.out := ⟨_, rfl⟩;rw [← hre] at c0 c1 HRK;have HRE : Hid (r = (S.logs p)[i]'HIL.out) := hre;have j3 : ∀ wx, Below wr.heap.size wr wx → wx.cell? ⟨b, off + i * 2, none⟩ = some (.int .u64 r.k) := fun wx hb => by rw [hb.cell (p := ⟨b, off + i * 2, none⟩) (cell_lt c0)]; exact c0
     have j4 : ∀ wx, Below wr.heap.size wr wx → wx.cell? ⟨b, off + i * 2 + 1, none⟩ = some (.float .f64 r.x) := fun wx hb => by rw [hb.cell (p := ⟨b, off + i * 2 + 1, none⟩) (cell_lt c1)]; exact c1
     obtain ⟨R, hR⟩ : ∃ R, R = runS S.list r := ⟨_, rfl⟩;have HR : Hid (R = runS S.list r) := hR;clear hR hre hRl hrok;go_wp2_with fail;go_cut [6, 7] (fun kv bv wx => kv = .int .u64 R.2.k ∧ bv = .bool (R.1 == 1) ∧ Below wr.heap.size wr wx)
     case first =>
      go_region_held3 (fun wx => Below wr.heap.size wr wx) (first | assumption | exact (Below.refl _ _).drew)
       (first | (go_at_call 41; refine (rkey_walk r HRK.out ((HS1.out.below (by assumption)).list)).mono ?_; rw [← HR.out]; rintro e w5 ⟨rfl, hB3⟩; have hS3 : Below wr.heap.size wr w5 := below_trans (by assumption) hB3))
      all_goals go_wp2_with fail
      all_goals go_meet
      all_goals exact ⟨rfl, rfl, by assumption⟩
     case rest =>
      obtain ⟨hkv, hbv, hBc⟩ := hcut;subst hkv;subst hbv;have HBC := hidH hBc;clear j0 j1 j2 j3 j4 k0 k2 c0 c1 hBc;by_cases hf : R.1 = 1
      ·have hfb : (R.1 == 1) = true := by simp [hf]
       have HF : Hid ((runS S.list r).1 = 1) := by show _ = _; rw [← HR.out]; exact hf
       rw [hfb];clear hf hfb;have HL4 : Hid (ks.length ≤ 4096) := by have := HKG.out.2.1; show _ ≤ _; omega
       go_wp2_with fail;refine (rwithk_walk (k := R.2.k) wc (HUW.out.below HBC.out) (HG.out) HKG.out.1 HL4.out).mono ?_;rintro e w6 ⟨g', cap', rfl, hU6, hg6, hB6⟩;have HR6 : Hid (Kr w S p (i + 1) (.slice (some ⟨g', 0, none⟩) (insK R.2.k ks).length cap') w6) := ⟨g', cap', _, rfl, hU6, hg6, by have := kg_keep HKG.out HIL.out HRE.out HF.out; rw [← HR.out] at this; exact this, (below_trans HB.out HBC.out).trans hB6⟩;clear hU6 hg6 hB6;go_wp2_with fail;go_roundw
       case rel => exact ⟨i + 1, hin, by simp, HR6.out⟩
       case measure => simp [intOf]; omega
      ·have hfb : (R.1 == 1) = false := by simpa using hf
       have HF : Hid ((runS S.list r).1 ≠ 1) := by show _ ≠ _; rw [← HR.out]; exact hf
       rw [hfb];clear hf hfb;have HR6 : Hid (Kr w S p (i + 1) (.slice (some ⟨g, 0, none⟩) ks.length cap) wc) := ⟨g, cap, ks, rfl, HUW.out.below HBC.out, HG.out, kg_skip HKG.out HIL.out HRE.out HF.out, below_trans HB.out HBC.out⟩;go_wp2_with fail;go_roundw
       case rel => exact ⟨i + 1, hin, by simp, HR6.out⟩
       case measure => simp [intOf]; omega
    ·have hil : ¬ ((i : Int) < (n : Int)) := by omega
     have HR6 : Hid (Kr w S (p + 1) 0 (.slice (some ⟨g, 0, none⟩) ks.length cap) wr) := ⟨g, cap, ks, rfl, HUW.out, HG.out, kg_next HKG.out (by rw [← HNE.out]; omega) (by omega), HB.out⟩;go_wp2_with fail;go_roundw
     case rel => exact ⟨p + 1, hlt, by simp, HR6.out⟩
     case measure => simp [intOf]; omega
  ·have hli : ¬ ((p : Int) < (S.np : Int)) := by omega
   have hpe : p = S.np := by omega
   have HE : Hid (ks = S.keys) := kg_end (hpe ▸ HKG.out) HK.out;clear hpe;go_wp2_with (go_at_call 86; refine (rparts_walk (HW.out.below HB.out)).mono ?_; rintro e w9 ⟨rfl, h9⟩; have h9 := h9.symm; subst h9);go_ret;exact ⟨g, cap, by rw [← HE.out]; rfl, by rw [← HE.out]; exact HUW.out, HG.out, HB.out⟩
end
end Go.Proofs.YtombjgfajbhbbaaGreat
