/- The reference's Run and Key. -/
import Derived.Test.YtjkhegekojflhabXq
import Derived.Deep.DeepCutAuto
import Derived.Deep.RegionHeld3
namespace Go.Proofs.Ytjkhegekojflhab
open Ieee Go.RowKit
attribute [local go_sem] run_store_float

theorem rrun_start {w w1 : World} {k x : Nat}
    (h : (w.alloc (Obj.cells #[Value.int IntKind.u64 k, Value.float FloatKind.f64 x] 40)).alloc (Obj.cells #[Value.int IntKind.u64 0, Value.float FloatKind.f64 0] 40) = w1) :
    Hid (w1.heap.size = w.heap.size + 1 + 1) ∧ Hid (Below w.heap.size w w1) ∧ RB w1 w.heap.size k x ∧ RB w1 (w.heap.size + 1) 0 0 := by
  subst h
  refine ⟨by simp [Hid, go_sem], ?_, ⟨?_, ?_, ?_, ?_⟩, ⟨?_, ?_, ?_, ?_⟩⟩
  · exact (below_alloc _ _).alloc (by simp [go_sem]) _
  all_goals simp [go_sem]

set_option linter.unusedSimpArgs false in
theorem rrun_bad {ao : Option Addr} {cap : Nat} {l : List Stp} {w : World} (r : Rcd) (hl : l.length ≤ maxLen) (ho : Ol w ao l) (hc : checkB l = false) :
    Calls Try.prog 43 #[.slice ao l.length cap, .agg #[.int .u64 r.k, .float .f64 r.x]] w fun e w' => e = .returned (.tuple #[.agg #[.int .u64 0, .float .f64 0], .int .i64 0]) ∧ Below w.heap.size w w' := by
  have HO : Hid (Ol w ao l) := ho
  have HL : Hid (l.length ≤ maxLen) := hl
  have HC : Hid (chkI l = 30) := by show _ = _; unfold chkI; rw [hc]; rfl
  clear ho hl hc
  go_enter Try.func43, Try.ntmps43
  go_wp2_with fail
  generalize hw1 : (w.alloc (Obj.cells #[Value.int IntKind.u64 r.k, Value.float FloatKind.f64 r.x] 40)).alloc (Obj.cells #[Value.int IntKind.u64 0, Value.float FloatKind.f64 0] 40) = w1
  obtain ⟨HS, HB, R1, R2⟩ := rrun_start hw1
  clear hw1
  refine (rcheck_walk HL.out (HO.out.below HB.out)).mono ?_
  rw [HC.out]
  rintro e w2 ⟨rfl, hB⟩
  obtain ⟨d0, d1, y0, y1⟩ := R2.below hB (cell_lt R2.c0)
  have HB2 : Hid (Below w.heap.size w w2) := below_trans HB.out hB
  clear hB R1 R2
  go_wp2_with fail
  refine bodyPost_ret (v := .tuple #[.agg #[.int .u64 0, .float .f64 0], .int .i64 0]) (by simp [results, Try.results43, go_sem, d0, d1, y0, y1]) rfl ⟨rfl, ?_⟩
  exact (HB2.out.setCell (p := ⟨w.heap.size + 1, 0, none⟩) (by simp only; omega) _).setCell (p := ⟨w.heap.size + 1, 1, none⟩) (by simp only; omega) _

theorem rec_cut (w2 : World) (k x : Nat) (t : TypeId) : Value.pointer (some ⟨w2.heap.size, 0, none⟩) = Value.pointer (some ⟨w2.heap.size, 0, none⟩) ∧ RB (w2.alloc (Obj.cells #[.int .u64 k, .float .f64 x] t)).drew w2.heap.size k x ∧ Below w2.heap.size w2 (w2.alloc (Obj.cells #[.int .u64 k, .float .f64 x] t)).drew := by
  refine ⟨rfl, ⟨?_, ?_, ?_, ?_⟩, (below_alloc _ _).drew⟩
  all_goals simp [go_sem]

theorem new_rec {w w3 : World} {t : TypeId} {k x : Nat} (h : Below ((w.alloc (Obj.cells #[.int .u64 k, .float .f64 x] t)).drew).heap.size (w.alloc (Obj.cells #[.int .u64 k, .float .f64 x] t)).drew w3) : RB w3 w.heap.size k x := by
  have h0 : RB (w.alloc (Obj.cells #[.int .u64 k, .float .f64 x] t)).drew w.heap.size k x := by
    refine ⟨?_, ?_, ?_, ?_⟩ <;> simp [go_sem]
  exact h0.below h (cell_lt h0.c0)

theorem keep_store {wr w3 : World} (h : Below wr.heap.size wr w3) (b : Nat) (hb : wr.heap.size ≤ b) (u v : Value) : Below wr.heap.size wr ((w3.setCell ⟨b, 0, none⟩ u).setCell ⟨b, 1, none⟩ v) := (h.setCell hb u).setCell hb v

/-- Where the reference's loop stands. -/
def RRel (w0 : World) (bo : Nat) (l : List Stp) (r0 : Rcd) (iv : Value) (wr : World) : Prop :=
  ∃ (k : Nat) (r : Rcd), k ≤ l.length ∧ iv = .int .i64 k ∧ r.ok ∧ canonW r.x = r.x ∧ goS l r0 = goS (l.drop k) r ∧ RB wr bo r.k r.x ∧ RB wr (w0.heap.size + 1) 0 0 ∧ Below w0.heap.size w0 wr
theorem rrel_start {w wc : World} {bo : Nat} {l : List Stp} {r : Rcd} (hr : r.ok) (h1 : RB wc bo r.k (canonW r.x)) (h2 : RB wc (w.heap.size + 1) 0 0) (hB : Below w.heap.size w wc) : RRel w bo l (canR r) (.int .i64 0) wc :=
  ⟨0, canR r, Nat.zero_le _, rfl, canR_ok hr, canon_canon _, rfl, h1, h2, hB⟩

theorem cut_new {wr w3 : World} {t : TypeId} (h : Below wr.heap.size wr w3) (R : Int × Rcd) :
    ∃ b', Value.pointer (some ⟨w3.heap.size, 0, none⟩) = Value.pointer (some ⟨b', 0, none⟩) ∧ Value.int .i64 R.1 = .int .i64 R.1 ∧ RB (w3.alloc (Obj.cells #[.int .u64 R.2.k, .float .f64 R.2.x] t)) b' R.2.k R.2.x ∧ wr.heap.size ≤ b' ∧ Below wr.heap.size wr (w3.alloc (Obj.cells #[.int .u64 R.2.k, .float .f64 R.2.x] t)) := by
  refine ⟨w3.heap.size, rfl, rfl, ⟨?_, ?_, ?_, ?_⟩, h.size, h.alloc h.size _⟩
  all_goals simp [go_sem]
theorem cut_old {wr w3 : World} (h : Below wr.heap.size wr w3) (h0 : RB w3 wr.heap.size 0 0) (R : Int × Rcd) :
    ∃ b', Value.pointer (some ⟨wr.heap.size, 0, none⟩) = Value.pointer (some ⟨b', 0, none⟩) ∧ Value.int .i64 R.1 = .int .i64 R.1 ∧ RB ((w3.setCell ⟨wr.heap.size, 0, none⟩ (.int .u64 R.2.k)).setCell ⟨wr.heap.size, 1, none⟩ (.float .f64 R.2.x)) b' R.2.k R.2.x ∧ wr.heap.size ≤ b' ∧
      Below wr.heap.size wr ((w3.setCell ⟨wr.heap.size, 0, none⟩ (.int .u64 R.2.k)).setCell ⟨wr.heap.size, 1, none⟩ (.float .f64 R.2.x)) :=
  ⟨_, rfl, rfl, h0.set _ _, Nat.le_refl _, keep_store h _ (Nat.le_refl _) _ _⟩

theorem rrel_step {w wc : World} {bo : Nat} {l : List Stp} {r0 r : Rcd} {k : Nat} (hlt : k < l.length) (hr : r.ok) (hcr : canonW r.x = r.x) (hg : goS l r0 = goS (l.drop k) r) (hf : fateI l[k] r.x = 1)
    (h1 : RB wc bo r.k r.x) (h2 : RB wc (w.heap.size + 1) 0 0) (hB : Below w.heap.size w wc) (hne : w.heap.size + 1 < bo) :
    RRel w bo l r0 (.int .i64 ((k : Int) + 1)) ((wc.setCell ⟨bo, 0, none⟩ (.int .u64 (nextR l[k] r).k)).setCell ⟨bo, 1, none⟩ (.float .f64 (nextR l[k] r).x)) := by
  refine ⟨k + 1, nextR l[k] r, hlt, by simp, nextR_ok hr, nextR_can hcr, ?_, h1.set _ _, (h2.other (by simp only; omega) _).other (by simp only; omega) _, (hB.setCell (by simp only; omega) _).setCell (by simp only; omega) _⟩
  rw [hg, List.drop_eq_getElem_cons hlt, goS_keep hf]

set_option linter.unusedSimpArgs false in
set_option maxHeartbeats 1000000 in
theorem rrun_good {ao : Option Addr} {cap : Nat} {l : List Stp} {w : World} (r : Rcd) (hr : r.ok) (hl : l.length ≤ maxLen) (ho : Ol w ao l) (hok : ∀ o ∈ l, o.ok) (hc : checkB l = true) :
    Calls Try.prog 43 #[.slice ao l.length cap, .agg #[.int .u64 r.k, .float .f64 r.x]] w fun e w' =>
      e = .returned (.tuple #[.agg #[.int .u64 (goS l (canR r)).2.k, .float .f64 (goS l (canR r)).2.x], .int .i64 (goS l (canR r)).1]) ∧ Below w.heap.size w w' := by
  have hli : (l.length : Int) ≤ 9223372036854775807 := by simp only [maxLen] at hl; omega
  have HO : Hid (Ol w ao l) := ho
  have HK : Hid (∀ o ∈ l, o.ok) := hok
  have HL : Hid (l.length ≤ maxLen) := hl
  have HC : Hid (chkI l = 0) := by show _ = _; unfold chkI; rw [hc]; rfl
  have HA : Hid (checkB l = true) := hc
  have HR : Hid r.ok := hr
  clear ho hl hc hok
  go_enter Try.func43, Try.ntmps43
  go_wp2_with fail
  generalize hw1 : (w.alloc (Obj.cells #[Value.int IntKind.u64 r.k, Value.float FloatKind.f64 r.x] 40)).alloc (Obj.cells #[Value.int IntKind.u64 0, Value.float FloatKind.f64 0] 40) = w1
  obtain ⟨HS, HB, R1, R2⟩ := rrun_start hw1
  clear hw1
  refine (rcheck_walk HL.out (HO.out.below HB.out)).mono ?_
  rw [HC.out]
  rintro e w2 ⟨rfl, hB⟩
  have HR2 : Hid (RB w2 (w.heap.size + 1) 0 0) := R2.below hB (cell_lt R2.c0)
  obtain ⟨c0, c1, z0, z1⟩ := R1.below hB (cell_lt R1.c0)
  have HB2 : Hid (Below w.heap.size w w2) := below_trans HB.out hB
  have a0 : ∀ x : Obj, (w2.alloc x).cell? ⟨w.heap.size, 0, none⟩ = some (.int .u64 r.k) := fun x => ((RB.mk c0 c1 z0 z1).alloc x).c0
  have a1 : ∀ x : Obj, (w2.alloc x).cell? ⟨w.heap.size, 1, none⟩ = some (.float .f64 r.x) := fun x => ((RB.mk c0 c1 z0 z1).alloc x).c1
  clear hB R1 R2
  go_wp2_with fail
  go_cut [6] (fun p wx => p = .pointer (some ⟨w2.heap.size, 0, none⟩) ∧ RB wx w2.heap.size r.k (canonW r.x) ∧ Below w2.heap.size w2 wx)
  case first =>
    go_region_held3 (fun wx => wx.cell? ⟨w.heap.size, 0, none⟩ = some (.int .u64 r.k) ∧ wx.cell? ⟨w.heap.size, 1, none⟩ = some (.float .f64 r.x)) (go_keep) (first | (go_at_call 49; refine (rcanon_walk HR.out.2 _).mono ?_; rintro e w' ⟨rfl, rfl⟩))
    all_goals go_wp2_with fail
    all_goals go_meet
    all_goals exact rec_cut _ _ _ _
  case rest =>
    obtain ⟨rfl, hR6, hBc⟩ := hcut
    have R0 := rrel_start HR.out hR6 (HR2.out.below hBc (cell_lt HR2.out.c0)) (below_trans HB2.out hBc) (l := l)
    have HNE : Hid (w.heap.size + 1 < w2.heap.size) := cell_lt HR2.out.c0
    clear a0 a1 c0 c1 z0 z1 hR6 hBc
    go_wp2_with fail
    go_loopw [7] (fun iv wr => RRel w w2.heap.size l (canR r) iv wr) (fun iv _ => l.length - (intOf iv).toNat)
    case atStart => exact R0
    case round =>
      clear R0 HR2 HB2 HB HS
      obtain ⟨k, q, hk, rfl, hq, hcq, hg, h1, h2, hB⟩ := hrel
      have HG : Hid (goS l (canR r) = goS (l.drop k) q) := hg
      have HR1 : Hid (RB wr w2.heap.size q.k q.x) := h1
      have HR2 : Hid (RB wr (w.heap.size + 1) 0 0) := h2
      have HB : Hid (Below w.heap.size w wr) := hB
      have HQ : Hid q.ok := hq
      have HCQ : Hid (canonW q.x = q.x) := hcq
      clear hg h1 h2 hB hq hcq
      by_cases hlt : k < l.length
      · obtain ⟨b, off, rfl, o0, o1, o2⟩ := HO.out.below HB.out k hlt
        obtain ⟨o, hoe⟩ : ∃ o, o = l[k] := ⟨_, rfl⟩
        rw [← hoe] at o0 o1 o2
        have HE : Hid (o = l[k]) := hoe
        have HOK : Hid o.ok := by show o.ok; rw [hoe]; exact HK.out _ (List.getElem_mem hlt)
        have HBB : Hid (isB o = true) := by show _ = _; rw [hoe]; exact check_all HA.out hlt
        clear hoe
        obtain ⟨c0, c1, z0, z1⟩ := HR1.out
        obtain ⟨R, hRe⟩ : ∃ R, R = oneS o q := ⟨_, rfl⟩
        have HRE : Hid (R = oneS o q) := hRe
        clear hRe
        go_wp2_with fail
        go_cut [8, 9] (fun p f wx => ∃ b', p = .pointer (some ⟨b', 0, none⟩) ∧ f = .int .i64 R.1 ∧ RB wx b' R.2.k R.2.x ∧ wr.heap.size ≤ b' ∧ Below wr.heap.size wr wx)
        case first =>
          have k0 : ∀ wx, Below wr.heap.size wr wx → wx.cell? ⟨b, off + k * 3, none⟩ = some (.int .i64 o.K) := fun wx h => by rw [h.cell (p := ⟨b, off + k * 3, none⟩) (cell_lt o0)]; exact o0
          have k1 : ∀ wx, Below wr.heap.size wr wx → wx.cell? ⟨b, off + k * 3 + 1, none⟩ = some (.int .i64 o.N) := fun wx h => by rw [h.cell (p := ⟨b, off + k * 3 + 1, none⟩) (cell_lt o1)]; exact o1
          have k2 : ∀ wx, Below wr.heap.size wr wx → wx.cell? ⟨b, off + k * 3 + 2, none⟩ = some (.float .f64 o.X) := fun wx h => by rw [h.cell (p := ⟨b, off + k * 3 + 2, none⟩) (cell_lt o2)]; exact o2
          have k3 : ∀ wx, Below wr.heap.size wr wx → wx.cell? ⟨w2.heap.size, 0, none⟩ = some (.int .u64 q.k) := fun wx h => by rw [h.cell (p := ⟨w2.heap.size, 0, none⟩) (cell_lt c0)]; exact c0
          have k4 : ∀ wx, Below wr.heap.size wr wx → wx.cell? ⟨w2.heap.size, 1, none⟩ = some (.float .f64 q.x) := fun wx h => by rw [h.cell (p := ⟨w2.heap.size, 1, none⟩) (cell_lt c1)]; exact c1
          go_region_held3 (fun wx => Below wr.heap.size wr wx) (first | assumption | exact (Below.refl _ _).drew | exact Below.drew ((Below.refl _ _).alloc (Nat.le_refl _) _) | exact Below.alloc (by assumption) (Below.size (by assumption)) _ | exact keep_store (by assumption) _ (Nat.le_refl _) _ _)
            (first | (go_at_call 50; refine (rone_walk o q HOK.out HQ.out _).mono ?_; rw [← HRE.out]; rintro e w3 ⟨rfl, hB3⟩; have hS3 : Below wr.heap.size wr w3 := below_trans (by assumption) hB3; try (have q0 := (new_rec hB3).c0; have q1 := (new_rec hB3).c1; have q2 := (new_rec hB3).z0; have q3 := (new_rec hB3).z1)))
          all_goals go_wp2_with fail
          all_goals go_meet
          · exact cut_new hS3 R
          · exact cut_old hS3 ⟨q0, q1, q2, q3⟩ R
        case rest =>
          obtain ⟨b', rfl, rfl, hR8, hb8, hBc⟩ := hcut
          clear o0 o1 o2 c0 c1 z0 z1
          have HT1 : Hid (RB wc w2.heap.size q.k q.x) := HR1.out.below hBc (cell_lt HR1.out.c0)
          have HT2 : Hid (RB wc (w.heap.size + 1) 0 0) := HR2.out.below hBc (cell_lt HR2.out.c0)
          have HTB : Hid (Below w.heap.size w wc) := below_trans HB.out hBc
          clear hBc hb8
          by_cases hf : fateI o q.x = 1
          · have HF : Hid (fateI o q.x = 1) := hf
            obtain rfl : R = (1, nextR o q) := by rw [HRE.out, one_keep HBB.out (by rw [HCQ.out]; exact hf), canR_can HCQ.out]
            clear hf
            obtain ⟨c0, c1, z0, z1⟩ := HT1.out
            obtain ⟨p0, p1, _, _⟩ := hR8
            have R' := rrel_step hlt HQ.out HCQ.out HG.out (by rw [← HE.out]; exact HF.out) HT1.out HT2.out HTB.out HNE.out
            rw [← HE.out] at R'
            go_wp2_with fail
            go_roundw
            case rel => exact R'
            case measure => simp [intOf]; omega
          · have HF : Hid (¬ fateI o q.x = 1) := hf
            obtain rfl : R = (fateI o q.x, ⟨0, 0⟩) := by rw [HRE.out, one_stop HBB.out (by rw [HCQ.out]; exact hf), HCQ.out]
            have b1 : (fateI o q.x != 1) = true := by simpa using hf
            clear hf hR8
            obtain ⟨d0, d1, y0, y1⟩ := HT2.out
            have hE := goS_at hlt HG.out (by rw [← HE.out]; exact HF.out)
            rw [← HE.out] at hE
            have HEE : Hid (goS l (canR r) = (fateI o q.x, zeroR)) := hE
            clear hE
            go_wp2_with fail
            refine bodyPost_ret (v := .tuple #[.agg #[.int .u64 0, .float .f64 0], .int .i64 (fateI o q.x)]) (by simp [results, Try.results43, go_sem, d0, d1, y0, y1]) rfl ⟨by rw [HEE.out]; rfl, ?_⟩
            exact (HTB.out.setCell (p := ⟨w.heap.size + 1, 0, none⟩) (by simp only; omega) _).setCell (p := ⟨w.heap.size + 1, 1, none⟩) (by simp only; omega) _
      · obtain ⟨c0, c1, z0, z1⟩ := HR1.out
        obtain ⟨d0, d1, y0, y1⟩ := HR2.out
        have HEE : Hid (goS l (canR r) = (1, q)) := goS_end hk hlt HG.out
        go_wp2_with fail
        refine bodyPost_ret (v := .tuple #[.agg #[.int .u64 q.k, .float .f64 q.x], .int .i64 1]) (by simp [results, Try.results43, go_sem, d0, d1, y0, y1]) rfl ⟨by rw [HEE.out], ?_⟩
        exact (HB.out.setCell (p := ⟨w.heap.size + 1, 0, none⟩) (by simp only; omega) _).setCell (p := ⟨w.heap.size + 1, 1, none⟩) (by simp only; omega) _

theorem rrun_walk {v : Value} {l : List Stp} {w : World} (r : Rcd) (hr : r.ok) (ho : Ov w v l) :
    Calls Try.prog 43 #[v, .agg #[.int .u64 r.k, .float .f64 r.x]] w fun e w' =>
      e = .returned (.tuple #[.agg #[.int .u64 (runS l r).2.k, .float .f64 (runS l r).2.x], .int .i64 (runS l r).1]) ∧ Below w.heap.size w w' := by
  obtain ⟨⟨ao, cap, rfl, h1, h2, h3, h4⟩, h5⟩ := ho
  unfold runS
  cases hc : checkB l
  · exact rrun_bad r (by omega) h4 hc
  · exact rrun_good r hr (by omega) h4 h5 hc

theorem rkey_walk {v : Value} {l : List Stp} {w : World} (r : Rcd) (hr : r.ok) (ho : Ov w v l) :
    Calls Try.prog 34 #[v, .agg #[.int .u64 r.k, .float .f64 r.x]] w fun e w' =>
      e = .returned (.tuple #[.int .u64 (runS l r).2.k, .bool ((runS l r).1 == 1)]) ∧ Below w.heap.size w w' := by
  have HO : Hid (Ov w v l) := ho
  have HR : Hid r.ok := hr
  clear ho hr
  go_enter Try.func34, Try.ntmps34
  go_wp2_with fail
  refine (rrun_walk r HR.out (HO.out.below (below_alloc _ _))).mono ?_
  rintro e w2 ⟨rfl, hB⟩
  have HB : Hid (Below w.heap.size w w2) := below_trans (below_alloc _ _) hB
  clear hB
  go_wp2_with fail
  go_ret2
  exact ⟨rfl, HB.out.alloc HB.out.size _⟩
end Go.Proofs.Ytjkhegekojflhab
