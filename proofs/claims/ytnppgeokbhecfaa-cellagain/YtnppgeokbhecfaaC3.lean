/- The walk of CellRow. -/
import Derived.Test.YtnppgeokbhecfaaCj
namespace Go.Proofs.Ytnppgeokbhecfaa
open Ieee Go.RowKit

/-- A block that holds a round. -/
structure RoB (w : World) (x : Nat) (r : Ro) : Prop where
  c0 : w.cell? ⟨x, 0, none⟩ = some (.bool r.p.h)
  c1 : w.cell? ⟨x, 1, none⟩ = some (.int .u64 r.p.b)
  c2 : w.cell? ⟨x, 2, none⟩ = some (.bool r.w.h)
  c3 : w.cell? ⟨x, 3, none⟩ = some (.int .u64 r.w.b)
  c4 : w.cell? ⟨x, 4, none⟩ = some (.bool r.f)
  c5 : w.cell? ⟨x, 5, none⟩ = some (.bool r.m)

theorem RoB.below {w w' : World} {x B : Nat} {r : Ro} (h : RoB w x r) (hb : Below B w w') (hl : x < B) : RoB w' x r :=
  ⟨by rw [hb.cell (p := ⟨x, 0, none⟩) hl]; exact h.c0, by rw [hb.cell (p := ⟨x, 1, none⟩) hl]; exact h.c1, by rw [hb.cell (p := ⟨x, 2, none⟩) hl]; exact h.c2, by rw [hb.cell (p := ⟨x, 3, none⟩) hl]; exact h.c3, by rw [hb.cell (p := ⟨x, 4, none⟩) hl]; exact h.c4, by rw [hb.cell (p := ⟨x, 5, none⟩) hl]; exact h.c5⟩

theorem rob_new (w : World) (r : Ro) : RoB (w.alloc (Obj.cells #[.bool r.p.h, .int .u64 r.p.b, .bool r.w.h, .int .u64 r.w.b, .bool r.f, .bool r.m] 51)) w.heap.size r := by
  constructor <;> simp [go_sem]

theorem RoB.other {w : World} {x : Nat} {r : Ro} (h : RoB w x r) {p : Addr} (hne : x ≠ p.block) (u : Value) : RoB (w.setCell p u) x r := by
  obtain ⟨c0, c1, c2, c3, c4, c5⟩ := h
  refine ⟨?_, ?_, ?_, ?_, ?_, ?_⟩
  all_goals (rw [World.cell?_setCell_other _ _ _ _ (by rintro ⟨⟩; exact hne rfl)]; assumption)

theorem RoB.six {w : World} {x b : Nat} {r : Ro} (h : RoB w x r) (hne : x ≠ b) (d : Cl) : RoB ((((((w.setCell ⟨b, 0, none⟩ (.int .u64 d.k)).setCell ⟨b, 1, none⟩ (.bool d.p.h)).setCell ⟨b, 2, none⟩ (.int .u64 d.p.b)).setCell ⟨b, 3, none⟩ (.bool d.c.h)).setCell ⟨b, 4, none⟩ (.int .u64 d.c.b)).setCell ⟨b, 5, none⟩ (.int .i64 d.n)) x r :=
  (((((h.other hne _).other hne _).other hne _).other hne _).other hne _).other hne _

theorem VB.six {w : World} {x b : Nat} {v : Vl} (h : VB w x v) (hne : x ≠ b) (d : Cl) : VB ((((((w.setCell ⟨b, 0, none⟩ (.int .u64 d.k)).setCell ⟨b, 1, none⟩ (.bool d.p.h)).setCell ⟨b, 2, none⟩ (.int .u64 d.p.b)).setCell ⟨b, 3, none⟩ (.bool d.c.h)).setCell ⟨b, 4, none⟩ (.int .u64 d.c.b)).setCell ⟨b, 5, none⟩ (.int .i64 d.n)) x v :=
  (((((h.other hne _).other hne _).other hne _).other hne _).other hne _).other hne _

/-- A cell behind the batches so far: its value is all of them. -/
structure Cg (k : Int) (n : Int) (c : Cl) (a : Vl) : Prop where
  ok : c.ok
  fp : fitV k c.p = c.p
  fc : fitV k c.c = c.c
  ca : c.c = a
  n0 : 0 ≤ c.n
  n1 : c.n ≤ n

theorem Cg.app {k n : Int} {c : Cl} {a : Vl} (h : Cg k n c a) (hk : knownB k = true) (v : Vl) : appC k c (n + 1) v = ⟨c.k, a, mergeV k a v, n + 1⟩ ∧ appI k c (n + 1) = 0 := by
  have h0 := h.n0
  have h1 := h.n1
  rw [app_up hk (by omega) (by omega), app_ok hk (by omega) (by omega), h.ca]
  exact ⟨rfl, rfl⟩

theorem Cg.aok {k n : Int} {c : Cl} {a : Vl} (h : Cg k n c a) : a.ok := by rw [← h.ca]; exact h.ok.2
theorem Cg.af {k n : Int} {c : Cl} {a : Vl} (h : Cg k n c a) : fitV k a = a := by rw [← h.ca]; exact h.fc

theorem Cg.fail {k n : Int} {c : Cl} {a : Vl} (h : Cg k n c a) (hn : 0 ≤ n) : Cg k n ⟨c.k, a, a, n⟩ a := ⟨⟨h.aok, h.aok⟩, h.af, h.af, rfl, hn, Int.le_refl _⟩

theorem Cg.go {k n : Int} {c : Cl} {a : Vl} (h : Cg k n c a) (hn : 0 ≤ n) {v : Vl} (hv : v.ok) : Cg k (n + 1) ⟨c.k, a, mergeV k a v, n + 1⟩ (mergeV k a v) :=
  ⟨⟨h.aok, mergeV_ok k h.aok hv⟩, h.af, fit_merge k _ _, rfl, by show 0 ≤ n + 1; omega, Int.le_refl _⟩

theorem Cg.miss {k n : Int} {c : Cl} {a : Vl} (h : Cg k n c a) : Cg k (n + 1) c a := ⟨h.ok, h.fp, h.fc, h.ca, h.n0, by have := h.n1; omega⟩

theorem cg_start (k : Int) : Cg k 0 ⟨7, noV, noV, 0⟩ noV := ⟨⟨noV_ok, noV_ok⟩, fitV_no k, fitV_no k, rfl, Int.le_refl _, Int.le_refl _⟩

/-- Where the loop stands. -/
def Rl (w : World) (cb : Nat) (k : Int) (l : List Ro) (iv : Value) (wr : World) : Prop :=
  ∃ (i : Nat) (c : Cl) (a : Vl), i ≤ l.length ∧ iv = .int .i64 i ∧ CB wr cb c ∧ VB wr (cb + 1) a ∧ Cg k i c a ∧ Below w.heap.size w wr

set_option maxRecDepth 100000 in
set_option maxHeartbeats 16000000 in
theorem cellrow_walk (k : Int) {v : Value} {l : List Ro} {w : World} (hv : Gv w v 6 rouF l) (ho : ∀ x ∈ l, x.ok) (hs : l.length ≤ 1048576) :
    Calls Try.prog 6 #[.int .i64 k, v] w fun e w' => e = .returned (.bool true) ∧ Below w.heap.size w w' := by
  obtain ⟨ao, cap, rfl, _, _, _, hgl⟩ := hv
  have HGL : Hid (Gl w ao 6 rouF l) := hgl
  have HO : Hid (∀ x ∈ l, x.ok) := ho
  have HS : Hid (l.length ≤ 1048576) := hs
  have hli : (l.length : Int) ≤ 1048576 := by omega
  clear hgl ho hs
  have hg1 := guard_val
  have hg2 := guard_cell
  go_enter Try.func6, Try.ntmps6
  go_wp2_with fail
  refine (awake_walk _).mono ?_
  rintro e w2 ⟨rfl, hB2⟩
  cases hk : knownB k
  · have HAI : Hid (appI k ⟨0, ⟨false, 0⟩, ⟨false, 0⟩, 0⟩ 1 = 1) := app_one hk
    have HAC : Hid (appC k ⟨0, ⟨false, 0⟩, ⟨false, 0⟩, 0⟩ 1 ⟨true, 1⟩ = ⟨0, ⟨false, 0⟩, ⟨false, 0⟩, 0⟩) := app_bad (by rw [HAI.out]; omega)
    go_wp2_with (go_at_call 20; refine (known_walk _ _).mono ?_; rintro e w' ⟨rfl, hw⟩; replace hw := hw.symm; subst hw)
    refine (some_walk 1 _).mono ?_
    rintro e w3 ⟨rfl, hB3⟩
    go_wp2_with fail
    refine (apply_walk k (c := ⟨0, ⟨false, 0⟩, ⟨false, 0⟩, 0⟩) ⟨noV_ok, noV_ok⟩ 1 (v := ⟨true, 1⟩) (ok_lit (by omega)) _).mono ?_
    rw [HAC.out, HAI.out]
    rintro e w4 ⟨rfl, hB4⟩
    go_wp2_with fail
    go_ret
    exact ⟨rfl, below_trans (below_trans hB2 (below_trans hB3 hB4)) (below_alloc _ _)⟩
  have HK : Hid (knownB k = true) := hk
  go_upto_region 8 with (go_at_call 20; refine (known_walk _ _).mono ?_; rintro e w' ⟨rfl, hw⟩; replace hw := hw.symm; subst hw)
  have HC0 : Hid (CB ((w2.alloc (Obj.cells #[.int .u64 7, .bool false, .int .u64 0, .bool false, .int .u64 0, .int .i64 0] 26)).alloc (Obj.cells #[.bool false, .int .u64 0] 24)) w2.heap.size ⟨7, noV, noV, 0⟩) := (cb_new w2 ⟨7, noV, noV, 0⟩).below (below_alloc _ _) (by rw [size_alloc]; omega)
  have HA0 : Hid (VB ((w2.alloc (Obj.cells #[.int .u64 7, .bool false, .int .u64 0, .bool false, .int .u64 0, .int .i64 0] 26)).alloc (Obj.cells #[.bool false, .int .u64 0] 24)) (w2.heap.size + 1) noV) := by
    have h := vb_zero (w2.alloc (Obj.cells #[.int .u64 7, .bool false, .int .u64 0, .bool false, .int .u64 0, .int .i64 0] 26))
    rw [size_alloc] at h
    exact h
  have HB0 : Hid (Below w.heap.size w ((w2.alloc (Obj.cells #[.int .u64 7, .bool false, .int .u64 0, .bool false, .int .u64 0, .int .i64 0] 26)).alloc (Obj.cells #[.bool false, .int .u64 0] 24))) := below_trans hB2 (below_two _ _ _)
  generalize (w2.alloc (Obj.cells #[.int .u64 7, .bool false, .int .u64 0, .bool false, .int .u64 0, .int .i64 0] 26)).alloc (Obj.cells #[.bool false, .int .u64 0] 24) = w3 at HC0 HA0 HB0 ⊢
  have HCBL : Hid (w.heap.size ≤ w2.heap.size) := hB2.size
  clear hB2
  go_wp2_with fail
  go_loopw [9] (fun iv wr => Rl w w2.heap.size k l iv wr) (fun iv _ => l.length - (intOf iv).toNat)
  case atStart => exact ⟨0, _, _, Nat.zero_le _, rfl, HC0.out, HA0.out, cg_start k, HB0.out⟩
  case round =>
    clear HC0 HA0 HB0
    obtain ⟨i, c, a, hil, rfl, hC, hA, hG, hB⟩ := hrel
    have HC : Hid (CB wr w2.heap.size c) := hC
    have HA : Hid (VB wr (w2.heap.size + 1) a) := hA
    have HG : Hid (Cg k i c a) := hG
    have HB : Hid (Below w.heap.size w wr) := hB
    clear hC hA hG hB
    by_cases hlt : i < l.length
    · obtain ⟨rb, roff, rfl, hrc⟩ := HGL.out i hlt
      obtain ⟨r, hr⟩ : ∃ r, r = l[i] := ⟨_, rfl⟩
      rw [← hr] at hrc
      have HRO : Hid r.ok := by rw [hr]; exact HO.out _ (List.getElem_mem _)
      have g0 : wr.cell? ⟨rb, roff + i * 6, none⟩ = some (.bool r.p.h) := by
        have h1 : w.cell? ⟨rb, roff + i * 6, none⟩ = some (.bool r.p.h) := by simpa [rouF, Nat.add_assoc] using hrc 0 (by omega)
        rw [HB.out.cell (p := ⟨rb, roff + i * 6, none⟩) (cell_lt h1)]
        exact h1
      have g1 : wr.cell? ⟨rb, roff + i * 6 + 1, none⟩ = some (.int .u64 r.p.b) := by
        have h1 : w.cell? ⟨rb, roff + i * 6 + 1, none⟩ = some (.int .u64 r.p.b) := by simpa [rouF, Nat.add_assoc] using hrc 1 (by omega)
        rw [HB.out.cell (p := ⟨rb, roff + i * 6 + 1, none⟩) (cell_lt h1)]
        exact h1
      have g2 : wr.cell? ⟨rb, roff + i * 6 + 2, none⟩ = some (.bool r.w.h) := by
        have h1 : w.cell? ⟨rb, roff + i * 6 + 2, none⟩ = some (.bool r.w.h) := by simpa [rouF, Nat.add_assoc] using hrc 2 (by omega)
        rw [HB.out.cell (p := ⟨rb, roff + i * 6 + 2, none⟩) (cell_lt h1)]
        exact h1
      have g3 : wr.cell? ⟨rb, roff + i * 6 + 3, none⟩ = some (.int .u64 r.w.b) := by
        have h1 : w.cell? ⟨rb, roff + i * 6 + 3, none⟩ = some (.int .u64 r.w.b) := by simpa [rouF, Nat.add_assoc] using hrc 3 (by omega)
        rw [HB.out.cell (p := ⟨rb, roff + i * 6 + 3, none⟩) (cell_lt h1)]
        exact h1
      have g4 : wr.cell? ⟨rb, roff + i * 6 + 4, none⟩ = some (.bool r.f) := by
        have h1 : w.cell? ⟨rb, roff + i * 6 + 4, none⟩ = some (.bool r.f) := by simpa [rouF, Nat.add_assoc] using hrc 4 (by omega)
        rw [HB.out.cell (p := ⟨rb, roff + i * 6 + 4, none⟩) (cell_lt h1)]
        exact h1
      have g5 : wr.cell? ⟨rb, roff + i * 6 + 5, none⟩ = some (.bool r.m) := by
        have h1 : w.cell? ⟨rb, roff + i * 6 + 5, none⟩ = some (.bool r.m) := by simpa [rouF, Nat.add_assoc] using hrc 5 (by omega)
        rw [HB.out.cell (p := ⟨rb, roff + i * 6 + 5, none⟩) (cell_lt h1)]
        exact h1
      clear hrc hr
      have hlti : (i : Int) < (l.length : Int) := by omega
      have hsub : IntKind.i64.wrap ((i : Int) + 1 - 1) = (i : Int) := by rw [IntKind.wrap_i64]; omega
      have hsub2 : IntKind.i64.wrap (i : Int) = (i : Int) := by rw [IntKind.wrap_i64]; omega
      go_upto_region 13 with fail
      clear g0 g1 g2 g3 g4 g5
      have HR1 : Hid (RoB (wr.alloc (Obj.cells #[.bool r.p.h, .int .u64 r.p.b, .bool r.w.h, .int .u64 r.w.b, .bool r.f, .bool r.m] 51)) wr.heap.size r) := rob_new wr r
      have hBr : Below wr.heap.size wr (wr.alloc (Obj.cells #[.bool r.p.h, .int .u64 r.p.b, .bool r.w.h, .int .u64 r.w.b, .bool r.f, .bool r.m] 51)) := below_alloc _ _
      generalize wr.alloc (Obj.cells #[.bool r.p.h, .int .u64 r.p.b, .bool r.w.h, .int .u64 r.w.b, .bool r.f, .bool r.m] 51) = w4 at HR1 hBr ⊢
      have HC4 : Hid (CB w4 w2.heap.size c) := HC.out.below hBr (cell_lt HC.out.c0)
      have HA4 : Hid (VB w4 (w2.heap.size + 1) a) := HA.out.below hBr (cell_lt HA.out.c0)
      have HB4 : Hid (Below w.heap.size w w4) := below_trans HB.out hBr
      have HRX : Hid (w2.heap.size + 1 < wr.heap.size) := cell_lt HA.out.c0
      obtain ⟨rx, hrx⟩ : ∃ rx, rx = wr.heap.size := ⟨_, rfl⟩
      rw [← hrx] at HR1 HRX ⊢
      clear hBr HC HA HB hrx
      obtain ⟨r0, r1, r2, r3, r4, r5⟩ := HR1.out
      go_upto_if 45 with fail
      go_cut [12, 13] (fun _ _ wx => ∃ c1, CB wx w2.heap.size c1 ∧ VB wx (w2.heap.size + 1) a ∧ RoB wx rx r ∧ Cg k i c1 a ∧ Below w.heap.size w wx)
      case first =>
        cases hrf : r.f
        · rw [hrf] at r4
          go_wp2_with fail
          go_meet
          exact ⟨c, HC4.out, HA4.out, HR1.out, HG.out, HB4.out⟩
        · rw [hrf] at r4
          obtain ⟨M, hM⟩ : ∃ M, M = mergeV k a r.w := ⟨_, rfl⟩
          have HAC : Hid (appC k c ((i : Int) + 1) r.w = ⟨c.k, a, M, (i : Int) + 1⟩) := by rw [hM]; exact (HG.out.app HK.out r.w).1
          have HAI : Hid (appI k c ((i : Int) + 1) = 0) := (HG.out.app HK.out r.w).2
          clear hM
          obtain ⟨c0, c1, c2, c3, c4, c5, zz⟩ := HC4.out
          go_upto_region 15 with (go_at_call 9; refine (apply_walk k HG.out.ok ((i : Int) + 1) HRO.out.2 _).mono ?_; rw [HAC.out, HAI.out]; rintro e w5 ⟨rfl, hB5⟩)
          clear c0 c1 c2 c3 c4 c5 zz r0 r1 r2 r3 r4 r5
          have HD : Hid (CB (w5.alloc (Obj.cells #[.int .u64 c.k, .bool a.h, .int .u64 a.b, .bool M.h, .int .u64 M.b, .int .i64 ((i : Int) + 1)] 26)) w5.heap.size ⟨c.k, a, M, (i : Int) + 1⟩) := cb_new w5 ⟨c.k, a, M, (i : Int) + 1⟩
          have hBd : Below w4.heap.size w4 (w5.alloc (Obj.cells #[.int .u64 c.k, .bool a.h, .int .u64 a.b, .bool M.h, .int .u64 M.b, .int .i64 ((i : Int) + 1)] 26)) := below_trans hB5 (below_alloc _ _)
          generalize w5.alloc (Obj.cells #[.int .u64 c.k, .bool a.h, .int .u64 a.b, .bool M.h, .int .u64 M.b, .int .i64 ((i : Int) + 1)] 26) = w6 at HD hBd ⊢
          have HC6 : Hid (CB w6 w2.heap.size c) := HC4.out.below hBd (cell_lt HC4.out.c0)
          have HA6 : Hid (VB w6 (w2.heap.size + 1) a) := HA4.out.below hBd (cell_lt HA4.out.c0)
          have HR6 : Hid (RoB w6 rx r) := HR1.out.below hBd (cell_lt HR1.out.c0)
          have HB6 : Hid (Below w.heap.size w w6) := below_trans HB4.out hBd
          clear hBd hB5 HC4 HA4 HR1 HB4
          have l0 : ∀ wx, Below w6.heap.size w6 wx → wx.cell? ⟨w5.heap.size, 0, none⟩ = some (.int .u64 c.k) := fun wx h => (HD.out.below h (cell_lt HD.out.c0)).c0
          have l1 : ∀ wx, Below w6.heap.size w6 wx → wx.cell? ⟨w5.heap.size, 1, none⟩ = some (.bool a.h) := fun wx h => (HD.out.below h (cell_lt HD.out.c0)).c1
          have l2 : ∀ wx, Below w6.heap.size w6 wx → wx.cell? ⟨w5.heap.size, 2, none⟩ = some (.int .u64 a.b) := fun wx h => (HD.out.below h (cell_lt HD.out.c0)).c2
          have l3 : ∀ wx, Below w6.heap.size w6 wx → wx.cell? ⟨w5.heap.size, 3, none⟩ = some (.bool M.h) := fun wx h => (HD.out.below h (cell_lt HD.out.c0)).c3
          have l4 : ∀ wx, Below w6.heap.size w6 wx → wx.cell? ⟨w5.heap.size, 4, none⟩ = some (.int .u64 M.b) := fun wx h => (HD.out.below h (cell_lt HD.out.c0)).c4
          have l5 : ∀ wx, Below w6.heap.size w6 wx → wx.cell? ⟨w5.heap.size, 5, none⟩ = some (.int .i64 ((i : Int) + 1)) := fun wx h => (HD.out.below h (cell_lt HD.out.c0)).c5
          have v0 : ∀ wx, Below w6.heap.size w6 wx → wx.cell? ⟨w2.heap.size + 1, 0, none⟩ = some (.bool a.h) := fun wx h => (HA6.out.below h (cell_lt HA6.out.c0)).c0
          have v1 : ∀ wx, Below w6.heap.size w6 wx → wx.cell? ⟨w2.heap.size + 1, 1, none⟩ = some (.int .u64 a.b) := fun wx h => (HA6.out.below h (cell_lt HA6.out.c0)).c1
          have n1 := neq_val a
          have HRS : Hid (resC ⟨c.k, a, M, (i : Int) + 1⟩ i = a) := if_neg (by show ¬ (i : Int) + 1 ≤ i; omega)
          go_cut [64] (fun g wx => g = .bool false ∧ Below w6.heap.size w6 wx)
          case first =>
            refine wp_region_noPanic ?_
            refine wp_region_held_drew (S := fun wx => Below w6.heap.size w6 wx) (by kernel_rfl) ?_ (fun hHeld => ?_)
            · exact (Below.refl _ _).drew
            refine wpAnyH_take (i := 0) (oi := ⟨some 55, _, _, _, _, _⟩) (v := ?_) rfl (by kernel_rfl) (by kernel_rfl) (by kernel_rfl) (fun _ _ _ h => h) (Or.inl ⟨by rfl, ?_⟩) hHeld ?_
            rotate_left
            · intro w hSw; (try dsimp only at hSw); go_simp; all_goals (with_reducible rfl)
            try simp only [Act.put, List.setIfInBounds_toArray, List.set_cons_zero, List.set_cons_succ]
            refine wpAnyH_take (i := 1) (oi := ⟨some 56, _, _, _, _, _⟩) (v := ?_) rfl (by kernel_rfl) (by kernel_rfl) (by kernel_rfl) (fun _ _ _ h => h) (Or.inl ⟨by rfl, ?_⟩) hHeld ?_
            rotate_left
            · intro w hSw; (try dsimp only at hSw); go_simp; all_goals (with_reducible rfl)
            try simp only [Act.put, List.setIfInBounds_toArray, List.set_cons_zero, List.set_cons_succ]
            refine wpAnyH_take (i := 2) (oi := ⟨some 57, _, _, _, _, _⟩) (v := ?_) rfl (by kernel_rfl) (by kernel_rfl) (by kernel_rfl) (fun _ _ _ h => h) (Or.inl ⟨by rfl, ?_⟩) hHeld ?_
            rotate_left
            · intro w hSw; (try dsimp only at hSw); go_simp; all_goals (with_reducible rfl)
            try simp only [Act.put, List.setIfInBounds_toArray, List.set_cons_zero, List.set_cons_succ]
            refine wpAnyH_take (i := 3) (oi := ⟨some 58, _, _, _, _, _⟩) (v := ?_) rfl (by kernel_rfl) (by kernel_rfl) (by kernel_rfl) (fun _ _ _ h => h) (Or.inl ⟨by rfl, ?_⟩) hHeld ?_
            rotate_left
            · intro w hSw; (try dsimp only at hSw); go_simp; all_goals (with_reducible rfl)
            try simp only [Act.put, List.setIfInBounds_toArray, List.set_cons_zero, List.set_cons_succ]
            refine wpAnyH_take (i := 4) (oi := ⟨some 59, _, _, _, _, _⟩) (v := ?_) rfl (by kernel_rfl) (by kernel_rfl) (by kernel_rfl) (fun _ _ _ h => h) (Or.inl ⟨by rfl, ?_⟩) hHeld ?_
            rotate_left
            · intro w hSw; (try dsimp only at hSw); go_simp; all_goals (with_reducible rfl)
            try simp only [Act.put, List.setIfInBounds_toArray, List.set_cons_zero, List.set_cons_succ]
            refine wpAnyH_take (i := 5) (oi := ⟨some 60, _, _, _, _, _⟩) (v := ?_) rfl (by kernel_rfl) (by kernel_rfl) (by kernel_rfl) (fun _ _ _ h => h) (Or.inl ⟨by rfl, ?_⟩) hHeld ?_
            rotate_left
            · intro w hSw; (try dsimp only at hSw); go_simp; all_goals (with_reducible rfl)
            try simp only [Act.put, List.setIfInBounds_toArray, List.set_cons_zero, List.set_cons_succ]
            refine wpAnyH_take (i := 7) (oi := ⟨some 62, _, _, _, _, _⟩) (v := ?_) rfl (by kernel_rfl) (by kernel_rfl) (by kernel_rfl) (fun _ _ _ h => h) (Or.inl ⟨by rfl, ?_⟩) hHeld ?_
            rotate_left
            · intro w hSw; (try dsimp only at hSw); go_simp; all_goals (with_reducible rfl)
            try simp only [Act.put, List.setIfInBounds_toArray, List.set_cons_zero, List.set_cons_succ]
            refine wpAnyH_ready (rs := [6]) (by kernel_rfl) (by simp) ?_
            refine AllReadyH.cons (o := ⟨some 61, _, _, _, _, _⟩) rfl (fun K hK => ?_) AllReadyH.nil
            go_simp
            refine (resolve_walk ⟨c.k, a, M, (i : Int) + 1⟩ i _).mono ?_
            rw [HRS.out]
            rintro e w9 ⟨rfl, hB9⟩
            have hS9 := below_trans hHeld hB9
            clear hB9 hHeld
            go_simp
            refine hK.out _ _ ?_ (fun hHeld => ?_)
            · exact hS9
            clear hK K
            try simp only [Act.put, List.setIfInBounds_toArray, List.set_cons_zero, List.set_cons_succ]
            refine wpAnyH_take (i := 8) (oi := ⟨some 63, _, _, _, _, _⟩) (v := ?_) rfl (by kernel_rfl) (by kernel_rfl) (by kernel_rfl) (fun _ _ _ h => h) (Or.inl ⟨by rfl, ?_⟩) hHeld ?_
            rotate_left
            · intro w hSw; (try dsimp only at hSw); go_simp; all_goals (with_reducible rfl)
            try simp only [Act.put, List.setIfInBounds_toArray, List.set_cons_zero, List.set_cons_succ]
            refine wpAnyH_take (i := 9) (oi := ⟨some 64, _, _, _, _, _⟩) (v := ?_) rfl (by kernel_rfl) (by kernel_rfl) (by kernel_rfl) (fun _ _ _ h => h) (Or.inl ⟨by rfl, ?_⟩) hHeld ?_
            rotate_left
            · intro w hSw; (try dsimp only at hSw); go_simp; all_goals (with_reducible rfl)
            try simp only [Act.put, List.setIfInBounds_toArray, List.set_cons_zero, List.set_cons_succ]
            refine wpAnyH_done (by kernel_rfl) ?_ _
            refine NoPanic.normal ?_
            go_wp2_with fail
            go_meet
            exact ⟨rfl, hHeld⟩
          case rest =>
            clear l0 l1 l2 l3 l4 l5 v0 v1
            obtain ⟨rfl, hBc⟩ := hcut
            have HD7 : Hid (CB wc w5.heap.size ⟨c.k, a, M, (i : Int) + 1⟩) := HD.out.below hBc (cell_lt HD.out.c0)
            have HC7 : Hid (CB wc w2.heap.size c) := HC6.out.below hBc (cell_lt HC6.out.c0)
            have HA7 : Hid (VB wc (w2.heap.size + 1) a) := HA6.out.below hBc (cell_lt HA6.out.c0)
            have HR7 : Hid (RoB wc rx r) := HR6.out.below hBc (cell_lt HR6.out.c0)
            have HB7 : Hid (Below w.heap.size w wc) := below_trans HB6.out hBc
            clear hBc HD HC6 HA6 HR6 HB6
            obtain ⟨d0, d1, d2, d3, d4, d5, yy⟩ := HD7.out
            obtain ⟨c0, c1, c2, c3, c4, c5, zz⟩ := HC7.out
            have HRV : Hid (revC ⟨c.k, a, M, (i : Int) + 1⟩ ((i : Int) + 1) = ⟨c.k, a, a, (i : Int)⟩) := by
              show _ = _
              rw [rev_at (c := ⟨c.k, a, M, (i : Int) + 1⟩) (by show 1 ≤ (i : Int) + 1; omega)]
              show Cl.mk c.k a a ((i : Int) + 1 - 1) = _
              rw [Int.add_sub_cancel]
            go_wp2_with (go_at_call 11; refine (revert_walk ⟨c.k, a, M, (i : Int) + 1⟩ (b := (i : Int) + 1) (by omega) _).mono ?_; rw [HRV.out]; rintro e w8 ⟨rfl, hB8⟩; obtain ⟨c0, c1, c2, c3, c4, c5, zz⟩ := HC7.out.below hB8 (cell_lt HC7.out.c0))
            go_meet
            exact ⟨⟨c.k, a, a, (i : Int)⟩, CB.set (HC7.out.below hB8 (cell_lt HC7.out.c0)) ⟨c.k, a, a, (i : Int)⟩, VB.six (HA7.out.below hB8 (cell_lt HA7.out.c0)) (by omega) ⟨c.k, a, a, (i : Int)⟩, RoB.six (HR7.out.below hB8 (cell_lt HR7.out.c0)) (by have := HRX.out; omega) ⟨c.k, a, a, (i : Int)⟩, HG.out.fail (by omega), keep_cell (below_trans HB7.out hB8) _ HCBL.out _ _ _ _ _ _⟩
      case rest =>
        clear HC4 HA4 HR1 HB4 HG r0 r1 r2 r3 r4 r5
        obtain ⟨c1, hC, hA, hR, hG, hB⟩ := hcut
        obtain ⟨w5, hw5⟩ : ∃ w5, w5 = wc := ⟨_, rfl⟩
        rw [← hw5] at hC hA hR hB ⊢
        clear hw5
        have HC5 : Hid (CB w5 w2.heap.size c1) := hC
        have HA5 : Hid (VB w5 (w2.heap.size + 1) a) := hA
        have HR5 : Hid (RoB w5 rx r) := hR
        have HG5 : Hid (Cg k i c1 a) := hG
        have HB5 : Hid (Below w.heap.size w w5) := hB
        clear hC hA hR hG hB
        have l0 : ∀ wx, Below w5.heap.size w5 wx → wx.cell? ⟨w2.heap.size, 0, none⟩ = some (.int .u64 c1.k) := fun wx h => (HC5.out.below h (cell_lt HC5.out.c0)).c0
        have l1 : ∀ wx, Below w5.heap.size w5 wx → wx.cell? ⟨w2.heap.size, 1, none⟩ = some (.bool c1.p.h) := fun wx h => (HC5.out.below h (cell_lt HC5.out.c0)).c1
        have l2 : ∀ wx, Below w5.heap.size w5 wx → wx.cell? ⟨w2.heap.size, 2, none⟩ = some (.int .u64 c1.p.b) := fun wx h => (HC5.out.below h (cell_lt HC5.out.c0)).c2
        have l3 : ∀ wx, Below w5.heap.size w5 wx → wx.cell? ⟨w2.heap.size, 3, none⟩ = some (.bool c1.c.h) := fun wx h => (HC5.out.below h (cell_lt HC5.out.c0)).c3
        have l4 : ∀ wx, Below w5.heap.size w5 wx → wx.cell? ⟨w2.heap.size, 4, none⟩ = some (.int .u64 c1.c.b) := fun wx h => (HC5.out.below h (cell_lt HC5.out.c0)).c4
        have l5 : ∀ wx, Below w5.heap.size w5 wx → wx.cell? ⟨w2.heap.size, 5, none⟩ = some (.int .i64 c1.n) := fun wx h => (HC5.out.below h (cell_lt HC5.out.c0)).c5
        have v0 : ∀ wx, Below w5.heap.size w5 wx → wx.cell? ⟨w2.heap.size + 1, 0, none⟩ = some (.bool a.h) := fun wx h => (HA5.out.below h (cell_lt HA5.out.c0)).c0
        have v1 : ∀ wx, Below w5.heap.size w5 wx → wx.cell? ⟨w2.heap.size + 1, 1, none⟩ = some (.int .u64 a.b) := fun wx h => (HA5.out.below h (cell_lt HA5.out.c0)).c1
        have n1 := neq_val a
        have HRS : Hid (resC c1 i = a) := by show _ = _; rw [← HG5.out.ca]; exact if_pos HG5.out.n1
        go_upto_region 18 with fail
        go_cut [73] (fun g wx => g = .bool false ∧ Below w5.heap.size w5 wx)
        case first =>
          refine wp_region_noPanic ?_
          refine wp_region_held_drew (S := fun wx => Below w5.heap.size w5 wx) (by kernel_rfl) ?_ (fun hHeld => ?_)
          · exact (Below.refl _ _).drew
          refine wpAnyH_take (i := 0) (oi := ⟨some 68, _, _, _, _, _⟩) (v := ?_) rfl (by kernel_rfl) (by kernel_rfl) (by kernel_rfl) (fun _ _ _ h => h) (Or.inl ⟨by rfl, ?_⟩) hHeld ?_
          rotate_left
          · intro w hSw; (try dsimp only at hSw); go_simp; all_goals (with_reducible rfl)
          try simp only [Act.put, List.setIfInBounds_toArray, List.set_cons_zero, List.set_cons_succ]
          refine wpAnyH_take (i := 1) (oi := ⟨some 69, _, _, _, _, _⟩) (v := ?_) rfl (by kernel_rfl) (by kernel_rfl) (by kernel_rfl) (fun _ _ _ h => h) (Or.inl ⟨by rfl, ?_⟩) hHeld ?_
          rotate_left
          · intro w hSw; (try dsimp only at hSw); go_simp; all_goals (with_reducible rfl)
          try simp only [Act.put, List.setIfInBounds_toArray, List.set_cons_zero, List.set_cons_succ]
          refine wpAnyH_take (i := 2) (oi := ⟨some 70, _, _, _, _, _⟩) (v := ?_) rfl (by kernel_rfl) (by kernel_rfl) (by kernel_rfl) (fun _ _ _ h => h) (Or.inl ⟨by rfl, ?_⟩) hHeld ?_
          rotate_left
          · intro w hSw; (try dsimp only at hSw); go_simp; all_goals (with_reducible rfl)
          try simp only [Act.put, List.setIfInBounds_toArray, List.set_cons_zero, List.set_cons_succ]
          refine wpAnyH_take (i := 4) (oi := ⟨some 72, _, _, _, _, _⟩) (v := ?_) rfl (by kernel_rfl) (by kernel_rfl) (by kernel_rfl) (fun _ _ _ h => h) (Or.inl ⟨by rfl, ?_⟩) hHeld ?_
          rotate_left
          · intro w hSw; (try dsimp only at hSw); go_simp; all_goals (with_reducible rfl)
          try simp only [Act.put, List.setIfInBounds_toArray, List.set_cons_zero, List.set_cons_succ]
          refine wpAnyH_ready (rs := [3]) (by kernel_rfl) (by simp) ?_
          refine AllReadyH.cons (o := ⟨some 71, _, _, _, _, _⟩) rfl (fun K hK => ?_) AllReadyH.nil
          go_simp
          refine (resolve_walk c1 i _).mono ?_
          rw [HRS.out]
          rintro e w9 ⟨rfl, hB9⟩
          have hS9 := below_trans hHeld hB9
          clear hB9 hHeld
          go_simp
          refine hK.out _ _ ?_ (fun hHeld => ?_)
          · exact hS9
          clear hK K
          try simp only [Act.put, List.setIfInBounds_toArray, List.set_cons_zero, List.set_cons_succ]
          refine wpAnyH_take (i := 5) (oi := ⟨some 73, _, _, _, _, _⟩) (v := ?_) rfl (by kernel_rfl) (by kernel_rfl) (by kernel_rfl) (fun _ _ _ h => h) (Or.inl ⟨by rfl, ?_⟩) hHeld ?_
          rotate_left
          · intro w hSw; (try dsimp only at hSw); go_simp; all_goals (with_reducible rfl)
          try simp only [Act.put, List.setIfInBounds_toArray, List.set_cons_zero, List.set_cons_succ]
          refine wpAnyH_done (by kernel_rfl) ?_ _
          refine NoPanic.normal ?_
          go_wp2_with fail
          go_meet
          exact ⟨rfl, hHeld⟩
        case rest =>
          clear l0 l1 l2 l3 l4 l5 v0 v1
          obtain ⟨rfl, hBc⟩ := hcut
          obtain ⟨w6, hw6⟩ : ∃ w6, w6 = wc := ⟨_, rfl⟩
          rw [← hw6] at hBc ⊢
          clear hw6
          have HC6 : Hid (CB w6 w2.heap.size c1) := HC5.out.below hBc (cell_lt HC5.out.c0)
          have HA6 : Hid (VB w6 (w2.heap.size + 1) a) := HA5.out.below hBc (cell_lt HA5.out.c0)
          have HR6 : Hid (RoB w6 rx r) := HR5.out.below hBc (cell_lt HR5.out.c0)
          have HB6 : Hid (Below w.heap.size w w6) := below_trans HB5.out hBc
          clear hBc HC5 HA5 HR5 HB5 HRS
          obtain ⟨r0, r1, r2, r3, r4, r5⟩ := HR6.out
          go_upto_if 76 with fail
          go_cut [14, 15] (fun _ _ wx => ∃ c2 a2, CB wx w2.heap.size c2 ∧ VB wx (w2.heap.size + 1) a2 ∧ Cg k ((i : Int) + 1) c2 a2 ∧ Below w.heap.size w wx)
          case first =>
            cases hrm : r.m
            · rw [hrm] at r5
              obtain ⟨M, hM⟩ : ∃ M, M = mergeV k a r.p := ⟨_, rfl⟩
              have HAC : Hid (appC k c1 ((i : Int) + 1) r.p = ⟨c1.k, a, M, (i : Int) + 1⟩) := by rw [hM]; exact (HG5.out.app HK.out r.p).1
              have HAI : Hid (appI k c1 ((i : Int) + 1) = 0) := (HG5.out.app HK.out r.p).2
              have HM : Hid (mergeV k a r.p = M) := hM.symm
              clear hM
              obtain ⟨c0, d1, c2, c3, c4, c5, zz⟩ := HC6.out
              go_upto_region 22 with (go_at_call 9; refine (apply_walk k HG5.out.ok ((i : Int) + 1) HRO.out.1 _).mono ?_; rw [HAC.out, HAI.out]; rintro e w7 ⟨rfl, hB7⟩)
              clear c0 d1 c2 c3 c4 c5 zz r0 r1 r2 r3 r4 r5
              have HD : Hid (CB (w7.alloc (Obj.cells #[.int .u64 c1.k, .bool a.h, .int .u64 a.b, .bool M.h, .int .u64 M.b, .int .i64 ((i : Int) + 1)] 26)) w7.heap.size ⟨c1.k, a, M, (i : Int) + 1⟩) := cb_new w7 ⟨c1.k, a, M, (i : Int) + 1⟩
              have hBd : Below w6.heap.size w6 (w7.alloc (Obj.cells #[.int .u64 c1.k, .bool a.h, .int .u64 a.b, .bool M.h, .int .u64 M.b, .int .i64 ((i : Int) + 1)] 26)) := below_trans hB7 (below_alloc _ _)
              generalize w7.alloc (Obj.cells #[.int .u64 c1.k, .bool a.h, .int .u64 a.b, .bool M.h, .int .u64 M.b, .int .i64 ((i : Int) + 1)] 26) = w8 at HD hBd ⊢
              have HC8 : Hid (CB w8 w2.heap.size c1) := HC6.out.below hBd (cell_lt HC6.out.c0)
              have HA8 : Hid (VB w8 (w2.heap.size + 1) a) := HA6.out.below hBd (cell_lt HA6.out.c0)
              have HR8 : Hid (RoB w8 rx r) := HR6.out.below hBd (cell_lt HR6.out.c0)
              have HB8 : Hid (Below w.heap.size w w8) := below_trans HB6.out hBd
              clear hBd hB7 HC6 HA6 HR6 HB6
              have l0 : ∀ wx, Below w8.heap.size w8 wx → wx.cell? ⟨w7.heap.size, 0, none⟩ = some (.int .u64 c1.k) := fun wx h => (HD.out.below h (cell_lt HD.out.c0)).c0
              have l1 : ∀ wx, Below w8.heap.size w8 wx → wx.cell? ⟨w7.heap.size, 1, none⟩ = some (.bool a.h) := fun wx h => (HD.out.below h (cell_lt HD.out.c0)).c1
              have l2 : ∀ wx, Below w8.heap.size w8 wx → wx.cell? ⟨w7.heap.size, 2, none⟩ = some (.int .u64 a.b) := fun wx h => (HD.out.below h (cell_lt HD.out.c0)).c2
              have l3 : ∀ wx, Below w8.heap.size w8 wx → wx.cell? ⟨w7.heap.size, 3, none⟩ = some (.bool M.h) := fun wx h => (HD.out.below h (cell_lt HD.out.c0)).c3
              have l4 : ∀ wx, Below w8.heap.size w8 wx → wx.cell? ⟨w7.heap.size, 4, none⟩ = some (.int .u64 M.b) := fun wx h => (HD.out.below h (cell_lt HD.out.c0)).c4
              have l5 : ∀ wx, Below w8.heap.size w8 wx → wx.cell? ⟨w7.heap.size, 5, none⟩ = some (.int .i64 ((i : Int) + 1)) := fun wx h => (HD.out.below h (cell_lt HD.out.c0)).c5
              have v0 : ∀ wx, Below w8.heap.size w8 wx → wx.cell? ⟨w2.heap.size + 1, 0, none⟩ = some (.bool a.h) := fun wx h => (HA8.out.below h (cell_lt HA8.out.c0)).c0
              have v1 : ∀ wx, Below w8.heap.size w8 wx → wx.cell? ⟨w2.heap.size + 1, 1, none⟩ = some (.int .u64 a.b) := fun wx h => (HA8.out.below h (cell_lt HA8.out.c0)).c1
              have HRS : Hid (resC ⟨c1.k, a, M, (i : Int) + 1⟩ i = a) := if_neg (by show ¬ (i : Int) + 1 ≤ i; omega)
              go_cut [95] (fun g wx => g = .bool false ∧ Below w8.heap.size w8 wx)
              case first =>
                refine wp_region_noPanic ?_
                refine wp_region_held_drew (S := fun wx => Below w8.heap.size w8 wx) (by kernel_rfl) ?_ (fun hHeld => ?_)
                · exact (Below.refl _ _).drew
                refine wpAnyH_take (i := 0) (oi := ⟨some 86, _, _, _, _, _⟩) (v := ?_) rfl (by kernel_rfl) (by kernel_rfl) (by kernel_rfl) (fun _ _ _ h => h) (Or.inl ⟨by rfl, ?_⟩) hHeld ?_
                rotate_left
                · intro w hSw; (try dsimp only at hSw); go_simp; all_goals (with_reducible rfl)
                try simp only [Act.put, List.setIfInBounds_toArray, List.set_cons_zero, List.set_cons_succ]
                refine wpAnyH_take (i := 1) (oi := ⟨some 87, _, _, _, _, _⟩) (v := ?_) rfl (by kernel_rfl) (by kernel_rfl) (by kernel_rfl) (fun _ _ _ h => h) (Or.inl ⟨by rfl, ?_⟩) hHeld ?_
                rotate_left
                · intro w hSw; (try dsimp only at hSw); go_simp; all_goals (with_reducible rfl)
                try simp only [Act.put, List.setIfInBounds_toArray, List.set_cons_zero, List.set_cons_succ]
                refine wpAnyH_take (i := 2) (oi := ⟨some 88, _, _, _, _, _⟩) (v := ?_) rfl (by kernel_rfl) (by kernel_rfl) (by kernel_rfl) (fun _ _ _ h => h) (Or.inl ⟨by rfl, ?_⟩) hHeld ?_
                rotate_left
                · intro w hSw; (try dsimp only at hSw); go_simp; all_goals (with_reducible rfl)
                try simp only [Act.put, List.setIfInBounds_toArray, List.set_cons_zero, List.set_cons_succ]
                refine wpAnyH_take (i := 3) (oi := ⟨some 89, _, _, _, _, _⟩) (v := ?_) rfl (by kernel_rfl) (by kernel_rfl) (by kernel_rfl) (fun _ _ _ h => h) (Or.inl ⟨by rfl, ?_⟩) hHeld ?_
                rotate_left
                · intro w hSw; (try dsimp only at hSw); go_simp; all_goals (with_reducible rfl)
                try simp only [Act.put, List.setIfInBounds_toArray, List.set_cons_zero, List.set_cons_succ]
                refine wpAnyH_take (i := 4) (oi := ⟨some 90, _, _, _, _, _⟩) (v := ?_) rfl (by kernel_rfl) (by kernel_rfl) (by kernel_rfl) (fun _ _ _ h => h) (Or.inl ⟨by rfl, ?_⟩) hHeld ?_
                rotate_left
                · intro w hSw; (try dsimp only at hSw); go_simp; all_goals (with_reducible rfl)
                try simp only [Act.put, List.setIfInBounds_toArray, List.set_cons_zero, List.set_cons_succ]
                refine wpAnyH_take (i := 5) (oi := ⟨some 91, _, _, _, _, _⟩) (v := ?_) rfl (by kernel_rfl) (by kernel_rfl) (by kernel_rfl) (fun _ _ _ h => h) (Or.inl ⟨by rfl, ?_⟩) hHeld ?_
                rotate_left
                · intro w hSw; (try dsimp only at hSw); go_simp; all_goals (with_reducible rfl)
                try simp only [Act.put, List.setIfInBounds_toArray, List.set_cons_zero, List.set_cons_succ]
                refine wpAnyH_take (i := 7) (oi := ⟨some 93, _, _, _, _, _⟩) (v := ?_) rfl (by kernel_rfl) (by kernel_rfl) (by kernel_rfl) (fun _ _ _ h => h) (Or.inl ⟨by rfl, ?_⟩) hHeld ?_
                rotate_left
                · intro w hSw; (try dsimp only at hSw); go_simp; all_goals (with_reducible rfl)
                try simp only [Act.put, List.setIfInBounds_toArray, List.set_cons_zero, List.set_cons_succ]
                refine wpAnyH_ready (rs := [6]) (by kernel_rfl) (by simp) ?_
                refine AllReadyH.cons (o := ⟨some 92, _, _, _, _, _⟩) rfl (fun K hK => ?_) AllReadyH.nil
                go_simp
                refine (resolve_walk ⟨c1.k, a, M, (i : Int) + 1⟩ i _).mono ?_
                rw [HRS.out]
                rintro e w9 ⟨rfl, hB9⟩
                have hS9 := below_trans hHeld hB9
                clear hB9 hHeld
                go_simp
                refine hK.out _ _ ?_ (fun hHeld => ?_)
                · exact hS9
                clear hK K
                try simp only [Act.put, List.setIfInBounds_toArray, List.set_cons_zero, List.set_cons_succ]
                refine wpAnyH_take (i := 8) (oi := ⟨some 94, _, _, _, _, _⟩) (v := ?_) rfl (by kernel_rfl) (by kernel_rfl) (by kernel_rfl) (fun _ _ _ h => h) (Or.inl ⟨by rfl, ?_⟩) hHeld ?_
                rotate_left
                · intro w hSw; (try dsimp only at hSw); go_simp; all_goals (with_reducible rfl)
                try simp only [Act.put, List.setIfInBounds_toArray, List.set_cons_zero, List.set_cons_succ]
                refine wpAnyH_take (i := 9) (oi := ⟨some 95, _, _, _, _, _⟩) (v := ?_) rfl (by kernel_rfl) (by kernel_rfl) (by kernel_rfl) (fun _ _ _ h => h) (Or.inl ⟨by rfl, ?_⟩) hHeld ?_
                rotate_left
                · intro w hSw; (try dsimp only at hSw); go_simp; all_goals (with_reducible rfl)
                try simp only [Act.put, List.setIfInBounds_toArray, List.set_cons_zero, List.set_cons_succ]
                refine wpAnyH_done (by kernel_rfl) ?_ _
                refine NoPanic.normal ?_
                go_wp2_with fail
                go_meet
                exact ⟨rfl, hHeld⟩
              case rest =>
                clear l0 l1 l2 l3 l4 l5 v0 v1
                obtain ⟨rfl, hBc⟩ := hcut
                have HD9 : Hid (CB wc w7.heap.size ⟨c1.k, a, M, (i : Int) + 1⟩) := HD.out.below hBc (cell_lt HD.out.c0)
                have HC9 : Hid (CB wc w2.heap.size c1) := HC8.out.below hBc (cell_lt HC8.out.c0)
                have HA9 : Hid (VB wc (w2.heap.size + 1) a) := HA8.out.below hBc (cell_lt HA8.out.c0)
                have HR9 : Hid (RoB wc rx r) := HR8.out.below hBc (cell_lt HR8.out.c0)
                have HB9 : Hid (Below w.heap.size w wc) := below_trans HB8.out hBc
                clear hBc HD HC8 HA8 HR8 HB8
                obtain ⟨d0, d1, d2, d3, d4, d5, yy⟩ := HD9.out
                obtain ⟨c0, e1, c2, c3, c4, c5, zz⟩ := HC9.out
                go_upto_region 25 with fail
                clear d0 d1 d2 d3 d4 d5 yy c0 e1 c2 c3 c4 c5 zz
                have HC10 := CB.set HC9.out ⟨c1.k, a, M, (i : Int) + 1⟩
                have HA10 := VB.six HA9.out (b := w2.heap.size) (by omega) ⟨c1.k, a, M, (i : Int) + 1⟩
                have HR10 := RoB.six HR9.out (b := w2.heap.size) (by have := HRX.out; omega) ⟨c1.k, a, M, (i : Int) + 1⟩
                have HB10 := keep_cell HB9.out _ HCBL.out (.int .u64 c1.k) (.bool a.h) (.int .u64 a.b) (.bool M.h) (.int .u64 M.b) (.int .i64 ((i : Int) + 1))
                generalize (((((wc.setCell ⟨w2.heap.size, 0, none⟩ (.int .u64 c1.k)).setCell ⟨w2.heap.size, 1, none⟩ (.bool a.h)).setCell ⟨w2.heap.size, 2, none⟩ (.int .u64 a.b)).setCell ⟨w2.heap.size, 3, none⟩ (.bool M.h)).setCell ⟨w2.heap.size, 4, none⟩ (.int .u64 M.b)).setCell ⟨w2.heap.size, 5, none⟩ (.int .i64 ((i : Int) + 1)) = w9 at HC10 HA10 HR10 HB10 ⊢
                have HC11 : Hid (CB w9 w2.heap.size ⟨c1.k, a, M, (i : Int) + 1⟩) := HC10
                have HA11 : Hid (VB w9 (w2.heap.size + 1) a) := HA10
                have HB11 : Hid (Below w.heap.size w w9) := HB10
                obtain ⟨v0, v1, y0, y1⟩ := HA10
                obtain ⟨r0, r1, r2, r3, r4, r5⟩ := HR10
                clear HC10 HB10 HC9 HA9 HR9 HB9 HD9
                go_wp2_with (go_at_call 19; refine (merge_walk k HG5.out.aok HRO.out.1 _).mono ?_; rw [HM.out]; rintro e w10 ⟨rfl, hB10⟩; obtain ⟨v0, v1, y0, y1⟩ := HA11.out.below hB10 (cell_lt HA11.out.c0))
                go_meet
                refine ⟨⟨c1.k, a, M, (i : Int) + 1⟩, M, ((HC11.out.below hB10 (cell_lt HC11.out.c0)).other (by show w2.heap.size ≠ w2.heap.size + 1; omega) _).other (by show w2.heap.size ≠ w2.heap.size + 1; omega) _, VB.set (HA11.out.below hB10 (cell_lt HA11.out.c0)) M.h M.b, ?_, keep_store (below_trans HB11.out hB10) _ (by have := HCBL.out; omega) _ _⟩
                have h := HG5.out.go (by omega) HRO.out.1
                rw [HM.out] at h
                exact h
            · rw [hrm] at r5
              go_wp2_with fail
              go_meet
              exact ⟨c1, a, HC6.out, HA6.out, HG5.out.miss, HB6.out⟩
          case rest =>
            clear HC6 HA6 HR6 HB6 HG5 r0 r1 r2 r3 r4 r5 n1
            obtain ⟨c2, a2, hC, hA, hG, hB⟩ := hcut
            obtain ⟨w7, hw7⟩ : ∃ w7, w7 = wc := ⟨_, rfl⟩
            rw [← hw7] at hC hA hB ⊢
            clear hw7
            have HC7 : Hid (CB w7 w2.heap.size c2) := hC
            have HA7 : Hid (VB w7 (w2.heap.size + 1) a2) := hA
            have HG7 : Hid (Cg k ((i : Int) + 1) c2 a2) := hG
            have HB7 : Hid (Below w.heap.size w w7) := hB
            clear hC hA hG hB
            have n2 := neq_val a2
            have HRS : Hid (resC c2 ((i : Int) + 1) = a2) := by show _ = _; rw [← HG7.out.ca]; exact if_pos HG7.out.n1
            have HFT : Hid (fitC k c2 = true) := fit_of_gives HK.out HG7.out.fp HG7.out.fc HG7.out.n0 (by have := HG7.out.n1; omega)
            have hgt : decide ((i : Int) + 1 < c2.n) = false := decide_eq_false (by have := HG7.out.n1; omega)
            have hgt2 : decide (c2.n > (i : Int) + 1) = false := hgt
            have l0 : ∀ wx, Below w7.heap.size w7 wx → wx.cell? ⟨w2.heap.size, 0, none⟩ = some (.int .u64 c2.k) := fun wx h => (HC7.out.below h (cell_lt HC7.out.c0)).c0
            have l1 : ∀ wx, Below w7.heap.size w7 wx → wx.cell? ⟨w2.heap.size, 1, none⟩ = some (.bool c2.p.h) := fun wx h => (HC7.out.below h (cell_lt HC7.out.c0)).c1
            have l2 : ∀ wx, Below w7.heap.size w7 wx → wx.cell? ⟨w2.heap.size, 2, none⟩ = some (.int .u64 c2.p.b) := fun wx h => (HC7.out.below h (cell_lt HC7.out.c0)).c2
            have l3 : ∀ wx, Below w7.heap.size w7 wx → wx.cell? ⟨w2.heap.size, 3, none⟩ = some (.bool c2.c.h) := fun wx h => (HC7.out.below h (cell_lt HC7.out.c0)).c3
            have l4 : ∀ wx, Below w7.heap.size w7 wx → wx.cell? ⟨w2.heap.size, 4, none⟩ = some (.int .u64 c2.c.b) := fun wx h => (HC7.out.below h (cell_lt HC7.out.c0)).c4
            have l5 : ∀ wx, Below w7.heap.size w7 wx → wx.cell? ⟨w2.heap.size, 5, none⟩ = some (.int .i64 c2.n) := fun wx h => (HC7.out.below h (cell_lt HC7.out.c0)).c5
            have v0 : ∀ wx, Below w7.heap.size w7 wx → wx.cell? ⟨w2.heap.size + 1, 0, none⟩ = some (.bool a2.h) := fun wx h => (HA7.out.below h (cell_lt HA7.out.c0)).c0
            have v1 : ∀ wx, Below w7.heap.size w7 wx → wx.cell? ⟨w2.heap.size + 1, 1, none⟩ = some (.int .u64 a2.b) := fun wx h => (HA7.out.below h (cell_lt HA7.out.c0)).c1
            go_upto_region 26 with fail
            go_cut [132] (fun g wx => g = .bool false ∧ Below w7.heap.size w7 wx)
            case first =>
              cases hph : c2.p.h
              · have hcc : (⟨c2.k, ⟨false, c2.p.b⟩, c2.c, c2.n⟩ : Cl) = c2 := by rw [← hph]
                have HE : Hid (empC ⟨c2.k, ⟨false, c2.p.b⟩, c2.c, c2.n⟩ = !a2.h) := by show _ = _; rw [hcc]; show (!c2.p.h && !c2.c.h) = _; rw [hph, HG7.out.ca]; rfl
                have HRSx : Hid (resC ⟨c2.k, ⟨false, c2.p.b⟩, c2.c, c2.n⟩ ((i : Int) + 1) = a2) := by show _ = _; rw [hcc]; exact HRS.out
                have HFTx : Hid (fitC k ⟨c2.k, ⟨false, c2.p.b⟩, c2.c, c2.n⟩ = true) := by show _ = _; rw [hcc]; exact HFT.out
                have HOKx : Hid (Cl.ok ⟨c2.k, ⟨false, c2.p.b⟩, c2.c, c2.n⟩) := by show Cl.ok _; rw [hcc]; exact HG7.out.ok
                clear hcc
                rw [hph] at l1
                refine wp_region_noPanic ?_
                refine wp_region_held_drew (S := fun wx => Below w7.heap.size w7 wx) (by kernel_rfl) ?_ (fun hHeld => ?_)
                · exact (Below.refl _ _).drew
                refine wpAnyH_take (i := 0) (oi := ⟨some 102, _, _, _, _, _⟩) (v := ?_) rfl (by kernel_rfl) (by kernel_rfl) (by kernel_rfl) (fun _ _ _ h => h) (Or.inl ⟨by rfl, ?_⟩) hHeld ?_
                rotate_left
                · intro w hSw; (try dsimp only at hSw); go_simp; all_goals (with_reducible rfl)
                try simp only [Act.put, List.setIfInBounds_toArray, List.set_cons_zero, List.set_cons_succ]
                refine wpAnyH_take (i := 1) (oi := ⟨some 103, _, _, _, _, _⟩) (v := ?_) rfl (by kernel_rfl) (by kernel_rfl) (by kernel_rfl) (fun _ _ _ h => h) (Or.inl ⟨by rfl, ?_⟩) hHeld ?_
                rotate_left
                · intro w hSw; (try dsimp only at hSw); go_simp; all_goals (with_reducible rfl)
                try simp only [Act.put, List.setIfInBounds_toArray, List.set_cons_zero, List.set_cons_succ]
                refine wpAnyH_take (i := 3) (oi := ⟨some 105, _, _, _, _, _⟩) (v := ?_) rfl (by kernel_rfl) (by kernel_rfl) (by kernel_rfl) (fun _ _ _ h => h) (Or.inl ⟨by rfl, ?_⟩) hHeld ?_
                rotate_left
                · intro w hSw; (try dsimp only at hSw); go_simp; all_goals (with_reducible rfl)
                try simp only [Act.put, List.setIfInBounds_toArray, List.set_cons_zero, List.set_cons_succ]
                refine wpAnyH_ready (rs := [2]) (by kernel_rfl) (by simp) ?_
                refine AllReadyH.cons (o := ⟨some 104, _, _, _, _, _⟩) rfl (fun K hK => ?_) AllReadyH.nil
                go_simp
                refine (resolve_walk ⟨c2.k, ⟨false, c2.p.b⟩, c2.c, c2.n⟩ ((i : Int) + 1) _).mono ?_
                rw [HRSx.out]
                rintro e w9 ⟨rfl, hB9⟩
                have hS9 := below_trans hHeld hB9
                clear hB9 hHeld
                go_simp
                refine hK.out _ _ ?_ (fun hHeld => ?_)
                · exact hS9
                clear hK K
                try simp only [Act.put, List.setIfInBounds_toArray, List.set_cons_zero, List.set_cons_succ]
                refine wpAnyH_take (i := 4) (oi := ⟨some 106, _, _, _, _, _⟩) (v := ?_) rfl (by kernel_rfl) (by kernel_rfl) (by kernel_rfl) (fun _ _ _ h => h) (Or.inl ⟨by rfl, ?_⟩) hHeld ?_
                rotate_left
                · intro w hSw; (try dsimp only at hSw); go_simp; all_goals (with_reducible rfl)
                try simp only [Act.put, List.setIfInBounds_toArray, List.set_cons_zero, List.set_cons_succ]
                refine wpAnyH_take (i := 5) (oi := ⟨some 107, _, _, _, _, _⟩) (v := ?_) rfl (by kernel_rfl) (by kernel_rfl) (by kernel_rfl) (fun _ _ _ h => h) (Or.inl ⟨by rfl, ?_⟩) hHeld ?_
                rotate_left
                · intro w hSw; (try dsimp only at hSw); go_simp; all_goals (with_reducible rfl)
                try simp only [Act.put, List.setIfInBounds_toArray, List.set_cons_zero, List.set_cons_succ]
                refine wpAnyH_take (i := 6) (oi := ⟨some 108, _, _, _, _, _⟩) (v := ?_) rfl (by kernel_rfl) (by kernel_rfl) (by kernel_rfl) (fun _ _ _ h => h) (Or.inl ⟨by rfl, ?_⟩) hHeld ?_
                rotate_left
                · intro w hSw; (try dsimp only at hSw); go_simp; all_goals (with_reducible rfl)
                try simp only [Act.put, List.setIfInBounds_toArray, List.set_cons_zero, List.set_cons_succ]
                refine wpAnyH_take (i := 7) (oi := ⟨some 109, _, _, _, _, _⟩) (v := ?_) rfl (by kernel_rfl) (by kernel_rfl) (by kernel_rfl) (fun _ _ _ h => h) (Or.inl ⟨by rfl, ?_⟩) hHeld ?_
                rotate_left
                · intro w hSw; (try dsimp only at hSw); go_simp; all_goals (with_reducible rfl)
                try simp only [Act.put, List.setIfInBounds_toArray, List.set_cons_zero, List.set_cons_succ]
                refine wpAnyH_take (i := 8) (oi := ⟨some 110, _, _, _, _, _⟩) (v := ?_) rfl (by kernel_rfl) (by kernel_rfl) (by kernel_rfl) (fun _ _ _ h => h) (Or.inl ⟨by rfl, ?_⟩) hHeld ?_
                rotate_left
                · intro w hSw; (try dsimp only at hSw); go_simp; all_goals (with_reducible rfl)
                try simp only [Act.put, List.setIfInBounds_toArray, List.set_cons_zero, List.set_cons_succ]
                refine wpAnyH_take (i := 9) (oi := ⟨some 111, _, _, _, _, _⟩) (v := ?_) rfl (by kernel_rfl) (by kernel_rfl) (by kernel_rfl) (fun _ _ _ h => h) (Or.inl ⟨by rfl, ?_⟩) hHeld ?_
                rotate_left
                · intro w hSw; (try dsimp only at hSw); go_simp; all_goals (with_reducible rfl)
                try simp only [Act.put, List.setIfInBounds_toArray, List.set_cons_zero, List.set_cons_succ]
                refine wpAnyH_take (i := 10) (oi := ⟨some 112, _, _, _, _, _⟩) (v := ?_) rfl (by kernel_rfl) (by kernel_rfl) (by kernel_rfl) (fun _ _ _ h => h) (Or.inl ⟨by rfl, ?_⟩) hHeld ?_
                rotate_left
                · intro w hSw; (try dsimp only at hSw); go_simp; all_goals (with_reducible rfl)
                try simp only [Act.put, List.setIfInBounds_toArray, List.set_cons_zero, List.set_cons_succ]
                refine wpAnyH_take (i := 11) (oi := ⟨some 113, _, _, _, _, _⟩) (v := ?_) rfl (by kernel_rfl) (by kernel_rfl) (by kernel_rfl) (fun _ _ _ h => h) (Or.inl ⟨by rfl, ?_⟩) hHeld ?_
                rotate_left
                · intro w hSw; (try dsimp only at hSw); go_simp; all_goals (with_reducible rfl)
                try simp only [Act.put, List.setIfInBounds_toArray, List.set_cons_zero, List.set_cons_succ]
                refine wpAnyH_take (i := 12) (oi := ⟨some 114, _, _, _, _, _⟩) (v := ?_) rfl (by kernel_rfl) (by kernel_rfl) (by kernel_rfl) (fun _ _ _ h => h) (Or.inl ⟨by rfl, ?_⟩) hHeld ?_
                rotate_left
                · intro w hSw; (try dsimp only at hSw); go_simp; all_goals (with_reducible rfl)
                try simp only [Act.put, List.setIfInBounds_toArray, List.set_cons_zero, List.set_cons_succ]
                refine wpAnyH_take (i := 13) (oi := ⟨some 115, _, _, _, _, _⟩) (v := ?_) rfl (by kernel_rfl) (by kernel_rfl) (by kernel_rfl) (fun _ _ _ h => h) (Or.inl ⟨by rfl, ?_⟩) hHeld ?_
                rotate_left
                · intro w hSw; (try dsimp only at hSw); go_simp; all_goals (with_reducible rfl)
                try simp only [Act.put, List.setIfInBounds_toArray, List.set_cons_zero, List.set_cons_succ]
                refine wpAnyH_ready (rs := [14]) (by kernel_rfl) (by simp) ?_
                refine AllReadyH.cons (o := ⟨some 116, _, _, _, _, _⟩) rfl (fun K hK => ?_) AllReadyH.nil
                go_simp
                refine (cfit_walk k HOKx.out _).mono ?_
                rw [HFTx.out]
                rintro e w9 ⟨rfl, hB9⟩
                have hS9 := below_trans hHeld hB9
                clear hB9 hHeld
                go_simp
                refine hK.out _ _ ?_ (fun hHeld => ?_)
                · exact hS9
                clear hK K
                try simp only [Act.put, List.setIfInBounds_toArray, List.set_cons_zero, List.set_cons_succ]
                refine wpAnyH_take (i := 15) (oi := ⟨some 117, _, _, _, _, _⟩) (v := ?_) rfl (by kernel_rfl) (by kernel_rfl) (by kernel_rfl) (fun _ _ _ h => h) (Or.inl ⟨by rfl, ?_⟩) hHeld ?_
                rotate_left
                · intro w hSw; (try dsimp only at hSw); go_simp; all_goals (with_reducible rfl)
                try simp only [Act.put, List.setIfInBounds_toArray, List.set_cons_zero, List.set_cons_succ]
                refine wpAnyH_take (i := 16) (oi := ⟨some 118, _, _, _, _, _⟩) (v := ?_) rfl (by kernel_rfl) (by kernel_rfl) (by kernel_rfl) (fun _ _ _ h => h) (Or.inl ⟨by rfl, ?_⟩) hHeld ?_
                rotate_left
                · intro w hSw; (try dsimp only at hSw); go_simp; all_goals (with_reducible rfl)
                try simp only [Act.put, List.setIfInBounds_toArray, List.set_cons_zero, List.set_cons_succ]
                refine wpAnyH_take (i := 17) (oi := ⟨some 119, _, _, _, _, _⟩) (v := ?_) rfl (by kernel_rfl) (by kernel_rfl) (by kernel_rfl) (fun _ _ _ h => h) (Or.inl ⟨by rfl, ?_⟩) hHeld ?_
                rotate_left
                · intro w hSw; (try dsimp only at hSw); go_simp; all_goals (with_reducible rfl)
                try simp only [Act.put, List.setIfInBounds_toArray, List.set_cons_zero, List.set_cons_succ]
                refine wpAnyH_take (i := 18) (oi := ⟨some 120, _, _, _, _, _⟩) (v := ?_) rfl (by kernel_rfl) (by kernel_rfl) (by kernel_rfl) (fun _ _ _ h => h) (Or.inl ⟨by rfl, ?_⟩) hHeld ?_
                rotate_left
                · intro w hSw; (try dsimp only at hSw); go_simp; all_goals (with_reducible rfl)
                try simp only [Act.put, List.setIfInBounds_toArray, List.set_cons_zero, List.set_cons_succ]
                refine wpAnyH_take (i := 20) (oi := ⟨some 122, _, _, _, _, _⟩) (v := ?_) rfl (by kernel_rfl) (by kernel_rfl) (by kernel_rfl) (fun _ _ _ h => h) (Or.inl ⟨by rfl, ?_⟩) hHeld ?_
                rotate_left
                · intro w hSw; (try dsimp only at hSw); go_simp; all_goals (with_reducible rfl)
                try simp only [Act.put, List.setIfInBounds_toArray, List.set_cons_zero, List.set_cons_succ]
                refine wpAnyH_take (i := 21) (oi := ⟨some 123, _, _, _, _, _⟩) (v := ?_) rfl (by kernel_rfl) (by kernel_rfl) (by kernel_rfl) (fun _ _ _ h => h) (Or.inl ⟨by rfl, ?_⟩) hHeld ?_
                rotate_left
                · intro w hSw; (try dsimp only at hSw); go_simp; all_goals (with_reducible rfl)
                try simp only [Act.put, List.setIfInBounds_toArray, List.set_cons_zero, List.set_cons_succ]
                refine wpAnyH_take (i := 22) (oi := ⟨some 124, _, _, _, _, _⟩) (v := ?_) rfl (by kernel_rfl) (by kernel_rfl) (by kernel_rfl) (fun _ _ _ h => h) (Or.inl ⟨by rfl, ?_⟩) hHeld ?_
                rotate_left
                · intro w hSw; (try dsimp only at hSw); go_simp; all_goals (with_reducible rfl)
                try simp only [Act.put, List.setIfInBounds_toArray, List.set_cons_zero, List.set_cons_succ]
                refine wpAnyH_take (i := 23) (oi := ⟨some 125, _, _, _, _, _⟩) (v := ?_) rfl (by kernel_rfl) (by kernel_rfl) (by kernel_rfl) (fun _ _ _ h => h) (Or.inl ⟨by rfl, ?_⟩) hHeld ?_
                rotate_left
                · intro w hSw; (try dsimp only at hSw); go_simp; all_goals (with_reducible rfl)
                try simp only [Act.put, List.setIfInBounds_toArray, List.set_cons_zero, List.set_cons_succ]
                refine wpAnyH_ready (rs := [19]) (by kernel_rfl) (by simp) ?_
                refine AllReadyH.cons (o := ⟨some 121, _, _, _, _, _⟩) rfl (fun K hK => ?_) AllReadyH.nil
                go_simp
                refine (empty_walk ⟨c2.k, ⟨false, c2.p.b⟩, c2.c, c2.n⟩ _).mono ?_
                rw [HE.out]
                rintro e w9 ⟨rfl, hB9⟩
                have hS9 := below_trans hHeld hB9
                clear hB9 hHeld
                go_simp
                refine hK.out _ _ ?_ (fun hHeld => ?_)
                · exact hS9
                clear hK K
                try simp only [Act.put, List.setIfInBounds_toArray, List.set_cons_zero, List.set_cons_succ]
                refine wpAnyH_take (i := 24) (oi := ⟨some 126, _, _, _, _, _⟩) (v := ?_) rfl (by kernel_rfl) (by kernel_rfl) (by kernel_rfl) (fun _ _ _ h => h) (Or.inl ⟨by rfl, ?_⟩) hHeld ?_
                rotate_left
                · intro w hSw; (try dsimp only at hSw); go_simp; all_goals (with_reducible rfl)
                try simp only [Act.put, List.setIfInBounds_toArray, List.set_cons_zero, List.set_cons_succ]
                refine wpAnyH_take (i := 25) (oi := ⟨some 127, _, _, _, _, _⟩) (v := ?_) rfl (by kernel_rfl) (by kernel_rfl) (by kernel_rfl) (fun _ _ _ h => h) (Or.inl ⟨by rfl, ?_⟩) hHeld ?_
                rotate_left
                · intro w hSw; (try dsimp only at hSw); go_simp; all_goals (with_reducible rfl)
                try simp only [Act.put, List.setIfInBounds_toArray, List.set_cons_zero, List.set_cons_succ]
                refine wpAnyH_take (i := 26) (oi := ⟨some 128, _, _, _, _, _⟩) (v := ?_) rfl (by kernel_rfl) (by kernel_rfl) (by kernel_rfl) (fun _ _ _ h => h) (Or.inl ⟨by rfl, ?_⟩) hHeld ?_
                rotate_left
                · intro w hSw; (try dsimp only at hSw); go_simp; all_goals (with_reducible rfl)
                try simp only [Act.put, List.setIfInBounds_toArray, List.set_cons_zero, List.set_cons_succ]
                refine wpAnyH_take (i := 27) (oi := ⟨some 129, _, _, _, _, _⟩) (v := ?_) rfl (by kernel_rfl) (by kernel_rfl) (by kernel_rfl) (fun _ _ _ h => h) (Or.inl ⟨by rfl, ?_⟩) hHeld ?_
                rotate_left
                · intro w hSw; (try dsimp only at hSw); go_simp; all_goals (with_reducible rfl)
                try simp only [Act.put, List.setIfInBounds_toArray, List.set_cons_zero, List.set_cons_succ]
                refine wpAnyH_take (i := 28) (oi := ⟨some 130, _, _, _, _, _⟩) (v := ?_) rfl (by kernel_rfl) (by kernel_rfl) (by kernel_rfl) (fun _ _ _ h => h) (Or.inl ⟨by rfl, ?_⟩) hHeld ?_
                rotate_left
                · intro w hSw; (try dsimp only at hSw); go_simp; all_goals (with_reducible rfl)
                try simp only [Act.put, List.setIfInBounds_toArray, List.set_cons_zero, List.set_cons_succ]
                refine wpAnyH_take (i := 29) (oi := ⟨some 131, _, _, _, _, _⟩) (v := ?_) rfl (by kernel_rfl) (by kernel_rfl) (by kernel_rfl) (fun _ _ _ h => h) (Or.inl ⟨by rfl, ?_⟩) hHeld ?_
                rotate_left
                · intro w hSw; (try dsimp only at hSw); go_simp; all_goals (with_reducible rfl)
                try simp only [Act.put, List.setIfInBounds_toArray, List.set_cons_zero, List.set_cons_succ]
                refine wpAnyH_take (i := 30) (oi := ⟨some 132, _, _, _, _, _⟩) (v := ?_) rfl (by kernel_rfl) (by kernel_rfl) (by kernel_rfl) (fun _ _ _ h => h) (Or.inl ⟨by rfl, ?_⟩) hHeld ?_
                rotate_left
                · intro w hSw; (try dsimp only at hSw); go_simp; all_goals (with_reducible rfl)
                try simp only [Act.put, List.setIfInBounds_toArray, List.set_cons_zero, List.set_cons_succ]
                refine wpAnyH_done (by kernel_rfl) ?_ _
                refine NoPanic.normal ?_
                go_wp2_with fail
                go_meet
                exact ⟨rfl, hHeld⟩
              · have hcc : (⟨c2.k, ⟨true, c2.p.b⟩, c2.c, c2.n⟩ : Cl) = c2 := by rw [← hph]
                have HE : Hid (empC ⟨c2.k, ⟨true, c2.p.b⟩, c2.c, c2.n⟩ = false) := by show _ = _; rw [hcc]; show (!c2.p.h && !c2.c.h) = _; rw [hph]; rfl
                have HRSx : Hid (resC ⟨c2.k, ⟨true, c2.p.b⟩, c2.c, c2.n⟩ ((i : Int) + 1) = a2) := by show _ = _; rw [hcc]; exact HRS.out
                have HFTx : Hid (fitC k ⟨c2.k, ⟨true, c2.p.b⟩, c2.c, c2.n⟩ = true) := by show _ = _; rw [hcc]; exact HFT.out
                have HOKx : Hid (Cl.ok ⟨c2.k, ⟨true, c2.p.b⟩, c2.c, c2.n⟩) := by show Cl.ok _; rw [hcc]; exact HG7.out.ok
                clear hcc
                rw [hph] at l1
                refine wp_region_noPanic ?_
                refine wp_region_held_drew (S := fun wx => Below w7.heap.size w7 wx) (by kernel_rfl) ?_ (fun hHeld => ?_)
                · exact (Below.refl _ _).drew
                refine wpAnyH_take (i := 0) (oi := ⟨some 102, _, _, _, _, _⟩) (v := ?_) rfl (by kernel_rfl) (by kernel_rfl) (by kernel_rfl) (fun _ _ _ h => h) (Or.inl ⟨by rfl, ?_⟩) hHeld ?_
                rotate_left
                · intro w hSw; (try dsimp only at hSw); go_simp; all_goals (with_reducible rfl)
                try simp only [Act.put, List.setIfInBounds_toArray, List.set_cons_zero, List.set_cons_succ]
                refine wpAnyH_take (i := 1) (oi := ⟨some 103, _, _, _, _, _⟩) (v := ?_) rfl (by kernel_rfl) (by kernel_rfl) (by kernel_rfl) (fun _ _ _ h => h) (Or.inl ⟨by rfl, ?_⟩) hHeld ?_
                rotate_left
                · intro w hSw; (try dsimp only at hSw); go_simp; all_goals (with_reducible rfl)
                try simp only [Act.put, List.setIfInBounds_toArray, List.set_cons_zero, List.set_cons_succ]
                refine wpAnyH_take (i := 3) (oi := ⟨some 105, _, _, _, _, _⟩) (v := ?_) rfl (by kernel_rfl) (by kernel_rfl) (by kernel_rfl) (fun _ _ _ h => h) (Or.inl ⟨by rfl, ?_⟩) hHeld ?_
                rotate_left
                · intro w hSw; (try dsimp only at hSw); go_simp; all_goals (with_reducible rfl)
                try simp only [Act.put, List.setIfInBounds_toArray, List.set_cons_zero, List.set_cons_succ]
                refine wpAnyH_ready (rs := [2]) (by kernel_rfl) (by simp) ?_
                refine AllReadyH.cons (o := ⟨some 104, _, _, _, _, _⟩) rfl (fun K hK => ?_) AllReadyH.nil
                go_simp
                refine (resolve_walk ⟨c2.k, ⟨true, c2.p.b⟩, c2.c, c2.n⟩ ((i : Int) + 1) _).mono ?_
                rw [HRSx.out]
                rintro e w9 ⟨rfl, hB9⟩
                have hS9 := below_trans hHeld hB9
                clear hB9 hHeld
                go_simp
                refine hK.out _ _ ?_ (fun hHeld => ?_)
                · exact hS9
                clear hK K
                try simp only [Act.put, List.setIfInBounds_toArray, List.set_cons_zero, List.set_cons_succ]
                refine wpAnyH_take (i := 4) (oi := ⟨some 106, _, _, _, _, _⟩) (v := ?_) rfl (by kernel_rfl) (by kernel_rfl) (by kernel_rfl) (fun _ _ _ h => h) (Or.inl ⟨by rfl, ?_⟩) hHeld ?_
                rotate_left
                · intro w hSw; (try dsimp only at hSw); go_simp; all_goals (with_reducible rfl)
                try simp only [Act.put, List.setIfInBounds_toArray, List.set_cons_zero, List.set_cons_succ]
                refine wpAnyH_take (i := 5) (oi := ⟨some 107, _, _, _, _, _⟩) (v := ?_) rfl (by kernel_rfl) (by kernel_rfl) (by kernel_rfl) (fun _ _ _ h => h) (Or.inl ⟨by rfl, ?_⟩) hHeld ?_
                rotate_left
                · intro w hSw; (try dsimp only at hSw); go_simp; all_goals (with_reducible rfl)
                try simp only [Act.put, List.setIfInBounds_toArray, List.set_cons_zero, List.set_cons_succ]
                refine wpAnyH_take (i := 6) (oi := ⟨some 108, _, _, _, _, _⟩) (v := ?_) rfl (by kernel_rfl) (by kernel_rfl) (by kernel_rfl) (fun _ _ _ h => h) (Or.inl ⟨by rfl, ?_⟩) hHeld ?_
                rotate_left
                · intro w hSw; (try dsimp only at hSw); go_simp; all_goals (with_reducible rfl)
                try simp only [Act.put, List.setIfInBounds_toArray, List.set_cons_zero, List.set_cons_succ]
                refine wpAnyH_take (i := 7) (oi := ⟨some 109, _, _, _, _, _⟩) (v := ?_) rfl (by kernel_rfl) (by kernel_rfl) (by kernel_rfl) (fun _ _ _ h => h) (Or.inl ⟨by rfl, ?_⟩) hHeld ?_
                rotate_left
                · intro w hSw; (try dsimp only at hSw); go_simp; all_goals (with_reducible rfl)
                try simp only [Act.put, List.setIfInBounds_toArray, List.set_cons_zero, List.set_cons_succ]
                refine wpAnyH_take (i := 8) (oi := ⟨some 110, _, _, _, _, _⟩) (v := ?_) rfl (by kernel_rfl) (by kernel_rfl) (by kernel_rfl) (fun _ _ _ h => h) (Or.inl ⟨by rfl, ?_⟩) hHeld ?_
                rotate_left
                · intro w hSw; (try dsimp only at hSw); go_simp; all_goals (with_reducible rfl)
                try simp only [Act.put, List.setIfInBounds_toArray, List.set_cons_zero, List.set_cons_succ]
                refine wpAnyH_take (i := 9) (oi := ⟨some 111, _, _, _, _, _⟩) (v := ?_) rfl (by kernel_rfl) (by kernel_rfl) (by kernel_rfl) (fun _ _ _ h => h) (Or.inl ⟨by rfl, ?_⟩) hHeld ?_
                rotate_left
                · intro w hSw; (try dsimp only at hSw); go_simp; all_goals (with_reducible rfl)
                try simp only [Act.put, List.setIfInBounds_toArray, List.set_cons_zero, List.set_cons_succ]
                refine wpAnyH_take (i := 10) (oi := ⟨some 112, _, _, _, _, _⟩) (v := ?_) rfl (by kernel_rfl) (by kernel_rfl) (by kernel_rfl) (fun _ _ _ h => h) (Or.inl ⟨by rfl, ?_⟩) hHeld ?_
                rotate_left
                · intro w hSw; (try dsimp only at hSw); go_simp; all_goals (with_reducible rfl)
                try simp only [Act.put, List.setIfInBounds_toArray, List.set_cons_zero, List.set_cons_succ]
                refine wpAnyH_take (i := 11) (oi := ⟨some 113, _, _, _, _, _⟩) (v := ?_) rfl (by kernel_rfl) (by kernel_rfl) (by kernel_rfl) (fun _ _ _ h => h) (Or.inl ⟨by rfl, ?_⟩) hHeld ?_
                rotate_left
                · intro w hSw; (try dsimp only at hSw); go_simp; all_goals (with_reducible rfl)
                try simp only [Act.put, List.setIfInBounds_toArray, List.set_cons_zero, List.set_cons_succ]
                refine wpAnyH_take (i := 12) (oi := ⟨some 114, _, _, _, _, _⟩) (v := ?_) rfl (by kernel_rfl) (by kernel_rfl) (by kernel_rfl) (fun _ _ _ h => h) (Or.inl ⟨by rfl, ?_⟩) hHeld ?_
                rotate_left
                · intro w hSw; (try dsimp only at hSw); go_simp; all_goals (with_reducible rfl)
                try simp only [Act.put, List.setIfInBounds_toArray, List.set_cons_zero, List.set_cons_succ]
                refine wpAnyH_take (i := 13) (oi := ⟨some 115, _, _, _, _, _⟩) (v := ?_) rfl (by kernel_rfl) (by kernel_rfl) (by kernel_rfl) (fun _ _ _ h => h) (Or.inl ⟨by rfl, ?_⟩) hHeld ?_
                rotate_left
                · intro w hSw; (try dsimp only at hSw); go_simp; all_goals (with_reducible rfl)
                try simp only [Act.put, List.setIfInBounds_toArray, List.set_cons_zero, List.set_cons_succ]
                refine wpAnyH_ready (rs := [14]) (by kernel_rfl) (by simp) ?_
                refine AllReadyH.cons (o := ⟨some 116, _, _, _, _, _⟩) rfl (fun K hK => ?_) AllReadyH.nil
                go_simp
                refine (cfit_walk k HOKx.out _).mono ?_
                rw [HFTx.out]
                rintro e w9 ⟨rfl, hB9⟩
                have hS9 := below_trans hHeld hB9
                clear hB9 hHeld
                go_simp
                refine hK.out _ _ ?_ (fun hHeld => ?_)
                · exact hS9
                clear hK K
                try simp only [Act.put, List.setIfInBounds_toArray, List.set_cons_zero, List.set_cons_succ]
                refine wpAnyH_take (i := 15) (oi := ⟨some 117, _, _, _, _, _⟩) (v := ?_) rfl (by kernel_rfl) (by kernel_rfl) (by kernel_rfl) (fun _ _ _ h => h) (Or.inl ⟨by rfl, ?_⟩) hHeld ?_
                rotate_left
                · intro w hSw; (try dsimp only at hSw); go_simp; all_goals (with_reducible rfl)
                try simp only [Act.put, List.setIfInBounds_toArray, List.set_cons_zero, List.set_cons_succ]
                refine wpAnyH_take (i := 16) (oi := ⟨some 118, _, _, _, _, _⟩) (v := ?_) rfl (by kernel_rfl) (by kernel_rfl) (by kernel_rfl) (fun _ _ _ h => h) (Or.inl ⟨by rfl, ?_⟩) hHeld ?_
                rotate_left
                · intro w hSw; (try dsimp only at hSw); go_simp; all_goals (with_reducible rfl)
                try simp only [Act.put, List.setIfInBounds_toArray, List.set_cons_zero, List.set_cons_succ]
                refine wpAnyH_take (i := 17) (oi := ⟨some 119, _, _, _, _, _⟩) (v := ?_) rfl (by kernel_rfl) (by kernel_rfl) (by kernel_rfl) (fun _ _ _ h => h) (Or.inl ⟨by rfl, ?_⟩) hHeld ?_
                rotate_left
                · intro w hSw; (try dsimp only at hSw); go_simp; all_goals (with_reducible rfl)
                try simp only [Act.put, List.setIfInBounds_toArray, List.set_cons_zero, List.set_cons_succ]
                refine wpAnyH_take (i := 18) (oi := ⟨some 120, _, _, _, _, _⟩) (v := ?_) rfl (by kernel_rfl) (by kernel_rfl) (by kernel_rfl) (fun _ _ _ h => h) (Or.inl ⟨by rfl, ?_⟩) hHeld ?_
                rotate_left
                · intro w hSw; (try dsimp only at hSw); go_simp; all_goals (with_reducible rfl)
                try simp only [Act.put, List.setIfInBounds_toArray, List.set_cons_zero, List.set_cons_succ]
                refine wpAnyH_take (i := 20) (oi := ⟨some 122, _, _, _, _, _⟩) (v := ?_) rfl (by kernel_rfl) (by kernel_rfl) (by kernel_rfl) (fun _ _ _ h => h) (Or.inl ⟨by rfl, ?_⟩) hHeld ?_
                rotate_left
                · intro w hSw; (try dsimp only at hSw); go_simp; all_goals (with_reducible rfl)
                try simp only [Act.put, List.setIfInBounds_toArray, List.set_cons_zero, List.set_cons_succ]
                refine wpAnyH_take (i := 21) (oi := ⟨some 123, _, _, _, _, _⟩) (v := ?_) rfl (by kernel_rfl) (by kernel_rfl) (by kernel_rfl) (fun _ _ _ h => h) (Or.inl ⟨by rfl, ?_⟩) hHeld ?_
                rotate_left
                · intro w hSw; (try dsimp only at hSw); go_simp; all_goals (with_reducible rfl)
                try simp only [Act.put, List.setIfInBounds_toArray, List.set_cons_zero, List.set_cons_succ]
                refine wpAnyH_take (i := 22) (oi := ⟨some 124, _, _, _, _, _⟩) (v := ?_) rfl (by kernel_rfl) (by kernel_rfl) (by kernel_rfl) (fun _ _ _ h => h) (Or.inl ⟨by rfl, ?_⟩) hHeld ?_
                rotate_left
                · intro w hSw; (try dsimp only at hSw); go_simp; all_goals (with_reducible rfl)
                try simp only [Act.put, List.setIfInBounds_toArray, List.set_cons_zero, List.set_cons_succ]
                refine wpAnyH_take (i := 23) (oi := ⟨some 125, _, _, _, _, _⟩) (v := ?_) rfl (by kernel_rfl) (by kernel_rfl) (by kernel_rfl) (fun _ _ _ h => h) (Or.inl ⟨by rfl, ?_⟩) hHeld ?_
                rotate_left
                · intro w hSw; (try dsimp only at hSw); go_simp; all_goals (with_reducible rfl)
                try simp only [Act.put, List.setIfInBounds_toArray, List.set_cons_zero, List.set_cons_succ]
                refine wpAnyH_ready (rs := [19]) (by kernel_rfl) (by simp) ?_
                refine AllReadyH.cons (o := ⟨some 121, _, _, _, _, _⟩) rfl (fun K hK => ?_) AllReadyH.nil
                go_simp
                refine (empty_walk ⟨c2.k, ⟨true, c2.p.b⟩, c2.c, c2.n⟩ _).mono ?_
                rw [HE.out]
                rintro e w9 ⟨rfl, hB9⟩
                have hS9 := below_trans hHeld hB9
                clear hB9 hHeld
                go_simp
                refine hK.out _ _ ?_ (fun hHeld => ?_)
                · exact hS9
                clear hK K
                try simp only [Act.put, List.setIfInBounds_toArray, List.set_cons_zero, List.set_cons_succ]
                refine wpAnyH_take (i := 24) (oi := ⟨some 126, _, _, _, _, _⟩) (v := ?_) rfl (by kernel_rfl) (by kernel_rfl) (by kernel_rfl) (fun _ _ _ h => h) (Or.inl ⟨by rfl, ?_⟩) hHeld ?_
                rotate_left
                · intro w hSw; (try dsimp only at hSw); go_simp; all_goals (with_reducible rfl)
                try simp only [Act.put, List.setIfInBounds_toArray, List.set_cons_zero, List.set_cons_succ]
                refine wpAnyH_take (i := 25) (oi := ⟨some 127, _, _, _, _, _⟩) (v := undef) rfl (by kernel_rfl) (by kernel_rfl) (by kernel_rfl) (fun _ _ _ h => h) (Or.inr ⟨by rfl, rfl⟩) hHeld ?_
                try simp only [Act.put, List.setIfInBounds_toArray, List.set_cons_zero, List.set_cons_succ]
                refine wpAnyH_take (i := 26) (oi := ⟨some 128, _, _, _, _, _⟩) (v := undef) rfl (by kernel_rfl) (by kernel_rfl) (by kernel_rfl) (fun _ _ _ h => h) (Or.inr ⟨by rfl, rfl⟩) hHeld ?_
                try simp only [Act.put, List.setIfInBounds_toArray, List.set_cons_zero, List.set_cons_succ]
                refine wpAnyH_take (i := 27) (oi := ⟨some 129, _, _, _, _, _⟩) (v := undef) rfl (by kernel_rfl) (by kernel_rfl) (by kernel_rfl) (fun _ _ _ h => h) (Or.inr ⟨by rfl, rfl⟩) hHeld ?_
                try simp only [Act.put, List.setIfInBounds_toArray, List.set_cons_zero, List.set_cons_succ]
                refine wpAnyH_take (i := 28) (oi := ⟨some 130, _, _, _, _, _⟩) (v := ?_) rfl (by kernel_rfl) (by kernel_rfl) (by kernel_rfl) (fun _ _ _ h => h) (Or.inl ⟨by rfl, ?_⟩) hHeld ?_
                rotate_left
                · intro w hSw; (try dsimp only at hSw); go_simp; all_goals (with_reducible rfl)
                try simp only [Act.put, List.setIfInBounds_toArray, List.set_cons_zero, List.set_cons_succ]
                refine wpAnyH_take (i := 29) (oi := ⟨some 131, _, _, _, _, _⟩) (v := ?_) rfl (by kernel_rfl) (by kernel_rfl) (by kernel_rfl) (fun _ _ _ h => h) (Or.inl ⟨by rfl, ?_⟩) hHeld ?_
                rotate_left
                · intro w hSw; (try dsimp only at hSw); go_simp; all_goals (with_reducible rfl)
                try simp only [Act.put, List.setIfInBounds_toArray, List.set_cons_zero, List.set_cons_succ]
                refine wpAnyH_take (i := 30) (oi := ⟨some 132, _, _, _, _, _⟩) (v := ?_) rfl (by kernel_rfl) (by kernel_rfl) (by kernel_rfl) (fun _ _ _ h => h) (Or.inl ⟨by rfl, ?_⟩) hHeld ?_
                rotate_left
                · intro w hSw; (try dsimp only at hSw); go_simp; all_goals (with_reducible rfl)
                try simp only [Act.put, List.setIfInBounds_toArray, List.set_cons_zero, List.set_cons_succ]
                refine wpAnyH_done (by kernel_rfl) ?_ _
                refine NoPanic.normal ?_
                go_wp2_with fail
                go_meet
                exact ⟨rfl, hHeld⟩
            case rest =>
              clear l0 l1 l2 l3 l4 l5 v0 v1
              obtain ⟨rfl, hBc⟩ := hcut
              have HC8 : Hid (CB wc w2.heap.size c2) := HC7.out.below hBc (cell_lt HC7.out.c0)
              have HA8 : Hid (VB wc (w2.heap.size + 1) a2) := HA7.out.below hBc (cell_lt HA7.out.c0)
              have HB8 : Hid (Below w.heap.size w wc) := below_trans HB7.out hBc
              clear hBc HC7 HA7 HB7
              go_wp2_with fail
              go_roundw
              case rel => exact ⟨i + 1, c2, a2, hlt, by go_num, HC8.out, HA8.out, by have h := HG7.out; simpa using h, HB8.out⟩
              case measure => simp [intOf]; omega
    · have hlti : ¬ (i : Int) < (l.length : Int) := by omega
      go_wp2_with fail
      go_ret
      exact ⟨rfl, HB.out⟩
end Go.Proofs.Ytnppgeokbhecfaa
