/- The walk of CellAgain. -/
import Derived.Test.YtnppgeokbhecfaaCj
import Derived.Test.YtnppgeokbhecfaaC3
namespace Go.Proofs.Ytnppgeokbhecfaa
open Ieee Go.RowKit

theorem XB.other {w : World} {x : Nat} {k : Int} {c : Cl} {b : Int} {pv bv : Value} (h : XB w x k c b pv bv) {p : Addr} (hne : x ≠ p.block) (u : Value) : XB (w.setCell p u) x k c b pv bv := by
  obtain ⟨c0, c1, c2, c3, c4, c5, c6, c7, c8, c9⟩ := h
  refine ⟨?_, ?_, ?_, ?_, ?_, ?_, ?_, ?_, ?_, ?_⟩
  all_goals (rw [World.cell?_setCell_other _ _ _ _ (by rintro ⟨⟩; exact hne rfl)]; assumption)

theorem XB.six {w : World} {x y : Nat} {k : Int} {c : Cl} {n : Int} {pv bv : Value} (h : XB w x k c n pv bv) (hne : x ≠ y) (d : Cl) : XB ((((((w.setCell ⟨y, 0, none⟩ (.int .u64 d.k)).setCell ⟨y, 1, none⟩ (.bool d.p.h)).setCell ⟨y, 2, none⟩ (.int .u64 d.p.b)).setCell ⟨y, 3, none⟩ (.bool d.c.h)).setCell ⟨y, 4, none⟩ (.int .u64 d.c.b)).setCell ⟨y, 5, none⟩ (.int .i64 d.n)) x k c n pv bv :=
  (((((h.other hne _).other hne _).other hne _).other hne _).other hne _).other hne _

/-- A cell between attempts of the batch b: ahead of it stands a. -/
structure Ag (b : Int) (key : Nat) (a : Vl) (c : Cl) : Prop where
  ok : c.ok
  ky : c.k = key
  le : c.n ≤ b
  ah : aheadC c b = a

theorem Ag.app {k b : Int} {key : Nat} {a : Vl} {c : Cl} (h : Ag b key a c) (hk : knownB k = true) (hb : 1 ≤ b) (v : Vl) : appC k c b v = ⟨key, a, mergeV k a v, b⟩ ∧ appI k c b = 0 := by
  rw [app_good (app_ok hk hb h.le), app_ok hk hb h.le, h.ah, h.ky]
  exact ⟨rfl, rfl⟩

theorem ag_new {b : Int} {key : Nat} {a m : Vl} (ha : a.ok) (hm : m.ok) : Ag b key a ⟨key, a, m, b⟩ := ⟨⟨ha, hm⟩, rfl, Int.le_refl _, if_neg (Int.lt_irrefl _)⟩
theorem ag_rev {b : Int} {key : Nat} {a : Vl} (ha : a.ok) : Ag b key a ⟨key, a, a, b - 1⟩ := ⟨⟨ha, ha⟩, rfl, by show b - 1 ≤ b; omega, if_pos (by show b - 1 < b; omega)⟩

/-- Where the loop stands. -/
def Al (w : World) (cb : Nat) (k b : Int) (c : Cl) (pv bv : Value) (m : Nat) (last : Cl) (iv : Value) (wr : World) : Prop :=
  ∃ (i : Nat) (d : Cl), i ≤ m + 1 ∧ iv = .int .i64 i ∧ CB wr cb d ∧ VB wr (cb + 1) c.c ∧ XB wr w.heap.size k c b pv bv ∧ Ag b c.k c.c d ∧ (i = m + 1 → d = last) ∧ Below w.heap.size w wr

set_option maxRecDepth 100000 in
set_option maxHeartbeats 16000000 in
theorem cellagain_walk (k : Int) {c : Cl} (hc : c.ok) {b : Int} (hb : -9223372036854775808 ≤ b ∧ b < 9223372036854775808) {pv bv : Value} {ps : List Vl} {bs : List Bool} {w : World} (hp : Gv w pv 2 valF ps) (hq : Gv w bv 1 flagF bs) (ho : ∀ x ∈ ps, x.ok) :
    Calls Try.prog 4 #[.agg #[.int .i64 k, .int .u64 c.k, .bool c.p.h, .int .u64 c.p.b, .bool c.c.h, .int .u64 c.c.b, .int .i64 c.n, .int .i64 b, pv, bv]] w fun e w' => e = .returned (.bool true) ∧ Below w.heap.size w w' := by
  have HCO : Hid c.ok := hc
  have HPO : Hid (∀ x ∈ ps, x.ok) := ho
  have HBR : Hid (-9223372036854775808 ≤ b ∧ b < 9223372036854775808) := hb
  obtain ⟨ao, cap, rfl, hl1, hl2, hl3, hgl⟩ := hp
  obtain ⟨bo, bcap, rfl, hm1, hm2, hm3, hgb⟩ := hq
  have HGL : Hid (Gl w ao 2 valF ps) := hgl
  have HGB : Hid (Gl w bo 1 flagF bs) := hgb
  have hpl : (ps.length : Int) ≤ 9223372036854775807 := by have h := Nat.le_trans hl1 hl2; simp only [maxLen] at h; omega
  have hbl : (bs.length : Int) ≤ 9223372036854775807 := by have h := Nat.le_trans hm1 hm2; simp only [maxLen] at h; omega
  clear hc ho hb hl1 hl2 hl3 hgl hm1 hm2 hm3 hgb
  have hg1 := guard_val
  have hg2 := guard_cell
  go_enter Try.func4, Try.ntmps4
  go_wp2_with fail
  have H1 : Hid (XB (w.alloc (Obj.cells #[.int .i64 k, .int .u64 c.k, .bool c.p.h, .int .u64 c.p.b, .bool c.c.h, .int .u64 c.c.b, .int .i64 c.n, .int .i64 b, .slice ao ps.length cap, .slice bo bs.length bcap] 43)) w.heap.size k c b (.slice ao ps.length cap) (.slice bo bs.length bcap)) := xb_new _ _ _ _ _ _
  have H2 : Hid (Below w.heap.size w (w.alloc (Obj.cells #[.int .i64 k, .int .u64 c.k, .bool c.p.h, .int .u64 c.p.b, .bool c.c.h, .int .u64 c.c.b, .int .i64 c.n, .int .i64 b, .slice ao ps.length cap, .slice bo bs.length bcap] 43))) := below_alloc _ _
  generalize w.alloc (Obj.cells #[.int .i64 k, .int .u64 c.k, .bool c.p.h, .int .u64 c.p.b, .bool c.c.h, .int .u64 c.c.b, .int .i64 c.n, .int .i64 b, .slice ao ps.length cap, .slice bo bs.length bcap] 43) = w1 at H1 H2 ⊢
  refine (awake_walk _).mono ?_
  rintro e w2 ⟨rfl, hB2⟩
  have HX : Hid (XB w2 w.heap.size k c b (.slice ao ps.length cap) (.slice bo bs.length bcap)) := H1.out.below hB2 (cell_lt H1.out.c0)
  have HB : Hid (Below w.heap.size w w2) := below_trans H2.out hB2
  clear hB2 H1 H2
  obtain ⟨c0, c1, c2, c3, c4, c5, c6, c7, c8, c9⟩ := HX.out
  cases hf : fitC k c
  · go_wp2_with (go_at_call 15; refine (cfit_walk k HCO.out _).mono ?_; rw [hf]; rintro e w3 ⟨rfl, hB3⟩)
    go_ret
    exact ⟨rfl, below_trans HB.out (by assumption)⟩
  obtain ⟨hk, _, hfc, hn0, hn1⟩ := fit_gives hf
  by_cases hbn : b ≤ c.n
  · have hbd : decide (b ≤ c.n) = true := decide_eq_true hbn
    clear hfc hn0 hn1
    go_wp2_with (go_at_call 15; refine (cfit_walk k HCO.out _).mono ?_; rw [hf]; rintro e w3 ⟨rfl, hB3⟩; obtain ⟨c0, c1, c2, c3, c4, c5, c6, c7, c8, c9⟩ := HX.out.below hB3 (cell_lt HX.out.c0))
    go_ret
    exact ⟨rfl, below_trans HB.out (by assumption)⟩
  have hbd : decide (b ≤ c.n) = false := decide_eq_false hbn
  have hb1 : 1 ≤ b := by omega
  have HN : Hid (1 ≤ b ∧ c.n < b ∧ 0 ≤ c.n) := ⟨hb1, by omega, hn0⟩
  have HK : Hid (knownB k = true ∧ fitV k c.c = c.c) := ⟨hk, hfc⟩
  clear hn0 hn1 hfc hb1 hk
  by_cases hp0 : ps.length = 0
  · have hpd : ((ps.length : Int) == 0) = true := by rw [hp0]; rfl
    go_wp2_with (go_at_call 15; refine (cfit_walk k HCO.out _).mono ?_; rw [hf]; rintro e w3 ⟨rfl, hB3⟩; obtain ⟨c0, c1, c2, c3, c4, c5, c6, c7, c8, c9⟩ := HX.out.below hB3 (cell_lt HX.out.c0))
    all_goals (go_ret; exact ⟨rfl, below_trans HB.out (by assumption)⟩)
  have hpd : ((ps.length : Int) == 0) = false := by rw [beq_eq_false_iff_ne]; omega
  go_upto_region 5 with (go_at_call 15; refine (cfit_walk k HCO.out _).mono ?_; rw [hf]; rintro e w3 ⟨rfl, hB3⟩; obtain ⟨c0, c1, c2, c3, c4, c5, c6, c7, c8, c9⟩ := HX.out.below hB3 (cell_lt HX.out.c0))
  have HX3 : Hid (XB w3 w.heap.size k c b (.slice ao ps.length cap) (.slice bo bs.length bcap)) := HX.out.below hB3 (cell_lt HX.out.c0)
  have HB3 : Hid (Below w.heap.size w w3) := below_trans HB.out hB3
  have HW3 : Hid (w.heap.size < w3.heap.size) := cell_lt HX3.out.c0
  clear hB3 HX HB hbd hf
  obtain ⟨m, hm⟩ : ∃ m, ps.length = m + 1 := ⟨ps.length - 1, by omega⟩
  obtain ⟨pb, poff, rfl, _⟩ := HGL.out 0 (by omega)
  rw [hm] at HX3 c8 hpl ⊢
  have hmi : (m : Int) + 1 ≤ 9223372036854775807 := by omega
  clear hpd hp0 hpl
  go_upto_region 7 with fail
  have HC4 : Hid (CB ((w3.alloc (Obj.cells #[.int .u64 c.k, .bool c.p.h, .int .u64 c.p.b, .bool c.c.h, .int .u64 c.c.b, .int .i64 c.n] 26)).alloc (Obj.cells #[.bool c.c.h, .int .u64 c.c.b] 24)) w3.heap.size c) := (cb_new w3 c).below (below_alloc _ _) (by rw [size_alloc]; omega)
  have HA4 : Hid (VB ((w3.alloc (Obj.cells #[.int .u64 c.k, .bool c.p.h, .int .u64 c.p.b, .bool c.c.h, .int .u64 c.c.b, .int .i64 c.n] 26)).alloc (Obj.cells #[.bool c.c.h, .int .u64 c.c.b] 24)) (w3.heap.size + 1) c.c) := by
    have h := vb_new (w3.alloc (Obj.cells #[.int .u64 c.k, .bool c.p.h, .int .u64 c.p.b, .bool c.c.h, .int .u64 c.c.b, .int .i64 c.n] 26)) c.c.h c.c.b
    rw [size_alloc] at h
    exact h
  have hB4 : Below w3.heap.size w3 ((w3.alloc (Obj.cells #[.int .u64 c.k, .bool c.p.h, .int .u64 c.p.b, .bool c.c.h, .int .u64 c.c.b, .int .i64 c.n] 26)).alloc (Obj.cells #[.bool c.c.h, .int .u64 c.c.b] 24)) := below_two _ _ _
  generalize (w3.alloc (Obj.cells #[.int .u64 c.k, .bool c.p.h, .int .u64 c.p.b, .bool c.c.h, .int .u64 c.c.b, .int .i64 c.n] 26)).alloc (Obj.cells #[.bool c.c.h, .int .u64 c.c.b] 24) = w4 at HC4 HA4 hB4 ⊢
  have HX4 : Hid (XB w4 w.heap.size k c b (.slice (some ⟨pb, poff, none⟩) (m + 1) cap) (.slice bo bs.length bcap)) := HX3.out.below hB4 (cell_lt HX3.out.c0)
  have HB4 : Hid (Below w.heap.size w w4) := below_trans HB3.out hB4
  clear hB4 HX3 HB3 c0 c1 c2 c3 c4 c5 c6 c7 c8 c9
  obtain ⟨ql, hql⟩ : ∃ ql, ql = ps[m]'(by omega) := ⟨_, rfl⟩
  have HQL : Hid ql.ok := by rw [hql]; exact HPO.out _ (List.getElem_mem _)
  have HF0 : Hid (w.cell? ⟨pb, poff + m * 2, none⟩ = some (.bool ql.h)) := by
    obtain ⟨pb', poff', he, hc⟩ := HGL.out m (by omega)
    cases he
    rw [← hql] at hc
    show _ = _
    simpa [valF, Nat.add_assoc] using hc 0 (by omega)
  have HF1 : Hid (w.cell? ⟨pb, poff + m * 2 + 1, none⟩ = some (.int .u64 ql.b)) := by
    obtain ⟨pb', poff', he, hc⟩ := HGL.out m (by omega)
    cases he
    rw [← hql] at hc
    show _ = _
    simpa [valF, Nat.add_assoc] using hc 1 (by omega)
  obtain ⟨ML, hML⟩ : ∃ ML, ML = mergeV k c.c ql := ⟨_, rfl⟩
  have HML : Hid (mergeV k c.c ql = ML) := hML.symm
  have HQX : Hid (∀ (i : Nat) (h : i < ps.length), i = m → ps[i] = ql) := by
    intro i h hi
    subst hi
    exact hql.symm
  clear hML hql
  go_wp2_with fail
  go_loopw [5] (fun iv wr => Al w w3.heap.size k b c (.slice (some ⟨pb, poff, none⟩) (m + 1) cap) (.slice bo bs.length bcap) m ⟨c.k, c.c, ML, b⟩ iv wr) (fun iv _ => m + 1 - (intOf iv).toNat)
  case atStart => exact ⟨0, c, Nat.zero_le _, rfl, HC4.out, HA4.out, HX4.out, ⟨HCO.out, rfl, Int.le_of_lt HN.out.2.1, ahead_up HN.out.2.1⟩, fun h => by omega, HB4.out⟩
  case round =>
    clear HC4 HA4 HX4 HB4
    obtain ⟨i, d, hil, rfl, hC, hA, hX, hG, hL, hB⟩ := hrel
    have HC : Hid (CB wr w3.heap.size d) := hC
    have HA : Hid (VB wr (w3.heap.size + 1) c.c) := hA
    have HX : Hid (XB wr w.heap.size k c b (.slice (some ⟨pb, poff, none⟩) (m + 1) cap) (.slice bo bs.length bcap)) := hX
    have HG : Hid (Ag b c.k c.c d) := hG
    have HL : Hid (i = m + 1 → d = ⟨c.k, c.c, ML, b⟩) := hL
    have HB : Hid (Below w.heap.size w wr) := hB
    clear hC hA hX hG hL hB
    obtain ⟨c0, c1, c2, c3, c4, c5, c6, c7, c8, c9⟩ := HX.out
    by_cases hlt : i < m + 1
    · have hlti : (i : Int) < (m : Int) + 1 := by omega
      have hil2 : i < ps.length := by omega
      obtain ⟨q, hq⟩ : ∃ q, q = ps[i] := ⟨_, rfl⟩
      have HQO : Hid q.ok := by rw [hq]; exact HPO.out _ (List.getElem_mem _)
      have HE0 : Hid (w.cell? ⟨pb, poff + i * 2, none⟩ = some (.bool q.h)) := by
        obtain ⟨pb', poff', he, hc⟩ := HGL.out i hil2
        cases he
        rw [← hq] at hc
        show _ = _
        simpa [valF, Nat.add_assoc] using hc 0 (by omega)
      have HE1 : Hid (w.cell? ⟨pb, poff + i * 2 + 1, none⟩ = some (.int .u64 q.b)) := by
        obtain ⟨pb', poff', he, hc⟩ := HGL.out i hil2
        cases he
        rw [← hq] at hc
        show _ = _
        simpa [valF, Nat.add_assoc] using hc 1 (by omega)
      have HQE : Hid (i = m → q = ql) := fun h => by rw [hq]; exact HQX.out i hil2 h
      obtain ⟨M, hM⟩ : ∃ M, M = mergeV k c.c q := ⟨_, rfl⟩
      have HMO : Hid M.ok := by rw [hM]; exact mergeV_ok k HCO.out.2 HQO.out
      have HME : Hid (mergeV k c.c q = M) := hM.symm
      have HMF : Hid (fitV k M = M) := by rw [hM]; exact fit_merge k _ _
      have HAC : Hid (appC k d b q = ⟨c.k, c.c, M, b⟩) := by rw [hM]; exact (HG.out.app HK.out.1 HN.out.1 q).1
      have HAI : Hid (appI k d b = 0) := (HG.out.app HK.out.1 HN.out.1 q).2
      clear hM hq hil2
      go_upto_region 10 with fail
      clear c0 c1 c2 c3 c4 c5 c6 c7 c8 c9
      have k0 : ∀ wx, Below wr.heap.size wr wx → wx.cell? ⟨w.heap.size, 0, none⟩ = some (.int .i64 k) := fun wx h => (HX.out.below h (cell_lt HX.out.c0)).c0
      have k1 : ∀ wx, Below wr.heap.size wr wx → wx.cell? ⟨w.heap.size, 1, none⟩ = some (.int .u64 c.k) := fun wx h => (HX.out.below h (cell_lt HX.out.c0)).c1
      have k2 : ∀ wx, Below wr.heap.size wr wx → wx.cell? ⟨w.heap.size, 2, none⟩ = some (.bool c.p.h) := fun wx h => (HX.out.below h (cell_lt HX.out.c0)).c2
      have k3 : ∀ wx, Below wr.heap.size wr wx → wx.cell? ⟨w.heap.size, 3, none⟩ = some (.int .u64 c.p.b) := fun wx h => (HX.out.below h (cell_lt HX.out.c0)).c3
      have k4 : ∀ wx, Below wr.heap.size wr wx → wx.cell? ⟨w.heap.size, 4, none⟩ = some (.bool c.c.h) := fun wx h => (HX.out.below h (cell_lt HX.out.c0)).c4
      have k5 : ∀ wx, Below wr.heap.size wr wx → wx.cell? ⟨w.heap.size, 5, none⟩ = some (.int .u64 c.c.b) := fun wx h => (HX.out.below h (cell_lt HX.out.c0)).c5
      have k6 : ∀ wx, Below wr.heap.size wr wx → wx.cell? ⟨w.heap.size, 6, none⟩ = some (.int .i64 c.n) := fun wx h => (HX.out.below h (cell_lt HX.out.c0)).c6
      have k7 : ∀ wx, Below wr.heap.size wr wx → wx.cell? ⟨w.heap.size, 7, none⟩ = some (.int .i64 b) := fun wx h => (HX.out.below h (cell_lt HX.out.c0)).c7
      have k8 : ∀ wx, Below wr.heap.size wr wx → wx.cell? ⟨w.heap.size, 8, none⟩ = some (.slice (some ⟨pb, poff, none⟩) (m + 1) cap) := fun wx h => (HX.out.below h (cell_lt HX.out.c0)).c8
      have k9 : ∀ wx, Below wr.heap.size wr wx → wx.cell? ⟨w.heap.size, 9, none⟩ = some (.slice bo bs.length bcap) := fun wx h => (HX.out.below h (cell_lt HX.out.c0)).c9
      have l0 : ∀ wx, Below wr.heap.size wr wx → wx.cell? ⟨w3.heap.size, 0, none⟩ = some (.int .u64 d.k) := fun wx h => (HC.out.below h (cell_lt HC.out.c0)).c0
      have l1 : ∀ wx, Below wr.heap.size wr wx → wx.cell? ⟨w3.heap.size, 1, none⟩ = some (.bool d.p.h) := fun wx h => (HC.out.below h (cell_lt HC.out.c0)).c1
      have l2 : ∀ wx, Below wr.heap.size wr wx → wx.cell? ⟨w3.heap.size, 2, none⟩ = some (.int .u64 d.p.b) := fun wx h => (HC.out.below h (cell_lt HC.out.c0)).c2
      have l3 : ∀ wx, Below wr.heap.size wr wx → wx.cell? ⟨w3.heap.size, 3, none⟩ = some (.bool d.c.h) := fun wx h => (HC.out.below h (cell_lt HC.out.c0)).c3
      have l4 : ∀ wx, Below wr.heap.size wr wx → wx.cell? ⟨w3.heap.size, 4, none⟩ = some (.int .u64 d.c.b) := fun wx h => (HC.out.below h (cell_lt HC.out.c0)).c4
      have l5 : ∀ wx, Below wr.heap.size wr wx → wx.cell? ⟨w3.heap.size, 5, none⟩ = some (.int .i64 d.n) := fun wx h => (HC.out.below h (cell_lt HC.out.c0)).c5
      have q0 : ∀ wx, Below wr.heap.size wr wx → wx.cell? ⟨pb, poff + i * 2, none⟩ = some (.bool q.h) := fun wx h => by
        rw [(below_trans HB.out h).cell (p := ⟨pb, poff + i * 2, none⟩) (cell_lt HE0.out)]
        exact HE0.out
      have q1 : ∀ wx, Below wr.heap.size wr wx → wx.cell? ⟨pb, poff + i * 2 + 1, none⟩ = some (.int .u64 q.b) := fun wx h => by
        rw [(below_trans HB.out h).cell (p := ⟨pb, poff + i * 2 + 1, none⟩) (cell_lt HE1.out)]
        exact HE1.out
      go_cut [6, 7] (fun uv ev wx => Nu wr ⟨c.k, c.c, M, b⟩ 0 uv ev wx)
      case first =>
        refine wp_region_noPanic ?_
        refine wp_region_held_drew (S := fun wx => Below wr.heap.size wr wx) (by kernel_rfl) ?_ (fun hHeld => ?_)
        · exact (Below.refl _ _).drew
        refine wpAnyH_take (i := 0) (oi := ⟨some 44, _, _, _, _, _⟩) (v := ?_) rfl (by kernel_rfl) (by kernel_rfl) (by kernel_rfl) (fun _ _ _ h => h) (Or.inl ⟨by rfl, ?_⟩) hHeld ?_
        rotate_left
        · intro w hSw; (try dsimp only at hSw); go_simp; all_goals (with_reducible rfl)
        try simp only [Act.put, List.setIfInBounds_toArray, List.set_cons_zero, List.set_cons_succ]
        refine wpAnyH_take (i := 1) (oi := ⟨some 45, _, _, _, _, _⟩) (v := ?_) rfl (by kernel_rfl) (by kernel_rfl) (by kernel_rfl) (fun _ _ _ h => h) (Or.inl ⟨by rfl, ?_⟩) hHeld ?_
        rotate_left
        · intro w hSw; (try dsimp only at hSw); go_simp; all_goals (with_reducible rfl)
        try simp only [Act.put, List.setIfInBounds_toArray, List.set_cons_zero, List.set_cons_succ]
        refine wpAnyH_take (i := 2) (oi := ⟨some 46, _, _, _, _, _⟩) (v := ?_) rfl (by kernel_rfl) (by kernel_rfl) (by kernel_rfl) (fun _ _ _ h => h) (Or.inl ⟨by rfl, ?_⟩) hHeld ?_
        rotate_left
        · intro w hSw; (try dsimp only at hSw); go_simp; all_goals (with_reducible rfl)
        try simp only [Act.put, List.setIfInBounds_toArray, List.set_cons_zero, List.set_cons_succ]
        refine wpAnyH_take (i := 3) (oi := ⟨some 47, _, _, _, _, _⟩) (v := ?_) rfl (by kernel_rfl) (by kernel_rfl) (by kernel_rfl) (fun _ _ _ h => h) (Or.inl ⟨by rfl, ?_⟩) hHeld ?_
        rotate_left
        · intro w hSw; (try dsimp only at hSw); go_simp; all_goals (with_reducible rfl)
        try simp only [Act.put, List.setIfInBounds_toArray, List.set_cons_zero, List.set_cons_succ]
        refine wpAnyH_take (i := 4) (oi := ⟨some 48, _, _, _, _, _⟩) (v := ?_) rfl (by kernel_rfl) (by kernel_rfl) (by kernel_rfl) (fun _ _ _ h => h) (Or.inl ⟨by rfl, ?_⟩) hHeld ?_
        rotate_left
        · intro w hSw; (try dsimp only at hSw); go_simp; all_goals (with_reducible rfl)
        try simp only [Act.put, List.setIfInBounds_toArray, List.set_cons_zero, List.set_cons_succ]
        refine wpAnyH_take (i := 5) (oi := ⟨some 49, _, _, _, _, _⟩) (v := ?_) rfl (by kernel_rfl) (by kernel_rfl) (by kernel_rfl) (fun _ _ _ h => h) (Or.inl ⟨by rfl, ?_⟩) hHeld ?_
        rotate_left
        · intro w hSw; (try dsimp only at hSw); go_simp; all_goals (with_reducible rfl)
        try simp only [Act.put, List.setIfInBounds_toArray, List.set_cons_zero, List.set_cons_succ]
        refine wpAnyH_take (i := 6) (oi := ⟨some 50, _, _, _, _, _⟩) (v := ?_) rfl (by kernel_rfl) (by kernel_rfl) (by kernel_rfl) (fun _ _ _ h => h) (Or.inl ⟨by rfl, ?_⟩) hHeld ?_
        rotate_left
        · intro w hSw; (try dsimp only at hSw); go_simp; all_goals (with_reducible rfl)
        try simp only [Act.put, List.setIfInBounds_toArray, List.set_cons_zero, List.set_cons_succ]
        refine wpAnyH_take (i := 7) (oi := ⟨some 51, _, _, _, _, _⟩) (v := ?_) rfl (by kernel_rfl) (by kernel_rfl) (by kernel_rfl) (fun _ _ _ h => h) (Or.inl ⟨by rfl, ?_⟩) hHeld ?_
        rotate_left
        · intro w hSw; (try dsimp only at hSw); go_simp; all_goals (with_reducible rfl)
        try simp only [Act.put, List.setIfInBounds_toArray, List.set_cons_zero, List.set_cons_succ]
        refine wpAnyH_take (i := 8) (oi := ⟨some 52, _, _, _, _, _⟩) (v := ?_) rfl (by kernel_rfl) (by kernel_rfl) (by kernel_rfl) (fun _ _ _ h => h) (Or.inl ⟨by rfl, ?_⟩) hHeld ?_
        rotate_left
        · intro w hSw; (try dsimp only at hSw); go_simp; all_goals (with_reducible rfl)
        try simp only [Act.put, List.setIfInBounds_toArray, List.set_cons_zero, List.set_cons_succ]
        refine wpAnyH_take (i := 9) (oi := ⟨some 53, _, _, _, _, _⟩) (v := ?_) rfl (by kernel_rfl) (by kernel_rfl) (by kernel_rfl) (fun _ _ _ h => h) (Or.inl ⟨by rfl, ?_⟩) hHeld ?_
        rotate_left
        · intro w hSw; (try dsimp only at hSw); go_simp; all_goals (with_reducible rfl)
        try simp only [Act.put, List.setIfInBounds_toArray, List.set_cons_zero, List.set_cons_succ]
        refine wpAnyH_ready (rs := [10, 14]) (by kernel_rfl) (by simp) ?_
        refine AllReadyH.cons (o := ⟨some 54, _, _, _, _, _⟩) rfl (fun K hK => ?_) (AllReadyH.cons (o := ⟨some 6, _, _, _, _, _⟩) rfl (fun K hK => ?_) AllReadyH.nil)
        · go_simp
          refine (apply_walk k HG.out.ok b HQO.out _).mono ?_
          rw [HAC.out, HAI.out]
          rintro e w9 ⟨rfl, hB9⟩
          have hS9 : Below wr.heap.size wr w9 := below_trans hHeld hB9
          clear hB9 hHeld
          go_simp
          refine hK.out _ _ ?_ (fun hHeld => ?_)
          · exact hS9
          clear hK K
          try simp only [Act.put, List.setIfInBounds_toArray, List.set_cons_zero, List.set_cons_succ]
          refine wpAnyH_take (i := 11) (oi := ⟨some 43, _, _, _, _, _⟩) (v := ?_) rfl (by kernel_rfl) (by kernel_rfl) (by kernel_rfl) (fun _ _ _ h => h) (Or.inl ⟨by rfl, ?_⟩) hHeld ?_
          rotate_left
          · intro w hSw; (try dsimp only at hSw); go_simp; all_goals (with_reducible rfl)
          try simp only [Act.put, List.setIfInBounds_toArray, List.set_cons_zero, List.set_cons_succ]
          refine wpAnyH_take (i := 12) (oi := ⟨some 55, _, _, _, _, _⟩) (v := ?_) rfl (by kernel_rfl) (by kernel_rfl) (by kernel_rfl) (fun _ _ _ h => h) (Or.inl ⟨by rfl, ?_⟩) hHeld ?_
          rotate_left
          · intro w hSw; (try dsimp only at hSw); go_simp; all_goals (with_reducible rfl)
          try simp only [Act.put, List.setIfInBounds_toArray, List.set_cons_zero, List.set_cons_succ]
          refine wpAnyH_take (i := 13) (oi := ⟨some 56, _, _, _, _, _⟩) (v := ?_) rfl (by kernel_rfl) (by kernel_rfl) (by kernel_rfl) (fun _ _ _ h => h) (Or.inl ⟨by rfl, ?_⟩) hHeld ?_
          rotate_left
          · intro w hSw; (try dsimp only at hSw); go_simp; all_goals (with_reducible rfl)
          try simp only [Act.put, List.setIfInBounds_toArray, List.set_cons_zero, List.set_cons_succ]
          refine wpAnyH_ready (rs := [14]) (by kernel_rfl) (by simp) ?_
          refine AllReadyH.cons (o := ⟨some 6, _, _, _, _, _⟩) rfl (fun K hK => ?_) AllReadyH.nil
          go_simp
          refine hK.out _ _ ?_ (fun hHeld => ?_)
          · exact by first | exact hHeld.alloc hHeld.size _ | exact (below_alloc _ _).drew
          clear hK K
          try simp only [Act.put, List.setIfInBounds_toArray, List.set_cons_zero, List.set_cons_succ]
          refine wpAnyH_ready (rs := [15]) (by kernel_rfl) (by simp) ?_
          refine AllReadyH.cons (o := ⟨none, _, _, _, _, _⟩) rfl (fun K hK => ?_) AllReadyH.nil
          go_simp
          refine hK.out _ _ ?_ (fun hHeld => ?_)
          · exact hS9.alloc hS9.size _
          clear hK K
          try simp only [Act.put, List.setIfInBounds_toArray, List.set_cons_zero, List.set_cons_succ]
          refine wpAnyH_take (i := 16) (oi := ⟨some 7, _, _, _, _, _⟩) (v := ?_) rfl (by kernel_rfl) (by kernel_rfl) (by kernel_rfl) (fun _ _ _ h => h) (Or.inl ⟨by rfl, ?_⟩) hHeld ?_
          rotate_left
          · intro w hSw; (try dsimp only at hSw); go_simp; all_goals (with_reducible rfl)
          try simp only [Act.put, List.setIfInBounds_toArray, List.set_cons_zero, List.set_cons_succ]
          refine wpAnyH_done (by kernel_rfl) ?_ _
          refine NoPanic.normal ?_
          go_wp2_with fail
          go_meet
          exact nu_new hS9 ⟨c.k, c.c, M, b⟩ 0
        · go_simp
          refine hK.out _ _ ?_ (fun hHeld => ?_)
          · exact by first | exact hHeld.alloc hHeld.size _ | exact (below_alloc _ _).drew
          clear hK K
          try simp only [Act.put, List.setIfInBounds_toArray, List.set_cons_zero, List.set_cons_succ]
          refine wpAnyH_ready (rs := [10]) (by kernel_rfl) (by simp) ?_
          refine AllReadyH.cons (o := ⟨some 54, _, _, _, _, _⟩) rfl (fun K hK => ?_) AllReadyH.nil
          go_simp
          refine (apply_walk k HG.out.ok b HQO.out _).mono ?_
          rw [HAC.out, HAI.out]
          rintro e w9 ⟨rfl, hB9⟩
          have hS9 : Below wr.heap.size wr w9 := below_trans hHeld hB9
          have hz9 := zero_boxd hB9
          have hz := hz9
          obtain ⟨d0, d1, d2, d3, d4, d5, yy⟩ := hz9
          clear hB9 hHeld
          go_simp
          refine hK.out _ _ ?_ (fun hHeld => ?_)
          · exact hS9
          clear hK K
          try simp only [Act.put, List.setIfInBounds_toArray, List.set_cons_zero, List.set_cons_succ]
          refine wpAnyH_take (i := 11) (oi := ⟨some 43, _, _, _, _, _⟩) (v := ?_) rfl (by kernel_rfl) (by kernel_rfl) (by kernel_rfl) (fun _ _ _ h => h) (Or.inl ⟨by rfl, ?_⟩) hHeld ?_
          rotate_left
          · intro w hSw; (try dsimp only at hSw); go_simp; all_goals (with_reducible rfl)
          try simp only [Act.put, List.setIfInBounds_toArray, List.set_cons_zero, List.set_cons_succ]
          refine wpAnyH_take (i := 12) (oi := ⟨some 55, _, _, _, _, _⟩) (v := ?_) rfl (by kernel_rfl) (by kernel_rfl) (by kernel_rfl) (fun _ _ _ h => h) (Or.inl ⟨by rfl, ?_⟩) hHeld ?_
          rotate_left
          · intro w hSw; (try dsimp only at hSw); go_simp; all_goals (with_reducible rfl)
          try simp only [Act.put, List.setIfInBounds_toArray, List.set_cons_zero, List.set_cons_succ]
          refine wpAnyH_take (i := 13) (oi := ⟨some 56, _, _, _, _, _⟩) (v := ?_) rfl (by kernel_rfl) (by kernel_rfl) (by kernel_rfl) (fun _ _ _ h => h) (Or.inl ⟨by rfl, ?_⟩) hHeld ?_
          rotate_left
          · intro w hSw; (try dsimp only at hSw); go_simp; all_goals (with_reducible rfl)
          try simp only [Act.put, List.setIfInBounds_toArray, List.set_cons_zero, List.set_cons_succ]
          refine wpAnyH_ready (rs := [15]) (by kernel_rfl) (by simp) ?_
          refine AllReadyH.cons (o := ⟨none, _, _, _, _, _⟩) rfl (fun K hK => ?_) AllReadyH.nil
          go_simp
          refine hK.out _ _ ?_ (fun hHeld => ?_)
          · exact keep_cell hS9 _ (Nat.le_refl _) _ _ _ _ _ _
          clear hK K
          try simp only [Act.put, List.setIfInBounds_toArray, List.set_cons_zero, List.set_cons_succ]
          refine wpAnyH_take (i := 16) (oi := ⟨some 7, _, _, _, _, _⟩) (v := ?_) rfl (by kernel_rfl) (by kernel_rfl) (by kernel_rfl) (fun _ _ _ h => h) (Or.inl ⟨by rfl, ?_⟩) hHeld ?_
          rotate_left
          · intro w hSw; (try dsimp only at hSw); go_simp; all_goals (with_reducible rfl)
          try simp only [Act.put, List.setIfInBounds_toArray, List.set_cons_zero, List.set_cons_succ]
          refine wpAnyH_done (by kernel_rfl) ?_ _
          refine NoPanic.normal ?_
          go_wp2_with fail
          go_meet
          exact nu_old hS9 (Nat.le_refl _) hz ⟨c.k, c.c, M, b⟩ 0
      case rest =>
        clear k0 k1 k2 k3 k4 k5 k6 k7 k8 k9 l0 l1 l2 l3 l4 l5 q0 q1
        obtain ⟨U, rfl, rfl, hU, hle, hBx⟩ := hcut
        obtain ⟨w5, hw5⟩ : ∃ w5, w5 = wc := ⟨_, rfl⟩
        rw [← hw5] at hU hBx ⊢
        clear hw5
        have HU : Hid (CB w5 U ⟨c.k, c.c, M, b⟩) := hU
        have HC5 : Hid (CB w5 w3.heap.size d) := HC.out.below hBx (cell_lt HC.out.c0)
        have HA5 : Hid (VB w5 (w3.heap.size + 1) c.c) := HA.out.below hBx (cell_lt HA.out.c0)
        have HX5 : Hid (XB w5 w.heap.size k c b (.slice (some ⟨pb, poff, none⟩) (m + 1) cap) (.slice bo bs.length bcap)) := HX.out.below hBx (cell_lt HX.out.c0)
        have HB5 : Hid (Below w.heap.size w w5) := below_trans HB.out hBx
        clear hU hBx hle HC HA HX HB HG HL
        have n1 := neq_val c.c
        have n2 := neq_val M
        have hsb : IntKind.i64.wrap (b - 1) = b - 1 := sub_one HN.out.1 (by have := HBR.out; omega)
        have HRA : Hid (resC ⟨c.k, c.c, M, b⟩ (b - 1) = c.c) := if_neg (by show ¬ b ≤ b - 1; omega)
        have HRB : Hid (resC ⟨c.k, c.c, M, b⟩ b = M) := if_pos (Int.le_refl _)
        go_upto_region 11 with fail
        go_cut [95] (fun g wx => g = .bool false ∧ Below w5.heap.size w5 wx)
        case first =>
          have k0 : ∀ wx, Below w5.heap.size w5 wx → wx.cell? ⟨w.heap.size, 0, none⟩ = some (.int .i64 k) := fun wx h => (HX5.out.below h (cell_lt HX5.out.c0)).c0
          have k1 : ∀ wx, Below w5.heap.size w5 wx → wx.cell? ⟨w.heap.size, 1, none⟩ = some (.int .u64 c.k) := fun wx h => (HX5.out.below h (cell_lt HX5.out.c0)).c1
          have k2 : ∀ wx, Below w5.heap.size w5 wx → wx.cell? ⟨w.heap.size, 2, none⟩ = some (.bool c.p.h) := fun wx h => (HX5.out.below h (cell_lt HX5.out.c0)).c2
          have k3 : ∀ wx, Below w5.heap.size w5 wx → wx.cell? ⟨w.heap.size, 3, none⟩ = some (.int .u64 c.p.b) := fun wx h => (HX5.out.below h (cell_lt HX5.out.c0)).c3
          have k4 : ∀ wx, Below w5.heap.size w5 wx → wx.cell? ⟨w.heap.size, 4, none⟩ = some (.bool c.c.h) := fun wx h => (HX5.out.below h (cell_lt HX5.out.c0)).c4
          have k5 : ∀ wx, Below w5.heap.size w5 wx → wx.cell? ⟨w.heap.size, 5, none⟩ = some (.int .u64 c.c.b) := fun wx h => (HX5.out.below h (cell_lt HX5.out.c0)).c5
          have k6 : ∀ wx, Below w5.heap.size w5 wx → wx.cell? ⟨w.heap.size, 6, none⟩ = some (.int .i64 c.n) := fun wx h => (HX5.out.below h (cell_lt HX5.out.c0)).c6
          have k7 : ∀ wx, Below w5.heap.size w5 wx → wx.cell? ⟨w.heap.size, 7, none⟩ = some (.int .i64 b) := fun wx h => (HX5.out.below h (cell_lt HX5.out.c0)).c7
          have k8 : ∀ wx, Below w5.heap.size w5 wx → wx.cell? ⟨w.heap.size, 8, none⟩ = some (.slice (some ⟨pb, poff, none⟩) (m + 1) cap) := fun wx h => (HX5.out.below h (cell_lt HX5.out.c0)).c8
          have k9 : ∀ wx, Below w5.heap.size w5 wx → wx.cell? ⟨w.heap.size, 9, none⟩ = some (.slice bo bs.length bcap) := fun wx h => (HX5.out.below h (cell_lt HX5.out.c0)).c9
          have l0 : ∀ wx, Below w5.heap.size w5 wx → wx.cell? ⟨U, 0, none⟩ = some (.int .u64 c.k) := fun wx h => (HU.out.below h (cell_lt HU.out.c0)).c0
          have l1 : ∀ wx, Below w5.heap.size w5 wx → wx.cell? ⟨U, 1, none⟩ = some (.bool c.c.h) := fun wx h => (HU.out.below h (cell_lt HU.out.c0)).c1
          have l2 : ∀ wx, Below w5.heap.size w5 wx → wx.cell? ⟨U, 2, none⟩ = some (.int .u64 c.c.b) := fun wx h => (HU.out.below h (cell_lt HU.out.c0)).c2
          have l3 : ∀ wx, Below w5.heap.size w5 wx → wx.cell? ⟨U, 3, none⟩ = some (.bool M.h) := fun wx h => (HU.out.below h (cell_lt HU.out.c0)).c3
          have l4 : ∀ wx, Below w5.heap.size w5 wx → wx.cell? ⟨U, 4, none⟩ = some (.int .u64 M.b) := fun wx h => (HU.out.below h (cell_lt HU.out.c0)).c4
          have l5 : ∀ wx, Below w5.heap.size w5 wx → wx.cell? ⟨U, 5, none⟩ = some (.int .i64 b) := fun wx h => (HU.out.below h (cell_lt HU.out.c0)).c5
          have v0 : ∀ wx, Below w5.heap.size w5 wx → wx.cell? ⟨w3.heap.size + 1, 0, none⟩ = some (.bool c.c.h) := fun wx h => (HA5.out.below h (cell_lt HA5.out.c0)).c0
          have v1 : ∀ wx, Below w5.heap.size w5 wx → wx.cell? ⟨w3.heap.size + 1, 1, none⟩ = some (.int .u64 c.c.b) := fun wx h => (HA5.out.below h (cell_lt HA5.out.c0)).c1
          have q0 : ∀ wx, Below w5.heap.size w5 wx → wx.cell? ⟨pb, poff + i * 2, none⟩ = some (.bool q.h) := fun wx h => by
            rw [(below_trans HB5.out h).cell (p := ⟨pb, poff + i * 2, none⟩) (cell_lt HE0.out)]
            exact HE0.out
          have q1 : ∀ wx, Below w5.heap.size w5 wx → wx.cell? ⟨pb, poff + i * 2 + 1, none⟩ = some (.int .u64 q.b) := fun wx h => by
            rw [(below_trans HB5.out h).cell (p := ⟨pb, poff + i * 2 + 1, none⟩) (cell_lt HE1.out)]
            exact HE1.out
          by_cases hmx : b ≤ 1099511627776
          · have HFT : Hid (fitC k ⟨c.k, c.c, M, b⟩ = true) := fit_of_gives HK.out.1 HK.out.2 HMF.out (by have := HN.out.1; show 0 ≤ b; omega) hmx
            refine wp_region_noPanic ?_
            refine wp_region_held_drew (S := fun wx => Below w5.heap.size w5 wx) (by kernel_rfl) ?_ (fun hHeld => ?_)
            · exact (Below.refl _ _).drew
            refine wpAnyH_take (i := 0) (oi := ⟨some 57, _, _, _, _, _⟩) (v := ?_) rfl (by kernel_rfl) (by kernel_rfl) (by kernel_rfl) (fun _ _ _ h => h) (Or.inl ⟨by rfl, ?_⟩) hHeld ?_
            rotate_left
            · intro w hSw; (try dsimp only at hSw); go_simp; all_goals (with_reducible rfl)
            try simp only [Act.put, List.setIfInBounds_toArray, List.set_cons_zero, List.set_cons_succ]
            refine wpAnyH_take (i := 1) (oi := ⟨some 58, _, _, _, _, _⟩) (v := ?_) rfl (by kernel_rfl) (by kernel_rfl) (by kernel_rfl) (fun _ _ _ h => h) (Or.inl ⟨by rfl, ?_⟩) hHeld ?_
            rotate_left
            · intro w hSw; (try dsimp only at hSw); go_simp; all_goals (with_reducible rfl)
            try simp only [Act.put, List.setIfInBounds_toArray, List.set_cons_zero, List.set_cons_succ]
            refine wpAnyH_take (i := 2) (oi := ⟨some 59, _, _, _, _, _⟩) (v := ?_) rfl (by kernel_rfl) (by kernel_rfl) (by kernel_rfl) (fun _ _ _ h => h) (Or.inl ⟨by rfl, ?_⟩) hHeld ?_
            rotate_left
            · intro w hSw; (try dsimp only at hSw); go_simp; all_goals (with_reducible rfl)
            try simp only [Act.put, List.setIfInBounds_toArray, List.set_cons_zero, List.set_cons_succ]
            refine wpAnyH_take (i := 3) (oi := ⟨some 60, _, _, _, _, _⟩) (v := ?_) rfl (by kernel_rfl) (by kernel_rfl) (by kernel_rfl) (fun _ _ _ h => h) (Or.inl ⟨by rfl, ?_⟩) hHeld ?_
            rotate_left
            · intro w hSw; (try dsimp only at hSw); go_simp; all_goals (with_reducible rfl)
            try simp only [Act.put, List.setIfInBounds_toArray, List.set_cons_zero, List.set_cons_succ]
            refine wpAnyH_take (i := 4) (oi := ⟨some 61, _, _, _, _, _⟩) (v := ?_) rfl (by kernel_rfl) (by kernel_rfl) (by kernel_rfl) (fun _ _ _ h => h) (Or.inl ⟨by rfl, ?_⟩) hHeld ?_
            rotate_left
            · intro w hSw; (try dsimp only at hSw); go_simp; all_goals (with_reducible rfl)
            try simp only [Act.put, List.setIfInBounds_toArray, List.set_cons_zero, List.set_cons_succ]
            refine wpAnyH_take (i := 5) (oi := ⟨some 62, _, _, _, _, _⟩) (v := ?_) rfl (by kernel_rfl) (by kernel_rfl) (by kernel_rfl) (fun _ _ _ h => h) (Or.inl ⟨by rfl, ?_⟩) hHeld ?_
            rotate_left
            · intro w hSw; (try dsimp only at hSw); go_simp; all_goals (with_reducible rfl)
            try simp only [Act.put, List.setIfInBounds_toArray, List.set_cons_zero, List.set_cons_succ]
            refine wpAnyH_take (i := 6) (oi := ⟨some 63, _, _, _, _, _⟩) (v := ?_) rfl (by kernel_rfl) (by kernel_rfl) (by kernel_rfl) (fun _ _ _ h => h) (Or.inl ⟨by rfl, ?_⟩) hHeld ?_
            rotate_left
            · intro w hSw; (try dsimp only at hSw); go_simp; all_goals (with_reducible rfl)
            try simp only [Act.put, List.setIfInBounds_toArray, List.set_cons_zero, List.set_cons_succ]
            refine wpAnyH_take (i := 8) (oi := ⟨some 65, _, _, _, _, _⟩) (v := ?_) rfl (by kernel_rfl) (by kernel_rfl) (by kernel_rfl) (fun _ _ _ h => h) (Or.inl ⟨by rfl, ?_⟩) hHeld ?_
            rotate_left
            · intro w hSw; (try dsimp only at hSw); go_simp; all_goals (with_reducible rfl)
            try simp only [Act.put, List.setIfInBounds_toArray, List.set_cons_zero, List.set_cons_succ]
            refine wpAnyH_ready (rs := [7]) (by kernel_rfl) (by simp) ?_
            refine AllReadyH.cons (o := ⟨some 64, _, _, _, _, _⟩) rfl (fun K hK => ?_) AllReadyH.nil
            go_simp
            refine (resolve_walk ⟨c.k, c.c, M, b⟩ (b - 1) _).mono ?_
            rw [HRA.out]
            rintro e w9 ⟨rfl, hB9⟩
            have hS9 := below_trans hHeld hB9
            clear hB9 hHeld
            go_simp
            refine hK.out _ _ ?_ (fun hHeld => ?_)
            · exact hS9
            clear hK K
            try simp only [Act.put, List.setIfInBounds_toArray, List.set_cons_zero, List.set_cons_succ]
            refine wpAnyH_take (i := 9) (oi := ⟨some 66, _, _, _, _, _⟩) (v := ?_) rfl (by kernel_rfl) (by kernel_rfl) (by kernel_rfl) (fun _ _ _ h => h) (Or.inl ⟨by rfl, ?_⟩) hHeld ?_
            rotate_left
            · intro w hSw; (try dsimp only at hSw); go_simp; all_goals (with_reducible rfl)
            try simp only [Act.put, List.setIfInBounds_toArray, List.set_cons_zero, List.set_cons_succ]
            refine wpAnyH_take (i := 10) (oi := ⟨some 67, _, _, _, _, _⟩) (v := ?_) rfl (by kernel_rfl) (by kernel_rfl) (by kernel_rfl) (fun _ _ _ h => h) (Or.inl ⟨by rfl, ?_⟩) hHeld ?_
            rotate_left
            · intro w hSw; (try dsimp only at hSw); go_simp; all_goals (with_reducible rfl)
            try simp only [Act.put, List.setIfInBounds_toArray, List.set_cons_zero, List.set_cons_succ]
            refine wpAnyH_take (i := 11) (oi := ⟨some 68, _, _, _, _, _⟩) (v := ?_) rfl (by kernel_rfl) (by kernel_rfl) (by kernel_rfl) (fun _ _ _ h => h) (Or.inl ⟨by rfl, ?_⟩) hHeld ?_
            rotate_left
            · intro w hSw; (try dsimp only at hSw); go_simp; all_goals (with_reducible rfl)
            try simp only [Act.put, List.setIfInBounds_toArray, List.set_cons_zero, List.set_cons_succ]
            refine wpAnyH_take (i := 12) (oi := ⟨some 69, _, _, _, _, _⟩) (v := ?_) rfl (by kernel_rfl) (by kernel_rfl) (by kernel_rfl) (fun _ _ _ h => h) (Or.inl ⟨by rfl, ?_⟩) hHeld ?_
            rotate_left
            · intro w hSw; (try dsimp only at hSw); go_simp; all_goals (with_reducible rfl)
            try simp only [Act.put, List.setIfInBounds_toArray, List.set_cons_zero, List.set_cons_succ]
            refine wpAnyH_take (i := 13) (oi := ⟨some 70, _, _, _, _, _⟩) (v := ?_) rfl (by kernel_rfl) (by kernel_rfl) (by kernel_rfl) (fun _ _ _ h => h) (Or.inl ⟨by rfl, ?_⟩) hHeld ?_
            rotate_left
            · intro w hSw; (try dsimp only at hSw); go_simp; all_goals (with_reducible rfl)
            try simp only [Act.put, List.setIfInBounds_toArray, List.set_cons_zero, List.set_cons_succ]
            refine wpAnyH_take (i := 14) (oi := ⟨some 71, _, _, _, _, _⟩) (v := ?_) rfl (by kernel_rfl) (by kernel_rfl) (by kernel_rfl) (fun _ _ _ h => h) (Or.inl ⟨by rfl, ?_⟩) hHeld ?_
            rotate_left
            · intro w hSw; (try dsimp only at hSw); go_simp; all_goals (with_reducible rfl)
            try simp only [Act.put, List.setIfInBounds_toArray, List.set_cons_zero, List.set_cons_succ]
            refine wpAnyH_take (i := 16) (oi := ⟨some 73, _, _, _, _, _⟩) (v := ?_) rfl (by kernel_rfl) (by kernel_rfl) (by kernel_rfl) (fun _ _ _ h => h) (Or.inl ⟨by rfl, ?_⟩) hHeld ?_
            rotate_left
            · intro w hSw; (try dsimp only at hSw); go_simp; all_goals (with_reducible rfl)
            try simp only [Act.put, List.setIfInBounds_toArray, List.set_cons_zero, List.set_cons_succ]
            refine wpAnyH_take (i := 17) (oi := ⟨some 74, _, _, _, _, _⟩) (v := ?_) rfl (by kernel_rfl) (by kernel_rfl) (by kernel_rfl) (fun _ _ _ h => h) (Or.inl ⟨by rfl, ?_⟩) hHeld ?_
            rotate_left
            · intro w hSw; (try dsimp only at hSw); go_simp; all_goals (with_reducible rfl)
            try simp only [Act.put, List.setIfInBounds_toArray, List.set_cons_zero, List.set_cons_succ]
            refine wpAnyH_take (i := 18) (oi := ⟨some 75, _, _, _, _, _⟩) (v := ?_) rfl (by kernel_rfl) (by kernel_rfl) (by kernel_rfl) (fun _ _ _ h => h) (Or.inl ⟨by rfl, ?_⟩) hHeld ?_
            rotate_left
            · intro w hSw; (try dsimp only at hSw); go_simp; all_goals (with_reducible rfl)
            try simp only [Act.put, List.setIfInBounds_toArray, List.set_cons_zero, List.set_cons_succ]
            refine wpAnyH_take (i := 19) (oi := ⟨some 76, _, _, _, _, _⟩) (v := ?_) rfl (by kernel_rfl) (by kernel_rfl) (by kernel_rfl) (fun _ _ _ h => h) (Or.inl ⟨by rfl, ?_⟩) hHeld ?_
            rotate_left
            · intro w hSw; (try dsimp only at hSw); go_simp; all_goals (with_reducible rfl)
            try simp only [Act.put, List.setIfInBounds_toArray, List.set_cons_zero, List.set_cons_succ]
            refine wpAnyH_take (i := 20) (oi := ⟨some 77, _, _, _, _, _⟩) (v := ?_) rfl (by kernel_rfl) (by kernel_rfl) (by kernel_rfl) (fun _ _ _ h => h) (Or.inl ⟨by rfl, ?_⟩) hHeld ?_
            rotate_left
            · intro w hSw; (try dsimp only at hSw); go_simp; all_goals (with_reducible rfl)
            try simp only [Act.put, List.setIfInBounds_toArray, List.set_cons_zero, List.set_cons_succ]
            refine wpAnyH_take (i := 21) (oi := ⟨some 78, _, _, _, _, _⟩) (v := ?_) rfl (by kernel_rfl) (by kernel_rfl) (by kernel_rfl) (fun _ _ _ h => h) (Or.inl ⟨by rfl, ?_⟩) hHeld ?_
            rotate_left
            · intro w hSw; (try dsimp only at hSw); go_simp; all_goals (with_reducible rfl)
            try simp only [Act.put, List.setIfInBounds_toArray, List.set_cons_zero, List.set_cons_succ]
            refine wpAnyH_take (i := 22) (oi := ⟨some 79, _, _, _, _, _⟩) (v := ?_) rfl (by kernel_rfl) (by kernel_rfl) (by kernel_rfl) (fun _ _ _ h => h) (Or.inl ⟨by rfl, ?_⟩) hHeld ?_
            rotate_left
            · intro w hSw; (try dsimp only at hSw); go_simp; all_goals (with_reducible rfl)
            try simp only [Act.put, List.setIfInBounds_toArray, List.set_cons_zero, List.set_cons_succ]
            refine wpAnyH_take (i := 23) (oi := ⟨some 80, _, _, _, _, _⟩) (v := ?_) rfl (by kernel_rfl) (by kernel_rfl) (by kernel_rfl) (fun _ _ _ h => h) (Or.inl ⟨by rfl, ?_⟩) hHeld ?_
            rotate_left
            · intro w hSw; (try dsimp only at hSw); go_simp; all_goals (with_reducible rfl)
            try simp only [Act.put, List.setIfInBounds_toArray, List.set_cons_zero, List.set_cons_succ]
            refine wpAnyH_ready (rs := [15]) (by kernel_rfl) (by simp) ?_
            refine AllReadyH.cons (o := ⟨some 72, _, _, _, _, _⟩) rfl (fun K hK => ?_) AllReadyH.nil
            go_simp
            refine (resolve_walk ⟨c.k, c.c, M, b⟩ b _).mono ?_
            rw [HRB.out]
            rintro e w9 ⟨rfl, hB9⟩
            have hS9 := below_trans hHeld hB9
            clear hB9 hHeld
            go_simp
            refine hK.out _ _ ?_ (fun hHeld => ?_)
            · exact hS9
            clear hK K
            try simp only [Act.put, List.setIfInBounds_toArray, List.set_cons_zero, List.set_cons_succ]
            refine wpAnyH_ready (rs := [24]) (by kernel_rfl) (by simp) ?_
            refine AllReadyH.cons (o := ⟨some 81, _, _, _, _, _⟩) rfl (fun K hK => ?_) AllReadyH.nil
            go_simp
            refine (merge_walk k HCO.out.2 HQO.out _).mono ?_
            rw [HME.out]
            rintro e w9 ⟨rfl, hB9⟩
            have hS9 := below_trans hHeld hB9
            clear hB9 hHeld
            go_simp
            refine hK.out _ _ ?_ (fun hHeld => ?_)
            · exact hS9
            clear hK K
            try simp only [Act.put, List.setIfInBounds_toArray, List.set_cons_zero, List.set_cons_succ]
            refine wpAnyH_take (i := 25) (oi := ⟨some 82, _, _, _, _, _⟩) (v := ?_) rfl (by kernel_rfl) (by kernel_rfl) (by kernel_rfl) (fun _ _ _ h => h) (Or.inl ⟨by rfl, ?_⟩) hHeld ?_
            rotate_left
            · intro w hSw; (try dsimp only at hSw); go_simp; all_goals (with_reducible rfl)
            try simp only [Act.put, List.setIfInBounds_toArray, List.set_cons_zero, List.set_cons_succ]
            refine wpAnyH_take (i := 26) (oi := ⟨some 83, _, _, _, _, _⟩) (v := ?_) rfl (by kernel_rfl) (by kernel_rfl) (by kernel_rfl) (fun _ _ _ h => h) (Or.inl ⟨by rfl, ?_⟩) hHeld ?_
            rotate_left
            · intro w hSw; (try dsimp only at hSw); go_simp; all_goals (with_reducible rfl)
            try simp only [Act.put, List.setIfInBounds_toArray, List.set_cons_zero, List.set_cons_succ]
            refine wpAnyH_take (i := 27) (oi := ⟨some 84, _, _, _, _, _⟩) (v := ?_) rfl (by kernel_rfl) (by kernel_rfl) (by kernel_rfl) (fun _ _ _ h => h) (Or.inl ⟨by rfl, ?_⟩) hHeld ?_
            rotate_left
            · intro w hSw; (try dsimp only at hSw); go_simp; all_goals (with_reducible rfl)
            try simp only [Act.put, List.setIfInBounds_toArray, List.set_cons_zero, List.set_cons_succ]
            refine wpAnyH_take (i := 28) (oi := ⟨some 85, _, _, _, _, _⟩) (v := ?_) rfl (by kernel_rfl) (by kernel_rfl) (by kernel_rfl) (fun _ _ _ h => h) (Or.inl ⟨by rfl, ?_⟩) hHeld ?_
            rotate_left
            · intro w hSw; (try dsimp only at hSw); go_simp; all_goals (with_reducible rfl)
            try simp only [Act.put, List.setIfInBounds_toArray, List.set_cons_zero, List.set_cons_succ]
            refine wpAnyH_take (i := 29) (oi := ⟨some 86, _, _, _, _, _⟩) (v := ?_) rfl (by kernel_rfl) (by kernel_rfl) (by kernel_rfl) (fun _ _ _ h => h) (Or.inl ⟨by rfl, ?_⟩) hHeld ?_
            rotate_left
            · intro w hSw; (try dsimp only at hSw); go_simp; all_goals (with_reducible rfl)
            try simp only [Act.put, List.setIfInBounds_toArray, List.set_cons_zero, List.set_cons_succ]
            refine wpAnyH_take (i := 30) (oi := ⟨some 87, _, _, _, _, _⟩) (v := ?_) rfl (by kernel_rfl) (by kernel_rfl) (by kernel_rfl) (fun _ _ _ h => h) (Or.inl ⟨by rfl, ?_⟩) hHeld ?_
            rotate_left
            · intro w hSw; (try dsimp only at hSw); go_simp; all_goals (with_reducible rfl)
            try simp only [Act.put, List.setIfInBounds_toArray, List.set_cons_zero, List.set_cons_succ]
            refine wpAnyH_ready (rs := [31]) (by kernel_rfl) (by simp) ?_
            refine AllReadyH.cons (o := ⟨some 88, _, _, _, _, _⟩) rfl (fun K hK => ?_) AllReadyH.nil
            go_simp
            refine (cfit_walk k (c := ⟨c.k, c.c, M, b⟩) ⟨HCO.out.2, HMO.out⟩ _).mono ?_
            rw [HFT.out]
            rintro e w9 ⟨rfl, hB9⟩
            have hS9 := below_trans hHeld hB9
            clear hB9 hHeld
            go_simp
            refine hK.out _ _ ?_ (fun hHeld => ?_)
            · exact hS9
            clear hK K
            try simp only [Act.put, List.setIfInBounds_toArray, List.set_cons_zero, List.set_cons_succ]
            refine wpAnyH_take (i := 32) (oi := ⟨some 89, _, _, _, _, _⟩) (v := ?_) rfl (by kernel_rfl) (by kernel_rfl) (by kernel_rfl) (fun _ _ _ h => h) (Or.inl ⟨by rfl, ?_⟩) hHeld ?_
            rotate_left
            · intro w hSw; (try dsimp only at hSw); go_simp; all_goals (with_reducible rfl)
            try simp only [Act.put, List.setIfInBounds_toArray, List.set_cons_zero, List.set_cons_succ]
            refine wpAnyH_take (i := 33) (oi := ⟨some 90, _, _, _, _, _⟩) (v := ?_) rfl (by kernel_rfl) (by kernel_rfl) (by kernel_rfl) (fun _ _ _ h => h) (Or.inl ⟨by rfl, ?_⟩) hHeld ?_
            rotate_left
            · intro w hSw; (try dsimp only at hSw); go_simp; all_goals (with_reducible rfl)
            try simp only [Act.put, List.setIfInBounds_toArray, List.set_cons_zero, List.set_cons_succ]
            refine wpAnyH_take (i := 34) (oi := ⟨some 91, _, _, _, _, _⟩) (v := undef) rfl (by kernel_rfl) (by kernel_rfl) (by kernel_rfl) (fun _ _ _ h => h) (Or.inr ⟨by rfl, rfl⟩) hHeld ?_
            try simp only [Act.put, List.setIfInBounds_toArray, List.set_cons_zero, List.set_cons_succ]
            refine wpAnyH_take (i := 35) (oi := ⟨some 92, _, _, _, _, _⟩) (v := undef) rfl (by kernel_rfl) (by kernel_rfl) (by kernel_rfl) (fun _ _ _ h => h) (Or.inr ⟨by rfl, rfl⟩) hHeld ?_
            try simp only [Act.put, List.setIfInBounds_toArray, List.set_cons_zero, List.set_cons_succ]
            refine wpAnyH_take (i := 36) (oi := ⟨some 93, _, _, _, _, _⟩) (v := undef) rfl (by kernel_rfl) (by kernel_rfl) (by kernel_rfl) (fun _ _ _ h => h) (Or.inr ⟨by rfl, rfl⟩) hHeld ?_
            try simp only [Act.put, List.setIfInBounds_toArray, List.set_cons_zero, List.set_cons_succ]
            refine wpAnyH_take (i := 37) (oi := ⟨some 94, _, _, _, _, _⟩) (v := ?_) rfl (by kernel_rfl) (by kernel_rfl) (by kernel_rfl) (fun _ _ _ h => h) (Or.inl ⟨by rfl, ?_⟩) hHeld ?_
            rotate_left
            · intro w hSw; (try dsimp only at hSw); go_simp; all_goals (with_reducible rfl)
            try simp only [Act.put, List.setIfInBounds_toArray, List.set_cons_zero, List.set_cons_succ]
            refine wpAnyH_take (i := 38) (oi := ⟨some 95, _, _, _, _, _⟩) (v := ?_) rfl (by kernel_rfl) (by kernel_rfl) (by kernel_rfl) (fun _ _ _ h => h) (Or.inl ⟨by rfl, ?_⟩) hHeld ?_
            rotate_left
            · intro w hSw; (try dsimp only at hSw); go_simp; all_goals (with_reducible rfl)
            try simp only [Act.put, List.setIfInBounds_toArray, List.set_cons_zero, List.set_cons_succ]
            refine wpAnyH_done (by kernel_rfl) ?_ _
            refine NoPanic.normal ?_
            go_wp2_with fail
            go_meet
            exact ⟨rfl, hHeld⟩
          · have HFT : Hid (fitC k ⟨c.k, c.c, M, b⟩ = false) := by
              cases h : fitC k ⟨c.k, c.c, M, b⟩
              · rfl
              · exact absurd (fit_gives h).2.2.2.2 hmx
            have hmd : decide (b ≤ 1099511627776) = false := decide_eq_false hmx
            refine wp_region_noPanic ?_
            refine wp_region_held_drew (S := fun wx => Below w5.heap.size w5 wx) (by kernel_rfl) ?_ (fun hHeld => ?_)
            · exact (Below.refl _ _).drew
            refine wpAnyH_take (i := 0) (oi := ⟨some 57, _, _, _, _, _⟩) (v := ?_) rfl (by kernel_rfl) (by kernel_rfl) (by kernel_rfl) (fun _ _ _ h => h) (Or.inl ⟨by rfl, ?_⟩) hHeld ?_
            rotate_left
            · intro w hSw; (try dsimp only at hSw); go_simp; all_goals (with_reducible rfl)
            try simp only [Act.put, List.setIfInBounds_toArray, List.set_cons_zero, List.set_cons_succ]
            refine wpAnyH_take (i := 1) (oi := ⟨some 58, _, _, _, _, _⟩) (v := ?_) rfl (by kernel_rfl) (by kernel_rfl) (by kernel_rfl) (fun _ _ _ h => h) (Or.inl ⟨by rfl, ?_⟩) hHeld ?_
            rotate_left
            · intro w hSw; (try dsimp only at hSw); go_simp; all_goals (with_reducible rfl)
            try simp only [Act.put, List.setIfInBounds_toArray, List.set_cons_zero, List.set_cons_succ]
            refine wpAnyH_take (i := 2) (oi := ⟨some 59, _, _, _, _, _⟩) (v := ?_) rfl (by kernel_rfl) (by kernel_rfl) (by kernel_rfl) (fun _ _ _ h => h) (Or.inl ⟨by rfl, ?_⟩) hHeld ?_
            rotate_left
            · intro w hSw; (try dsimp only at hSw); go_simp; all_goals (with_reducible rfl)
            try simp only [Act.put, List.setIfInBounds_toArray, List.set_cons_zero, List.set_cons_succ]
            refine wpAnyH_take (i := 3) (oi := ⟨some 60, _, _, _, _, _⟩) (v := ?_) rfl (by kernel_rfl) (by kernel_rfl) (by kernel_rfl) (fun _ _ _ h => h) (Or.inl ⟨by rfl, ?_⟩) hHeld ?_
            rotate_left
            · intro w hSw; (try dsimp only at hSw); go_simp; all_goals (with_reducible rfl)
            try simp only [Act.put, List.setIfInBounds_toArray, List.set_cons_zero, List.set_cons_succ]
            refine wpAnyH_take (i := 4) (oi := ⟨some 61, _, _, _, _, _⟩) (v := ?_) rfl (by kernel_rfl) (by kernel_rfl) (by kernel_rfl) (fun _ _ _ h => h) (Or.inl ⟨by rfl, ?_⟩) hHeld ?_
            rotate_left
            · intro w hSw; (try dsimp only at hSw); go_simp; all_goals (with_reducible rfl)
            try simp only [Act.put, List.setIfInBounds_toArray, List.set_cons_zero, List.set_cons_succ]
            refine wpAnyH_take (i := 5) (oi := ⟨some 62, _, _, _, _, _⟩) (v := ?_) rfl (by kernel_rfl) (by kernel_rfl) (by kernel_rfl) (fun _ _ _ h => h) (Or.inl ⟨by rfl, ?_⟩) hHeld ?_
            rotate_left
            · intro w hSw; (try dsimp only at hSw); go_simp; all_goals (with_reducible rfl)
            try simp only [Act.put, List.setIfInBounds_toArray, List.set_cons_zero, List.set_cons_succ]
            refine wpAnyH_take (i := 6) (oi := ⟨some 63, _, _, _, _, _⟩) (v := ?_) rfl (by kernel_rfl) (by kernel_rfl) (by kernel_rfl) (fun _ _ _ h => h) (Or.inl ⟨by rfl, ?_⟩) hHeld ?_
            rotate_left
            · intro w hSw; (try dsimp only at hSw); go_simp; all_goals (with_reducible rfl)
            try simp only [Act.put, List.setIfInBounds_toArray, List.set_cons_zero, List.set_cons_succ]
            refine wpAnyH_take (i := 8) (oi := ⟨some 65, _, _, _, _, _⟩) (v := ?_) rfl (by kernel_rfl) (by kernel_rfl) (by kernel_rfl) (fun _ _ _ h => h) (Or.inl ⟨by rfl, ?_⟩) hHeld ?_
            rotate_left
            · intro w hSw; (try dsimp only at hSw); go_simp; all_goals (with_reducible rfl)
            try simp only [Act.put, List.setIfInBounds_toArray, List.set_cons_zero, List.set_cons_succ]
            refine wpAnyH_ready (rs := [7]) (by kernel_rfl) (by simp) ?_
            refine AllReadyH.cons (o := ⟨some 64, _, _, _, _, _⟩) rfl (fun K hK => ?_) AllReadyH.nil
            go_simp
            refine (resolve_walk ⟨c.k, c.c, M, b⟩ (b - 1) _).mono ?_
            rw [HRA.out]
            rintro e w9 ⟨rfl, hB9⟩
            have hS9 := below_trans hHeld hB9
            clear hB9 hHeld
            go_simp
            refine hK.out _ _ ?_ (fun hHeld => ?_)
            · exact hS9
            clear hK K
            try simp only [Act.put, List.setIfInBounds_toArray, List.set_cons_zero, List.set_cons_succ]
            refine wpAnyH_take (i := 9) (oi := ⟨some 66, _, _, _, _, _⟩) (v := ?_) rfl (by kernel_rfl) (by kernel_rfl) (by kernel_rfl) (fun _ _ _ h => h) (Or.inl ⟨by rfl, ?_⟩) hHeld ?_
            rotate_left
            · intro w hSw; (try dsimp only at hSw); go_simp; all_goals (with_reducible rfl)
            try simp only [Act.put, List.setIfInBounds_toArray, List.set_cons_zero, List.set_cons_succ]
            refine wpAnyH_take (i := 10) (oi := ⟨some 67, _, _, _, _, _⟩) (v := ?_) rfl (by kernel_rfl) (by kernel_rfl) (by kernel_rfl) (fun _ _ _ h => h) (Or.inl ⟨by rfl, ?_⟩) hHeld ?_
            rotate_left
            · intro w hSw; (try dsimp only at hSw); go_simp; all_goals (with_reducible rfl)
            try simp only [Act.put, List.setIfInBounds_toArray, List.set_cons_zero, List.set_cons_succ]
            refine wpAnyH_take (i := 11) (oi := ⟨some 68, _, _, _, _, _⟩) (v := ?_) rfl (by kernel_rfl) (by kernel_rfl) (by kernel_rfl) (fun _ _ _ h => h) (Or.inl ⟨by rfl, ?_⟩) hHeld ?_
            rotate_left
            · intro w hSw; (try dsimp only at hSw); go_simp; all_goals (with_reducible rfl)
            try simp only [Act.put, List.setIfInBounds_toArray, List.set_cons_zero, List.set_cons_succ]
            refine wpAnyH_take (i := 12) (oi := ⟨some 69, _, _, _, _, _⟩) (v := ?_) rfl (by kernel_rfl) (by kernel_rfl) (by kernel_rfl) (fun _ _ _ h => h) (Or.inl ⟨by rfl, ?_⟩) hHeld ?_
            rotate_left
            · intro w hSw; (try dsimp only at hSw); go_simp; all_goals (with_reducible rfl)
            try simp only [Act.put, List.setIfInBounds_toArray, List.set_cons_zero, List.set_cons_succ]
            refine wpAnyH_take (i := 13) (oi := ⟨some 70, _, _, _, _, _⟩) (v := ?_) rfl (by kernel_rfl) (by kernel_rfl) (by kernel_rfl) (fun _ _ _ h => h) (Or.inl ⟨by rfl, ?_⟩) hHeld ?_
            rotate_left
            · intro w hSw; (try dsimp only at hSw); go_simp; all_goals (with_reducible rfl)
            try simp only [Act.put, List.setIfInBounds_toArray, List.set_cons_zero, List.set_cons_succ]
            refine wpAnyH_take (i := 14) (oi := ⟨some 71, _, _, _, _, _⟩) (v := ?_) rfl (by kernel_rfl) (by kernel_rfl) (by kernel_rfl) (fun _ _ _ h => h) (Or.inl ⟨by rfl, ?_⟩) hHeld ?_
            rotate_left
            · intro w hSw; (try dsimp only at hSw); go_simp; all_goals (with_reducible rfl)
            try simp only [Act.put, List.setIfInBounds_toArray, List.set_cons_zero, List.set_cons_succ]
            refine wpAnyH_take (i := 16) (oi := ⟨some 73, _, _, _, _, _⟩) (v := ?_) rfl (by kernel_rfl) (by kernel_rfl) (by kernel_rfl) (fun _ _ _ h => h) (Or.inl ⟨by rfl, ?_⟩) hHeld ?_
            rotate_left
            · intro w hSw; (try dsimp only at hSw); go_simp; all_goals (with_reducible rfl)
            try simp only [Act.put, List.setIfInBounds_toArray, List.set_cons_zero, List.set_cons_succ]
            refine wpAnyH_take (i := 17) (oi := ⟨some 74, _, _, _, _, _⟩) (v := ?_) rfl (by kernel_rfl) (by kernel_rfl) (by kernel_rfl) (fun _ _ _ h => h) (Or.inl ⟨by rfl, ?_⟩) hHeld ?_
            rotate_left
            · intro w hSw; (try dsimp only at hSw); go_simp; all_goals (with_reducible rfl)
            try simp only [Act.put, List.setIfInBounds_toArray, List.set_cons_zero, List.set_cons_succ]
            refine wpAnyH_take (i := 18) (oi := ⟨some 75, _, _, _, _, _⟩) (v := ?_) rfl (by kernel_rfl) (by kernel_rfl) (by kernel_rfl) (fun _ _ _ h => h) (Or.inl ⟨by rfl, ?_⟩) hHeld ?_
            rotate_left
            · intro w hSw; (try dsimp only at hSw); go_simp; all_goals (with_reducible rfl)
            try simp only [Act.put, List.setIfInBounds_toArray, List.set_cons_zero, List.set_cons_succ]
            refine wpAnyH_take (i := 19) (oi := ⟨some 76, _, _, _, _, _⟩) (v := ?_) rfl (by kernel_rfl) (by kernel_rfl) (by kernel_rfl) (fun _ _ _ h => h) (Or.inl ⟨by rfl, ?_⟩) hHeld ?_
            rotate_left
            · intro w hSw; (try dsimp only at hSw); go_simp; all_goals (with_reducible rfl)
            try simp only [Act.put, List.setIfInBounds_toArray, List.set_cons_zero, List.set_cons_succ]
            refine wpAnyH_take (i := 20) (oi := ⟨some 77, _, _, _, _, _⟩) (v := ?_) rfl (by kernel_rfl) (by kernel_rfl) (by kernel_rfl) (fun _ _ _ h => h) (Or.inl ⟨by rfl, ?_⟩) hHeld ?_
            rotate_left
            · intro w hSw; (try dsimp only at hSw); go_simp; all_goals (with_reducible rfl)
            try simp only [Act.put, List.setIfInBounds_toArray, List.set_cons_zero, List.set_cons_succ]
            refine wpAnyH_take (i := 21) (oi := ⟨some 78, _, _, _, _, _⟩) (v := ?_) rfl (by kernel_rfl) (by kernel_rfl) (by kernel_rfl) (fun _ _ _ h => h) (Or.inl ⟨by rfl, ?_⟩) hHeld ?_
            rotate_left
            · intro w hSw; (try dsimp only at hSw); go_simp; all_goals (with_reducible rfl)
            try simp only [Act.put, List.setIfInBounds_toArray, List.set_cons_zero, List.set_cons_succ]
            refine wpAnyH_take (i := 22) (oi := ⟨some 79, _, _, _, _, _⟩) (v := ?_) rfl (by kernel_rfl) (by kernel_rfl) (by kernel_rfl) (fun _ _ _ h => h) (Or.inl ⟨by rfl, ?_⟩) hHeld ?_
            rotate_left
            · intro w hSw; (try dsimp only at hSw); go_simp; all_goals (with_reducible rfl)
            try simp only [Act.put, List.setIfInBounds_toArray, List.set_cons_zero, List.set_cons_succ]
            refine wpAnyH_take (i := 23) (oi := ⟨some 80, _, _, _, _, _⟩) (v := ?_) rfl (by kernel_rfl) (by kernel_rfl) (by kernel_rfl) (fun _ _ _ h => h) (Or.inl ⟨by rfl, ?_⟩) hHeld ?_
            rotate_left
            · intro w hSw; (try dsimp only at hSw); go_simp; all_goals (with_reducible rfl)
            try simp only [Act.put, List.setIfInBounds_toArray, List.set_cons_zero, List.set_cons_succ]
            refine wpAnyH_ready (rs := [15]) (by kernel_rfl) (by simp) ?_
            refine AllReadyH.cons (o := ⟨some 72, _, _, _, _, _⟩) rfl (fun K hK => ?_) AllReadyH.nil
            go_simp
            refine (resolve_walk ⟨c.k, c.c, M, b⟩ b _).mono ?_
            rw [HRB.out]
            rintro e w9 ⟨rfl, hB9⟩
            have hS9 := below_trans hHeld hB9
            clear hB9 hHeld
            go_simp
            refine hK.out _ _ ?_ (fun hHeld => ?_)
            · exact hS9
            clear hK K
            try simp only [Act.put, List.setIfInBounds_toArray, List.set_cons_zero, List.set_cons_succ]
            refine wpAnyH_ready (rs := [24]) (by kernel_rfl) (by simp) ?_
            refine AllReadyH.cons (o := ⟨some 81, _, _, _, _, _⟩) rfl (fun K hK => ?_) AllReadyH.nil
            go_simp
            refine (merge_walk k HCO.out.2 HQO.out _).mono ?_
            rw [HME.out]
            rintro e w9 ⟨rfl, hB9⟩
            have hS9 := below_trans hHeld hB9
            clear hB9 hHeld
            go_simp
            refine hK.out _ _ ?_ (fun hHeld => ?_)
            · exact hS9
            clear hK K
            try simp only [Act.put, List.setIfInBounds_toArray, List.set_cons_zero, List.set_cons_succ]
            refine wpAnyH_take (i := 25) (oi := ⟨some 82, _, _, _, _, _⟩) (v := ?_) rfl (by kernel_rfl) (by kernel_rfl) (by kernel_rfl) (fun _ _ _ h => h) (Or.inl ⟨by rfl, ?_⟩) hHeld ?_
            rotate_left
            · intro w hSw; (try dsimp only at hSw); go_simp; all_goals (with_reducible rfl)
            try simp only [Act.put, List.setIfInBounds_toArray, List.set_cons_zero, List.set_cons_succ]
            refine wpAnyH_take (i := 26) (oi := ⟨some 83, _, _, _, _, _⟩) (v := ?_) rfl (by kernel_rfl) (by kernel_rfl) (by kernel_rfl) (fun _ _ _ h => h) (Or.inl ⟨by rfl, ?_⟩) hHeld ?_
            rotate_left
            · intro w hSw; (try dsimp only at hSw); go_simp; all_goals (with_reducible rfl)
            try simp only [Act.put, List.setIfInBounds_toArray, List.set_cons_zero, List.set_cons_succ]
            refine wpAnyH_take (i := 27) (oi := ⟨some 84, _, _, _, _, _⟩) (v := ?_) rfl (by kernel_rfl) (by kernel_rfl) (by kernel_rfl) (fun _ _ _ h => h) (Or.inl ⟨by rfl, ?_⟩) hHeld ?_
            rotate_left
            · intro w hSw; (try dsimp only at hSw); go_simp; all_goals (with_reducible rfl)
            try simp only [Act.put, List.setIfInBounds_toArray, List.set_cons_zero, List.set_cons_succ]
            refine wpAnyH_take (i := 28) (oi := ⟨some 85, _, _, _, _, _⟩) (v := ?_) rfl (by kernel_rfl) (by kernel_rfl) (by kernel_rfl) (fun _ _ _ h => h) (Or.inl ⟨by rfl, ?_⟩) hHeld ?_
            rotate_left
            · intro w hSw; (try dsimp only at hSw); go_simp; all_goals (with_reducible rfl)
            try simp only [Act.put, List.setIfInBounds_toArray, List.set_cons_zero, List.set_cons_succ]
            refine wpAnyH_take (i := 29) (oi := ⟨some 86, _, _, _, _, _⟩) (v := ?_) rfl (by kernel_rfl) (by kernel_rfl) (by kernel_rfl) (fun _ _ _ h => h) (Or.inl ⟨by rfl, ?_⟩) hHeld ?_
            rotate_left
            · intro w hSw; (try dsimp only at hSw); go_simp; all_goals (with_reducible rfl)
            try simp only [Act.put, List.setIfInBounds_toArray, List.set_cons_zero, List.set_cons_succ]
            refine wpAnyH_take (i := 30) (oi := ⟨some 87, _, _, _, _, _⟩) (v := ?_) rfl (by kernel_rfl) (by kernel_rfl) (by kernel_rfl) (fun _ _ _ h => h) (Or.inl ⟨by rfl, ?_⟩) hHeld ?_
            rotate_left
            · intro w hSw; (try dsimp only at hSw); go_simp; all_goals (with_reducible rfl)
            try simp only [Act.put, List.setIfInBounds_toArray, List.set_cons_zero, List.set_cons_succ]
            refine wpAnyH_ready (rs := [31]) (by kernel_rfl) (by simp) ?_
            refine AllReadyH.cons (o := ⟨some 88, _, _, _, _, _⟩) rfl (fun K hK => ?_) AllReadyH.nil
            go_simp
            refine (cfit_walk k (c := ⟨c.k, c.c, M, b⟩) ⟨HCO.out.2, HMO.out⟩ _).mono ?_
            rw [HFT.out]
            rintro e w9 ⟨rfl, hB9⟩
            have hS9 := below_trans hHeld hB9
            clear hB9 hHeld
            go_simp
            refine hK.out _ _ ?_ (fun hHeld => ?_)
            · exact hS9
            clear hK K
            try simp only [Act.put, List.setIfInBounds_toArray, List.set_cons_zero, List.set_cons_succ]
            refine wpAnyH_take (i := 32) (oi := ⟨some 89, _, _, _, _, _⟩) (v := ?_) rfl (by kernel_rfl) (by kernel_rfl) (by kernel_rfl) (fun _ _ _ h => h) (Or.inl ⟨by rfl, ?_⟩) hHeld ?_
            rotate_left
            · intro w hSw; (try dsimp only at hSw); go_simp; all_goals (with_reducible rfl)
            try simp only [Act.put, List.setIfInBounds_toArray, List.set_cons_zero, List.set_cons_succ]
            refine wpAnyH_take (i := 33) (oi := ⟨some 90, _, _, _, _, _⟩) (v := ?_) rfl (by kernel_rfl) (by kernel_rfl) (by kernel_rfl) (fun _ _ _ h => h) (Or.inl ⟨by rfl, ?_⟩) hHeld ?_
            rotate_left
            · intro w hSw; (try dsimp only at hSw); go_simp; all_goals (with_reducible rfl)
            try simp only [Act.put, List.setIfInBounds_toArray, List.set_cons_zero, List.set_cons_succ]
            refine wpAnyH_take (i := 34) (oi := ⟨some 91, _, _, _, _, _⟩) (v := ?_) rfl (by kernel_rfl) (by kernel_rfl) (by kernel_rfl) (fun _ _ _ h => h) (Or.inl ⟨by rfl, ?_⟩) hHeld ?_
            rotate_left
            · intro w hSw; (try dsimp only at hSw); go_simp; all_goals (with_reducible rfl)
            try simp only [Act.put, List.setIfInBounds_toArray, List.set_cons_zero, List.set_cons_succ]
            refine wpAnyH_take (i := 35) (oi := ⟨some 92, _, _, _, _, _⟩) (v := ?_) rfl (by kernel_rfl) (by kernel_rfl) (by kernel_rfl) (fun _ _ _ h => h) (Or.inl ⟨by rfl, ?_⟩) hHeld ?_
            rotate_left
            · intro w hSw; (try dsimp only at hSw); go_simp; all_goals (with_reducible rfl)
            try simp only [Act.put, List.setIfInBounds_toArray, List.set_cons_zero, List.set_cons_succ]
            refine wpAnyH_take (i := 36) (oi := ⟨some 93, _, _, _, _, _⟩) (v := ?_) rfl (by kernel_rfl) (by kernel_rfl) (by kernel_rfl) (fun _ _ _ h => h) (Or.inl ⟨by rfl, ?_⟩) hHeld ?_
            rotate_left
            · intro w hSw; (try dsimp only at hSw); go_simp; all_goals (with_reducible rfl)
            try simp only [Act.put, List.setIfInBounds_toArray, List.set_cons_zero, List.set_cons_succ]
            refine wpAnyH_take (i := 37) (oi := ⟨some 94, _, _, _, _, _⟩) (v := ?_) rfl (by kernel_rfl) (by kernel_rfl) (by kernel_rfl) (fun _ _ _ h => h) (Or.inl ⟨by rfl, ?_⟩) hHeld ?_
            rotate_left
            · intro w hSw; (try dsimp only at hSw); go_simp; all_goals (with_reducible rfl)
            try simp only [Act.put, List.setIfInBounds_toArray, List.set_cons_zero, List.set_cons_succ]
            refine wpAnyH_take (i := 38) (oi := ⟨some 95, _, _, _, _, _⟩) (v := ?_) rfl (by kernel_rfl) (by kernel_rfl) (by kernel_rfl) (fun _ _ _ h => h) (Or.inl ⟨by rfl, ?_⟩) hHeld ?_
            rotate_left
            · intro w hSw; (try dsimp only at hSw); go_simp; all_goals (with_reducible rfl)
            try simp only [Act.put, List.setIfInBounds_toArray, List.set_cons_zero, List.set_cons_succ]
            refine wpAnyH_done (by kernel_rfl) ?_ _
            refine NoPanic.normal ?_
            go_wp2_with fail
            go_meet
            exact ⟨rfl, hHeld⟩
        case rest =>
          obtain ⟨rfl, hBc⟩ := hcut
          obtain ⟨d0, d1, d2, d3, d4, d5, _⟩ := HU.out.below hBc (cell_lt HU.out.c0)
          have HC6 : Hid (CB wc w3.heap.size d) := HC5.out.below hBc (cell_lt HC5.out.c0)
          have HA6 : Hid (VB wc (w3.heap.size + 1) c.c) := HA5.out.below hBc (cell_lt HA5.out.c0)
          have HX6 : Hid (XB wc w.heap.size k c b (.slice (some ⟨pb, poff, none⟩) (m + 1) cap) (.slice bo bs.length bcap)) := HX5.out.below hBc (cell_lt HX5.out.c0)
          have HB6 : Hid (Below w.heap.size w wc) := below_trans HB5.out hBc
          clear hBc HU HC5 HA5 HX5 HB5
          obtain ⟨c0, c1, c2, c3, c4, c5, zz⟩ := HC6.out
          go_upto_region 14 with fail
          clear c0 c1 c2 c3 c4 c5 zz d0 d1 d2 d3 d4 d5
          have HC7 := CB.set HC6.out ⟨c.k, c.c, M, b⟩
          have HA7 := VB.six HA6.out (b := w3.heap.size) (by omega) ⟨c.k, c.c, M, b⟩
          have HX7 := XB.six HX6.out (y := w3.heap.size) (by have := HW3.out; omega) ⟨c.k, c.c, M, b⟩
          have HB7 := keep_cell HB6.out w3.heap.size (Nat.le_of_lt HW3.out) (.int .u64 c.k) (.bool c.c.h) (.int .u64 c.c.b) (.bool M.h) (.int .u64 M.b) (.int .i64 b)
          generalize ((((((wc.setCell ⟨w3.heap.size, 0, none⟩ (.int .u64 c.k)).setCell ⟨w3.heap.size, 1, none⟩ (.bool c.c.h)).setCell ⟨w3.heap.size, 2, none⟩ (.int .u64 c.c.b)).setCell ⟨w3.heap.size, 3, none⟩ (.bool M.h)).setCell ⟨w3.heap.size, 4, none⟩ (.int .u64 M.b)).setCell ⟨w3.heap.size, 5, none⟩ (.int .i64 b)) = w6 at HC7 HA7 HX7 HB7 ⊢
          have HC8 : Hid (CB w6 w3.heap.size ⟨c.k, c.c, M, b⟩) := HC7
          have HA8 : Hid (VB w6 (w3.heap.size + 1) c.c) := HA7
          have HX8 : Hid (XB w6 w.heap.size k c b (.slice (some ⟨pb, poff, none⟩) (m + 1) cap) (.slice bo bs.length bcap)) := HX7
          have HB8 : Hid (Below w.heap.size w w6) := HB7
          clear HC6 HA6 HX6 HB6 HC7 HA7 HX7 HB7
          obtain ⟨c0, c1, c2, c3, c4, c5, c6, c7, c8, c9⟩ := HX8.out
          go_cut [116] (fun g wx => ∃ f, g = .bool f ∧ (f = true → i < m) ∧ wx = w6)
          case first =>
            by_cases hib : i < bs.length
            · have hibi : (i : Int) < (bs.length : Int) := by omega
              obtain ⟨bb, boff, rfl, hbc⟩ := HGB.out i hib
              have hb0 := hbc 0 (by omega)
              obtain ⟨f, hf⟩ : ∃ f, f = bs[i] := ⟨_, rfl⟩
              rw [← hf] at hb0
              have hb1 : w.cell? ⟨bb, boff + i, none⟩ = some (.bool f) := by simpa [flagF] using hb0
              have hb2 : w6.cell? ⟨bb, boff + i, none⟩ = some (.bool f) := by
                rw [HB8.out.cell (p := ⟨bb, boff + i, none⟩) (cell_lt hb1)]
                exact hb1
              clear hb0 hb1 hbc hf
              cases f
              · go_wp2_with fail
                go_meet
                exact ⟨false, rfl, fun h => (by cases h), rfl⟩
              · by_cases him : i < m
                · have himi : (i : Int) < (m : Int) := by omega
                  have himd : decide ((i : Int) < (m : Int)) = true := decide_eq_true himi
                  go_wp2_with fail
                  all_goals (go_meet; exact ⟨true, by simp <;> omega, fun _ => him, rfl⟩)
                · have himi : ¬ (i : Int) < (m : Int) := by omega
                  have himd : decide ((i : Int) < (m : Int)) = false := decide_eq_false himi
                  go_wp2_with fail
                  all_goals (go_meet; exact ⟨false, by simp <;> omega, fun h => (by cases h), rfl⟩)
            · have hibi : ¬ (i : Int) < (bs.length : Int) := by omega
              go_wp2_with fail
              all_goals (go_meet; exact ⟨false, rfl, fun h => (by cases h), rfl⟩)
          case rest =>
            obtain ⟨f, rfl, hfi, rfl⟩ := hcut
            have HFI : Hid (f = true → i < m) := hfi
            clear hfi c0 c1 c2 c3 c4 c5 c6 c7 c8 c9
            cases f
            · go_wp2_with fail
              go_roundw
              case rel => exact ⟨i + 1, ⟨c.k, c.c, M, b⟩, hlt, by go_num, HC8.out, HA8.out, HX8.out, ag_new HCO.out.2 HMO.out, fun h => by rw [← HML.out, ← HME.out, HQE.out (by omega)], HB8.out⟩
              case measure => simp [intOf]; omega
            · have him : i < m := HFI.out rfl
              have HRV : Hid (revC ⟨c.k, c.c, M, b⟩ b = ⟨c.k, c.c, c.c, b - 1⟩) := rev_at (c := ⟨c.k, c.c, M, b⟩) HN.out.1
              obtain ⟨d0, d1, d2, d3, d4, d5, yy⟩ := HC8.out
              obtain ⟨c0, c1, c2, c3, c4, c5, c6, c7, c8, c9⟩ := HX8.out
              go_upto_region 16 with (go_at_call 11; refine (revert_walk ⟨c.k, c.c, M, b⟩ (b := b) (by have := HBR.out; omega) _).mono ?_; rw [HRV.out]; rintro e w7 ⟨rfl, hB7⟩; obtain ⟨d0, d1, d2, d3, d4, d5, yy⟩ := HC8.out.below hB7 (cell_lt HC8.out.c0))
              clear c0 c1 c2 c3 c4 c5 c6 c7 c8 c9 d0 d1 d2 d3 d4 d5 yy
              have HC9 := CB.set (HC8.out.below hB7 (cell_lt HC8.out.c0)) ⟨c.k, c.c, c.c, b - 1⟩
              have HA9 := VB.six (HA8.out.below hB7 (cell_lt HA8.out.c0)) (b := w3.heap.size) (by omega) ⟨c.k, c.c, c.c, b - 1⟩
              have HX9 := XB.six (HX8.out.below hB7 (cell_lt HX8.out.c0)) (y := w3.heap.size) (by have := HW3.out; omega) ⟨c.k, c.c, c.c, b - 1⟩
              have HB9 := keep_cell (below_trans HB8.out hB7) w3.heap.size (Nat.le_of_lt HW3.out) (.int .u64 c.k) (.bool c.c.h) (.int .u64 c.c.b) (.bool c.c.h) (.int .u64 c.c.b) (.int .i64 (b - 1))
              generalize ((((((w7.setCell ⟨w3.heap.size, 0, none⟩ (.int .u64 c.k)).setCell ⟨w3.heap.size, 1, none⟩ (.bool c.c.h)).setCell ⟨w3.heap.size, 2, none⟩ (.int .u64 c.c.b)).setCell ⟨w3.heap.size, 3, none⟩ (.bool c.c.h)).setCell ⟨w3.heap.size, 4, none⟩ (.int .u64 c.c.b)).setCell ⟨w3.heap.size, 5, none⟩ (.int .i64 (b - 1))) = w8 at HC9 HA9 HX9 HB9 ⊢
              have HC10 : Hid (CB w8 w3.heap.size ⟨c.k, c.c, c.c, b - 1⟩) := HC9
              have HA10 : Hid (VB w8 (w3.heap.size + 1) c.c) := HA9
              have HX10 : Hid (XB w8 w.heap.size k c b (.slice (some ⟨pb, poff, none⟩) (m + 1) cap) (.slice bo bs.length bcap)) := HX9
              have HB10 : Hid (Below w.heap.size w w8) := HB9
              clear HC9 HA9 HX9 HB9 hB7 HC8 HA8 HX8 HB8
              have HRC : Hid (resC ⟨c.k, c.c, c.c, b - 1⟩ (b - 1) = c.c) := if_pos (Int.le_refl _)
              have HRD : Hid (resC ⟨c.k, c.c, c.c, b - 1⟩ b = c.c) := if_pos (by show b - 1 ≤ b; omega)
              have k0 : ∀ wx, Below w8.heap.size w8 wx → wx.cell? ⟨w.heap.size, 0, none⟩ = some (.int .i64 k) := fun wx h => (HX10.out.below h (cell_lt HX10.out.c0)).c0
              have k1 : ∀ wx, Below w8.heap.size w8 wx → wx.cell? ⟨w.heap.size, 1, none⟩ = some (.int .u64 c.k) := fun wx h => (HX10.out.below h (cell_lt HX10.out.c0)).c1
              have k2 : ∀ wx, Below w8.heap.size w8 wx → wx.cell? ⟨w.heap.size, 2, none⟩ = some (.bool c.p.h) := fun wx h => (HX10.out.below h (cell_lt HX10.out.c0)).c2
              have k3 : ∀ wx, Below w8.heap.size w8 wx → wx.cell? ⟨w.heap.size, 3, none⟩ = some (.int .u64 c.p.b) := fun wx h => (HX10.out.below h (cell_lt HX10.out.c0)).c3
              have k4 : ∀ wx, Below w8.heap.size w8 wx → wx.cell? ⟨w.heap.size, 4, none⟩ = some (.bool c.c.h) := fun wx h => (HX10.out.below h (cell_lt HX10.out.c0)).c4
              have k5 : ∀ wx, Below w8.heap.size w8 wx → wx.cell? ⟨w.heap.size, 5, none⟩ = some (.int .u64 c.c.b) := fun wx h => (HX10.out.below h (cell_lt HX10.out.c0)).c5
              have k6 : ∀ wx, Below w8.heap.size w8 wx → wx.cell? ⟨w.heap.size, 6, none⟩ = some (.int .i64 c.n) := fun wx h => (HX10.out.below h (cell_lt HX10.out.c0)).c6
              have k7 : ∀ wx, Below w8.heap.size w8 wx → wx.cell? ⟨w.heap.size, 7, none⟩ = some (.int .i64 b) := fun wx h => (HX10.out.below h (cell_lt HX10.out.c0)).c7
              have k8 : ∀ wx, Below w8.heap.size w8 wx → wx.cell? ⟨w.heap.size, 8, none⟩ = some (.slice (some ⟨pb, poff, none⟩) (m + 1) cap) := fun wx h => (HX10.out.below h (cell_lt HX10.out.c0)).c8
              have k9 : ∀ wx, Below w8.heap.size w8 wx → wx.cell? ⟨w.heap.size, 9, none⟩ = some (.slice bo bs.length bcap) := fun wx h => (HX10.out.below h (cell_lt HX10.out.c0)).c9
              have l0 : ∀ wx, Below w8.heap.size w8 wx → wx.cell? ⟨w3.heap.size, 0, none⟩ = some (.int .u64 c.k) := fun wx h => (HC10.out.below h (cell_lt HC10.out.c0)).c0
              have l1 : ∀ wx, Below w8.heap.size w8 wx → wx.cell? ⟨w3.heap.size, 1, none⟩ = some (.bool c.c.h) := fun wx h => (HC10.out.below h (cell_lt HC10.out.c0)).c1
              have l2 : ∀ wx, Below w8.heap.size w8 wx → wx.cell? ⟨w3.heap.size, 2, none⟩ = some (.int .u64 c.c.b) := fun wx h => (HC10.out.below h (cell_lt HC10.out.c0)).c2
              have l3 : ∀ wx, Below w8.heap.size w8 wx → wx.cell? ⟨w3.heap.size, 3, none⟩ = some (.bool c.c.h) := fun wx h => (HC10.out.below h (cell_lt HC10.out.c0)).c3
              have l4 : ∀ wx, Below w8.heap.size w8 wx → wx.cell? ⟨w3.heap.size, 4, none⟩ = some (.int .u64 c.c.b) := fun wx h => (HC10.out.below h (cell_lt HC10.out.c0)).c4
              have l5 : ∀ wx, Below w8.heap.size w8 wx → wx.cell? ⟨w3.heap.size, 5, none⟩ = some (.int .i64 (b - 1)) := fun wx h => (HC10.out.below h (cell_lt HC10.out.c0)).c5
              have v0 : ∀ wx, Below w8.heap.size w8 wx → wx.cell? ⟨w3.heap.size + 1, 0, none⟩ = some (.bool c.c.h) := fun wx h => (HA10.out.below h (cell_lt HA10.out.c0)).c0
              have v1 : ∀ wx, Below w8.heap.size w8 wx → wx.cell? ⟨w3.heap.size + 1, 1, none⟩ = some (.int .u64 c.c.b) := fun wx h => (HA10.out.below h (cell_lt HA10.out.c0)).c1
              go_cut [143] (fun g wx => g = .bool false ∧ Below w8.heap.size w8 wx)
              case first =>
                refine wp_region_noPanic ?_
                refine wp_region_held_drew (S := fun wx => Below w8.heap.size w8 wx) (by kernel_rfl) ?_ (fun hHeld => ?_)
                · exact (Below.refl _ _).drew
                refine wpAnyH_take (i := 0) (oi := ⟨some 121, _, _, _, _, _⟩) (v := ?_) rfl (by kernel_rfl) (by kernel_rfl) (by kernel_rfl) (fun _ _ _ h => h) (Or.inl ⟨by rfl, ?_⟩) hHeld ?_
                rotate_left
                · intro w hSw; (try dsimp only at hSw); go_simp; all_goals (with_reducible rfl)
                try simp only [Act.put, List.setIfInBounds_toArray, List.set_cons_zero, List.set_cons_succ]
                refine wpAnyH_take (i := 1) (oi := ⟨some 122, _, _, _, _, _⟩) (v := ?_) rfl (by kernel_rfl) (by kernel_rfl) (by kernel_rfl) (fun _ _ _ h => h) (Or.inl ⟨by rfl, ?_⟩) hHeld ?_
                rotate_left
                · intro w hSw; (try dsimp only at hSw); go_simp; all_goals (with_reducible rfl)
                try simp only [Act.put, List.setIfInBounds_toArray, List.set_cons_zero, List.set_cons_succ]
                refine wpAnyH_take (i := 2) (oi := ⟨some 123, _, _, _, _, _⟩) (v := ?_) rfl (by kernel_rfl) (by kernel_rfl) (by kernel_rfl) (fun _ _ _ h => h) (Or.inl ⟨by rfl, ?_⟩) hHeld ?_
                rotate_left
                · intro w hSw; (try dsimp only at hSw); go_simp; all_goals (with_reducible rfl)
                try simp only [Act.put, List.setIfInBounds_toArray, List.set_cons_zero, List.set_cons_succ]
                refine wpAnyH_take (i := 3) (oi := ⟨some 124, _, _, _, _, _⟩) (v := ?_) rfl (by kernel_rfl) (by kernel_rfl) (by kernel_rfl) (fun _ _ _ h => h) (Or.inl ⟨by rfl, ?_⟩) hHeld ?_
                rotate_left
                · intro w hSw; (try dsimp only at hSw); go_simp; all_goals (with_reducible rfl)
                try simp only [Act.put, List.setIfInBounds_toArray, List.set_cons_zero, List.set_cons_succ]
                refine wpAnyH_take (i := 5) (oi := ⟨some 126, _, _, _, _, _⟩) (v := ?_) rfl (by kernel_rfl) (by kernel_rfl) (by kernel_rfl) (fun _ _ _ h => h) (Or.inl ⟨by rfl, ?_⟩) hHeld ?_
                rotate_left
                · intro w hSw; (try dsimp only at hSw); go_simp; all_goals (with_reducible rfl)
                try simp only [Act.put, List.setIfInBounds_toArray, List.set_cons_zero, List.set_cons_succ]
                refine wpAnyH_ready (rs := [4]) (by kernel_rfl) (by simp) ?_
                refine AllReadyH.cons (o := ⟨some 125, _, _, _, _, _⟩) rfl (fun K hK => ?_) AllReadyH.nil
                go_simp
                refine (resolve_walk ⟨c.k, c.c, c.c, b - 1⟩ (b - 1) _).mono ?_
                rw [HRC.out]
                rintro e w9 ⟨rfl, hB9⟩
                have hS9 := below_trans hHeld hB9
                clear hB9 hHeld
                go_simp
                refine hK.out _ _ ?_ (fun hHeld => ?_)
                · exact hS9
                clear hK K
                try simp only [Act.put, List.setIfInBounds_toArray, List.set_cons_zero, List.set_cons_succ]
                refine wpAnyH_take (i := 6) (oi := ⟨some 127, _, _, _, _, _⟩) (v := ?_) rfl (by kernel_rfl) (by kernel_rfl) (by kernel_rfl) (fun _ _ _ h => h) (Or.inl ⟨by rfl, ?_⟩) hHeld ?_
                rotate_left
                · intro w hSw; (try dsimp only at hSw); go_simp; all_goals (with_reducible rfl)
                try simp only [Act.put, List.setIfInBounds_toArray, List.set_cons_zero, List.set_cons_succ]
                refine wpAnyH_take (i := 7) (oi := ⟨some 128, _, _, _, _, _⟩) (v := ?_) rfl (by kernel_rfl) (by kernel_rfl) (by kernel_rfl) (fun _ _ _ h => h) (Or.inl ⟨by rfl, ?_⟩) hHeld ?_
                rotate_left
                · intro w hSw; (try dsimp only at hSw); go_simp; all_goals (with_reducible rfl)
                try simp only [Act.put, List.setIfInBounds_toArray, List.set_cons_zero, List.set_cons_succ]
                refine wpAnyH_take (i := 8) (oi := ⟨some 129, _, _, _, _, _⟩) (v := ?_) rfl (by kernel_rfl) (by kernel_rfl) (by kernel_rfl) (fun _ _ _ h => h) (Or.inl ⟨by rfl, ?_⟩) hHeld ?_
                rotate_left
                · intro w hSw; (try dsimp only at hSw); go_simp; all_goals (with_reducible rfl)
                try simp only [Act.put, List.setIfInBounds_toArray, List.set_cons_zero, List.set_cons_succ]
                refine wpAnyH_take (i := 9) (oi := ⟨some 130, _, _, _, _, _⟩) (v := ?_) rfl (by kernel_rfl) (by kernel_rfl) (by kernel_rfl) (fun _ _ _ h => h) (Or.inl ⟨by rfl, ?_⟩) hHeld ?_
                rotate_left
                · intro w hSw; (try dsimp only at hSw); go_simp; all_goals (with_reducible rfl)
                try simp only [Act.put, List.setIfInBounds_toArray, List.set_cons_zero, List.set_cons_succ]
                refine wpAnyH_take (i := 10) (oi := ⟨some 131, _, _, _, _, _⟩) (v := ?_) rfl (by kernel_rfl) (by kernel_rfl) (by kernel_rfl) (fun _ _ _ h => h) (Or.inl ⟨by rfl, ?_⟩) hHeld ?_
                rotate_left
                · intro w hSw; (try dsimp only at hSw); go_simp; all_goals (with_reducible rfl)
                try simp only [Act.put, List.setIfInBounds_toArray, List.set_cons_zero, List.set_cons_succ]
                refine wpAnyH_take (i := 12) (oi := ⟨some 133, _, _, _, _, _⟩) (v := ?_) rfl (by kernel_rfl) (by kernel_rfl) (by kernel_rfl) (fun _ _ _ h => h) (Or.inl ⟨by rfl, ?_⟩) hHeld ?_
                rotate_left
                · intro w hSw; (try dsimp only at hSw); go_simp; all_goals (with_reducible rfl)
                try simp only [Act.put, List.setIfInBounds_toArray, List.set_cons_zero, List.set_cons_succ]
                refine wpAnyH_ready (rs := [11]) (by kernel_rfl) (by simp) ?_
                refine AllReadyH.cons (o := ⟨some 132, _, _, _, _, _⟩) rfl (fun K hK => ?_) AllReadyH.nil
                go_simp
                refine (resolve_walk ⟨c.k, c.c, c.c, b - 1⟩ b _).mono ?_
                rw [HRD.out]
                rintro e w9 ⟨rfl, hB9⟩
                have hS9 := below_trans hHeld hB9
                clear hB9 hHeld
                go_simp
                refine hK.out _ _ ?_ (fun hHeld => ?_)
                · exact hS9
                clear hK K
                try simp only [Act.put, List.setIfInBounds_toArray, List.set_cons_zero, List.set_cons_succ]
                refine wpAnyH_take (i := 13) (oi := ⟨some 134, _, _, _, _, _⟩) (v := ?_) rfl (by kernel_rfl) (by kernel_rfl) (by kernel_rfl) (fun _ _ _ h => h) (Or.inl ⟨by rfl, ?_⟩) hHeld ?_
                rotate_left
                · intro w hSw; (try dsimp only at hSw); go_simp; all_goals (with_reducible rfl)
                try simp only [Act.put, List.setIfInBounds_toArray, List.set_cons_zero, List.set_cons_succ]
                refine wpAnyH_take (i := 14) (oi := ⟨some 135, _, _, _, _, _⟩) (v := ?_) rfl (by kernel_rfl) (by kernel_rfl) (by kernel_rfl) (fun _ _ _ h => h) (Or.inl ⟨by rfl, ?_⟩) hHeld ?_
                rotate_left
                · intro w hSw; (try dsimp only at hSw); go_simp; all_goals (with_reducible rfl)
                try simp only [Act.put, List.setIfInBounds_toArray, List.set_cons_zero, List.set_cons_succ]
                refine wpAnyH_take (i := 15) (oi := ⟨some 136, _, _, _, _, _⟩) (v := ?_) rfl (by kernel_rfl) (by kernel_rfl) (by kernel_rfl) (fun _ _ _ h => h) (Or.inl ⟨by rfl, ?_⟩) hHeld ?_
                rotate_left
                · intro w hSw; (try dsimp only at hSw); go_simp; all_goals (with_reducible rfl)
                try simp only [Act.put, List.setIfInBounds_toArray, List.set_cons_zero, List.set_cons_succ]
                refine wpAnyH_take (i := 16) (oi := ⟨some 137, _, _, _, _, _⟩) (v := ?_) rfl (by kernel_rfl) (by kernel_rfl) (by kernel_rfl) (fun _ _ _ h => h) (Or.inl ⟨by rfl, ?_⟩) hHeld ?_
                rotate_left
                · intro w hSw; (try dsimp only at hSw); go_simp; all_goals (with_reducible rfl)
                try simp only [Act.put, List.setIfInBounds_toArray, List.set_cons_zero, List.set_cons_succ]
                refine wpAnyH_take (i := 17) (oi := ⟨some 138, _, _, _, _, _⟩) (v := ?_) rfl (by kernel_rfl) (by kernel_rfl) (by kernel_rfl) (fun _ _ _ h => h) (Or.inl ⟨by rfl, ?_⟩) hHeld ?_
                rotate_left
                · intro w hSw; (try dsimp only at hSw); go_simp; all_goals (with_reducible rfl)
                try simp only [Act.put, List.setIfInBounds_toArray, List.set_cons_zero, List.set_cons_succ]
                refine wpAnyH_take (i := 18) (oi := ⟨some 139, _, _, _, _, _⟩) (v := ?_) rfl (by kernel_rfl) (by kernel_rfl) (by kernel_rfl) (fun _ _ _ h => h) (Or.inl ⟨by rfl, ?_⟩) hHeld ?_
                rotate_left
                · intro w hSw; (try dsimp only at hSw); go_simp; all_goals (with_reducible rfl)
                try simp only [Act.put, List.setIfInBounds_toArray, List.set_cons_zero, List.set_cons_succ]
                refine wpAnyH_take (i := 19) (oi := ⟨some 140, _, _, _, _, _⟩) (v := ?_) rfl (by kernel_rfl) (by kernel_rfl) (by kernel_rfl) (fun _ _ _ h => h) (Or.inl ⟨by rfl, ?_⟩) hHeld ?_
                rotate_left
                · intro w hSw; (try dsimp only at hSw); go_simp; all_goals (with_reducible rfl)
                try simp only [Act.put, List.setIfInBounds_toArray, List.set_cons_zero, List.set_cons_succ]
                refine wpAnyH_take (i := 20) (oi := ⟨some 141, _, _, _, _, _⟩) (v := ?_) rfl (by kernel_rfl) (by kernel_rfl) (by kernel_rfl) (fun _ _ _ h => h) (Or.inl ⟨by rfl, ?_⟩) hHeld ?_
                rotate_left
                · intro w hSw; (try dsimp only at hSw); go_simp; all_goals (with_reducible rfl)
                try simp only [Act.put, List.setIfInBounds_toArray, List.set_cons_zero, List.set_cons_succ]
                refine wpAnyH_take (i := 21) (oi := ⟨some 142, _, _, _, _, _⟩) (v := ?_) rfl (by kernel_rfl) (by kernel_rfl) (by kernel_rfl) (fun _ _ _ h => h) (Or.inl ⟨by rfl, ?_⟩) hHeld ?_
                rotate_left
                · intro w hSw; (try dsimp only at hSw); go_simp; all_goals (with_reducible rfl)
                try simp only [Act.put, List.setIfInBounds_toArray, List.set_cons_zero, List.set_cons_succ]
                refine wpAnyH_take (i := 22) (oi := ⟨some 143, _, _, _, _, _⟩) (v := ?_) rfl (by kernel_rfl) (by kernel_rfl) (by kernel_rfl) (fun _ _ _ h => h) (Or.inl ⟨by rfl, ?_⟩) hHeld ?_
                rotate_left
                · intro w hSw; (try dsimp only at hSw); go_simp; all_goals (with_reducible rfl)
                try simp only [Act.put, List.setIfInBounds_toArray, List.set_cons_zero, List.set_cons_succ]
                refine wpAnyH_done (by kernel_rfl) ?_ _
                refine NoPanic.normal ?_
                go_wp2_with fail
                go_meet
                exact ⟨rfl, hHeld⟩
              case rest =>
                obtain ⟨rfl, hBc⟩ := hcut
                have HC11 : Hid (CB wc w3.heap.size ⟨c.k, c.c, c.c, b - 1⟩) := HC10.out.below hBc (cell_lt HC10.out.c0)
                have HA11 : Hid (VB wc (w3.heap.size + 1) c.c) := HA10.out.below hBc (cell_lt HA10.out.c0)
                have HX11 : Hid (XB wc w.heap.size k c b (.slice (some ⟨pb, poff, none⟩) (m + 1) cap) (.slice bo bs.length bcap)) := HX10.out.below hBc (cell_lt HX10.out.c0)
                have HB11 : Hid (Below w.heap.size w wc) := below_trans HB10.out hBc
                have HREL : Hid (Al w w3.heap.size k b c (.slice (some ⟨pb, poff, none⟩) (m + 1) cap) (.slice bo bs.length bcap) m ⟨c.k, c.c, ML, b⟩ (.int .i64 ((i : Int) + 1)) wc) := ⟨i + 1, ⟨c.k, c.c, c.c, b - 1⟩, hlt, by simp, HC11.out, HA11.out, HX11.out, ag_rev HCO.out.2, fun h => absurd h (Nat.ne_of_lt (Nat.add_lt_add_right him 1)), HB11.out⟩
                clear hBc k0 k1 k2 k3 k4 k5 k6 k7 k8 k9 l0 l1 l2 l3 l4 l5 v0 v1
                go_wp2_with fail
                go_roundw
                case rel => first | exact HREL.out | ((repeat apply Exists.intro); exact ⟨HREL.out, rfl⟩)
                case measure => simp [intOf]; omega
    · have hlti : ¬ (i : Int) < (m : Int) + 1 := by omega
      obtain rfl : d = ⟨c.k, c.c, ML, b⟩ := HL.out (by omega)
      have HAC : Hid (appC k c b ql = ⟨c.k, c.c, ML, b⟩) := by show _ = _; rw [← HML.out]; exact app_up HK.out.1 HN.out.1 HN.out.2.1
      have HAI : Hid (appI k c b = 0) := app_ok HK.out.1 HN.out.1 (Int.le_of_lt HN.out.2.1)
      have hwm : IntKind.i64.wrap ((m : Int) + 1 - 1) = (m : Int) := by rw [IntKind.wrap_i64]; omega
      have hwm2 : IntKind.i64.wrap (m : Int) = (m : Int) := by rw [IntKind.wrap_i64]; omega
      have hmm : (m : Int) < (m : Int) + 1 := by omega
      have hmn : m < m + 1 := by omega
      go_upto_region 18 with fail
      clear c0 c1 c2 c3 c4 c5 c6 c7 c8 c9
      have k0 : ∀ wx, Below wr.heap.size wr wx → wx.cell? ⟨w.heap.size, 0, none⟩ = some (.int .i64 k) := fun wx h => (HX.out.below h (cell_lt HX.out.c0)).c0
      have k1 : ∀ wx, Below wr.heap.size wr wx → wx.cell? ⟨w.heap.size, 1, none⟩ = some (.int .u64 c.k) := fun wx h => (HX.out.below h (cell_lt HX.out.c0)).c1
      have k2 : ∀ wx, Below wr.heap.size wr wx → wx.cell? ⟨w.heap.size, 2, none⟩ = some (.bool c.p.h) := fun wx h => (HX.out.below h (cell_lt HX.out.c0)).c2
      have k3 : ∀ wx, Below wr.heap.size wr wx → wx.cell? ⟨w.heap.size, 3, none⟩ = some (.int .u64 c.p.b) := fun wx h => (HX.out.below h (cell_lt HX.out.c0)).c3
      have k4 : ∀ wx, Below wr.heap.size wr wx → wx.cell? ⟨w.heap.size, 4, none⟩ = some (.bool c.c.h) := fun wx h => (HX.out.below h (cell_lt HX.out.c0)).c4
      have k5 : ∀ wx, Below wr.heap.size wr wx → wx.cell? ⟨w.heap.size, 5, none⟩ = some (.int .u64 c.c.b) := fun wx h => (HX.out.below h (cell_lt HX.out.c0)).c5
      have k6 : ∀ wx, Below wr.heap.size wr wx → wx.cell? ⟨w.heap.size, 6, none⟩ = some (.int .i64 c.n) := fun wx h => (HX.out.below h (cell_lt HX.out.c0)).c6
      have k7 : ∀ wx, Below wr.heap.size wr wx → wx.cell? ⟨w.heap.size, 7, none⟩ = some (.int .i64 b) := fun wx h => (HX.out.below h (cell_lt HX.out.c0)).c7
      have k8 : ∀ wx, Below wr.heap.size wr wx → wx.cell? ⟨w.heap.size, 8, none⟩ = some (.slice (some ⟨pb, poff, none⟩) (m + 1) cap) := fun wx h => (HX.out.below h (cell_lt HX.out.c0)).c8
      have k9 : ∀ wx, Below wr.heap.size wr wx → wx.cell? ⟨w.heap.size, 9, none⟩ = some (.slice bo bs.length bcap) := fun wx h => (HX.out.below h (cell_lt HX.out.c0)).c9
      have q0 : ∀ wx, Below wr.heap.size wr wx → wx.cell? ⟨pb, poff + m * 2, none⟩ = some (.bool ql.h) := fun wx h => by
        rw [(below_trans HB.out h).cell (p := ⟨pb, poff + m * 2, none⟩) (cell_lt HF0.out)]
        exact HF0.out
      have q1 : ∀ wx, Below wr.heap.size wr wx → wx.cell? ⟨pb, poff + m * 2 + 1, none⟩ = some (.int .u64 ql.b) := fun wx h => by
        rw [(below_trans HB.out h).cell (p := ⟨pb, poff + m * 2 + 1, none⟩) (cell_lt HF1.out)]
        exact HF1.out
      go_cut [8, 9] (fun uv ev wx => Nu wr ⟨c.k, c.c, ML, b⟩ 0 uv ev wx)
      case first =>
        refine wp_region_noPanic ?_
        refine wp_region_held_drew (S := fun wx => Below wr.heap.size wr wx) (by kernel_rfl) ?_ (fun hHeld => ?_)
        · exact (Below.refl _ _).drew
        refine wpAnyH_take (i := 0) (oi := ⟨some 145, _, _, _, _, _⟩) (v := ?_) rfl (by kernel_rfl) (by kernel_rfl) (by kernel_rfl) (fun _ _ _ h => h) (Or.inl ⟨by rfl, ?_⟩) hHeld ?_
        rotate_left
        · intro w hSw; (try dsimp only at hSw); go_simp; all_goals (with_reducible rfl)
        try simp only [Act.put, List.setIfInBounds_toArray, List.set_cons_zero, List.set_cons_succ]
        refine wpAnyH_take (i := 1) (oi := ⟨some 146, _, _, _, _, _⟩) (v := ?_) rfl (by kernel_rfl) (by kernel_rfl) (by kernel_rfl) (fun _ _ _ h => h) (Or.inl ⟨by rfl, ?_⟩) hHeld ?_
        rotate_left
        · intro w hSw; (try dsimp only at hSw); go_simp; all_goals (with_reducible rfl)
        try simp only [Act.put, List.setIfInBounds_toArray, List.set_cons_zero, List.set_cons_succ]
        refine wpAnyH_take (i := 2) (oi := ⟨some 147, _, _, _, _, _⟩) (v := ?_) rfl (by kernel_rfl) (by kernel_rfl) (by kernel_rfl) (fun _ _ _ h => h) (Or.inl ⟨by rfl, ?_⟩) hHeld ?_
        rotate_left
        · intro w hSw; (try dsimp only at hSw); go_simp; all_goals (with_reducible rfl)
        try simp only [Act.put, List.setIfInBounds_toArray, List.set_cons_zero, List.set_cons_succ]
        refine wpAnyH_take (i := 3) (oi := ⟨some 148, _, _, _, _, _⟩) (v := ?_) rfl (by kernel_rfl) (by kernel_rfl) (by kernel_rfl) (fun _ _ _ h => h) (Or.inl ⟨by rfl, ?_⟩) hHeld ?_
        rotate_left
        · intro w hSw; (try dsimp only at hSw); go_simp; all_goals (with_reducible rfl)
        try simp only [Act.put, List.setIfInBounds_toArray, List.set_cons_zero, List.set_cons_succ]
        refine wpAnyH_take (i := 4) (oi := ⟨some 149, _, _, _, _, _⟩) (v := ?_) rfl (by kernel_rfl) (by kernel_rfl) (by kernel_rfl) (fun _ _ _ h => h) (Or.inl ⟨by rfl, ?_⟩) hHeld ?_
        rotate_left
        · intro w hSw; (try dsimp only at hSw); go_simp; all_goals (with_reducible rfl)
        try simp only [Act.put, List.setIfInBounds_toArray, List.set_cons_zero, List.set_cons_succ]
        refine wpAnyH_take (i := 5) (oi := ⟨some 150, _, _, _, _, _⟩) (v := ?_) rfl (by kernel_rfl) (by kernel_rfl) (by kernel_rfl) (fun _ _ _ h => h) (Or.inl ⟨by rfl, ?_⟩) hHeld ?_
        rotate_left
        · intro w hSw; (try dsimp only at hSw); go_simp; all_goals (with_reducible rfl)
        try simp only [Act.put, List.setIfInBounds_toArray, List.set_cons_zero, List.set_cons_succ]
        refine wpAnyH_take (i := 6) (oi := ⟨some 151, _, _, _, _, _⟩) (v := ?_) rfl (by kernel_rfl) (by kernel_rfl) (by kernel_rfl) (fun _ _ _ h => h) (Or.inl ⟨by rfl, ?_⟩) hHeld ?_
        rotate_left
        · intro w hSw; (try dsimp only at hSw); go_simp; all_goals (with_reducible rfl)
        try simp only [Act.put, List.setIfInBounds_toArray, List.set_cons_zero, List.set_cons_succ]
        refine wpAnyH_take (i := 7) (oi := ⟨some 152, _, _, _, _, _⟩) (v := ?_) rfl (by kernel_rfl) (by kernel_rfl) (by kernel_rfl) (fun _ _ _ h => h) (Or.inl ⟨by rfl, ?_⟩) hHeld ?_
        rotate_left
        · intro w hSw; (try dsimp only at hSw); go_simp; all_goals (with_reducible rfl)
        try simp only [Act.put, List.setIfInBounds_toArray, List.set_cons_zero, List.set_cons_succ]
        refine wpAnyH_take (i := 8) (oi := ⟨some 153, _, _, _, _, _⟩) (v := ?_) rfl (by kernel_rfl) (by kernel_rfl) (by kernel_rfl) (fun _ _ _ h => h) (Or.inl ⟨by rfl, ?_⟩) hHeld ?_
        rotate_left
        · intro w hSw; (try dsimp only at hSw); go_simp; all_goals (with_reducible rfl)
        try simp only [Act.put, List.setIfInBounds_toArray, List.set_cons_zero, List.set_cons_succ]
        refine wpAnyH_take (i := 9) (oi := ⟨some 154, _, _, _, _, _⟩) (v := ?_) rfl (by kernel_rfl) (by kernel_rfl) (by kernel_rfl) (fun _ _ _ h => h) (Or.inl ⟨by rfl, ?_⟩) hHeld ?_
        rotate_left
        · intro w hSw; (try dsimp only at hSw); go_simp; all_goals (with_reducible rfl)
        try simp only [Act.put, List.setIfInBounds_toArray, List.set_cons_zero, List.set_cons_succ]
        refine wpAnyH_take (i := 10) (oi := ⟨some 155, _, _, _, _, _⟩) (v := ?_) rfl (by kernel_rfl) (by kernel_rfl) (by kernel_rfl) (fun _ _ _ h => h) (Or.inl ⟨by rfl, ?_⟩) hHeld ?_
        rotate_left
        · intro w hSw; (try dsimp only at hSw); go_simp; all_goals (with_reducible rfl)
        try simp only [Act.put, List.setIfInBounds_toArray, List.set_cons_zero, List.set_cons_succ]
        refine wpAnyH_take (i := 11) (oi := ⟨some 156, _, _, _, _, _⟩) (v := ?_) rfl (by kernel_rfl) (by kernel_rfl) (by kernel_rfl) (fun _ _ _ h => h) (Or.inl ⟨by rfl, ?_⟩) hHeld ?_
        rotate_left
        · intro w hSw; (try dsimp only at hSw); go_simp; all_goals (with_reducible rfl)
        try simp only [Act.put, List.setIfInBounds_toArray, List.set_cons_zero, List.set_cons_succ]
        refine wpAnyH_take (i := 12) (oi := ⟨some 157, _, _, _, _, _⟩) (v := ?_) rfl (by kernel_rfl) (by kernel_rfl) (by kernel_rfl) (fun _ _ _ h => h) (Or.inl ⟨by rfl, ?_⟩) hHeld ?_
        rotate_left
        · intro w hSw; (try dsimp only at hSw); go_simp; all_goals (with_reducible rfl)
        try simp only [Act.put, List.setIfInBounds_toArray, List.set_cons_zero, List.set_cons_succ]
        refine wpAnyH_take (i := 13) (oi := ⟨some 158, _, _, _, _, _⟩) (v := ?_) rfl (by kernel_rfl) (by kernel_rfl) (by kernel_rfl) (fun _ _ _ h => h) (Or.inl ⟨by rfl, ?_⟩) hHeld ?_
        rotate_left
        · intro w hSw; (try dsimp only at hSw); go_simp; all_goals (with_reducible rfl)
        try simp only [Act.put, List.setIfInBounds_toArray, List.set_cons_zero, List.set_cons_succ]
        refine wpAnyH_ready (rs := [14, 18]) (by kernel_rfl) (by simp) ?_
        refine AllReadyH.cons (o := ⟨some 159, _, _, _, _, _⟩) rfl (fun K hK => ?_) (AllReadyH.cons (o := ⟨some 8, _, _, _, _, _⟩) rfl (fun K hK => ?_) AllReadyH.nil)
        · go_simp
          refine (apply_walk k HCO.out b HQL.out _).mono ?_
          rw [HAC.out, HAI.out]
          rintro e w9 ⟨rfl, hB9⟩
          have hS9 : Below wr.heap.size wr w9 := below_trans hHeld hB9
          clear hB9 hHeld
          go_simp
          refine hK.out _ _ ?_ (fun hHeld => ?_)
          · exact hS9
          clear hK K
          try simp only [Act.put, List.setIfInBounds_toArray, List.set_cons_zero, List.set_cons_succ]
          refine wpAnyH_take (i := 15) (oi := ⟨some 144, _, _, _, _, _⟩) (v := ?_) rfl (by kernel_rfl) (by kernel_rfl) (by kernel_rfl) (fun _ _ _ h => h) (Or.inl ⟨by rfl, ?_⟩) hHeld ?_
          rotate_left
          · intro w hSw; (try dsimp only at hSw); go_simp; all_goals (with_reducible rfl)
          try simp only [Act.put, List.setIfInBounds_toArray, List.set_cons_zero, List.set_cons_succ]
          refine wpAnyH_take (i := 16) (oi := ⟨some 160, _, _, _, _, _⟩) (v := ?_) rfl (by kernel_rfl) (by kernel_rfl) (by kernel_rfl) (fun _ _ _ h => h) (Or.inl ⟨by rfl, ?_⟩) hHeld ?_
          rotate_left
          · intro w hSw; (try dsimp only at hSw); go_simp; all_goals (with_reducible rfl)
          try simp only [Act.put, List.setIfInBounds_toArray, List.set_cons_zero, List.set_cons_succ]
          refine wpAnyH_take (i := 17) (oi := ⟨some 161, _, _, _, _, _⟩) (v := ?_) rfl (by kernel_rfl) (by kernel_rfl) (by kernel_rfl) (fun _ _ _ h => h) (Or.inl ⟨by rfl, ?_⟩) hHeld ?_
          rotate_left
          · intro w hSw; (try dsimp only at hSw); go_simp; all_goals (with_reducible rfl)
          try simp only [Act.put, List.setIfInBounds_toArray, List.set_cons_zero, List.set_cons_succ]
          refine wpAnyH_ready (rs := [18]) (by kernel_rfl) (by simp) ?_
          refine AllReadyH.cons (o := ⟨some 8, _, _, _, _, _⟩) rfl (fun K hK => ?_) AllReadyH.nil
          go_simp
          refine hK.out _ _ ?_ (fun hHeld => ?_)
          · exact by first | exact hHeld.alloc hHeld.size _ | exact (below_alloc _ _).drew
          clear hK K
          try simp only [Act.put, List.setIfInBounds_toArray, List.set_cons_zero, List.set_cons_succ]
          refine wpAnyH_ready (rs := [19]) (by kernel_rfl) (by simp) ?_
          refine AllReadyH.cons (o := ⟨none, _, _, _, _, _⟩) rfl (fun K hK => ?_) AllReadyH.nil
          go_simp
          refine hK.out _ _ ?_ (fun hHeld => ?_)
          · exact hS9.alloc hS9.size _
          clear hK K
          try simp only [Act.put, List.setIfInBounds_toArray, List.set_cons_zero, List.set_cons_succ]
          refine wpAnyH_take (i := 20) (oi := ⟨some 9, _, _, _, _, _⟩) (v := ?_) rfl (by kernel_rfl) (by kernel_rfl) (by kernel_rfl) (fun _ _ _ h => h) (Or.inl ⟨by rfl, ?_⟩) hHeld ?_
          rotate_left
          · intro w hSw; (try dsimp only at hSw); go_simp; all_goals (with_reducible rfl)
          try simp only [Act.put, List.setIfInBounds_toArray, List.set_cons_zero, List.set_cons_succ]
          refine wpAnyH_done (by kernel_rfl) ?_ _
          refine NoPanic.normal ?_
          go_wp2_with fail
          go_meet
          exact nu_new hS9 ⟨c.k, c.c, ML, b⟩ 0
        · go_simp
          refine hK.out _ _ ?_ (fun hHeld => ?_)
          · exact by first | exact hHeld.alloc hHeld.size _ | exact (below_alloc _ _).drew
          clear hK K
          try simp only [Act.put, List.setIfInBounds_toArray, List.set_cons_zero, List.set_cons_succ]
          refine wpAnyH_ready (rs := [14]) (by kernel_rfl) (by simp) ?_
          refine AllReadyH.cons (o := ⟨some 159, _, _, _, _, _⟩) rfl (fun K hK => ?_) AllReadyH.nil
          go_simp
          refine (apply_walk k HCO.out b HQL.out _).mono ?_
          rw [HAC.out, HAI.out]
          rintro e w9 ⟨rfl, hB9⟩
          have hS9 : Below wr.heap.size wr w9 := below_trans hHeld hB9
          have hz9 := zero_boxd hB9
          have hz := hz9
          obtain ⟨d0, d1, d2, d3, d4, d5, yy⟩ := hz9
          clear hB9 hHeld
          go_simp
          refine hK.out _ _ ?_ (fun hHeld => ?_)
          · exact hS9
          clear hK K
          try simp only [Act.put, List.setIfInBounds_toArray, List.set_cons_zero, List.set_cons_succ]
          refine wpAnyH_take (i := 15) (oi := ⟨some 144, _, _, _, _, _⟩) (v := ?_) rfl (by kernel_rfl) (by kernel_rfl) (by kernel_rfl) (fun _ _ _ h => h) (Or.inl ⟨by rfl, ?_⟩) hHeld ?_
          rotate_left
          · intro w hSw; (try dsimp only at hSw); go_simp; all_goals (with_reducible rfl)
          try simp only [Act.put, List.setIfInBounds_toArray, List.set_cons_zero, List.set_cons_succ]
          refine wpAnyH_take (i := 16) (oi := ⟨some 160, _, _, _, _, _⟩) (v := ?_) rfl (by kernel_rfl) (by kernel_rfl) (by kernel_rfl) (fun _ _ _ h => h) (Or.inl ⟨by rfl, ?_⟩) hHeld ?_
          rotate_left
          · intro w hSw; (try dsimp only at hSw); go_simp; all_goals (with_reducible rfl)
          try simp only [Act.put, List.setIfInBounds_toArray, List.set_cons_zero, List.set_cons_succ]
          refine wpAnyH_take (i := 17) (oi := ⟨some 161, _, _, _, _, _⟩) (v := ?_) rfl (by kernel_rfl) (by kernel_rfl) (by kernel_rfl) (fun _ _ _ h => h) (Or.inl ⟨by rfl, ?_⟩) hHeld ?_
          rotate_left
          · intro w hSw; (try dsimp only at hSw); go_simp; all_goals (with_reducible rfl)
          try simp only [Act.put, List.setIfInBounds_toArray, List.set_cons_zero, List.set_cons_succ]
          refine wpAnyH_ready (rs := [19]) (by kernel_rfl) (by simp) ?_
          refine AllReadyH.cons (o := ⟨none, _, _, _, _, _⟩) rfl (fun K hK => ?_) AllReadyH.nil
          go_simp
          refine hK.out _ _ ?_ (fun hHeld => ?_)
          · exact keep_cell hS9 _ (Nat.le_refl _) _ _ _ _ _ _
          clear hK K
          try simp only [Act.put, List.setIfInBounds_toArray, List.set_cons_zero, List.set_cons_succ]
          refine wpAnyH_take (i := 20) (oi := ⟨some 9, _, _, _, _, _⟩) (v := ?_) rfl (by kernel_rfl) (by kernel_rfl) (by kernel_rfl) (fun _ _ _ h => h) (Or.inl ⟨by rfl, ?_⟩) hHeld ?_
          rotate_left
          · intro w hSw; (try dsimp only at hSw); go_simp; all_goals (with_reducible rfl)
          try simp only [Act.put, List.setIfInBounds_toArray, List.set_cons_zero, List.set_cons_succ]
          refine wpAnyH_done (by kernel_rfl) ?_ _
          refine NoPanic.normal ?_
          go_wp2_with fail
          go_meet
          exact nu_old hS9 (Nat.le_refl _) hz ⟨c.k, c.c, ML, b⟩ 0
      case rest =>
        clear k0 k1 k2 k3 k4 k5 k6 k7 k8 k9 q0 q1
        obtain ⟨U, rfl, rfl, hU, hle, hBx⟩ := hcut
        obtain ⟨d0, d1, d2, d3, d4, d5, _⟩ := hU
        obtain ⟨c0, c1, c2, c3, c4, c5, _⟩ := HC.out.below hBx (cell_lt HC.out.c0)
        have HB9 : Hid (Below w.heap.size w wc) := below_trans HB.out hBx
        clear hBx hle
        have n1 := eql_cell ⟨c.k, c.c, ML, b⟩
        dsimp only at n1
        go_wp2_with fail
        go_ret
        exact ⟨rfl, HB9.out⟩
end Go.Proofs.Ytnppgeokbhecfaa
