/- Contracts of both Apply; == of cells. -/
import Derived.Test.YtnppgeokbhecfaaCc
import Derived.Test.YtnppgeokbhecfaaCd
namespace Go.Proofs.Ytnppgeokbhecfaa
open Ieee Go.RowKit

theorem below_three (w : World) (o p q : Obj) : Below w.heap.size w (((w.alloc o).alloc p).alloc q) := (below_two w o p).alloc (by rw [size_alloc, size_alloc]; omega) q

theorem three_cb {w w1 : World} {A Z : Cl} {v : Vl}
    (h : ((w.alloc (Obj.cells #[.int .u64 A.k, .bool A.p.h, .int .u64 A.p.b, .bool A.c.h, .int .u64 A.c.b, .int .i64 A.n] 26)).alloc (Obj.cells #[.bool v.h, .int .u64 v.b] 24)).alloc (Obj.cells #[.int .u64 Z.k, .bool Z.p.h, .int .u64 Z.p.b, .bool Z.c.h, .int .u64 Z.c.b, .int .i64 Z.n] 26) = w1) :
    Hid (CB w1 w.heap.size A) ∧ Hid (VB w1 (w.heap.size + 1) v) ∧ Hid (CB w1 (w.heap.size + 1 + 1) Z) ∧ Hid (Below w.heap.size w w1) := by
  subst h
  refine ⟨?_, ?_, ?_, below_three _ _ _ _⟩
  · show CB _ _ _
    constructor <;> simp [go_sem]
  · show VB _ _ _
    constructor <;> simp [go_sem]
  · show CB _ _ _
    constructor <;> simp [go_sem]

theorem keep_store2 {w w1 : World} (h : Below w.heap.size w w1) (b : Nat) (hb : w.heap.size ≤ b) (i j : Nat) (u v : Value) : Below w.heap.size w ((w1.setCell ⟨b, i, none⟩ u).setCell ⟨b, j, none⟩ v) := (h.setCell hb u).setCell hb v

theorem keep_cell {w w1 : World} (h : Below w.heap.size w w1) (b : Nat) (hb : w.heap.size ≤ b) (u0 u1 u2 u3 u4 u5 : Value) :
    Below w.heap.size w ((((((w1.setCell ⟨b, 0, none⟩ u0).setCell ⟨b, 1, none⟩ u1).setCell ⟨b, 2, none⟩ u2).setCell ⟨b, 3, none⟩ u3).setCell ⟨b, 4, none⟩ u4).setCell ⟨b, 5, none⟩ u5) :=
  (((((h.setCell hb u0).setCell hb u1).setCell hb u2).setCell hb u3).setCell hb u4).setCell hb u5

theorem keep_cellB {B : Nat} {w w1 : World} (h : Below B w w1) (b : Nat) (hb : B ≤ b) (u0 u1 u2 u3 u4 u5 : Value) :
    Below B w ((((((w1.setCell ⟨b, 0, none⟩ u0).setCell ⟨b, 1, none⟩ u1).setCell ⟨b, 2, none⟩ u2).setCell ⟨b, 3, none⟩ u3).setCell ⟨b, 4, none⟩ u4).setCell ⟨b, 5, none⟩ u5) :=
  (((((h.setCell hb u0).setCell hb u1).setCell hb u2).setCell hb u3).setCell hb u4).setCell hb u5

theorem CB.setCur {w : World} {b : Nat} {c : Cl} (h : CB w b c) (m : Vl) : CB ((w.setCell ⟨b, 3, none⟩ (.bool m.h)).setCell ⟨b, 4, none⟩ (.int .u64 m.b)) b ⟨c.k, c.p, m, c.n⟩ := by
  obtain ⟨c0, c1, c2, c3, c4, c5, z⟩ := h
  constructor <;> simp [go_sem, c0, c1, c2, c3, c4, c5, z]

theorem CB.set {w : World} {b : Nat} {c : Cl} (h : CB w b c) (d : Cl) :
    CB ((((((w.setCell ⟨b, 0, none⟩ (.int .u64 d.k)).setCell ⟨b, 1, none⟩ (.bool d.p.h)).setCell ⟨b, 2, none⟩ (.int .u64 d.p.b)).setCell ⟨b, 3, none⟩ (.bool d.c.h)).setCell ⟨b, 4, none⟩ (.int .u64 d.c.b)).setCell ⟨b, 5, none⟩ (.int .i64 d.n)) b d := by
  obtain ⟨c0, c1, c2, c3, c4, c5, z⟩ := h
  constructor <;> simp [go_sem, c0, c1, c2, c3, c4, c5, z]

set_option maxRecDepth 100000 in
set_option maxHeartbeats 4000000 in
theorem apply_walk (k : Int) {c : Cl} (hc : c.ok) (b : Int) {v : Vl} (hv : v.ok) (w : World) :
    Calls Try.prog 9 #[.int .i64 k, .agg #[.int .u64 c.k, .bool c.p.h, .int .u64 c.p.b, .bool c.c.h, .int .u64 c.c.b, .int .i64 c.n], .int .i64 b, .agg #[.bool v.h, .int .u64 v.b]] w fun e w' => e = .returned (.tuple #[.agg #[.int .u64 (appC k c b v).k, .bool (appC k c b v).p.h, .int .u64 (appC k c b v).p.b, .bool (appC k c b v).c.h, .int .u64 (appC k c b v).c.b, .int .i64 (appC k c b v).n], .int .i64 (appI k c b)]) ∧ Below w.heap.size w w' := by
  cases hk : knownB k
  · have e : appI k c b = 1 := if_pos (.inl hk)
    have e2 : appC k c b v = zeroC := by unfold appC; rw [e]; rfl
    rw [e, e2]
    clear e e2
    unfold zeroC noV
    go_enter Try.func9, Try.ntmps9
    go_wp2_with (go_at_call 20; refine (known_walk _ _).mono ?_; rintro e w' ⟨rfl, rfl⟩)
    all_goals (refine bodyPost_ret (by simp [results, Try.results9, go_sem]) rfl ⟨rfl, ?_⟩; exact below_three _ _ _ _)
  by_cases hb1 : b < 1
  · have e : appI k c b = 1 := if_pos (.inr hb1)
    have e2 : appC k c b v = zeroC := by unfold appC; rw [e]; rfl
    rw [e, e2]
    clear e e2
    unfold zeroC noV
    go_enter Try.func9, Try.ntmps9
    go_wp2_with (go_at_call 20; refine (known_walk _ _).mono ?_; rintro e w' ⟨rfl, rfl⟩)
    all_goals (refine bodyPost_ret (by simp [results, Try.results9, go_sem]) rfl ⟨rfl, ?_⟩; exact below_three _ _ _ _)
  replace hb1 : 1 ≤ b := by omega
  by_cases h2 : b < c.n
  · have e : appI k c b = 100 := by unfold appI; rw [if_neg (by simp [hk]; omega), if_pos h2]
    have e2 : appC k c b v = zeroC := by unfold appC; rw [e]; rfl
    rw [e, e2]
    clear e e2
    unfold zeroC noV
    go_enter Try.func9, Try.ntmps9
    go_wp2_with (go_at_call 20; refine (known_walk _ _).mono ?_; rintro e w' ⟨rfl, rfl⟩)
    all_goals (refine bodyPost_ret (by simp [results, Try.results9, go_sem]) rfl ⟨rfl, ?_⟩; exact below_three _ _ _ _)
  have e : appI k c b = 0 := by unfold appI; rw [if_neg (by simp [hk]; omega), if_neg h2]
  have e2 : appC k c b v = ⟨c.k, aheadC c b, mergeV k (aheadC c b) v, b⟩ := by unfold appC; rw [e]; rfl
  rw [e, e2]
  clear e e2
  obtain ⟨P, hP⟩ : ∃ P, P = aheadC c b := ⟨_, rfl⟩
  have HPO : Hid P.ok := by show P.ok; rw [hP]; unfold aheadC; split; exact hc.2; exact hc.1
  have HVO : Hid v.ok := hv
  obtain ⟨M, hM⟩ : ∃ M, M = mergeV k P v := ⟨_, rfl⟩
  have HM : Hid (mergeV k P v = M) := hM.symm
  rw [← hP, ← hM]
  clear hM hv
  go_enter Try.func9, Try.ntmps9
  by_cases h3 : c.n < b
  · obtain rfl : P = c.c := by rw [hP]; exact if_pos h3
    clear hc hP
    go_upto_region 7 with (go_at_call 20; refine (known_walk _ _).mono ?_; rintro e w' ⟨rfl, rfl⟩)
    all_goals try (exfalso; omega)
    generalize hg : ((w.alloc (Obj.cells #[.int .u64 c.k, .bool c.c.h, .int .u64 c.c.b, .bool c.c.h, .int .u64 c.c.b, .int .i64 b] 26)).alloc (Obj.cells #[.bool v.h, .int .u64 v.b] 24)).alloc (Obj.cells #[.int .u64 0, .bool false, .int .u64 0, .bool false, .int .u64 0, .int .i64 0] 26) = w1
    obtain ⟨HA, HV, HZ, HB⟩ := three_cb (A := ⟨c.k, c.c, c.c, b⟩) (Z := zeroC) hg
    clear hg
    obtain ⟨c0, c1, c2, c3, c4, c5, zz⟩ := HA.out
    obtain ⟨v0, v1, _, _⟩ := HV.out
    go_cut [] (fun wx => CB wx w.heap.size ⟨c.k, c.c, M, b⟩ ∧ CB wx (w.heap.size + 1 + 1) zeroC ∧ Below w.heap.size w wx)
    case first =>
      go_wp2_with (go_at_call 19; refine (merge_walk k HPO.out HVO.out _).mono ?_; rw [HM.out]; rintro e w9 ⟨rfl, hB9⟩; have HA9 := HA.out.below hB9 (cell_lt HA.out.c0); obtain ⟨c0, c1, c2, c3, c4, c5, zz⟩ := HA9)
      all_goals go_meet
      all_goals exact ⟨CB.setCur (HA.out.below (by assumption) (cell_lt HA.out.c0)) M, ((HZ.out.below (by assumption) (cell_lt HZ.out.c0)).other (by simp; omega) _).other (by simp; omega) _, keep_store2 (below_trans HB.out (by assumption)) _ (Nat.le_refl _) _ _ _ _⟩
    case rest =>
      obtain ⟨hA, hZ, hB⟩ := hcut
      have HB2 : Hid (Below w.heap.size w wc) := hB
      obtain ⟨c0, c1, c2, c3, c4, c5, zz⟩ := hA
      obtain ⟨d0, d1, d2, d3, d4, d5, yy⟩ := hZ
      clear hB HA HV HZ HB
      go_wp2_with fail
      refine bodyPost_ret (by simp [results, Try.results9, go_sem, d0, d1, d2, d3, d4, d5]) rfl ⟨rfl, ?_⟩
      exact keep_cell HB2.out _ (by omega) _ _ _ _ _ _
  · obtain rfl : P = c.p := by rw [hP]; exact if_neg h3
    obtain rfl : b = c.n := by omega
    clear hc hP
    go_upto_region 7 with (go_at_call 20; refine (known_walk _ _).mono ?_; rintro e w' ⟨rfl, rfl⟩)
    all_goals try (exfalso; omega)
    generalize hg : ((w.alloc (Obj.cells #[.int .u64 c.k, .bool c.p.h, .int .u64 c.p.b, .bool c.c.h, .int .u64 c.c.b, .int .i64 c.n] 26)).alloc (Obj.cells #[.bool v.h, .int .u64 v.b] 24)).alloc (Obj.cells #[.int .u64 0, .bool false, .int .u64 0, .bool false, .int .u64 0, .int .i64 0] 26) = w1
    obtain ⟨HA, HV, HZ, HB⟩ := three_cb (A := ⟨c.k, c.p, c.c, c.n⟩) (Z := zeroC) hg
    clear hg
    obtain ⟨c0, c1, c2, c3, c4, c5, zz⟩ := HA.out
    obtain ⟨v0, v1, _, _⟩ := HV.out
    go_cut [] (fun wx => CB wx w.heap.size ⟨c.k, c.p, M, c.n⟩ ∧ CB wx (w.heap.size + 1 + 1) zeroC ∧ Below w.heap.size w wx)
    case first =>
      go_wp2_with (go_at_call 19; refine (merge_walk k HPO.out HVO.out _).mono ?_; rw [HM.out]; rintro e w9 ⟨rfl, hB9⟩; have HA9 := HA.out.below hB9 (cell_lt HA.out.c0); obtain ⟨c0, c1, c2, c3, c4, c5, zz⟩ := HA9)
      all_goals go_meet
      all_goals exact ⟨CB.setCur (HA.out.below (by assumption) (cell_lt HA.out.c0)) M, ((HZ.out.below (by assumption) (cell_lt HZ.out.c0)).other (by simp; omega) _).other (by simp; omega) _, keep_store2 (below_trans HB.out (by assumption)) _ (Nat.le_refl _) _ _ _ _⟩
    case rest =>
      obtain ⟨hA, hZ, hB⟩ := hcut
      have HB2 : Hid (Below w.heap.size w wc) := hB
      obtain ⟨c0, c1, c2, c3, c4, c5, zz⟩ := hA
      obtain ⟨d0, d1, d2, d3, d4, d5, yy⟩ := hZ
      clear hB HA HV HZ HB
      go_wp2_with fail
      refine bodyPost_ret (by simp [results, Try.results9, go_sem, d0, d1, d2, d3, d4, d5]) rfl ⟨rfl, ?_⟩
      exact keep_cell HB2.out _ (by omega) _ _ _ _ _ _
end Go.Proofs.Ytnppgeokbhecfaa
