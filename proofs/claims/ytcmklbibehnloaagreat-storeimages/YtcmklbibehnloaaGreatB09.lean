/- == of any two cells; contracts of slices.Equal at cells and at keys. -/
import Derived.Test.YtcmklbibehnloaaGreatB08
import Derived.Test.YtcmklbibehnloaaGreatB07
set_option maxRecDepth 100000
set_option maxHeartbeats 16000000
namespace Go.Proofs.YtcmklbibehnloaaGreat
open Go.RowKit
section
open Ieee Go.RowKit

theorem below_three (w : World) (o p q : Obj) : Below w.heap.size w (((w.alloc o).alloc p).alloc q) := (below_two w o p).alloc (by rw [size_alloc, size_alloc]; omega) q
theorem three_cb {w w1 : World} {A Z : Cl} {v : Vl}
  (h : ((w.alloc (Obj.cells #[.int .u64 A.k, .bool A.p.h, .int .u64 A.p.b, .bool A.c.h, .int .u64 A.c.b, .int .i64 A.n] 114)).alloc (Obj.cells #[.bool v.h, .int .u64 v.b] 53)).alloc (Obj.cells #[.int .u64 Z.k, .bool Z.p.h, .int .u64 Z.p.b, .bool Z.c.h, .int .u64 Z.c.b, .int .i64 Z.n] 114) = w1) :
  Hid (CB w1 w.heap.size A) ∧ Hid (VB w1 (w.heap.size + 1) v) ∧ Hid (CB w1 (w.heap.size + 1 + 1) Z) ∧ Hid (Below w.heap.size w w1) := by
 subst h;refine ⟨?_, ?_, ?_, below_three _ _ _ _⟩
 ·show CB _ _ _;constructor <;> simp [go_sem]
 ·show VB _ _ _;constructor <;> simp [go_sem]
 ·show CB _ _ _;constructor <;> simp [go_sem]
theorem keep_store2 {w w1 : World} (h : Below w.heap.size w w1) (b : Nat) (hb : w.heap.size ≤ b) (i j : Nat) (u v : Value) : Below w.heap.size w ((w1.setCell ⟨b, i, none⟩ u).setCell ⟨b, j, none⟩ v) := (h.setCell hb u).setCell hb v
theorem keep_cell {w w1 : World} (h : Below w.heap.size w w1) (b : Nat) (hb : w.heap.size ≤ b) (u0 u1 u2 u3 u4 u5 : Value) :
  Below w.heap.size w ((((((w1.setCell ⟨b, 0, none⟩ u0).setCell ⟨b, 1, none⟩ u1).setCell ⟨b, 2, none⟩ u2).setCell ⟨b, 3, none⟩ u3).setCell ⟨b, 4, none⟩ u4).setCell ⟨b, 5, none⟩ u5) :=
 (((((h.setCell hb u0).setCell hb u1).setCell hb u2).setCell hb u3).setCell hb u4).setCell hb u5
theorem CB.setCur {w : World} {b : Nat} {c : Cl} (h : CB w b c) (m : Vl) : CB ((w.setCell ⟨b, 3, none⟩ (.bool m.h)).setCell ⟨b, 4, none⟩ (.int .u64 m.b)) b ⟨c.k, c.p, m, c.n⟩ := by
 obtain ⟨c0, c1, c2, c3, c4, c5, z⟩ := h;constructor <;> simp [go_sem, c0, c1, c2, c3, c4, c5, z]
theorem CB.set {w : World} {b : Nat} {c : Cl} (h : CB w b c) (d : Cl) :
  CB ((((((w.setCell ⟨b, 0, none⟩ (.int .u64 d.k)).setCell ⟨b, 1, none⟩ (.bool d.p.h)).setCell ⟨b, 2, none⟩ (.int .u64 d.p.b)).setCell ⟨b, 3, none⟩ (.bool d.c.h)).setCell ⟨b, 4, none⟩ (.int .u64 d.c.b)).setCell ⟨b, 5, none⟩ (.int .i64 d.n)) b d := by
 obtain ⟨c0, c1, c2, c3, c4, c5, z⟩ := h;constructor <;> simp [go_sem, c0, c1, c2, c3, c4, c5, z]
theorem apply_walk (k : Int) {c : Cl} (hc : c.ok) (b : Int) {v : Vl} (hv : v.ok) (w : World) :
  Calls Tryz.prog 142 #[.int .i64 k, .agg #[.int .u64 c.k, .bool c.p.h, .int .u64 c.p.b, .bool c.c.h, .int .u64 c.c.b, .int .i64 c.n], .int .i64 b, .agg #[.bool v.h, .int .u64 v.b]] w fun e w' => e = .returned (.tuple #[.agg #[.int .u64 (appC k c b v).k, .bool (appC k c b v).p.h, .int .u64 (appC k c b v).p.b, .bool (appC k c b v).c.h, .int .u64 (appC k c b v).c.b, .int .i64 (appC k c b v).n], .int .i64 (appI k c b)]) ∧ Below w.heap.size w w' := by
 cases hk : knownB k
 ·have e : appI k c b = 1 := if_pos (.inl hk);have e2 : appC k c b v = zeroC := by unfold appC; rw [e]; rfl
  rw [e, e2];clear e e2;unfold zeroC noV;go_in;go_wp2_with (go_at_call 82; refine (known_walk _ _).mono ?_; rintro e w' ⟨rfl, rfl⟩);all_goals (refine bodyPost_ret (by simp [results, Tryz.results142, go_sem]) rfl ⟨rfl, ?_⟩; exact below_three _ _ _ _)
 by_cases hb1 : b < 1
 ·have e : appI k c b = 1 := if_pos (.inr hb1);have e2 : appC k c b v = zeroC := by unfold appC; rw [e]; rfl
  rw [e, e2];clear e e2;unfold zeroC noV;go_in;go_wp2_with (go_at_call 82; refine (known_walk _ _).mono ?_; rintro e w' ⟨rfl, rfl⟩);all_goals (refine bodyPost_ret (by simp [results, Tryz.results142, go_sem]) rfl ⟨rfl, ?_⟩; exact below_three _ _ _ _)
 replace hb1 : 1 ≤ b := by omega
 by_cases h2 : b < c.n
 ·have e : appI k c b = 100 := by unfold appI; rw [if_neg (by simp [hk]; omega), if_pos h2]
  have e2 : appC k c b v = zeroC := by unfold appC; rw [e]; rfl
  rw [e, e2];clear e e2;unfold zeroC noV;go_in;go_wp2_with (go_at_call 82; refine (known_walk _ _).mono ?_; rintro e w' ⟨rfl, rfl⟩);all_goals (refine bodyPost_ret (by simp [results, Tryz.results142, go_sem]) rfl ⟨rfl, ?_⟩; exact below_three _ _ _ _)
 have e : appI k c b = 0 := by unfold appI; rw [if_neg (by simp [hk]; omega), if_neg h2]
 have e2 : appC k c b v = ⟨c.k, aheadC c b, mergeV k (aheadC c b) v, b⟩ := by unfold appC; rw [e]; rfl
 rw [e, e2];clear e e2;obtain ⟨P, hP⟩ : ∃ P, P = aheadC c b := ⟨_, rfl⟩;have HPO : Hid P.ok := by show P.ok; rw [hP]; unfold aheadC; split; exact hc.2; exact hc.1
 have HVO : Hid v.ok := hv;obtain ⟨M, hM⟩ : ∃ M, M = mergeV k P v := ⟨_, rfl⟩;have HM : Hid (mergeV k P v = M) := hM.symm;rw [← hP, ← hM];clear hM hv;go_in;by_cases h3 : c.n < b
 ·obtain rfl : P = c.c := by rw [hP]; exact if_pos h3
  clear hc hP;go_upto_region 7 with (go_at_call 82; refine (known_walk _ _).mono ?_; rintro e w' ⟨rfl, rfl⟩)
  all_goals try (exfalso; omega)
  generalize hg : ((w.alloc (Obj.cells #[.int .u64 c.k, .bool c.c.h, .int .u64 c.c.b, .bool c.c.h, .int .u64 c.c.b, .int .i64 b] 114)).alloc (Obj.cells #[.bool v.h, .int .u64 v.b] 53)).alloc (Obj.cells #[.int .u64 0, .bool false, .int .u64 0, .bool false, .int .u64 0, .int .i64 0] 114) = w1;obtain ⟨HA, HV, HZ, HB⟩ := three_cb (A := ⟨c.k, c.c, c.c, b⟩) (Z := zeroC) hg;clear hg;obtain ⟨c0, c1, c2, c3, c4, c5, zz⟩ := HA.out;obtain ⟨v0, v1, _, _⟩ := HV.out;go_cut [] (fun wx => CB wx w.heap.size ⟨c.k, c.c, M, b⟩ ∧ CB wx (w.heap.size + 1 + 1) zeroC ∧ Below w.heap.size w wx)
  case first =>
   go_wp2_with (go_at_call 187; refine (merge_walk k HPO.out HVO.out _).mono ?_; rw [HM.out]; rintro e w9 ⟨rfl, hB9⟩; have HA9 := HA.out.below hB9 (cell_lt HA.out.c0); obtain ⟨c0, c1, c2, c3, c4, c5, zz⟩ := HA9);all_goals go_meet
   all_goals exact ⟨CB.setCur (HA.out.below (by assumption) (cell_lt HA.out.c0)) M, ((HZ.out.below (by assumption) (cell_lt HZ.out.c0)).other (by simp; omega) _).other (by simp; omega) _, keep_store2 (below_trans HB.out (by assumption)) _ (Nat.le_refl _) _ _ _ _⟩
  case rest =>
   obtain ⟨hA, hZ, hB⟩ := hcut;have HB2 := hidH hB;obtain ⟨c0, c1, c2, c3, c4, c5, zz⟩ := hA;obtain ⟨d0, d1, d2, d3, d4, d5, yy⟩ := hZ;clear hB HA HV HZ HB;go_wp2_with fail;refine bodyPost_ret (by simp [results, Tryz.results142, go_sem, d0, d1, d2, d3, d4, d5]) rfl ⟨rfl, ?_⟩;exact keep_cell HB2.out _ (by omega) _ _ _ _ _ _
 ·obtain rfl : P = c.p := by rw [hP]; exact if_neg h3
  obtain rfl : b = c.n := by omega
  clear hc hP;go_upto_region 7 with (go_at_call 82; refine (known_walk _ _).mono ?_; rintro e w' ⟨rfl, rfl⟩)
  all_goals try (exfalso; omega)
  generalize hg : ((w.alloc (Obj.cells #[.int .u64 c.k, .bool c.p.h, .int .u64 c.p.b, .bool c.c.h, .int .u64 c.c.b, .int .i64 c.n] 114)).alloc (Obj.cells #[.bool v.h, .int .u64 v.b] 53)).alloc (Obj.cells #[.int .u64 0, .bool false, .int .u64 0, .bool false, .int .u64 0, .int .i64 0] 114) = w1;obtain ⟨HA, HV, HZ, HB⟩ := three_cb (A := ⟨c.k, c.p, c.c, c.n⟩) (Z := zeroC) hg;clear hg;obtain ⟨c0, c1, c2, c3, c4, c5, zz⟩ := HA.out;obtain ⟨v0, v1, _, _⟩ := HV.out;go_cut [] (fun wx => CB wx w.heap.size ⟨c.k, c.p, M, c.n⟩ ∧ CB wx (w.heap.size + 1 + 1) zeroC ∧ Below w.heap.size w wx)
  case first =>
   go_wp2_with (go_at_call 187; refine (merge_walk k HPO.out HVO.out _).mono ?_; rw [HM.out]; rintro e w9 ⟨rfl, hB9⟩; have HA9 := HA.out.below hB9 (cell_lt HA.out.c0); obtain ⟨c0, c1, c2, c3, c4, c5, zz⟩ := HA9);all_goals go_meet
   all_goals exact ⟨CB.setCur (HA.out.below (by assumption) (cell_lt HA.out.c0)) M, ((HZ.out.below (by assumption) (cell_lt HZ.out.c0)).other (by simp; omega) _).other (by simp; omega) _, keep_store2 (below_trans HB.out (by assumption)) _ (Nat.le_refl _) _ _ _ _⟩
  case rest =>
   obtain ⟨hA, hZ, hB⟩ := hcut;have HB2 := hidH hB;obtain ⟨c0, c1, c2, c3, c4, c5, zz⟩ := hA;obtain ⟨d0, d1, d2, d3, d4, d5, yy⟩ := hZ;clear hB HA HV HZ HB;go_wp2_with fail;refine bodyPost_ret (by simp [results, Tryz.results142, go_sem, d0, d1, d2, d3, d4, d5]) rfl ⟨rfl, ?_⟩;exact keep_cell HB2.out _ (by omega) _ _ _ _ _ _
end
section
open Ieee Go.RowKit
end
section
open Ieee Go.RowKit

theorem eq_valN (n : Nat) (v : Vl) (w : World) : (Op.equalIn (n + 1 + 1) 53 (.agg #[.bool v.h, .int .u64 v.b]) (.agg #[.bool v.h, .int .u64 v.b])).run Tryz.prog w = .ok true w := by
 have u0 := Tryz.underlying4;have u1 := Tryz.underlying37;have a0 := Tryz.isAgg4;have a1 := Tryz.isAgg37;have z0 := Tryz.sizeOf4;have z1 := Tryz.sizeOf37;have hS : Tryz.prog.underlying 53 = some (.struct (Tryz.prog.fieldsOf 53)) := by kernel_rfl
 have hp : Tryz.prog.stoodInHeld 53 = false := by kernel_rfl
 rw [run_equalIn_agg w (n + 1) 53 _ _ hS hp];simp only [Program.fieldsOf, Tryz.underlying53];go_simp
theorem eq_cell (c : Cl) (w : World) : (Op.equalIn 10000 114 (.agg #[.int .u64 c.k, .bool c.p.h, .int .u64 c.p.b, .bool c.c.h, .int .u64 c.c.b, .int .i64 c.n]) (.agg #[.int .u64 c.k, .bool c.p.h, .int .u64 c.p.b, .bool c.c.h, .int .u64 c.c.b, .int .i64 c.n])).run Tryz.prog w = .ok true w := by
 have u1 := Tryz.underlying37;have u3 := Tryz.underlying3;have a1 := Tryz.isAgg37;have a2 := Tryz.isAgg53;have a3 := Tryz.isAgg3;have z1 := Tryz.sizeOf37;have z2 := Tryz.sizeOf53;have z3 := Tryz.sizeOf3;have hv : ∀ w, (Op.equalIn 9999 53 (.agg #[.bool c.p.h, .int .u64 c.p.b]) (.agg #[.bool c.p.h, .int .u64 c.p.b])).run Tryz.prog w = .ok true w := eq_valN 9997 c.p;have hu : ∀ w, (Op.equalIn 9999 53 (.agg #[.bool c.c.h, .int .u64 c.c.b]) (.agg #[.bool c.c.h, .int .u64 c.c.b])).run Tryz.prog w = .ok true w := eq_valN 9997 c.c;have hS : Tryz.prog.underlying 114 = some (.struct (Tryz.prog.fieldsOf 114)) := by kernel_rfl
 have hp : Tryz.prog.stoodInHeld 114 = false := by kernel_rfl
 rw [show (10000 : Nat) = 9999 + 1 from rfl, run_equalIn_agg w 9999 114 _ _ hS hp];simp only [Program.fieldsOf, Tryz.underlying114];go_simp
theorem neq_cell (c : Cl) (w : World) : (binOp .neq 114 (.agg #[.int .u64 c.k, .bool c.p.h, .int .u64 c.p.b, .bool c.c.h, .int .u64 c.c.b, .int .i64 c.n]) (.agg #[.int .u64 c.k, .bool c.p.h, .int .u64 c.p.b, .bool c.c.h, .int .u64 c.c.b, .int .i64 c.n])).run Tryz.prog w = .ok (.bool false) w := by
 rw [run_neq_struct, eq_cell]; rfl
end
section
open Ieee Go.RowKit

def Gl {α : Type} (w : World) (ao : Option Addr) (n : Nat) (f : α → List Value) (l : List α) : Prop :=
 ∀ i, (h : i < l.length) → ∃ b off, ao = some ⟨b, off, none⟩ ∧ ∀ j, j < n → w.cell? ⟨b, off + (i * n + j), none⟩ = (f l[i])[j]?
def Gv {α : Type} (w : World) (v : Value) (n : Nat) (f : α → List Value) (l : List α) : Prop :=
 ∃ ao cap, v = .slice ao l.length cap ∧ l.length ≤ cap ∧ cap ≤ maxLen ∧ (ao = none → cap = 0) ∧ Gl w ao n f l
theorem Gl.below {α : Type} {w w' : World} {ao : Option Addr} {n : Nat} {f : α → List Value} {l : List α} (hf : ∀ a, (f a).length = n) (h : Gl w ao n f l) (hb : Below w.heap.size w w') : Gl w' ao n f l := by
 intro i hi;obtain ⟨b, off, e, hc⟩ := h i hi;refine ⟨b, off, e, fun j hj => ?_⟩;have h1 := hc j hj;have h2 : (f l[i])[j]? = some ((f l[i])[j]'(by rw [hf]; exact hj)) := List.getElem?_eq_getElem _;rw [h2] at h1 ⊢;rw [hb.cell (p := ⟨b, off + (i * n + j), none⟩) (cell_lt h1)];exact h1
structure At where
 a : Int
 b : Int
 v : Vl
structure Ro where
 p : Vl
 w : Vl
 f : Bool
 m : Bool
end
def clF (c : Cl) : List Value := [.int .u64 c.k, .bool c.p.h, .int .u64 c.p.b, .bool c.c.h, .int .u64 c.c.b, .int .i64 c.n]
def flatC (l : List Cl) : List Value := l.flatMap clF
theorem clF_len (c : Cl) : (clF c).length = 6 := rfl
theorem flatC_len (l : List Cl) : (flatC l).length = l.length * 6 := by
 induction l with
 | nil => rfl
 | cons c r ih => simp only [flatC, List.flatMap_cons, List.length_append, List.length_cons] at ih ⊢; rw [ih, clF_len]; omega
theorem flatC_append (l r : List Cl) : flatC (l ++ r) = flatC l ++ flatC r := by simp [flatC]
theorem flatC_one (c : Cl) : flatC [c] = clF c := by simp [flatC]
theorem flatC_get (l : List Cl) (i j : Nat) (hi : i < l.length) (hj : j < 6) : (flatC l)[i * 6 + j]? = (clF l[i])[j]? := by
 induction l generalizing i with
 | nil => simp at hi
 | cons c r ih =>
  have e : flatC (c :: r) = clF c ++ flatC r := rfl;rw [e]
  cases i with
  | zero => rw [List.getElem?_append_left (by rw [clF_len]; omega)]; simp
  | succ i =>
   rw [List.getElem?_append_right (by rw [clF_len]; omega), clF_len, show (i + 1) * 6 + j - 6 = i * 6 + j from by omega, ih i (by simpa using hi)];simp
theorem flatC_one' {l : List Cl} {u : Value} (h : u ∈ flatC l) : u.oneCell' = true := by
 simp only [flatC, List.mem_flatMap] at h;obtain ⟨c, _, hu⟩ := h;simp only [clF, List.mem_cons, List.not_mem_nil, or_false] at hu;rcases hu with rfl | rfl | rfl | rfl | rfl | rfl <;> rfl
abbrev Cv (w : World) (v : Value) (l : List Cl) : Prop := Gv w v 6 clF l
theorem Cv.below {w w' : World} {v : Value} {l : List Cl} (h : Cv w v l) (hb : Below w.heap.size w w') : Cv w' v l := by
 obtain ⟨ao, cap, e, h1, h2, h3, h4⟩ := h;exact ⟨ao, cap, e, h1, h2, h3, h4.below clF_len hb⟩
theorem Cv.form {w : World} {v : Value} {l : List Cl} (h : Cv w v l) : ∃ ao cap, v = .slice ao l.length cap := by
 obtain ⟨ao, cap, e, _⟩ := h; exact ⟨ao, cap, e⟩
theorem Cv.nil (w : World) : Cv w (.slice none 0 0) [] := ⟨none, 0, rfl, by simp, by simp [maxLen], by simp, fun i hi => by simp at hi⟩
theorem Cv.len_le {w : World} {v : Value} {l : List Cl} (h : Cv w v l) : l.length ≤ maxLen := by
 obtain ⟨ao, cap, e, h1, h2, _⟩ := h; omega
structure CA (w : World) (b o : Nat) (c : Cl) : Prop where
 c0 : w.cell? ⟨b, o, none⟩ = some (.int .u64 c.k)
 c1 : w.cell? ⟨b, o + 1, none⟩ = some (.bool c.p.h)
 c2 : w.cell? ⟨b, o + 2, none⟩ = some (.int .u64 c.p.b)
 c3 : w.cell? ⟨b, o + 3, none⟩ = some (.bool c.c.h)
 c4 : w.cell? ⟨b, o + 4, none⟩ = some (.int .u64 c.c.b)
 c5 : w.cell? ⟨b, o + 5, none⟩ = some (.int .i64 c.n)
theorem CA.below {w w' : World} {b o B : Nat} {c : Cl} (h : CA w b o c) (hb : Below B w w') (hl : b < B) : CA w' b o c :=
 ⟨by rw [hb.cell (p := ⟨b, o, none⟩) hl]; exact h.c0, by rw [hb.cell (p := ⟨b, o + 1, none⟩) hl]; exact h.c1, by rw [hb.cell (p := ⟨b, o + 2, none⟩) hl]; exact h.c2, by rw [hb.cell (p := ⟨b, o + 3, none⟩) hl]; exact h.c3, by rw [hb.cell (p := ⟨b, o + 4, none⟩) hl]; exact h.c4, by rw [hb.cell (p := ⟨b, o + 5, none⟩) hl]; exact h.c5⟩
theorem CA.lt {w : World} {b o : Nat} {c : Cl} (h : CA w b o c) : b < w.heap.size := cell_lt h.c0
theorem CA.keep {w w' : World} {b o : Nat} {c : Cl} (h : CA w b o c) (hb : Below w.heap.size w w') : CA w' b o c := h.below hb h.lt
theorem cv_cases {w : World} {v : Value} {l : List Cl} (h : Cv w v l) :
  (l = [] ∧ ∃ ao cap, v = .slice ao 0 cap) ∨ ∃ b off cap, v = .slice (some ⟨b, off, none⟩) l.length cap ∧ 0 < l.length ∧ l.length ≤ cap ∧ cap ≤ maxLen ∧
   ∀ i, (hi : i < l.length) → CA w b (off + i * 6) l[i] := by
 obtain ⟨ao, cap, rfl, h1, h2, h3, h4⟩ := h;by_cases h0 : l = []
 ·subst h0; exact .inl ⟨rfl, ao, cap, rfl⟩
 ·have hp := List.length_pos_iff.2 h0;obtain ⟨b, off, rfl, _⟩ := h4 0 hp;refine .inr ⟨b, off, cap, rfl, hp, h1, h2, fun i hi => ?_⟩;obtain ⟨b', off', e1, e2⟩ := h4 i hi
  cases e1
  exact ⟨by simpa [clF, Nat.add_assoc] using e2 0 (by omega), by simpa [clF, Nat.add_assoc] using e2 1 (by omega), by simpa [clF, Nat.add_assoc] using e2 2 (by omega), by simpa [clF, Nat.add_assoc] using e2 3 (by omega), by simpa [clF, Nat.add_assoc] using e2 4 (by omega), by simpa [clF, Nat.add_assoc] using e2 5 (by omega)⟩
theorem cv_of {w : World} {b off cap : Nat} {l : List Cl} (h1 : l.length ≤ cap) (h2 : cap ≤ maxLen) (h : ∀ i, (hi : i < l.length) → CA w b (off + i * 6) l[i]) : Cv w (.slice (some ⟨b, off, none⟩) l.length cap) l := by
 refine ⟨_, cap, rfl, h1, h2, by simp, fun i hi => ⟨b, off, rfl, fun j hj => ?_⟩⟩;obtain ⟨c0, c1, c2, c3, c4, c5⟩ := h i hi;have : j = 0 ∨ j = 1 ∨ j = 2 ∨ j = 3 ∨ j = 4 ∨ j = 5 := by omega
 rcases this with rfl | rfl | rfl | rfl | rfl | rfl
 ·simpa [clF, Nat.add_assoc] using c0
 ·simpa [clF, Nat.add_assoc] using c1
 ·simpa [clF, Nat.add_assoc] using c2
 ·simpa [clF, Nat.add_assoc] using c3
 ·simpa [clF, Nat.add_assoc] using c4
 ·simpa [clF, Nat.add_assoc] using c5
theorem Cv.at {w : World} {b off n cap : Nat} {l : List Cl} (h : Cv w (.slice (some ⟨b, off, none⟩) n cap) l) (i : Nat) (hi : i < l.length) : CA w b (off + i * 6) l[i] := by
 rcases cv_cases h with ⟨rfl, _⟩ | ⟨b', off', cap', e, _, _, _, h4⟩
 ·simp at hi
 ·cases e; exact h4 i hi
theorem own_cv {w : World} {base e n : Nat} {v : Value} {l : List Cl} (h : w.ownsRow base e 6 v n (flatC l)) : Cv w v l ∧ n = l.length := by
 obtain ⟨h1, h2⟩ := h;rw [flatC_len] at h1;have hn : n = l.length := by omega
 subst hn;refine ⟨?_, rfl⟩;rcases h2 with ⟨rfl, h0⟩ | ⟨g, cap, cur, rfl, hb, hg, hnc, hcm, hcs, htake⟩
 ·have : l = [] := List.eq_nil_of_length_eq_zero h0;subst this;exact Cv.nil w
 ·refine ⟨_, cap, rfl, hnc, hcm, by simp, fun i hi => ⟨g, 0, rfl, fun j hj => ?_⟩⟩;rw [Nat.zero_add, cell_of_row w g (i * 6 + j) cur e (0, 0) hg, ← flatC_get l i j hi hj, ← htake, List.getElem?_take, if_pos (by omega), Array.getElem?_toList]
theorem cap_cut {cap lo : Nat} {c : Prop} [Decidable c] (hc : c ↔ cap = lo) {ao : Option Addr} (h3 : ao = none → cap = 0) (hn : (if c then ao else ao.map (·.add (lo * 6))) = none) : cap - lo = 0 := by
 by_cases hcc : c
 ·have := hc.1 hcc; omega
 ·rw [if_neg hcc] at hn
  cases ao with
  | none => have := h3 rfl; omega
  | some p => simp at hn
theorem Cv.cut {w : World} {ao : Option Addr} {cap : Nat} {l : List Cl} (h : Cv w (.slice ao l.length cap) l) (lo hi : Nat) (hlh : lo ≤ hi) (hh : hi ≤ l.length) (c : Prop) [Decidable c] (hc : c ↔ cap = lo) :
  Cv w (.slice (if c then ao else ao.map (·.add (lo * 6))) (hi - lo) (cap - lo)) ((l.drop lo).take (hi - lo)) := by
 obtain ⟨ao', cap', e, h1, h2, h3, h4⟩ := h;simp only [Value.slice.injEq] at e;obtain ⟨rfl, _, rfl⟩ := e;refine ⟨if c then ao else ao.map (·.add (lo * 6)), cap - lo, ?_, ?_, by omega, cap_cut hc h3, ?_⟩
 ·simp; omega
 ·simp; omega
 ·intro i hi';have hlt : i < hi - lo := by simp at hi'; omega
  obtain ⟨b, off, e, hcell⟩ := h4 (lo + i) (by omega);subst e;refine ⟨b, off + lo * 6, ?_, fun j hj => ?_⟩
  ·rw [if_neg (fun hcc => by have := hc.1 hcc; omega)]; simp [WideShapes.add_plain]
  ·have := hcell j hj;rw [show off + lo * 6 + (i * 6 + j) = off + ((lo + i) * 6 + j) from by omega, this];simp
theorem Cv.upto {w : World} {ao : Option Addr} {n cap : Nat} {l : List Cl} (h : Cv w (.slice ao n cap) l) (hi : Nat) (hh : hi ≤ l.length) : Cv w (.slice ao hi cap) (l.take hi) := by
 obtain ⟨ao', cap', e, h1, h2, h3, h4⟩ := h;simp only [Value.slice.injEq] at e;obtain ⟨rfl, _, rfl⟩ := e;refine ⟨ao, cap, by simp; omega, by simp; omega, h2, h3, fun i hi' => ?_⟩;have hlt : i < hi := by simp at hi'; omega
 obtain ⟨b, off, e, hcell⟩ := h4 i (by omega);exact ⟨b, off, e, fun j hj => by rw [hcell j hj]; simp⟩
theorem Cv.from {w : World} {ao : Option Addr} {cap : Nat} {l : List Cl} (h : Cv w (.slice ao l.length cap) l) (lo : Nat) (hlo : lo ≤ l.length) (hne : ¬ cap = lo) : Cv w (.slice (ao.map (·.add (lo * 6))) (l.length - lo) (cap - lo)) (l.drop lo) := by
 have := h.cut lo l.length hlo (Nat.le_refl _) False (by simp [hne]);rw [List.take_of_length_le (by rw [List.length_drop]; omega)] at this;simpa using this
theorem Cv.void {w : World} {ao : Option Addr} {l : List Cl} {lo : Nat} (h : l.length ≤ lo) : Cv w (.slice ao 0 0) (l.drop lo) := by
 rw [List.drop_eq_nil_of_le h];exact ⟨ao, 0, rfl, by simp, by simp [maxLen], by simp, fun i hi => by simp at hi⟩
theorem info_cell : (Tryz.prog.info? 114).map (fun i => (i.zero, i.size, i.bytes)) = some (some (.agg #[.int .u64 0, .bool false, .int .u64 0, .bool false, .int .u64 0, .int .i64 0]), 6, 48) := by kernel_rfl
theorem info_partsVB {P : Program} {e : TypeId} {z : Option Value} {s b : Nat} (h : (P.info? e).map (fun i => (i.zero, i.size, i.bytes)) = some (z, s, b)) : ∃ i, P.info? e = some i ∧ i.zero = z ∧ i.size = s ∧ i.bytes = b := by
 cases hi : P.info? e with
 | none => rw [hi] at h; cases h
 | some i =>
  rw [hi] at h;simp at h;exact ⟨i, rfl, h.1, h.2.1, h.2.2⟩
theorem cells_at {w : World} {b off : Nat} {l : List Cl} (h : ∀ i, (hi : i < l.length) → ∀ j, j < 6 → w.cell? ⟨b, off + (i * 6 + j), none⟩ = (clF l[i])[j]?) (j : Nat) (u : Value) (hj : (flatC l)[j]? = some u) : w.cell? ((⟨b, off, none⟩ : Addr).add j) = some u := by
 have hl : j < l.length * 6 := by
  rcases Nat.lt_or_ge j (flatC l).length with h | h
  ·rwa [flatC_len] at h
  ·rw [List.getElem?_eq_none h] at hj; cases hj
 have e : j = j / 6 * 6 + j % 6 := by omega
 have hi : j / 6 < l.length := by omega
 rw [WideShapes.add_plain];show w.cell? ⟨b, off + j, none⟩ = some u;rw [e, h _ hi _ (by omega), ← flatC_get l _ _ hi (by omega), ← e, hj]
theorem wpList_append_cv {w : World} {ops : Array Oper} {rest : List Oper} {o : Oper} {a : Act} {Q : Exit → Act → World → Prop} (hgd : o.guard = none) (s x : Operand)
  (ho : o.op = .call { callee := .builtin .append, args := #[s, x], argTypes := #[68, 68] })
  (base : Nat) (v : Value) (n : Nat) (xs : List Value) (hs : a.eval s = v) (hown : w.ownsRow base 114 6 v n xs)
  (y : Value) (l : List Cl) (hx : a.eval x = y) (hy : Cv w y l)
  (h63 : n + l.length ≤ maxLen) (hbytes : (n + l.length) * 48 ≤ 140737488355328) (hbase : base ≤ w.heap.size)
  (h : ∀ v' w', w'.ownsRow base 114 6 v' (n + l.length) (xs ++ flatC l) → w.grownBy w' v.ownBlock → wpList Tryz.prog ops Q rest (a.put o.dst v') w') : wpList Tryz.prog ops Q (o :: rest) a w := by
 obtain ⟨i0, hi, hz0, hz1, hz2⟩ := info_partsVB info_cell;obtain ⟨ao, cap, rfl, hc1, hc2, hnone, hcells⟩ := hy
 cases ao with
 | none =>
  obtain rfl := hnone rfl;have hl0 : l.length = 0 := by omega
  have hl : l = [] := List.eq_nil_of_length_eq_zero hl0;subst hl;refine wpList_append_own_none hgd s x 68 ho base 114 i0 6 Tryz.underlying68 hi v n xs hs hown hx ?_;exact h v w (by simpa [flatC] using hown) ⟨rfl, rfl, rfl, Nat.le_refl _, fun _ _ _ => rfl⟩
 | some p =>
  refine wpList_append_own w hgd s x 68 ho base 114 i0 (.agg #[.int .u64 0, .bool false, .int .u64 0, .bool false, .int .u64 0, .int .i64 0]) 6 48 Tryz.underlying68 hi hz0 hz1 hz2 rfl (by decide) v n xs hs hown p l.length cap (flatC l) hx (flatC_len l) ?_ (fun u hu => flatC_one' hu) h63 hbytes hbase
   (fun v' w' h1 h2 _ => h v' w' h1 h2)
  by_cases h0 : l = []
  ·subst h0; intro j u hj; simp [flatC] at hj
  ·obtain ⟨b, off, e, _⟩ := hcells 0 (List.length_pos_iff.2 h0)
   cases e
   exact fun j u hj => cells_at (fun i hi j hj => by obtain ⟨b', off', e1, e2⟩ := hcells i hi; cases e1; exact e2 j hj) j u hj
theorem grown_belowC {B : Nat} {w w' : World} {v : Value} {e n s : Nat} {xs : List Value} (hown : w.ownsRow B e s v n xs) (hg : w.grownBy w' v.ownBlock) (hB : B ≤ w.heap.size) : Below B w w' :=
 (Below.refl B w).grown hg hB (fun k hk => (hown.lt k hk).1)
theorem CB.keep {w w' : World} {b : Nat} {c : Cl} (h : CB w b c) (hb : Below w.heap.size w w') : CB w' b c := h.below hb (cell_lt h.c0)
section
open Ieee Go.RowKit

theorem eq_valX (n : Nat) (v u : Vl) (h : v ≠ u) (w : World) : (Op.equalIn (n + 1 + 1) 53 (.agg #[.bool v.h, .int .u64 v.b]) (.agg #[.bool u.h, .int .u64 u.b])).run Tryz.prog w = .ok false w := by
 have u0 := Tryz.underlying4;have u1 := Tryz.underlying37;have a0 := Tryz.isAgg4;have a1 := Tryz.isAgg37;have z0 := Tryz.sizeOf4;have z1 := Tryz.sizeOf37;have hS : Tryz.prog.underlying 53 = some (.struct (Tryz.prog.fieldsOf 53)) := by kernel_rfl
 have hp : Tryz.prog.stoodInHeld 53 = false := by kernel_rfl
 rw [run_equalIn_agg w (n + 1) 53 _ _ hS hp];simp only [Program.fieldsOf, Tryz.underlying53];obtain ⟨vh, vb⟩ := v;obtain ⟨uh, ub⟩ := u;by_cases h1 : vh = uh
 ·subst h1;have h2 : vb ≠ ub := fun e => h (by rw [e]);have h3 : ((vb : Int) == (ub : Int)) = false := by rw [beq_eq_false_iff_ne]; omega
  go_simp
 ·have h3 : (vh == uh) = false := by rw [beq_eq_false_iff_ne]; exact h1
  go_simp
theorem eq_cellX (c d : Cl) (h : c ≠ d) (w : World) : (Op.equalIn 10000 114 (.agg #[.int .u64 c.k, .bool c.p.h, .int .u64 c.p.b, .bool c.c.h, .int .u64 c.c.b, .int .i64 c.n]) (.agg #[.int .u64 d.k, .bool d.p.h, .int .u64 d.p.b, .bool d.c.h, .int .u64 d.c.b, .int .i64 d.n])).run Tryz.prog w = .ok false w := by
 have u1 := Tryz.underlying37;have u3 := Tryz.underlying3;have a1 := Tryz.isAgg37;have a2 := Tryz.isAgg53;have a3 := Tryz.isAgg3;have z1 := Tryz.sizeOf37;have z2 := Tryz.sizeOf53;have z3 := Tryz.sizeOf3;have hS : Tryz.prog.underlying 114 = some (.struct (Tryz.prog.fieldsOf 114)) := by kernel_rfl
 have hp : Tryz.prog.stoodInHeld 114 = false := by kernel_rfl
 rw [show (10000 : Nat) = 9999 + 1 from rfl, run_equalIn_agg w 9999 114 _ _ hS hp];simp only [Program.fieldsOf, Tryz.underlying114];obtain ⟨ck, cp, cc, cn⟩ := c;obtain ⟨dk, dp, dc, dn⟩ := d;by_cases h1 : ck = dk
 ·subst h1;by_cases h2 : cp = dp
  ·subst h2;have hv : ∀ w, (Op.equalIn 9999 53 (.agg #[.bool cp.h, .int .u64 cp.b]) (.agg #[.bool cp.h, .int .u64 cp.b])).run Tryz.prog w = .ok true w := eq_valN 9997 cp;by_cases h3 : cc = dc
   ·subst h3;have hu : ∀ w, (Op.equalIn 9999 53 (.agg #[.bool cc.h, .int .u64 cc.b]) (.agg #[.bool cc.h, .int .u64 cc.b])).run Tryz.prog w = .ok true w := eq_valN 9997 cc;have h4 : cn ≠ dn := fun e => h (by rw [e]);have h5 : (cn == dn) = false := by rw [beq_eq_false_iff_ne]; exact h4
    go_simp
   ·have hu : ∀ w, (Op.equalIn 9999 53 (.agg #[.bool cc.h, .int .u64 cc.b]) (.agg #[.bool dc.h, .int .u64 dc.b])).run Tryz.prog w = .ok false w := eq_valX 9997 cc dc h3;go_simp
  ·have hv : ∀ w, (Op.equalIn 9999 53 (.agg #[.bool cp.h, .int .u64 cp.b]) (.agg #[.bool dp.h, .int .u64 dp.b])).run Tryz.prog w = .ok false w := eq_valX 9997 cp dp h2;go_simp
 ·have h5 : ((ck : Int) == (dk : Int)) = false := by rw [beq_eq_false_iff_ne]; omega
  go_simp
theorem neq_cellX (c d : Cl) (h : c ≠ d) (w : World) : (binOp .neq 114 (.agg #[.int .u64 c.k, .bool c.p.h, .int .u64 c.p.b, .bool c.c.h, .int .u64 c.c.b, .int .i64 c.n]) (.agg #[.int .u64 d.k, .bool d.p.h, .int .u64 d.p.b, .bool d.c.h, .int .u64 d.c.b, .int .i64 d.n])).run Tryz.prog w = .ok (.bool true) w := by
 rw [run_neq_struct, eq_cellX c d h]; rfl
theorem neq_valX (v u : Vl) (h : v ≠ u) (w : World) : (binOp .neq 53 (.agg #[.bool v.h, .int .u64 v.b]) (.agg #[.bool u.h, .int .u64 u.b])).run Tryz.prog w = .ok (.bool true) w := by
 rw [run_neq_struct, show (10000 : Nat) = 9998 + 1 + 1 from rfl, eq_valX 9998 v u h]; rfl
def EqGot {α : Type} (l m : List α) (w : World) (e : Ending) (w' : World) : Prop := (∃ t, e = .returned (.bool t) ∧ (t = true ↔ l = m)) ∧ Below w.heap.size w w'
theorem eqgot_no {α : Type} {l m : List α} {w w' : World} (h : l ≠ m) (hb : Below w.heap.size w w') : EqGot l m w (.returned (.bool false)) w' := ⟨⟨false, rfl, by simp; exact h⟩, hb⟩
theorem eqgot_yes {α : Type} {l m : List α} {w w' : World} (h : l = m) (hb : Below w.heap.size w w') : EqGot l m w (.returned (.bool true)) w' := ⟨⟨true, rfl, by simp; exact h⟩, hb⟩
theorem sequal_walk {w : World} {u v : Value} {l m : List Cl} (hu : Cv w u l) (hv : Cv w v m) :
  Calls Tryz.prog 144 #[u, v] w (EqGot l m w) := by
 have HU : Hid (Cv w u l) := hu;have HV : Hid (Cv w v m) := hv;obtain ⟨ua, uc, rfl⟩ := hu.form;obtain ⟨va, vc, rfl⟩ := hv.form;have hlm := hu.len_le;unfold maxLen at hlm;clear hu hv;by_cases hln : l.length = m.length;rotate_left
 ·have hb : ((l.length : Int) != (m.length : Int)) = true := by rw [bne_iff_ne]; omega
  have HNE : Hid (l ≠ m) := fun e => hln (by rw [e]);clear hln hlm;generalize l.length = n at hb;generalize m.length = q at hb;go_in;go_wp2_with fail;go_ret;exact eqgot_no HNE.out (Below.refl _ _)
 ·rw [← hln] at HV ⊢;obtain ⟨n, hn⟩ : ∃ n, n = l.length := ⟨_, rfl⟩;rw [← hn] at HU HV ⊢;have HN : Hid (n = l.length) := hn;have HM : Hid (n = m.length) := hn.trans hln;have hni : (n : Int) ≤ 9223372036854775807 := by omega
  have hb : ((n : Int) != (n : Int)) = false := by simp
  clear hn hln hlm;go_in;go_wp2_with fail;go_loopw [13] (fun iv wr => ∃ i : Nat, iv = .int .i64 i ∧ i ≤ n ∧ (∀ j, (h1 : j < l.length) → (h2 : j < m.length) → j < i → l[j] = m[j]) ∧ Below w.heap.size w wr) (fun iv _ => n - (intOf iv).toNat)
  case atStart => exact ⟨0, rfl, by omega, fun j _ _ h => by omega, Below.refl _ _⟩
  case round =>
   obtain ⟨i, rfl, hi, hall, hB⟩ := hrel;have HA : Hid (∀ j, (h1 : j < l.length) → (h2 : j < m.length) → j < i → l[j] = m[j]) := hall;have HB := hidH hB;clear hall hB;by_cases hlt : i < n
   ·have hlti : (i : Int) < (n : Int) := by omega
    have hltd : decide (i < n) = true := decide_eq_true hlt;have h1 : i < l.length := by have := HN.out; omega
    have h2 : i < m.length := by have := HM.out; omega
    rcases cv_cases (HU.out.below HB.out) with ⟨h0, _⟩ | ⟨b1, o1, c1, e1, _, _, _, k1⟩
    ·rw [h0] at h1; simp at h1
    rcases cv_cases (HV.out.below HB.out) with ⟨h0, _⟩ | ⟨b2, o2, c2, e2, _, _, _, k2⟩
    ·rw [h0] at h2; simp at h2
    simp only [Value.slice.injEq] at e1 e2;have e11 := e1.1;have e21 := e2.1;clear e1 e2;subst e11 e21;obtain ⟨x0, x1, x2, x3, x4, x5⟩ := k1 i h1;obtain ⟨y0, y1, y2, y3, y4, y5⟩ := k2 i h2;obtain ⟨c, hc⟩ : ∃ c, c = l[i] := ⟨_, rfl⟩;obtain ⟨d, hd⟩ : ∃ d, d = m[i] := ⟨_, rfl⟩;rw [← hc] at x0 x1 x2 x3 x4 x5;rw [← hd] at y0 y1 y2 y3 y4 y5;have X0 : ∀ q, (wr.drewN q).cell? ⟨b1, o1 + i * 6, none⟩ = some (.int .u64 c.k) := fun _ => x0;have X1 : ∀ q, (wr.drewN q).cell? ⟨b1, o1 + i * 6 + 1, none⟩ = some (.bool c.p.h) := fun _ => x1;have X2 : ∀ q, (wr.drewN q).cell? ⟨b1, o1 + i * 6 + 2, none⟩ = some (.int .u64 c.p.b) := fun _ => x2;have X3 : ∀ q, (wr.drewN q).cell? ⟨b1, o1 + i * 6 + 3, none⟩ = some (.bool c.c.h) := fun _ => x3;have X4 : ∀ q, (wr.drewN q).cell? ⟨b1, o1 + i * 6 + 4, none⟩ = some (.int .u64 c.c.b) := fun _ => x4;have X5 : ∀ q, (wr.drewN q).cell? ⟨b1, o1 + i * 6 + 5, none⟩ = some (.int .i64 c.n) := fun _ => x5;have Y0 : ∀ q, (wr.drewN q).cell? ⟨b2, o2 + i * 6, none⟩ = some (.int .u64 d.k) := fun _ => y0;have Y1 : ∀ q, (wr.drewN q).cell? ⟨b2, o2 + i * 6 + 1, none⟩ = some (.bool d.p.h) := fun _ => y1;have Y2 : ∀ q, (wr.drewN q).cell? ⟨b2, o2 + i * 6 + 2, none⟩ = some (.int .u64 d.p.b) := fun _ => y2;have Y3 : ∀ q, (wr.drewN q).cell? ⟨b2, o2 + i * 6 + 3, none⟩ = some (.bool d.c.h) := fun _ => y3;have Y4 : ∀ q, (wr.drewN q).cell? ⟨b2, o2 + i * 6 + 4, none⟩ = some (.int .u64 d.c.b) := fun _ => y4;have Y5 : ∀ q, (wr.drewN q).cell? ⟨b2, o2 + i * 6 + 5, none⟩ = some (.int .i64 d.n) := fun _ => y5;have HCD : Hid (c = l[i] ∧ d = m[i]) := ⟨hc, hd⟩;have hg := guard_cell;clear k1 k2 x0 x1 x2 x3 x4 x5 y0 y1 y2 y3 y4 y5 hc hd;by_cases hcd : c = d
    ·have HNX : Hid (∀ j, (h1 : j < l.length) → (h2 : j < m.length) → j < i + 1 → l[j] = m[j]) := fun j k1 k2 hj => by
      rcases Nat.lt_or_ge j i with q | q
      ·exact HA.out j k1 k2 q
      ·obtain rfl : j = i := by omega
       rw [← HCD.out.1, ← HCD.out.2]; exact hcd
     subst hcd;have hq := neq_cell c;go_wp2_with fail;go_quiet (fail);have HB9 : Hid (Below w.heap.size w (wr.drewN nq)) := below_trans HB.out (below_drewN _ _);go_wp2_with fail;go_roundw
     case rel => exact ⟨i + 1, by go_num, hlt, HNX.out, HB9.out⟩
     case measure => simp [intOf]; omega
    ·have hq := neq_cellX c d hcd
     have HNE : Hid (l ≠ m) := fun e => by
      subst e;exact hcd (HCD.out.1.trans HCD.out.2.symm)
     clear hcd;go_wp2_with fail;go_quiet (fail);have HB9 : Hid (Below w.heap.size w (wr.drewN nq)) := below_trans HB.out (below_drewN _ _);go_wp2_with fail;go_ret;exact eqgot_no HNE.out HB9.out
   ·have hlti : ¬ (i : Int) < (n : Int) := by omega
    have HE : Hid (l = m) := List.ext_getElem (by rw [← HN.out, ← HM.out]) (fun j k1 k2 => HA.out j k1 k2 (by have := HN.out; omega));go_wp2_with fail;go_ret;exact eqgot_yes HE.out HB.out
theorem kequal_walk {w : World} {u v : Value} {l m : List Nat} (hu : Kv w u l) (hv : Kv w v m) :
  Calls Tryz.prog 71 #[u, v] w (EqGot l m w) := by
 have HU : Hid (Kv w u l) := hu;have HV : Hid (Kv w v m) := hv;obtain ⟨ua, uc, rfl, hlm1, hlm2⟩ := kv_form hu;obtain ⟨va, vc, rfl, _, _⟩ := kv_form hv;have hlm : l.length ≤ maxLen := Nat.le_trans hlm1 hlm2;clear hlm1 hlm2;unfold maxLen at hlm;clear hu hv;by_cases hln : l.length = m.length;rotate_left
 ·have hb : ((l.length : Int) != (m.length : Int)) = true := by rw [bne_iff_ne]; omega
  have HNE : Hid (l ≠ m) := fun e => hln (by rw [e]);clear hln hlm;generalize l.length = n at hb;generalize m.length = q at hb;go_in;go_wp2_with fail;go_ret;exact eqgot_no HNE.out (Below.refl _ _)
 ·rw [← hln] at HV ⊢;obtain ⟨n, hn⟩ : ∃ n, n = l.length := ⟨_, rfl⟩;rw [← hn] at HU HV ⊢;have HN : Hid (n = l.length) := hn;have HM : Hid (n = m.length) := hn.trans hln;have hni : (n : Int) ≤ 9223372036854775807 := by omega
  have hb : ((n : Int) != (n : Int)) = false := by simp
  clear hn hln hlm;go_in;go_wp2_with fail;go_loopw [13] (fun iv wr => ∃ i : Nat, iv = .int .i64 i ∧ i ≤ n ∧ (∀ j, (h1 : j < l.length) → (h2 : j < m.length) → j < i → l[j] = m[j]) ∧ Below w.heap.size w wr) (fun iv _ => n - (intOf iv).toNat)
  case atStart => exact ⟨0, rfl, by omega, fun j _ _ h => by omega, Below.refl _ _⟩
  case round =>
   obtain ⟨i, rfl, hi, hall, hB⟩ := hrel;have HA : Hid (∀ j, (h1 : j < l.length) → (h2 : j < m.length) → j < i → l[j] = m[j]) := hall;have HB := hidH hB;clear hall hB;by_cases hlt : i < n
   ·have hlti : (i : Int) < (n : Int) := by omega
    have hltd : decide (i < n) = true := decide_eq_true hlt;have h1 : i < l.length := by have := HN.out; omega
    have h2 : i < m.length := by have := HM.out; omega
    rcases kv_cases (HU.out.below HB.out) with ⟨h0, _⟩ | ⟨b1, o1, c1, e1, _, _, _, k1⟩
    ·rw [h0] at h1; simp at h1
    rcases kv_cases (HV.out.below HB.out) with ⟨h0, _⟩ | ⟨b2, o2, c2, e2, _, _, _, k2⟩
    ·rw [h0] at h2; simp at h2
    simp only [Value.slice.injEq] at e1 e2;have e11 := e1.1;have e21 := e2.1;clear e1 e2;subst e11 e21;have x0 := k1 i h1;have y0 := k2 i h2;obtain ⟨c, hc⟩ : ∃ c, c = l[i] := ⟨_, rfl⟩;obtain ⟨d, hd⟩ : ∃ d, d = m[i] := ⟨_, rfl⟩;rw [← hc] at x0;rw [← hd] at y0;have X0 : ∀ q, (wr.drewN q).cell? ⟨b1, o1 + i, none⟩ = some (.int .u64 (c : Nat)) := fun _ => x0;have Y0 : ∀ q, (wr.drewN q).cell? ⟨b2, o2 + i, none⟩ = some (.int .u64 (d : Nat)) := fun _ => y0;have HCD : Hid (c = l[i] ∧ d = m[i]) := ⟨hc, hd⟩;clear k1 k2 x0 y0 hc hd;by_cases hcd : c = d
    ·have HNX : Hid (∀ j, (h1 : j < l.length) → (h2 : j < m.length) → j < i + 1 → l[j] = m[j]) := fun j k1 k2 hj => by
      rcases Nat.lt_or_ge j i with q | q
      ·exact HA.out j k1 k2 q
      ·obtain rfl : j = i := by omega
       rw [← HCD.out.1, ← HCD.out.2]; exact hcd
     subst hcd;have hq : ((c : Int) != (c : Int)) = false := by simp
     go_wp2_with fail;go_quiet (fail);have HB9 : Hid (Below w.heap.size w (wr.drewN nq)) := below_trans HB.out (below_drewN _ _);go_wp2_with fail;go_roundw
     case rel => exact ⟨i + 1, by go_num, hlt, HNX.out, HB9.out⟩
     case measure => simp [intOf]; omega
    ·have hq : ((c : Int) != (d : Int)) = true := by rw [bne_iff_ne]; omega
     have HNE : Hid (l ≠ m) := fun e => by
      subst e;exact hcd (HCD.out.1.trans HCD.out.2.symm)
     clear hcd;go_wp2_with fail;go_quiet (fail);have HB9 : Hid (Below w.heap.size w (wr.drewN nq)) := below_trans HB.out (below_drewN _ _);go_wp2_with fail;go_ret;exact eqgot_no HNE.out HB9.out
   ·have hlti : ¬ (i : Int) < (n : Int) := by omega
    have HE : Hid (l = m) := List.ext_getElem (by rw [← HN.out, ← HM.out]) (fun j k1 k2 => HA.out j k1 k2 (by have := HN.out; omega));go_wp2_with fail;go_ret;exact eqgot_yes HE.out HB.out
end
end Go.Proofs.YtcmklbibehnloaaGreat
