/- New, Load, Read, Write. -/
import Derived.Test.YtcmklbibehnloaaGreatB16
import Derived.Laws.ResultCell
set_option maxRecDepth 100000
set_option maxHeartbeats 16000000
namespace Go.Proofs.YtcmklbibehnloaaGreat
open Go.RowKit
section
/-! The mathematics. -/
def pgc (Ls : List (List Cl)) (i : Nat) : List Cl := Ls.getD i []
def shG (p : Nat → Bool) : Nat → Nat → Option Nat
 | _, 0 => none
 | i, n + 1 => if p i = true then some i else shG p (i + 1) n
theorem shG_yes {p : Nat → Bool} {i : Nat} {o : Option Nat} (hi : i < 6) (h : o = shG p i (6 - i)) (hp : p i = true) : o = some i := by
 rw [h, show 6 - i = (6 - (i + 1)) + 1 by omega, shG, if_pos hp]
theorem shG_no {p : Nat → Bool} {i : Nat} {o : Option Nat} (hi : i < 6) (h : o = shG p i (6 - i)) (hp : p i = false) : o = shG p (i + 1) (6 - (i + 1)) := by
 rw [h, show 6 - i = (6 - (i + 1)) + 1 by omega, shG, if_neg (by simp [hp])]
theorem shG_lt {p : Nat → Bool} {a : Nat} : ∀ (n i : Nat), shG p i n = some a → i ≤ a ∧ a < i + n ∧ p a = true := by
 intro n
 induction n with
 | zero => intro i h; simp [shG] at h
 | succ n ih =>
  intro i h;unfold shG at h
  split at h
  ·rename_i hp; cases h; exact ⟨Nat.le_refl _, by omega, hp⟩
  ·obtain ⟨h1, h2, h3⟩ := ih (i + 1) h; exact ⟨by omega, by omega, h3⟩
theorem shG_none {p : Nat → Bool} : ∀ (n i : Nat), shG p i n = none → ∀ a, i ≤ a → a < i + n → p a = false := by
 intro n
 induction n with
 | zero => intro i h a h1 h2; omega
 | succ n ih =>
  intro i h a h1 h2;unfold shG at h
  split at h
  ·cases h
  ·rename_i hp
   by_cases e : a = i
   ·subst e; simpa using hp
   ·exact ih (i + 1) h a (by omega) (by omega)
def shAt (Ls : List (List Cl)) (k : Nat) : Option Nat := shG (fun i => findB (pgc Ls i) k) 0 6
def shRoom (Ls : List (List Cl)) : Option Nat := shG (fun i => decide ((pgc Ls i).length < 16)) 0 6
def cellAt (Ls : List (List Cl)) (i k : Nat) : Cl := (pgc Ls i).getD (findI (pgc Ls i) k) zeroC
def shRes (Ls : List (List Cl)) (k : Nat) (m : Int) : Vl := match shAt Ls k with
 | none => noV
 | some i => resC (cellAt Ls i k) m
theorem is_at {l : List Cl} {i k : Nat} (h : isK l i k = true) : ∃ hi : i < l.length, l[i].k = k := by
 unfold isK at h
 split at h
 ·cases h
 ·rename_i c hc
  obtain ⟨hi, e⟩ := List.getElem?_eq_some_iff.1 hc;exact ⟨hi, by rw [e]; simpa using h⟩
theorem find_at {l : List Cl} {k : Nat} (h : findB l k = true) : ∃ hi : findI l k < l.length, l[findI l k].k = k := by
 simp only [findB, Bool.and_eq_true] at h;obtain ⟨hi, e⟩ := is_at h.2;have e2 : findI l k = fndF l k := if_pos h.1;exact ⟨by rw [e2]; exact hi, by simp only [e2]; exact e⟩
/-! A shelf in memory. -/
theorem Cv.set {w : World} {v : Value} {l : List Cl} (h : Cv w v l) {p : Addr} {u : Value} (hp : w.cell? p = some u) (hu : ∀ c : Cl, u ∉ clF c) (u' : Value) : Cv (w.setCell p u') v l := by
 obtain ⟨ao, cap, e, h1, h2, h3, h4⟩ := h;refine ⟨ao, cap, e, h1, h2, h3, fun i hi => ?_⟩;obtain ⟨b, off, e1, e2⟩ := h4 i hi;refine ⟨b, off, e1, fun j hj => ?_⟩;have h5 := e2 j hj;have h6 : (clF l[i])[j]? = some ((clF l[i])[j]'(by rw [clF_len]; exact hj)) := List.getElem?_eq_getElem _;rw [h6] at h5 ⊢;rw [World.cell?_setCell_other _ _ _ _ (by rintro rfl; rw [hp] at h5; cases h5; exact hu l[i] (List.getElem_mem _))];exact h5
theorem Cv.ch {D : Nat → Prop} {w w' : World} {v : Value} {l : List Cl} (h : Cv w v l) (hc : Ch D w w') (hd : ∀ x, v.ownBlock = some x → ¬ D x) : Cv w' v l := by
 obtain ⟨ao, cap, e, h1, h2, h3, h4⟩ := h;refine ⟨ao, cap, e, h1, h2, h3, fun i hi => ?_⟩;obtain ⟨b, off, e1, e2⟩ := h4 i hi;refine ⟨b, off, e1, fun j hj => ?_⟩;have h5 := e2 j hj;have h6 : (clF l[i])[j]? = some ((clF l[i])[j]'(by rw [clF_len]; exact hj)) := List.getElem?_eq_getElem _;rw [h6] at h5 ⊢;exact hc.cell h5 (hd b (by rw [e, e1]; rfl))
theorem slice_noCl {ao : Option Addr} {n cap : Nat} (c : Cl) : Value.slice ao n cap ∉ clF c := by
 simp [clF]
theorem below_six {B N : Nat} {w w2 : World} (h : Below B w w2) (hN : B ≤ N) (a b c d e f : Value) : Below B w ((((((w2.setCell ⟨N, 0, none⟩ a).setCell ⟨N, 1, none⟩ b).setCell ⟨N, 2, none⟩ c).setCell ⟨N, 3, none⟩ d).setCell ⟨N, 4, none⟩ e).setCell ⟨N, 5, none⟩ f) :=
 (((((h.setCell hN a).setCell hN b).setCell hN c).setCell hN d).setCell hN e).setCell hN f
structure SH (w : World) (Q : Nat) (f : Nat → Value) (Ls : List (List Cl)) : Prop where
 len : Ls.length = 6
 c : ∀ i, i < 6 → w.cell? ⟨Q, i, none⟩ = some (f i)
 z : ∀ j, w.frozen? ⟨Q, j, none⟩ = false
 cv : ∀ i, i < 6 → Cv w (f i) (pgc Ls i)
theorem SH.lt {w : World} {Q : Nat} {f : Nat → Value} {Ls : List (List Cl)} (h : SH w Q f Ls) : Q < w.heap.size := cell_lt (h.c 0 (by omega))
theorem SH.below {w w' : World} {Q : Nat} {f : Nat → Value} {Ls : List (List Cl)} (h : SH w Q f Ls) (hb : Below w.heap.size w w') : SH w' Q f Ls :=
 ⟨h.len, fun i hi => by rw [hb.cell (p := ⟨Q, i, none⟩) h.lt]; exact h.c i hi, fun j => by rw [hb.frozen (p := ⟨Q, j, none⟩) h.lt]; exact h.z j, fun i hi => (h.cv i hi).below hb⟩
theorem SH.form {w : World} {Q : Nat} {f : Nat → Value} {Ls : List (List Cl)} (h : SH w Q f Ls) {i : Nat} (hi : i < 6) : ∃ ao cap, f i = .slice ao (pgc Ls i).length cap := (h.cv i hi).form
theorem pgc_set {Ls : List (List Cl)} {i j : Nat} {l : List Cl} (hj : j < Ls.length) : pgc (Ls.set i l) j = if i = j then l else pgc Ls j := by
 unfold pgc;rw [List.getD_eq_getElem?_getD, List.getElem?_set, List.getD_eq_getElem?_getD]
 split
 ·rename_i e; subst e; rw [if_pos hj]; rfl
 ·rfl
def upd (f : Nat → Value) (i : Nat) (v : Value) : Nat → Value := fun j => if i = j then v else f j
theorem SH.set {w : World} {Q : Nat} {f : Nat → Value} {Ls : List (List Cl)} (h : SH w Q f Ls) {i : Nat} (hi : i < 6) {v : Value} {l : List Cl} (hv : Cv w v l) : SH (w.setCell ⟨Q, i, none⟩ v) Q (upd f i v) (Ls.set i l) := by
 obtain ⟨ao, cap, e⟩ := h.form hi;have hn : ∀ c : Cl, f i ∉ clF c := fun c => by rw [e]; exact slice_noCl c
 refine ⟨by rw [List.length_set]; exact h.len, fun j hj => ?_, fun j => by simpa [go_sem] using h.z j, fun j hj => ?_⟩
 ·unfold upd;by_cases q : i = j
  ·subst q; rw [if_pos rfl]; simp [go_sem, h.c i hi]
  ·rw [if_neg q, World.cell?_setCell_other _ _ _ _ (by rintro ⟨⟩; exact q rfl)]; exact h.c j hj
 ·rw [pgc_set (by rw [h.len]; exact hj)];unfold upd;by_cases q : i = j
  ·rw [if_pos q, if_pos q]; exact hv.set (h.c i hi) hn v
  ·rw [if_neg q, if_neg q]; exact (h.cv j hj).set (h.c i hi) hn v
section

variable {w : World} {Q : Nat} {f : Nat → Value} {Ls : List (List Cl)}

theorem room_walk (h : SH w Q f Ls) : Calls Tryz.prog 141 #[.pointer (some ⟨Q, 0, none⟩)] w fun e w' => e = .returned (.tuple #[.int .i64 ((shRoom Ls).getD 0 : Nat), .bool (shRoom Ls).isSome]) ∧ w' = w := by
 have H : Hid (SH w Q f Ls) := h;obtain ⟨o, ho⟩ : ∃ o, o = shRoom Ls := ⟨_, rfl⟩;rw [← ho];have HS : Hid (o = shG (fun i => decide ((pgc Ls i).length < 16)) 0 (6 - 0)) := ho;clear h ho;go_in;go_wp2_with fail;go_loop [5] (fun iv => ∃ i : Nat, iv = .int .i64 i ∧ i ≤ 6 ∧ o = shG (fun i => decide ((pgc Ls i).length < 16)) i (6 - i)) (fun iv => 6 - (intOf iv).toNat)
 case atStart => exact ⟨0, rfl, by omega, HS.out⟩
 case round =>
  obtain ⟨i, rfl, hi, hs⟩ := hrel;have HI : Hid (o = shG (fun i => decide ((pgc Ls i).length < 16)) i (6 - i)) := hs;clear hs;by_cases hlt : i < 6
  ·have hlti : (i : Int) < 6 := by omega
   obtain ⟨ao, cap, e⟩ := H.out.form hlt;have m0 := H.out.c i hlt;rw [e] at m0;obtain ⟨n, hn⟩ : ∃ n, n = (pgc Ls i).length := ⟨_, rfl⟩;rw [← hn] at m0;by_cases hl : n < 16
   ·have HO : Hid (o = some i) := shG_yes hlt HI.out (by rw [← hn]; exact decide_eq_true hl);have hli : (n : Int) < 16 := by omega
    clear hl hn e;go_wp2_with fail;go_ret2;exact ⟨by rw [HO.out]; rfl, rfl⟩
   ·have HO : Hid (o = shG (fun i => decide ((pgc Ls i).length < 16)) (i + 1) (6 - (i + 1))) := shG_no hlt HI.out (by rw [← hn]; exact decide_eq_false hl);have hli : ¬ (n : Int) < 16 := by omega
    clear hl hn e;go_wp2_with fail;go_round
    case rel => exact ⟨i + 1, by go_num, hlt, HO.out⟩
    case measure => simp [intOf]; omega
  ·have hlti : ¬ (i : Int) < 6 := by omega
   obtain rfl : i = 6 := by omega
   have HO : Hid (o = none) := HI.out;go_wp2_with fail;go_ret2;exact ⟨by rw [HO.out]; rfl, rfl⟩
theorem results_tct {fn : Func} {p u x : Tmp} {ty : TypeId} (h : fn.results = #[.tmp u, .cell p ty, .tmp x]) (tmps : Array Value) (P : Program) (w : World) :
  (results fn tmps).run P w =
   ((asAddr (tmps.getD p undef)).run P w).andThen fun a w₁ => ((loadVar ty a).run P w₁).andThen fun v w₂ => .ok (.tuple #[tmps.getD u undef, v, tmps.getD x undef]) w₂ := by
 simp only [results, h];simp [Sem.run_bind, Result.andThen]
def FindGot (Ls : List (List Cl)) (k : Nat) (w : World) (e : Ending) (w' : World) : Prop :=
 ∃ (i : Nat) (c : Cl) (t : Bool), e = .returned (.tuple #[.int .i64 i, .agg #[.int .u64 c.k, .bool c.p.h, .int .u64 c.p.b, .bool c.c.h, .int .u64 c.c.b, .int .i64 c.n], .bool t]) ∧ ((shAt Ls k = some i ∧ i < 6 ∧ t = true ∧ c = cellAt Ls i k ∧ c ∈ pgc Ls i ∧ c.k = k) ∨ (shAt Ls k = none ∧ i = 0 ∧ t = false ∧ c = zeroC)) ∧ Below w.heap.size w w'
theorem find_walkS (h : SH w Q f Ls) (k : Nat) : Calls Tryz.prog 133 #[.pointer (some ⟨Q, 0, none⟩), .int .u64 k] w (FindGot Ls k w) := by
 have H0 : Hid (SH (w.alloc (Obj.cells #[.int .u64 zeroC.k, .bool zeroC.p.h, .int .u64 zeroC.p.b, .bool zeroC.c.h, .int .u64 zeroC.c.b, .int .i64 zeroC.n] 114)) Q f Ls) := h.below (below_alloc _ _);have HZ0 : Hid _ := cb_new w zeroC;have HB0 : Hid _ := below_alloc w (Obj.cells #[.int .u64 zeroC.k, .bool zeroC.p.h, .int .u64 zeroC.p.b, .bool zeroC.c.h, .int .u64 zeroC.c.b, .int .i64 zeroC.n] 114);have HQ : Hid (Q < w.heap.size) := h.lt;have HW : Hid (SH w Q f Ls) := h;obtain ⟨o, ho⟩ : ∃ o, o = shAt Ls k := ⟨_, rfl⟩;have HS : Hid (o = shG (fun i => findB (pgc Ls i) k) 0 (6 - 0)) := ho;have HOO : Hid (shAt Ls k = o) := ho.symm;clear h ho;go_in;go_upto_region 1 with fail
 obtain ⟨N, hN⟩ : ∃ N, N = w.heap.size := ⟨_, rfl⟩;rw [← hN] at HZ0 HQ ⊢;have HN : Hid (N = w.heap.size) := hN;clear hN;change Code.wp _ _ _ _ (w.alloc (Obj.cells #[.int .u64 zeroC.k, .bool zeroC.p.h, .int .u64 zeroC.p.b, .bool zeroC.c.h, .int .u64 zeroC.c.b, .int .i64 zeroC.n] 114));generalize w.alloc (Obj.cells #[.int .u64 zeroC.k, .bool zeroC.p.h, .int .u64 zeroC.p.b, .bool zeroC.c.h, .int .u64 zeroC.c.b, .int .i64 zeroC.n] 114) = w0 at H0 HZ0 HB0 ⊢;go_wp2_with fail;go_loopw [10] (fun iv wr => ∃ i : Nat, iv = .int .i64 i ∧ i ≤ 6 ∧ o = shG (fun i => findB (pgc Ls i) k) i (6 - i) ∧ Below w0.heap.size w0 wr) (fun iv _ => 6 - (intOf iv).toNat)
 case atStart => exact ⟨0, rfl, by omega, HS.out, Below.refl _ _⟩
 case round =>
  obtain ⟨i, rfl, hi, hs, hb⟩ := hrel;have HI : Hid (o = shG (fun i => findB (pgc Ls i) k) i (6 - i)) := hs;have HB := hidH hb;have HSH : Hid (SH wr Q f Ls) := H0.out.below hb;clear hs hb;by_cases hlt : i < 6
  ·have hlti : (i : Int) < 6 := by omega
   obtain ⟨ao, cap, e⟩ := HSH.out.form hlt;have m0 := HSH.out.c i hlt;rw [e] at m0;have HFI : Hid (f i = .slice ao (pgc Ls i).length cap) := e;have HCV : Hid (Cv wr (.slice ao (pgc Ls i).length cap) (pgc Ls i)) := by have := HSH.out.cv i hlt; rw [e] at this; exact this
   obtain ⟨l, hl⟩ : ∃ l, l = pgc Ls i := ⟨_, rfl⟩;rw [← hl] at m0 HCV;have HL : Hid (l = pgc Ls i) := hl;obtain ⟨n, hn⟩ : ∃ n, n = l.length := ⟨_, rfl⟩;rw [← hn] at m0 HCV;have HLN : Hid (n = l.length) := hn;clear e hl hn;obtain ⟨t, ht⟩ : ∃ t, t = findB l k := ⟨_, rfl⟩;obtain ⟨a, ha⟩ : ∃ a, a = findI l k := ⟨_, rfl⟩;have HT : Hid (t = findB l k) := ht;have HA : Hid (a = findI l k) := ha;clear ht ha;go_wp2_with fail;refine (find_walkB HCV.out k).mono ?_;rw [← HT.out, ← HA.out];rintro e w2 ⟨rfl, hB2⟩;have HB2 := hidH (below_trans HB.out hB2);have HCV2 := hidH (HCV.out.below hB2);have m1 : w2.cell? ⟨Q, i, none⟩ = some (.slice ao n cap) := by rw [hB2.cell (p := ⟨Q, i, none⟩) (cell_lt m0)]; exact m0
   clear hB2 m0
   cases t
   ·have HO : Hid (o = shG (fun i => findB (pgc Ls i) k) (i + 1) (6 - (i + 1))) := shG_no hlt HI.out (by rw [← HL.out]; exact HT.out.symm);clear m1;go_wp2_with fail;go_roundw
    case rel => exact ⟨i + 1, by go_num, hlt, HO.out, HB2.out⟩
    case measure => simp [intOf]; omega
   ·have HO : Hid (o = some i) := shG_yes hlt HI.out (by rw [← HL.out]; exact HT.out.symm);obtain ⟨hal, hak⟩ := find_at HT.out.symm;obtain ⟨c, hc⟩ : ∃ c, c = l[findI l k] := ⟨_, rfl⟩;have HC : Hid (c = cellAt Ls i k ∧ c ∈ pgc Ls i ∧ c.k = k) := ⟨by unfold cellAt; rw [← HL.out, hc]; simp [hal], by rw [← HL.out, hc]; exact List.getElem_mem _, by rw [hc]; exact hak⟩;have han : a < n := by have := HA.out; have := HLN.out; omega
    have hani : (a : Int) < (n : Int) := by omega
    have hanb : decide (a < n) = true := decide_eq_true han
    obtain ⟨b, off, cp, e, _, _, _, hca⟩ : ∃ b off cp, Value.slice ao n cap = .slice (some ⟨b, off, none⟩) l.length cp ∧ 0 < l.length ∧ l.length ≤ cp ∧ cp ≤ maxLen ∧ ∀ i, (hi : i < l.length) → CA w2 b (off + i * 6) l[i] := by
     rcases cv_cases HCV2.out with ⟨h0, _⟩ | h
     ·rw [h0] at hal; simp at hal
     ·exact h
    simp only [Value.slice.injEq] at e;have e1 := e.1;subst e1;have HCA : Hid (CA w2 b (off + a * 6) c) := by have := hca (findI l k) hal; rw [← hc, ← HA.out] at this; exact this
    have hnm : (n : Int) ≤ 9223372036854775807 := by have h1 := HCV2.out.len_le; have h2 := HLN.out; unfold maxLen at h1; omega
    have HZ2 : Hid (CB w2 N zeroC) := HZ0.out.keep HB2.out
    have HNB : Hid (b ≠ N) := by
     have h1 := HW.out.cv i hlt;rw [HFI.out] at h1;rcases cv_cases h1 with ⟨h0, _⟩ | ⟨b', off', cp', e', hp', _, _, hca'⟩
     ·rw [← HL.out] at h0; rw [h0] at hal; simp at hal
     ·simp only [Value.slice.injEq, Option.some.injEq, Addr.mk.injEq] at e';have h2 := (hca' 0 hp').lt;have h3 := HN.out;show _ ≠ _;omega
    obtain ⟨y0, y1, y2, y3, y4, y5⟩ := HCA.out;have y0' : ∀ q, (w2.drewN q).cell? ⟨b, off + a * 6, none⟩ = some (.int .u64 c.k) := fun _ => y0;have y1' : ∀ q, (w2.drewN q).cell? ⟨b, off + a * 6 + 1, none⟩ = some (.bool c.p.h) := fun _ => y1;have y2' : ∀ q, (w2.drewN q).cell? ⟨b, off + a * 6 + 2, none⟩ = some (.int .u64 c.p.b) := fun _ => y2;have y3' : ∀ q, (w2.drewN q).cell? ⟨b, off + a * 6 + 3, none⟩ = some (.bool c.c.h) := fun _ => y3;have y4' : ∀ q, (w2.drewN q).cell? ⟨b, off + a * 6 + 4, none⟩ = some (.int .u64 c.c.b) := fun _ => y4;have y5' : ∀ q, (w2.drewN q).cell? ⟨b, off + a * 6 + 5, none⟩ = some (.int .i64 c.n) := fun _ => y5;have m1' : ∀ q, (w2.drewN q).cell? ⟨Q, i, none⟩ = some (.slice (some ⟨b, off, none⟩) n cap) := fun _ => m1;obtain ⟨z0, z1, z2, z3, z4, z5, zz⟩ := HZ2.out;have f0 := zz 0;have f1 := zz 1;have f2 := zz 2;have f3 := zz 3;have f4 := zz 4;have f5 := zz 5;have HB9 := hidH (below_trans HB0.out HB2.out);have HI9 : Hid (i < 6) := hlt;clear hca hal hak hc e zz hlt;go_wp2_with fail;go_region_with (fail);all_goals go_wp2_with fail
    all_goals (try simp only [Exit.inBlock, Exit.then])
    all_goals refine bodyPost_ret (v := .tuple #[.int .i64 i, .agg #[.int .u64 c.k, .bool c.p.h, .int .u64 c.p.b, .bool c.c.h, .int .u64 c.c.b, .int .i64 c.n], .bool true]) (by rw [results_tct rfl]; go_simp) rfl ?_
    all_goals exact ⟨i, c, true, rfl, .inl ⟨HOO.out.trans HO.out, HI9.out, rfl, HC.out⟩, (below_six HB9.out (by rw [HN.out]; exact Nat.le_refl _) _ _ _ _ _ _).drew⟩
  ·have hlti : ¬ (i : Int) < 6 := by omega
   obtain rfl : i = 6 := by omega
   have HO : Hid (o = none) := HI.out;have HZ2 : Hid (CB wr N zeroC) := HZ0.out.keep HB.out;obtain ⟨z0, z1, z2, z3, z4, z5, zz⟩ := HZ2.out;have y0 := zz 0;have y1 := zz 1;have y2 := zz 2;have y3 := zz 3;have y4 := zz 4;have y5 := zz 5;clear zz;go_wp2_with fail;refine bodyPost_ret (v := .tuple #[.int .i64 0, .agg #[.int .u64 0, .bool false, .int .u64 0, .bool false, .int .u64 0, .int .i64 0], .bool false]) (by rw [results_tct rfl]; go_simp) rfl ?_;exact ⟨0, zeroC, false, rfl, .inr ⟨HOO.out.trans HO.out, rfl, rfl, rfl⟩, below_six (below_trans HB0.out HB.out) (by rw [HN.out]; exact Nat.le_refl _) _ _ _ _ _ _⟩
theorem sresolve_walk (h : SH w Q f Ls) (k : Nat) (m : Int) : Calls Tryz.prog 63 #[.pointer (some ⟨Q, 0, none⟩), .int .u64 k, .int .i64 m] w fun e w' => e = .returned (.agg #[.bool (shRes Ls k m).h, .int .u64 (shRes Ls k m).b]) ∧ Below w.heap.size w w' := by
 have H0 : Hid (SH (w.alloc (Obj.cells #[.bool false, .int .u64 0] 53)) Q f Ls) := h.below (below_alloc _ _);have HB0 : Hid _ := below_alloc w (Obj.cells #[.bool false, .int .u64 0] 53);have z0 : (w.alloc (Obj.cells #[.bool false, .int .u64 0] 53)).cell? ⟨w.heap.size, 0, none⟩ = some (.bool false) := by simp [go_sem]
 have z1 : (w.alloc (Obj.cells #[.bool false, .int .u64 0] 53)).cell? ⟨w.heap.size, 1, none⟩ = some (.int .u64 0) := by simp [go_sem]
 have zz : ∀ j, (w.alloc (Obj.cells #[.bool false, .int .u64 0] 53)).frozen? ⟨w.heap.size, j, none⟩ = false := by intro j; simp [go_sem]
 have HZ0 : Hid _ := z0;have HZ1 : Hid _ := z1;have HZZ : Hid _ := zz;clear h z0 z1 zz;go_in;go_upto_region 1 with fail
 generalize hN : w.heap.size = N at HZ0 HZ1 HZZ ⊢;have HN : Hid (w.heap.size = N) := hN;rw [hN] at HB0;clear hN;generalize w.alloc (Obj.cells #[.bool false, .int .u64 0] 53) = w0 at H0 HB0 HZ0 HZ1 HZZ ⊢;go_wp2_with fail;refine (find_walkS H0.out k).mono ?_;rintro e w1 ⟨i, c, t, rfl, hfind, hB1⟩;have HF : Hid ((shAt Ls k = some i ∧ i < 6 ∧ t = true ∧ c = cellAt Ls i k ∧ c ∈ pgc Ls i ∧ c.k = k) ∨ (shAt Ls k = none ∧ i = 0 ∧ t = false ∧ c = zeroC)) := hfind;have HNW : Hid (N < w0.heap.size) := cell_lt HZ0.out;have h0 : w1.cell? ⟨N, 0, none⟩ = some (.bool false) := by rw [hB1.cell (p := ⟨N, 0, none⟩) HNW.out]; exact HZ0.out
 have h1 : w1.cell? ⟨N, 1, none⟩ = some (.int .u64 0) := by rw [hB1.cell (p := ⟨N, 1, none⟩) HNW.out]; exact HZ1.out
 have hz : ∀ j, w1.frozen? ⟨N, j, none⟩ = false := fun j => by rw [hB1.frozen (p := ⟨N, j, none⟩) HNW.out]; exact HZZ.out j
 have HB1 : Hid (Below N w w1) := HB0.out.trans (hB1.mono (Nat.le_of_lt HNW.out));have hl1 : N < w1.heap.size := cell_lt h0;clear hfind hB1 H0 HB0 HZ0 HZ1 HZZ;go_upto_region 2 with fail
 have HC2 : Hid _ := cb_new w1 c;have HB2 : Hid (Below N w (w1.alloc (Obj.cells #[.int .u64 c.k, .bool c.p.h, .int .u64 c.p.b, .bool c.c.h, .int .u64 c.c.b, .int .i64 c.n] 114))) := HB1.out.trans ((below_alloc _ _).mono (Nat.le_of_lt hl1));have HM0 : Hid ((w1.alloc (Obj.cells #[.int .u64 c.k, .bool c.p.h, .int .u64 c.p.b, .bool c.c.h, .int .u64 c.c.b, .int .i64 c.n] 114)).cell? ⟨N, 0, none⟩ = some (.bool false)) := by show _ = _; rw [(below_alloc w1 _).cell (p := ⟨N, 0, none⟩) hl1]; exact h0
 have HM1 : Hid ((w1.alloc (Obj.cells #[.int .u64 c.k, .bool c.p.h, .int .u64 c.p.b, .bool c.c.h, .int .u64 c.c.b, .int .i64 c.n] 114)).cell? ⟨N, 1, none⟩ = some (.int .u64 0)) := by show _ = _; rw [(below_alloc w1 _).cell (p := ⟨N, 1, none⟩) hl1]; exact h1
 have HMZ : Hid (∀ j, (w1.alloc (Obj.cells #[.int .u64 c.k, .bool c.p.h, .int .u64 c.p.b, .bool c.c.h, .int .u64 c.c.b, .int .i64 c.n] 114)).frozen? ⟨N, j, none⟩ = false) := fun j => by rw [(below_alloc w1 _).frozen (p := ⟨N, j, none⟩) hl1]; exact hz j
 have HL2 : Hid (N < (w1.alloc (Obj.cells #[.int .u64 c.k, .bool c.p.h, .int .u64 c.p.b, .bool c.c.h, .int .u64 c.c.b, .int .i64 c.n] 114)).heap.size) := cell_lt HM0.out;clear h0 h1 hz HB1 HNW hl1;generalize hM : w1.heap.size = M at HC2 ⊢;clear hM;generalize w1.alloc (Obj.cells #[.int .u64 c.k, .bool c.p.h, .int .u64 c.p.b, .bool c.c.h, .int .u64 c.c.b, .int .i64 c.n] 114) = w2 at HC2 HB2 HM0 HM1 HMZ HL2 ⊢;rcases HF.out with ⟨h1, h2, rfl, h4, h5, h6⟩ | ⟨h1, rfl, rfl, rfl⟩
 ·have HR : Hid (shRes Ls k m = resC c m) := by show _ = _; unfold shRes; rw [h1, h4]
  obtain ⟨c0, c1, c2, c3, c4, c5, zz⟩ := HC2.out;clear h1 h2 h4 h5 h6 zz;go_wp2_with fail;refine (resolve_walk c m _).mono ?_;rintro e w3 ⟨rfl, hB3⟩;have h0 : w3.cell? ⟨N, 0, none⟩ = some (.bool false) := by rw [hB3.cell (p := ⟨N, 0, none⟩) HL2.out]; exact HM0.out
  have h1 : w3.cell? ⟨N, 1, none⟩ = some (.int .u64 0) := by rw [hB3.cell (p := ⟨N, 1, none⟩) HL2.out]; exact HM1.out
  have hz0 : w3.frozen? ⟨N, 0, none⟩ = false := by rw [hB3.frozen (p := ⟨N, 0, none⟩) HL2.out]; exact HMZ.out 0
  have hz1 : w3.frozen? ⟨N, 1, none⟩ = false := by rw [hB3.frozen (p := ⟨N, 1, none⟩) HL2.out]; exact HMZ.out 1
  have HB3 : Hid (Below N w w3) := HB2.out.trans (hB3.mono (Nat.le_of_lt HL2.out));generalize resC c m = r at HR ⊢;clear hB3 c0 c1 c2 c3 c4 c5;go_wp2_with fail;refine bodyPost_ret (v := .agg #[.bool r.h, .int .u64 r.b]) (by simp [results, Tryz.results63, go_sem, h0, h1]) rfl ?_;rw [HR.out, HN.out];exact ⟨rfl, (HB3.out.setCell (Nat.le_refl _) _).setCell (Nat.le_refl _) _⟩
 ·have HR : Hid (shRes Ls k m = noV) := by show _ = _; unfold shRes; rw [h1]
  have h0 := HM0.out;have h1 := HM1.out;have hz0 := HMZ.out 0;have hz1 := HMZ.out 1;go_wp2_with fail;refine bodyPost_ret (v := .agg #[.bool false, .int .u64 0]) (by simp [results, Tryz.results63, go_sem, h0, h1]) rfl ?_;rw [HR.out, HN.out];exact ⟨rfl, (HB2.out.setCell (Nat.le_refl _) _).setCell (Nat.le_refl _) _⟩
end
end
section
section

variable {T : TypeId} {D : Nat → Prop} {w w' : World} {v bv : Value} {sb gp cap : Nat} {S : Dk} {b : List Nat}

def Rd (T : TypeId) (D : Nat → Prop) (w : World) (v : Value) (S : Dk) (i : Int) (e : Ending) (w' : World) : Prop :=
 ∃ r, e = .returned (.tuple #[r, .int .i64 (refI S i)]) ∧ w'.ownsRow w.heap.size 5 1 r (readL S i).length (cb (readL S i)) ∧ Dsk T D w' v (readS S i) ∧ Ch D w w'
theorem rd_bad {i : Int} (h : Dsk T D w v S) (hr : refI S i ≠ 0) : Rd T D w v S i (.returned (.tuple #[.slice none 0 0, .int .i64 (refI S i)])) w := by
 refine ⟨_, rfl, ?_, ?_, Ch.refl _ _⟩
 ·unfold readL; rw [if_neg hr]; exact World.ownsRow_nil _ _ _ _
 ·unfold readS; rw [if_neg hr]; exact h
theorem rd_ok {k : Nat} {S2 : Dk} {w1 w2 : World} {r : Value} (hr : refI S k = 0) (hS : S2 = { S with rd := S.rd + 1 }) (h : Dsk T D w1 v S2) (hC : Ch D w w1) (ho : w2.ownsRow w1.heap.size 5 1 r (bk S.bl k).length (cb (bk S.bl k))) (hB : Below w1.heap.size w1 w2) :
  Rd T D w v S k (.returned (.tuple #[r, .int .i64 0])) w2 := by
 have e1 : readL S k = bk S.bl k := by unfold readL; rw [if_pos hr]; simp
 have e2 : readS S k = S2 := by unfold readS; rw [if_pos hr, hS]
 refine ⟨_, by rw [hr], ?_, ?_, ?_⟩
 ·rw [e1]; exact own_base ho hC.size
 ·rw [e2]; exact h.below hB
 ·exact hC.trans (Ch.of_below (D := D) hB) (fun _ hx => .inl hx)
theorem read_walk (h : Dsk T D w v S) (i : Int) (hrd : S.rd < 9223372036854775807) : Calls Tryz.prog 94 #[v, .int .i64 i] w fun e w' => Rd T D w v S i e w' := by
 have HW : Hid (Dsk T D w v S) := h;obtain ⟨sb, gp, cap, rfl, h, hok⟩ := h;have HM := hidH h;have HK : Hid S.ok := hok;clear h hok;by_cases hr : refI S i = 0
 ·obtain ⟨hdn, k, rfl, hk⟩ := ref_ok hr;have HR : Hid (refI S k = 0) := hr;clear hr hdn;have c3 := HM.out.c3;have f3 := HM.out.soft 3;have c0 := HM.out.c0;have HM2 : Hid (DM T D (w.setCell ⟨sb, 3, none⟩ (.int .i64 ((S.rd : Int) + 1))) sb gp cap { S with rd := S.rd + 1 }) := HM.out.put 3 _ rfl rfl;obtain ⟨u, hu, hoc, _⟩ := HM2.out.row.at (i := k) hk;have HBv : Hid (Bv (w.setCell ⟨sb, 3, none⟩ (.int .i64 ((S.rd : Int) + 1))) u (bk S.bl k)) := hoc.bv (HK.out.byt _ (bk_mem hk));have HL : Hid ((bk S.bl k).length ≤ 140737488355328) := Nat.le_trans (HK.out.len _ (bk_mem hk)) (by omega)
  have hu0 : w.cell? ⟨gp, k, none⟩ = some u := by
   rw [← hu]; exact (World.cell?_of_block (w := w) (a := ⟨gp, k, none⟩) (set_other 3 _ HM.out.a1)).symm
  obtain ⟨p, hp⟩ : ∃ p, p = bk S.bl k := ⟨_, rfl⟩;rw [← hp] at HBv HL;have HP : Hid (p = bk S.bl k) := hp;obtain ⟨ao, cp, rfl, _, _⟩ := bv_formD HBv.out;have r1 : IntKind.i64.wrap ((S.rd : Int) + 1) = (S.rd : Int) + 1 := wrapU (by omega) (by omega);have h64 := HK.out.n64;have hne1 : ¬ gp = sb := HM.out.a1;have hne2 : ¬ sb = gp := fun e => HM.out.a1 e.symm;clear hoc hp hu hrd;go_in;go_wp2_with fail;refine (refuses_walk HM.out HK.out k).mono ?_;rintro e w9 ⟨rfl, h9⟩;have h9 := h9.symm;subst h9;rw [HR.out];go_wp2_with fail;refine (clone_walk HBv.out HL.out).mono ?_;rintro e w2 ⟨r, rfl, ho, hB⟩;go_wp2_with fail;go_ret2;exact rd_ok HR.out rfl ⟨sb, gp, cap, rfl, HM2.out, ok_rd HK.out _⟩ (ch_put _ _ HM.out.d1) (by rw [← HP.out]; exact ho) hB
 ·have HR : Hid (refI S i ≠ 0) := hr;have HA : Hid (Rd T D w (.pointer (some ⟨sb, 0, none⟩)) S i (.returned (.tuple #[.slice none 0 0, .int .i64 (refI S i)])) w) := rd_bad HW.out hr;obtain ⟨q, hq⟩ : ∃ q, q = refI S i := ⟨_, rfl⟩;rw [← hq] at HA hr;have HQ : Hid (q = refI S i) := hq;clear hq;go_in;go_wp2_with fail;refine (refuses_walk HM.out HK.out i).mono ?_;rintro e w9 ⟨rfl, h9⟩;have h9 := h9.symm;subst h9;rw [← HQ.out];go_wp2_with fail;go_ret2;exact HA.out
def Wt (T : TypeId) (D : Nat → Prop) (w : World) (v : Value) (S : Dk) (i : Int) (b : List Nat) (e : Ending) (w' : World) : Prop :=
 e = .returned (.int .i64 (writeI S i b)) ∧ (∃ D' : Nat → Prop, Dsk T D' w' v (writeS S i b) ∧ ∀ x, D' x → D x ∨ w.heap.size ≤ x) ∧ Ch D w w'
theorem wt_same {i c : Int} (h : Dsk T D w v S) (hI : writeI S i b = c) (hS : writeS S i b = S) : Wt T D w v S i b (.returned (.int .i64 c)) w := by
 refine ⟨by rw [hI], ⟨D, by rw [hS]; exact h, fun x hx => .inl hx⟩, Ch.refl _ _⟩
structure Wq (w2 : World) (sb gp k : Nat) (sv : Value) (wx : World) : Prop where
 ch : Ch (fun x => x = gp) w2 wx
 c0 : wx.cell? ⟨sb, 0, none⟩ = some sv
 at' : ∃ u, wx.cell? ⟨gp, k, none⟩ = some u
 soft : wx.frozen? ⟨gp, k, none⟩ = false
theorem Wq.go {w2 : World} {k : Nat} {sv : Value} {wx wy : World} (h : Wq w2 sb gp k sv wx) (hb : Below wx.heap.size wx wy) : Wq w2 sb gp k sv wy := by
 obtain ⟨u, hu⟩ := h.at';exact ⟨h.ch.trans (Ch.of_below (D := fun x => x = gp) hb) (fun _ hx => .inl hx), by rw [hb.cell (p := ⟨sb, 0, none⟩) (cell_lt h.c0)]; exact h.c0, ⟨u, by rw [hb.cell (p := ⟨gp, k, none⟩) (cell_lt hu)]; exact hu⟩, by rw [hb.frozen (p := ⟨gp, k, none⟩) (cell_lt hu)]; exact h.soft⟩
theorem Wq.set {w2 : World} {k : Nat} {sv : Value} {wx : World} (h : Wq w2 sb gp k sv wx) (hne : sb ≠ gp) (u : Value) : Wq w2 sb gp k sv (wx.setCell ⟨gp, k, none⟩ u) := by
 obtain ⟨u0, hu⟩ := h.at';refine ⟨h.ch.trans (Ch.of_grown (D := fun x => x = gp) (grown_set wx gp k u) (fun x hx => by cases hx; rfl)) (fun _ hx => .inl hx), ?_, ⟨u, ?_⟩, ?_⟩
 ·rw [World.cell?_of_block (w := wx) (a := ⟨sb, 0, none⟩) (set_other k u hne)]; exact h.c0
 ·simp [go_sem, hu]
 ·simp [go_sem, h.soft]
theorem DM.setRow {w2 wC : World} {base k : Nat} {u : Value} (h : DM T D w2 sb gp cap S) (hB : Ch (fun _ => False) w2 wC) (hk : k < S.bl.length) (ho : wC.ownsRow base 5 1 u b.length (cb b)) (hb : w2.heap.size ≤ base) :
  DM T (fun x => D x ∨ u.ownBlock = some x) (wC.setCell ⟨gp, k, none⟩ u) sb gp cap { S with bl := S.bl.set k b } := by
 have hBw : Below w2.heap.size w2 wC := hB.to_below (Nat.le_refl _) (fun x hx => hx.elim);have hC := h.below hBw;have hnew : ∀ x, u.ownBlock = some x → w2.heap.size ≤ x := fun x hx => Nat.le_trans hb (ho.lt x hx).1;refine ⟨?_, ?_, h.a1, .inl h.d1, .inl h.d2, ?_⟩
 ·rw [set_other k u (fun e => h.a1 e.symm), hC.head];simp [hd]
 ·exact (hC.row.mono (fun x hx => ⟨.inl hx.1, hx.2⟩)).set hk (own_base ho (Nat.zero_le _)) (fun x hx => ⟨.inr hx, fun e => by have h1 := hnew x hx; have h2 := h.dl sb h.d1; omega⟩)
 ·intro x hx
  have : x < wC.heap.size := by
   rcases hx with hx | hx
   ·exact hC.dl x hx
   ·exact (ho.lt x hx).2
  simpa [go_sem] using this
theorem bv_int {x y : Int} {i : Nat} (h : Bv w bv b) (hc : w.cell? ⟨sb, i, none⟩ = some (.int .i64 x)) : Bv (w.setCell ⟨sb, i, none⟩ (.int .i64 y)) bv b := by
 obtain ⟨⟨ao, cap, rfl, h1, h2, h3, h4⟩, h5⟩ := h;refine ⟨⟨ao, cap, rfl, h1, h2, h3, fun j hj => ?_⟩, h5⟩;obtain ⟨b', off, e, c⟩ := h4 j hj;refine ⟨b', off, e, ?_⟩
 have hne : ¬ ((⟨sb, i, none⟩ : Addr) = ⟨b', off + j, none⟩) := by
  intro e2;rw [← e2, hc] at c;simp at c
 simp [go_sem, c, hne]
theorem write_free (h : DM T D w sb gp cap S) (hok : S.ok) {k : Nat} (hr : refI S k = 0) (hk : k < S.bl.length) (hb : Bv w bv b) (hbl : b.length ≤ 1024) (hl : S.left = -1) (hwr : S.wr < 9223372036854775807) :
  Calls Tryz.prog 154 #[.pointer (some ⟨sb, 0, none⟩), .int .i64 k, bv] w fun e w' => Wt T D w (.pointer (some ⟨sb, 0, none⟩)) S k b e w' := by
 have HM := hidH h;have HK : Hid S.ok := hok;have HR : Hid (refI S k = 0) := hr;have HBL : Hid (b.length ≤ 1024) := hbl;have HKL : Hid (k < S.bl.length) := hk;have HI : Hid (writeI S k b = 0) := by show _ = _; unfold writeI; rw [if_neg (fun e => e hr), if_neg (by omega), if_neg (by omega)]
 have HS : Hid (writeS S k b = putS S k b) := by show _ = _; unfold writeS; rw [if_neg (fun e => e hr), if_neg (by omega), if_neg (by omega)]; simp
 have HD : Hid (decL S.left = -1) := by show _ = _; unfold decL; rw [if_pos hl]
 have HBB : Hid (∀ c ∈ b, c < 256) := hb.2;obtain ⟨w2, hw2⟩ : ∃ w2, w2 = w := ⟨_, rfl⟩
 have HM2 : Hid (DM T D w2 sb gp cap { S with left := decL S.left }) := by
  show DM _ _ _ _ _ _ _;rw [hw2, HD.out, ← hl];exact h
 have HC2 : Hid (Ch D w w2) := by show Ch _ _ _; rw [hw2]; exact Ch.refl _ _
 obtain ⟨bo, bc, rfl, _, _⟩ := bv_formD hb
 have HB2 : Hid (Bv w2 (.slice bo b.length bc) b) := by
  show Bv _ _ _;rw [hw2];exact hb
 obtain ⟨u0, z0, _⟩ := HM2.out.row.at (i := k) hk;have f0 := HM2.out.row.soft k;have x0 := HM2.out.c0;have hSd : Wq w2 sb gp k (.slice (some ⟨gp, 0, none⟩) S.bl.length cap) w2.drew := Wq.go (wx := w2) ⟨Ch.refl _ _, x0, ⟨u0, z0⟩, f0⟩ (below_drewN _ _);have HW2 : Hid (w2 = w) := hw2;have c2 := h.c2;have f2 := h.soft 2;have h64 := hok.n64;have hbi : (b.length : Int) ≤ 1024 := by omega
 have hbd : decide ((1024 : Int) < (b.length : Int)) = false := decide_eq_false (by omega);have hki : (k : Int) < (S.bl.length : Int) := by omega
 have r1 : IntKind.i64.wrap ((S.wr : Int) + 1) = (S.wr : Int) + 1 := wrapU (by omega) (by omega);rw [hl] at c2;have HNE : Hid (sb ≠ gp) := fun e => h.a1 e.symm;have j0 : ∀ wx, Wq w2 sb gp k (.slice (some ⟨gp, 0, none⟩) S.bl.length cap) wx → wx.cell? ⟨sb, 0, none⟩ = some (.slice (some ⟨gp, 0, none⟩) S.bl.length cap) := fun wx h => h.c0;clear h hok hr hk hb hbl hl hwr hw2 z0 f0 x0;go_in;go_wp2_with fail;refine (refuses_walk HM.out HK.out k).mono ?_;rintro e w9 ⟨rfl, h9⟩;have h9 := h9.symm;subst h9;rw [HR.out];go_wp2_with fail;rw [← HW2.out]
 go_region_held3 (fun wx => Wq w2 sb gp k (.slice (some ⟨gp, 0, none⟩) S.bl.length cap) wx) (first | assumption | exact Wq.set (by assumption) HNE.out _)
  (first
   | (go_at_call 131; refine (clone_walk (v := .slice bo b.length bc) (l := b) (HB2.out.below (below_drewN _ _)) (Nat.le_trans HBL.out (by omega))).mono ?_; rintro e wC ⟨u', rfl, hoC, hBC⟩; obtain ⟨qo, qc, hqv, _⟩ := row_form hoC; subst hqv; have hSC : Wq w2 sb gp k (.slice (some ⟨gp, 0, none⟩) S.bl.length cap) wC := Wq.go (by assumption) hBC; obtain ⟨u0, z0⟩ := hSC.at'; have f0 := hSC.soft))
 obtain ⟨w3, hw3⟩ : ∃ w3, w3 = wC.setCell ⟨gp, k, none⟩ (.slice qo b.length qc) := ⟨_, rfl⟩;have hBw : Below w2.heap.size w2 wC := below_trans (below_drewN w2 1) hBC
 have HM3 : Hid (DM T (fun x => D x ∨ (Value.slice qo b.length qc).ownBlock = some x) w3 sb gp cap { S with bl := S.bl.set k b, left := decL S.left }) := by
  show DM _ _ _ _ _ _ _;rw [hw3];exact HM2.out.setRow (Ch.of_below hBw) HKL.out hoC (Nat.le_refl _)
 have HNW : Hid (∀ x, (Value.slice qo b.length qc).ownBlock = some x → w2.heap.size ≤ x) := fun x hx => (hoC.lt x hx).1
 have HC3 : Hid (Ch D w w3) := by
  show Ch _ _ _;rw [hw3];exact (HC2.out.self (Ch.of_below hBw)).self (ch_put _ _ HM2.out.d2)
 rw [← hw3];have c4 := HM3.out.c4;have f4 := HM3.out.soft 4;clear hw3 hSC hBC hoC hBw z0 f0;go_wp2_with fail;go_ret;refine ⟨by rw [HI.out]; rfl, ⟨_, ⟨sb, gp, cap, rfl, by rw [HS.out]; exact HM3.out.put 4 _ (S' := putS S k b) rfl rfl, by rw [HS.out]; exact ok_putD HK.out k HBL.out HBB.out⟩, fun x hx => ?_⟩, HC3.out.self (ch_put _ _ HM.out.d1)⟩;rcases hx with hx | hx
 ·exact .inl hx
 ·exact .inr (Nat.le_trans HC2.out.size (HNW.out x hx))
theorem write_armed (h : DM T D w sb gp cap S) (hok : S.ok) {k : Nat} (hr : refI S k = 0) (hk : k < S.bl.length) (hb : Bv w bv b) (hbl : b.length ≤ 1024) (hl : 0 < S.left) (hwr : S.wr < 9223372036854775807) :
  Calls Tryz.prog 154 #[.pointer (some ⟨sb, 0, none⟩), .int .i64 k, bv] w fun e w' => Wt T D w (.pointer (some ⟨sb, 0, none⟩)) S k b e w' := by
 have HM := hidH h;have HK : Hid S.ok := hok;have HR : Hid (refI S k = 0) := hr;have HBL : Hid (b.length ≤ 1024) := hbl;have HKL : Hid (k < S.bl.length) := hk;have HI : Hid (writeI S k b = 0) := by show _ = _; unfold writeI; rw [if_neg (fun e => e hr), if_neg (by omega), if_neg (by omega)]
 have HS : Hid (writeS S k b = putS S k b) := by show _ = _; unfold writeS; rw [if_neg (fun e => e hr), if_neg (by omega), if_neg (by omega)]; simp
 have HD : Hid (decL S.left = S.left - 1) := by show _ = _; unfold decL; rw [if_neg (by omega)]
 have HBB : Hid (∀ c ∈ b, c < 256) := hb.2;obtain ⟨w2, hw2⟩ : ∃ w2, w2 = w.setCell ⟨sb, 2, none⟩ (.int .i64 (S.left - 1)) := ⟨_, rfl⟩
 have HM2 : Hid (DM T D w2 sb gp cap { S with left := decL S.left }) := by
  show DM _ _ _ _ _ _ _;rw [hw2, HD.out];exact h.put 2 _ rfl rfl
 have HC2 : Hid (Ch D w w2) := by show Ch _ _ _; rw [hw2]; exact ch_put _ _ h.d1
 obtain ⟨bo, bc, rfl, _, _⟩ := bv_formD hb
 have HB2 : Hid (Bv w2 (.slice bo b.length bc) b) := by
  show Bv _ _ _;rw [hw2];exact bv_int hb h.c2
 obtain ⟨u0, z0, _⟩ := HM2.out.row.at (i := k) hk;have f0 := HM2.out.row.soft k;have x0 := HM2.out.c0;have hSd : Wq w2 sb gp k (.slice (some ⟨gp, 0, none⟩) S.bl.length cap) w2.drew := Wq.go (wx := w2) ⟨Ch.refl _ _, x0, ⟨u0, z0⟩, f0⟩ (below_drewN _ _);have HW2 : Hid (w2 = w.setCell ⟨sb, 2, none⟩ (.int .i64 (S.left - 1))) := hw2;have c2 := h.c2;have f2 := h.soft 2;have h64 := hok.n64;have hbi : (b.length : Int) ≤ 1024 := by omega
 have hbd : decide ((1024 : Int) < (b.length : Int)) = false := decide_eq_false (by omega);have hki : (k : Int) < (S.bl.length : Int) := by omega
 have r1 : IntKind.i64.wrap ((S.wr : Int) + 1) = (S.wr : Int) + 1 := wrapU (by omega) (by omega);have HLF : Hid (S.left < 9223372036854775808) := hok.l1;have r2 : IntKind.i64.wrap (S.left - 1) = S.left - 1 := wrapU (by omega) (by have := HLF.out; omega);have l0 : ¬ S.left = 0 := by omega
 have l1 : ¬ S.left = -1 := by omega
 have HNE : Hid (sb ≠ gp) := fun e => h.a1 e.symm;have j0 : ∀ wx, Wq w2 sb gp k (.slice (some ⟨gp, 0, none⟩) S.bl.length cap) wx → wx.cell? ⟨sb, 0, none⟩ = some (.slice (some ⟨gp, 0, none⟩) S.bl.length cap) := fun wx h => h.c0;clear h hok hr hk hb hbl hl hwr hw2 z0 f0 x0;go_in;go_wp2_with fail;refine (refuses_walk HM.out HK.out k).mono ?_;rintro e w9 ⟨rfl, h9⟩;have h9 := h9.symm;subst h9;rw [HR.out];go_wp2_with fail;rw [← HW2.out]
 go_region_held3 (fun wx => Wq w2 sb gp k (.slice (some ⟨gp, 0, none⟩) S.bl.length cap) wx) (first | assumption | exact Wq.set (by assumption) HNE.out _)
  (first
   | (go_at_call 131; refine (clone_walk (v := .slice bo b.length bc) (l := b) (HB2.out.below (below_drewN _ _)) (Nat.le_trans HBL.out (by omega))).mono ?_; rintro e wC ⟨u', rfl, hoC, hBC⟩; obtain ⟨qo, qc, hqv, _⟩ := row_form hoC; subst hqv; have hSC : Wq w2 sb gp k (.slice (some ⟨gp, 0, none⟩) S.bl.length cap) wC := Wq.go (by assumption) hBC; obtain ⟨u0, z0⟩ := hSC.at'; have f0 := hSC.soft))
 obtain ⟨w3, hw3⟩ : ∃ w3, w3 = wC.setCell ⟨gp, k, none⟩ (.slice qo b.length qc) := ⟨_, rfl⟩;have hBw : Below w2.heap.size w2 wC := below_trans (below_drewN w2 1) hBC
 have HM3 : Hid (DM T (fun x => D x ∨ (Value.slice qo b.length qc).ownBlock = some x) w3 sb gp cap { S with bl := S.bl.set k b, left := decL S.left }) := by
  show DM _ _ _ _ _ _ _;rw [hw3];exact HM2.out.setRow (Ch.of_below hBw) HKL.out hoC (Nat.le_refl _)
 have HNW : Hid (∀ x, (Value.slice qo b.length qc).ownBlock = some x → w2.heap.size ≤ x) := fun x hx => (hoC.lt x hx).1
 have HC3 : Hid (Ch D w w3) := by
  show Ch _ _ _;rw [hw3];exact (HC2.out.self (Ch.of_below hBw)).self (ch_put _ _ HM2.out.d2)
 rw [← hw3];have c4 := HM3.out.c4;have f4 := HM3.out.soft 4;clear hw3 hSC hBC hoC hBw z0 f0;go_wp2_with fail;go_ret;refine ⟨by rw [HI.out]; rfl, ⟨_, ⟨sb, gp, cap, rfl, by rw [HS.out]; exact HM3.out.put 4 _ (S' := putS S k b) rfl rfl, by rw [HS.out]; exact ok_putD HK.out k HBL.out HBB.out⟩, fun x hx => ?_⟩, HC3.out.self (ch_put _ _ HM.out.d1)⟩;rcases hx with hx | hx
 ·exact .inl hx
 ·exact .inr (Nat.le_trans HC2.out.size (HNW.out x hx))
theorem write_walk (h : Dsk T D w v S) (i : Int) (hb : Bv w bv b) (hwr : S.wr < 9223372036854775807) : Calls Tryz.prog 154 #[v, .int .i64 i, bv] w fun e w' => Wt T D w v S i b e w' := by
 have HW : Hid (Dsk T D w v S) := h;obtain ⟨sb, gp, cap, rfl, h, hok⟩ := h;have HM := hidH h;have HK : Hid S.ok := hok;by_cases hr : refI S i = 0
 ·obtain ⟨hdn, k, rfl, hk⟩ := ref_ok hr;by_cases hbl : b.length ≤ 1024
  ·by_cases hl0 : S.left = 0
   ·have HR : Hid (refI S k = 0) := hr;have HI : Hid (writeI S k b = 80) := by show _ = _; unfold writeI; rw [if_neg (fun e => e hr), if_neg (by omega), if_pos hl0]
    have HS : Hid (writeS S k b = offS S) := by show _ = _; unfold writeS; rw [if_neg (fun e => e hr), if_neg (by omega), if_pos hl0]
    obtain ⟨bo, bc, rfl, _, _⟩ := bv_formD hb;have c2 := h.c2;rw [hl0] at c2;have hbi : (b.length : Int) ≤ 1024 := by omega
    have hbd : decide ((1024 : Int) < (b.length : Int)) = false := decide_eq_false (by omega);clear h hok hr hk hb hbl hl0 hwr hdn;go_in;go_wp2_with fail;refine (refuses_walk HM.out HK.out k).mono ?_;rintro e w9 ⟨rfl, h9⟩;have h9 := h9.symm;subst h9;rw [HR.out];go_wp2_with fail;refine (off_walk HW.out).mono ?_;rintro e w2 ⟨rfl, hD, hC⟩;go_wp2_with fail;go_ret;exact ⟨by rw [HI.out]; rfl, ⟨D, by rw [HS.out]; exact hD, fun x hx => .inl hx⟩, hC⟩
   ·have hl0' := hok.l0;by_cases hl1 : S.left = -1
    ·exact write_free h hok hr hk hb hbl hl1 hwr
    ·exact write_armed h hok hr hk hb hbl (by omega) hwr
  ·have HR : Hid (refI S k = 0) := hr;have HA : Hid (Wt T D w (.pointer (some ⟨sb, 0, none⟩)) S k b (.returned (.int .i64 6)) w) := wt_same HW.out (by unfold writeI; rw [if_neg (fun e => e hr), if_pos (by omega)]) (by unfold writeS; rw [if_neg (fun e => e hr), if_pos (by omega)]);obtain ⟨bo, bc, rfl, _, _⟩ := bv_formD hb;have hbi : (1024 : Int) < (b.length : Int) := by omega
   clear h hok hr hk hb hbl hwr hdn;go_in;go_wp2_with fail;refine (refuses_walk HM.out HK.out k).mono ?_;rintro e w9 ⟨rfl, h9⟩;have h9 := h9.symm;subst h9;rw [HR.out];go_wp2_with fail;go_ret;exact HA.out
 ·have HA : Hid (Wt T D w (.pointer (some ⟨sb, 0, none⟩)) S i b (.returned (.int .i64 (refI S i))) w) := wt_same HW.out (by unfold writeI; rw [if_pos hr]) (by unfold writeS; rw [if_pos hr]);obtain ⟨q, hq⟩ : ∃ q, q = refI S i := ⟨_, rfl⟩;rw [← hq] at HA hr;have HQ : Hid (q = refI S i) := hq;clear hq h hok hb hwr;go_in;go_wp2_with fail;refine (refuses_walk HM.out HK.out i).mono ?_;rintro e w9 ⟨rfl, h9⟩;have h9 := h9.symm;subst h9;rw [← HQ.out];go_wp2_with fail;go_ret;exact HA.out
end
end
end Go.Proofs.YtcmklbibehnloaaGreat
