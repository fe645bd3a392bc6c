/- Form and Again: the program's and the reference's. -/
import Derived.Test.YtombjgfajbhbbaaGreatB21
set_option maxRecDepth 100000
set_option maxHeartbeats 16000000
namespace Go.Proofs.YtombjgfajbhbbaaGreat
open Go.RowKit
section
open Ieee Go.RowKit

section

variable {D : Nat → Prop} {w : World} {v lv av bv : Value} {S : Sc} {l a b : List Int}

def Bw (w : World) (S : Sc) (a b : List Int) (rv iv : Value) (wr : World) : Prop :=
 ∃ k : Nat, k ≤ a.length ∧ iv = .int .i64 k ∧ wr.ownsRow w.heap.size 43 2 rv (betS S a b k).length (flatR (betS S a b k)) ∧ Below w.heap.size w wr
theorem own_below {w w' : World} {base e s n : Nat} {v : Value} {xs : List Value} (h : w.ownsRow base e s v n xs) (hb : Below w.heap.size w w') : w'.ownsRow base e s v n xs := row_keep h (fun x hx => hb.block x (h.lt x hx).2)
theorem bw_step {w' : World} {k : Nat} {rv : Value} {n : Nat} (hlt : k < a.length) (ho : w'.ownsRow w.heap.size 43 2 rv n (flatR (betS S a b k ++ ((S.logs k).drop (nth a k).toNat).take ((nth b k).toNat - (nth a k).toNat)))) (hB : Below w.heap.size w w') :
  Bw w S a b rv (.int .i64 ((k : Int) + 1)) w' := by
 refine ⟨k + 1, hlt, by simp, ?_, hB⟩;have hn : n = (betS S a b (k + 1)).length := by have := ho.1; rw [flatR_len] at this; simp only [betS]; omega
 rw [← hn];exact ho
theorem between_walk (h : Src D w v S) (ha : Nv w av a) (hb : Nv w bv b) (hfa : Fit S a) (hfb : Fit S b) (hf : Fwd a b) :
  Calls Tryz.prog 118 #[v, av, bv] w fun e w' => ∃ r, e = .returned r ∧ w'.ownsRow w.heap.size 43 2 r (betS S a b a.length).length (flatR (betS S a b a.length)) ∧ Below w.heap.size w w' := by
 have HS : Hid (Src D w v S) := h;have HA : Hid (Nv w av a) := ha;have HB : Hid (Nv w bv b) := hb;have HFA : Hid (Fit S a) := hfa;have HFB : Hid (Fit S b) := hfb;have HF : Hid (Fwd a b) := hf;obtain ⟨ao, ca, rfl, hla, _⟩ := ha.form;obtain ⟨bo, cb, rfl, hlb, _⟩ := hb.form;have HK : Hid S.ok := h.good;clear ha hb h hfa hfb hf;go_in;go_wp2_with fail;go_loopw [7, 11] (fun rv iv wr => Bw w S a b rv iv wr) (fun _ iv _ => a.length - (intOf iv).toNat)
 case atStart => exact ⟨0, Nat.zero_le _, rfl, World.ownsRow_nil _ _ _ _, below_same _⟩
 case round =>
  obtain ⟨k, hk, rfl, hO, hB⟩ := hrel;have HW := hidH hB;have HO := hidH hO;clear hB hO;by_cases hlt : k < a.length
  ·have hltb : k < b.length := by have := HF.out.1; omega
   have hkn : k < S.np := by have := HFA.out.1; omega
   obtain ⟨g, off, rfl, c0⟩ := HA.out.at hlt;obtain ⟨d, doff, rfl, d0⟩ := HB.out.at hltb;obtain ⟨X, hX⟩ : ∃ X : Nat, (X : Int) = nth a k := ⟨(nth a k).toNat, by have := HFA.out.2 k hlt; omega⟩;obtain ⟨Y, hY⟩ : ∃ Y : Nat, (Y : Int) = nth b k := ⟨(nth b k).toNat, by have := HFB.out.2 k hltb; omega⟩;rw [← hX] at c0;rw [← hY] at d0;have hXY : X ≤ Y := by have := HF.out.2 k hlt; omega
   have hYn : Y ≤ (S.logs k).length := by have := (HFB.out.2 k hltb).2; rw [lenS_at hkn] at this; omega
   have HXY : Hid (X ≤ Y ∧ Y ≤ (S.logs k).length) := ⟨hXY, hYn⟩;have HX : Hid ((X : Int) = nth a k) := hX;have HY : Hid ((Y : Int) = nth b k) := hY;have HLG : Hid (logS S k = S.logs k) := logS_at hkn;have hl256 : (S.logs k).length ≤ 256 := HK.out.len k;have hlti : (k : Int) < (a.length : Int) := by omega
   have hltbi : (k : Int) < (b.length : Int) := by omega
   have hXYi : (X : Int) ≤ (Y : Int) := by omega
   have j0 : ∀ wx, Below w.heap.size w wx → wx.cell? ⟨g, off + k, none⟩ = some (.int .i64 (X : Int)) := fun wx hb => by rw [hb.cell (p := ⟨g, off + k, none⟩) (cell_lt c0)]; exact c0
   have j1 : ∀ wx, Below w.heap.size w wx → wx.cell? ⟨d, doff + k, none⟩ = some (.int .i64 (Y : Int)) := fun wx hb => by rw [hb.cell (p := ⟨d, doff + k, none⟩) (cell_lt d0)]; exact d0
   have HBL : Hid ((betS S a b k).length ≤ 4 * 256) := by show _ ≤ _; have := betS_le HK.out a b k; have := HK.out.np4; omega
   have hSd : Below w.heap.size w wr.drew := HW.out.drew;clear c0 d0 hX hY hXY hYn;go_wp2_with fail
   go_region_held3 (fun wx => Below w.heap.size w wx) (assumption)
    (first
     | (go_at_call 156; refine (log_walk (HS.out.below (by assumption)) k).mono ?_; rw [HLG.out]; rintro e w5 ⟨lr, rfl, hlr, hB5⟩; have HR5 : Hid (Rv w5 lr (S.logs k)) := own_rv hlr (HK.out.rok k); obtain ⟨lo, lc, hlv, hnc, _⟩ := row_form hlr; subst hlv; clear hlr; have hYc : (Y : Int) ≤ (lc : Int) := (by have := HXY.out; omega); have hS5 : Below w.heap.size w w5 := below_trans (by assumption) hB5; have HO5 : Hid (w5.ownsRow w.heap.size 43 2 u7 (betS S a b k).length (flatR (betS S a b k))) := own_below HO.out (below_trans (below_drewN _ _) hB5))
     | (refine step_app_rv rfl (.tmp 14) (.tmp 26) 85 rfl w.heap.size 43 Tryz.underlying85 info_rec u7 _ (betS S a b k) (by simp [Act.eval]) HO5.out _ (((S.logs k).drop X).take (Y - X)) (by simp [Act.eval]) (cut_piece HR5.out HXY.out.1 HXY.out.2) (by (have := HBL.out); simp; omega) hS5.size ?_; intro v' w7 g1 g2; have hS7 : Below w.heap.size w w7 := hS5.grown g2 hS5.size (fun x hx => (HO5.out.lt x hx).1)))
   all_goals go_wp2_with fail
   all_goals go_roundw
   all_goals first
    | exact bw_step hlt (by rw [← HX.out, ← HY.out]; exact g1) hS7
    | (simp [intOf]; omega)
  ·have hke : k = a.length := by omega
   have hnl : ¬ ((k : Int) < (a.length : Int)) := by omega
   have HKE : Hid (k = a.length) := hke;clear hke;go_wp2_with fail;go_ret;exact ⟨u7, rfl, HKE.out ▸ HO.out, HW.out⟩
theorem rbetween_walk (h : Rs D w v S) (ha : Nv w av a) (hb : Nv w bv b) (hfa : Fit S a) (hfb : Fit S b) (hf : Fwd a b) :
  Calls Tryz.prog 104 #[v, av, bv] w fun e w' => ∃ r, e = .returned r ∧ w'.ownsRow w.heap.size 43 2 r (betS S a b a.length).length (flatR (betS S a b a.length)) ∧ Below w.heap.size w w' := by
 have HS : Hid (Rs D w v S) := h;have HA : Hid (Nv w av a) := ha;have HB : Hid (Nv w bv b) := hb;have HFA : Hid (Fit S a) := hfa;have HFB : Hid (Fit S b) := hfb;have HF : Hid (Fwd a b) := hf;obtain ⟨ao, ca, rfl, hla, _⟩ := ha.form;obtain ⟨bo, cb, rfl, hlb, _⟩ := hb.form;have HK : Hid S.ok := h.good;clear ha hb h hfa hfb hf;go_in;go_wp2_with fail;go_loopw [7, 8] (fun rv iv wr => Bw w S a b rv iv wr) (fun _ iv _ => a.length - (intOf iv).toNat)
 case atStart => exact ⟨0, Nat.zero_le _, rfl, World.ownsRow_made w #[] 0 (Nat.le_refl _) (by simp [maxLen]) (by simp), below_alloc _ _⟩
 case round =>
  obtain ⟨k, hk, rfl, hO, hB⟩ := hrel;have HW := hidH hB;have HO := hidH hO;clear hB hO;by_cases hlt : k < a.length
  ·have hltb : k < b.length := by have := HF.out.1; omega
   have hkn : k < S.np := by have := HFA.out.1; omega
   obtain ⟨g, off, rfl, c0⟩ := HA.out.at hlt;obtain ⟨d, doff, rfl, d0⟩ := HB.out.at hltb;obtain ⟨X, hX⟩ : ∃ X : Nat, (X : Int) = nth a k := ⟨(nth a k).toNat, by have := HFA.out.2 k hlt; omega⟩;obtain ⟨Y, hY⟩ : ∃ Y : Nat, (Y : Int) = nth b k := ⟨(nth b k).toNat, by have := HFB.out.2 k hltb; omega⟩;rw [← hX] at c0;rw [← hY] at d0;have hXY : X ≤ Y := by have := HF.out.2 k hlt; omega
   have hYn : Y ≤ (S.logs k).length := by have := (HFB.out.2 k hltb).2; rw [lenS_at hkn] at this; omega
   have HXY : Hid (X ≤ Y ∧ Y ≤ (S.logs k).length) := ⟨hXY, hYn⟩;have HX : Hid ((X : Int) = nth a k) := hX;have HY : Hid ((Y : Int) = nth b k) := hY;have HLG : Hid (logS S k = S.logs k) := logS_at hkn;have hl256 : (S.logs k).length ≤ 256 := HK.out.len k;have hlti : (k : Int) < (a.length : Int) := by omega
   have hltbi : (k : Int) < (b.length : Int) := by omega
   have hXYi : (X : Int) ≤ (Y : Int) := by omega
   have j0 : ∀ wx, Below w.heap.size w wx → wx.cell? ⟨g, off + k, none⟩ = some (.int .i64 (X : Int)) := fun wx hb => by rw [hb.cell (p := ⟨g, off + k, none⟩) (cell_lt c0)]; exact c0
   have j1 : ∀ wx, Below w.heap.size w wx → wx.cell? ⟨d, doff + k, none⟩ = some (.int .i64 (Y : Int)) := fun wx hb => by rw [hb.cell (p := ⟨d, doff + k, none⟩) (cell_lt d0)]; exact d0
   have HBL : Hid ((betS S a b k).length ≤ 4 * 256) := by show _ ≤ _; have := betS_le HK.out a b k; have := HK.out.np4; omega
   clear c0 d0 hX hY hXY hYn;go_wp2_with fail;refine (rlog_walk (HS.out.below HW.out) k).mono ?_;rw [HLG.out];rintro e w5 ⟨lr, rfl, hlr, hB5⟩;have HR5 : Hid (Rv w5 lr (S.logs k)) := own_rv hlr (HK.out.rok k);obtain ⟨lo, lc, hlv, hnc, _⟩ := row_form hlr;subst hlv;have hYc : (Y : Int) ≤ (lc : Int) := by have := HXY.out; omega
   have HS5 := hidH (below_trans HW.out hB5);have HO5 : Hid (w5.ownsRow w.heap.size 43 2 u7 (betS S a b k).length (flatR (betS S a b k))) := own_below HO.out hB5;have hSd : Below w.heap.size w w5.drew := HS5.out.drew;have HR6 : Hid (Rv w5.drew (.slice lo (S.logs k).length lc) (S.logs k)) := HR5.out.below (below_drewN _ _);have HO6 : Hid (w5.drew.ownsRow w.heap.size 43 2 u7 (betS S a b k).length (flatR (betS S a b k))) := own_below HO5.out (below_drewN _ _);clear hlr hB5;go_wp2_with fail
   go_region_held3 (fun wx => Below w.heap.size w wx) (assumption)
    (first
     | (refine step_app_rv rfl (.tmp 20) (.tmp 30) 85 rfl w.heap.size 43 Tryz.underlying85 info_rec u7 _ (betS S a b k) (by simp [Act.eval]) HO6.out _ (((S.logs k).drop X).take (Y - X)) (by simp [Act.eval]) (cut_piece HR6.out HXY.out.1 HXY.out.2) (by (have := HBL.out); simp; omega) hSd.size ?_; intro v' w7 g1 g2; have hS7 : Below w.heap.size w w7 := hSd.grown g2 hSd.size (fun x hx => (HO6.out.lt x hx).1)))
   all_goals go_wp2_with fail
   all_goals go_roundw
   all_goals first
    | exact bw_step hlt (by rw [← HX.out, ← HY.out]; exact g1) hS7
    | (simp [intOf]; omega)
  ·have hke : k = a.length := by omega
   have hnl : ¬ ((k : Int) < (a.length : Int)) := by omega
   have HKE : Hid (k = a.length) := hke;clear hke;go_wp2_with fail;go_ret;exact ⟨u7, rfl, HKE.out ▸ HO.out, HW.out⟩
end
end
section
open Ieee Go.RowKit

def endS (S : Sc) (a : List Int) (m : Int) (p : Nat) : Int := if upS S p then min (nth a p + m) (lenS S p) else nth a p
def mixT (S : Sc) (a : List Int) (m : Int) (k : Nat) : List Int := (List.range a.length).map fun p => if p < k then endS S a m p else nth a p
def formT (S : Sc) (a : List Int) (m : Int) : List Int := mixT S a m a.length
def formI (S : Sc) (a : List Int) (m : Int) : Int := if m < 1 ∨ 16 < m then 1 else if fitB S a = true then 0 else 70
def formL (S : Sc) (a : List Int) (m : Int) : List Int := if formI S a m = 0 then formT S a m else []
def formR (S : Sc) (a : List Int) (m : Int) : List Rcd := if formI S a m = 0 then betS S a (formT S a m) a.length else []
theorem mix_len (S : Sc) (a : List Int) (m : Int) (k : Nat) : (mixT S a m k).length = a.length := by simp [mixT]
theorem mix_nth (S : Sc) (a : List Int) (m : Int) (k : Nat) {i : Nat} (hi : i < a.length) : nth (mixT S a m k) i = if i < k then endS S a m i else nth a i := by
 rw [nth_at (by rw [mix_len]; exact hi)];simp [mixT]
theorem mix_zero (S : Sc) (a : List Int) (m : Int) : mixT S a m 0 = a := by
 refine nth_ext (mix_len _ _ _ _) fun i hi => ?_;rw [mix_len] at hi;rw [mix_nth _ _ _ _ hi, if_neg (by omega)]
theorem mix_set (S : Sc) (a : List Int) (m : Int) (k : Nat) : (mixT S a m k).set k (endS S a m k) = mixT S a m (k + 1) := by
 refine nth_ext (by simp [mix_len]) fun i hi => ?_;have hl : i < a.length := by simpa [mix_len] using hi
 rw [mix_nth _ _ _ _ hl, nth_at hi];by_cases hik : k = i
 ·subst hik;rw [List.getElem_set_self, if_pos (by omega)]
 ·rw [List.getElem_set_ne hik, ← nth_at (by rw [mix_len]; exact hl), mix_nth _ _ _ _ hl];by_cases h : i < k
  ·rw [if_pos h, if_pos (by omega)]
  ·rw [if_neg h, if_neg (by omega)]
theorem mix_same (S : Sc) (a : List Int) (m : Int) {k : Nat} (hk : endS S a m k = nth a k) : mixT S a m k = mixT S a m (k + 1) := by
 refine nth_ext (by simp [mix_len]) fun i hi => ?_;rw [mix_len] at hi;rw [mix_nth _ _ _ _ hi, mix_nth _ _ _ _ hi];by_cases hik : i = k
 ·subst hik; rw [if_neg (by omega), if_pos (by omega), hk]
 ·by_cases h : i < k
  ·rw [if_pos h, if_pos (by omega)]
  ·rw [if_neg h, if_neg (by omega)]
theorem form_len (S : Sc) (a : List Int) (m : Int) : (formT S a m).length = a.length := mix_len _ _ _ _
theorem form_nth (S : Sc) (a : List Int) (m : Int) {i : Nat} (hi : i < a.length) : nth (formT S a m) i = endS S a m i := by
 unfold formT; rw [mix_nth _ _ _ _ hi, if_pos hi]
theorem end_bound {S : Sc} {a : List Int} {m : Int} (hf : Fit S a) (hm : 1 ≤ m) {i : Nat} (hi : i < a.length) : nth a i ≤ endS S a m i ∧ endS S a m i ≤ lenS S i := by
 have := hf.2 i hi;unfold endS
 split <;> omega
theorem form_fit {S : Sc} {a : List Int} {m : Int} (hf : Fit S a) (hm : 1 ≤ m) : Fit S (formT S a m) := by
 refine ⟨by rw [form_len]; exact hf.1, fun i hi => ?_⟩;rw [form_len] at hi;rw [form_nth _ _ _ hi];have := hf.2 i hi;have := end_bound hf hm hi;omega
theorem form_fwd {S : Sc} {a : List Int} {m : Int} (hf : Fit S a) (hm : 1 ≤ m) : Fwd a (formT S a m) := by
 refine ⟨(form_len _ _ _).symm, fun i hi => ?_⟩;rw [form_nth _ _ _ hi];exact (end_bound hf hm hi).1
theorem mix_in64 {S : Sc} {a : List Int} {m : Int} (hok : S.ok) (hf : Fit S a) (hm : 1 ≤ m) (k : Nat) : In64 (mixT S a m k) := by
 intro x hx;obtain ⟨i, hi, rfl⟩ := List.getElem_of_mem hx;rw [← nth_at hi];rw [mix_len] at hi;rw [mix_nth _ _ _ _ hi];have h1 := hf.2 i hi;have h2 := end_bound hf hm hi;have := lenS_le hok i
 split <;> omega
theorem form_in64 {S : Sc} {a : List Int} {m : Int} (hok : S.ok) (hf : Fit S a) (hm : 1 ≤ m) : In64 (formT S a m) := mix_in64 hok hf hm _
theorem mix_snoc (S : Sc) (a : List Int) (m : Int) {k : Nat} (hk : k < a.length) : (formT S a m).take k ++ [endS S a m k] = (formT S a m).take (k + 1) := by
 rw [List.take_succ_eq_append_getElem (by rw [form_len]; exact hk), ← nth_at (by rw [form_len]; exact hk), form_nth _ _ _ hk]
section

variable {D : Nat → Prop} {w : World} {v av bv : Value} {S : Sc} {a b : List Int} {m : Int}

def Fo (w : World) (S : Sc) (a : List Int) (m : Int) (e : Ending) (w' : World) : Prop :=
 ∃ tv rv, e = .returned (.tuple #[tv, rv, .int .i64 (formI S a m)]) ∧ w'.ownsRow w.heap.size 3 1 tv (formL S a m).length (cellsN (formL S a m)) ∧ w'.ownsRow w.heap.size 43 2 rv (formR S a m).length (flatR (formR S a m)) ∧
  (∀ x, tv.ownBlock = some x → rv.ownBlock ≠ some x) ∧ Below w.heap.size w w'
theorem fo_bad {w' : World} {c : Int} (h : formI S a m = c) (hc : c ≠ 0) (hB : Below w.heap.size w w') : Fo w S a m (.returned (.tuple #[.slice none 0 0, .slice none 0 0, .int .i64 c])) w' := by
 subst h;refine ⟨_, _, rfl, ?_, ?_, fun x hx => by simp [Value.ownBlock] at hx, hB⟩
 ·unfold formL; rw [if_neg hc]; exact World.ownsRow_nil _ _ _ _
 ·unfold formR; rw [if_neg hc]; exact World.ownsRow_nil _ _ _ _
theorem form_walk (h : Src D w v S) (ha : Nv w av a) :
  Calls Tryz.prog 92 #[v, av, .int .i64 m] w fun e w' => Fo w S a m e w' := by
 have HS : Hid (Src D w v S) := h;have HA : Hid (Nv w av a) := ha;have HK : Hid S.ok := h.good;obtain ⟨ao, ca, rfl, hla, _⟩ := ha.form;have hv : ∃ sb, v = .pointer (some ⟨sb, 0, none⟩) := by obtain ⟨sb, _, _, _, _, e, _⟩ := h; exact ⟨sb, e⟩
 obtain ⟨sb, rfl⟩ := hv;clear h ha;by_cases hm : m < 1 ∨ 16 < m
 ·have HI : Hid (formI S a m = 1) := by show _ = _; unfold formI; rw [if_pos hm]
  by_cases hm1 : m < 1
  ·clear hm;go_in;go_wp2_with fail;go_ret3;exact fo_bad HI.out (by omega) (below_same _)
  ·have hm2 : 16 < m := by omega
   clear hm;go_in;go_wp2_with fail;go_ret3;exact fo_bad HI.out (by omega) (below_same _)
 ·have hm1 : ¬ m < 1 := by omega
  have hm2 : ¬ 16 < m := by omega
  by_cases hf : Fit S a
  ·have HI : Hid (formI S a m = 0) := by show _ = _; unfold formI; rw [if_neg hm, if_pos hf.yes]
   have HF : Hid (Fit S a) := hf;have HD : Hid (fitB S a = true) := Fit.yes hf;have hm1' : 1 ≤ m := by omega
   have hm2' : m ≤ 16 := by omega
   have hla4 : a.length ≤ 4 := by have := hf.1; have := HK.out.np4; omega
   have hla1 : 1 ≤ a.length := by have := hf.1; have := HK.out.np1; omega
   clear hf hm;go_in;go_wp2_with fail;refine (fits_walk HS.out HA.out).mono ?_;rw [HD.out];rintro e w1 ⟨rfl, hB1⟩;have HW1 := hidH hB1;clear hB1;go_wp2_with fail;refine (cloneN_walk (HA.out.below HW1.out) (by omega)).mono ?_;rintro e w2 ⟨tv, rfl, ht, hB2⟩;have HW2 := hidH (below_trans HW1.out hB2)
   have hgc : ∃ g2 cap2, tv = .slice (some ⟨g2, 0, none⟩) a.length cap2 := by
    rcases ht.2 with ⟨_, h0⟩ | ⟨g2, cap2, cur, e, _⟩
    ·omega
    ·exact ⟨g2, cap2, e⟩
   obtain ⟨g2, cap2, rfl⟩ := hgc;obtain ⟨hz, hg2, _⟩ := own_zw ht;have HZ : Hid (Zw w2 g2 cap2 (mixT S a m 0)) := by rw [mix_zero]; exact hz
   have HG : Hid (w.heap.size ≤ g2) := Nat.le_trans HW1.out.size hg2;clear hz hg2 ht hB2;go_wp2_with fail;go_loopw [27] (fun iv wr => ∃ k : Nat, k ≤ a.length ∧ iv = .int .i64 k ∧ Zw wr g2 cap2 (mixT S a m k) ∧ Below w.heap.size w wr) (fun iv _ => a.length - (intOf iv).toNat)
   case atStart => exact ⟨0, Nat.zero_le _, rfl, HZ.out, HW2.out⟩
   case round =>
    obtain ⟨k, hk, rfl, hZ, hB⟩ := hrel;have HZK := hidH hZ;have HW := hidH hB;clear hZ hB;by_cases hlt : k < a.length
    ·have hlti : (k : Int) < (a.length : Int) := by omega
     cases hup : upS S k
     ·have HE : Hid (mixT S a m k = mixT S a m (k + 1)) := mix_same S a m (by unfold endS; rw [hup]; rfl);have HU : Hid (upS S k = false) := hup;clear hup;go_wp2_with (go_at_call 116; refine (up_walk (HS.out.below HW.out) k).mono ?_; rw [HU.out]; rintro e w9 ⟨rfl, h9⟩; have h9 := h9.symm; subst h9);go_roundw
      case rel => exact ⟨k + 1, by omega, by go_num, HE.out ▸ HZK.out, HW.out⟩
      case measure => simp [intOf]; omega
     ·have HU : Hid (upS S k = true) := hup;obtain ⟨g, off, rfl, c0⟩ := HA.out.at hlt;obtain ⟨x, hx⟩ : ∃ x, x = nth a k := ⟨_, rfl⟩;rw [← hx] at c0;obtain ⟨n, hn⟩ : ∃ n, n = lenS S k := ⟨_, rfl⟩;have HN : Hid (n = lenS S k) := hn;have hxb := HF.out.2 k hlt;rw [← hx, ← hn] at hxb;obtain ⟨hx0, hxn⟩ := hxb;have hn256 : n ≤ 256 := by rw [hn]; exact lenS_le HK.out _
      obtain ⟨z, hz⟩ : ∃ z : Int, (if (n : Int) < x + m then (n : Int) else x + m) = z := ⟨_, rfl⟩;have HE : Hid (endS S a m k = z) := by show _ = _; unfold endS; rw [hup, if_pos rfl, ← hx, ← hn, ← hz]; split <;> omega
      have r1 : IntKind.i64.wrap (x + m) = x + m := wrapU (by omega) (by omega);have j0 : ∀ wx, Below w.heap.size w wx → wx.cell? ⟨g, off + k, none⟩ = some (.int .i64 x) := fun wx hb => by rw [hb.cell (p := ⟨g, off + k, none⟩) (cell_lt c0)]; exact c0
      have d0 : wr.cell? ⟨g2, k, none⟩ = some (.int .i64 (nth (mixT S a m k) k)) := HZK.out.cell (by rw [mix_len]; exact hlt);have d1 : wr.frozen? ⟨g2, k, none⟩ = false := HZK.out.soft k;have hSd : Below w.heap.size w wr.drew := HW.out.drew;clear c0 hx hn hup;go_wp2_with (go_at_call 116; refine (up_walk (HS.out.below HW.out) k).mono ?_; rw [HU.out]; rintro e w9 ⟨rfl, h9⟩; have h9 := h9.symm; subst h9)
      go_region_held3 (fun wx => Below w.heap.size w wx) (first | assumption | exact (HW.out.setCell (p := ⟨g2, k, none⟩) HG.out _).drew)
       (first
        | (go_at_call 117; refine (len_walk (HS.out.below (by assumption)) k).mono ?_; rw [← HN.out]; rintro e w9 ⟨rfl, h9⟩; have h9 := h9.symm; subst h9))
      all_goals go_wp2_with fail
      all_goals go_roundw
      all_goals first
       | exact ⟨k + 1, by omega, by go_num, by rw [← mix_set, HE.out]; exact HZK.out.set (by rw [mix_len]; exact hlt) z, (HW.out.setCell (p := ⟨g2, k, none⟩) HG.out _).drew⟩
       | (simp [intOf]; omega)
    ·have hke : k = a.length := by omega
     have hnl : ¬ ((k : Int) < (a.length : Int)) := by omega
     subst hke
     have HNT : Hid (Nv wr (.slice (some ⟨g2, 0, none⟩) a.length cap2) (formT S a m)) := by
      have := HZK.out.nv (mix_in64 HK.out HF.out hm1' _);rw [mix_len] at this;exact this
     go_wp2_with fail;refine (between_walk (HS.out.below HW.out) (HA.out.below HW.out) HNT.out HF.out (form_fit HF.out hm1') (form_fwd HF.out hm1')).mono ?_;rintro e w3 ⟨rv, rfl, hr, hB3⟩;go_wp2_with fail;go_ret3;have ho := HZK.out.own HG.out;rw [mix_len] at ho;refine ⟨_, rv, by rw [HI.out]; rfl, ?_, ?_, ?_, below_trans HW.out hB3⟩
     ·unfold formL; rw [HI.out, if_pos rfl, form_len]; exact own_below ho hB3
     ·unfold formR; rw [HI.out, if_pos rfl]; exact row_base hr (fun x hx => Nat.le_trans HW.out.size (hr.lt x hx).1)
     ·intro x hx hy;have h1 := (ho.lt x hx).2;have h2 := (hr.lt x hy).1;omega
  ·have HI : Hid (formI S a m = 70) := by show _ = _; unfold formI; rw [if_neg hm, if_neg (fun h => hf (Fit.of h))]
   have HD : Hid (fitB S a = false) := Fit.no hf;clear hf hm;go_in;go_wp2_with fail;refine (fits_walk HS.out HA.out).mono ?_;rw [HD.out];rintro e w1 ⟨rfl, hB1⟩;go_wp2_with fail;go_ret3;exact fo_bad HI.out (by omega) hB1
theorem nv_one (w : World) (x : Int) (hx : -9223372036854775808 ≤ x ∧ x < 9223372036854775808) (t : TypeId) : Nv (w.alloc (Obj.cells #[.int .i64 x] t)) (.slice (some ⟨w.heap.size, 0, none⟩) 1 1) [x] := by
 refine ⟨⟨_, 1, rfl, by simp, by simp [maxLen], by simp, fun i hi => ?_⟩, fun y hy => by simp at hy; subst hy; exact hx⟩;have : i = 0 := by simpa using hi
 subst this;exact ⟨_, _, rfl, by simp [go_sem, nth]⟩
def Rf (w : World) (S : Sc) (a : List Int) (m : Int) (tv iv : Value) (wr : World) : Prop :=
 ∃ k : Nat, k ≤ a.length ∧ iv = .int .i64 k ∧ wr.ownsRow w.heap.size 3 1 tv k (cellsN ((formT S a m).take k)) ∧ Below w.heap.size w wr
theorem rf_step {k : Nat} {E : Int} {tv v' : Value} {wx w7 : World} {o : Obj} (hlt : k < a.length) (hE : endS S a m k = E) (hO : wx.ownsRow w.heap.size 3 1 tv k (cellsN ((formT S a m).take k))) (hB : Below w.heap.size w wx)
  (g1 : w7.ownsRow w.heap.size 3 1 v' (k + [E].length) (cellsN ((formT S a m).take k ++ [E]))) (g2 : (wx.alloc o).grownBy w7 tv.ownBlock) : Rf w S a m v' (.int .i64 ((k : Int) + 1)) w7 := by
 refine ⟨k + 1, hlt, by simp, ?_, ?_⟩
 ·rw [← mix_snoc S a m hlt, hE]; exact g1
 ·have hs := hB.size;exact (hB.alloc hs o).grown g2 (by simp; omega) (fun x hx => (hO.lt x hx).1)
theorem rform_walk (h : Rs D w v S) (ha : Nv w av a) :
  Calls Tryz.prog 76 #[v, av, .int .i64 m] w fun e w' => Fo w S a m e w' := by
 have HS : Hid (Rs D w v S) := h;have HA : Hid (Nv w av a) := ha;have HK : Hid S.ok := h.good;obtain ⟨ao, ca, rfl, hla, _⟩ := ha.form;have hv : ∃ sb, v = .pointer (some ⟨sb, 0, none⟩) := by obtain ⟨sb, _, _, _, _, e, _⟩ := h; exact ⟨sb, e⟩
 obtain ⟨sb, rfl⟩ := hv;clear h ha;by_cases hm : m < 1 ∨ 16 < m
 ·have HI : Hid (formI S a m = 1) := by show _ = _; unfold formI; rw [if_pos hm]
  by_cases hm1 : m < 1
  ·clear hm;go_in;go_wp2_with fail;go_ret3;exact fo_bad HI.out (by omega) (below_same _)
  ·have hm2 : 16 < m := by omega
   clear hm;go_in;go_wp2_with fail;go_ret3;exact fo_bad HI.out (by omega) (below_same _)
 ·have hm1 : ¬ m < 1 := by omega
  have hm2 : ¬ 16 < m := by omega
  by_cases hf : Fit S a
  ·have HI : Hid (formI S a m = 0) := by show _ = _; unfold formI; rw [if_neg hm, if_pos hf.yes]
   have HF : Hid (Fit S a) := hf;have HD : Hid (fitB S a = true) := Fit.yes hf;have hm1' : 1 ≤ m := by omega
   have hm2' : m ≤ 16 := by omega
   have hla4 : a.length ≤ 4 := by have := hf.1; have := HK.out.np4; omega
   clear hf hm;go_in;go_wp2_with fail;refine (rfits_walk HS.out HA.out).mono ?_;rw [HD.out];rintro e w1 ⟨rfl, hB1⟩;have HW1 := hidH hB1;clear hB1;go_wp2_with fail;go_loopw [9, 10] (fun tv iv wr => Rf w S a m tv iv wr) (fun _ iv _ => a.length - (intOf iv).toNat)
   case atStart => exact ⟨0, Nat.zero_le _, rfl, World.ownsRow_made w1 #[] 0 HW1.out.size (by simp [maxLen]) (by simp), HW1.out.alloc HW1.out.size _⟩
   case round =>
    obtain ⟨k, hk, rfl, hO, hB⟩ := hrel;have HO := hidH hO;have HW := hidH hB;clear hO hB;by_cases hlt : k < a.length
    ·have hlti : (k : Int) < (a.length : Int) := by omega
     obtain ⟨g, off, rfl, c0⟩ := (HA.out.below HW.out).at hlt;obtain ⟨x, hx⟩ : ∃ x, x = nth a k := ⟨_, rfl⟩;rw [← hx] at c0;have HX : Hid (x = nth a k) := hx;obtain ⟨n, hn⟩ : ∃ n, n = lenS S k := ⟨_, rfl⟩;have HN : Hid (n = lenS S k) := hn;obtain ⟨u, hu⟩ : ∃ u, u = upS S k := ⟨_, rfl⟩;have HU : Hid (u = upS S k) := hu;have hxb := HF.out.2 k hlt;rw [← hx, ← hn] at hxb;obtain ⟨hx0, hxn⟩ := hxb;have hn256 : n ≤ 256 := by rw [hn]; exact lenS_le HK.out _
     clear hx hn hu;go_wp2_with fail;go_loopw [11, 12] (fun ev iv wx => ∃ i : Nat, (i : Int) ≤ m ∧ iv = .int .i64 i ∧ ev = .int .i64 (x + i) ∧ (0 < i → u = true) ∧ x + i ≤ (n : Int) ∧ wx.ownsRow w.heap.size 3 1 u9 k (cellsN ((formT S a m).take k)) ∧ Below w.heap.size w wx) (fun _ iv _ => (m - intOf iv).toNat)
     case atStart => exact ⟨0, by omega, rfl, by simp, by omega, by omega, HO.out, HW.out⟩
     case round =>
      obtain ⟨i, him, hiv, hev, hiu, hxi, hO, hB⟩ := hrel;subst hiv;subst hev;clear HO HW;have HOX := hidH hO;have HWX := hidH hB;have HE64 : Hid (-9223372036854775808 ≤ x + (i : Int) ∧ x + (i : Int) < 9223372036854775808) := ⟨by omega, by omega⟩;have HIU : Hid (0 < i → u = true) := hiu;clear hO hB hiu;have r1 : IntKind.i64.wrap (x + (i : Int) + 1) = x + (i : Int) + 1 := wrapU (by omega) (by omega);by_cases h1 : (i : Int) < m
      ·cases u
       ·have HE : Hid (endS S a m k = x + i) := by
         show _ = _;unfold endS;rw [← HU.out, ← HX.out];have : ¬ 0 < i := fun h => by have := HIU.out h; simp at this
         rw [if_neg (by simp)]; omega
        go_wp2_with (first
          | (go_at_call 102; refine (rup_walk (HS.out.below HWX.out) k).mono ?_; rw [← HU.out]; rintro e w9 ⟨rfl, h9⟩; have h9 := h9.symm; subst h9)
          | (go_at_call 103; refine (rlen_walk (HS.out.below HWX.out) k).mono ?_; rw [← HN.out]; rintro e w9 ⟨rfl, h9⟩; have h9 := h9.symm; subst h9)
          | (at_builtin; refine wpList_append_nv (by rfl) _ _ 44 (by rfl) w.heap.size 3 Tryz.underlying44 info_int u9 k ((formT S a m).take k) (by rfl) (HOX.out.alloc _) _ [x + i] (by rfl) (nv_one wr _ HE64.out _) (by simp [maxLen]; omega) (by simp; omega) (by have := HWX.out.size; simp; omega) ?_; intro v' w7 g1 g2; go_frame))
        go_roundw
        case rel => exact rf_step hlt HE.out HOX.out HWX.out g1 g2
        case measure => simp [intOf]; omega
       ·by_cases h2 : x + (i : Int) < (n : Int)
        ·go_wp2_with (first
           | (go_at_call 102; refine (rup_walk (HS.out.below HWX.out) k).mono ?_; rw [← HU.out]; rintro e w9 ⟨rfl, h9⟩; have h9 := h9.symm; subst h9)
           | (go_at_call 103; refine (rlen_walk (HS.out.below HWX.out) k).mono ?_; rw [← HN.out]; rintro e w9 ⟨rfl, h9⟩; have h9 := h9.symm; subst h9)
           | (at_builtin; refine wpList_append_nv (by rfl) _ _ 44 (by rfl) w.heap.size 3 Tryz.underlying44 info_int u9 k ((formT S a m).take k) (by rfl) (HOX.out.alloc _) _ [x + i] (by rfl) (nv_one wr _ HE64.out _) (by simp [maxLen]; omega) (by simp; omega) (by have := HWX.out.size; simp; omega) ?_; intro v' w7 g1 g2; go_frame))
         go_roundw
         case rel => exact ⟨i + 1, by omega, by go_num, by rw [Int.natCast_add, ← Int.add_assoc]; rfl, by simp, by omega, HOX.out, HWX.out⟩
         case measure => simp [intOf]; omega
        ·have HE : Hid (endS S a m k = x + i) := by
          show _ = _;unfold endS;rw [← HU.out, ← HX.out, ← HN.out, if_pos rfl]; omega
         go_wp2_with (first
           | (go_at_call 102; refine (rup_walk (HS.out.below HWX.out) k).mono ?_; rw [← HU.out]; rintro e w9 ⟨rfl, h9⟩; have h9 := h9.symm; subst h9)
           | (go_at_call 103; refine (rlen_walk (HS.out.below HWX.out) k).mono ?_; rw [← HN.out]; rintro e w9 ⟨rfl, h9⟩; have h9 := h9.symm; subst h9)
           | (at_builtin; refine wpList_append_nv (by rfl) _ _ 44 (by rfl) w.heap.size 3 Tryz.underlying44 info_int u9 k ((formT S a m).take k) (by rfl) (HOX.out.alloc _) _ [x + i] (by rfl) (nv_one wr _ HE64.out _) (by simp [maxLen]; omega) (by simp; omega) (by have := HWX.out.size; simp; omega) ?_; intro v' w7 g1 g2; go_frame))
         go_roundw
         case rel => exact rf_step hlt HE.out HOX.out HWX.out g1 g2
         case measure => simp [intOf]; omega
      ·have HE : Hid (endS S a m k = x + i) := by
        show _ = _;unfold endS;rw [← HU.out, ← HX.out, ← HN.out, HIU.out (by omega), if_pos rfl]; omega
       go_wp2_with (first
         | (go_at_call 102; refine (rup_walk (HS.out.below HWX.out) k).mono ?_; rw [← HU.out]; rintro e w9 ⟨rfl, h9⟩; have h9 := h9.symm; subst h9)
         | (go_at_call 103; refine (rlen_walk (HS.out.below HWX.out) k).mono ?_; rw [← HN.out]; rintro e w9 ⟨rfl, h9⟩; have h9 := h9.symm; subst h9)
         | (at_builtin; refine wpList_append_nv (by rfl) _ _ 44 (by rfl) w.heap.size 3 Tryz.underlying44 info_int u9 k ((formT S a m).take k) (by rfl) (HOX.out.alloc _) _ [x + i] (by rfl) (nv_one wr _ HE64.out _) (by simp [maxLen]; omega) (by simp; omega) (by have := HWX.out.size; simp; omega) ?_; intro v' w7 g1 g2; go_frame))
       go_roundw
       case rel => exact rf_step hlt HE.out HOX.out HWX.out g1 g2
       case measure => simp [intOf]; omega
    ·have hke : k = a.length := by omega
     have hnl : ¬ ((k : Int) < (a.length : Int)) := by omega
     subst hke
     have HNT : Hid (Nv wr u9 (formT S a m)) := by
      have := own_nv HO.out (by rw [List.take_of_length_le (by rw [form_len]; omega)]; exact form_in64 HK.out HF.out hm1');rw [List.take_of_length_le (by rw [form_len]; omega)] at this;exact this
     go_wp2_with fail;refine (rbetween_walk (HS.out.below HW.out) (HA.out.below HW.out) HNT.out HF.out (form_fit HF.out hm1') (form_fwd HF.out hm1')).mono ?_;rintro e w3 ⟨rv, rfl, hr, hB3⟩;go_wp2_with fail;go_ret3;have ho := HO.out;rw [List.take_of_length_le (by rw [form_len]; omega)] at ho;refine ⟨_, rv, by rw [HI.out]; rfl, ?_, ?_, ?_, below_trans HW.out hB3⟩
     ·unfold formL; rw [HI.out, if_pos rfl, form_len]; exact own_below ho hB3
     ·unfold formR; rw [HI.out, if_pos rfl]; exact row_base hr (fun x hx => Nat.le_trans HW.out.size (hr.lt x hx).1)
     ·intro x hx hy;have h1 := (ho.lt x hx).2;have h2 := (hr.lt x hy).1;omega
  ·have HI : Hid (formI S a m = 70) := by show _ = _; unfold formI; rw [if_neg hm, if_neg (fun h => hf (Fit.of h))]
   have HD : Hid (fitB S a = false) := Fit.no hf;clear hf hm;go_in;go_wp2_with fail;refine (rfits_walk HS.out HA.out).mono ?_;rw [HD.out];rintro e w1 ⟨rfl, hB1⟩;go_wp2_with fail;go_ret3;exact fo_bad HI.out (by omega) hB1
end
end
end Go.Proofs.YtombjgfajbhbbaaGreat
