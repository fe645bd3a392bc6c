/- Slices of numbers as lists; append onto a row of the call's own. -/
import Derived.Test.YtombjgfajbhbbaaGreatB27
set_option maxRecDepth 100000
set_option maxHeartbeats 16000000
namespace Go.Proofs.YtombjgfajbhbbaaGreat
open Go.RowKit
section
open Ieee Go.RowKit

theorem nan_u64 (a : Nat) (w : World) :
  Calls Tryz.prog 183 #[.int .u64 a] w fun e w' => e = .returned (.bool false) ∧ w' = w := by
 go_in;go_wp2;go_ret;exact ⟨ret_bool (by simp), rfl⟩
theorem compare_walk (a b : Nat) (w : World) :
  Calls Tryz.prog 162 #[.int .u64 a, .int .u64 b] w fun e w' => e = .returned (.int .i64 (cmpN a b)) ∧ w' = w := by
 by_cases h1 : a < b
 ·have e : cmpN a b = -1 := if_pos h1;rw [e];have h1' : (a : Int) < b := by omega
  go_in;go_wp2_with (go_at_call 183; refine (nan_u64 _ _).mono ?_; rintro e w' ⟨rfl, rfl⟩);go_ret;exact ⟨rfl, rfl⟩
 by_cases h2 : b < a
 ·have e : cmpN a b = 1 := by unfold cmpN; rw [if_neg h1, if_pos h2]
  rw [e];have h1' : ¬ ((a : Int) < b) := by omega
  have h2' : (b : Int) < a := by omega
  go_in;go_wp2_with (go_at_call 183; refine (nan_u64 _ _).mono ?_; rintro e w' ⟨rfl, rfl⟩);go_ret;exact ⟨rfl, rfl⟩
 ·have e : cmpN a b = 0 := by unfold cmpN; rw [if_neg h1, if_neg h2]
  rw [e];have h1' : ¬ ((a : Int) < b) := by omega
  have h2' : ¬ ((b : Int) < a) := by omega
  go_in;go_wp2_with (go_at_call 183; refine (nan_u64 _ _).mono ?_; rintro e w' ⟨rfl, rfl⟩);go_ret;exact ⟨rfl, rfl⟩
theorem closure_walk (x y : Pr) (W : World) :
  Calls Tryz.prog 161 #[.agg #[.int .u64 x.k, .bool x.v.h, .int .u64 x.v.b], .agg #[.int .u64 y.k, .bool y.v.h, .int .u64 y.v.b]] W fun e w' => e = .returned (.int .i64 (cfP x y)) ∧ ∃ q os', w' = Sort.grow (W.drewN q) os' := by
 unfold cfP;generalize hr : cmpN x.k y.k = r;have hcon := fun W' => compare_walk x.k y.k W';rw [hr] at hcon;clear hr;go_in;go_wp2_with (go_at_call 162; refine (hcon _).mono ?_; rintro e w' ⟨rfl, rfl⟩);go_ret;exact ⟨rfl, 0, _, by rw [Sort.alloc_eq_grow, Sort.alloc_eq_grow, Sort.grow_grow]; rfl⟩
theorem cmpLays [Inhabited Pr] (blk off size : Nat) (w : World) : CmpLays Tryz.prog 161 #[] encP 3 cfP blk off size w :=
 fun _ _ _ _ x y => closure_walk x y _
theorem sortFunc_walk {g cap : Nat} {m : List Pr} {w : World} (hM : Mq w g m) (hg : g < w.heap.size) (hl : m.length < 4611686018427387904) {t : List Pr} (rt : Rise t) (hp : m.Perm t) :
  Calls Tryz.prog 160 #[.slice (some ⟨g, 0, none⟩) m.length cap, .func (.func 161) #[] #[]] w fun e w' => e = .returned (.tuple #[]) ∧ Mq w' g t ∧ w.grownBy w' (some g) := by
 have eg : ∀ args w, (callFunc 161 args).run Tryz.prog w = .ok (.enter 161 args) w := enters_of Tryz.func161 (by kernel_rfl) rfl
 haveI : Inhabited Pr := ⟨⟨0, noV⟩⟩
 have hcon := AnyQ.slices_SortFunc lays6 3 Tryz.isAgg66 Tryz.sizeOf66 encP (fun _ => rfl) (fun x v hv => by simp [encP] at hv; rcases hv with rfl | rfl | rfl <;> rfl) cfP swoP 161 #[] g 0 cap m.toArray w eg (cmpLays g 0 _ w) (holds_of_mq hM) hg (by simpa using hl);refine hcon.mono ?_;rintro e w' ⟨rfl, d', n, os, h1, h2, rfl⟩;exact ⟨rfl, mq_sorted hM hg (by simpa using h1.1) (sorted_end rt hp h1 h2), grown_sortK d'⟩
theorem law_u : Maps.Keyed Tryz.prog 40 := Maps.int_keyed Tryz.underlying40
def Mp (w : World) (b n : Nat) (t : List Pr) : Prop := w.ownsMap Tryz.prog 40 valElem b n (dT t)
theorem key_u {k : Nat} (hk : k < 18446744073709551616) : keyOf Tryz.prog 40 (.int .u64 k) = some (kL k) := by
 refine Maps.keyOf_int_mk Tryz.underlying40 ?_;simp [Lit.wf, IntKind.min, IntKind.max, IntKind.signed, IntKind.bits];omega
theorem look_T {w : World} {b n : Nat} {t : List Pr} (h : Mp w b n t) {k : Nat} (hk : k < 18446744073709551616) :
  (Instr.lookup 165 (.map (some b)) (.int .u64 k) false).run Tryz.prog w = .ok (.agg #[.bool (getT k t).h, .int .u64 (getT k t).b]) w := by
 have hz : (zeroValue 64).run Tryz.prog w = .ok (valV noV) w := Tryz.zeroValue64 w;obtain ⟨v, ps, hrun, hv⟩ := World.ownsMap.lookup h law_u Tryz.underlying165 hz (valElem_mk noV_ok) (key_u hk);obtain ⟨u, rfl, _, hu⟩ := valElem_inv hv;rw [atKey_T] at hu;simp only [Prod.mk.injEq] at hu;have := dV_inj hu.1;rw [this];exact hrun
theorem put_walkF (kind : Int) {b n : Nat} {t : List Pr} {k : Nat} {v : Vl} (w : World) (hM : Mp w b n t) (hr : Rise t) (ho : okT t) (hn : n < maxLen) (hk : k < 18446744073709551616) (hv : v.ok) :
  Calls Tryz.prog 119 #[.int .i64 kind, .map (some b), .int .u64 k, .agg #[.bool v.h, .int .u64 v.b]] w fun e w' => e = .returned (.tuple #[]) ∧ Mp w' b (n + 1) (withT kind k v t) ∧ w.grownBy w' (some b) := by
 have HM : Hid (Mp w b n t) := hM;have HR : Hid (Rise t) := hr;have HO : Hid (okT t) := ho;have HN : Hid (n < maxLen) := hn;have HK := hidH hk;have HV : Hid v.ok := hv;have hlk := look_T (World.ownsMap.alloc hM (Obj.cells #[.bool v.h, .int .u64 v.b] 64)) hk;clear hM hr ho hn hk hv;go_in
 go_wp2_with (first
  | (go_at_call 157; refine (merge_walk kind (get_ok HO.out k) HV.out _).mono ?_; rintro e w2 ⟨rfl, hB⟩)
  | (at_mapUpdate; refine wpList_mapUpdate_own _ rfl _ _ _ 165 rfl 40 64 law_u Tryz.underlying165 valElem b n (dT t) rfl ((World.ownsMap.alloc HM.out _).kept (grown_of_below hB) (by simp)) HN.out _ _ (kL k) rfl rfl (key_u HK.out) (dV (mergeV kind (getT k t) v)) [] (valElem_mk (mergeV_ok kind (get_ok HO.out k) HV.out)) ?_; intro w3 hown3 hg3; go_frame))
 go_end0;refine ⟨rfl, ?_, ?_⟩
 ·rw [put_T HR.out] at hown3; exact hown3
 ·exact (((World.grownBy_alloc w _ none).andThen (grown_of_below hB) (by simp)).but _).andThen hg3 (fun j hj => Or.inr hj)
end
section
open Ieee Go.RowKit
/-! ### Find -/
theorem get_at {l : List Pr} {k i : Nat} (hi : i < l.length) (h : ∀ j, (hj : j < l.length) → j < i → l[j].k ≠ k) (hk : l[i].k = k) : getT k l = l[i].v := by
 induction l generalizing i with
 | nil => simp at hi
 | cons a l ih =>
  cases i with
  | zero => exact if_pos hk
  | succ i =>
   have h0 : a.k ≠ k := h 0 (by simp) (by omega);show (if a.k = k then a.v else getT k l) = _;rw [if_neg h0];exact ih (by simpa using hi) (fun j hj hji => h (j + 1) (by simpa using hj) (by omega)) hk
def Fr (w : World) (l : List Pr) (k : Nat) (iv : Value) (wr : World) : Prop :=
 ∃ i : Nat, i ≤ l.length ∧ iv = .int .i64 i ∧ (∀ j, (hj : j < l.length) → j < i → l[j].k ≠ k) ∧ VB wr w.heap.size noV ∧ Below w.heap.size w wr
theorem fr_step {w wr w1 : World} {l : List Pr} {k i : Nat} (hi : i < l.length) (h : ∀ j, (hj : j < l.length) → j < i → l[j].k ≠ k) (hk : l[i].k ≠ k) (hv : VB wr w.heap.size noV) (hB : Below w.heap.size w wr) (h1 : Below wr.heap.size wr w1) :
  Fr w l k (.int .i64 ((i : Int) + 1)) w1 :=
 ⟨i + 1, hi, by simp, fun j hj hji => by
  rcases Nat.lt_or_ge j i with h2 | h2
  ·exact h j hj h2
  ·obtain rfl : j = i := by omega
   exact hk, hv.below h1 (cell_lt hv.c0), below_trans hB h1⟩
end
section
open Ieee Go.RowKit

theorem qv_one (w : World) (p : Pr) (hp : p.ok) (t : TypeId) : Qv (w.alloc (Obj.cells #[.int .u64 p.k, .bool p.v.h, .int .u64 p.v.b] t)) (.slice (some ⟨w.heap.size, 0, none⟩) 1 1) [p] := by
 refine ⟨⟨_, 1, rfl, by simp, by simp [maxLen], by simp, fun i hi => ?_⟩, by simpa using hp⟩;have : i = 0 := by simpa using hi
 subst this;refine ⟨_, _, rfl, ?_, ?_, ?_⟩ <;> simp [go_sem]
theorem qv_at (w : World) (p : Pr) (hp : p.ok) (t : TypeId) (g : Nat) (hg : g = w.heap.size) : Qv (w.alloc (Obj.cells #[.int .u64 p.k, .bool p.v.h, .int .u64 p.v.b] t)) (.slice (some ⟨g, 0, none⟩) 1 1) [p] := by
 subst hg; exact qv_one w p hp t
theorem wpList_next_T {w : World} {ops : Array Oper} {rest : List Oper} {o : Oper} {a : Act} {Q : Exit → Act → World → Prop} (hg : o.guard = none) (it : Operand) (hop : o.op = Op.next it false)
  (b r n : Nat) (t : List Pr) (left : Lit → Bool) (cnt : Nat) (hit : a.eval it = .pointer (some ⟨r, 0, none⟩)) (h : w.ranges Tryz.prog 40 valElem b r n (dT t) left cnt) (rt : Rise t)
  (hDone : (∀ kl, left kl = false) → wpList Tryz.prog ops Q rest (a.put o.dst (.tuple #[.bool false])) w)
  (hMore : ∀ (p : Pr) (w' : World) (cnt' : Nat), p ∈ t → left (kL p.k) = true → w'.ranges Tryz.prog 40 valElem b r n (dT t) (fun z => left z && !z.sameKey (kL p.k)) cnt' → cnt' < cnt → w.grownBy w' (some r) → w'.heap.size = w.heap.size →
   (Instr.entry (.pointer (some ⟨r, 0, none⟩))).run Tryz.prog w' = .ok (.tuple #[.int .u64 p.k, .agg #[.bool p.v.h, .int .u64 p.v.b]]) w' →
   wpList Tryz.prog ops Q rest (a.put o.dst (.tuple #[.bool true, .int .u64 p.k, .agg #[.bool p.v.h, .int .u64 p.v.b]])) w') :
  wpList Tryz.prog ops Q (o :: rest) a w := by
 refine wpList_next_ranges w hg it hop 40 law_u valElem (fun x : Int => Value.int .u64 x) valV (fun key kl hkey => ?_) (fun v y hv => ?_) b r n (dT t) left cnt hit h (fun _ hl => hDone hl) (fun x c kl y w' cnt' hkey hlk hv hat hrg hlt hgr hsz hen => ?_)
 ·obtain ⟨x, rfl, _⟩ := Maps.keyOf_int_inv Tryz.underlying40 hkey; exact ⟨x, rfl⟩
 ·obtain ⟨u, rfl, _⟩ := valElem_inv hv; exact ⟨u, rfl⟩
 ·obtain ⟨x', ex, rfl, hwx⟩ := Maps.keyOf_int_inv Tryz.underlying40 hkey
  cases ex
  obtain ⟨u, eu, _, rfl⟩ := valElem_inv hv
  have hcu : c = u := by
   unfold valV at eu;simp at eu;obtain ⟨ch, cb⟩ := c;obtain ⟨uh, ub⟩ := u;simp only at eu;rw [eu.1, show cb = ub by omega]
  subst hcu
  have h0 : 0 ≤ x := by
   have : 0 ≤ x ∧ x ≤ 18446744073709551615 := by simpa [Lit.wf, IntKind.min, IntKind.max, IntKind.signed, IntKind.bits] using hwx
   omega
  obtain ⟨k, rfl⟩ : ∃ k : Nat, x = k := ⟨x.toNat, by omega⟩;obtain ⟨p, hp, rfl⟩ := (has_T t k).1 (Maps.has_true_of_atKey hat)
  have hc : c = p.v := by
   have h1 := hat (dV noV);rw [show Lit.int .u64 (p.k : Int) = kL p.k from rfl, atKey_T, get_mem rt hp] at h1;exact (dV_inj h1).symm
  subst hc;exact hMore p w' cnt' hp hlk hrg hlt hgr hsz hen
def Srt (w : World) (g r b n : Nat) (t : List Pr) (mv : Value) (wr : World) : Prop :=
 ∃ (left : Lit → Bool) (cnt : Nat) (m : List Pr), wr.ranges Tryz.prog 40 valElem b r n (dT t) left cnt ∧ m.Perm (t.filter fun q => !left (kL q.k)) ∧ m.length + cnt ≤ t.length ∧
  mv = .slice (some ⟨g, 0, none⟩) m.length t.length ∧ wr.ownsRow g 66 3 (.slice (some ⟨g, 0, none⟩) m.length t.length) m.length (flatQ m) ∧ Below w.heap.size w wr
theorem perm_end {t m : List Pr} {left : Lit → Bool} (h : m.Perm (t.filter fun q => !left (kL q.k))) (hl : ∀ kl, left kl = false) : m.Perm t := by
 have : t.filter (fun q => !left (kL q.k)) = t := List.filter_eq_self.2 fun q _ => by simp [hl]
 rw [this] at h; exact h
theorem perm_start (t : List Pr) : ([] : List Pr).Perm (t.filter fun q => !Maps.has (dT t) (kL q.k)) := by
 have : t.filter (fun q => !Maps.has (dT t) (kL q.k)) = [] := List.filter_eq_nil_iff.2 fun q hq => by simp [(has_T t q.k).2 ⟨q, hq, rfl⟩]
 rw [this]
theorem sorted_walk {b n : Nat} {t : List Pr} (w : World) (hM : Mp w b n t) (rt : Rise t) (ho : okT t) (hl : t.length * 24 ≤ 281474976710656) :
  Calls Tryz.prog 121 #[.map (some b)] w fun e w' => e = .returned (.slice (some ⟨w.heap.size, 0, none⟩) t.length t.length) ∧ Mq w' w.heap.size t ∧ Below w.heap.size w w' ∧ w.heap.size < w'.heap.size := by
 have HM : Hid (Mp w b n t) := hM;have HBL : Hid (b < w.heap.size) := World.ownsMap.lt hM;have HR : Hid (Rise t) := rt;have HO : Hid (okT t) := ho;have HL := hidH hl;have HMX : Hid (t.length ≤ maxLen) := by show _ ≤ _; simp only [maxLen]; omega
 obtain ⟨i0, hi0, hz0, hz1, hz2⟩ := info_partsQ info_pair;have HI0 : Hid (Tryz.prog.info? 66 = some i0) := hi0;have HI1 : Hid (i0.zero = some (.agg #[.int .u64 0, .bool false, .int .u64 0])) := hz0;have HI2 : Hid (i0.size = 3) := hz1;have HI3 : Hid (i0.bytes = 24) := hz2;have hln := World.ownsMap.len (w := w) hM Tryz.underlying165 3;rw [size_T] at hln;clear hM rt ho hl hi0 hz0 hz1 hz2;go_in
 go_wp2_with (first
  | (at_make; refine wpList_make_own _ (by rfl) _ _ 46 (by rfl) w.heap.size 66 i0 (.agg #[.int .u64 0, .bool false, .int .u64 0]) 3 Tryz.underlying46 HI0.out HI1.out HI2.out .i64 .i64 _ t.length (by rfl) (by rfl) (by rfl) (by rw [HI3.out]; have := HL.out; omega) HMX.out (Nat.le_refl _) ?_; intro w2 hown hgrow)
  | (at_range; refine wpList_range_own _ rfl _ 165 rfl 40 64 law_u Tryz.underlying165 valElem b n (dT t) rfl (World.ownsMap.kept HM.out hgrow (by simp)) ?_; intro w3 hrg0 hg3 hs3))
 go_frame
 have R0 : Srt w w.heap.size w2.heap.size b n t (.slice (some ⟨w.heap.size, 0, none⟩) 0 t.length) w3 :=
  ⟨_, _, [], hrg0, perm_start t, by rw [size_T]; simp, rfl, hown.kept hg3 (Or.inr (by simp [Value.ownBlock])), ((Below.refl _ _).grown hgrow (Nat.le_refl _) (by simp)).grown hg3 (Nat.le_of_lt (hown.lt w.heap.size rfl).2) (by simp)⟩
 have HGR : Hid (w.heap.size < w2.heap.size) := (hown.lt w.heap.size rfl).2;clear hown hgrow hrg0 hg3 hs3 hln;go_loopw [3] (fun mv wr => Srt w w.heap.size w2.heap.size b n t mv wr) (fun _ wr => wr.rangeLeft b w2.heap.size)
 case atStart => exact R0
 case round =>
  clear R0;obtain ⟨left, cnt, m, hrg, hpm, hmc, rfl, hown, hB⟩ := hrel;have HRG := hidH hrg;have HPM := hidH hpm;have HMC := hidH hmc;have HOW := hidH hown;have HB := hidH hB;clear hrg hpm hmc hown hB;go_wp2_with (at_next; refine wpList_next_T (by rfl) _ rfl b w2.heap.size n t left cnt rfl HRG.out HR.out ?_ ?_)
  ·intro hleft;have HP : Hid (m.Perm t) := perm_end HPM.out hleft;have HML : Hid (m.length = t.length) := HP.out.length_eq;clear hleft;go_wp2_with fail;refine (sortFunc_walk (own_mq HOW.out) (HOW.out.lt w.heap.size rfl).2 (by have := HL.out; have := HML.out; omega) HR.out HP.out).mono ?_;rintro e w5 ⟨rfl, hM5, hg5⟩;go_wp2_with fail;go_ret;exact ⟨by rw [HML.out]; rfl, hM5, HB.out.grown hg5 HB.out.size (by simp), Nat.lt_of_lt_of_le (HOW.out.lt w.heap.size rfl).2 hg5.size⟩
  ·intro p w4 cnt1 hp hlx hrg1 hlt hg1 hs1 hen;have HP : Hid (p ∈ t) := hp;have HLX : Hid (left (kL p.k) = true) := hlx;have HRG1 := hidH hrg1;have HG1 := hidH hg1;have HLT : Hid (cnt1 < cnt) := hlt;clear hp hlx hrg1 hlt hg1 hs1;have HOW1 : Hid (w4.ownsRow w.heap.size 66 3 (.slice (some ⟨w.heap.size, 0, none⟩) m.length t.length) m.length (flatQ m)) := HOW.out.kept HG1.out (Or.inr (by have := HGR.out; simp [Value.ownBlock]; omega));have hfit : m.length + 1 ≤ t.length := by have := HMC.out; have := HLT.out; omega
   go_wp2_with (at_builtin; refine wpList_append_qv (by rfl) _ _ 46 (by rfl) w.heap.size 66 i0 Tryz.underlying46 HI0.out HI2.out w.heap.size m.length t.length m (by rfl) ((HOW1.out.alloc _).alloc _) _ [p] (by rfl) (qv_at _ p (HO.out p HP.out) _ _ (by simp)) (by simpa using hfit) ?_; intro w6 hown6 hgrow6);have hg6 : w4.grownBy w6 (some w.heap.size) := (((World.grownBy_alloc w4 _ none).andThen (World.grownBy_alloc _ _ none) (by simp)).but _).andThen hgrow6 (fun j hj => Or.inr hj);have hrg6 := HRG1.out.kept hg6 (by have := HBL.out; simp; omega) (by have := HGR.out; simp; omega)
   have R' : Srt w w.heap.size w2.heap.size b n t (.slice (some ⟨w.heap.size, 0, none⟩) (m.length + 1) t.length) w6 :=
    ⟨_, cnt1, m ++ [p], hrg6, left_step HR.out HP.out left HLX.out HPM.out, by have := HMC.out; have := HLT.out; simp; omega, by simp, by simpa using hown6,
     (HB.out.grown HG1.out HB.out.size (by have := HGR.out; simp; omega)).grown hg6 (Nat.le_trans HB.out.size HG1.out.size) (by simp)⟩
   have hms : w6.rangeLeft b w2.heap.size < wr.rangeLeft b w2.heap.size := by rw [hrg6.left_eq, HRG.out.left_eq]; exact HLT.out
   clear hown6 hgrow6 hg6 hrg6;go_wp2_with fail;go_roundw
   case rel => exact R'
   case measure => exact hms
end
section
open Ieee Go.RowKit
end
section
open Ieee Go.RowKit

attribute [local go_sem] run_store_float
theorem kept_ok {l : List Stp} {kind : Int} {recs : List Rcd} (h : ∀ r ∈ recs, r.ok) : okT (keptT l kind recs) := by
 intro p hp;obtain ⟨r, hr, e⟩ := List.mem_filterMap.1 hp
 split at e
 ·cases e
  exact ⟨(runS_ok l (h r hr)).1, ofV_ok kind (runS_ok l (h r hr)).2⟩
 ·cases e
theorem kept_snoc (l : List Stp) (kind : Int) (recs : List Rcd) {i : Nat} (hi : i < recs.length) : keptT l kind (recs.take (i + 1)) = keptT l kind (recs.take i) ++ keptT l kind [recs[i]] := by
 rw [List.take_succ_eq_append_getElem hi, kept_append]
theorem kept_one {l : List Stp} {kind : Int} {r : Rcd} (h : (runS l r).1 = 1) : keptT l kind [r] = [⟨(runS l r).2.k, ofV kind (runS l r).2.x⟩] := by
 unfold keptT; simp [h]
theorem kept_none {l : List Stp} {kind : Int} {r : Rcd} (h : (runS l r).1 ≠ 1) : keptT l kind [r] = [] := by
 unfold keptT; simp [h]
theorem trap_snoc (l : List Stp) (recs : List Rcd) {i : Nat} (hi : i < recs.length) : trapN l (recs.take (i + 1)) = trapN l (recs.take i) + (if (runS l recs[i]).1 = 3 then 1 else 0) := by
 unfold trapN;rw [List.take_succ_eq_append_getElem hi, List.countP_append, List.countP_singleton];simp
theorem trap_le (l : List Stp) (recs : List Rcd) : trapN l recs ≤ recs.length := List.countP_le_length
theorem kept_len (l : List Stp) (kind : Int) (recs : List Rcd) : (keptT l kind recs).length ≤ recs.length := List.length_filterMap_le _ _
theorem batch_len (l : List Stp) (kind : Int) (recs : List Rcd) : (batchT l kind recs).length ≤ recs.length := by
 have := adds_len kind [] (keptT l kind recs);have := kept_len l kind recs;unfold batchT; simp at *; omega
theorem batch_ok {l : List Stp} {kind : Int} {recs : List Rcd} (h : ∀ r ∈ recs, r.ok) : okT (batchT l kind recs) := ok_adds ok_nil (kept_ok h)
def Bt (w : World) (mb : Nat) (l : List Stp) (kind : Int) (recs : List Rcd) (tv iv : Value) (wr : World) : Prop :=
 ∃ i : Nat, i ≤ recs.length ∧ iv = .int .i64 i ∧ tv = .int .i64 (trapN l (recs.take i)) ∧ Mp wr mb i (batchT l kind (recs.take i)) ∧ Below w.heap.size w wr
theorem bt_keep {w wr w1 w2 : World} {mb i : Nat} {l : List Stp} {kind : Int} {recs : List Rcd} (hi : i < recs.length) {r : Rcd} (hr : r = recs[i]) (hf : (runS l r).1 = 1) (hb : w.heap.size ≤ mb)
  (hB : Below w.heap.size w wr) (h1 : Below wr.heap.size wr w1) (hg : w1.grownBy w2 (some mb)) (hM : Mp w2 mb (i + 1) (withT kind (runS l r).2.k (ofV kind (runS l r).2.x) (batchT l kind (recs.take i)))) :
  Bt w mb l kind recs (.int .i64 (trapN l (recs.take i))) (.int .i64 ((i : Int) + 1)) w2 := by
 refine ⟨i + 1, hi, by simp, ?_, ?_, ?_⟩
 ·rw [trap_snoc l recs hi, ← hr, if_neg (by omega), Nat.add_zero]
 ·unfold batchT at hM ⊢;rw [kept_snoc l kind recs hi, ← hr, kept_one hf, adds_snoc];exact hM
 ·have h2 := below_trans hB h1;exact h2.grown hg h2.size (by simp; omega)
theorem bt_skip {w wr w1 : World} {mb i n : Nat} {l : List Stp} {kind : Int} {recs : List Rcd} (hi : i < recs.length) {r : Rcd} (hr : r = recs[i]) (hf : (runS l r).1 ≠ 1) (hn : n = if (runS l r).1 = 3 then 1 else 0)
  (hB : Below w.heap.size w wr) (h1 : Below wr.heap.size wr w1) (hM : Mp wr mb i (batchT l kind (recs.take i))) :
  Bt w mb l kind recs (.int .i64 ((trapN l (recs.take i) + n : Nat) : Int)) (.int .i64 ((i : Int) + 1)) w1 := by
 refine ⟨i + 1, hi, by simp, ?_, ?_, below_trans hB h1⟩
 ·rw [trap_snoc l recs hi, ← hr, hn]
 ·unfold batchT at hM ⊢;rw [kept_snoc l kind recs hi, ← hr, kept_none hf, List.append_nil];exact (World.ownsMap.kept hM (grown_of_below h1) (by simp)).mono (Nat.le_succ _)
theorem take_ok {recs : List Rcd} (h : ∀ r ∈ recs, r.ok) (i : Nat) : ∀ r ∈ recs.take i, r.ok := fun r hr => h r (List.mem_of_mem_take hr)
theorem batch_good {lv rv : Value} {l : List Stp} {kind : Int} {recs : List Rcd} {w : World} (ho : Ov w lv l) (hr : Rv w rv recs) (hc : checkB l = true) (hk : knownB kind = true) (hsz : recs.length * 24 ≤ 281474976710656) :
  Calls Tryz.prog 93 #[lv, .int .i64 kind, rv] w fun e w' => ∃ g, e = .returned (.tuple #[.slice (some ⟨g, 0, none⟩) (batchT l kind recs).length (batchT l kind recs).length, .int .i64 (trapN l recs), .int .i64 0]) ∧
   Mq w' g (batchT l kind recs) ∧ w.heap.size ≤ g ∧ g < w'.heap.size ∧ Below w.heap.size w w' := by
 have HV : Hid (Ov w lv l) := ho;obtain ⟨⟨ao, cap, rfl, h1, h2, h3, h4⟩, h5⟩ := ho;obtain ⟨⟨ro, rcap, rfl, r1, r2, r3, r4⟩, r5⟩ := hr;have HO : Hid (Ol w ao l) := h4;have HRL : Hid (Rl w ro recs) := r4;have HRO := hidH r5;have HL : Hid (l.length ≤ maxLen) := Nat.le_trans h1 h2;have HSZ := hidH hsz;have hli : (recs.length : Int) ≤ 11728124029610 := by omega
 have HC : Hid (chkI l = 0) := by show _ = _; unfold chkI; rw [hc]; rfl
 clear h1 h2 h3 h4 h5 r1 r2 r3 r4 r5 hc hsz;have hmm := @run_makeMap Tryz.prog;go_in;go_wp2_with fail;refine (check_walk HL.out HO.out).mono ?_;rw [HC.out];rintro e w1 ⟨rfl, hB⟩;have HB1 := hidH hB;clear hB;go_wp2_with (go_at_call 51; refine (known_walk _ _).mono ?_; rw [hk]; rintro e w9 ⟨rfl, h9⟩; have h9 := h9.symm; subst h9)
 have R0 : Bt w w1.heap.size l kind recs (.int .i64 0) (.int .i64 0) (w1.alloc (.map #[] 0)) :=
  ⟨0, Nat.zero_le _, rfl, by simp [trapN], World.ownsMap_made w1 _ _ _, below_trans HB1.out (below_alloc _ _)⟩
 have HMB : Hid (w.heap.size ≤ w1.heap.size) := HB1.out.size;clear hmm;go_loopw [11, 27] (fun tv iv wr => Bt w w1.heap.size l kind recs tv iv wr) (fun _ iv _ => recs.length - (intOf iv).toNat)
 case atStart => exact R0
 case round =>
  clear R0;obtain ⟨i, hi, rfl, rfl, hM, hB⟩ := hrel;have HM := hidH hM;have HB := hidH hB;clear hM hB;by_cases hlt : i < recs.length
  ·obtain ⟨b, off, rfl, c0, c1⟩ := HRL.out.below HB.out i hlt;obtain ⟨r, hre⟩ : ∃ r, r = recs[i] := ⟨_, rfl⟩;rw [← hre] at c0 c1;have HE : Hid (r = recs[i]) := hre;have HROK : Hid r.ok := by rw [hre]; exact HRO.out _ (List.getElem_mem hlt)
   clear hre;obtain ⟨R, hR⟩ : ∃ R, R = runS l r := ⟨_, rfl⟩;have HR : Hid (R = runS l r) := hR;have HKO : Hid R.2.ok := by show R.2.ok; rw [hR]; exact runS_ok l HROK.out
   clear hR;go_wp2_with fail;refine (run_walk r HROK.out (HV.out.below (below_trans HB.out (below_alloc _ _)))).mono ?_;rw [← HR.out];rintro e w3 ⟨rfl, hB3⟩;have HB3 : Hid (Below wr.heap.size wr w3) := below_trans (below_alloc _ _) hB3;clear hB3;by_cases hf1 : R.1 = 1
   ·have HF : Hid (R.1 = 1) := hf1;rw [hf1];clear hf1 c0 c1;have HFF : Hid ((runS l r).1 = 1) := by show _ = _; rw [← HR.out]; exact HF.out
    go_wp2_with fail;generalize hg5 : w3.alloc (Obj.cells #[.int .u64 R.2.k, .float .f64 R.2.x] 43) = w5;have HRB : Hid (RB w5 w3.heap.size R.2.k R.2.x) := by show RB _ _ _ _; rw [← hg5]; refine ⟨?_, ?_, ?_, ?_⟩ <;> simp [go_sem]
    have HB5 : Hid (Below wr.heap.size wr w5) := by show Below _ _ _; rw [← hg5]; exact below_trans HB3.out (below_alloc _ _)
    clear hg5;obtain ⟨q0, q1, _, _⟩ := HRB.out;have HNM : Hid (i < maxLen) := by show _ < _; simp only [maxLen]; omega
    go_region_with (first
     | (go_at_call 120; refine (aof_walk kind HKO.out.2 _).mono ?_; rintro e w9 ⟨rfl, hB9⟩; have hS9 : Below w5.heap.size w5 w9 := below_trans (by first | assumption | exact (Below.refl _ _).drew) hB9; obtain ⟨d0, d1, _, _⟩ := HRB.out.below hS9 (cell_lt HRB.out.c0))
     | (go_at_call 119; refine (put_walkF kind _ (World.ownsMap.kept HM.out (grown_of_below (below_trans HB5.out (by assumption))) (by simp)) (rise_batch _ _ _) (batch_ok (take_ok HRO.out i)) HNM.out HKO.out.1 (ofV_ok kind HKO.out.2)).mono ?_; rintro e w10 ⟨rfl, hM10, hg10⟩; have R' := bt_keep hlt HE.out HFF.out HMB.out HB.out (below_trans HB5.out hS9) hg10 (by rw [← HR.out]; exact hM10)))
    all_goals go_wp2_with fail
    all_goals go_roundw
    all_goals first
     | exact R'
     | (simp [intOf]; omega)
   ·have HF : Hid ((runS l r).1 ≠ 1) := by show (runS l r).1 ≠ 1; rw [← HR.out]; exact hf1
    have hf1b : (R.1 == 1) = false := by simpa using hf1
    by_cases hf3 : R.1 = 3
    ·have R' := bt_skip (n := 1) hlt HE.out HF.out (by rw [← HR.out, if_pos hf3]) HB.out (below_trans HB3.out (below_alloc w3 (Obj.cells #[.int .u64 R.2.k, .float .f64 R.2.x] 43))) HM.out;rw [hf3];clear hf1 hf1b hf3;have htr : ((trapN l (recs.take i) : Nat) : Int) ≤ 11728124029610 := by have := trap_le l (recs.take i); simp at this; omega
     go_wp2_with fail;go_roundw
     case rel => simpa using R'
     case measure => simp [intOf]; omega
    ·have R' := bt_skip (n := 0) hlt HE.out HF.out (by rw [← HR.out, if_neg hf3]) HB.out (below_trans HB3.out (below_alloc w3 (Obj.cells #[.int .u64 R.2.k, .float .f64 R.2.x] 43))) HM.out;have hf3b : (R.1 == 3) = false := by simpa using hf3
     clear hf1 hf3;go_wp2_with fail;go_roundw
     case rel => simpa using R'
     case measure => simp [intOf]; omega
  ·have e : i = recs.length := by omega
   have HT : Hid (recs.take i = recs) := by show _ = _; rw [e]; simp
   have HME : Hid (Mp wr w1.heap.size i (batchT l kind recs)) := by have := HM.out; rw [HT.out] at this; exact this
   have HTR : Hid (trapN l (recs.take i) = trapN l recs) := by show _ = _; rw [HT.out]
   clear e;go_wp2_with fail;refine (sorted_walk _ HME.out (rise_batch _ _ _) (batch_ok HRO.out) (by have := batch_len l kind recs; have := HSZ.out; omega)).mono ?_;rintro e w5 ⟨rfl, hM5, hB5, hl5⟩;go_wp2_with fail;refine bodyPost_ret (v := .tuple #[.slice (some ⟨wr.heap.size, 0, none⟩) (batchT l kind recs).length (batchT l kind recs).length, .int .i64 (trapN l (recs.take i)), .int .i64 0]) (by simp [results, Tryz.results93, go_sem]) rfl ?_;exact ⟨_, by rw [HTR.out], hM5, HB.out.size, hl5, below_trans HB.out hB5⟩
end
section
open Ieee Go.RowKit

structure SB (w : World) (b : Nat) (x y : Value) : Prop where
 c0 : w.cell? ⟨b, 0, none⟩ = some x
 c1 : w.cell? ⟨b, 1, none⟩ = some y
end
theorem sv_oneF (k : IntKind) (w : World) (e : TypeId) (x : Int) : Sv k (w.alloc (.cells #[.int k x] e)) (.slice (some ⟨w.heap.size, 0, none⟩) 1 1) [x] := sv_lit k w e [x] (by simp [maxLen])
theorem info_u64 : (Tryz.prog.info? 40).map (fun i => (i.zero, i.size, i.bytes)) = some (some (.int .u64 0), 1, 8) := by kernel_rfl
def keyL (l : List Pr) : List Int := l.map fun p => (p.k : Int)
theorem keyL_snoc (l : List Pr) {i : Nat} (hi : i < l.length) : keyL (l.take (i + 1)) = keyL (l.take i) ++ [(l[i].k : Int)] := by
 unfold keyL; rw [List.take_succ_eq_append_getElem hi, List.map_append]; rfl
def Ky (w : World) (l : List Pr) (v iv : Value) (wr : World) : Prop :=
 ∃ i : Nat, i ≤ l.length ∧ iv = .int .i64 i ∧ wr.ownsRow w.heap.size 40 1 v i ((keyL (l.take i)).map (Value.int .u64)) ∧ Below w.heap.size w wr
theorem ky_step {w wr w1 w2 : World} {l : List Pr} {v v' : Value} {i : Nat} {p : Pr} (hi : i < l.length) (hp : p = l[i]) (hB : Below w.heap.size w wr) (h1 : Below wr.heap.size wr w1)
  (hv : w1.ownsRow w.heap.size 40 1 v i ((keyL (l.take i)).map (Value.int .u64))) (hg : w1.grownBy w2 v.ownBlock) (ho : w2.ownsRow w.heap.size 40 1 v' (i + 1) ((keyL (l.take i)).map (Value.int .u64) ++ [(p.k : Int)].map (Value.int .u64))) :
  Ky w l v' (.int .i64 ((i : Int) + 1)) w2 := by
 have h2 := below_trans hB h1;refine ⟨i + 1, hi, by simp, ?_, h2.grown hg h2.size (fun k hk => (hv.lt k hk).1)⟩;rw [keyL_snoc l hi, ← hp, List.map_append];exact ho
theorem keys_walk {ao : Option Addr} {ca : Nat} {l : List Pr} {w : World} (hl : l.length ≤ 11728124029610) (ha : Ql w ao l) :
  Calls Tryz.prog 99 #[.slice ao l.length ca] w fun e w' => ∃ v, e = .returned v ∧ w'.ownsRow w.heap.size 40 1 v l.length ((keyL l).map (Value.int .u64)) ∧ Below w.heap.size w w' := by
 have hli : (l.length : Int) ≤ 11728124029610 := by omega
 have HA : Hid (Ql w ao l) := ha;obtain ⟨i0, hi0, hz0, hz1, hz2⟩ := info_partsQ info_u64;have HI0 : Hid (Tryz.prog.info? 40 = some i0) := hi0;have HI1 : Hid (i0.zero = some (.int .u64 0)) := hz0;have HI2 : Hid (i0.size = 1) := hz1;have HI3 : Hid (i0.bytes = 8) := hz2;clear ha hl hi0 hz0 hz1 hz2;go_in;go_wp2_with (at_make; refine wpList_make_own _ (by rfl) _ _ 45 (by rfl) w.heap.size 40 i0 (.int .u64 0) 1 Tryz.underlying45 HI0.out HI1.out HI2.out .i64 .i64 _ l.length (by rfl) (by rfl) (by rfl) (by rw [HI3.out]; omega) (by simp only [maxLen]; omega) (Nat.le_refl _) ?_; intro w2 hown hgrow);have R0 : Ky w l (.slice (some ⟨w.heap.size, 0, none⟩) 0 l.length) (.int .i64 0) w2 := ⟨0, Nat.zero_le _, rfl, hown, (Below.refl _ _).grown hgrow (Nat.le_refl _) (by simp)⟩;clear hown hgrow;go_loopw [3, 11] (fun v iv wr => Ky w l v iv wr) (fun _ iv _ => l.length - (intOf iv).toNat)
 case atStart => exact R0
 case round =>
  clear R0;obtain ⟨i, hi, rfl, hown, hB⟩ := hrel;have HOW := hidH hown;have HB := hidH hB;clear hown hB;by_cases hlt : i < l.length
  ·obtain ⟨b, off, rfl, c0, c1, c2⟩ := HA.out.below HB.out i hlt;obtain ⟨p, hpe⟩ : ∃ p, p = l[i] := ⟨_, rfl⟩;rw [← hpe] at c0 c1 c2;have HE : Hid (p = l[i]) := hpe;clear hpe;go_wp2_with (at_builtin; refine wpList_append_sv (by rfl) _ _ 45 (by rfl) w.heap.size 40 .u64 8 Tryz.underlying45 info_u64 _ _ _ (by rfl) ((HOW.out.alloc _).alloc _) _ [(p.k : Int)] (by rfl) (by simpa [go_sem] using sv_oneF .u64 (wr.alloc (Obj.cells #[.int .u64 p.k, .bool p.v.h, .int .u64 p.v.b] 66)) 40 p.k) (by simp [maxLen]; omega) (by simp; omega) (by have := HB.out.size; simp; omega) ?_; intro v' w4 hown' hgrow);have R' := ky_step hlt HE.out HB.out (below_trans (below_alloc wr (Obj.cells #[.int .u64 p.k, .bool p.v.h, .int .u64 p.v.b] 66)) (below_alloc _ (Obj.cells #[.int .u64 p.k] 40))) ((HOW.out.alloc _).alloc _) hgrow hown';clear hown' hgrow;go_wp2_with fail;go_roundw
   case rel => exact R'
   case measure => simp [intOf]; omega
  ·have e : i = l.length := by omega
   have HEND : Hid (wr.ownsRow w.heap.size 40 1 u3 l.length ((keyL l).map (Value.int .u64))) := by
    have := HOW.out;rw [e, List.take_length] at this;exact this
   clear e;go_wp2_with fail;go_ret;exact ⟨_, rfl, HEND.out, HB.out⟩
end Go.Proofs.YtombjgfajbhbbaaGreat
