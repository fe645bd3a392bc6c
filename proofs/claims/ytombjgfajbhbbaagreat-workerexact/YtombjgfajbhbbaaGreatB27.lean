/- What the library's contracts are handed of this program: tables of numbers, and facts that the kernel compares. Printed by program. -/
import Derived.Test.YtombjgfajbhbbaaGreatB26
import Derived.Shelf.SlSortCmp.WholeK
import Derived.Shelf.SlSortCmp.NoneTotal
import Derived.Test.YtombjgfajbhbbaaGreatProg
set_option maxRecDepth 100000
set_option maxHeartbeats 16000000
namespace Go.Proofs.YtombjgfajbhbbaaGreat
open Go.RowKit
theorem count_walk {w : World} {p : Pn} {a : At} (h : Ao w p a) (hp : p.n ≤ 4) : Calls Tryz.prog 47 #[.pointer (some ⟨a.x, 0, none⟩)] w fun e w' => e = .returned (.int .i64 (a.h.A.countP id : Nat)) ∧ Below w.heap.size w w' := by
 have a3 := h.cells.2.2.2.1;have HP : Hid (w.ownsRow a.lo 4 1 a.av a.h.A.length (a.h.A.map Value.bool)) := h.app;obtain ⟨A, hA⟩ : ∃ A, A = a.h.A := ⟨_, rfl⟩;rw [← hA] at HP ⊢;have HL : Hid (A.length ≤ 4) := by show _ ≤ _; rw [hA, h.al]; exact hp
 obtain ⟨va, vc, hv⟩ := own_formN HP.out;rw [hv] at a3 HP;have hl : (A.length : Int) ≤ 4 := by have := HL.out; omega
 clear hA hv h hp;go_in;go_wp2_with fail;go_loopw [3, 11] (fun cv iv wr => ∃ i : Nat, iv = .int .i64 i ∧ i ≤ A.length ∧ cv = .int .i64 ((A.take i).countP id : Nat) ∧ wr = w) (fun _ iv _ => A.length - (intOf iv).toNat)
 case atStart => exact ⟨0, rfl, Nat.zero_le _, rfl, rfl⟩
 case round =>
  obtain ⟨i, rfl, hil, rfl, rfl⟩ := hrel;by_cases hlt : i < A.length
  ·have hlti : (i : Int) < (A.length : Int) := by omega
   have hltd : decide (i < A.length) = true := decide_eq_true hlt;obtain ⟨g, cap, hg, _⟩ := row_formN HP.out (by omega)
   cases hg
   have c0 := (own_cellN HP.out (j := i) (u := .bool A[i]) (by rw [List.getElem?_map, List.getElem?_eq_getElem hlt]; rfl)).1
   have HT : Hid ((A.take (i + 1)).countP id = (A.take i).countP id + (if A[i] then 1 else 0)) := by
    show _ = _;rw [List.take_add_one, List.getElem?_eq_getElem hlt, List.countP_append]
    cases A[i] <;> rfl
   have hcn : ((A.take i).countP id : Int) ≤ 4 := by have h1 := List.countP_le_length (p := id) (l := A.take i); have h2 := List.length_take_le i A; have h3 := HL.out; omega
   obtain ⟨y, hy⟩ : ∃ y, y = A[i] := ⟨_, rfl⟩;rw [← hy] at c0 HT;clear hy
   cases y with
   | false =>
    go_wp2_with fail;go_roundw
    case rel => exact ⟨i + 1, by go_num, hlt, by rw [HT.out]; rfl, trivial⟩
    case measure => simp [intOf]; omega
   | true =>
    go_wp2_with fail;go_roundw
    case rel => exact ⟨i + 1, by go_num, hlt, by rw [HT.out]; go_num, trivial⟩
    case measure => simp [intOf]; omega
  ·have hlti : ¬ (i : Int) < (A.length : Int) := by omega
   obtain rfl : i = A.length := by omega
   go_wp2_with fail;go_ret;exact ⟨rfl, Below.refl _ _⟩
theorem cloneQ_walk {v : Value} {l : List Pr} {w : World} (ho : Qv w v l) (hl : l.length ≤ 1048576) :
  Calls Tryz.prog 100 #[v] w fun e w' => ∃ v', e = .returned v' ∧ w'.ownsRow w.heap.size 66 3 v' l.length (flatQ l) ∧ Below w.heap.size w w' := by
 have HO : Hid (Qv w v l) := ho;obtain ⟨⟨ao, cap, rfl, h1, h2, h3, _⟩, _⟩ := ho;have HL := hidH hl;have H3 : Hid (ao = none → cap = 0) := h3;have H1 : Hid (l.length ≤ cap) := h1;obtain ⟨i0, hi0, hz0, hz1, hz2⟩ := info_partsQ info_pair;have q : ∀ (w : World) (a : Option Addr) (n c : Nat), (binOp .eql 46 (.slice a n c) (.slice none 0 0)).run Tryz.prog w = .ok (.bool a.isNone) w := fun w a n c => Lib.run_eql_slice_nil w 46 66 a n c 0 0 Tryz.underlying46;clear hl h1 h2 h3
 cases ao with
 | none =>
  have hc := H3.out rfl;subst hc;have hl0 : l.length = 0 := by have := H1.out; omega
  have hl : l = [] := List.eq_nil_of_length_eq_zero hl0;subst hl;rw [List.length_nil];go_in;go_wp2_with fail;go_ret;exact ⟨_, rfl, World.ownsRow_nil _ _ _ _, below_same _⟩
 | some p =>
  go_in;go_wp2_with (at_builtin; refine wpList_append_qs (by rfl) _ _ 46 (by rfl) w.heap.size 66 i0 Tryz.underlying46 hi0 hz0 hz1 hz2 _ 0 [] (by rfl) (World.ownsRow_made w #[] 0 (Nat.le_refl _) (by simp [maxLen]) (by simp)) _ l (by rfl) (HO.out.below (below_alloc _ _)) (by have := HL.out; simp [maxLen]; omega) (by have := HL.out; omega) (by simp) ?_; intro v' w2 hown hgrow; go_frame);go_ret;refine ⟨_, rfl, by simpa using hown, ?_⟩;exact (below_alloc w (Obj.cells #[] 66)).grown hgrow (by simp) (by simp [Value.ownBlock])
def EqGot {α : Type} (l m : List α) (w : World) (e : Ending) (w' : World) : Prop := (∃ t, e = .returned (.bool t) ∧ (t = true ↔ l = m)) ∧ Below w.heap.size w w'
theorem eqgot_no {α : Type} {l m : List α} {w w' : World} (h : l ≠ m) (hb : Below w.heap.size w w') : EqGot l m w (.returned (.bool false)) w' := ⟨⟨false, rfl, by simp; exact h⟩, hb⟩
theorem eqgot_yes {α : Type} {l m : List α} {w w' : World} (h : l = m) (hb : Below w.heap.size w w') : EqGot l m w (.returned (.bool true)) w' := ⟨⟨true, rfl, by simp; exact h⟩, hb⟩
theorem nv_form2 {w : World} {v : Value} {l : List Int} (h : Nv w v l) : ∃ ao cap, v = .slice ao l.length cap ∧ l.length ≤ cap ∧ cap ≤ maxLen := by
 obtain ⟨⟨ao, cap, e, h1, h2, _⟩, _⟩ := h;exact ⟨ao, cap, e, h1, h2⟩
theorem nv_cases {w : World} {v : Value} {l : List Int} (h : Nv w v l) : (l = [] ∧ True) ∨ ∃ b o c, v = .slice (some ⟨b, o, none⟩) l.length c ∧ True ∧ True ∧ True ∧ ∀ i, (hi : i < l.length) → w.cell? ⟨b, o + i, none⟩ = some (.int .i64 l[i]) := by
 obtain ⟨⟨ao, cap, rfl, h1, h2, h3, h4⟩, _⟩ := h
 cases l with
 | nil => exact .inl ⟨rfl, trivial⟩
 | cons a t =>
  obtain ⟨b, o, rfl, c0⟩ := h4 0 (by simp);refine .inr ⟨b, o, cap, rfl, trivial, trivial, trivial, fun i hi => ?_⟩;obtain ⟨b', o', e, c⟩ := h4 i hi
  cases e
  rw [nth_at hi] at c;exact c
theorem nequal_walk {w : World} {u v : Value} {l m : List Int} (hu : Nv w u l) (hv : Nv w v m) :
  Calls Tryz.prog 96 #[u, v] w (EqGot l m w) := by
 have HU : Hid (Nv w u l) := hu;have HV : Hid (Nv w v m) := hv;obtain ⟨ua, uc, rfl, hlm1, hlm2⟩ := nv_form2 hu;obtain ⟨va, vc, rfl, _, _⟩ := nv_form2 hv;have hlm : l.length ≤ maxLen := Nat.le_trans hlm1 hlm2;clear hlm1 hlm2;unfold maxLen at hlm;clear hu hv;by_cases hln : l.length = m.length;rotate_left
 ·have hb : ((l.length : Int) != (m.length : Int)) = true := by rw [bne_iff_ne]; omega
  have HNE : Hid (l ≠ m) := fun e => hln (by rw [e]);clear hln hlm;generalize l.length = n at hb;generalize m.length = q at hb;go_in;go_wp2_with fail;go_ret;exact eqgot_no HNE.out (Below.refl _ _)
 ·rw [← hln] at HV ⊢;obtain ⟨n, hn⟩ : ∃ n, n = l.length := ⟨_, rfl⟩;rw [← hn] at HU HV ⊢;have HN : Hid (n = l.length) := hn;have HM : Hid (n = m.length) := hn.trans hln;have hni : (n : Int) ≤ 9223372036854775807 := by omega
  have hb : ((n : Int) != (n : Int)) = false := by simp
  clear hn hln hlm;go_in;go_wp2_with fail;go_loopw [13] (fun iv wr => ∃ i : Nat, iv = .int .i64 i ∧ i ≤ n ∧ (∀ j, (h1 : j < l.length) → (h2 : j < m.length) → j < i → l[j] = m[j]) ∧ Below w.heap.size w wr) (fun iv _ => n - (intOf iv).toNat)
  case atStart => exact ⟨0, rfl, by omega, fun j _ _ h => by omega, Below.refl _ _⟩
  case round =>
   obtain ⟨i, rfl, hi, hall, hB⟩ := hrel;have HA : Hid (∀ j, (h1 : j < l.length) → (h2 : j < m.length) → j < i → l[j] = m[j]) := hall;have HB := hidH hB;clear hall hB;by_cases hlt : i < n
   ·have hlti : (i : Int) < (n : Int) := by omega
    have hltd : decide (i < n) = true := decide_eq_true hlt;have h1 : i < l.length := by have := HN.out; omega
    have h2 : i < m.length := by have := HM.out; omega
    rcases nv_cases (HU.out.below HB.out) with ⟨h0, _⟩ | ⟨b1, o1, c1, e1, _, _, _, k1⟩
    ·rw [h0] at h1; simp at h1
    rcases nv_cases (HV.out.below HB.out) with ⟨h0, _⟩ | ⟨b2, o2, c2, e2, _, _, _, k2⟩
    ·rw [h0] at h2; simp at h2
    simp only [Value.slice.injEq] at e1 e2;have e11 := e1.1;have e21 := e2.1;clear e1 e2;subst e11 e21;have x0 := k1 i h1;have y0 := k2 i h2;obtain ⟨c, hc⟩ : ∃ c, c = l[i] := ⟨_, rfl⟩;obtain ⟨d, hd⟩ : ∃ d, d = m[i] := ⟨_, rfl⟩;rw [← hc] at x0;rw [← hd] at y0;have X0 : ∀ q, (wr.drewN q).cell? ⟨b1, o1 + i, none⟩ = some (.int .i64 c) := fun _ => x0;have Y0 : ∀ q, (wr.drewN q).cell? ⟨b2, o2 + i, none⟩ = some (.int .i64 d) := fun _ => y0;have HCD : Hid (c = l[i] ∧ d = m[i]) := ⟨hc, hd⟩;clear k1 k2 x0 y0 hc hd;by_cases hcd : c = d
    ·have HNX : Hid (∀ j, (h1 : j < l.length) → (h2 : j < m.length) → j < i + 1 → l[j] = m[j]) := fun j k1 k2 hj => by
      rcases Nat.lt_or_ge j i with q | q
      ·exact HA.out j k1 k2 q
      ·obtain rfl : j = i := by omega
       rw [← HCD.out.1, ← HCD.out.2]; exact hcd
     subst hcd;have hq : (c != c) = false := by simp
     go_wp2_with fail;go_quiet (fail);have HB9 : Hid (Below w.heap.size w (wr.drewN nq)) := below_trans HB.out (below_drewN _ _);go_wp2_with fail;go_roundw
     case rel => exact ⟨i + 1, by go_num, hlt, HNX.out, HB9.out⟩
     case measure => simp [intOf]; omega
    ·have hq : (c != d) = true := by rw [bne_iff_ne]; omega
     have HNE : Hid (l ≠ m) := fun e => by
      subst e;exact hcd (HCD.out.1.trans HCD.out.2.symm)
     clear hcd;go_wp2_with fail;go_quiet (fail);have HB9 : Hid (Below w.heap.size w (wr.drewN nq)) := below_trans HB.out (below_drewN _ _);go_wp2_with fail;go_ret;exact eqgot_no HNE.out HB9.out
   ·have hlti : ¬ (i : Int) < (n : Int) := by omega
    have HE : Hid (l = m) := List.ext_getElem (by rw [← HN.out, ← HM.out]) (fun j k1 k2 => HA.out j k1 k2 (by have := HN.out; omega));go_wp2_with fail;go_ret;exact eqgot_yes HE.out HB.out
section
open Ieee Go.RowKit

def encP (p : Pr) : List Value := [.int .u64 p.k, .bool p.v.h, .int .u64 p.v.b]
def cmpN (a b : Nat) : Int := if a < b then -1 else if b < a then 1 else 0
def cfP (a b : Pr) : Int := cmpN a.k b.k
theorem ltP (a b : Pr) : ltOf cfP a b = decide (a.k < b.k) := by
 unfold ltOf cfP cmpN;by_cases h1 : a.k < b.k
 ·simp [h1]
 ·by_cases h2 : b.k < a.k <;> simp [h1, h2]
theorem swoP : Sort.SWO (ltOf cfP) where
 irrefl x := by rw [ltP]; simp
 trans x y z h1 h2 := by rw [ltP] at *; simp at *; omega
 ntrans x y z h1 h2 := by rw [ltP] at *; simp at *; omega
theorem holds_of_mq [Inhabited Pr] {w : World} {g : Nat} {m : List Pr} (h : Mq w g m) : Sort.HoldsK encP 3 w g 0 m.toArray := by
 intro j hj;rw [Sort.size_flatK] at hj;have hjl : j < m.length * 3 := by simpa using hj
 rw [Sort.get_flatK _ _ _ _ hj];obtain ⟨⟨a, b, c⟩, d, e, f⟩ := h (j / 3) (by omega)
 have e0 : m.toArray[j / 3]! = m[j / 3] := by
  have h3 : j / 3 < m.length := by omega
  rw [getElem!_pos m.toArray (j / 3) (by simpa using h3)]; simp
 rw [e0];have hmod : j % 3 = 0 ∨ j % 3 = 1 ∨ j % 3 = 2 := by omega
 rcases hmod with hm | hm | hm
 ·have e2 : j / 3 * 3 = j := by omega
  rw [e2] at a d;rw [hm, Nat.zero_add]; exact ⟨a, d⟩
 ·have e2 : j / 3 * 3 + 1 = j := by omega
  rw [e2] at b e;rw [hm, Nat.zero_add]; exact ⟨b, e⟩
 ·have e2 : j / 3 * 3 + 2 = j := by omega
  rw [e2] at c f;rw [hm, Nat.zero_add]; exact ⟨c, f⟩
theorem mq_of_holds [Inhabited Pr] {w : World} {g : Nat} {d : Array Pr} (h : Sort.HoldsK encP 3 w g 0 d) : Mq w g d.toList := by
 intro i hi;have hi' : i < d.size := by simpa using hi
 have e0 : d[i]! = d.toList[i] := by rw [getElem!_pos d i hi']; simp
 obtain ⟨a, x⟩ := h.cell hi' (show 0 < 3 by omega);obtain ⟨b, y⟩ := h.cell hi' (show 1 < 3 by omega);obtain ⟨c, z⟩ := h.cell hi' (show 2 < 3 by omega);rw [e0] at a b c;simp only [Nat.zero_add, Nat.add_zero] at a b c x y z;exact ⟨⟨a, b, c⟩, x, y, z⟩
theorem grown_sortK [Inhabited Pr] {w : World} {g n : Nat} {os : Array Obj} (d : Array Pr) : w.grownBy (sortWorldK encP 3 w g 0 n d os) (some g) := by
 refine ⟨rfl, rfl, rfl, by simp [sortWorldK, Sort.putRowK], fun k hk hne => ?_⟩;unfold sortWorldK;rw [Sort.heap_grow_old _ _ (by simpa [Sort.putRowK] using hk)];have : g ≠ k := fun e => hne (by rw [e]);simp [Sort.putRowK, Sort.putRow, Sort.mapBlock, Sort.ahead, Array.getElem?_modify, this]
theorem sorted_end [Inhabited Pr] {t m : List Pr} (rt : Rise t) (hp : m.Perm t) {d' : Array Pr} (h1 : Sort.PermIn 0 m.toArray.size m.toArray d') (h2 : Sort.SortedIn (ltOf cfP) 0 m.toArray.size d') : d'.toList = t := by
 obtain ⟨hs, _, hperm⟩ := h1;have hsz : d'.size = m.length := by simpa using hs
 have hp' : d'.toList.Perm m := by
  have e1 : (d'.extract 0 m.toArray.size).toList = d'.toList := by
   rw [← hs]; simp
  have e2 : (m.toArray.extract 0 m.toArray.size).toList = m := by simp
  rw [e1, e2] at hperm; exact hperm
 refine sorted_is rt (hp'.trans hp) ?_;rw [List.pairwise_iff_getElem];intro i j hi hj hij;have hi' : i < d'.size := by simpa using hi
 have hj' : j < d'.size := by simpa using hj
 have h := h2 i j (Nat.zero_le _) hij (by rw [← hs]; exact hj');rw [ltP, getElem!_pos d' i hi', getElem!_pos d' j hj'] at h;simpa using h
theorem mq_sorted [Inhabited Pr] {w : World} {g n : Nat} {os : Array Obj} {m t : List Pr} {d' : Array Pr} (hM : Mq w g m) (hg : g < w.heap.size) (hs : d'.size = m.length) (ht : d'.toList = t) : Mq (sortWorldK encP 3 w g 0 n d' os) g t := by
 rw [← ht];refine mq_of_holds ?_;exact holdsK_sortWorldK_c encP 3 w g 0 m.toArray d' n os (holds_of_mq hM) hg (by simpa using hs)
end
section
open Ieee Go.RowKit

attribute [local go_sem] run_bits run_frombits
theorem rfit_walk (k : Int) {v : Vl} (hv : v.ok) (w : World) :
  Calls Tryz.prog 126 #[.int .i64 k, .agg #[.bool v.h, .int .u64 v.b]] w fun e w' => e = .returned (.agg #[.bool (fitV k v).h, .int .u64 (fitV k v).b]) ∧ Below w.heap.size w w' := by
 obtain ⟨h, b⟩ := v
 cases hk : knownB k
 ·have hu := unknown_kind hk
  have e : fitV k ⟨h, b⟩ = noV := by
   unfold fitV
   split
   ·rfl
   rw [if_neg (by omega), if_neg (by omega)]
  rw [e];clear hu e;go_in;go_wp2_with (go_at_call 56; refine (rknown_walk _ _).mono ?_; rintro e w' ⟨rfl, rfl⟩);all_goals (refine bodyPost_ret (v := .agg #[.bool false, .int .u64 0]) (by simp [results, Tryz.results126, go_sem]) rfl ⟨rfl, ?_⟩; exact below_two _ _ _)
 have hk' := known_kind.1 hk
 cases h
 ·have e : fitV k ⟨false, b⟩ = noV := by unfold fitV; rw [if_pos rfl]
  rw [e];clear hk' e;go_in;go_wp2_with (go_at_call 56; refine (rknown_walk _ _).mono ?_; rintro e w' ⟨rfl, rfl⟩);all_goals (refine bodyPost_ret (v := .agg #[.bool false, .int .u64 0]) (by simp [results, Tryz.results126, go_sem]) rfl ⟨rfl, ?_⟩; exact below_two _ _ _)
 by_cases h12 : k = 1 ∨ k = 2
 ·have e : fitV k ⟨true, b⟩ = ⟨true, b⟩ := by unfold fitV; rw [if_neg (by simp), if_pos h12]
  rw [e];clear hk' e;rcases h12 with rfl | rfl
  all_goals
   go_in;go_wp2_with (go_at_call 56; refine (rknown_walk _ _).mono ?_; rintro e w' ⟨rfl, rfl⟩);refine bodyPost_ret (v := .agg #[.bool true, .int .u64 b]) (by simp [results, Tryz.results126, go_sem]) rfl ⟨rfl, ?_⟩;exact below_two _ _ _
 have h34 : k = 3 ∨ k = 4 := by omega
 have e : fitV k ⟨true, b⟩ = ofV k b := by
  unfold fitV ofV;rw [if_neg (by simp), if_neg h12, if_pos h34, if_neg (by omega), if_neg (by omega)]
 rw [e];clear hk' e h12;rcases h34 with rfl | rfl
 all_goals
  go_in
  go_wp2_with (first
   | (go_at_call 56; refine (rknown_walk _ _).mono ?_; rintro e w' ⟨rfl, rfl⟩)
   | (go_at_call 136; refine (from_walk _ _).mono ?_; rintro e w' ⟨rfl, rfl⟩))
  refine (rof_walk _ hv _).mono ?_;rintro e w1 ⟨rfl, hB⟩;obtain ⟨c0, c1, z0, z1⟩ := (vb_zero (w.alloc (Obj.cells #[Value.bool true, Value.int IntKind.u64 (b : Int)] 64))).below hB (by simp [go_sem]);have HB : Hid (Below w.heap.size w w1) := below_trans (below_two _ _ _) hB;clear hB;rw [size_alloc] at c0 c1 z0 z1;go_wp2_with fail;refine bodyPost_ret (by simp [results, Tryz.results126, go_sem, c0, c1]) rfl ⟨rfl, ?_⟩;exact keep_store HB.out _ (Nat.le_succ _) _ _
end
section
open Ieee Go.RowKit

attribute [local go_sem] run_bits run_frombits
theorem merge_start {w w1 : World} {a b : Vl}
  (h : ((w.alloc (Obj.cells #[Value.bool a.h, Value.int IntKind.u64 (a.b : Int)] 64)).alloc (Obj.cells #[Value.bool b.h, Value.int IntKind.u64 (b.b : Int)] 64)).alloc (Obj.cells #[Value.bool false, Value.int IntKind.u64 0] 64) = w1) :
  Hid (w1.heap.size = w.heap.size + 1 + 1 + 1) ∧ Hid (Below w.heap.size w w1) ∧ Hid (VB w1 w.heap.size a) ∧ Hid (VB w1 (w.heap.size + 1) b) ∧ Hid (VB w1 (w.heap.size + 1 + 1) noV) := by
 subst h;refine ⟨by simp [Hid, go_sem], ?_, ?_, ?_, ?_⟩
 ·exact ((below_alloc _ _).alloc (by simp [go_sem]) _).alloc (by simp [go_sem]; omega) _
 all_goals (show VB _ _ _; constructor <;> simp [go_sem, noV])
theorem merge_walk (k : Int) {a b : Vl} (ha : a.ok) (hb : b.ok) (w : World) :
  Calls Tryz.prog 157 #[.int .i64 k, .agg #[.bool a.h, .int .u64 a.b], .agg #[.bool b.h, .int .u64 b.b]] w fun e w' => e = .returned (.agg #[.bool (mergeV k a b).h, .int .u64 (mergeV k a b).b]) ∧ Below w.heap.size w w' := by
 unfold mergeV;obtain ⟨A, hA⟩ : ∃ A, A = fitV k a := ⟨_, rfl⟩;obtain ⟨B, hB⟩ : ∃ B, B = fitV k b := ⟨_, rfl⟩;have HA : Hid (A = fitV k a) := hA;have HB : Hid (B = fitV k b) := hB;have HAO : Hid A.ok := by rw [hA]; exact fitV_ok k ha
 have HBO : Hid B.ok := by rw [hB]; exact fitV_ok k hb
 rw [← hA, ← hB];clear hA hB;go_in;go_wp2_with fail;generalize hg : ((w.alloc (Obj.cells #[Value.bool a.h, Value.int IntKind.u64 (a.b : Int)] 64)).alloc (Obj.cells #[Value.bool b.h, Value.int IntKind.u64 (b.b : Int)] 64)).alloc (Obj.cells #[Value.bool false, Value.int IntKind.u64 0] 64) = w1;obtain ⟨HSZ, HBW, HVA, HVB, HVC⟩ := merge_start hg;clear hg;go_cut [] (fun wx => ∃ wy, Below w1.heap.size w1 wy ∧ wx = (((wy.setCell ⟨w.heap.size, 0, none⟩ (.bool A.h)).setCell ⟨w.heap.size, 1, none⟩ (.int .u64 A.b)).setCell ⟨w.heap.size + 1, 0, none⟩ (.bool B.h)).setCell ⟨w.heap.size + 1, 1, none⟩ (.int .u64 B.b))
 case first =>
  obtain ⟨c0, c1, z0, z1⟩ := HVA.out;obtain ⟨d0, d1, y0, y1⟩ := HVB.out;go_region_with ((go_at_call 178; refine (fit_walk k (v := ⟨_, _⟩) (by first | exact ha | exact hb) _).mono ?_; (first | rw [show fitV k ⟨a.h, a.b⟩ = A from HA.out.symm] | rw [show fitV k ⟨b.h, b.b⟩ = B from HB.out.symm]); rintro e w9 ⟨rfl, hB9⟩; have hS9 : Below w1.heap.size w1 w9 := below_trans (by first | assumption | exact (Below.refl _ _).drew) hB9; obtain ⟨c0, c1, z0, z1⟩ := HVA.out.below hS9 (cell_lt HVA.out.c0); obtain ⟨d0, d1, y0, y1⟩ := HVB.out.below hS9 (cell_lt HVB.out.c0)));all_goals go_wp2_with fail
  all_goals go_meet
  all_goals exact ⟨_, hS9, rfl⟩
 case rest =>
  obtain ⟨wy, hBy, rfl⟩ := hcut;generalize hg : (((wy.setCell ⟨w.heap.size, 0, none⟩ (.bool A.h)).setCell ⟨w.heap.size, 1, none⟩ (.int .u64 A.b)).setCell ⟨w.heap.size + 1, 0, none⟩ (.bool B.h)).setCell ⟨w.heap.size + 1, 1, none⟩ (.int .u64 B.b) = w2
  have GA : Hid (VB w2 w.heap.size A) := by
   show VB _ _ _;rw [← hg];exact (((HVA.out.below hBy (cell_lt HVA.out.c0)).set _ _).other (by simp) _).other (by simp) _
  have GB : Hid (VB w2 (w.heap.size + 1) B) := by
   show VB _ _ _;rw [← hg];exact (((HVB.out.below hBy (cell_lt HVB.out.c0)).other (by simp) _).other (by simp) _).set _ _
  have GC : Hid (VB w2 (w.heap.size + 1 + 1) noV) := by
   show VB _ _ _;rw [← hg];exact ((((HVC.out.below hBy (cell_lt HVC.out.c0)).other (by simp; omega) _).other (by simp; omega) _).other (by simp) _).other (by simp) _
  have GW : Hid (Below w.heap.size w w2) := by
   show Below _ _ _;rw [← hg];exact keep_store (keep_store (below_trans HBW.out hBy) _ (Nat.le_refl _) _ _) _ (Nat.le_succ _) _ _
  clear hg hBy HVA HVB HVC HBW HSZ HA HB;have hn2 : w.heap.size ≤ w.heap.size + 1 + 1 := by omega
  have HN2 := hidH hn2;clear hn2;obtain ⟨c0, c1, z0, z1⟩ := GA.out;obtain ⟨d0, d1, y0, y1⟩ := GB.out;obtain ⟨e0, e1, x0, x1⟩ := GC.out
  cases hAh : A.h
  ·rw [hAh] at c0;have EJ : Hid (joinV k A B = B) := by show _ = _; unfold joinV; rw [if_pos hAh]
   clear hAh;go_wp2_with fail;refine bodyPost_ret (v := .agg #[.bool B.h, .int .u64 B.b]) (by simp [results, Tryz.results157, go_sem, e0, e1]) rfl ⟨by rw [EJ.out], ?_⟩;exact keep_store GW.out _ HN2.out _ _
  cases hBh : B.h
  ·rw [hAh] at c0;rw [hBh] at d0;have EJ : Hid (joinV k A B = A) := by show _ = _; unfold joinV; rw [if_neg (by simp [hAh]), if_pos hBh]
   have HAh : Hid (A.h = true) := hAh;clear hAh hBh;go_wp2_with fail;refine bodyPost_ret (v := .agg #[.bool true, .int .u64 A.b]) (by simp [results, Tryz.results157, go_sem, e0, e1]) rfl ⟨by rw [EJ.out, HAh.out], ?_⟩;exact keep_store GW.out _ HN2.out _ _
  rw [hAh] at c0;rw [hBh] at d0;have HAh : Hid (A.h = true) := hAh;have HBh : Hid (B.h = true) := hBh;have hav : A = ⟨true, A.b⟩ := by rw [← hAh]
  have hbv : B = ⟨true, B.b⟩ := by rw [← hBh]
  by_cases h3 : k = 3
  ·subst h3;have EJ : Hid (joinV 3 A B = ⟨true, leastW A.b B.b⟩) := by show _ = _; unfold joinV; rw [if_neg (by simp [hAh]), if_neg (by simp [hBh]), if_pos rfl]
   clear hAh hBh;rw [hav] at GA;rw [hbv] at GB;clear hav hbv;go_wp2_with fail
   go_region_with (first
    | (go_at_call 180; refine (floatOf_walk ⟨_, _⟩ _).mono ?_; rintro e w9 ⟨rfl, hB9⟩; have hS9 : Below w2.heap.size w2 w9 := below_trans (by first | assumption | exact (Below.refl _ _).drew) hB9; obtain ⟨c0, c1, z0, z1⟩ := GA.out.below hS9 (cell_lt GA.out.c0); obtain ⟨d0, d1, y0, y1⟩ := GB.out.below hS9 (cell_lt GB.out.c0); clear hB9)
    | (go_at_call 179; refine (least_walk HAO.out HBO.out _).mono ?_; rintro e w' ⟨rfl, rfl⟩)
    | (go_at_call 159; refine (ofFloat_walk _ _).mono ?_; rintro e w9 ⟨rfl, hB9⟩; have hS9 : Below w2.heap.size w2 w9 := below_trans (by first | assumption | exact (Below.refl _ _).drew) hB9; obtain ⟨e0, e1, x0, x1⟩ := GC.out.below hS9 (cell_lt GC.out.c0)))
   all_goals go_wp2_with fail
   all_goals refine bodyPost_ret (v := .agg #[.bool true, .int .u64 (leastW A.b B.b)]) (by simp [results, Tryz.results157, go_sem, e0, e1]) rfl ⟨by rw [EJ.out], ?_⟩
   all_goals exact keep_store (below_trans GW.out hS9) _ HN2.out _ _
  by_cases h4 : k = 4
  ·subst h4;have EJ : Hid (joinV 4 A B = ⟨true, mostW A.b B.b⟩) := by show _ = _; unfold joinV; rw [if_neg (by simp [hAh]), if_neg (by simp [hBh]), if_neg (by omega), if_pos rfl]
   clear hAh hBh;rw [hav] at GA;rw [hbv] at GB;clear hav hbv;go_wp2_with fail
   go_region_with (first
    | (go_at_call 180; refine (floatOf_walk ⟨_, _⟩ _).mono ?_; rintro e w9 ⟨rfl, hB9⟩; have hS9 : Below w2.heap.size w2 w9 := below_trans (by first | assumption | exact (Below.refl _ _).drew) hB9; obtain ⟨c0, c1, z0, z1⟩ := GA.out.below hS9 (cell_lt GA.out.c0); obtain ⟨d0, d1, y0, y1⟩ := GB.out.below hS9 (cell_lt GB.out.c0); clear hB9)
    | (go_at_call 181; refine (most_walk HAO.out HBO.out _).mono ?_; rintro e w' ⟨rfl, rfl⟩)
    | (go_at_call 159; refine (ofFloat_walk _ _).mono ?_; rintro e w9 ⟨rfl, hB9⟩; have hS9 : Below w2.heap.size w2 w9 := below_trans (by first | assumption | exact (Below.refl _ _).drew) hB9; obtain ⟨e0, e1, x0, x1⟩ := GC.out.below hS9 (cell_lt GC.out.c0)))
   all_goals go_wp2_with fail
   all_goals refine bodyPost_ret (v := .agg #[.bool true, .int .u64 (mostW A.b B.b)]) (by simp [results, Tryz.results157, go_sem, e0, e1]) rfl ⟨by rw [EJ.out], ?_⟩
   all_goals exact keep_store (below_trans GW.out hS9) _ HN2.out _ _
  ·have EJ : Hid (joinV k A B = ⟨true, (A.b + B.b) % 18446744073709551616⟩) := by show _ = _; unfold joinV; rw [if_neg (by simp [hAh]), if_neg (by simp [hBh]), if_neg h3, if_neg h4]
   have es : IntKind.u64.wrap ((A.b : Int) + (B.b : Int)) = (((A.b + B.b) % 18446744073709551616 : Nat) : Int) := by rw [IntKind.wrap_u64]; omega
   obtain ⟨sm, hsm⟩ : ∃ sm, sm = (A.b + B.b) % 18446744073709551616 := ⟨_, rfl⟩;rw [← hsm] at es;have HS : Hid (sm = (A.b + B.b) % 18446744073709551616) := hsm;clear hsm;have b3 := neq_b h3;have b4 := neq_b h4;clear hAh hBh hav hbv h3 h4;go_wp2_with fail;refine bodyPost_ret (v := .agg #[.bool true, .int .u64 sm]) (by simp [results, Tryz.results157, go_sem, e0, e1]) rfl ⟨by rw [EJ.out, HS.out], ?_⟩;exact keep_store GW.out _ HN2.out _ _
end
section
open Go.Shelf

def lays6_ren : Go.Shelf.Ren := ⟨fun | 6 => 160 | 15 => 114 | 14 => 182 | 28 => 153 | 29 => 154 | 20 => 189 | 21 => 190 | 22 => 191 | 23 => 192 | 24 => 193 | 25 => 194 | 26 => 195 | 27 => 196 | 46 => 204 | 47 => 172 | 48 => 173 | 49 => 205 | 50 => 206 | 57 => 213 | n => n, fun | 22 => 46 | 24 => 66 | 25 => 197 | 3 => 3 | 39 => 162 | 0 => 0 | 53 => 192 | 55 => 40 | 4 => 4 | 46 => 185 | 45 => 184 | 50 => 189 | 5 => 5 | 9 => 9 | 66 => 201 | 70 => 205 | 76 => 211 | 77 => 212 | n => n, fun | n => n⟩

theorem lays6 : Go.Proofs.SlLaysF0.n6 Tryz.prog lays6_ren := {
  mixed := by kernel_rfl
  f6 := ⟨Tryz.f160.name, by decide, Tryz.func160.trans (congrArg some (by kernel_rfl))⟩
  f14 := ⟨Tryz.f182.name, by decide, Tryz.func182.trans (congrArg some (by kernel_rfl))⟩
  f15 := Tryz.func114.trans (congrArg some (by kernel_rfl))
  f20 := ⟨Tryz.f189.name, by decide, Tryz.func189.trans (congrArg some (by kernel_rfl))⟩
  f21 := ⟨Tryz.f190.name, by decide, Tryz.func190.trans (congrArg some (by kernel_rfl))⟩
  f22 := ⟨Tryz.f191.name, by decide, Tryz.func191.trans (congrArg some (by kernel_rfl))⟩
  f23 := ⟨Tryz.f192.name, by decide, Tryz.func192.trans (congrArg some (by kernel_rfl))⟩
  f24 := ⟨Tryz.f193.name, by decide, Tryz.func193.trans (congrArg some (by kernel_rfl))⟩
  f25 := ⟨Tryz.f194.name, by decide, Tryz.func194.trans (congrArg some (by kernel_rfl))⟩
  f26 := ⟨Tryz.f195.name, by decide, Tryz.func195.trans (congrArg some (by kernel_rfl))⟩
  f27 := ⟨Tryz.f196.name, by decide, Tryz.func196.trans (congrArg some (by kernel_rfl))⟩
  f28 := Tryz.func153.trans (congrArg some (by kernel_rfl))
  f29 := Tryz.func154.trans (congrArg some (by kernel_rfl))
  f46 := ⟨Tryz.f204.name, by decide, Tryz.func204.trans (congrArg some (by kernel_rfl))⟩
  f47 := Tryz.func172.trans (congrArg some (by kernel_rfl))
  f48 := Tryz.func173.trans (congrArg some (by kernel_rfl))
  f49 := ⟨Tryz.f205.name, by decide, Tryz.func205.trans (congrArg some (by kernel_rfl))⟩
  f50 := ⟨Tryz.f206.name, by decide, Tryz.func206.trans (congrArg some (by kernel_rfl))⟩
  f57 := ⟨Tryz.f213.name, by decide, Tryz.func213.trans (congrArg some (by kernel_rfl))⟩
  t0 := Tryz.underlying0
  a0 := Tryz.isAgg0
  z0 := Tryz.sizeOf0
  v0 := Tryz.zeroValue0
  t3 := Tryz.underlying3
  a3 := Tryz.isAgg3
  z3 := Tryz.sizeOf3
  v3 := Tryz.zeroValue3
  t4 := Tryz.underlying4
  a4 := Tryz.isAgg4
  z4 := Tryz.sizeOf4
  v4 := Tryz.zeroValue4
  t5 := Tryz.underlying5
  a5 := Tryz.isAgg5
  z5 := Tryz.sizeOf5
  v5 := Tryz.zeroValue5
  t9 := Tryz.underlying9
  a9 := Tryz.isAgg9
  z9 := Tryz.sizeOf9
  v9 := Tryz.zeroValue9
  t22 := Tryz.underlying46
  a22 := Tryz.isAgg46
  z22 := Tryz.sizeOf46
  v22 := Tryz.zeroValue46
  t25 := Tryz.underlying197
  a25 := Tryz.isAgg197
  z25 := Tryz.sizeOf197
  v25 := Tryz.zeroValue197
  t39 := Tryz.underlying162
  a39 := Tryz.isAgg162
  z39 := Tryz.sizeOf162
  v39 := Tryz.zeroValue162
  t45 := Tryz.underlying184
  a45 := Tryz.isAgg184
  z45 := Tryz.sizeOf184
  v45 := Tryz.zeroValue184
  t46 := Tryz.underlying185
  a46 := Tryz.isAgg185
  z46 := Tryz.sizeOf185
  v46 := Tryz.zeroValue185
  t50 := Tryz.underlying189
  a50 := Tryz.isAgg189
  z50 := Tryz.sizeOf189
  v50 := Tryz.zeroValue189
  t53 := Tryz.underlying192
  a53 := Tryz.isAgg192
  z53 := Tryz.sizeOf192
  v53 := Tryz.zeroValue192
  t55 := Tryz.underlying40
  a55 := Tryz.isAgg40
  z55 := Tryz.sizeOf40
  v55 := Tryz.zeroValue40
  t66 := Tryz.underlying201
  a66 := Tryz.isAgg201
  z66 := Tryz.sizeOf201
  v66 := Tryz.zeroValue201
  t70 := Tryz.underlying205
  a70 := Tryz.isAgg205
  z70 := Tryz.sizeOf205
  v70 := Tryz.zeroValue205
  t76 := Tryz.underlying211
  a76 := Tryz.isAgg211
  z76 := Tryz.sizeOf211
  v76 := Tryz.zeroValue211
  t77 := Tryz.underlying212
  a77 := Tryz.isAgg212
  z77 := Tryz.sizeOf212
  v77 := Tryz.zeroValue212 }
end
end Go.Proofs.YtombjgfajbhbbaaGreat
