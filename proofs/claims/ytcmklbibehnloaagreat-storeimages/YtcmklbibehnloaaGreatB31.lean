/- Pages that change all or none: what laying does to the disk, what Put does to a book that is right, what Open finds. Nothing is walked here. -/
import Derived.Test.YtcmklbibehnloaaGreatB30
set_option maxRecDepth 100000
set_option maxHeartbeats 16000000
namespace Go.Proofs.YtcmklbibehnloaaGreat
open Go.RowKit
section
open Ieee Go.RowKit

def cfC (a b : Cl) : Int := cmpN a.k b.k
theorem ltCl (a b : Cl) : ltOf cfC a b = decide (a.k < b.k) := by
 unfold ltOf cfC cmpN;by_cases h1 : a.k < b.k
 ·simp [h1]
 ·by_cases h2 : b.k < a.k <;> simp [h1, h2]
theorem swoC : Sort.SWO (ltOf cfC) where
 irrefl x := by rw [ltCl]; simp
 trans x y z h1 h2 := by rw [ltCl] at *; simp at *; omega
 ntrans x y z h1 h2 := by rw [ltCl] at *; simp at *; omega
def Mc (w : World) (g : Nat) (m : List Cl) : Prop := ∀ i j, (h : i < m.length) → j < 6 → w.cell? ⟨g, i * 6 + j, none⟩ = (clF m[i])[j]? ∧ w.frozen? ⟨g, i * 6 + j, none⟩ = false
theorem clF_some (c : Cl) {j : Nat} (hj : j < 6) : (clF c)[j]? = some (clF c)[j]! := by
 have h : j < (clF c).length := by rw [clF_len]; exact hj
 rw [List.getElem?_eq_getElem h, getElem!_pos (clF c) j h]
theorem mc_own {w : World} {base n g cap : Nat} {m : List Cl} (h : w.ownsRow base 114 6 (.slice (some ⟨g, 0, none⟩) n cap) n (flatC m)) (hn : n = m.length) : Mc w g m := by
 intro i j hi hj;rcases h.2 with ⟨e, _⟩ | ⟨g', cap', cur, hv, hg, hh, hnc, hcm, hcs, htk⟩
 ·cases e
 ·cases hv
  have hlt : i * 6 + j < n * 6 := by omega
  have e1 : w.cell? ⟨g, i * 6 + j, none⟩ = cur[i * 6 + j]? := by rw [cell_of_row w g (i * 6 + j) cur 114 (0, 0) hh]
  refine ⟨?_, by simp [World.frozen?, hh]⟩;rw [e1, ← flatC_get m i j hi hj, ← htk];simp [hlt]
theorem holds_of_mc [Inhabited Cl] {w : World} {g : Nat} {m : List Cl} (h : Mc w g m) : Sort.HoldsK clF 6 w g 0 m.toArray := by
 intro j hj;rw [Sort.size_flatK] at hj;have hjl : j < m.length * 6 := by simpa using hj
 rw [Sort.get_flatK _ _ _ _ hj];have h3 : j / 6 < m.length := by omega
 obtain ⟨a, b⟩ := h (j / 6) (j % 6) h3 (by omega);have e0 : m.toArray[j / 6]! = m[j / 6] := by rw [getElem!_pos m.toArray (j / 6) (by simpa using h3)]; simp
 rw [e0];rw [show j / 6 * 6 + j % 6 = j by omega] at a b;rw [Nat.zero_add];refine ⟨?_, b⟩;rw [a, clF_some _ (by omega)];rfl
theorem mc_of_holds [Inhabited Cl] {w : World} {g : Nat} {d : Array Cl} (h : Sort.HoldsK clF 6 w g 0 d) : Mc w g d.toList := by
 intro i j hi hj;have hi' : i < d.size := by simpa using hi
 have e0 : d[i]! = d.toList[i] := by rw [getElem!_pos d i hi']; simp
 obtain ⟨a, x⟩ := h.cell hi' hj;rw [e0] at a;simp only [Nat.zero_add] at a x;exact ⟨a.trans (clF_some _ hj).symm, x⟩
theorem cclosure_walk (x y : Cl) (W : World) :
  Calls Tryz.prog 152 #[.agg #[.int .u64 x.k, .bool x.p.h, .int .u64 x.p.b, .bool x.c.h, .int .u64 x.c.b, .int .i64 x.n], .agg #[.int .u64 y.k, .bool y.p.h, .int .u64 y.p.b, .bool y.c.h, .int .u64 y.c.b, .int .i64 y.n]] W fun e w' => e = .returned (.int .i64 (cfC x y)) ∧ ∃ q os', w' = Sort.grow (W.drewN q) os' := by
 unfold cfC;generalize hr : cmpN x.k y.k = r;have hcon := fun W' => compare_walk x.k y.k W';rw [hr] at hcon;clear hr;go_in;go_wp2_with (go_at_call 153; refine (hcon _).mono ?_; rintro e w' ⟨rfl, rfl⟩);go_ret;exact ⟨rfl, 0, _, by rw [Sort.alloc_eq_grow, Sort.alloc_eq_grow, Sort.grow_grow]; rfl⟩
theorem cmpLaysC [Inhabited Cl] (blk off size : Nat) (w : World) : CmpLays Tryz.prog 152 #[] clF 6 cfC blk off size w :=
 fun _ _ _ _ x y => cclosure_walk x y _
theorem grown_sortC [Inhabited Cl] {w : World} {g n : Nat} {os : Array Obj} (d : Array Cl) : w.grownBy (sortWorldK clF 6 w g 0 n d os) (some g) := by
 refine ⟨rfl, rfl, rfl, by simp [sortWorldK, Sort.putRowK], fun k hk hne => ?_⟩;unfold sortWorldK;rw [Sort.heap_grow_old _ _ (by simpa [Sort.putRowK] using hk)];have : g ≠ k := fun e => hne (by rw [e]);simp [Sort.putRowK, Sort.putRow, Sort.mapBlock, Sort.ahead, Array.getElem?_modify, this]
def SrtOf (m d : List Cl) : Prop := d.Perm m ∧ d.Pairwise (fun a b => a.k ≤ b.k)
theorem csorted_end [Inhabited Cl] {m : List Cl} {d' : Array Cl} (h1 : Sort.PermIn 0 m.toArray.size m.toArray d') (h2 : Sort.SortedIn (ltOf cfC) 0 m.toArray.size d') : SrtOf m d'.toList := by
 obtain ⟨hs, _, hperm⟩ := h1;have hsz : d'.size = m.length := by simpa using hs
 constructor
 ·have e1 : (d'.extract 0 m.toArray.size).toList = d'.toList := by
   rw [← hs]; simp
  have e2 : (m.toArray.extract 0 m.toArray.size).toList = m := by simp
  rw [e1, e2] at hperm; exact hperm
 ·rw [List.pairwise_iff_getElem];intro i j hi hj hij;have hi' : i < d'.size := by simpa using hi
  have hj' : j < d'.size := by simpa using hj
  have h := h2 i j (Nat.zero_le _) hij (by rw [← hs]; exact hj');rw [ltCl, getElem!_pos d' i hi', getElem!_pos d' j hj'] at h;simpa using h
theorem csort_walk {g cap : Nat} {m : List Cl} {w : World} (hM : Mc w g m) (hg : g < w.heap.size) (hl : m.length < 4611686018427387904) :
  Calls Tryz.prog 151 #[.slice (some ⟨g, 0, none⟩) m.length cap, .func (.func 152) #[] #[]] w fun e w' => e = .returned (.tuple #[]) ∧ ∃ d, Mc w' g d ∧ SrtOf m d ∧ w.grownBy w' (some g) := by
 have eg : ∀ args w, (callFunc 152 args).run Tryz.prog w = .ok (.enter 152 args) w := enters_of Tryz.func152 (by kernel_rfl) rfl
 haveI : Inhabited Cl := ⟨zeroC⟩
 have hcon := AnyQ.slices_SortFunc lays6c 6 Tryz.isAgg114 Tryz.sizeOf114 clF (fun _ => rfl) (fun x v hv => by simp [clF] at hv; rcases hv with rfl | rfl | rfl | rfl | rfl | rfl <;> rfl) cfC swoC 152 #[] g 0 cap m.toArray w eg (cmpLaysC g 0 _ w) (holds_of_mc hM) hg (by simpa using hl);refine hcon.mono ?_;rintro e w' ⟨rfl, d', n, os, h1, h2, rfl⟩;exact ⟨rfl, d'.toList, mc_of_holds (holdsK_sortWorldK_c clF 6 w g 0 m.toArray d' n os (holds_of_mc hM) hg (by simpa using h1.1)), csorted_end h1 h2, grown_sortC d'⟩
theorem csort_none (p : Option Addr) (cap : Nat) (w : World) :
  Calls Tryz.prog 151 #[.slice p 0 cap, .func (.func 152) #[] #[]] w fun e w' => e = .returned (.tuple #[]) ∧ w' = w :=
 AnyF.slices_SortFunc_none lays6c p cap _ w
def CsGot (m : List Cl) (w : World) (e : Ending) (w' : World) : Prop :=
 ∃ ao cap d, e = .returned (.slice ao d.length cap) ∧ d.length ≤ cap ∧ cap ≤ maxLen ∧ SrtOf m d ∧ (d ≠ [] → ∃ g, ao = some ⟨g, 0, none⟩ ∧ w.heap.size ≤ g ∧ g < w'.heap.size ∧ Mc w' g d) ∧ (ao = none → cap = 0) ∧ Below w.heap.size w w'
theorem flat_step {Ls : List (List Cl)} {i : Nat} (hi : i < Ls.length) : (Ls.take (i + 1)).flatten = (Ls.take i).flatten ++ pgc Ls i := by
 rw [List.take_succ_eq_append_getElem hi, List.flatten_append, pgc_get hi]; simp
theorem flat_len {Ls : List (List Cl)} (h : ∀ i, i < 6 → (pgc Ls i).length ≤ 16) (h6 : Ls.length = 6) : ∀ i, i ≤ 6 → (Ls.take i).flatten.length ≤ 16 * i := by
 intro i
 induction i with
 | zero => intro _; simp
 | succ i ih =>
  intro hi;rw [flat_step (by omega), List.length_append];have h1 := ih (by omega);have h2 := h i (by omega);omega
def CsR (w : World) (Ls : List (List Cl)) (lv iv : Value) (wr : World) : Prop :=
 ∃ i : Nat, iv = .int .i64 i ∧ i ≤ 6 ∧ wr.ownsRow w.heap.size 114 6 lv (Ls.take i).flatten.length (flatC (Ls.take i).flatten) ∧ Below w.heap.size w wr
theorem sorted_walkS {w : World} {Q : Nat} {f : Nat → Value} {Ls : List (List Cl)} (h : SH w Q f Ls) (hle : ∀ i, i < 6 → (pgc Ls i).length ≤ 16) :
  Calls Tryz.prog 79 #[.pointer (some ⟨Q, 0, none⟩)] w (CsGot Ls.flatten w) := by
 have HSH : Hid (SH w Q f Ls) := h;have HLE := hidH hle;have HLN : Hid (Ls.length = 6) := h.len;have HQW : Hid (Q < w.heap.size) := h.lt;have HO0 : Hid ((w.alloc (Obj.cells #[] 114)).ownsRow w.heap.size 114 6 (.slice (some ⟨w.heap.size, 0, none⟩) 0 0) 0 []) := World.ownsRow_made w #[] 0 (Nat.le_refl _) (by simp [maxLen]) rfl;have HBA : Hid (Below w.heap.size w (w.alloc (Obj.cells #[] 114))) := below_alloc _ _;clear h hle;go_in;go_upto_region 2 with fail
 generalize w.alloc (Obj.cells #[] 114) = wa at HO0 HBA ⊢;have HR0 : Hid (CsR w Ls (.slice (some ⟨w.heap.size, 0, none⟩) 0 0) (.int .i64 0) wa) := ⟨0, rfl, by omega, by simpa [flatC] using HO0.out, HBA.out⟩;generalize Value.slice (some ⟨w.heap.size, 0, none⟩) 0 0 = lv0 at HR0 ⊢;clear HO0 HBA;go_wp2_with fail;go_loopw [3, 6] (fun lv iv wr => CsR w Ls lv iv wr) (fun _ iv _ => 6 - (intOf iv).toNat)
 case atStart => exact HR0.out
 case round =>
  obtain ⟨i, rfl, hi6, hown, hB⟩ := hrel;have HOW := hidH hown;have HB := hidH hB;clear hown hB HR0;by_cases hlt : i < 6;rotate_left
  ·have hlti : ¬ (i : Int) < 6 := by omega
   have hi : i = 6 := by omega
   subst hi;obtain ⟨m, hm⟩ : ∃ m, m = Ls.flatten := ⟨_, rfl⟩;have e6 : (Ls.take 6).flatten = m := by rw [hm, List.take_of_length_le (by rw [HLN.out]; exact Nat.le_refl _)]
   rw [e6] at HOW;have HM : Hid (m = Ls.flatten) := hm;have HML : Hid (m.length ≤ 96) := by have h := flat_len HLE.out HLN.out 6 (Nat.le_refl _); rw [e6] at h; exact h
   clear hm e6;by_cases hm0 : m = []
   ·subst hm0
    obtain ⟨ao, cap, hv, hcap, hnone⟩ : ∃ ao cap, u3 = .slice ao 0 cap ∧ cap ≤ maxLen ∧ (ao = none → cap = 0) := by
     rcases HOW.out.2 with ⟨e, _⟩ | ⟨g, cap, cur, hv, hg, hh, hnc, hcm, hcs, htk⟩
     ·exact ⟨none, 0, e, by simp [maxLen], fun _ => rfl⟩
     ·exact ⟨_, cap, hv, hcm, fun e => by cases e⟩
    subst hv;have HCM : Hid (cap ≤ maxLen) := hcap;have HNN : Hid (ao = none → cap = 0) := hnone;clear hcap hnone;go_wp2_with fail;refine (csort_none ao cap wr).mono ?_;rintro e w2 ⟨rfl, hw2⟩;replace hw2 := hw2.symm;subst hw2;go_wp2_with fail;go_ret;rw [← HM.out];exact ⟨ao, cap, [], rfl, Nat.zero_le _, HCM.out, ⟨List.Perm.refl _, List.Pairwise.nil⟩, fun e => absurd rfl e, HNN.out, HB.out⟩
   ·obtain ⟨g, cap, hv, hg, hgl, hnc, hcm⟩ : ∃ g cap, u3 = .slice (some ⟨g, 0, none⟩) m.length cap ∧ w.heap.size ≤ g ∧ g < wr.heap.size ∧ m.length ≤ cap ∧ cap ≤ maxLen := by
     rcases HOW.out.2 with ⟨_, h0⟩ | ⟨g, cap, cur, hv, hg, hh, hnc, hcm, hcs, htk⟩
     ·exact absurd (List.eq_nil_of_length_eq_zero h0) hm0
     ·exact ⟨g, cap, hv, hg, (Array.getElem?_eq_some_iff.1 hh).1, hnc, hcm⟩
    subst hv;have HMC : Hid (Mc wr g m) := mc_own HOW.out rfl;have HG : Hid (w.heap.size ≤ g ∧ g < wr.heap.size ∧ m.length ≤ cap ∧ cap ≤ maxLen) := ⟨hg, hgl, hnc, hcm⟩;clear hg hgl hnc hcm;go_wp2_with fail;refine (csort_walk HMC.out HG.out.2.1 (by have := HML.out; omega)).mono ?_;rintro e w2 ⟨rfl, d, hmc, hsr, hgr⟩;have HD : Hid (Mc w2 g d ∧ SrtOf m d) := ⟨hmc, hsr⟩;have HB2 : Hid (Below w.heap.size w w2) := HB.out.grown hgr HB.out.size (by simp; exact HG.out.1);have HSZ : Hid (wr.heap.size ≤ w2.heap.size) := hgr.size;have hdl : m.length = d.length := hsr.1.length_eq.symm;rw [hdl] at HG ⊢;clear hmc hsr hgr hdl;go_wp2_with fail;go_ret;rw [← HM.out];exact ⟨_, cap, d, rfl, HG.out.2.2.1, HG.out.2.2.2, HD.out.2, fun _ => ⟨g, rfl, HG.out.1, Nat.lt_of_lt_of_le HG.out.2.1 HSZ.out, HD.out.1⟩, fun e => (by cases e), HB2.out⟩
  ·have hlti : (i : Int) < 6 := by omega
   have HL2 : Hid (i < Ls.length) := by rw [HLN.out]; exact hlt
   have HSR : Hid (SH wr Q f Ls) := HSH.out.below HB.out;obtain ⟨l, hl⟩ : ∃ l, l = pgc Ls i := ⟨_, rfl⟩;have HL : Hid (l = pgc Ls i) := hl;have hcv := HSR.out.cv i hlt;rw [← hl] at hcv;obtain ⟨pa, pc, hpv⟩ := hcv.form;obtain ⟨pn, hpn⟩ : ∃ pn, pn = l.length := ⟨_, rfl⟩;rw [← hpn] at hpv;rw [hpv] at hcv;have HCV := hidH hcv;have m0 := HSR.out.c i hlt;rw [hpv] at m0
   have HLB : Hid ((Ls.take i).flatten.length + l.length ≤ 112) := by
    have h1 := flat_len HLE.out HLN.out i (by omega);have h2 := HLE.out i hlt;show _ ≤ _;rw [hl]; omega
   clear hl hcv hpv hpn;go_upto_region 6 with (at_builtin; refine wpList_append_cv (by rfl) (.tmp 9) (.tmp 14) (by rfl) w.heap.size _ _ _ (by rfl) HOW.out _ l (by rfl) HCV.out (by have := HLB.out; simp only [maxLen]; omega) (by have := HLB.out; omega) HB.out.size ?_; intro v6 w6 hown hgrow)
   have HB6 : Hid (Below w.heap.size w w6) := HB.out.trans (grown_belowC HOW.out hgrow HB.out.size);have HO6 : Hid (w6.ownsRow w.heap.size 114 6 v6 (Ls.take (i + 1)).flatten.length (flatC (Ls.take (i + 1)).flatten)) := by show World.ownsRow _ _ _ _ _ _ _; rw [flat_step HL2.out, List.length_append, flatC_append, ← HL.out]; exact hown
   clear hown hgrow m0;go_wp2_with fail;go_roundw
   case rel => exact ⟨i + 1, by go_num, hlt, HO6.out, HB6.out⟩
   case measure => simp [intOf]; omega
end
section
section

variable {A : Nat → Prop} {w w1 : World} {sv dv : Value} {k : Int} {P : Bo} {S : Dk} {sp : Nat}

def QyGot (A : Nat → Prop) (w : World) (sv dv : Value) (k : Int) (P : Bo) (S : Dk) (Ls : List (List Cl)) (key : Nat) (n : Int) (e : Ending) (w' : World) : Prop :=
 ∃ (c : Nat) (v : Vl) (S' : Dk), e = .returned (.tuple #[.agg #[.bool v.h, .int .u64 v.b], .int .i64 c]) ∧ ((shutB P S = true ∧ c = 80 ∧ v = noV) ∨ (shutB P S = false ∧ c = 0 ∧ v = shRes Ls key n)) ∧ ST A w' sv dv k (getB P S) S' ∧ Rdd 6 S S' ∧ Ch A w w'
theorem ch_two {D : Nat → Prop} {w0 w1 : World} {g : Nat} (h : Ch D w0 w1) (hg : D g ∨ w0.heap.size ≤ g) (a b : Value) : Ch D w0 ((w1.setCell ⟨g, 0, none⟩ a).setCell ⟨g, 1, none⟩ b) := by
 have s : ∀ {x : World} (i : Nat) (u : Value), Ch D w0 x → Ch D w0 (x.setCell ⟨g, i, none⟩ u) := fun i u hx => hx.trans (ch_set _ g i u) (fun y hy => by subst hy; exact hg);exact s _ _ (s _ _ h)
theorem ST.two (h : ST A w (.pointer (some ⟨sp, 0, none⟩)) dv k P S) {g : Nat} (hg : ¬ A g) (hp : sp ≠ g) (a b : Value) : ST A ((w.setCell ⟨g, 0, none⟩ a).setCell ⟨g, 1, none⟩ b) (.pointer (some ⟨sp, 0, none⟩)) dv k P S := by
 have s : ∀ {x : World} (i : Nat) (u : Value), ST A x (.pointer (some ⟨sp, 0, none⟩)) dv k P S → ST A (x.setCell ⟨g, i, none⟩ u) (.pointer (some ⟨sp, 0, none⟩)) dv k P S := fun i u hx => hx.setB (fun y _ hA e => by subst e; exact hg hA) (fun s e => by cases e; exact hp);exact s _ _ (s _ _ h)
theorem query_walk (h : ST A w sv dv k P S) {Ls : List (List Cl)} (hD : shutB P S = false → decP P S 6 = some Ls) (hrd : S.rd < 4611686018427387904) (key : Nat) (n : Int) :
  Calls Tryz.prog 27 #[sv, .int .u64 key, .int .i64 n] w (QyGot A w sv dv k P S Ls key n) := by
 have HD : Hid (shutB P S = false → decP P S 6 = some Ls) := hD;have HRD := hidH hrd;obtain ⟨sp, hsp, hsl, hsA⟩ := h.ptr;subst hsp;have HALW : Hid (∀ x, A x → x < w.heap.size) := fun x hx => h.lt hx;have HSPW : Hid (sp < w.heap.size) := hsl;have HB0 : Hid (Below w.heap.size w (w.alloc (Obj.cells #[.bool false, .int .u64 0] 53))) := below_alloc _ _;have HT0 : Hid (ST A (w.alloc (Obj.cells #[.bool false, .int .u64 0] 53)) (.pointer (some ⟨sp, 0, none⟩)) dv k P S) := h.below HB0.out;have HR0 : Hid ((w.alloc (Obj.cells #[.bool false, .int .u64 0] 53)).cell? ⟨w.heap.size, 0, none⟩ = some (.bool false) ∧ (w.alloc (Obj.cells #[.bool false, .int .u64 0] 53)).cell? ⟨w.heap.size, 1, none⟩ = some (.int .u64 0) ∧ ∀ j, (w.alloc (Obj.cells #[.bool false, .int .u64 0] 53)).frozen? ⟨w.heap.size, j, none⟩ = false) := ⟨by simp [go_sem], by simp [go_sem], by intro j; simp [go_sem]⟩;clear h hD hrd hsl hsA;go_in;go_upto_region 1 with fail
 obtain ⟨R, hR⟩ : ∃ R, R = w.heap.size := ⟨_, rfl⟩;rw [← hR] at HR0 ⊢;have HR : Hid (R = w.heap.size) := hR;clear hR;generalize w.alloc (Obj.cells #[.bool false, .int .u64 0] 53) = w0 at HB0 HT0 HR0 ⊢;have HNA : Hid (¬ A R) := fun e => by have h1 := HALW.out _ e; have h2 := HR.out; omega
 have HSR : Hid (sp ≠ R) := by have h1 := HSPW.out; have h2 := HR.out; show _ ≠ _; omega
 go_wp2_with fail;refine (cells_walk HT0.out HRD.out).mono ?_;rintro e w1 ⟨c, f, S1, rfl, hform, hfr, hcase, hst1, hrdd1, hch1⟩;have HT1 := hidH hst1;have HR1 : Hid (Rdd 6 S S1) := hrdd1;have HC1 : Hid (Ch A w w1) := (Ch.of_below HB0.out).self hch1
 have HZ1 : Hid (w1.cell? ⟨R, 0, none⟩ = some (.bool false) ∧ w1.cell? ⟨R, 1, none⟩ = some (.int .u64 0) ∧ ∀ j, w1.frozen? ⟨R, j, none⟩ = false) := ⟨hch1.cell HR0.out.1 HNA.out, hch1.cell HR0.out.2.1 HNA.out, fun j => by
  have e := hch1.block R (cell_lt HR0.out.1) HNA.out;have hz := HR0.out.2.2 j;unfold World.frozen? at hz ⊢;rw [e]; exact hz⟩
 have HCASE : Hid ((c = 80 ∧ shutB P S = true) ∨ (c = 0 ∧ shutB P S = false ∧ Ls.length = 6 ∧ ∀ j, j < 6 → Cv w1 (f j) (pgc Ls j))) := by
  rcases hcase with h | ⟨_, h1, h2⟩ | ⟨h1, h2, L', h3, h4⟩
  ·exact .inl h
  ·rw [HD.out h1] at h2; cases h2
  ·have e := HD.out h2;rw [e] at h3
   cases h3
   exact .inr ⟨h1, h2, decP_len e, h4⟩
 obtain ⟨a0, n0, p0, e0⟩ := hform 0 (by omega);obtain ⟨a1, n1, p1, e1⟩ := hform 1 (by omega);obtain ⟨a2, n2, p2, e2⟩ := hform 2 (by omega);obtain ⟨a3, n3, p3, e3⟩ := hform 3 (by omega);obtain ⟨a4, n4, p4, e4⟩ := hform 4 (by omega);obtain ⟨a5, n5, p5, e5⟩ := hform 5 (by omega);have HE : Hid (f 0 = .slice a0 n0 p0 ∧ f 1 = .slice a1 n1 p1 ∧ f 2 = .slice a2 n2 p2 ∧ f 3 = .slice a3 n3 p3 ∧ f 4 = .slice a4 n4 p4 ∧ f 5 = .slice a5 n5 p5) := ⟨e0, e1, e2, e3, e4, e5⟩;rw [e0, e1, e2, e3, e4, e5];clear hform hfr hcase hst1 hrdd1 hch1 e0 e1 e2 e3 e4 e5;go_upto_region 2 with fail
 have HB2 : Hid (Below w1.heap.size w1 (w1.alloc (Obj.cells #[.slice a0 n0 p0, .slice a1 n1 p1, .slice a2 n2 p2, .slice a3 n3 p3, .slice a4 n4 p4, .slice a5 n5 p5] 87))) := below_alloc _ _
 have HSL : Hid (∀ L : List (List Cl), L.length = 6 → (∀ j, j < 6 → Cv w1 (f j) (pgc L j)) → SH (w1.alloc (Obj.cells #[.slice a0 n0 p0, .slice a1 n1 p1, .slice a2 n2 p2, .slice a3 n3 p3, .slice a4 n4 p4, .slice a5 n5 p5] 87)) w1.heap.size f L) := fun L h1 h2 => by
  have h := sh_lit w1 f h1 h2;obtain ⟨e0, e1, e2, e3, e4, e5⟩ := HE.out;rw [e0, e1, e2, e3, e4, e5] at h;exact h
 obtain ⟨T8, hT8⟩ : ∃ T8, T8 = w1.heap.size := ⟨_, rfl⟩;rw [← hT8] at HSL ⊢;clear hT8;generalize w1.alloc (Obj.cells #[.slice a0 n0 p0, .slice a1 n1 p1, .slice a2 n2 p2, .slice a3 n3 p3, .slice a4 n4 p4, .slice a5 n5 p5] 87) = w2 at HB2 HSL ⊢;have HRL : Hid (R < w1.heap.size) := cell_lt HZ1.out.1;have HZ2 : Hid (w2.cell? ⟨R, 0, none⟩ = some (.bool false) ∧ w2.cell? ⟨R, 1, none⟩ = some (.int .u64 0) ∧ ∀ j, w2.frozen? ⟨R, j, none⟩ = false) := ⟨by rw [HB2.out.cell (p := ⟨R, 0, none⟩) HRL.out]; exact HZ1.out.1, by rw [HB2.out.cell (p := ⟨R, 1, none⟩) HRL.out]; exact HZ1.out.2.1, fun j => by rw [HB2.out.frozen (p := ⟨R, j, none⟩) HRL.out]; exact HZ1.out.2.2 j⟩;have HT2 := hidH (HT1.out.below HB2.out);have HC2 : Hid (Ch A w w2) := HC1.out.self (Ch.of_below HB2.out);rcases HCASE.out with ⟨rfl, h2⟩ | ⟨rfl, h2, h3, h4⟩
 ·have HS : Hid (shutB P S = true) := h2;obtain ⟨r0, r1, rz⟩ := HZ2.out;have z0 := rz 0;have z1 := rz 1;have HFIN : Hid _ := ch_two HC2.out (.inr (by rw [HR.out]; exact Nat.le_refl _)) (g := R) (.bool false) (.int .u64 0);have HTF : Hid _ := HT2.out.two HNA.out HSR.out (.bool false) (.int .u64 0);clear rz h2;go_wp2_with fail
  (try simp only [Exit.inBlock, Exit.then])
  refine bodyPost_ret (v := .tuple #[.agg #[.bool false, .int .u64 0], .int .i64 80]) (by rw [results_cell_tmp rfl]; go_simp) rfl ?_;exact ⟨80, noV, S1, rfl, .inl ⟨HS.out, rfl, rfl⟩, HTF.out, HR1.out, HFIN.out⟩
 ·have HS : Hid (shutB P S = false) := h2;have HSH : Hid (SH w2 T8 f Ls) := HSL.out Ls h3 h4;clear h2 h3 h4;obtain ⟨v, hv⟩ : ∃ v, v = shRes Ls key n := ⟨_, rfl⟩;have HVV : Hid (v = shRes Ls key n) := hv;clear hv;go_wp2_with fail;refine (sresolve_walk HSH.out key n).mono ?_;rw [← HVV.out];rintro e w3 ⟨rfl, hB3⟩;have HRL2 : Hid (R < w2.heap.size) := cell_lt HZ2.out.1;have r0 : w3.cell? ⟨R, 0, none⟩ = some (.bool false) := by rw [hB3.cell (p := ⟨R, 0, none⟩) HRL2.out]; exact HZ2.out.1
  have r1 : w3.cell? ⟨R, 1, none⟩ = some (.int .u64 0) := by rw [hB3.cell (p := ⟨R, 1, none⟩) HRL2.out]; exact HZ2.out.2.1
  have z0 : w3.frozen? ⟨R, 0, none⟩ = false := by rw [hB3.frozen (p := ⟨R, 0, none⟩) HRL2.out]; exact HZ2.out.2.2 0
  have z1 : w3.frozen? ⟨R, 1, none⟩ = false := by rw [hB3.frozen (p := ⟨R, 1, none⟩) HRL2.out]; exact HZ2.out.2.2 1
  have HFIN : Hid _ := ch_two (HC2.out.self (Ch.of_below hB3)) (.inr (by rw [HR.out]; exact Nat.le_refl _)) (g := R) (.bool v.h) (.int .u64 v.b);have HTF : Hid _ := (HT2.out.below hB3).two HNA.out HSR.out (.bool v.h) (.int .u64 v.b);clear hB3;go_wp2_with fail
  (try simp only [Exit.inBlock, Exit.then])
  refine bodyPost_ret (v := .tuple #[.agg #[.bool v.h, .int .u64 v.b], .int .i64 0]) (by rw [results_cell_tmp rfl]; go_simp) rfl ?_;exact ⟨0, v, S1, rfl, .inr ⟨HS.out, rfl, HVV.out⟩, HTF.out, HR1.out, HFIN.out⟩
end
end
section
section

variable {A : Nat → Prop} {w w' : World} {sv dv : Value} {k : Int} {P : Bo} {S : Dk}

def CeGot (A : Nat → Prop) (w : World) (sv dv : Value) (k : Int) (P : Bo) (S : Dk) (Ls : List (List Cl)) (e : Ending) (w' : World) : Prop :=
 ∃ S', ST A w' sv dv k (getB P S) S' ∧ Rdd 6 S S' ∧ Ch A w w' ∧
  ((shutB P S = true ∧ e = .returned (.tuple #[.slice none 0 0, .int .i64 80])) ∨
   (shutB P S = false ∧ ∃ ao cap d, e = .returned (.tuple #[.slice ao d.length cap, .int .i64 0]) ∧ d.length ≤ cap ∧ cap ≤ maxLen ∧ SrtOf Ls.flatten d ∧ (d ≠ [] → ∃ g, ao = some ⟨g, 0, none⟩ ∧ w.heap.size ≤ g ∧ g < w'.heap.size ∧ Mc w' g d) ∧ (ao = none → cap = 0)))
theorem scells_walk (h : ST A w sv dv k P S) {Ls : List (List Cl)} (hD : shutB P S = false → decP P S 6 = some Ls) (hle : ∀ i, i < 6 → (pgc Ls i).length ≤ 16) (hrd : S.rd < 4611686018427387904) :
  Calls Tryz.prog 34 #[sv] w (CeGot A w sv dv k P S Ls) := by
 have HD : Hid (shutB P S = false → decP P S 6 = some Ls) := hD;have HLE := hidH hle;have HRD := hidH hrd;have HT0 : Hid (ST A w sv dv k P S) := h;clear h hD hrd hle;go_in;go_wp2_with fail;refine (cells_walk HT0.out HRD.out).mono ?_;rintro e w1 ⟨c, f, S1, rfl, hform, hfr, hcase, hst1, hrdd1, hch1⟩;have HT1 := hidH hst1;have HR1 : Hid (Rdd 6 S S1) := hrdd1;have HC1 : Hid (Ch A w w1) := hch1
 have HCASE : Hid ((c = 80 ∧ shutB P S = true) ∨ (c = 0 ∧ shutB P S = false ∧ Ls.length = 6 ∧ ∀ j, j < 6 → Cv w1 (f j) (pgc Ls j))) := by
  rcases hcase with h | ⟨_, h1, h2⟩ | ⟨h1, h2, L', h3, h4⟩
  ·exact .inl h
  ·rw [HD.out h1] at h2; cases h2
  ·have e := HD.out h2;rw [e] at h3
   cases h3
   exact .inr ⟨h1, h2, decP_len e, h4⟩
 obtain ⟨a0, n0, p0, e0⟩ := hform 0 (by omega);obtain ⟨a1, n1, p1, e1⟩ := hform 1 (by omega);obtain ⟨a2, n2, p2, e2⟩ := hform 2 (by omega);obtain ⟨a3, n3, p3, e3⟩ := hform 3 (by omega);obtain ⟨a4, n4, p4, e4⟩ := hform 4 (by omega);obtain ⟨a5, n5, p5, e5⟩ := hform 5 (by omega);have HE : Hid (f 0 = .slice a0 n0 p0 ∧ f 1 = .slice a1 n1 p1 ∧ f 2 = .slice a2 n2 p2 ∧ f 3 = .slice a3 n3 p3 ∧ f 4 = .slice a4 n4 p4 ∧ f 5 = .slice a5 n5 p5) := ⟨e0, e1, e2, e3, e4, e5⟩;rw [e0, e1, e2, e3, e4, e5];clear hform hfr hcase hst1 hrdd1 hch1 e0 e1 e2 e3 e4 e5;go_upto_region 2 with fail
 have HB2 : Hid (Below w1.heap.size w1 (w1.alloc (Obj.cells #[.slice a0 n0 p0, .slice a1 n1 p1, .slice a2 n2 p2, .slice a3 n3 p3, .slice a4 n4 p4, .slice a5 n5 p5] 87))) := below_alloc _ _
 have HSL : Hid (∀ L : List (List Cl), L.length = 6 → (∀ j, j < 6 → Cv w1 (f j) (pgc L j)) → SH (w1.alloc (Obj.cells #[.slice a0 n0 p0, .slice a1 n1 p1, .slice a2 n2 p2, .slice a3 n3 p3, .slice a4 n4 p4, .slice a5 n5 p5] 87)) w1.heap.size f L) := fun L h1 h2 => by
  have h := sh_lit w1 f h1 h2;obtain ⟨e0, e1, e2, e3, e4, e5⟩ := HE.out;rw [e0, e1, e2, e3, e4, e5] at h;exact h
 obtain ⟨T8, hT8⟩ : ∃ T8, T8 = w1.heap.size := ⟨_, rfl⟩;rw [← hT8] at HSL ⊢;clear hT8;generalize w1.alloc (Obj.cells #[.slice a0 n0 p0, .slice a1 n1 p1, .slice a2 n2 p2, .slice a3 n3 p3, .slice a4 n4 p4, .slice a5 n5 p5] 87) = w2 at HB2 HSL ⊢;have HT2 := hidH (HT1.out.below HB2.out);have HC2 : Hid (Ch A w w2) := HC1.out.self (Ch.of_below HB2.out);rcases HCASE.out with ⟨rfl, h2⟩ | ⟨rfl, h2, h3, h4⟩
 ·have HS : Hid (shutB P S = true) := h2;clear h2;go_wp2_with fail;go_ret2;exact ⟨S1, HT2.out, HR1.out, HC2.out, .inl ⟨HS.out, rfl⟩⟩
 ·have HS : Hid (shutB P S = false) := h2;have HSH : Hid (SH w2 T8 f Ls) := HSL.out Ls h3 h4;clear h2 h3 h4;go_wp2_with fail;refine (sorted_walkS HSH.out HLE.out).mono ?_;rintro e w3 ⟨ao, cap, d, rfl, hdc, hcm, hsr, hmc, hnn, hB3⟩;have HX : Hid (d.length ≤ cap ∧ cap ≤ maxLen ∧ SrtOf Ls.flatten d ∧ (ao = none → cap = 0)) := ⟨hdc, hcm, hsr, hnn⟩
  have HMC : Hid (d ≠ [] → ∃ g, ao = some ⟨g, 0, none⟩ ∧ w.heap.size ≤ g ∧ g < w3.heap.size ∧ Mc w3 g d) := fun hd => by
   obtain ⟨g, h1, h2, h3, h4⟩ := hmc hd;exact ⟨g, h1, Nat.le_trans HC2.out.size h2, h3, h4⟩
  have HT3 := hidH (HT2.out.below hB3);have HC3 : Hid (Ch A w w3) := HC2.out.self (Ch.of_below hB3);clear hdc hcm hsr hmc hnn hB3;obtain ⟨dn, hdn⟩ : ∃ dn, dn = d.length := ⟨_, rfl⟩;rw [← hdn];have HDN : Hid (dn = d.length) := hdn;clear hdn;go_wp2_with fail;go_ret2;exact ⟨S1, HT3.out, HR1.out, HC3.out, .inr ⟨HS.out, ao, cap, d, by rw [HDN.out]; rfl, HX.out.1, HX.out.2.1, HX.out.2.2.1, HMC.out, HX.out.2.2.2⟩⟩
end
end
section
def cntN (ps : List (Int × List Nat)) : Nat := (ps.filter (fun q => decide (q.2 ≠ []))).length
theorem cnt_app (a : List (Int × List Nat)) (q : Int × List Nat) : cntN (a ++ [q]) = cntN a + (if q.2 = [] then 0 else 1) := by
 unfold cntN;rw [List.filter_append, List.length_append];by_cases h : q.2 = []
 ·rw [if_pos h]; simp [h]
 ·rw [if_neg h]; simp [h]
def withL (W : List (List Nat)) (ps : List (Int × List Nat)) : List (List Nat) := ps.foldl (fun W q => W.set q.1.toNat q.2) W
theorem with_len (ps : List (Int × List Nat)) : ∀ W, (withL W ps).length = W.length := by
 induction ps with
 | nil => intro W; rfl
 | cons q l ih => intro W; show (withL (W.set q.1.toNat q.2) l).length = _; rw [ih]; simp
theorem with_out {p : Nat} : ∀ (ps : List (Int × List Nat)) (W : List (List Nat)), p < W.length → (∀ q ∈ ps, 0 ≤ q.1) → (p : Int) ∉ ps.map (·.1) → bk (withL W ps) p = bk W p := by
 intro ps
 induction ps with
 | nil => intro W _ _ _; rfl
 | cons q l ih =>
  intro W hp h0 hn;rw [List.map_cons, List.mem_cons] at hn;show bk (withL (W.set q.1.toNat q.2) l) p = _;have hq := h0 q (by simp);rw [ih _ (by simpa using hp) (fun r hr => h0 r (by simp [hr])) (fun e => hn (.inr e)), bk_set hp, if_neg (fun e => hn (.inl (by omega)))]
theorem with_in : ∀ (ps : List (Int × List Nat)) (W : List (List Nat)) (q : Int × List Nat), q ∈ ps → (∀ q ∈ ps, 0 ≤ q.1 ∧ q.1.toNat < W.length) → (ps.map (·.1)).Nodup → bk (withL W ps) q.1.toNat = q.2 := by
 intro ps
 induction ps with
 | nil => intro W q hq _ _; simp at hq
 | cons r l ih =>
  intro W q hq h0 hn;rw [List.map_cons, List.nodup_cons] at hn;show bk (withL (W.set r.1.toNat r.2) l) q.1.toNat = _;rcases List.mem_cons.1 hq with rfl | hq
  ·have h1 := h0 q (by simp);rw [with_out l _ (by simpa using h1.2) (fun s hs => (h0 s (by simp [hs])).1) (by rw [Int.toNat_of_nonneg h1.1]; exact hn.1), bk_set h1.2, if_pos rfl]
  ·exact ih _ q hq (fun s hs => by simpa using h0 s (by simp [hs])) hn.2
structure LC (tab t tk : List Nat) (b : Nat) (S0 S : Dk) (done : List (Int × List Nat)) : Prop where
 li : LI tab t tk b S0.bl.length
 dn : S.down = false
 len : S.bl.length = S0.bl.length
 keep : ∀ x, x ∉ tk → bk S.bl x = bk S0.bl x
 pg : ∀ q ∈ done, (q.2 = [] → tn t q.1.toNat = 0) ∧ (q.2 ≠ [] → tn t q.1.toNat ∈ tk ∧ bk S.bl (tn t q.1.toNat) = q.2)
 oth : ∀ p : Nat, p < tab.length → (p : Int) ∉ done.map (·.1) → tn t p = tn tab p
 wr : S.wr = S0.wr + tk.length
 cnt : tk.length = cntN done
 lf : S0.left = -1 → S.left = -1
 rd : S.rd = S0.rd
theorem LC.start {tab : List Nat} {S : Dk} (h : Tok tab S.bl.length) (hd : S.down = false) : LC tab tab [] 1 S S [] :=
 ⟨LI.start h, hd, rfl, fun _ _ => rfl, fun q hq => by simp at hq, fun _ _ _ => rfl, rfl, rfl, fun h => h, rfl⟩
section

variable {tab t tk : List Nat} {b : Nat} {S0 S : Dk} {done : List (Int × List Nat)} {p : Nat} {d : List Nat}

theorem LC.zero (h : LC tab t tk b S0 S done) (hp : p < tab.length) (hn : (p : Int) ∉ done.map (·.1)) (h0 : ∀ q ∈ done, 0 ≤ q.1 ∧ q.1 < (tab.length : Int)) : LC tab (t.set p 0) tk b S0 S (done ++ [((p : Int), [])]) := by
 have hl := h.li.len;refine ⟨h.li.zero p, h.dn, h.len, h.keep, fun q hq => ?_, fun r hr hnr => ?_, h.wr, by rw [cnt_app, if_pos rfl]; exact h.cnt, h.lf, h.rd⟩
 ·rcases List.mem_append.1 hq with hq | hq
  ·have hne : p ≠ q.1.toNat := fun e => hn (List.mem_map.2 ⟨q, hq, by have := (h0 q hq).1; omega⟩);rw [tn_set (by have := h0 q hq; omega), if_neg hne]; exact h.pg q hq
  ·simp at hq;subst hq;refine ⟨fun _ => ?_, fun e => absurd rfl e⟩;show tn (t.set p 0) (p : Int).toNat = 0;rw [Int.toNat_natCast, tn_set (by omega), if_pos rfl]
 ·rw [List.map_append, List.mem_append] at hnr;have hne : p ≠ r := fun e => hnr (.inr (by subst e; simp));rw [tn_set (by omega), if_neg hne]; exact h.oth r hr (fun e => hnr (.inl e))
theorem LC.next (h : LC tab t tk b S0 S done) (h64 : ∀ x ∈ tab, x < 64) (hx : nextF tab b < S0.bl.length) (hd : d ≠ []) (hp : p < tab.length) (hn : (p : Int) ∉ done.map (·.1)) (h0 : ∀ q ∈ done, 0 ≤ q.1 ∧ q.1 < (tab.length : Int)) : LC tab (t.set p (nextF tab b)) (nextF tab b :: tk) (nextF tab b) S0 (putS S (nextF tab b) d) (done ++ [((p : Int), d)]) := by
 have hl := h.li.len;have hgt := next_gt (t := tab) (b := b);have hb : nextF tab b < S.bl.length := by rw [h.len]; exact hx
 have hnew : ∀ x ∈ tk, x ≠ nextF tab b := fun x hx e => by have := (h.li.tk2 x hx).2.1; omega
 refine ⟨h.li.next h64 hx p, h.dn, by show (S.bl.set _ _).length = _; rw [List.length_set]; exact h.len, fun x hxn => ?_, fun q hq => ?_, fun r hr hnr => ?_, by show S.wr + 1 = _; rw [h.wr, List.length_cons]; omega, by rw [cnt_app, if_neg hd, List.length_cons, h.cnt], fun e => by show decL S.left = -1; rw [h.lf e]; rfl, h.rd⟩
 ·rw [List.mem_cons] at hxn;show bk (S.bl.set (nextF tab b) d) x = _;by_cases hxl : x < S.bl.length
  ·rw [bk_set hxl, if_neg (fun e => hxn (.inl e.symm))]; exact h.keep x (fun e => hxn (.inr e))
  ·have e1 : bk (S.bl.set (nextF tab b) d) x = [] := by unfold bk; rw [List.getD_eq_getElem?_getD, List.getElem?_eq_none (by simpa using hxl)]; rfl
   have e2 : bk S0.bl x = [] := by unfold bk; rw [List.getD_eq_getElem?_getD, List.getElem?_eq_none (by rw [← h.len]; omega)]; rfl
   rw [e1, e2]
 ·rcases List.mem_append.1 hq with hq | hq
  ·have hne : p ≠ q.1.toNat := fun e => hn (List.mem_map.2 ⟨q, hq, by have := (h0 q hq).1; omega⟩);rw [tn_set (by have := h0 q hq; omega), if_neg hne];refine ⟨(h.pg q hq).1, fun e => ?_⟩;obtain ⟨a, c⟩ := (h.pg q hq).2 e;refine ⟨by simp [a], ?_⟩;have hlt : tn t q.1.toNat < S.bl.length := by rw [h.len]; exact (h.li.tk2 _ a).2.2.1
   show bk (S.bl.set (nextF tab b) d) _ = _;rw [bk_set hlt, if_neg (fun e => hnew _ a e.symm)]; exact c
  ·simp at hq;subst hq;refine ⟨fun e => absurd e hd, fun _ => ?_⟩;show tn (t.set p (nextF tab b)) (p : Int).toNat ∈ _ ∧ bk (S.bl.set (nextF tab b) d) (tn (t.set p (nextF tab b)) (p : Int).toNat) = d;rw [Int.toNat_natCast, tn_set (by omega), if_pos rfl];exact ⟨by simp, by rw [bk_set hb, if_pos rfl]⟩
 ·rw [List.map_append, List.mem_append] at hnr;have hne : p ≠ r := fun e => hnr (.inr (by subst e; simp));rw [tn_set (by omega), if_neg hne]; exact h.oth r hr (fun e => hnr (.inl e))
end

theorem write_cut {S : Dk} {k : Nat} {d : List Nat} (hd : S.down = false) (hk : k < S.bl.length) (hl : S.left = 0) (hb : d.length ≤ 1024) : writeI S k d = 80 ∧ writeS S k d = offS S := by
 have hr := ref_in hd hk;exact ⟨by unfold writeI; rw [if_neg (fun e => e hr), if_neg (by omega), if_pos hl], by unfold writeS; rw [if_neg (fun e => e hr), if_neg (by omega), if_pos hl]⟩
theorem lay_all {tab : List Nat} {S0 : Dk} (hT : Tok tab S0.bl.length) (h64 : ∀ x ∈ tab, x < 64) : ∀ (ps : List (Int × List Nat)) (done : List (Int × List Nat)) (t tk : List Nat) (b : Nat) (S : Dk), LC tab t tk b S0 S done → Lok tab.length (done ++ ps) → tk.length + ps.length ≤ tab.length →
  (∃ t' tk' b' S', layS tab ps b t S = (some t', S') ∧ LC tab t' tk' b' S0 S' (done ++ ps)) ∨
  (∃ (S' : Dk) (tk' : List Nat), layS tab ps b t S = (none, S') ∧ S'.down = true ∧ S'.bl.length = S0.bl.length ∧ (∀ x, x ∉ tk' → bk S'.bl x = bk S0.bl x) ∧ (∀ x ∈ tk', 2 ≤ x ∧ x ∉ tab) ∧ S0.left ≠ -1 ∧ S'.rd = S0.rd ∧ S'.wr ≤ S0.wr + tab.length) := by
 intro ps
 induction ps with
 | nil => intro done t tk b S h _ _; exact .inl ⟨t, tk, b, S, rfl, by rw [List.append_nil]; exact h⟩
 | cons a l ih =>
  obtain ⟨p, d⟩ := a;intro done t tk b S h hL hk;rw [List.length_cons] at hk;have hpg := hL.pg (p, d) (by simp);have hln := hL.ln (p, d) (by simp);have hnd := hL.nd;simp only at hpg hln;obtain ⟨q, rfl⟩ : ∃ q : Nat, p = q := ⟨p.toNat, by omega⟩
  have hnq : (q : Int) ∉ done.map (·.1) := fun e => by
   rw [List.map_append, List.map_cons, List.nodup_append] at hnd;exact hnd.2.2 _ e _ (by simp) rfl
  have h0 : ∀ r ∈ done, 0 ≤ r.1 ∧ r.1 < (tab.length : Int) := fun r hr => hL.pg r (by simp [hr]);have e3 : done ++ (((q : Int), d) :: l) = (done ++ [((q : Int), d)]) ++ l := by simp
  unfold layS;by_cases hd : d = []
  ·subst hd;rw [if_pos rfl, Int.toNat_natCast];rw [e3] at hL ⊢;exact ih (done ++ [((q : Int), [])]) _ tk b S (h.zero (by omega) hnq h0) hL (by omega)
  ·rw [if_neg hd, Int.toNat_natCast];have hx := free_in h.li hT (by omega);have hxS : nextF tab b < S.bl.length := by rw [h.len]; exact hx
   by_cases hl0 : S.left = 0
   ·obtain ⟨w1, w2⟩ := write_cut h.dn hxS hl0 hln;rw [if_neg (by rw [w1]; omega), w2];refine .inr ⟨offS S, tk, rfl, rfl, h.len, h.keep, fun x hx => ⟨(h.li.tk2 x hx).1, (h.li.tk2 x hx).2.2.2⟩, fun e => ?_, h.rd, by show S.wr ≤ _; rw [h.wr]; omega⟩;rw [h.lf e] at hl0; omega
   ·obtain ⟨w1, w2⟩ := write_in h.dn hxS hl0 hln;rw [if_pos w1, w2];rw [e3] at hL ⊢;exact ih (done ++ [((q : Int), d)]) _ _ _ _ (h.next h64 hx hd (by omega) hnq h0) hL (by simp; omega)
structure Iv (P : Bo) (S : Dk) (W : List (List Nat)) : Prop where
 ok : P.ok S.bl.length
 n8 : P.tab.length = 8
 w8 : W.length = 8
 b64 : S.bl.length ≤ 64
 ov : P.over = false
 dn : S.down = false
 root : bk S.bl P.home = rootB P.gen P.tab
 oth : ∀ g t, rootOf (bk S.bl (1 - P.home)) S.bl.length = some (g, t) → g < P.gen
 pg : ∀ p, p < 8 → (tn P.tab p = 0 ∧ bk W p = []) ∨ (tn P.tab p ≠ 0 ∧ bk W p = bk S.bl (tn P.tab p) ∧ bk W p ≠ [])
theorem read_at {S : Dk} {k : Nat} (hd : S.down = false) (hk : k < S.bl.length) : readL S k = bk S.bl k := (read_in hd hk).2.1
theorem rd_dn {S : Dk} (hd : S.down = false) (k : Nat) : (rdS S k).down = false ∧ (rdS S k).bl = S.bl := by
 induction k with
 | zero => exact ⟨hd, rfl⟩
 | succ k ih => unfold rdS; rw [read_bl]; exact ⟨by unfold readS; split; exact ih.1; exact ih.1, ih.2⟩
end
end Go.Proofs.YtcmklbibehnloaaGreat
