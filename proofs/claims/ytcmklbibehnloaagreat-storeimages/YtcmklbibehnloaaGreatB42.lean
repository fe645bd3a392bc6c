/- The reference's Cells: the walk. -/
import Derived.Test.YtcmklbibehnloaaGreatB41
set_option maxRecDepth 100000
set_option maxHeartbeats 16000000
namespace Go.Proofs.YtcmklbibehnloaaGreat
open Go.RowKit
theorem rBk_dsk {A : Nat → Prop} {w : World} {v dv : Value} {P : Bo} {S : Dk} (h : BQ A w v dv P S) : ∃ D', Dsk 94 D' w dv S ∧ ∀ x, D' x → A x := by
 obtain ⟨D', h1, h2, _⟩ := h.disk;exact ⟨D', h1, h2⟩
theorem RT.dsk {A : Nat → Prop} {w : World} {tv dv : Value} {k : Int} {P : Bo} {S : Dk} (h : RT A w tv dv k P S) : ∃ D, Dsk 94 D w dv S ∧ ∀ x, D x → A x := by
 obtain ⟨sp, bv, e, h1, h2, h3, h4⟩ := h;exact rBk_dsk h3
def RoGt (D : Nat → Prop) (w : World) (dv : Value) (k : Int) (S : Dk) (e : Ending) (w' : World) : Prop :=
 ∃ S', Rdd 9 S S' ∧ Ch D w w' ∧
  ((∃ c D', e = .returned (.tuple #[.pointer none, .int .i64 c]) ∧ SoNo k S c ∧ Dsk 94 D' w' dv S' ∧ ∀ x, D' x → D x ∨ w.heap.size ≤ x) ∨
   (∃ A' sp P m Ls, e = .returned (.tuple #[.pointer (some ⟨sp, 0, none⟩), .int .i64 0]) ∧ SoYes k S P m Ls ∧ w.heap.size ≤ sp ∧ RT A' w' (.pointer (some ⟨sp, 0, none⟩)) dv k P S' ∧ ∀ x, A' x → D x ∨ w.heap.size ≤ x))
theorem rg_of {k : Int} {S S1 : Dk} {P : Bo} {j : Nat} (hr : Rdd j S S1) : RgYes k P S1 ↔ RgYes k P S := by
 unfold RgYes;rw [rdd_getL hr, rdd_decP hr]
theorem rsopen_any {D : Nat → Prop} {w : World} {dv : Value} {S : Dk} (hd : Dsk 94 D w dv S) (hrd : S.rd < 1000000000) (k : Int) :
  Calls Tryz.prog 17 #[dv, .int .i64 k] w (RoGt D w dv k S) := by
 have HD := hidH hd;have HRD : Hid (S.rd < 1000000000) := hrd;obtain ⟨sb, hsb⟩ : ∃ sb, dv = .pointer (some ⟨sb, 0, none⟩) := by obtain ⟨sb, gp, cap, e, _⟩ := hd; exact ⟨sb, e⟩
 subst hsb;clear hd hrd
 cases hkn : knownB k
 ·go_in;go_wp2_with (go_at_call 47; refine (rknown_walk _ _).mono ?_; rw [hkn]; rintro e w9 ⟨rfl, h9⟩; replace h9 := h9.symm; subst h9);go_ret2;exact ⟨S, Rdd.refl _, Ch.refl _ _, .inl ⟨1, D, rfl, .inl ⟨hkn, rfl⟩, HD.out, fun x hx => .inl hx⟩⟩
 by_cases hop : opI S = 0;rotate_left
 ·have hon := op_none hop;have HON : Hid (opB S = none ∧ Rdd 2 S (opS S)) := hon;obtain ⟨OI, hOI⟩ : ∃ OI, OI = opI S := ⟨_, rfl⟩;have HOI : Hid (OI = opI S) := hOI;have hoi0 : ¬ OI = 0 := by rw [hOI]; exact hop
  have HOP : Hid (opI S ≠ 0) := hop;clear hon hop hOI;go_in;go_wp2_with (go_at_call 47; refine (rknown_walk _ _).mono ?_; rw [hkn]; rintro e w9 ⟨rfl, h9⟩; replace h9 := h9.symm; subst h9);refine (ropen_walk HD.out (by have := HRD.out; omega)).mono ?_;rw [← HOI.out];rintro e w1 ⟨v1, rfl, hno, _, hc1⟩;obtain ⟨rfl, D', hD', hx⟩ := hno HON.out.1
  have HF : Hid (RoGt D w (.pointer (some ⟨sb, 0, none⟩)) k S (.returned (.tuple #[.pointer none, .int .i64 OI])) w1) :=
   ⟨opS S, HON.out.2.mono (by omega), hc1, .inl ⟨OI, D', rfl, .inr (.inl ⟨hkn, HOP.out, HOI.out⟩), hD', hx⟩⟩
  clear hno hc1 hD' hx;go_wp2_with fail;go_ret2;exact HF.out
 obtain ⟨P, hP, hS⟩ := op_some hop;have HOP : Hid (opI S = 0) := hop;have HP : Hid (opB S = some P) := hP;have HSS : Hid (opS S = rdS S 2) := hS;have HKN : Hid (knownB k = true) := hkn;clear hop hP hS;go_in;go_wp2_with (go_at_call 47; refine (rknown_walk _ _).mono ?_; rw [hkn]; rintro e w9 ⟨rfl, h9⟩; replace h9 := h9.symm; subst h9);refine (ropen_walk HD.out (by have := HRD.out; omega)).mono ?_;rw [HOP.out, HP.out, HSS.out];rintro e w1 ⟨v1, rfl, _, hyes, hc1⟩;obtain ⟨A, hbk, hA⟩ := hyes P rfl;obtain ⟨S1, hS1⟩ : ∃ S1, S1 = rdS S 2 := ⟨_, rfl⟩;rw [← hS1] at hbk;have HR1 : Hid (Rdd 2 S S1) := by rw [hS1]; exact rdS_rdd S 2
 have HBK := hidH hbk;have HA := hidH hA;have HC1 : Hid (Ch D w w1) := hc1;have HAL : Hid (∀ x, A x → x < w1.heap.size) := fun x hx => hbk.lt hx;obtain ⟨pb, hpb⟩ : ∃ pb, v1 = .pointer (some ⟨pb, 0, none⟩) := by obtain ⟨D', pb, tv, e, _⟩ := hbk; exact ⟨pb, e⟩
 subst hpb;clear hyes hbk hA hc1 hS1 hkn;have HCa : Hid (Ch D w (w1.alloc (Obj.cells #[.pointer (some ⟨pb, 0, none⟩), .int .i64 k] 102))) := HC1.out.self (Ch.of_below (below_alloc _ _));have HBA : Hid (BQ A (w1.alloc (Obj.cells #[.pointer (some ⟨pb, 0, none⟩), .int .i64 k] 102)) (.pointer (some ⟨pb, 0, none⟩)) (.pointer (some ⟨sb, 0, none⟩)) P S1) := HBK.out.ch (E := fun _ => False) (Ch.of_below (below_alloc _ _)) (fun _ _ h => h);have HSP : Hid (w.heap.size ≤ w1.heap.size) := HC1.out.size;by_cases h7 : P.tab.length = 7;rotate_left
 ·have h7i : ¬ (P.tab.length : Int) = 7 := by omega
  have h7b : ((P.tab.length : Int) != 7) = true := by simpa using h7i
  have HNO : Hid (SoNo k S 133) := .inr (.inr ⟨HKN.out, HOP.out, rfl, fun P' m Ls h => by
   have e := h.2.2.1;rw [HP.out] at e
   cases e
   exact h7 h.2.2.2.1⟩)
  clear h7;go_wp2_with fail;refine (rpages_walk HBA.out).mono ?_;rintro e wz ⟨rfl, hwz⟩;replace hwz := hwz.symm;subst hwz;go_wp2_with fail;go_ret2;obtain ⟨D', hD', hDA⟩ := rBk_dsk HBA.out;exact ⟨S1, HR1.out.mono (by omega), HCa.out, .inl ⟨133, D', rfl, HNO.out, hD', fun x hx => HA.out x (hDA x hx)⟩⟩
 have H7 : Hid (P.tab.length = 7) := h7;clear h7
 have HRT : Hid (RT A (w1.alloc (Obj.cells #[.pointer (some ⟨pb, 0, none⟩), .int .i64 k] 102)) (.pointer (some ⟨w1.heap.size, 0, none⟩)) (.pointer (some ⟨sb, 0, none⟩)) k P S1) :=
  ⟨w1.heap.size, _, rfl, heap_alloc_new w1 _, fun e => by have := HAL.out _ e; omega, HBA.out, H7.out⟩
 have HSH1 : Hid (shutB P S1 = false) := op_shut HOP.out HP.out HR1.out;go_upto_region 9 with fail
 generalize w1.heap.size = sp at HRT HSP ⊢;generalize w1.alloc (Obj.cells #[.pointer (some ⟨pb, 0, none⟩), .int .i64 k] 102) = w2 at HRT HCa HBA ⊢;go_wp2_with fail;refine (rpages_walk HBA.out).mono ?_;rw [H7.out];rintro e wz ⟨rfl, hwz⟩;replace hwz := hwz.symm;subst hwz;go_wp2_with fail;refine (rsright_walk HRT.out HSH1.out (by have h1 := HR1.out.rd; have h2 := HRD.out; omega)).mono ?_;rintro e w7 ⟨b, S5, rfl, hbi, hrt5, hr5, hc5⟩;rw [rg_of HR1.out] at hbi;have HBI : Hid (b = true ↔ RgYes k P S) := hbi;have HRT5 := hidH hrt5;have HR5 : Hid (Rdd 9 S S5) := (HR1.out.trans hr5).mono (by omega);have HC5 : Hid (Ch D w w7) := HCa.out.trans hc5 HA.out;clear hbi hrt5 hr5 hc5
 cases b
 ·have HNO : Hid (SoNo k S 133) := .inr (.inr ⟨HKN.out, HOP.out, rfl, fun P' m' Ls' h => by
   have e := h.2.2.1;rw [HP.out] at e
   cases e
   have := HBI.out.2 ⟨m', Ls', h.2.2.2.2.1, h.2.2.2.2.2.1, h.2.2.2.2.2.2⟩
   cases this⟩)
  go_wp2_with fail;go_ret2;obtain ⟨D', hD', hDA⟩ := HRT5.out.dsk;exact ⟨S5, HR5.out, HC5.out, .inl ⟨133, D', rfl, HNO.out, hD', fun x hx => HA.out x (hDA x hx)⟩⟩
 ·obtain ⟨m, Ls, q1, q2, q3⟩ := HBI.out.1 rfl;have HYE : Hid (SoYes k S P m Ls) := ⟨HKN.out, HOP.out, HP.out, H7.out, q1, q2, q3⟩;clear q1 q2 q3;go_wp2_with fail;go_ret2;exact ⟨S5, HR5.out, HC5.out, .inr ⟨A, sp, P, m, Ls, rfl, HYE.out, HSP.out, HRT5.out, HA.out⟩⟩
def insP (o : List Cl) (k : Nat) : Nat := (o.takeWhile fun d => decide (d.k < k)).length
def insC (o : List Cl) (c : Cl) : List Cl := o.take (insP o c.k) ++ c :: o.drop (insP o c.k)
def insAll (l : List Cl) : List Cl := l.foldl insC []
theorem insP_le (o : List Cl) (k : Nat) : insP o k ≤ o.length := by
 unfold insP;exact (List.takeWhile_sublist _).length_le
theorem insP_lt {o : List Cl} {k i : Nat} (hi : i < insP o k) : ∃ h : i < o.length, o[i].k < k := by
 unfold insP at hi
 induction o generalizing i with
 | nil => simp at hi
 | cons a o ih =>
  rw [List.takeWhile_cons] at hi
  split at hi
  ·cases i with
   | zero => exact ⟨by simp, by simpa using (by assumption : decide (a.k < k) = true)⟩
   | succ i =>
    obtain ⟨h, h2⟩ := ih (by simpa using hi);exact ⟨by simpa using h, by simpa using h2⟩
  ·simp at hi
theorem insP_at {o : List Cl} {k : Nat} (h : insP o k < o.length) : ¬ o[insP o k].k < k := by
 unfold insP at h ⊢
 induction o with
 | nil => simp at h
 | cons a o ih =>
  by_cases hc : a.k < k
  ·simp only [List.takeWhile_cons, hc, decide_true, if_true, List.length_cons] at h ⊢;have := ih (by omega);simpa using this
  ·simp only [List.takeWhile_cons, hc, decide_false];simpa using hc
theorem insC_perm (o : List Cl) (c : Cl) : (insC o c).Perm (c :: o) := by
 unfold insC;have h := List.perm_middle (a := c) (l₁ := o.take (insP o c.k)) (l₂ := o.drop (insP o c.k));rw [List.take_append_drop] at h;exact h
theorem insC_sorted {o : List Cl} (c : Cl) (h : o.Pairwise (fun a b => a.k ≤ b.k)) : (insC o c).Pairwise (fun a b => a.k ≤ b.k) := by
 unfold insC;have h0 := h;rw [← List.take_append_drop (insP o c.k) o, List.pairwise_append] at h;obtain ⟨h1, h2, h3⟩ := h
 have lo : ∀ a ∈ o.take (insP o c.k), a.k < c.k := by
  intro a ha;obtain ⟨i, hi, rfl⟩ := List.mem_iff_getElem.1 ha;rw [List.length_take] at hi;obtain ⟨q, q2⟩ := insP_lt (o := o) (k := c.k) (i := i) (by omega);rw [List.getElem_take];exact q2
 have up : ∀ b ∈ o.drop (insP o c.k), c.k ≤ b.k := by
  intro b hb;obtain ⟨i, hi, rfl⟩ := List.mem_iff_getElem.1 hb;rw [List.length_drop] at hi;have q := insP_at (o := o) (k := c.k) (by omega);rw [List.getElem_drop];rcases Nat.eq_zero_or_pos i with e | e
  ·subst e;simp only [Nat.add_zero];omega
  ·have := List.pairwise_iff_getElem.1 h0 (insP o c.k) (insP o c.k + i) (by omega) (by omega) (by omega);omega
 rw [List.pairwise_append];refine ⟨h1, List.pairwise_cons.2 ⟨up, h2⟩, fun a ha b hb => ?_⟩;rcases List.mem_cons.1 hb with q | q
 ·subst q;exact Nat.le_of_lt (lo a ha)
 ·exact h3 a ha b q
theorem insAll_snoc (l : List Cl) (c : Cl) : insAll (l ++ [c]) = insC (insAll l) c := by unfold insAll; rw [List.foldl_append]; rfl
theorem insAll_srt (l : List Cl) : SrtOf l (insAll l) := by
 suffices q : ∀ r : List Cl, SrtOf r.reverse (insAll r.reverse) by have := q l.reverse; rwa [List.reverse_reverse] at this
 intro r
 induction r with
 | nil => exact ⟨List.Perm.refl _, List.Pairwise.nil⟩
 | cons c r ih =>
  rw [List.reverse_cons, insAll_snoc];refine ⟨(insC_perm _ c).trans ?_, insC_sorted c ih.2⟩;exact ((List.Perm.cons c ih.1).trans (List.perm_append_comm (l₁ := [c]) (l₂ := r.reverse)))
theorem insAll_len (l : List Cl) : (insAll l).length = l.length := (insAll_srt l).1.length_eq
def shf (o : List Cl) (k : Nat) : List Cl := (o ++ [zeroC]).take (k + 1) ++ o.drop k
theorem shf_start (o : List Cl) : shf o o.length = o ++ [zeroC] := by unfold shf; rw [List.drop_length, List.append_nil, List.take_of_length_le (by simp)]
theorem shf_len {o : List Cl} {k : Nat} (hk : k ≤ o.length) : (shf o k).length = o.length + 1 := by unfold shf; simp; omega
theorem shf_at {o : List Cl} {k : Nat} (hk : k < o.length) : ∃ h : k < (shf o (k + 1)).length, (shf o (k + 1))[k] = o[k] := by
 refine ⟨by rw [shf_len (by omega)]; omega, ?_⟩;unfold shf;rw [List.getElem_append_left (by simp; omega), List.getElem_take, List.getElem_append_left hk]
theorem shf_step {o : List Cl} {k : Nat} (hk : k < o.length) : (shf o (k + 1)).set (k + 1) o[k] = shf o k := by
 unfold shf;have h1 : (o ++ [zeroC]).take (k + 1 + 1) = (o ++ [zeroC]).take (k + 1) ++ [(o ++ [zeroC])[k + 1]'(by simp; omega)] := List.take_succ_eq_append_getElem _;rw [h1, List.append_assoc, List.set_append, if_neg (by simp; omega), show k + 1 - ((o ++ [zeroC]).take (k + 1)).length = 0 by simp; omega];rw [List.drop_eq_getElem_cons hk];rfl
theorem shf_set {o : List Cl} {a : Nat} (c : Cl) (ha : a ≤ o.length) : (shf o a).set a c = o.take a ++ c :: o.drop a := by
 unfold shf;have h1 : (o ++ [zeroC]).take (a + 1) = (o ++ [zeroC]).take a ++ [(o ++ [zeroC])[a]'(by simp; omega)] := List.take_succ_eq_append_getElem _;rw [h1, List.append_assoc, List.set_append, if_neg (by simp; omega), show a - ((o ++ [zeroC]).take a).length = 0 by simp; omega, List.take_append_of_le_length ha];rfl
theorem own_setS {w : World} {B e s g n cap o : Nat} {xs : List Value} (u : Value) (h : w.ownsRow B e s (.slice (some ⟨g, 0, none⟩) n cap) n xs) : (w.setCell ⟨g, o, none⟩ u).ownsRow B e s (.slice (some ⟨g, 0, none⟩) n cap) n (xs.set o u) := by
 obtain ⟨h1, h2⟩ := h;rcases h2 with ⟨h, _⟩ | ⟨g', cap', cur, e1, hb, hg, hnc, hcm, hcs, ht⟩
 ·cases h
 ·cases e1
  refine ⟨by simpa using h1, .inr ⟨g, cap, cur.setIfInBounds o u, rfl, hb, ?_, hnc, hcm, by simpa using hcs, ?_⟩⟩
  ·rw [Sort.setCell_eq];simp [Sort.mapBlock, Array.getElem?_modify, hg, Sort.onCells]
  ·rw [← ht, Array.toList_setIfInBounds, List.take_set]
theorem flatC_set (q : Cl) : ∀ (m : List Cl) (k : Nat), flatC (m.set k q) = ((((((flatC m).set (k * 6) (.int .u64 q.k)).set (k * 6 + 1) (.bool q.p.h)).set (k * 6 + 2) (.int .u64 q.p.b)).set (k * 6 + 3) (.bool q.c.h)).set (k * 6 + 4) (.int .u64 q.c.b)).set (k * 6 + 5) (.int .i64 q.n)
 | [], k => by simp [flatC]
 | a :: m, 0 => by simp [flatC, clF]
 | a :: m, k + 1 => by
  have ih := flatC_set q m k;have e : ∀ (o : Cl) (l : List Cl), flatC (o :: l) = .int .u64 o.k :: .bool o.p.h :: .int .u64 o.p.b :: .bool o.c.h :: .int .u64 o.c.b :: .int .i64 o.n :: flatC l := fun _ _ => rfl;rw [List.set_cons_succ, e, ih, e, show (k + 1) * 6 = k * 6 + 1 + 1 + 1 + 1 + 1 + 1 by omega];simp
theorem own_putC {w : World} {B g n cap k : Nat} {m : List Cl} (q : Cl) (h : w.ownsRow B 114 6 (.slice (some ⟨g, 0, none⟩) n cap) n (flatC m)) :
  ((((((w.setCell ⟨g, k * 6, none⟩ (.int .u64 q.k)).setCell ⟨g, k * 6 + 1, none⟩ (.bool q.p.h)).setCell ⟨g, k * 6 + 2, none⟩ (.int .u64 q.p.b)).setCell ⟨g, k * 6 + 3, none⟩ (.bool q.c.h)).setCell ⟨g, k * 6 + 4, none⟩ (.int .u64 q.c.b)).setCell ⟨g, k * 6 + 5, none⟩ (.int .i64 q.n)).ownsRow B 114 6 (.slice (some ⟨g, 0, none⟩) n cap) n (flatC (m.set k q)) := by
 rw [flatC_set];exact own_setS _ (own_setS _ (own_setS _ (own_setS _ (own_setS _ (own_setS _ h)))))
theorem own_cells {w : World} {B g n cap : Nat} {m : List Cl} (h : w.ownsRow B 114 6 (.slice (some ⟨g, 0, none⟩) n cap) n (flatC m)) {i : Nat} (hi : i < m.length) : CA w g (i * 6) m[i] ∧ ∀ j, w.frozen? ⟨g, j, none⟩ = false := by
 have h2 := h.2;have hc := (own_cv h).1.at i hi;rw [Nat.zero_add] at hc;refine ⟨hc, fun j => ?_⟩;rcases h2 with ⟨q, _⟩ | ⟨g', cap', cur, e1, hb, hg, _⟩
 ·cases q
 ·cases e1
  simp [World.frozen?, hg]
theorem own_blk {w : World} {B n : Nat} {v : Value} {m : List Cl} (h : w.ownsRow B 114 6 v n (flatC m)) (hp : 0 < n) : ∃ g cap, v = .slice (some ⟨g, 0, none⟩) n cap ∧ B ≤ g ∧ g < w.heap.size ∧ n ≤ cap ∧ cap ≤ maxLen := by
 rcases h.2 with ⟨_, q⟩ | ⟨g', cap', cur, e1, hb, hg, hnc, hcm, _⟩
 ·omega
 ·exact ⟨g', cap', e1, hb, (Array.getElem?_eq_some_iff.1 hg).1, hnc, hcm⟩
def allL (g : Nat → List Cl) : Nat → List Cl
 | 0 => []
 | n + 1 => allL g n ++ g (n + 1)
section
theorem rcells_nil (w : World) : Calls Tryz.prog 61 #[.pointer none] w fun e w' => e = .returned (.tuple #[.slice none 0 0, .int .i64 2]) ∧ w' = w := by
 go_in;go_wp2_with fail;refine (rcheck_nil).mono ?_;rintro e w1 ⟨rfl, hw⟩;replace hw := hw.symm;subst hw;go_wp2_with fail;go_ret2;exact ⟨rfl, rfl⟩
structure Co (lo mid : Nat) (w3 : World) (ov : Value) (L : List Cl) (wr : World) : Prop where
 own : wr.ownsRow lo 114 6 ov L.length (flatC L)
 dom : ∀ x, ov.ownBlock = some x → x < mid ∨ w3.heap.size ≤ x
 ch : Ch (fun x => lo ≤ x ∧ (x < mid ∨ w3.heap.size ≤ x)) w3 wr
 lw : lo ≤ wr.heap.size
theorem ch_six0 {D : Nat → Prop} {w0 w1 : World} {g o : Nat} (h : Ch D w0 w1) (hg : D g) (a b c d e f : Value) : Ch D w0 ((((((w1.setCell ⟨g, o, none⟩ a).setCell ⟨g, o + 1, none⟩ b).setCell ⟨g, o + 2, none⟩ c).setCell ⟨g, o + 3, none⟩ d).setCell ⟨g, o + 4, none⟩ e).setCell ⟨g, o + 5, none⟩ f) := by
 have st : ∀ {w1 : World} (j : Nat) (u : Value), Ch D w0 w1 → Ch D w0 (w1.setCell ⟨g, j, none⟩ u) := fun j u h => h.trans (ch_set _ g j u) (fun x hx => .inl (by subst hx; exact hg));exact st _ _ (st _ _ (st _ _ (st _ _ (st _ _ (st _ _ h)))))
theorem own_formC {w : World} {B e n : Nat} {v : Value} {xs : List Value} (h : w.ownsRow B e 6 v n xs) : ∃ ao cap, v = .slice ao n cap := by
 rcases h.2 with ⟨rfl, rfl⟩ | ⟨g, cap, cur, rfl, _⟩
 ·exact ⟨none, 0, rfl⟩
 ·exact ⟨_, cap, rfl⟩
theorem below_drw (w : World) : Below w.heap.size w w.drew := (Below.refl _ _).drew
section

variable {lo mid : Nat} {w3 wr wx : World} {ov ov' : Value} {L : List Cl}

theorem Co.below (h : Co lo mid w3 ov L wr) (hb : Below wr.heap.size wr wx) : Co lo mid w3 ov L wx := ⟨own_belowC h.own hb, h.dom, h.ch.self (Ch.of_below hb), Nat.le_trans h.lw hb.size⟩
theorem Co.inD (h : Co lo mid w3 ov L wr) {x : Nat} (hx : ov.ownBlock = some x) : lo ≤ x ∧ (x < mid ∨ w3.heap.size ≤ x) := ⟨(h.own.lt x hx).1, h.dom x hx⟩
theorem Co.put {g n cap k : Nat} (q : Cl) (h : Co lo mid w3 (.slice (some ⟨g, 0, none⟩) n cap) L wr) (hn : n = L.length) : Co lo mid w3 (.slice (some ⟨g, 0, none⟩) n cap) (L.set k q) ((((((wr.setCell ⟨g, k * 6, none⟩ (.int .u64 q.k)).setCell ⟨g, k * 6 + 1, none⟩ (.bool q.p.h)).setCell ⟨g, k * 6 + 2, none⟩ (.int .u64 q.p.b)).setCell ⟨g, k * 6 + 3, none⟩ (.bool q.c.h)).setCell ⟨g, k * 6 + 4, none⟩ (.int .u64 q.c.b)).setCell ⟨g, k * 6 + 5, none⟩ (.int .i64 q.n)) := by
 have ho := h.own;rw [← hn] at ho;refine ⟨?_, h.dom, ?_, ?_⟩
 ·rw [List.length_set, ← hn];exact own_putC q ho
 ·exact ch_six0 h.ch (h.inD rfl) _ _ _ _ _ _
 ·have hs := (ch_six0 (D := fun _ => True) (Ch.refl _ wr) (g := g) (o := k * 6) trivial (.int .u64 q.k) (.bool q.p.h) (.int .u64 q.p.b) (.bool q.c.h) (.int .u64 q.c.b) (.int .i64 q.n)).size;exact Nat.le_trans h.lw hs
theorem Co.grow {w9 : World} {q : Cl} {o : Obj} (h : Co lo mid w3 ov L wr) (ho : w9.ownsRow lo 114 6 ov' (L.length + 1) (flatC (L ++ [q]))) (hg : (wr.alloc o).grownBy w9 ov.ownBlock) (hat : ov'.ownBlock = ov.ownBlock ∨ ov'.ownBlock = some (wr.alloc o).heap.size) : Co lo mid w3 ov' (L ++ [q]) w9 := by
 refine ⟨by rw [List.length_append]; exact ho, fun x hx => ?_, ?_, Nat.le_trans (Nat.le_trans h.lw (below_alloc wr o).size) hg.size⟩
 ·rcases hat with e | e
  ·rw [e] at hx; exact h.dom x hx
  ·rw [e] at hx
   cases hx
   exact .inr (Nat.le_trans h.ch.size (below_alloc wr o).size)
 ·exact (h.ch.self (Ch.of_below (below_alloc wr o))).self (Ch.of_grown hg (fun x hx => h.inD hx))
end

theorem info_cellR : (Tryz.prog.info? 114).map (fun i => (i.zero, i.size, i.bytes)) = some (some (.agg #[.int .u64 0, .bool false, .int .u64 0, .bool false, .int .u64 0, .int .i64 0]), 6, 48) := by kernel_rfl
theorem info_partsR {P : Program} {e : TypeId} {z : Value} {s b : Nat} (h : (P.info? e).map (fun i => (i.zero, i.size, i.bytes)) = some (some z, s, b)) : ∃ i, P.info? e = some i ∧ i.zero = some z ∧ i.size = s ∧ i.bytes = b := by
 cases hi : P.info? e with
 | none => rw [hi] at h; cases h
 | some i =>
  rw [hi] at h;simp at h;exact ⟨i, rfl, h.1, h.2.1, h.2.2⟩
theorem app_cell {w : World} {ops : Array Oper} {rest : List Oper} {o : Oper} {a : Act} {Q : Exit → Act → World → Prop} (hgd : o.guard = none) (s x : Operand) (ho : o.op = .call { callee := .builtin .append, args := #[s, x], argTypes := #[68, 68] })
  {base : Nat} (v : Value) (l : List Cl) (hs : a.eval s = v) (hown : w.ownsRow base 114 6 v l.length (flatC l))
  (X : Nat) (q : Cl) (hx : a.eval x = .slice (some ⟨X, 0, none⟩) 1 1) (hc : CA w X 0 q) (hn : l.length ≤ 1000) (hb : base ≤ w.heap.size)
  (h : ∀ v' w', w'.ownsRow base 114 6 v' (l.length + 1) (flatC (l ++ [q])) → w.grownBy w' v.ownBlock → (v'.ownBlock = v.ownBlock ∨ v'.ownBlock = some w.heap.size) → wpList Tryz.prog ops Q rest (a.put o.dst v') w') : wpList Tryz.prog ops Q (o :: rest) a w := by
 obtain ⟨i0, hi, hz0, hz1, hz2⟩ := info_partsR info_cellR;refine wpList_append_own_at w hgd s x 68 ho base 114 i0 (.agg #[.int .u64 0, .bool false, .int .u64 0, .bool false, .int .u64 0, .int .i64 0]) 6 48 Tryz.underlying68 hi hz0 hz1 hz2 rfl (by decide) v l.length (flatC l) hs hown ⟨X, 0, none⟩ 1 1 (clF q) hx rfl (fun j u hj => ?_) (fun u hu => flatC_one' (l := [q]) (by rw [flatC_one]; exact hu)) (by simp only [maxLen]; omega) (by omega) hb ?_
 ·have hj6 : j = 0 ∨ j = 1 ∨ j = 2 ∨ j = 3 ∨ j = 4 ∨ j = 5 ∨ 6 ≤ j := by omega
  obtain ⟨h0, h1, h2, h3, h4, h5⟩ := hc;rcases hj6 with rfl | rfl | rfl | rfl | rfl | rfl | h
  ·simp [clF] at hj; subst hj; simpa [WideShapes.add_plain] using h0
  ·simp [clF] at hj; subst hj; simpa [WideShapes.add_plain] using h1
  ·simp [clF] at hj; subst hj; simpa [WideShapes.add_plain] using h2
  ·simp [clF] at hj; subst hj; simpa [WideShapes.add_plain] using h3
  ·simp [clF] at hj; subst hj; simpa [WideShapes.add_plain] using h4
  ·simp [clF] at hj; subst hj; simpa [WideShapes.add_plain] using h5
  ·rw [List.getElem?_eq_none (by rw [clF_len]; exact h)] at hj; cases hj
 intro v' w' r1 r2 _ r3;exact h v' w' (by rw [flatC_append, flatC_one]; exact r1) r2 r3
theorem zero_cells (w : World) : CA (w.alloc (Obj.cells #[.int .u64 0, .bool false, .int .u64 0, .bool false, .int .u64 0, .int .i64 0] 114)) w.heap.size 0 zeroC := by
 constructor <;> simp [go_sem, zeroC, noV]
def RcGt (A : Nat → Prop) (w : World) (sv dv : Value) (k : Int) (P : Bo) (S : Dk) (e : Ending) (w' : World) : Prop :=
 ∃ S' ao cap d, e = .returned (.tuple #[.slice ao d.length cap, .int .i64 0]) ∧ SrtOf (allL (gP P S 7) 6) d ∧ w'.ownsRow w.heap.size 114 6 (.slice ao d.length cap) d.length (flatC d) ∧ RT A w' sv dv k P S' ∧ Rdd 6 S S' ∧ Ch A w w'
theorem all_len {g : Nat → List Cl} (h : ∀ j, (g j).length ≤ 16) : ∀ n, (allL g n).length ≤ 16 * n := by
 intro n
 induction n with
 | zero => simp [allL]
 | succ n ih => unfold allL; rw [List.length_append]; have := h (n + 1); omega
theorem rscells_ok {A : Nat → Prop} {w : World} {sv dv : Value} {k : Int} {P : Bo} {S : Dk} (h : RT A w sv dv k P S) (hs : shutB P S = false) (hg16 : ∀ j, (gP P S 7 j).length ≤ 16) (hrd : S.rd < 4611686018427387000) : Calls Tryz.prog 61 #[sv] w (RcGt A w sv dv k P S) := by
 have HT : Hid (RT A w sv dv k P S) := h;have HS : Hid (shutB P S = false) := hs;have HRD := hidH hrd;have HAL : Hid (∀ x, A x → x < w.heap.size) := fun x hx => h.lt hx;obtain ⟨sp, hsp, hspl, hspa⟩ := h.ptr;have HSP : Hid (sp < w.heap.size ∧ ¬ A sp) := ⟨hspl, hspa⟩;subst hsp;obtain ⟨g, hg⟩ : ∃ g, g = gP P S 7 := ⟨_, rfl⟩;have HG : Hid (g = gP P S 7) := hg;have HG16 : Hid (∀ j, (g j).length ≤ 16) := by rw [hg]; exact hg16
 clear h hs hrd hspl hspa hg hg16;go_in;go_wp2_with fail;refine (rcheck_ok HT.out HS.out).mono ?_;rintro e wz ⟨rfl, hw⟩;replace hw := hw.symm;subst hw;go_upto_region 5 with fail
 have HO1 : Hid ((w.alloc (Obj.cells #[] 114)).ownsRow w.heap.size 114 6 (.slice (some ⟨w.heap.size, 0, none⟩) 0 0) 0 []) := World.ownsRow_made w #[] 0 (Nat.le_refl _) (by simp [maxLen]) rfl;have HT1 : Hid (RT A (w.alloc (Obj.cells #[] 114)) (.pointer (some ⟨sp, 0, none⟩)) dv k P S) := HT.out.below (below_alloc _ _);have HC1 : Hid (Ch A w (w.alloc (Obj.cells #[] 114))) := Ch.of_below (below_alloc _ _);have HZ1 : Hid ((w.alloc (Obj.cells #[] 114)).heap.size = w.heap.size + 1) := size_allocC _ _;generalize hlo : w.heap.size = lo at HO1 HZ1 ⊢;have HLO : Hid (w.heap.size = lo) := hlo;clear hlo;generalize w.alloc (Obj.cells #[] 114) = w1 at HO1 HT1 HC1 HZ1 ⊢;go_wp2_with fail;refine (rpages7_walk HT1.out HS.out (by have := HRD.out; omega)).mono ?_;rintro e w2 ⟨f, S2, rfl, hform, hfr, hcv, hrt2, hr2, hc2⟩;have HR2 : Hid (Rdd 6 S S2) := hr2;have HRT2 := hidH hrt2;have HC2 : Hid (Ch A w w2) := HC1.out.self hc2;have HO2 : Hid (w2.ownsRow lo 114 6 (.slice (some ⟨lo, 0, none⟩) 0 0) 0 []) := own_ch HO1.out hc2 (fun x hx => by have h1 := HAL.out x hx; have h2 := HLO.out; omega);have HS12 : Hid (w1.heap.size ≤ w2.heap.size) := hc2.size;have HFR : Hid (∀ j, j < 7 → ∀ x, (f j).ownBlock = some x → w1.heap.size ≤ x) := hfr
 have HFX : Hid (∀ j, j < 7 → ∀ x, (f j).ownBlock = some x → g j ≠ [] → x < w2.heap.size) := fun j hj x hx hne => by
  have h := hcv j hj;rw [← HG.out] at h;rcases cv_cases h with ⟨q, _⟩ | ⟨b, off, cap, q, hp, _, _, q4⟩
  ·exact absurd q hne
  ·rw [q] at hx
   cases hx
   exact (q4 0 hp).lt
 have HS7 : Hid (S7 (w2.alloc (Obj.cells #[f 0, f 1, f 2, f 3, f 4, f 5, f 6] 108)) w2.heap.size f g) := s7_box (fun j hj => by rw [HG.out]; exact hcv j hj);obtain ⟨a0, n0, p0, e0⟩ := hform 0 (by omega);obtain ⟨a1, n1, p1, e1⟩ := hform 1 (by omega);obtain ⟨a2, n2, p2, e2⟩ := hform 2 (by omega);obtain ⟨a3, n3, p3, e3⟩ := hform 3 (by omega);obtain ⟨a4, n4, p4, e4⟩ := hform 4 (by omega);obtain ⟨a5, n5, p5, e5⟩ := hform 5 (by omega);obtain ⟨a6, n6, p6, e6⟩ := hform 6 (by omega);rw [e0, e1, e2, e3, e4, e5, e6] at HS7 ⊢;clear hform hfr hcv hrt2 hr2 hc2 e0 e1 e2 e3 e4 e5 e6;go_upto_region 6 with fail
 have HRT3 : Hid (RT A (w2.alloc (Obj.cells #[.slice a0 n0 p0, .slice a1 n1 p1, .slice a2 n2 p2, .slice a3 n3 p3, .slice a4 n4 p4, .slice a5 n5 p5, .slice a6 n6 p6] 108)) (.pointer (some ⟨sp, 0, none⟩)) dv k P S2) := HRT2.out.below (below_alloc _ _);have HC3 : Hid (Ch A w (w2.alloc (Obj.cells #[.slice a0 n0 p0, .slice a1 n1 p1, .slice a2 n2 p2, .slice a3 n3 p3, .slice a4 n4 p4, .slice a5 n5 p5, .slice a6 n6 p6] 108))) := HC2.out.self (Ch.of_below (below_alloc _ _));have HO3 : Hid ((w2.alloc (Obj.cells #[.slice a0 n0 p0, .slice a1 n1 p1, .slice a2 n2 p2, .slice a3 n3 p3, .slice a4 n4 p4, .slice a5 n5 p5, .slice a6 n6 p6] 108)).ownsRow lo 114 6 (.slice (some ⟨lo, 0, none⟩) 0 0) 0 []) := HO2.out.alloc _;have HQ3 : Hid ((w2.alloc (Obj.cells #[.slice a0 n0 p0, .slice a1 n1 p1, .slice a2 n2 p2, .slice a3 n3 p3, .slice a4 n4 p4, .slice a5 n5 p5, .slice a6 n6 p6] 108)).heap.size = w2.heap.size + 1) := size_allocC _ _;generalize hQQ : w2.heap.size = Q at HS7 HQ3 HFX HS12 ⊢;generalize w2.alloc (Obj.cells #[.slice a0 n0 p0, .slice a1 n1 p1, .slice a2 n2 p2, .slice a3 n3 p3, .slice a4 n4 p4, .slice a5 n5 p5, .slice a6 n6 p6] 108) = w3 at HRT3 HC3 HO3 HQ3 HS7 ⊢;clear hQQ HRT2 HC2 HO2 HO1 HT1 HC1;obtain ⟨mid, hmid⟩ : ∃ mid, mid = w1.heap.size := ⟨_, rfl⟩;have HMID : Hid (mid = lo + 1) := by have := HZ1.out; show _ = _; omega
 rw [← hmid] at HFR HS12;clear hmid HZ1;have HND : Hid (¬ (lo ≤ Q ∧ (Q < mid ∨ w3.heap.size ≤ Q))) := fun q => by have h1 := HS12.out; have h2 := HQ3.out; omega
 have HNF : Hid (∀ j, j < 7 → g j ≠ [] → ∀ x, (f j).ownBlock = some x → ¬ (lo ≤ x ∧ (x < mid ∨ w3.heap.size ≤ x))) := fun j hj hne x hx q => by
  have h1 := HFR.out j hj x hx;have h2 := HFX.out j hj x hx hne;have h3 := HQ3.out;omega
 have HCO : Hid (Co lo mid w3 (.slice (some ⟨lo, 0, none⟩) 0 0) [] w3) := ⟨by simpa [flatC] using HO3.out, fun x hx => by have e : lo = x := Option.some.inj hx; have := HMID.out; omega, Ch.refl _ _, by have h1 := HC3.out.size; have h2 := HLO.out; omega⟩
 have HSEV : Hid (∀ wr, Ch (fun x => lo ≤ x ∧ (x < mid ∨ w3.heap.size ≤ x)) w3 wr → ∀ j, j < 7 → wr.cell? ⟨Q, j, none⟩ = some (f j) ∧ Cv wr (f j) (g j)) := fun wr hc j hj => ⟨hc.cell (HS7.out.c j hj) HND.out, by
  by_cases hne : g j = []
  ·have h := HS7.out.cv j hj;rw [hne] at h ⊢;obtain ⟨ao, cap, e, h1, h2, h3, _⟩ := h;exact ⟨ao, cap, e, h1, h2, h3, fun i hi => by simp at hi⟩
  ·exact (HS7.out.cv j hj).ch hc (fun x hx => HNF.out j hj hne x hx)⟩
 have HEND : Hid (∀ wr, Ch (fun x => lo ≤ x ∧ (x < mid ∨ w3.heap.size ≤ x)) w3 wr → RT A wr (.pointer (some ⟨sp, 0, none⟩)) dv k P S2 ∧ Ch A w wr) := fun wr hc =>
  ⟨HRT3.out.high hc (fun x hx q => by have h1 := HAL.out x hx; have h2 := HLO.out; omega) (fun q => by have h1 := HSP.out.1; have h2 := HLO.out; omega), HC3.out.trans hc (fun x hx => .inr (by have h2 := HLO.out; omega))⟩
 clear HO3 HRT3 HC3 HS7 HND HNF HFR HFX;go_wp2_with fail;go_loopw [5, 7] (fun ov pv wr => ∃ p1 : Nat, 1 ≤ p1 ∧ p1 ≤ 7 ∧ pv = .int .i64 p1 ∧ Co lo mid w3 ov (insAll (allL g (p1 - 1))) wr) (fun _ pv _ => (7 - intOf pv).toNat)
 case atStart => exact ⟨1, by omega, by omega, by simp, by simpa [allL, insAll] using HCO.out⟩
 case round =>
  clear HCO;obtain ⟨p1, hp1, hp7, rfl, hco⟩ := hrel;obtain ⟨p, hp⟩ : ∃ p, p1 = p + 1 := ⟨p1 - 1, by omega⟩;have HP1 : Hid (p1 = p + 1) := hp;rw [show p1 - 1 = p by omega] at hco;clear hp;have HCO := hidH hco;obtain ⟨oo, oc, hov⟩ := own_formC hco.own;rw [insAll_len] at hov;clear hco;by_cases hlt : p1 < 7
  ·have hple : (p1 : Int) ≤ 6 := by omega
   have hpl7 : (p1 : Int) < 7 := by omega
   have hpl0 : (0 : Int) ≤ (p1 : Int) := by omega
   obtain ⟨hq0, hcvp⟩ := HSEV.out wr HCO.out.ch p1 (by omega);obtain ⟨N, hN⟩ : ∃ N, N = (g p1).length := ⟨_, rfl⟩;have HN : Hid (N = (g p1).length) := hN;obtain ⟨fa, fc, hfe⟩ := hcvp.form;rw [← hN] at hfe;have HFE : Hid (f p1 = .slice fa N fc) := hfe;have hN16 : (N : Int) ≤ 16 := by have := HG16.out p1; omega
   clear hq0 hcvp hfe hN;subst hov;go_wp2_with fail;go_loopw [5, 8] (fun ov iv wr => ∃ i : Nat, i ≤ N ∧ iv = .int .i64 i ∧ Co lo mid w3 ov (insAll (allL g p ++ (g p1).take i)) wr) (fun _ iv _ => N - (intOf iv).toNat)
   case atStart => exact ⟨0, Nat.zero_le _, rfl, by simpa using HCO.out⟩
   case round =>
    clear HCO;obtain ⟨i, hi, rfl, hco⟩ := hrel;obtain ⟨o, ho⟩ : ∃ o, o = insAll (allL g p ++ (g p1).take i) := ⟨_, rfl⟩;rw [← ho] at hco;have HOE : Hid (o = insAll (allL g p ++ (g p1).take i)) := ho;have HCO := hidH hco;obtain ⟨L, hL⟩ : ∃ L, L = o.length := ⟨_, rfl⟩;have HL : Hid (L = o.length) := hL;obtain ⟨oo, oc, hov⟩ := own_formC hco.own;rw [← hL] at hov;subst hov
    have hL96 : L ≤ 96 := by
     rw [hL, ho, insAll_len, List.length_append, List.length_take];have h1 := all_len HG16.out p;have h2 := HG16.out p1;have h3 := HP1.out;omega
    obtain ⟨q0, hcvp⟩ := HSEV.out wr hco.ch p1 (by omega);rw [HFE.out] at q0 hcvp;clear hco ho hL;by_cases hli : i < N
    ·have hig : i < (g p1).length := by have := HN.out; omega
     rcases cv_cases hcvp with ⟨h0, _⟩ | ⟨b, off, cap, hve, _, _, _, hca⟩
     ·rw [h0] at hig; simp at hig
     have hab : fa = some ⟨b, off, none⟩ := by simp at hve; exact hve.1
     obtain ⟨c, hc⟩ : ∃ c, c = (g p1)[i] := ⟨_, rfl⟩;have HC : Hid (c = (g p1)[i]) := hc;have HFA : Hid (fa = some ⟨b, off, none⟩) := hab;obtain ⟨I, hI⟩ : ∃ I, I = insP o c.k := ⟨_, rfl⟩;have HI : Hid (I = insP o c.k) := hI;have hIL : I ≤ L := by rw [hI, HL.out]; exact insP_le _ _
     clear hve hca hc hab hI hcvp q0
     have HACC : Hid (∀ wx, Ch (fun x => lo ≤ x ∧ (x < mid ∨ w3.heap.size ≤ x)) w3 wx → wx.cell? ⟨Q, p1, none⟩ = some (.slice (some ⟨b, off, none⟩) N fc) ∧ CA wx b (off + i * 6) c) := fun wx hch => by
      obtain ⟨h1, h2⟩ := HSEV.out wx hch p1 (by omega);rw [HFE.out, HFA.out] at h1 h2;have h3 := h2.at i hig;rw [← HC.out] at h3;exact ⟨h1, h3⟩
     obtain ⟨q0, _⟩ := HACC.out wr HCO.out.ch;go_wp2_with fail;clear q0;go_loopw [9] (fun av wr => ∃ a : Nat, a ≤ I ∧ av = .int .i64 a ∧ Co lo mid w3 (.slice oo L oc) o wr) (fun av _ => I - (intOf av).toNat)
     case atStart => exact ⟨0, Nat.zero_le _, rfl, HCO.out⟩
     case round =>
      clear HCO;obtain ⟨a, ha, rfl, hco⟩ := hrel;have HCO := hidH hco;clear hco;obtain ⟨q0, q1⟩ := HACC.out wr HCO.out.ch;have k0 : ∀ wx, Below wr.heap.size wr wx → wx.cell? ⟨Q, p1, none⟩ = some (.slice (some ⟨b, off, none⟩) N fc) := fun wx h => by rw [h.cell (p := ⟨Q, p1, none⟩) (cell_lt q0)]; exact q0
      have k1 : ∀ wx, Below wr.heap.size wr wx → wx.cell? ⟨b, off + i * 6, none⟩ = some (.int .u64 c.k) := fun wx h => by rw [h.cell (p := ⟨b, off + i * 6, none⟩) q1.lt]; exact q1.c0
      by_cases haI : a < I
      ·have haL : a < L := by omega
       have haLd : decide ((a : Int) < (L : Int)) = true := decide_eq_true (by omega);have haLn : decide (a < L) = true := decide_eq_true haL;obtain ⟨hao, hak⟩ := insP_lt (o := o) (k := c.k) (i := a) (by rw [← HI.out]; exact haI);obtain ⟨og, ocap, hoe, _, _, _, _⟩ := own_blk HCO.out.own (by have := HL.out; omega);have hoo : oo = some ⟨og, 0, none⟩ := by simp at hoe; exact hoe.1
       have hown := HCO.out.own;rw [hoo, ← HL.out] at hown;have r0 := (own_cells hown hao).1;obtain ⟨y, hy⟩ : ∃ y, y = o[a].k := ⟨_, rfl⟩;have r1 := r0.c0;rw [← hy] at r1;have hyk : y < c.k := by rw [hy]; exact hak
       have hykd : decide ((y : Int) < (c.k : Int)) = true := decide_eq_true (by omega);have hykn : decide (y < c.k) = true := decide_eq_true hyk;have k2 : ∀ wx, Below wr.heap.size wr wx → wx.cell? ⟨og, a * 6, none⟩ = some (.int .u64 y) := fun wx h => by rw [h.cell (p := ⟨og, a * 6, none⟩) (cell_lt r1)]; exact r1
       have HNX : Hid (Co lo mid w3 (.slice oo L oc) o wr.drew) := HCO.out.below (below_drw _);clear hoe hown r0 r1 hy hak q0 q1;subst hoo;go_wp2_with fail;refine wp_region_noPanic ?_;refine wp_region_held_drew (S := fun wx => Below wr.heap.size wr wx) (by kernel_rfl) ?_ fun hHeld => ?_
       ·exact (Below.refl _ _).drew
       refine tkS 0 31 rfl hHeld ?_;refine tkS 1 32 rfl hHeld ?_;refine tkS 2 33 rfl hHeld ?_;refine tkS 3 34 rfl hHeld ?_;refine tkS 4 35 rfl hHeld ?_;refine tkS 5 36 rfl hHeld ?_;refine tkS 6 37 rfl hHeld ?_;refine tkS 7 38 rfl hHeld ?_;refine tkS 8 39 rfl hHeld ?_;refine tkS 9 40 rfl hHeld ?_;refine tkS 10 41 rfl hHeld ?_;refine tkS 11 42 rfl hHeld ?_;refine tkS 12 43 rfl hHeld ?_;refine tkS 13 44 rfl hHeld ?_;refine tkS 14 45 rfl hHeld ?_;refine tkS 15 46 rfl hHeld ?_;refine tkS 16 47 rfl hHeld ?_;refine tkS 17 48 rfl hHeld ?_;refine tkS 18 49 rfl hHeld ?_;refine wpAnyH_done (by kernel_rfl) ?_ _;refine NoPanic.normal ?_;clear hHeld k0 k1 k2;go_wp2_with fail;go_roundw
       case rel => exact ⟨a + 1, haI, by simp, HNX.out⟩
       case measure => simp [intOf]; omega
      ·obtain rfl : a = I := by omega
       by_cases haL : a < L
       ·have haLd : decide ((a : Int) < (L : Int)) = true := decide_eq_true (by omega);have haLn : decide (a < L) = true := decide_eq_true haL;have hIo : insP o c.k < o.length := by rw [← HI.out, ← HL.out]; exact haL
        have hak := insP_at hIo;obtain ⟨og, ocap, hoe, _, _, _, _⟩ := own_blk HCO.out.own (by have := HL.out; omega);have hoo : oo = some ⟨og, 0, none⟩ := by simp at hoe; exact hoe.1
        have hown := HCO.out.own;rw [hoo, ← HL.out] at hown;have r0 := (own_cells hown hIo).1;obtain ⟨y, hy⟩ : ∃ y, y = o[insP o c.k].k := ⟨_, rfl⟩;have r1 := r0.c0;rw [← hy, ← HI.out] at r1;have hyk : ¬ y < c.k := by rw [hy]; exact hak
        have hykd : decide ((y : Int) < (c.k : Int)) = false := decide_eq_false (by omega);have hykn : decide (y < c.k) = false := decide_eq_false hyk;have k2 : ∀ wx, Below wr.heap.size wr wx → wx.cell? ⟨og, a * 6, none⟩ = some (.int .u64 y) := fun wx h => by rw [h.cell (p := ⟨og, a * 6, none⟩) (cell_lt r1)]; exact r1
        clear hoe hown r0 r1 hy hak q0 q1 hIo;subst hoo;go_wp2_with fail;refine wp_region_noPanic ?_;refine wp_region_held_drew (S := fun wx => Below wr.heap.size wr wx) (by kernel_rfl) ?_ fun hHeld => ?_
        ·exact (Below.refl _ _).drew
        refine tkS 0 31 rfl hHeld ?_;refine tkS 1 32 rfl hHeld ?_;refine tkS 2 33 rfl hHeld ?_;refine tkS 3 34 rfl hHeld ?_;refine tkS 4 35 rfl hHeld ?_;refine tkS 5 36 rfl hHeld ?_;refine tkS 6 37 rfl hHeld ?_;refine tkS 7 38 rfl hHeld ?_;refine tkS 8 39 rfl hHeld ?_;refine tkS 9 40 rfl hHeld ?_;refine tkS 10 41 rfl hHeld ?_;refine tkS 11 42 rfl hHeld ?_;refine tkS 12 43 rfl hHeld ?_;refine tkS 13 44 rfl hHeld ?_;refine tkS 14 45 rfl hHeld ?_;refine tkS 15 46 rfl hHeld ?_;refine tkS 16 47 rfl hHeld ?_;refine tkS 17 48 rfl hHeld ?_;refine tkS 18 49 rfl hHeld ?_;refine wpAnyH_done (by kernel_rfl) ?_ _;refine NoPanic.normal ?_;have HCW : Hid (Co lo mid w3 (.slice (some ⟨og, 0, none⟩) L oc) o wr.drew) := HCO.out.below (below_drw _);clear hHeld k0 k1 k2;generalize wr.drew = wc at HCW ⊢;have HOWN : Hid (wc.ownsRow lo 114 6 (.slice (some ⟨og, 0, none⟩) L oc) o.length (flatC o)) := HCW.out.own;go_upto_region 16 with (at_builtin; refine app_cell rfl (.tmp 52) (.tmp 54) rfl (.slice (some ⟨og, 0, none⟩) L oc) o (by rfl) (HOWN.out.alloc _) wc.heap.size zeroC (by rfl) (zero_cells wc) (by have := HL.out; omega) (Nat.le_trans HCW.out.lw (below_alloc _ _).size) ?_; intro v9 w9 hown9 hg9 hat9)
        have HC9 : Hid (Co lo mid w3 v9 (o ++ [zeroC]) w9) := HCW.out.grow hown9 hg9 hat9;obtain ⟨og9, ocap, hv9, _, hogl, _, _⟩ := own_blk hown9 (by omega);rw [← HL.out] at hv9;subst hv9;clear hown9 hg9 hat9 HCW HOWN HCO;go_wp2_with fail;go_loopw [10] (fun kv wr => ∃ m : Nat, a ≤ m ∧ m ≤ L ∧ kv = .int .i64 m ∧ Co lo mid w3 (.slice (some ⟨og9, 0, none⟩) (L + 1) ocap) (shf o m) wr) (fun kv _ => (intOf kv).toNat - a)
        case atStart => exact ⟨L, hIL, Nat.le_refl _, by simp, by rw [HL.out, shf_start]; rw [← HL.out]; exact HC9.out⟩
        case round =>
         clear HC9;obtain ⟨m, ham, hmL, rfl, hco⟩ := hrel;have HCM := hidH hco;clear hco;obtain ⟨LL, hLL⟩ : ∃ LL, LL = L + 1 := ⟨_, rfl⟩;have HLL : Hid (LL = L + 1) := hLL;rw [← hLL] at HCM ⊢;clear hLL;have hown := HCM.out.own;rw [shf_len (by rw [← HL.out]; exact hmL), ← HL.out, ← HLL.out] at hown;have HOM := hidH hown;clear hown;by_cases hma : a < m
         ·obtain ⟨m', hm'⟩ : ∃ m', m = m' + 1 := ⟨m - 1, by omega⟩;subst hm';have hmo : m' < o.length := by have := HL.out; omega
          obtain ⟨hs1, hs2⟩ := shf_at hmo;obtain ⟨x0, hx0⟩ : ∃ x, x = o[m'] := ⟨_, rfl⟩;have hr := (own_cells HOM.out hs1).1;have hz := (own_cells HOM.out hs1).2;rw [hs2, ← hx0] at hr;obtain ⟨d0, d1, d2, d3, d4, d5⟩ := hr;have hs3 : m' + 1 < (shf o (m' + 1)).length := by rw [shf_len (by omega)]; omega
          have ht := (own_cells HOM.out hs3).1;obtain ⟨y0, hy0⟩ : ∃ y, y = (shf o (m' + 1))[m' + 1] := ⟨_, rfl⟩;rw [← hy0] at ht;obtain ⟨t0, t1, t2, t3, t4, t5⟩ := ht;have z0 := hz ((m' + 1) * 6);have z1 := hz ((m' + 1) * 6 + 1);have z2 := hz ((m' + 1) * 6 + 2);have z3 := hz ((m' + 1) * 6 + 3);have z4 := hz ((m' + 1) * 6 + 4);have z5 := hz ((m' + 1) * 6 + 5);have hpm : ((m' + 1 : Nat) : Int) - 1 = (m' : Int) := by omega
          have hmLL : (((m' + 1 : Nat) : Int)) < (LL : Int) := by have := HLL.out; omega
          have hmLL2 : ((m' : Int)) < (LL : Int) := by have := HLL.out; omega
          have hmLL3 : m' + 1 < LL := by have := HLL.out; omega
          have hmLL4 : m' < LL := by omega
          have HNX : Hid (Co lo mid w3 (.slice (some ⟨og9, 0, none⟩) LL ocap) (shf o m') ((((((wr.setCell ⟨og9, (m' + 1) * 6, none⟩ (.int .u64 x0.k)).setCell ⟨og9, (m' + 1) * 6 + 1, none⟩ (.bool x0.p.h)).setCell ⟨og9, (m' + 1) * 6 + 2, none⟩ (.int .u64 x0.p.b)).setCell ⟨og9, (m' + 1) * 6 + 3, none⟩ (.bool x0.c.h)).setCell ⟨og9, (m' + 1) * 6 + 4, none⟩ (.int .u64 x0.c.b)).setCell ⟨og9, (m' + 1) * 6 + 5, none⟩ (.int .i64 x0.n))) := by
           have h := HCM.out.put (k := m' + 1) x0 (by rw [shf_len (by omega), ← HL.out]; exact HLL.out);rw [hx0, shf_step hmo, ← hx0] at h;exact h
          obtain ⟨M1, hM1⟩ : ∃ M1, M1 = m' + 1 := ⟨_, rfl⟩;have HM1 : Hid (M1 = m' + 1) := hM1;rw [← hM1] at t0 t1 t2 t3 t4 t5 z0 z1 z2 z3 z4 z5 HNX hmLL hmLL3 hpm hma ⊢;clear hy0 hz hs1 hs2 hx0 hs3 hM1;have hMp : 0 < M1 := by have := HM1.out; omega
          go_wp2_with fail;go_roundw
          case rel => exact ⟨m', by have := HM1.out; omega, by omega, by have := HM1.out; simp, HNX.out⟩
          case measure => have := HM1.out; simp [intOf]; omega
         ·obtain rfl : m = a := by omega
          obtain ⟨q0, q1⟩ := HACC.out wr HCM.out.ch;obtain ⟨d0, d1, d2, d3, d4, d5⟩ := q1;have hs3 : m < (shf o m).length := by rw [shf_len (by rw [← HL.out]; exact hmL)]; have := HL.out; omega
          have ht := (own_cells HOM.out hs3).1;obtain ⟨y0, hy0⟩ : ∃ y, y = (shf o m)[m] := ⟨_, rfl⟩;rw [← hy0] at ht;obtain ⟨t0, t1, t2, t3, t4, t5⟩ := ht;have hz := (own_cells HOM.out hs3).2;have z0 := hz (m * 6);have z1 := hz (m * 6 + 1);have z2 := hz (m * 6 + 2);have z3 := hz (m * 6 + 3);have z4 := hz (m * 6 + 4);have z5 := hz (m * 6 + 5);have hmLL2 : ((m : Int)) < (LL : Int) := by have := HLL.out; omega
          have hmLL4 : m < LL := by have := HLL.out; omega
          have HNX : Hid (Co lo mid w3 (.slice (some ⟨og9, 0, none⟩) LL ocap) (insAll (allL g p ++ (g p1).take (i + 1))) ((((((wr.setCell ⟨og9, m * 6, none⟩ (.int .u64 c.k)).setCell ⟨og9, m * 6 + 1, none⟩ (.bool c.p.h)).setCell ⟨og9, m * 6 + 2, none⟩ (.int .u64 c.p.b)).setCell ⟨og9, m * 6 + 3, none⟩ (.bool c.c.h)).setCell ⟨og9, m * 6 + 4, none⟩ (.int .u64 c.c.b)).setCell ⟨og9, m * 6 + 5, none⟩ (.int .i64 c.n))) := by
           have h := HCM.out.put (k := m) c (by rw [shf_len (by rw [← HL.out]; exact hmL), ← HL.out]; exact HLL.out);rw [shf_set c (by rw [← HL.out]; exact hmL)] at h;rw [List.take_succ_eq_append_getElem hig, ← HC.out, ← List.append_assoc, insAll_snoc, ← HOE.out];unfold insC;rw [← HI.out];exact h
          clear hy0 hz hs3;go_wp2_with fail;go_roundw
          case rel => exact ⟨i + 1, hli, by simp, HNX.out⟩
          case measure => simp [intOf]; omega
       ·have haLd : decide ((a : Int) < (L : Int)) = false := decide_eq_false (by omega);have haLn : decide (a < L) = false := decide_eq_false haL;clear q0 q1;go_wp2_with fail;refine wp_region_noPanic ?_;refine wp_region_held_drew (S := fun wx => Below wr.heap.size wr wx) (by kernel_rfl) ?_ fun hHeld => ?_
        ·exact (Below.refl _ _).drew
        refine tkS 0 31 rfl hHeld ?_;refine tkS 1 32 rfl hHeld ?_;refine tkS 2 33 rfl hHeld ?_;refine tkS 3 34 rfl hHeld ?_;refine tkS 4 35 rfl hHeld ?_;refine tuH 5 36 rfl hHeld ?_;try simp only [Act.put, zz]
        refine tuH 6 37 rfl hHeld ?_;try simp only [Act.put, zz]
        refine tuH 7 38 rfl hHeld ?_;try simp only [Act.put, zz]
        refine tuH 8 39 rfl hHeld ?_;try simp only [Act.put, zz]
        refine tuH 9 40 rfl hHeld ?_;try simp only [Act.put, zz]
        refine tuH 10 41 rfl hHeld ?_;try simp only [Act.put, zz]
        refine tuH 11 42 rfl hHeld ?_;try simp only [Act.put, zz]
        refine tuH 12 43 rfl hHeld ?_;try simp only [Act.put, zz]
        refine tuH 13 44 rfl hHeld ?_;try simp only [Act.put, zz]
        refine tuH 14 45 rfl hHeld ?_;try simp only [Act.put, zz]
        refine tuH 15 46 rfl hHeld ?_;try simp only [Act.put, zz]
        refine tuH 16 47 rfl hHeld ?_;try simp only [Act.put, zz]
        refine tuH 17 48 rfl hHeld ?_;try simp only [Act.put, zz]
        refine tkS 18 49 rfl hHeld ?_;refine wpAnyH_done (by kernel_rfl) ?_ _;refine NoPanic.normal ?_;have HCW : Hid (Co lo mid w3 (.slice oo L oc) o wr.drew) := HCO.out.below (below_drw _);clear hHeld k0 k1;generalize wr.drew = wc at HCW ⊢;have HOWN : Hid (wc.ownsRow lo 114 6 (.slice oo L oc) o.length (flatC o)) := HCW.out.own;go_upto_region 16 with (at_builtin; refine app_cell rfl (.tmp 52) (.tmp 54) rfl (.slice oo L oc) o (by rfl) (HOWN.out.alloc _) wc.heap.size zeroC (by rfl) (zero_cells wc) (by have := HL.out; omega) (Nat.le_trans HCW.out.lw (below_alloc _ _).size) ?_; intro v9 w9 hown9 hg9 hat9)
        have HC9 : Hid (Co lo mid w3 v9 (o ++ [zeroC]) w9) := HCW.out.grow hown9 hg9 hat9;obtain ⟨og, ocap, hv9, _, hogl, _, _⟩ := own_blk hown9 (by omega);rw [← HL.out] at hv9;subst hv9;clear hown9 hg9 hat9 HCW HOWN HCO;go_wp2_with fail;go_loopw [10] (fun kv wr => ∃ m : Nat, a ≤ m ∧ m ≤ L ∧ kv = .int .i64 m ∧ Co lo mid w3 (.slice (some ⟨og, 0, none⟩) (L + 1) ocap) (shf o m) wr) (fun kv _ => (intOf kv).toNat - a)
        case atStart => exact ⟨L, hIL, Nat.le_refl _, by simp, by rw [HL.out, shf_start]; rw [← HL.out]; exact HC9.out⟩
        case round =>
         clear HC9;obtain ⟨m, ham, hmL, rfl, hco⟩ := hrel;have HCM := hidH hco;clear hco;obtain ⟨LL, hLL⟩ : ∃ LL, LL = L + 1 := ⟨_, rfl⟩;have HLL : Hid (LL = L + 1) := hLL;rw [← hLL] at HCM ⊢;clear hLL;have hown := HCM.out.own;rw [shf_len (by rw [← HL.out]; exact hmL), ← HL.out, ← HLL.out] at hown;have HOM := hidH hown;clear hown;by_cases hma : a < m
         ·exact absurd hma (by omega)
         ·obtain rfl : m = a := by omega
          obtain ⟨q0, q1⟩ := HACC.out wr HCM.out.ch;obtain ⟨d0, d1, d2, d3, d4, d5⟩ := q1;have hs3 : m < (shf o m).length := by rw [shf_len (by rw [← HL.out]; exact hmL)]; have := HL.out; omega
          have ht := (own_cells HOM.out hs3).1;obtain ⟨y0, hy0⟩ : ∃ y, y = (shf o m)[m] := ⟨_, rfl⟩;rw [← hy0] at ht;obtain ⟨t0, t1, t2, t3, t4, t5⟩ := ht;have hz := (own_cells HOM.out hs3).2;have z0 := hz (m * 6);have z1 := hz (m * 6 + 1);have z2 := hz (m * 6 + 2);have z3 := hz (m * 6 + 3);have z4 := hz (m * 6 + 4);have z5 := hz (m * 6 + 5);have hmLL2 : ((m : Int)) < (LL : Int) := by have := HLL.out; omega
          have hmLL4 : m < LL := by have := HLL.out; omega
          have HNX : Hid (Co lo mid w3 (.slice (some ⟨og, 0, none⟩) LL ocap) (insAll (allL g p ++ (g p1).take (i + 1))) ((((((wr.setCell ⟨og, m * 6, none⟩ (.int .u64 c.k)).setCell ⟨og, m * 6 + 1, none⟩ (.bool c.p.h)).setCell ⟨og, m * 6 + 2, none⟩ (.int .u64 c.p.b)).setCell ⟨og, m * 6 + 3, none⟩ (.bool c.c.h)).setCell ⟨og, m * 6 + 4, none⟩ (.int .u64 c.c.b)).setCell ⟨og, m * 6 + 5, none⟩ (.int .i64 c.n))) := by
           have h := HCM.out.put (k := m) c (by rw [shf_len (by rw [← HL.out]; exact hmL), ← HL.out]; exact HLL.out);rw [shf_set c (by rw [← HL.out]; exact hmL)] at h;rw [List.take_succ_eq_append_getElem hig, ← HC.out, ← List.append_assoc, insAll_snoc, ← HOE.out];unfold insC;rw [← HI.out];exact h
          clear hy0 hz hs3;go_wp2_with fail;go_roundw
          case rel => exact ⟨i + 1, hli, by simp, HNX.out⟩
          case measure => simp [intOf]; omega
    ·obtain rfl : i = N := by omega
     have HNX : Hid (Co lo mid w3 (.slice oo L oc) (insAll (allL g p1)) wr) := by
      have h := HCO.out;rw [HOE.out, HN.out, List.take_length] at h;rw [show allL g p1 = allL g p ++ g p1 by rw [HP1.out]; rfl];exact h
     go_wp2_with fail;go_roundw
     case rel => exact ⟨p1 + 1, by omega, by omega, by simp, HNX.out⟩
     case measure => simp [intOf]; omega
  ·have hple : ¬ (p1 : Int) ≤ 6 := by omega
   obtain rfl : p1 = 7 := by omega
   obtain rfl : p = 6 := by have := HP1.out; omega
   obtain ⟨hrt, hch⟩ := HEND.out wr HCO.out.ch
   have HF : Hid (RcGt A w (.pointer (some ⟨sp, 0, none⟩)) dv k P S (.returned (.tuple #[u5, .int .i64 0])) wr) := by
    refine ⟨S2, oo, oc, insAll (allL g 6), by rw [hov, insAll_len], by rw [← HG.out]; exact insAll_srt _, ?_, hrt, HR2.out, hch⟩;have h := HCO.out.own;rw [hov, insAll_len] at h;rw [insAll_len, HLO.out];exact h
   clear hrt hch;rw [hov] at HF ⊢;go_wp2_with fail;go_ret2;exact HF.out
end
end Go.Proofs.YtcmklbibehnloaaGreat
