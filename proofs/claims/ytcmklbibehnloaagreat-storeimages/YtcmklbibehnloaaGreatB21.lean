/- Put that lays: the power goes within, or all is done. -/
import Derived.Test.YtcmklbibehnloaaGreatB20
import Derived.Defers
import Derived.Recover
set_option maxRecDepth 100000
set_option maxHeartbeats 16000000
namespace Go.Proofs.YtcmklbibehnloaaGreat
open Go.RowKit
section
theorem tok_iff {t : List Nat} {B : Nat} : Tok t B ↔ 1 ≤ t.length ∧ 2 + 2 * t.length ≤ B ∧ (∀ i, i < t.length → tn t i = 0 ∨ (2 ≤ tn t i ∧ tn t i < B)) ∧ ∀ i j, i < j → j < t.length → tn t j ≠ 0 → tn t i ≠ tn t j := by
 constructor
 ·rintro ⟨h1, h2, h3⟩;refine ⟨h1, h2, fun i hi => ?_, fun i j hij hj h0 e => ?_⟩
  ·rcases h3 i hi with h | ⟨a, b, _⟩
   ·exact .inl h
   ·exact .inr ⟨a, b⟩
  ·rcases h3 j hj with h | ⟨_, _, c⟩
   ·exact h0 h
   ·refine c ?_;rw [← e, tn_at (by omega)];exact List.mem_take_iff_getElem.2 ⟨i, by omega, rfl⟩
 ·rintro ⟨h1, h2, h3, h4⟩;refine ⟨h1, h2, fun i hi => ?_⟩;rcases h3 i hi with h | ⟨a, b⟩
  ·exact .inl h
  ·refine .inr ⟨a, b, fun hm => ?_⟩;obtain ⟨j, hj, e⟩ := List.mem_take_iff_getElem.1 hm;exact h4 j i (by omega) hi (by omega) (by rw [tn_at (by omega)]; exact e)
structure LI (tab t tk : List Nat) (b B : Nat) : Prop where
 len : t.length = tab.length
 src : ∀ i, i < tab.length → tn t i = 0 ∨ tn t i = tn tab i ∨ tn t i ∈ tk
 tk2 : ∀ x ∈ tk, 2 ≤ x ∧ x ≤ b ∧ x < B ∧ x ∉ tab
 dist : ∀ i j, i < j → j < tab.length → tn t j ≠ 0 → tn t i ≠ tn t j
 fr : FrP tab tk b
 b1 : 1 ≤ b
theorem LI.start {tab : List Nat} {B : Nat} (h : Tok tab B) : LI tab tab [] 1 B :=
 ⟨rfl, fun _ _ => .inr (.inl rfl), fun x hx => by simp at hx, (tok_iff.1 h).2.2.2, fun y h1 h2 => by omega, Nat.le_refl _⟩
theorem LI.zero {tab t tk : List Nat} {b B : Nat} (h : LI tab t tk b B) (q : Nat) : LI tab (t.set q 0) tk b B := by
 have hl := h.len;refine ⟨by rw [List.length_set]; exact hl, fun i hi => ?_, h.tk2, fun i j hij hj => ?_, h.fr, h.b1⟩
 ·rw [tn_set (by omega)]
  split
  ·exact .inl rfl
  ·exact h.src i hi
 ·rw [tn_set (by omega), tn_set (by omega)]
  split
  ·intro h0; exact absurd rfl h0
  ·split
   ·intro h0 e; exact h0 e.symm
   ·exact h.dist i j hij hj
theorem LI.next {tab t tk : List Nat} {b B : Nat} (h : LI tab t tk b B) (h64 : ∀ x ∈ tab, x < 64) (hx : nextF tab b < B) (q : Nat) : LI tab (t.set q (nextF tab b)) (nextF tab b :: tk) (nextF tab b) B := by
 have hl := h.len;have hgt := next_gt (t := tab) (b := b);have hout := next_out (b := b) h64;have h1 := h.b1
 have old : ∀ i, i < tab.length → tn t i ≠ nextF tab b := by
  intro i hi e;rcases h.src i hi with q | q | q
  ·omega
  ·rw [e] at q; exact hout (by rw [q]; exact tn_mem hi)
  ·have := (h.tk2 _ q).2.1; omega
 refine ⟨by rw [List.length_set]; exact hl, fun i hi => ?_, fun x hx' => ?_, fun i j hij hj => ?_, fr_next h.fr, by omega⟩
 ·rw [tn_set (by omega)]
  split
  ·exact .inr (.inr (by simp))
  ·rcases h.src i hi with q | q | q
   ·exact .inl q
   ·exact .inr (.inl q)
   ·exact .inr (.inr (by simp [q]))
 ·rcases List.mem_cons.1 hx' with rfl | q
  ·exact ⟨by omega, Nat.le_refl _, hx, hout⟩
  ·obtain ⟨a, c, d, e⟩ := h.tk2 x q;exact ⟨a, by omega, d, e⟩
 ·rw [tn_set (by omega), tn_set (by omega)]
  split
  ·split
   ·omega
   ·intro _; exact old i (by omega)
  ·split
   ·intro _ e; exact old j hj e.symm
   ·exact h.dist i j hij hj
theorem LI.tok {tab t tk : List Nat} {b B : Nat} (h : LI tab t tk b B) (hT : Tok tab B) : Tok t B := by
 have hl := h.len;obtain ⟨h1, h2, h3, h4⟩ := tok_iff.1 hT;refine tok_iff.2 ⟨by omega, by omega, fun i hi => ?_, fun i j hij hj h0 => h.dist i j hij (by omega) h0⟩;rcases h.src i (by omega) with q | q | q
 ·exact .inl q
 ·rw [q]; exact h3 i (by omega)
 ·obtain ⟨a, _, c, _⟩ := h.tk2 _ q;exact .inr ⟨a, c⟩
theorem free_in {tab t tk : List Nat} {b B : Nat} (h : LI tab t tk b B) (hT : Tok tab B) (hk : tk.length < tab.length) : nextF tab b < B := by
 have := free_bound h.fr;have := hT.2.1;omega
theorem lay_li {tab : List Nat} {B : Nat} (hT : Tok tab B) (h64 : ∀ x ∈ tab, x < 64) : ∀ (ps : List (Int × List Nat)) (b : Nat) (t tk : List Nat) (S : Dk) (t' : List Nat), LI tab t tk b B → tk.length + ps.length ≤ tab.length → (layS tab ps b t S).1 = some t' → ∃ tk' b', LI tab t' tk' b' B := by
 intro ps
 induction ps with
 | nil => intro b t tk S t' h _ e; unfold layS at e; cases e; exact ⟨tk, b, h⟩
 | cons a l ih =>
  obtain ⟨p, d⟩ := a;intro b t tk S t' h hk e;rw [List.length_cons] at hk;unfold layS at e
  split at e
  ·exact ih b _ tk S t' (h.zero _) (by omega) e
  ·split at e
   ·exact ih _ _ _ _ t' (h.next h64 (free_in h hT (by omega)) _) (by simp; omega) e
   ·cases e
def putO (P : Bo) (S : Dk) (ps : List (Int × List Nat)) : Int × Bo × Dk :=
 if shutB P S = true then (80, endB P, S)
 else if faultI P.tab.length ps ≠ 0 then (faultI P.tab.length ps, P, S)
 else if ps = [] then (0, P, S)
 else if P.gen = 1099511627776 then (92, P, S)
 else match layS P.tab ps 1 P.tab S with
  | (none, S') => (80, endB P, S')
  | (some t, S') => if writeI S' ((1 - P.home : Nat) : Int) (rootB (P.gen + 1) t) = 0 then (0, ⟨P.gen + 1, t, 1 - P.home, P.over⟩, writeS S' ((1 - P.home : Nat) : Int) (rootB (P.gen + 1) t)) else (80, endB P, writeS S' ((1 - P.home : Nat) : Int) (rootB (P.gen + 1) t))
section

variable {P : Bo} {S S' : Dk} {ps : List (Int × List Nat)} {t : List Nat}

theorem put_shut (h : shutB P S = true) : putO P S ps = (80, endB P, S) := by unfold putO; rw [if_pos h]
theorem put_fault (h : shutB P S = false) (hf : faultI P.tab.length ps ≠ 0) : putO P S ps = (faultI P.tab.length ps, P, S) := by unfold putO; rw [if_neg (by rw [h]; simp), if_pos hf]
theorem put_empty (h : shutB P S = false) (hp : ps = []) : putO P S ps = (0, P, S) := by unfold putO; rw [if_neg (by rw [h]; simp), hp, if_neg (fun e => e rfl), if_pos rfl]
theorem put_room (h : shutB P S = false) (hf : faultI P.tab.length ps = 0) (hp : ps ≠ []) (hg : P.gen = 1099511627776) : putO P S ps = (92, P, S) := by unfold putO; rw [if_neg (by rw [h]; simp), if_neg (fun e => e hf), if_neg hp, if_pos hg]
theorem put_lay (h : shutB P S = false) (hf : faultI P.tab.length ps = 0) (hp : ps ≠ []) (hg : P.gen ≠ 1099511627776) (hl : layS P.tab ps 1 P.tab S = (none, S')) : putO P S ps = (80, endB P, S') := by
 unfold putO; rw [if_neg (by rw [h]; simp), if_neg (fun e => e hf), if_neg hp, if_neg hg, hl]
theorem put_ok (h : shutB P S = false) (hf : faultI P.tab.length ps = 0) (hp : ps ≠ []) (hg : P.gen ≠ 1099511627776) (hl : layS P.tab ps 1 P.tab S = (some t, S')) (hw : writeI S' ((1 - P.home : Nat) : Int) (rootB (P.gen + 1) t) = 0) :
  putO P S ps = (0, ⟨P.gen + 1, t, 1 - P.home, P.over⟩, writeS S' ((1 - P.home : Nat) : Int) (rootB (P.gen + 1) t)) := by
 unfold putO; rw [if_neg (by rw [h]; simp), if_neg (fun e => e hf), if_neg hp, if_neg hg, hl]; simp only; rw [if_pos hw]
theorem put_cut (h : shutB P S = false) (hf : faultI P.tab.length ps = 0) (hp : ps ≠ []) (hg : P.gen ≠ 1099511627776) (hl : layS P.tab ps 1 P.tab S = (some t, S')) (hw : writeI S' ((1 - P.home : Nat) : Int) (rootB (P.gen + 1) t) ≠ 0) :
  putO P S ps = (80, endB P, writeS S' ((1 - P.home : Nat) : Int) (rootB (P.gen + 1) t)) := by
 unfold putO; rw [if_neg (by rw [h]; simp), if_neg (fun e => e hf), if_neg hp, if_neg hg, hl]; simp only; rw [if_neg hw]
theorem lay_ok {B : Nat} (hk : P.ok B) (hB : B ≤ 64) (hf : Lok P.tab.length ps) (hl : layS P.tab ps 1 P.tab S = (some t, S')) : Tok t B ∧ t.length = P.tab.length := by
 obtain ⟨tk, b, h⟩ := lay_li hk.tok (fun x hx => by have := tok_lt hk.tok x hx; omega) ps 1 P.tab [] S t (LI.start hk.tok) (by simp; exact lok_len hf) (by rw [hl]);exact ⟨h.tok hk.tok, h.len⟩
end
end
section
section

variable {A D : Nat → Prop} {w w' : World} {v dv tv lv : Value} {P P' : Bo} {S S' : Dk} {pb : Nat} {ps : List (Int × List Nat)}

theorem pcatch_panicking {p q : Nat} {o : Bool} {f : Int} (u : TypeId) (pv : Value) (older : List PanicEntry) (w : World) (h1 : w.cell? ⟨p, 0, none⟩ = some (.pointer (some ⟨pb, 0, none⟩))) (h2 : w.cell? ⟨pb, 4, none⟩ = some (.bool o)) (f2 : w.frozen? ⟨pb, 4, none⟩ = false)
  (h3 : w.cell? ⟨q, 0, none⟩ = some (.int .i64 f)) (f3 : w.frozen? ⟨q, 0, none⟩ = false) :
  CallsD Tryz.prog 90 #[.pointer (some ⟨p, 0, none⟩), .pointer (some ⟨q, 0, none⟩)] (.panicking ({ v := .iface u pv, recovered := false } :: older)) w fun e u' w' =>
   e = .returned (.tuple #[]) ∧ u' = .panicking ({ v := .iface u pv, recovered := true } :: older) ∧ w' = (w.setCell ⟨pb, 4, none⟩ (.bool true)).setCell ⟨q, 0, none⟩ (.int .i64 80) := by
 refine callsD_of_wpS Tryz.func90 rfl fun c₀ cs hu => ?_;apply wpS_seq;apply wpS_region;simp [wpOpsS, go_sem, recoverD, hu, Tryz.ntmps90, Exit.thenS];refine wpS_cond (t := true) (by simp [Act.eval, Array.replicate]) ?_;simp only [if_true];apply wpS_seq;apply wpS_region;simp [wpOpsS, go_sem, h1, h2, f2, Exit.thenS];apply wpS_region;simp [wpOpsS, go_sem, h3, f3, bodyPostS, results, Tryz.results90]
theorem pcatch_idle (p q : Addr) (w : World) :
  CallsD Tryz.prog 90 #[.pointer (some p), .pointer (some q)] .returning w fun e u' w' => e = .returned (.tuple #[]) ∧ u' = .returning ∧ w' = w := by
 refine callsD_of_wpS Tryz.func90 rfl fun c₀ cs hu => ?_;apply wpS_seq;apply wpS_region;simp [wpOpsS, go_sem, recoverD, hu, Tryz.ntmps90, Exit.thenS];refine wpS_cond (t := false) (by simp [Act.eval, Array.replicate]) ?_;simp only [Bool.false_eq_true, if_false];refine wpS_of_wp (wp_skip ?_)
 cases c₀
 simp_all [bodyPostS, results, Tryz.results90]
def Pt (F : Value → Value → Bo → Array Value) (TB TD : TypeId) (A : Nat → Prop) (w : World) (v dv : Value) (P : Bo) (S : Dk) (ps : List (Int × List Nat)) (e : Ending) (w' : World) : Prop :=
 e = .returned (.int .i64 (putO P S ps).1) ∧ (∃ A', Bk F TB TD A' w' v dv (putO P S ps).2.1 (putO P S ps).2.2 ∧ ∀ x, A' x → A x ∨ w.heap.size ≤ x) ∧ Ch A w w'
theorem pt_mk {F : Value → Value → Bo → Array Value} {TB TD : TypeId} {A' D' : Nat → Prop} {c : Int} (hO : putO P S ps = (c, P', S')) (h : BM F TB TD A' D' w' pb tv dv P' S') (hA : ∀ x, A' x → A x ∨ w.heap.size ≤ x) (hC : Ch A w w') : Pt F TB TD A w (.pointer (some ⟨pb, 0, none⟩)) dv P S ps (.returned (.int .i64 c)) w' :=
 ⟨by rw [hO], ⟨A', by rw [hO]; exact ⟨D', pb, tv, rfl, h⟩, hA⟩, hC⟩
structure Pz (w : World) (pb : Nat) (wx : World) : Prop where
 c0 : wx.cell? ⟨w.heap.size, 0, none⟩ = some (.pointer (some ⟨pb, 0, none⟩))
 c1 : wx.cell? ⟨w.heap.size + 1, 0, none⟩ = some (.int .i64 0)
 f1 : wx.frozen? ⟨w.heap.size + 1, 0, none⟩ = false
theorem Pz.ch {E : Nat → Prop} {wx wy : World} (h : Pz w pb wx) (hc : Ch E wx wy) (h0 : ¬ E w.heap.size) (h1 : ¬ E (w.heap.size + 1)) : Pz w pb wy :=
 ⟨by rw [World.cell?_of_block (w := wx) (a := ⟨w.heap.size, 0, none⟩) (hc.block _ (cell_lt h.c0) h0)]; exact h.c0, by rw [World.cell?_of_block (w := wx) (a := ⟨w.heap.size + 1, 0, none⟩) (hc.block _ (cell_lt h.c1) h1)]; exact h.c1,
  by rw [World.frozen?_of_block (w := wx) (a := ⟨w.heap.size + 1, 0, none⟩) (hc.block _ (cell_lt h.c1) h1)]; exact h.f1⟩
theorem Pz.below {wx wy : World} (h : Pz w pb wx) (hb : Below wx.heap.size wx wy) : Pz w pb wy := h.ch (Ch.of_below (D := fun _ => False) hb) (fun e => e) (fun e => e)
theorem pz_start {w0 : World} (hw : w0 = (w.alloc (Obj.cells #[.pointer (some ⟨pb, 0, none⟩)] 74)).alloc (Obj.cells #[.int .i64 0] 25)) : Pz w pb w0 ∧ Below w.heap.size w w0 ∧ w0.heap.size = w.heap.size + 2 := by
 subst hw;refine ⟨⟨?_, ?_, ?_⟩, below_trans (below_alloc _ _) (below_alloc _ _), by simp⟩;all_goals simp [go_sem]
theorem put_small (h : MP A D w pb tv dv P S) (hl : Tx A w lv ps) (hs : shutB P S = true ∨ faultI P.tab.length ps ≠ 0 ∨ ps = [] ∨ P.gen = 1099511627776) :
  Calls Tryz.prog 41 #[.pointer (some ⟨pb, 0, none⟩), lv] w fun e w' => Pt hdP 135 92 A w (.pointer (some ⟨pb, 0, none⟩)) dv P S ps e w' := by
 obtain ⟨w0, hw0⟩ : ∃ w0, w0 = (w.alloc (Obj.cells #[.pointer (some ⟨pb, 0, none⟩)] 74)).alloc (Obj.cells #[.int .i64 0] 25) := ⟨_, rfl⟩;have HW0 : Hid (w0 = (w.alloc (Obj.cells #[.pointer (some ⟨pb, 0, none⟩)] 74)).alloc (Obj.cells #[.int .i64 0] 25)) := hw0;obtain ⟨hz, hB0, hs0⟩ := pz_start hw0;have HZ : Hid (Pz w pb w0) := hz;have HB0 := hidH hB0;have HM0 : Hid (MP A D w0 pb tv dv P S) := h.below hB0;have HAL : Hid (∀ x, A x → x < w.heap.size) := h.al;have HL0 : Hid (Tx A w0 lv ps) := hl.below hB0;obtain ⟨lo, lc, rfl, hl1, hl2⟩ := hl.form;have hli : (ps.length : Int) ≤ 9223372036854775807 := by simp only [maxLen] at hl2; omega
 clear hw0 hs0 hl1 hl2
 cases hsh : shutB P S
 ·have HSH : Hid (shutB P S = false) := hsh
  have hs2 : faultI P.tab.length ps ≠ 0 ∨ ps = [] ∨ P.gen = 1099511627776 := by
   rcases hs with e | e
   ·rw [hsh] at e; cases e
   ·exact e
  clear hs hsh;by_cases hfa : faultI P.tab.length ps ≠ 0
  ·have HR : Hid (putO P S ps = (faultI P.tab.length ps, P, S)) := put_fault HSH.out hfa;obtain ⟨c, hc⟩ : ∃ c, c = faultI P.tab.length ps := ⟨_, rfl⟩;have HC : Hid (c = faultI P.tab.length ps) := hc;rw [← hc] at hfa HR;have hcb : (c != 0) = true := by simpa using hfa
   clear h hl hs2 hz hB0 hc;go_enter_defers Tryz.func41, Tryz.ntmps41;go_wp2_with fail;rw [← HW0.out];refine (prefuses_ok HM0.out HSH.out).mono ?_;rintro e w9 ⟨rfl, h9⟩;have h9 := h9.symm;subst h9;have k0 := HZ.out.c0;go_wp2_with fail;refine (fault_walk HM0.out HL0.out).mono ?_;rw [← HC.out];rintro e w1 ⟨rfl, hB1⟩;have HB1 := hidH hB1;have k1 := (HZ.out.below hB1).c1;have g1 := (HZ.out.below hB1).f1;clear hB1 k0;go_wp2_with fail
   exact ⟨.int .i64 c, by simp [results, Tryz.results41, go_sem, k1],
    pt_mk HR.out ((HM0.out.below HB1.out).other (fun e => by have := HAL.out _ e; omega) _ _) (fun x hx => .inl hx) (ch_new (Ch.of_below (below_trans HB0.out HB1.out)) (by omega) _ _)⟩
  ·have HFA : Hid (faultI P.tab.length ps = 0) := Classical.not_not.1 hfa;by_cases hpe : ps = []
   ·have HR : Hid (putO P S ps = (0, P, S)) := put_empty HSH.out hpe;have hpl : (ps.length : Int) = 0 := by rw [hpe]; rfl
    have hpb : ((ps.length : Int) == 0) = true := by rw [hpe]; rfl
    clear h hl hs2 hz hB0 hfa hpe hpl;go_enter_defers Tryz.func41, Tryz.ntmps41;go_wp2_with fail;rw [← HW0.out];refine (prefuses_ok HM0.out HSH.out).mono ?_;rintro e w9 ⟨rfl, h9⟩;have h9 := h9.symm;subst h9;have k0 := HZ.out.c0;go_wp2_with fail;refine (fault_walk HM0.out HL0.out).mono ?_;rw [HFA.out];rintro e w1 ⟨rfl, hB1⟩;have HB1 := hidH hB1;have k1 := (HZ.out.below hB1).c1;have g1 := (HZ.out.below hB1).f1;clear hB1 k0;go_wp2_with fail
    exact ⟨.int .i64 0, by simp [results, Tryz.results41, go_sem, k1],
     pt_mk HR.out ((HM0.out.below HB1.out).other (fun e => by have := HAL.out _ e; omega) _ _) (fun x hx => .inl hx) (ch_new (Ch.of_below (below_trans HB0.out HB1.out)) (by omega) _ _)⟩
   ·have hgen : P.gen = 1099511627776 := by
     rcases hs2 with e | e | e
     ·exact absurd e hfa
     ·exact absurd e hpe
     ·exact e
    have HR : Hid (putO P S ps = (92, P, S)) := put_room HSH.out HFA.out hpe hgen;have hpl : 0 < ps.length := List.length_pos_iff.2 hpe;have hpb : ((ps.length : Int) == 0) = false := by simp; omega
    have HG : Hid (P.gen = 1099511627776) := hgen;clear h hl hs2 hz hB0 hfa hpe hgen hpl;go_enter_defers Tryz.func41, Tryz.ntmps41;go_wp2_with fail;rw [← HW0.out];refine (prefuses_ok HM0.out HSH.out).mono ?_;rintro e w9 ⟨rfl, h9⟩;have h9 := h9.symm;subst h9;have k0 := HZ.out.c0;go_wp2_with fail;refine (fault_walk HM0.out HL0.out).mono ?_;rw [HFA.out];rintro e w1 ⟨rfl, hB1⟩;have HB1 := hidH hB1;have k2 := (HZ.out.below hB1).c0;have k1 := (HZ.out.below hB1).c1;have g1 := (HZ.out.below hB1).f1;have k3 : w1.cell? ⟨pb, 0, none⟩ = some (.int .u64 1099511627776) := by rw [mp0 (HM0.out.below hB1), HG.out]; rfl
    clear hB1 k0;go_wp2_with fail
    exact ⟨.int .i64 92, by simp [results, Tryz.results41, go_sem, k1],
     pt_mk HR.out ((HM0.out.below HB1.out).other (fun e => by have := HAL.out _ e; omega) _ _) (fun x hx => .inl hx) (ch_new (Ch.of_below (below_trans HB0.out HB1.out)) (by omega) _ _)⟩
 ·have HSH : Hid (shutB P S = true) := hsh;have HR : Hid (putO P S ps = (80, endB P, S)) := put_shut hsh;clear h hl hs hsh hz hB0;go_enter_defers Tryz.func41, Tryz.ntmps41;go_wp2_with fail;rw [← HW0.out];refine (prefuses_shut HM0.out HSH.out).mono ?_;rintro e w1 ⟨rfl, hM1, hC1⟩;have hz1 : Pz w pb w1 := HZ.out.ch hC1 (fun e => by have := HAL.out _ e; omega) (fun e => by have := HAL.out _ e; omega);have k1 := hz1.c1;have g1 := hz1.f1;go_wp2_with fail
  exact ⟨.int .i64 80, by simp [results, Tryz.results41, go_sem, k1],
   pt_mk HR.out (hM1.other (fun e => by have := HAL.out _ e; omega) _ _) (fun x hx => .inl hx) (ch_new ((Ch.of_below (D := A) HB0.out).self hC1) (by omega) _ _)⟩
end
end
section
theorem leaves_tmps {P : Program} {fn : Func} {t t' : Array Value} {R : Ending → World → Prop} (h : results fn t = results fn t') : ∀ (ds : List Deferred) (u : FrameMode) (w : World), Leaves P fn t R ds u w = Leaves P fn t' R ds u w := by
 intro ds
 induction ds with
 | nil => intro u w; cases u <;> simp only [Leaves, h]
 | cons d ds ih => intro u w; simp only [Leaves, ih]
theorem results_put (tmps : Array Value) (d : Nat) (v : Value) (hd : d ≠ 4) : results Tryz.f41 (tmps.setIfInBounds d v) = results Tryz.f41 tmps := by
 have e : (tmps.setIfInBounds d v)[4]? = tmps[4]? := by rw [Array.getElem?_setIfInBounds, if_neg hd]
 unfold results;simp only [Tryz.results41];simp [e]
theorem q_put {R : Ending → World → Prop} {d : Nat} (hd : d ≠ 4) (v : Value) (c : List PanicEntry) (a : Act) (w : World) (h : bodyPostD Tryz.prog Tryz.f41 R (.panic c) (a.put (some d) v) w) : bodyPostD Tryz.prog Tryz.f41 R (.panic c) a w := by
 have e := leaves_tmps (P := Tryz.prog) (R := R) (results_put a.tmps d v hd) a.defers (.panicking c) w;exact Eq.mp e h
structure Kz (w1 : World) (p pb : Nat) (wx : World) : Prop where
 k0 : wx.heap[p]? = w1.heap[p]?
 k1 : wx.heap[pb]? = w1.heap[pb]?
 sz : w1.heap.size ≤ wx.heap.size
theorem Kz.go {w1 wx wy : World} {p pb : Nat} (h : Kz w1 p pb wx) (hp : p < w1.heap.size) (hq : pb < w1.heap.size) (hb : Below wx.heap.size wx wy) : Kz w1 p pb wy :=
 ⟨by rw [hb.block p (Nat.lt_of_lt_of_le hp h.sz)]; exact h.k0, by rw [hb.block pb (Nat.lt_of_lt_of_le hq h.sz)]; exact h.k1, Nat.le_trans h.sz hb.size⟩
theorem Kz.set {w1 wx : World} {p pb g : Nat} (h : Kz w1 p pb wx) (hp : p ≠ g) (hq : pb ≠ g) (a b : Value) : Kz w1 p pb ((wx.setCell ⟨g, 0, none⟩ a).setCell ⟨g, 1, none⟩ b) :=
 ⟨by rw [set_other 1 _ hp, set_other 0 _ hp]; exact h.k0, by rw [set_other 1 _ hq, set_other 0 _ hq]; exact h.k1, by simpa using h.sz⟩
theorem kz_lay {A A' D D' : Nat → Prop} {w1 wx w3 : World} {pb p : Nat} {tv dv : Value} {P : Bo} {S S' : Dk} (hx : Kz w1 p pb wx) (h1 : MP A D w1 pb tv dv P S) (h3 : MP A' D' w3 pb tv dv P S') (hc : Ch A wx w3) (hp : p < w1.heap.size) (hpA : ¬ A p) : Kz w1 p pb w3 :=
 ⟨by rw [hc.block p (Nat.lt_of_lt_of_le hp hx.sz) hpA]; exact hx.k0, by rw [h3.head, h1.head], Nat.le_trans hx.sz hc.size⟩
section

variable {A D : Nat → Prop} {w w' : World} {v dv tv lv : Value} {P P' : Bo} {S S' : Dk} {pb : Nat} {ps : List (Int × List Nat)} {t : List Nat}

theorem lay_bad {w1 : World} (h : MP A D w1 pb tv dv P S) (hl : Tx A w1 lv ps) (hok : Lok P.tab.length ps) (hg : P.gen < 1099511627776) (hwr : S.wr < 4611686018427387904) (hL : layS P.tab ps 1 P.tab S = (none, S')) :
  Calls Tryz.prog 91 #[.pointer (some ⟨pb, 0, none⟩), lv] w1 fun e w' => (∃ u pv, e = .panicked [{ v := .iface u pv, recovered := false }]) ∧ ∃ A' D', MP A' D' w' pb tv dv P S' ∧ (∀ x, A' x → A x ∨ w1.heap.size ≤ x) ∧ Ch A w1 w' := by
 refine (lay_walk h hl hok hg hwr).mono ?_;rintro e w' ⟨A', D', h1, h2, h3, h4, h5, h6⟩;rw [hL] at h1 h6;exact ⟨h6 rfl, A', D', h1, h2, h3⟩
theorem lay_good {w1 : World} (h : MP A D w1 pb tv dv P S) (hl : Tx A w1 lv ps) (hok : Lok P.tab.length ps) (hg : P.gen < 1099511627776) (hwr : S.wr < 4611686018427387904) (hL : layS P.tab ps 1 P.tab S = (some t, S')) :
  Calls Tryz.prog 91 #[.pointer (some ⟨pb, 0, none⟩), lv] w1 fun e w' => ∃ A' D' g cap, e = .returned (.agg #[.int .u64 (P.gen + 1 : Nat), .slice (some ⟨g, 0, none⟩) t.length cap]) ∧ MP A' D' w' pb tv dv P S' ∧ (∀ x, A' x → A x ∨ w1.heap.size ≤ x) ∧ Ch A w1 w' ∧ Zt w' g cap t ∧ ¬ A' g ∧ w1.heap.size ≤ g ∧ t.length = P.tab.length ∧ S'.wr ≤ S.wr + ps.length := by
 refine (lay_walk h hl hok hg hwr).mono ?_;rintro e w' ⟨A', D', h1, h2, h3, h4, h5, h6⟩;rw [hL] at h1 h4 h5;obtain ⟨g, cap, e1, e2, e3, e4, e5⟩ := h5 t rfl;exact ⟨A', D', g, cap, e1, h1, h2, h3, e2, e3, e4, e5, h4⟩
theorem pt_down {w1 w3 : World} {A' D' : Nat → Prop} (hO : putO P S ps = (80, endB P, S')) (h : MP A' D' w3 pb tv dv P S') (hA : ∀ x, A' x → A x ∨ w.heap.size ≤ x) (hA1 : ¬ A' (w.heap.size + 1)) (hB : Below w.heap.size w w1) (hC : Ch A w1 w3) :
  Pt hdP 135 92 A w (.pointer (some ⟨pb, 0, none⟩)) dv P S ps (.returned (.int .i64 80)) ((w3.setCell ⟨pb, 4, none⟩ (.bool true)).setCell ⟨w.heap.size + 1, 0, none⟩ (.int .i64 80)) := by
 have hAp : A pb ∨ w.heap.size ≤ pb := hA pb h.ab;refine pt_mk hO ((mp_end h).other hA1 _ _) hA (ch_new ?_ (by omega) _ _);refine ((Ch.of_below (D := A) hB).self hC).trans (Ch.of_grown (D := fun x => x = pb) (grown_set w3 pb 4 _) (fun x hx => by cases hx; rfl)) fun x hx => ?_;subst hx; exact hAp
theorem put_laybad (h : MP A D w pb tv dv P S) (hl : Tx A w lv ps) (hsh : shutB P S = false) (hfa : faultI P.tab.length ps = 0) (hpe : ps ≠ []) (hgen : P.gen ≠ 1099511627776) (hwr : S.wr < 4611686018427387904) (hL : layS P.tab ps 1 P.tab S = (none, S')) :
  Calls Tryz.prog 41 #[.pointer (some ⟨pb, 0, none⟩), lv] w fun e w' => Pt hdP 135 92 A w (.pointer (some ⟨pb, 0, none⟩)) dv P S ps e w' := by
 have HLY : Hid (layS P.tab ps 1 P.tab S = (none, S')) := hL;have HR : Hid (putO P S ps = (80, endB P, S')) := put_lay hsh hfa hpe hgen hL;clear hL;obtain ⟨w0, hw0⟩ : ∃ w0, w0 = (w.alloc (Obj.cells #[.pointer (some ⟨pb, 0, none⟩)] 74)).alloc (Obj.cells #[.int .i64 0] 25) := ⟨_, rfl⟩;have HW0 : Hid (w0 = (w.alloc (Obj.cells #[.pointer (some ⟨pb, 0, none⟩)] 74)).alloc (Obj.cells #[.int .i64 0] 25)) := hw0;obtain ⟨hz, hB0, hs0⟩ := pz_start hw0;have HZ : Hid (Pz w pb w0) := hz;have HB0 := hidH hB0;have HM0 : Hid (MP A D w0 pb tv dv P S) := h.below hB0;have HAL : Hid (∀ x, A x → x < w.heap.size) := h.al;have HL0 : Hid (Tx A w0 lv ps) := hl.below hB0;obtain ⟨lo, lc, rfl, hl1, hl2⟩ := hl.form;have hli : (ps.length : Int) ≤ 9223372036854775807 := by simp only [maxLen] at hl2; omega
 have HSH : Hid (shutB P S = false) := hsh;have HFA : Hid (faultI P.tab.length ps = 0) := hfa;have HLO : Hid (Lok P.tab.length ps) := (fault_ok ps [] hfa).1;have hpl : 0 < ps.length := List.length_pos_iff.2 hpe;have hpb : ((ps.length : Int) == 0) = false := by simp; omega
 have HPE : Hid (ps ≠ []) := hpe;have HG := hidH hgen;have HGL : Hid (P.gen < 1099511627776) := by show _ < _; have := h.ok.g40; omega
 have hgb : ((P.gen : Int) == 1099511627776) = false := by simp; omega
 have HWR := hidH hwr;have HHO : Hid (P.home ≤ 1) := h.ok.h2;have hho : (P.home : Int) ≤ 1 := by have := h.ok.h2; omega
 have r1 : IntKind.i64.wrap (1 - (P.home : Int)) = ((1 - P.home : Nat) : Int) := by have := h.ok.h2; rw [IntKind.wrap_i64]; omega
 have hmf : ∀ (fn : Fn) (first cap : Array Value) (w : World), (Instr.makeFunc fn first cap).run Tryz.prog w = .ok (.func fn first cap) w := fun _ _ _ _ => rfl;clear hw0 hl1 hl2 h hl hz hB0 hfa hpe hgen hwr hsh hpl;go_enter_defers Tryz.func41, Tryz.ntmps41;go_wp2_with fail;rw [← HW0.out];refine (prefuses_ok HM0.out HSH.out).mono ?_;rintro e w9 ⟨rfl, h9⟩;have h9 := h9.symm;subst h9;have k0 := HZ.out.c0;go_wp2_with fail;refine (fault_walk HM0.out HL0.out).mono ?_;rw [HFA.out];rintro e w1 ⟨rfl, hB1⟩;have HB1 := hidH hB1;have HZ1 : Hid (Pz w pb w1) := HZ.out.below hB1;have HM1 := hidH (HM0.out.below hB1);have HL1 := hidH (HL0.out.below hB1);have HBW := hidH (below_trans HB0.out hB1);have HS1 : Hid (w.heap.size + 1 < w1.heap.size) := cell_lt HZ1.out.c1;have k2 := HZ1.out.c0;have k3 := mp0 HM1.out;clear hB1 k0 hs0;go_wp2_with fail;have j0 : ∀ wx, Kz w1 w.heap.size pb wx → wx.cell? ⟨w.heap.size, 0, none⟩ = some (.pointer (some ⟨pb, 0, none⟩)) := fun wx hx => by rw [World.cell?_of_block (w := w1) (a := ⟨w.heap.size, 0, none⟩) hx.k0]; exact HZ1.out.c0
 have j1 : ∀ wx, Kz w1 w.heap.size pb wx → wx.cell? ⟨pb, 3, none⟩ = some (.int .i64 P.home) := fun wx hx => by rw [World.cell?_of_block (w := w1) (a := ⟨pb, 3, none⟩) hx.k1]; exact mp3 HM1.out
 have hSd : Kz w1 w.heap.size pb w1.drew := ⟨rfl, rfl, Nat.le_refl _⟩;have HPL : Hid (pb < w.heap.size) := HAL.out _ HM1.out.ab;clear k2 k3;refine wp_region_held_drew (S := fun wx => Kz w1 w.heap.size pb wx) (by kernel_rfl) ?_ fun hHeld => ?_
 ·exact hSd
 refine wpAnyH_take (i := 0) (oi := ⟨some 32, _, _, _, _, _⟩) (v := ?_) rfl (by kernel_rfl) (by kernel_rfl) (by kernel_rfl) (fun c a w h => q_put (by decide) _ c a w h) (Or.inl ⟨by rfl, ?_⟩) (by assumption) ?_;rotate_left
 ·intro w hSw; (try dsimp only at hSw); go_simp; all_goals (with_reducible rfl)
 try simp only [Act.put, zz]
 refine wpAnyH_take (i := 1) (oi := ⟨some 33, _, _, _, _, _⟩) (v := ?_) rfl (by kernel_rfl) (by kernel_rfl) (by kernel_rfl) (fun c a w h => q_put (by decide) _ c a w h) (Or.inl ⟨by rfl, ?_⟩) (by assumption) ?_;rotate_left
 ·intro w hSw; (try dsimp only at hSw); go_simp; all_goals (with_reducible rfl)
 try simp only [Act.put, zz]
 refine wpAnyH_take (i := 3) (oi := ⟨some 35, _, _, _, _, _⟩) (v := ?_) rfl (by kernel_rfl) (by kernel_rfl) (by kernel_rfl) (fun c a w h => q_put (by decide) _ c a w h) (Or.inl ⟨by rfl, ?_⟩) (by assumption) ?_;rotate_left
 ·intro w hSw; (try dsimp only at hSw); go_simp; all_goals (with_reducible rfl)
 try simp only [Act.put, zz]
 refine wpAnyH_take (i := 4) (oi := ⟨some 36, _, _, _, _, _⟩) (v := ?_) rfl (by kernel_rfl) (by kernel_rfl) (by kernel_rfl) (fun c a w h => q_put (by decide) _ c a w h) (Or.inl ⟨by rfl, ?_⟩) (by assumption) ?_;rotate_left
 ·intro w hSw; (try dsimp only at hSw); go_simp; all_goals (with_reducible rfl)
 try simp only [Act.put, zz]
 refine wpAnyH_take (i := 5) (oi := ⟨some 37, _, _, _, _, _⟩) (v := ?_) rfl (by kernel_rfl) (by kernel_rfl) (by kernel_rfl) (fun c a w h => q_put (by decide) _ c a w h) (Or.inl ⟨by rfl, ?_⟩) (by assumption) ?_;rotate_left
 ·intro w hSw; (try dsimp only at hSw); go_simp; all_goals (with_reducible rfl)
 try simp only [Act.put, zz]
 refine wpAnyH_take (i := 6) (oi := ⟨some 38, _, _, _, _, _⟩) (v := ?_) rfl (by kernel_rfl) (by kernel_rfl) (by kernel_rfl) (fun c a w h => q_put (by decide) _ c a w h) (Or.inl ⟨by rfl, ?_⟩) (by assumption) ?_;rotate_left
 ·intro w hSw; (try dsimp only at hSw); go_simp; all_goals (with_reducible rfl)
 try simp only [Act.put, zz]
 refine wpAnyH_take (i := 7) (oi := ⟨some 39, _, _, _, _, _⟩) (v := ?_) rfl (by kernel_rfl) (by kernel_rfl) (by kernel_rfl) (fun c a w h => q_put (by decide) _ c a w h) (Or.inl ⟨by rfl, ?_⟩) (by assumption) ?_;rotate_left
 ·intro w hSw; (try dsimp only at hSw); go_simp; all_goals (with_reducible rfl)
 try simp only [Act.put, zz]
 refine wpAnyH_ready (rs := [2, 8]) (by kernel_rfl) (by simp) ?_;have hb1 : Below w1.heap.size w1 w1.drew := below_drewN _ _;refine AllReadyH.cons (o := ⟨some 34, _, _, _, _, _⟩) rfl (fun K hK => ?_) ?_
 ·go_simp;refine (lay_bad (HM1.out.below hb1) (HL1.out.below hb1) HLO.out HGL.out HWR.out HLY.out).mono ?_;rintro e w3 ⟨⟨pu, pv, rfl⟩, A', D', hM3, hA3, hC3⟩;have hC3' : Ch A w1 w3 := (Ch.of_below hb1).self hC3;have hz3 : Pz w pb w3 := HZ1.out.ch hC3' (fun e => by have := HAL.out _ e; omega) (fun e => by have := HAL.out _ e; omega)
  have hA1 : ¬ A' (w.heap.size + 1) := fun e => by
   rcases hA3 _ e with q | q
   ·have := HAL.out _ q; omega
   ·have h1 := HS1.out; have h2 := Below.size hb1; omega
  refine leaves_cons (f := 90) (args := #[.pointer (some ⟨w.heap.size, 0, none⟩), .pointer (some ⟨w.heap.size + 1, 0, none⟩)]) (by simp) (by simp [go_sem]) ?_;refine (pcatch_panicking pu pv [] w3 hz3.c0 (mp4 hM3) (hM3.soft 4) hz3.c1 hz3.f1).mono ?_;rintro e u' w'' ⟨rfl, rfl, rfl⟩
  exact ⟨.int .i64 80, by simp [results, Tryz.results41, go_sem, hz3.c1], pt_down HR.out hM3 (fun x hx => by
   rcases hA3 x hx with q | q
   ·exact .inl q
   ·have h1 := HS1.out; have h2 := Below.size hb1; exact .inr (by omega)) hA1 HBW.out hC3'⟩
 ·refine AllReadyH.cons (o := ⟨some 7, _, _, _, _, _⟩) rfl (fun K hK => ?_) AllReadyH.nil;go_simp;refine hK.out _ _ ?_ fun hHeld => ?_
  ·exact Kz.go hSd (by have := HS1.out; omega) (by have h1 := HS1.out; have h2 := HPL.out; omega) (below_alloc _ _)
  clear hK K;try simp only [Act.put, zz]
  have hb2 := below_trans hb1 (below_alloc w1.drew (Obj.cells #[.int .u64 0, .slice none 0 0] 131));refine rdH 2 34 rfl fun K hK => ?_;go_simp;refine (lay_bad (HM1.out.below hb2) (HL1.out.below hb2) HLO.out HGL.out HWR.out HLY.out).mono ?_;rintro e w3 ⟨⟨pu, pv, rfl⟩, A', D', hM3, hA3, hC3⟩;have hC3' : Ch A w1 w3 := (Ch.of_below hb2).self hC3;have hz3 : Pz w pb w3 := HZ1.out.ch hC3' (fun e => by have := HAL.out _ e; omega) (fun e => by have := HAL.out _ e; omega)
  have hA1 : ¬ A' (w.heap.size + 1) := fun e => by
   rcases hA3 _ e with q | q
   ·have := HAL.out _ q; omega
   ·have h1 := HS1.out; have h2 := Below.size hb2; omega
  refine leaves_cons (f := 90) (args := #[.pointer (some ⟨w.heap.size, 0, none⟩), .pointer (some ⟨w.heap.size + 1, 0, none⟩)]) (by simp) (by simp [go_sem]) ?_;refine (pcatch_panicking pu pv [] w3 hz3.c0 (mp4 hM3) (hM3.soft 4) hz3.c1 hz3.f1).mono ?_;rintro e u' w'' ⟨rfl, rfl, rfl⟩
  exact ⟨.int .i64 80, by simp [results, Tryz.results41, go_sem, hz3.c1], pt_down HR.out hM3 (fun x hx => by
   rcases hA3 x hx with q | q
   ·exact .inl q
   ·have h1 := HS1.out; have h2 := Below.size hb2; exact .inr (by omega)) hA1 HBW.out hC3'⟩
end
end
end Go.Proofs.YtcmklbibehnloaaGreat
