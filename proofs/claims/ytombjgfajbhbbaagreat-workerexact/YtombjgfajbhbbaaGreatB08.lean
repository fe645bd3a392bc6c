/- Slices of pairs as lists; tables: contracts of fold.Sound and of the reference's. -/
import Derived.Test.YtombjgfajbhbbaaGreatB07
import Derived.Laws.BitsAllLaws
import Derived.Deep.DeepCutAuto
set_option maxRecDepth 100000
set_option maxHeartbeats 16000000
namespace Go.Proofs.YtombjgfajbhbbaaGreat
open Go.RowKit
theorem grown_of_below {w w' : World} (h : Below w.heap.size w w') : w.grownBy w' none := ⟨h.os, h.tape, h.output, h.size, fun i hi _ => h.block i hi⟩
theorem own3_below {w w' : World} {B e n : Nat} {v : Value} {xs : List Value} (h : w.ownsRow B e 3 v n xs) (hb : Below w.heap.size w w') : w'.ownsRow B e 3 v n xs := by
 refine h.kept (grown_of_below hb) ?_
 cases hv : v.ownBlock
 ·exact Or.inl rfl
 ·exact Or.inr (by simp)
theorem cell_own {w w' : World} {row : Option Nat} {p : Addr} {u : Value} (h : w.cell? p = some u) (hg : w.grownBy w' row) (hne : ∀ m, row = some m → p.block ≠ m) : w'.cell? p = some u := by
 rw [World.cell?_of_block (w := w) (hg.block p.block (cell_lt h) (fun e => hne _ e.symm rfl))]; exact h
theorem pair_cells {w : World} {g k b : Nat} {c : Bool} (h0 : w.cell? ⟨g, 0, none⟩ = some (.int .u64 k)) (h1 : w.cell? ⟨g, 1, none⟩ = some (.bool c)) (h2 : w.cell? ⟨g, 2, none⟩ = some (.int .u64 b)) :
  ∀ (j : Nat) (u : Value), ([.int .u64 k, .bool c, .int .u64 b] : List Value)[j]? = some u → w.cell? ((⟨g, 0, none⟩ : Addr).add j) = some u := by
 intro j u hj;have : j = 0 ∨ j = 1 ∨ j = 2 ∨ 3 ≤ j := by omega
 rcases this with rfl | rfl | rfl | h
 ·simp at hj; subst hj; simpa [WideShapes.add_plain] using h0
 ·simp at hj; subst hj; simpa [WideShapes.add_plain] using h1
 ·simp at hj; subst hj; simpa [WideShapes.add_plain] using h2
 ·rw [List.getElem?_eq_none (by simpa using h)] at hj; cases hj
structure Mk where
 b : Int
 a : Int
 k : List Nat
def keysOk (l : List Nat) : Prop := ∀ x ∈ l, x < 18446744073709551616
def folN (o : Option Nat) (k : Nat) : Bool := match o with
 | none => true
 | some j => decide (j < k)
def risE : Option Nat → List Nat → Bool
 | _, [] => true
 | o, c :: r => folN o c && risE (some c) r
def risB (l : List Nat) : Bool := risE none l
def tabB : List Pr → Bool
 | [] => true
 | p :: t => p.v.h && (t.all fun q => decide (p.k < q.k)) && tabB t
structure Ms where
 K : Int
 F : Int
 T : Int
 B : Int
 A : Int
 C : Int
 E : List Int
 Q : List Nat
 P : List Pr
def zeroMs : Ms := ⟨0, 0, 0, 0, 0, 0, [], [], []⟩
def in64 (x : Int) : Prop := -9223372036854775808 ≤ x ∧ x < 9223372036854775808
structure Ms.ok (m : Ms) : Prop where
 K : in64 m.K
 F : in64 m.F
 T : in64 m.T
 B : in64 m.B
 A : in64 m.A
 C : in64 m.C
 E : ∀ x ∈ m.E, in64 x
 Q : keysOk m.Q
 P : okT m.P
def fld (k : Int) : Nat := if k = 1 ∨ k = 2 ∨ k = 3 ∨ k = 8 then 1 else if k = 4 then 2 else if k = 6 then 3 else if k = 5 ∨ k = 7 then 4 else 0
def nodB (x : Int) : Bool := decide (0 ≤ x) && decide (x < 9)
def ctB (x : Int) : Bool := decide (1 ≤ x) && decide (x ≤ 1099511627776)
def endB (l : List Int) : Bool := decide (1 ≤ l.length) && decide (l.length ≤ 4) && l.all fun x => decide (0 ≤ x) && decide (x ≤ 256)
def bareB (f : Nat) (m : Ms) : Bool := (decide (f = 1) || decide (m.E.length = 0)) && ((decide (f = 2) || decide (m.Q.length = 0)) && ((decide (f = 3) || decide (m.P.length = 0)) && (decide (f = 4) || decide (m.C = 0))))
def askB (f : Nat) (m : Ms) : Bool :=
 if f = 1 then endB m.E else if f = 2 then decide (m.Q.length ≤ 64) && risB m.Q else if f = 3 then decide (m.P.length ≤ 64) && tabB m.P else if f = 4 then decide (0 ≤ m.C) && decide (m.C ≤ 1000) else false
def sndM (m : Ms) : Bool := nodB m.F && (nodB m.T && (ctB m.B && (ctB m.A && (bareB (fld m.K) m && askB (fld m.K) m))))
structure Hd where
 K : Nat
 F : Nat
 T : Nat
 B : Nat
 A : Nat
/-! What a message that is sound has. -/
theorem fld_cases (k : Int) : fld k = 0 ∨ fld k = 1 ∨ fld k = 2 ∨ fld k = 3 ∨ fld k = 4 := by
 unfold fld
 repeat' split
 all_goals simp
theorem ask_zero {m : Ms} : askB 0 m = false := by simp [askB]
structure SndP (m : Ms) : Prop where
 k : 1 ≤ m.K ∧ m.K ≤ 8
 f : 0 ≤ m.F ∧ m.F < 9
 t : 0 ≤ m.T ∧ m.T < 9
 b : 1 ≤ m.B ∧ m.B ≤ 1099511627776
 a : 1 ≤ m.A ∧ m.A ≤ 1099511627776
 bare : bareB (fld m.K) m = true
 ask : askB (fld m.K) m = true
 g : fld m.K ≠ 0
theorem bare_parts {f : Nat} {m : Ms} (h : bareB f m = true) : (f = 1 ∨ m.E = []) ∧ (f = 2 ∨ m.Q = []) ∧ (f = 3 ∨ m.P = []) ∧ (f = 4 ∨ m.C = 0) := by
 simpa [bareB] using h
theorem sv_one (k : IntKind) (w : World) (e : TypeId) (c : Int) : Sv k (w.alloc (.cells #[.int k c] e)) (.slice (some ⟨w.heap.size, 0, none⟩) 1 1) [c] := sv_lit k w e [c] (by simp [maxLen])
def lastN (l : List Nat) : Option Nat := l.getLast?
theorem lastN_snoc (q : List Nat) (c : Nat) : lastN (q ++ [c]) = some c := by simp [lastN]
theorem lastN_take {l : List Nat} {i : Nat} (hi : i < l.length) : lastN (l.take (i + 1)) = some l[i] := by
 rw [List.take_succ_eq_append_getElem hi, lastN_snoc]
theorem ris_start {l : List Nat} (hp : 0 < l.length) : risE (lastN (l.take 1)) (l.drop 1) = risB l := by
 cases l with
 | nil => simp at hp
 | cons c r => simp [risB, risE, folN, lastN]
theorem ris_step {l : List Nat} {i : Nat} (hi : i < l.length) (h : risE (lastN (l.take i)) (l.drop i) = risB l) (hf : folN (lastN (l.take i)) l[i] = true) : risE (lastN (l.take (i + 1))) (l.drop (i + 1)) = risB l := by
 rw [List.drop_eq_getElem_cons hi, risE, hf, Bool.true_and] at h;rw [lastN_take hi];exact h
theorem ris_stop {l : List Nat} {i : Nat} (hi : i < l.length) (h : risE (lastN (l.take i)) (l.drop i) = risB l) (hf : folN (lastN (l.take i)) l[i] = false) : risB l = false := by
 rw [List.drop_eq_getElem_cons hi, risE, hf, Bool.false_and] at h;exact h.symm
theorem ris_end {l : List Nat} {i : Nat} (hi : l.length ≤ i) (h : risE (lastN (l.take i)) (l.drop i) = risB l) : risB l = true := by
 rw [List.drop_eq_nil_of_le hi, risE] at h;exact h.symm
abbrev Kv (w : World) (v : Value) (l : List Nat) : Prop := Sv .u64 w v (ib l)
theorem kv_cases {w : World} {v : Value} {l : List Nat} (h : Kv w v l) :
  (l = [] ∧ ∃ ao cap, v = .slice ao 0 cap) ∨ ∃ b off cap, v = .slice (some ⟨b, off, none⟩) l.length cap ∧ 0 < l.length ∧ l.length ≤ cap ∧ cap ≤ maxLen ∧
   ∀ i, (hi : i < l.length) → w.cell? ⟨b, off + i, none⟩ = some (.int .u64 (l[i] : Nat)) := by
 obtain ⟨ao, cap, rfl, h1, h2, h3, h4⟩ := h;rw [ib_len] at h1;rw [ib_len];by_cases h0 : l = []
 ·subst h0; exact .inl ⟨rfl, ao, cap, rfl⟩
 ·have hp := List.length_pos_iff.2 h0;obtain ⟨b, off, rfl, _⟩ := h4 0 (by rw [ib_len]; exact hp);refine .inr ⟨b, off, cap, rfl, hp, h1, h2, fun i hi => ?_⟩;obtain ⟨b', off', e1, e2⟩ := h4 i (by rw [ib_len]; exact hi)
  cases e1
  rw [e2];simp [ib, List.getD, hi]
structure MB (w : World) (P : Nat) (b a : Int) (v : Value) : Prop where
 c0 : w.cell? ⟨P, 0, none⟩ = some (.int .i64 b)
 c1 : w.cell? ⟨P, 1, none⟩ = some (.int .i64 a)
 c2 : w.cell? ⟨P, 2, none⟩ = some v
 z : ∀ j, w.frozen? ⟨P, j, none⟩ = false
theorem ris_some (l : List Nat) (b off cap : Nat) (w : World) (hl : l.length ≤ cap) (hcap : cap ≤ maxLen) (hp : 0 < l.length) (hc : ∀ i, (hi : i < l.length) → w.cell? ⟨b, off + i, none⟩ = some (.int .u64 (l[i] : Nat))) :
  Calls Tryz.prog 65 #[.slice (some ⟨b, off, none⟩) l.length cap] w fun e w' => e = .returned (.bool (risB l)) ∧ Below w.heap.size w w' := by
 unfold maxLen at hcap;have hli : (l.length : Int) ≤ 9223372036854775807 := by omega
 have HC : Hid (∀ i, (hi : i < l.length) → w.cell? ⟨b, off + i, none⟩ = some (.int .u64 (l[i] : Nat))) := hc;have HP : Hid (0 < l.length) := hp;clear hc hcap hl hp;go_in;go_wp2_with fail;go_loopw [3] (fun iv wr => ∃ i : Nat, iv = .int .i64 i ∧ 1 ≤ i ∧ i ≤ l.length ∧ risE (lastN (l.take i)) (l.drop i) = risB l ∧ Below w.heap.size w wr) (fun iv _ => l.length - (intOf iv).toNat)
 case atStart => exact ⟨1, rfl, by omega, HP.out, ris_start HP.out, Below.refl _ _⟩
 case round =>
  obtain ⟨i, rfl, hi1, hil, hord, hbel⟩ := hrel;have HO : Hid (risE (lastN (l.take i)) (l.drop i) = risB l) := hord;have HB := hidH hbel;clear hord hbel;by_cases hlt : i < l.length
  ·obtain ⟨j, rfl⟩ : ∃ j, i = j + 1 := ⟨i - 1, by omega⟩;have hA := HC.out (j + 1) hlt;have hD := HC.out j (by omega);have hA2 : wr.cell? ⟨b, off + (j + 1), none⟩ = some (.int .u64 (l[j + 1] : Nat)) := by rw [HB.out.cell (p := ⟨b, off + (j + 1), none⟩) (cell_lt hA)]; exact hA
   have hD2 : wr.cell? ⟨b, off + j, none⟩ = some (.int .u64 (l[j] : Nat)) := by rw [HB.out.cell (p := ⟨b, off + j, none⟩) (cell_lt hD)]; exact hD
   have HLK : Hid (lastN (l.take (j + 1)) = some l[j]) := lastN_take (by omega);obtain ⟨c, hcd⟩ : ∃ c, l[j + 1] = c := ⟨_, rfl⟩;obtain ⟨d, hdd⟩ : ∃ d, l[j] = d := ⟨_, rfl⟩;rw [hcd] at hA2;rw [hdd] at hD2 HLK;have HCD : Hid (l[j + 1] = c) := hcd;clear hcd hdd hA hD;have hlti : ((j + 1 : Nat) : Int) < (l.length : Int) := by omega
   have hltj : (j : Int) < (l.length : Int) := by omega
   have hjj : ((j + 1 : Nat) : Int) - 1 = (j : Int) := by omega
   by_cases hk : c ≤ d
   ·have hki : (c : Int) ≤ (d : Int) := by omega
    have HR : Hid (risB l = false) := ris_stop hlt HO.out (by rw [HLK.out, HCD.out]; simp [folN]; omega);go_wp2_with fail;go_quiet (fail);go_wp2_with fail;go_ret;exact ⟨by rw [HR.out]; rfl, below_trans HB.out (below_drewN _ _)⟩
   ·have hki : ¬ (c : Int) ≤ (d : Int) := by omega
    have HR : Hid (risE (lastN (l.take (j + 1 + 1))) (l.drop (j + 1 + 1)) = risB l) := ris_step hlt HO.out (by rw [HLK.out, HCD.out]; simp [folN]; omega);go_wp2_with fail;go_quiet (fail);have HB2 : Hid (Below w.heap.size w (wr.drewN nq)) := below_trans HB.out (below_drewN _ _);go_wp2_with fail;go_roundw
    case rel => exact ⟨j + 1 + 1, by go_num, by omega, by omega, HR.out, HB2.out⟩
    case measure => simp [intOf]; omega
  ·have hlti : ¬ (i : Int) < (l.length : Int) := by omega
   have HR : Hid (risB l = true) := ris_end (by omega) HO.out;go_wp2_with fail;go_ret;exact ⟨by rw [HR.out]; rfl, HB.out⟩
theorem ris_none (ao : Option Addr) (cap : Nat) (w : World) :
  Calls Tryz.prog 65 #[.slice ao 0 cap] w fun e w' => e = .returned (.bool true) ∧ Below w.heap.size w w' := by
 go_in;go_wp2;refine wp_loop_rounds 1 ?_;rw [rounds_succ];go_wp2;go_ret;exact ⟨rfl, Below.refl _ _⟩
theorem ris_walk {w : World} {v : Value} {l : List Nat} (h : Kv w v l) :
  Calls Tryz.prog 65 #[v] w fun e w' => e = .returned (.bool (risB l)) ∧ Below w.heap.size w w' := by
 rcases kv_cases h with ⟨rfl, ao, cap, rfl⟩ | ⟨b, off, cap, rfl, hp, h1, h2, h3⟩
 ·exact ris_none ao cap w
 ·exact ris_some l b off cap w h1 h2 hp h3
theorem rris_some (l : List Nat) (b off cap : Nat) (w : World) (hl : l.length ≤ cap) (hcap : cap ≤ maxLen) (hp : 0 < l.length) (hc : ∀ i, (hi : i < l.length) → w.cell? ⟨b, off + i, none⟩ = some (.int .u64 (l[i] : Nat))) :
  Calls Tryz.prog 73 #[.slice (some ⟨b, off, none⟩) l.length cap] w fun e w' => e = .returned (.bool (risB l)) ∧ Below w.heap.size w w' := by
 unfold maxLen at hcap;have hli : (l.length : Int) ≤ 9223372036854775807 := by omega
 have HC : Hid (∀ i, (hi : i < l.length) → w.cell? ⟨b, off + i, none⟩ = some (.int .u64 (l[i] : Nat))) := hc;have HP : Hid (0 < l.length) := hp;clear hc hcap hl hp;go_in;go_wp2_with fail;go_loopw [3] (fun iv wr => ∃ i : Nat, iv = .int .i64 i ∧ 1 ≤ i ∧ i ≤ l.length ∧ risE (lastN (l.take i)) (l.drop i) = risB l ∧ Below w.heap.size w wr) (fun iv _ => l.length - (intOf iv).toNat)
 case atStart => exact ⟨1, rfl, by omega, HP.out, ris_start HP.out, Below.refl _ _⟩
 case round =>
  obtain ⟨i, rfl, hi1, hil, hord, hbel⟩ := hrel;have HO : Hid (risE (lastN (l.take i)) (l.drop i) = risB l) := hord;have HB := hidH hbel;clear hord hbel;by_cases hlt : i < l.length
  ·obtain ⟨j, rfl⟩ : ∃ j, i = j + 1 := ⟨i - 1, by omega⟩;have hA := HC.out (j + 1) hlt;have hD := HC.out j (by omega);have hA2 : wr.cell? ⟨b, off + (j + 1), none⟩ = some (.int .u64 (l[j + 1] : Nat)) := by rw [HB.out.cell (p := ⟨b, off + (j + 1), none⟩) (cell_lt hA)]; exact hA
   have hD2 : wr.cell? ⟨b, off + j, none⟩ = some (.int .u64 (l[j] : Nat)) := by rw [HB.out.cell (p := ⟨b, off + j, none⟩) (cell_lt hD)]; exact hD
   have HLK : Hid (lastN (l.take (j + 1)) = some l[j]) := lastN_take (by omega);obtain ⟨c, hcd⟩ : ∃ c, l[j + 1] = c := ⟨_, rfl⟩;obtain ⟨d, hdd⟩ : ∃ d, l[j] = d := ⟨_, rfl⟩;rw [hcd] at hA2;rw [hdd] at hD2 HLK;have HCD : Hid (l[j + 1] = c) := hcd;clear hcd hdd hA hD;have hlti : ((j + 1 : Nat) : Int) < (l.length : Int) := by omega
   have hltj : (j : Int) < (l.length : Int) := by omega
   have hjj : ((j + 1 : Nat) : Int) - 1 = (j : Int) := by omega
   by_cases hk : c ≤ d
   ·have hki : (c : Int) ≤ (d : Int) := by omega
    have HR : Hid (risB l = false) := ris_stop hlt HO.out (by rw [HLK.out, HCD.out]; simp [folN]; omega);go_wp2_with fail;go_quiet (fail);go_wp2_with fail;go_ret;exact ⟨by rw [HR.out]; rfl, below_trans HB.out (below_drewN _ _)⟩
   ·have hki : ¬ (c : Int) ≤ (d : Int) := by omega
    have HR : Hid (risE (lastN (l.take (j + 1 + 1))) (l.drop (j + 1 + 1)) = risB l) := ris_step hlt HO.out (by rw [HLK.out, HCD.out]; simp [folN]; omega);go_wp2_with fail;go_quiet (fail);have HB2 : Hid (Below w.heap.size w (wr.drewN nq)) := below_trans HB.out (below_drewN _ _);go_wp2_with fail;go_roundw
    case rel => exact ⟨j + 1 + 1, by go_num, by omega, by omega, HR.out, HB2.out⟩
    case measure => simp [intOf]; omega
  ·have hlti : ¬ (i : Int) < (l.length : Int) := by omega
   have HR : Hid (risB l = true) := ris_end (by omega) HO.out;go_wp2_with fail;go_ret;exact ⟨by rw [HR.out]; rfl, HB.out⟩
theorem rris_none (ao : Option Addr) (cap : Nat) (w : World) :
  Calls Tryz.prog 73 #[.slice ao 0 cap] w fun e w' => e = .returned (.bool true) ∧ Below w.heap.size w w' := by
 go_in;go_wp2;refine wp_loop_rounds 1 ?_;rw [rounds_succ];go_wp2;go_ret;exact ⟨rfl, Below.refl _ _⟩
theorem rris_walk {w : World} {v : Value} {l : List Nat} (h : Kv w v l) :
  Calls Tryz.prog 73 #[v] w fun e w' => e = .returned (.bool (risB l)) ∧ Below w.heap.size w w' := by
 rcases kv_cases h with ⟨rfl, ao, cap, rfl⟩ | ⟨b, off, cap, rfl, hp, h1, h2, h3⟩
 ·exact rris_none ao cap w
 ·exact rris_some l b off cap w h1 h2 hp h3
def goodAt (t : List Pr) (i : Nat) : Prop := (∀ h : i < t.length, t[i].v.h = true) ∧ (∀ (h : i < t.length) (_ : 0 < i), t[i - 1].k < t[i].k)
theorem rise_of_good {t : List Pr} (h : ∀ i, i < t.length → goodAt t i) : Rise t := by
 unfold Rise;rw [List.pairwise_iff_getElem];intro i j hi hj hij
 induction j with
 | zero => omega
 | succ j ih =>
  have h1 := (h (j + 1) hj).2 hj (by omega);simp only [Nat.add_sub_cancel] at h1;rcases Nat.lt_or_ge i j with h2 | h2
  ·exact Nat.lt_trans (ih (by omega) h2) h1
  ·obtain rfl : i = j := by omega
   exact h1
theorem tab_iff {t : List Pr} : tabB t = true ↔ Rise t ∧ hasT t := by
 induction t with
 | nil => exact ⟨fun _ => ⟨List.Pairwise.nil, fun p hp => by simp at hp⟩, fun _ => rfl⟩
 | cons p t ih =>
  have e : tabB (p :: t) = (p.v.h && (t.all fun q => decide (p.k < q.k)) && tabB t) := rfl;rw [e, Bool.and_eq_true, Bool.and_eq_true, ih, List.all_eq_true];unfold Rise hasT;rw [List.pairwise_cons];constructor
  ·rintro ⟨⟨h1, h2⟩, h3, h4⟩
   exact ⟨⟨fun q hq => by simpa using h2 q hq, h3⟩, fun q hq => by
    rcases List.mem_cons.1 hq with h | h
    ·rw [h]; exact h1
    ·exact h4 q h⟩
  ·rintro ⟨⟨h2, h3⟩, h4⟩;exact ⟨⟨h4 p (List.mem_cons_self), fun q hq => by simpa using h2 q hq⟩, h3, fun q hq => h4 q (List.mem_cons_of_mem _ hq)⟩
theorem tab_good {t : List Pr} (h : ∀ i, i < t.length → goodAt t i) : tabB t = true := by
 rw [tab_iff];refine ⟨rise_of_good h, fun p hp => ?_⟩;obtain ⟨i, hi, rfl⟩ := List.getElem_of_mem hp;exact (h i hi).1 hi
theorem tab_none {t : List Pr} {i : Nat} (hi : i < t.length) (h : t[i].v.h = false) : tabB t = false := by
 cases hb : tabB t
 ·rfl
 ·have := (tab_iff.1 hb).2 t[i] (List.getElem_mem hi); rw [h] at this; cases this
theorem tab_falls {t : List Pr} {i : Nat} (hi : i < t.length) (h0 : 0 < i) (h : ¬ t[i - 1].k < t[i].k) : tabB t = false := by
 cases hb : tabB t
 ·rfl
 ·exact absurd ((List.pairwise_iff_getElem.1 (tab_iff.1 hb).1) (i - 1) i (by omega) hi (by omega)) h
def Sd (w : World) (t : List Pr) (iv : Value) (wr : World) : Prop := ∃ i : Nat, i ≤ t.length ∧ iv = .int .i64 i ∧ (∀ j, j < i → goodAt t j) ∧ Below w.heap.size w wr
theorem sd_step {w wr w1 : World} {t : List Pr} {i : Nat} (hi : i < t.length) (h : ∀ j, j < i → goodAt t j) (hg : goodAt t i) (hB : Below w.heap.size w wr) (h1 : Below wr.heap.size wr w1) : Sd w t (.int .i64 ((i : Int) + 1)) w1 :=
 ⟨i + 1, hi, by simp, fun j hj => by
  rcases Nat.lt_or_ge j i with h2 | h2
  ·exact h j h2
  ·obtain rfl : j = i := by omega
   exact hg, below_trans hB h1⟩
theorem good_zero {t : List Pr} (hi : 0 < t.length) {o : Pr} (ho : o = t[0]) (h : o.v.h = true) : goodAt t 0 := ⟨fun _ => by rw [← ho]; exact h, fun _ h0 => by omega⟩
theorem good_more {t : List Pr} {i : Nat} (hi : i < t.length) {o q : Pr} (ho : o = t[i]) (hq : q = t[i - 1]) (h : o.v.h = true) (hk : q.k < o.k) : goodAt t i := ⟨fun _ => by rw [← ho]; exact h, fun _ _ => by rw [← ho, ← hq]; exact hk⟩
theorem wrap_small {x : Int} (h0 : 0 ≤ x) (h1 : x < 9223372036854775808) : IntKind.i64.wrap x = x := by
 rw [IntKind.wrap_i64]; omega
theorem below_alloc_drew (w : World) (o : Obj) (n : Nat) : Below w.heap.size w ((w.alloc o).drewN n) := below_trans (below_alloc _ _) (below_drewN _ _)
theorem fsound_walk {ao : Option Addr} {ca : Nat} {l : List Pr} {w : World} (hl : l.length ≤ maxLen) (ha : Ql w ao l) :
  Calls Tryz.prog 66 #[.slice ao l.length ca] w fun e w' => e = .returned (.bool (tabB l)) ∧ Below w.heap.size w w' := by
 have hli : (l.length : Int) ≤ 9223372036854775807 := by simp only [maxLen] at hl; omega
 have HA : Hid (Ql w ao l) := ha;clear ha hl;go_in;go_wp2_with fail;go_loopw [7] (fun iv wr => Sd w l iv wr) (fun iv _ => l.length - (intOf iv).toNat)
 case atStart => exact ⟨0, Nat.zero_le _, rfl, fun j hj => by omega, below_same _⟩
 case round =>
  obtain ⟨i, hi, rfl, hgood, hB⟩ := hrel;have HG := hidH hgood;have HB := hidH hB;clear hgood hB;by_cases hlt : i < l.length
  ·obtain ⟨b, off, rfl, c0, c1, c2⟩ := HA.out.below HB.out i hlt;obtain ⟨o, hoe⟩ : ∃ o, o = l[i] := ⟨_, rfl⟩;rw [← hoe] at c0 c1 c2;have HE : Hid (o = l[i]) := hoe;clear hoe
   cases hh : o.v.h
   ·have HT : Hid (tabB l = false) := tab_none hlt (by rw [← HE.out]; exact hh);go_wp2_with fail;go_ret;exact ⟨ret_bool HT.out.symm, below_trans HB.out (below_alloc _ _)⟩
   ·have HH : Hid (o.v.h = true) := hh;rw [hh] at c1;clear hh;by_cases h0 : i = 0
    ·subst h0;simp only [Nat.zero_mul, Nat.add_zero] at c0 c1 c2;have R' : ∀ n, Sd w l (.int .i64 (((0 : Nat) : Int) + 1)) ((wr.alloc (Obj.cells #[.int .u64 o.k, .bool true, .int .u64 o.v.b] 66)).drewN n) := fun n => sd_step hlt HG.out (good_zero hlt HE.out HH.out) HB.out (below_alloc_drew _ _ _);go_wp2_with fail;go_quiet (fail);go_wp2_with fail;go_roundw
     case rel => exact R' _
     case measure => simp [intOf]; omega
    ·obtain ⟨b2, off2, e2, g0, g1, g2⟩ := HA.out.below HB.out (i - 1) (by omega)
     cases e2
     obtain ⟨q, hqe⟩ : ∃ q, q = l[i - 1] := ⟨_, rfl⟩;rw [← hqe] at g0 g1 g2;have HQ : Hid (q = l[i - 1]) := hqe;clear hqe g1 g2;have hi0 : (0 : Int) < (i : Int) := by omega
     obtain ⟨j, hj⟩ : ∃ j, i = j + 1 := ⟨i - 1, by omega⟩;subst hj;simp only [Nat.add_sub_cancel] at g0;have hwj : IntKind.i64.wrap (j : Int) = j := wrap_small (by omega) (by omega);have hjl : j < l.length := by omega
     have g0' : ∀ x : Obj, (wr.alloc x).cell? ⟨b, off + j * 3, none⟩ = some (.int .u64 q.k) := fun x => by rw [(below_alloc wr x).cell (p := ⟨b, off + j * 3, none⟩) (cell_lt g0)]; exact g0
     by_cases hk : q.k < o.k
     ·have R' : ∀ n, Sd w l (.int .i64 (((j + 1 : Nat) : Int) + 1)) ((wr.alloc (Obj.cells #[.int .u64 o.k, .bool true, .int .u64 o.v.b] 66)).drewN n) := fun n => sd_step hlt HG.out (good_more hlt HE.out HQ.out HH.out hk) HB.out (below_alloc_drew _ _ _);have hkb : ¬ ((o.k : Int) ≤ (q.k : Int)) := by omega
      clear hk;go_wp2_with fail;go_quiet (fail);go_wp2_with fail;go_roundw
      case rel => exact R' _
      case measure => simp [intOf]; omega
     ·have HT : Hid (tabB l = false) := tab_falls hlt (by omega) (by rw [← HE.out, ← HQ.out]; exact hk);have hkb : (o.k : Int) ≤ (q.k : Int) := by omega
      clear hk;go_wp2_with fail;go_quiet (fail);go_wp2_with fail;go_ret;exact ⟨ret_bool HT.out.symm, below_trans HB.out (below_alloc_drew _ _ _)⟩
  ·have HT : Hid (tabB l = true) := tab_good fun j hj => HG.out j (by omega);go_wp2_with fail;go_ret;exact ⟨ret_bool HT.out.symm, HB.out⟩
theorem rfsound_walk {ao : Option Addr} {ca : Nat} {l : List Pr} {w : World} (hl : l.length ≤ maxLen) (ha : Ql w ao l) :
  Calls Tryz.prog 74 #[.slice ao l.length ca] w fun e w' => e = .returned (.bool (tabB l)) ∧ Below w.heap.size w w' := by
 have hli : (l.length : Int) ≤ 9223372036854775807 := by simp only [maxLen] at hl; omega
 have HA : Hid (Ql w ao l) := ha;clear ha hl;go_in;go_wp2_with fail;go_loopw [3] (fun iv wr => Sd w l iv wr) (fun iv _ => l.length - (intOf iv).toNat)
 case atStart => exact ⟨0, Nat.zero_le _, rfl, fun j hj => by omega, below_same _⟩
 case round =>
  obtain ⟨i, hi, rfl, hgood, hB⟩ := hrel;have HG := hidH hgood;have HB := hidH hB;clear hgood hB;by_cases hlt : i < l.length
  ·obtain ⟨b, off, rfl, c0, c1, c2⟩ := HA.out.below HB.out i hlt;obtain ⟨o, hoe⟩ : ∃ o, o = l[i] := ⟨_, rfl⟩;rw [← hoe] at c0 c1 c2;have HE : Hid (o = l[i]) := hoe;clear hoe;have hil : (i : Int) < (l.length : Int) := by omega
   cases hh : o.v.h
   ·have HT : Hid (tabB l = false) := tab_none hlt (by rw [← HE.out]; exact hh);rw [hh] at c1;clear hh;go_wp2_with fail;go_quiet (fail);go_wp2_with fail;go_ret;exact ⟨ret_bool HT.out.symm, below_trans HB.out (below_drewN _ _)⟩
   ·have HH : Hid (o.v.h = true) := hh;rw [hh] at c1;clear hh;by_cases h0 : i = 0
    ·subst h0;simp only [Nat.zero_mul, Nat.add_zero] at c0 c1 c2;have R' : ∀ n, Sd w l (.int .i64 (((0 : Nat) : Int) + 1)) (wr.drewN n) := fun n => sd_step hlt HG.out (good_zero hlt HE.out HH.out) HB.out (below_drewN _ _);go_wp2_with fail;go_quiet (fail);go_wp2_with fail;go_roundw
     case rel => exact R' _
     case measure => simp [intOf]; omega
    ·obtain ⟨b2, off2, e2, g0, g1, g2⟩ := HA.out.below HB.out (i - 1) (by omega)
     cases e2
     obtain ⟨q, hqe⟩ : ∃ q, q = l[i - 1] := ⟨_, rfl⟩;rw [← hqe] at g0 g1 g2;have HQ : Hid (q = l[i - 1]) := hqe;clear hqe g1 g2;have hi0 : (0 : Int) < (i : Int) := by omega
     obtain ⟨j, hj⟩ : ∃ j, i = j + 1 := ⟨i - 1, by omega⟩;subst hj;simp only [Nat.add_sub_cancel] at g0;have hwj : IntKind.i64.wrap (j : Int) = j := wrap_small (by omega) (by omega);have hjl : j < l.length := by omega
     by_cases hk : q.k < o.k
     ·have R' : ∀ n, Sd w l (.int .i64 (((j + 1 : Nat) : Int) + 1)) (wr.drewN n) := fun n => sd_step hlt HG.out (good_more hlt HE.out HQ.out HH.out hk) HB.out (below_drewN _ _);have hkb : ¬ ((o.k : Int) ≤ (q.k : Int)) := by omega
      clear hk;go_wp2_with fail;go_quiet (fail);go_wp2_with fail;go_roundw
      case rel => exact R' _
      case measure => simp [intOf]; omega
     ·have HT : Hid (tabB l = false) := tab_falls hlt (by omega) (by rw [← HE.out, ← HQ.out]; exact hk);have hkb : (o.k : Int) ≤ (q.k : Int) := by omega
      clear hk;go_wp2_with fail;go_quiet (fail);go_wp2_with fail;go_ret;exact ⟨ret_bool HT.out.symm, below_trans HB.out (below_drewN _ _)⟩
  ·have HT : Hid (tabB l = true) := tab_good fun j hj => HG.out j (by omega);have hil : ¬ ((i : Int) < (l.length : Int)) := by omega
   go_wp2_with fail;go_ret;exact ⟨ret_bool HT.out.symm, HB.out⟩
end Go.Proofs.YtombjgfajbhbbaaGreat
