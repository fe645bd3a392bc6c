/- From the walk to the row: slices of slices of bytes and of keys among the arguments, opened. -/
import Derived.Test.YtcmklbibehnloaaGreatB06
import Derived.Test.YtcmklbibehnloaaGreatRows
import Derived.OpenShut
import Derived.Carry
import Derived.Deep.Strs
import Derived.SizedLaws
set_option maxRecDepth 100000
set_option maxHeartbeats 16000000
namespace Go.Proofs.YtcmklbibehnloaaGreat
open Go.RowKit
def lastN (l : List Nat) : Option Nat := l.getLast?
theorem lastN_snoc (q : List Nat) (c : Nat) : lastN (q ++ [c]) = some c := by simp [lastN]
theorem lastN_take {l : List Nat} {i : Nat} (hi : i < l.length) : lastN (l.take (i + 1)) = some l[i] := by
 rw [List.take_succ_eq_append_getElem hi, lastN_snoc]
theorem ris_start {l : List Nat} (hp : 0 < l.length) : risE (lastN (l.take 1)) (l.drop 1) = risB l := by
 cases l with
 | nil => simp at hp
 | cons c r => simp [risB, risE, folN, lastN]
theorem ris_step {l : List Nat} {i : Nat} (hi : i < l.length) (h : risE (lastN (l.take i)) (l.drop i) = risB l) (hf : folN (lastN (l.take i)) l[i] = true) : risE (lastN (l.take (i + 1))) (l.drop (i + 1)) = risB l := by
 rw [List.drop_eq_getElem_cons hi, risE, hf, Bool.true_and] at h;rw [lastN_take hi];exact h
theorem ris_stop {l : List Nat} {i : Nat} (hi : i < l.length) (h : risE (lastN (l.take i)) (l.drop i) = risB l) (hf : folN (lastN (l.take i)) l[i] = false) : risB l = false := by
 rw [List.drop_eq_getElem_cons hi, risE, hf, Bool.false_and] at h;exact h.symm
theorem ris_end {l : List Nat} {i : Nat} (hi : l.length ≤ i) (h : risE (lastN (l.take i)) (l.drop i) = risB l) : risB l = true := by
 rw [List.drop_eq_nil_of_le hi, risE] at h;exact h.symm
abbrev Kv (w : World) (v : Value) (l : List Nat) : Prop := Sv .u64 w v (ib l)
theorem kv_form {w : World} {v : Value} {l : List Nat} (h : Kv w v l) : ∃ ao cap, v = .slice ao l.length cap ∧ l.length ≤ cap ∧ cap ≤ maxLen := by
 obtain ⟨ao, cap, e, h1, h2, _⟩ := h;rw [ib_len] at e h1;exact ⟨ao, cap, e, h1, h2⟩
theorem kv_cases {w : World} {v : Value} {l : List Nat} (h : Kv w v l) :
  (l = [] ∧ ∃ ao cap, v = .slice ao 0 cap) ∨ ∃ b off cap, v = .slice (some ⟨b, off, none⟩) l.length cap ∧ 0 < l.length ∧ l.length ≤ cap ∧ cap ≤ maxLen ∧
   ∀ i, (hi : i < l.length) → w.cell? ⟨b, off + i, none⟩ = some (.int .u64 (l[i] : Nat)) := by
 obtain ⟨ao, cap, rfl, h1, h2, h3, h4⟩ := h;rw [ib_len] at h1;rw [ib_len];by_cases h0 : l = []
 ·subst h0; exact .inl ⟨rfl, ao, cap, rfl⟩
 ·have hp := List.length_pos_iff.2 h0;obtain ⟨b, off, rfl, _⟩ := h4 0 (by rw [ib_len]; exact hp);refine .inr ⟨b, off, cap, rfl, hp, h1, h2, fun i hi => ?_⟩;obtain ⟨b', off', e1, e2⟩ := h4 i (by rw [ib_len]; exact hi)
  cases e1
  rw [e2];simp [ib, List.getD, hi]
structure MB (w : World) (P : Nat) (b a : Int) (v : Value) : Prop where
 c0 : w.cell? ⟨P, 0, none⟩ = some (.int .i64 b)
 c1 : w.cell? ⟨P, 1, none⟩ = some (.int .i64 a)
 c2 : w.cell? ⟨P, 2, none⟩ = some v
 z : ∀ j, w.frozen? ⟨P, j, none⟩ = false
theorem MB.keep {w w' : World} {P : Nat} {b a : Int} {v : Value} (h : MB w P b a v) (hb : Below w.heap.size w w') : MB w' P b a v := by
 have hl := cell_lt h.c0;exact ⟨by rw [hb.cell (p := ⟨P, 0, none⟩) hl]; exact h.c0, by rw [hb.cell (p := ⟨P, 1, none⟩) hl]; exact h.c1, by rw [hb.cell (p := ⟨P, 2, none⟩) hl]; exact h.c2, fun j => by rw [hb.frozen (p := ⟨P, j, none⟩) hl]; exact h.z j⟩
theorem mb_new (w : World) (b a : Int) (v : Value) : MB (w.alloc (Obj.cells #[.int .i64 b, .int .i64 a, v] 65)) w.heap.size b a v := by
 constructor <;> simp [go_sem]
theorem ris_some (l : List Nat) (b off cap : Nat) (w : World) (hl : l.length ≤ cap) (hcap : cap ≤ maxLen) (hp : 0 < l.length) (hc : ∀ i, (hi : i < l.length) → w.cell? ⟨b, off + i, none⟩ = some (.int .u64 (l[i] : Nat))) :
  Calls Tryz.prog 69 #[.slice (some ⟨b, off, none⟩) l.length cap] w fun e w' => e = .returned (.bool (risB l)) ∧ Below w.heap.size w w' := by
 unfold maxLen at hcap;have hli : (l.length : Int) ≤ 9223372036854775807 := by omega
 have HC : Hid (∀ i, (hi : i < l.length) → w.cell? ⟨b, off + i, none⟩ = some (.int .u64 (l[i] : Nat))) := hc;have HP : Hid (0 < l.length) := hp;clear hc hcap hl hp;go_in;go_wp2_with fail;go_loopw [3] (fun iv wr => ∃ i : Nat, iv = .int .i64 i ∧ 1 ≤ i ∧ i ≤ l.length ∧ risE (lastN (l.take i)) (l.drop i) = risB l ∧ Below w.heap.size w wr) (fun iv _ => l.length - (intOf iv).toNat)
 case atStart => exact ⟨1, rfl, by omega, HP.out, ris_start HP.out, Below.refl _ _⟩
 case round =>
  obtain ⟨i, rfl, hi1, hil, hord, hbel⟩ := hrel;have HO : Hid (risE (lastN (l.take i)) (l.drop i) = risB l) := hord;have HB := hidH hbel;clear hord hbel;by_cases hlt : i < l.length
  ·obtain ⟨j, rfl⟩ : ∃ j, i = j + 1 := ⟨i - 1, by omega⟩;have hA := HC.out (j + 1) hlt;have hD := HC.out j (by omega);have hA2 : wr.cell? ⟨b, off + (j + 1), none⟩ = some (.int .u64 (l[j + 1] : Nat)) := by rw [HB.out.cell (p := ⟨b, off + (j + 1), none⟩) (cell_lt hA)]; exact hA
   have hD2 : wr.cell? ⟨b, off + j, none⟩ = some (.int .u64 (l[j] : Nat)) := by rw [HB.out.cell (p := ⟨b, off + j, none⟩) (cell_lt hD)]; exact hD
   have HLK : Hid (lastN (l.take (j + 1)) = some l[j]) := lastN_take (by omega);obtain ⟨c, hcd⟩ : ∃ c, l[j + 1] = c := ⟨_, rfl⟩;obtain ⟨d, hdd⟩ : ∃ d, l[j] = d := ⟨_, rfl⟩;rw [hcd] at hA2;rw [hdd] at hD2 HLK;have HCD : Hid (l[j + 1] = c) := hcd;clear hcd hdd hA hD;have hlti : ((j + 1 : Nat) : Int) < (l.length : Int) := by omega
   have hltj : (j : Int) < (l.length : Int) := by omega
   have hjj : ((j + 1 : Nat) : Int) - 1 = (j : Int) := by omega
   by_cases hk : c ≤ d
   ·have hki : (c : Int) ≤ (d : Int) := by omega
    have HR : Hid (risB l = false) := ris_stop hlt HO.out (by rw [HLK.out, HCD.out]; simp [folN]; omega);go_wp2_with fail;go_quiet (fail);go_wp2_with fail;go_ret;exact ⟨by rw [HR.out]; rfl, below_trans HB.out (below_drewN _ _)⟩
   ·have hki : ¬ (c : Int) ≤ (d : Int) := by omega
    have HR : Hid (risE (lastN (l.take (j + 1 + 1))) (l.drop (j + 1 + 1)) = risB l) := ris_step hlt HO.out (by rw [HLK.out, HCD.out]; simp [folN]; omega);go_wp2_with fail;go_quiet (fail);have HB2 : Hid (Below w.heap.size w (wr.drewN nq)) := below_trans HB.out (below_drewN _ _);go_wp2_with fail;go_roundw
    case rel => exact ⟨j + 1 + 1, by go_num, by omega, by omega, HR.out, HB2.out⟩
    case measure => simp [intOf]; omega
  ·have hlti : ¬ (i : Int) < (l.length : Int) := by omega
   have HR : Hid (risB l = true) := ris_end (by omega) HO.out;go_wp2_with fail;go_ret;exact ⟨by rw [HR.out]; rfl, HB.out⟩
theorem ris_none (ao : Option Addr) (cap : Nat) (w : World) :
  Calls Tryz.prog 69 #[.slice ao 0 cap] w fun e w' => e = .returned (.bool true) ∧ Below w.heap.size w w' := by
 go_in;go_wp2;refine wp_loop_rounds 1 ?_;rw [rounds_succ];go_wp2;go_ret;exact ⟨rfl, Below.refl _ _⟩
theorem ris_walk {w : World} {v : Value} {l : List Nat} (h : Kv w v l) :
  Calls Tryz.prog 69 #[v] w fun e w' => e = .returned (.bool (risB l)) ∧ Below w.heap.size w w' := by
 rcases kv_cases h with ⟨rfl, ao, cap, rfl⟩ | ⟨b, off, cap, rfl, hp, h1, h2, h3⟩
 ·exact ris_none ao cap w
 ·exact ris_some l b off cap w h1 h2 hp h3
theorem rris_some (l : List Nat) (b off cap : Nat) (w : World) (hl : l.length ≤ cap) (hcap : cap ≤ maxLen) (hp : 0 < l.length) (hc : ∀ i, (hi : i < l.length) → w.cell? ⟨b, off + i, none⟩ = some (.int .u64 (l[i] : Nat))) :
  Calls Tryz.prog 118 #[.slice (some ⟨b, off, none⟩) l.length cap] w fun e w' => e = .returned (.bool (risB l)) ∧ Below w.heap.size w w' := by
 unfold maxLen at hcap;have hli : (l.length : Int) ≤ 9223372036854775807 := by omega
 have HC : Hid (∀ i, (hi : i < l.length) → w.cell? ⟨b, off + i, none⟩ = some (.int .u64 (l[i] : Nat))) := hc;have HP : Hid (0 < l.length) := hp;clear hc hcap hl hp;go_in;go_wp2_with fail;go_loopw [3] (fun iv wr => ∃ i : Nat, iv = .int .i64 i ∧ 1 ≤ i ∧ i ≤ l.length ∧ risE (lastN (l.take i)) (l.drop i) = risB l ∧ Below w.heap.size w wr) (fun iv _ => l.length - (intOf iv).toNat)
 case atStart => exact ⟨1, rfl, by omega, HP.out, ris_start HP.out, Below.refl _ _⟩
 case round =>
  obtain ⟨i, rfl, hi1, hil, hord, hbel⟩ := hrel;have HO : Hid (risE (lastN (l.take i)) (l.drop i) = risB l) := hord;have HB := hidH hbel;clear hord hbel;by_cases hlt : i < l.length
  ·obtain ⟨j, rfl⟩ : ∃ j, i = j + 1 := ⟨i - 1, by omega⟩;have hA := HC.out (j + 1) hlt;have hD := HC.out j (by omega);have hA2 : wr.cell? ⟨b, off + (j + 1), none⟩ = some (.int .u64 (l[j + 1] : Nat)) := by rw [HB.out.cell (p := ⟨b, off + (j + 1), none⟩) (cell_lt hA)]; exact hA
   have hD2 : wr.cell? ⟨b, off + j, none⟩ = some (.int .u64 (l[j] : Nat)) := by rw [HB.out.cell (p := ⟨b, off + j, none⟩) (cell_lt hD)]; exact hD
   have HLK : Hid (lastN (l.take (j + 1)) = some l[j]) := lastN_take (by omega);obtain ⟨c, hcd⟩ : ∃ c, l[j + 1] = c := ⟨_, rfl⟩;obtain ⟨d, hdd⟩ : ∃ d, l[j] = d := ⟨_, rfl⟩;rw [hcd] at hA2;rw [hdd] at hD2 HLK;have HCD : Hid (l[j + 1] = c) := hcd;clear hcd hdd hA hD;have hlti : ((j + 1 : Nat) : Int) < (l.length : Int) := by omega
   have hltj : (j : Int) < (l.length : Int) := by omega
   have hjj : ((j + 1 : Nat) : Int) - 1 = (j : Int) := by omega
   by_cases hk : c ≤ d
   ·have hki : (c : Int) ≤ (d : Int) := by omega
    have HR : Hid (risB l = false) := ris_stop hlt HO.out (by rw [HLK.out, HCD.out]; simp [folN]; omega);go_wp2_with fail;go_quiet (fail);go_wp2_with fail;go_ret;exact ⟨by rw [HR.out]; rfl, below_trans HB.out (below_drewN _ _)⟩
   ·have hki : ¬ (c : Int) ≤ (d : Int) := by omega
    have HR : Hid (risE (lastN (l.take (j + 1 + 1))) (l.drop (j + 1 + 1)) = risB l) := ris_step hlt HO.out (by rw [HLK.out, HCD.out]; simp [folN]; omega);go_wp2_with fail;go_quiet (fail);have HB2 : Hid (Below w.heap.size w (wr.drewN nq)) := below_trans HB.out (below_drewN _ _);go_wp2_with fail;go_roundw
    case rel => exact ⟨j + 1 + 1, by go_num, by omega, by omega, HR.out, HB2.out⟩
    case measure => simp [intOf]; omega
  ·have hlti : ¬ (i : Int) < (l.length : Int) := by omega
   have HR : Hid (risB l = true) := ris_end (by omega) HO.out;go_wp2_with fail;go_ret;exact ⟨by rw [HR.out]; rfl, HB.out⟩
theorem rris_none (ao : Option Addr) (cap : Nat) (w : World) :
  Calls Tryz.prog 118 #[.slice ao 0 cap] w fun e w' => e = .returned (.bool true) ∧ Below w.heap.size w w' := by
 go_in;go_wp2;refine wp_loop_rounds 1 ?_;rw [rounds_succ];go_wp2;go_ret;exact ⟨rfl, Below.refl _ _⟩
theorem rris_walk {w : World} {v : Value} {l : List Nat} (h : Kv w v l) :
  Calls Tryz.prog 118 #[v] w fun e w' => e = .returned (.bool (risB l)) ∧ Below w.heap.size w w' := by
 rcases kv_cases h with ⟨rfl, ao, cap, rfl⟩ | ⟨b, off, cap, rfl, hp, h1, h2, h3⟩
 ·exact rris_none ao cap w
 ·exact rris_some l b off cap w h1 h2 hp h3
theorem counted_walk (x : Int) (w : World) :
  Calls Tryz.prog 194 #[.int .i64 x] w fun e w' => e = .returned (.bool (cntB x)) ∧ w' = w := by
 by_cases h1 : 0 ≤ x
 ·by_cases h2 : x ≤ 1099511627776
  ·have e : cntB x = true := by simp [cntB, h1, h2]
   rw [e];go_in;go_wp2_with fail;go_ret;exact ⟨rfl, rfl⟩
  ·have e : cntB x = false := by simp [cntB]; omega
   rw [e];go_in;go_wp2_with fail;go_ret;exact ⟨rfl, rfl⟩
 ·have e : cntB x = false := by simp [cntB]; omega
  rw [e];go_in;go_wp2_with fail;go_ret;exact ⟨rfl, rfl⟩
theorem sound_nb {b a : Int} {k : List Nat} (h : cntB b = false) : soundBM ⟨b, a, k⟩ = false := by simp [soundBM, h]
theorem sound_na {b a : Int} {k : List Nat} (h : cntB a = false) : soundBM ⟨b, a, k⟩ = false := by simp [soundBM, h]
theorem sound_zero {b a : Int} {k : List Nat} (h1 : cntB b = true) (h2 : cntB a = true) (h : b = 0 ∨ a = 0) : soundBM ⟨b, a, k⟩ = (decide (b = a) && decide (k.length = 0)) := by simp only [soundBM, h1, h2, Bool.true_and, if_pos h]
theorem sound_some {b a : Int} {k : List Nat} (h1 : cntB b = true) (h2 : cntB a = true) (h : ¬ (b = 0 ∨ a = 0)) : soundBM ⟨b, a, k⟩ = (decide (k.length ≤ 64) && risB k) := by simp only [soundBM, h1, h2, Bool.true_and, if_neg h]
theorem sound_walkM {w : World} {v : Value} {k : List Nat} (h : Kv w v k) (b a : Int) :
  Calls Tryz.prog 150 #[.agg #[.int .i64 b, .int .i64 a, v]] w fun e w' => e = .returned (.bool (soundBM ⟨b, a, k⟩)) ∧ Below w.heap.size w w' := by
 have HB : Hid (Below w.heap.size w (w.alloc (Obj.cells #[.int .i64 b, .int .i64 a, v] 65))) := below_alloc _ _;have HV : Hid (Kv (w.alloc (Obj.cells #[.int .i64 b, .int .i64 a, v] 65)) v k) := h.below (below_alloc _ _);obtain ⟨ao, cap, hv, hk1, hk2⟩ := kv_form h;obtain ⟨n, hn⟩ : ∃ n, n = k.length := ⟨_, rfl⟩;rw [← hn] at hv;subst hv;clear h hk1 hk2
 cases h1 : cntB b
 ·rw [sound_nb h1];clear hn;go_in;go_wp2_with fail;refine (counted_walk b _).mono ?_;rw [h1];rintro e w2 ⟨rfl, hw2⟩;replace hw2 := hw2.symm;subst hw2;go_wp2_with fail;go_ret;exact ⟨rfl, HB.out⟩
 cases h2 : cntB a
 ·rw [sound_na h2];clear hn;go_in;go_wp2_with fail;refine (counted_walk b _).mono ?_;rw [h1];rintro e w2 ⟨rfl, hw2⟩;replace hw2 := hw2.symm;subst hw2;go_wp2_with fail;refine (counted_walk a _).mono ?_;rw [h2];rintro e w2 ⟨rfl, hw2⟩;replace hw2 := hw2.symm;subst hw2;go_wp2_with fail;go_ret;exact ⟨rfl, HB.out⟩
 have main : ∀ (r : Bool), soundBM ⟨b, a, k⟩ = r → (∀ K : Prop, K → K) → Calls Tryz.prog 150 #[.agg #[.int .i64 b, .int .i64 a, .slice ao n cap]] w fun e w' => e = .returned (.bool r) ∧ Below w.heap.size w w' := by
  intro r hr _;by_cases h0 : b = 0 ∨ a = 0
  ·rw [sound_zero h1 h2 h0] at hr;have hbz : (b == 0 || a == 0) = true := by rcases h0 with h | h <;> simp [h]
   by_cases hb : b = 0
   ·have hb0 : (b == 0) = true := by simp [hb]
    by_cases ha : b = a
    ·have hba : (b == a) = true := by simp [ha]
     have hr2 : ((n : Int) == 0) = r := by
      rw [← hr, show decide (b = a) = true from decide_eq_true ha, Bool.true_and, hn];by_cases q : k.length = 0
      ·rw [q]; rfl
      ·rw [decide_eq_false q, beq_eq_false_iff_ne]; omega
     clear hbz h0 hb ha hr hn;go_in;go_wp2_with fail;refine (counted_walk b _).mono ?_;rw [h1];rintro e w2 ⟨rfl, hw2⟩;replace hw2 := hw2.symm;subst hw2;go_wp2_with fail;refine (counted_walk a _).mono ?_;rw [h2];rintro e w2 ⟨rfl, hw2⟩;replace hw2 := hw2.symm;subst hw2;go_wp2_with fail;go_ret;exact ⟨rfl, HB.out⟩
    ·have hba : (b == a) = false := by simp [ha]
     have hr2 : r = false := by rw [← hr]; simp [ha]
     subst hr2;clear hbz h0 hb ha hr hn;go_in;go_wp2_with fail;refine (counted_walk b _).mono ?_;rw [h1];rintro e w2 ⟨rfl, hw2⟩;replace hw2 := hw2.symm;subst hw2;go_wp2_with fail;refine (counted_walk a _).mono ?_;rw [h2];rintro e w2 ⟨rfl, hw2⟩;replace hw2 := hw2.symm;subst hw2;go_wp2_with fail;go_ret;exact ⟨rfl, HB.out⟩
   ·have hb0 : (b == 0) = false := by simp [hb]
    have ha : a = 0 := by rcases h0 with h | h; exact absurd h hb; exact h
    have ha0 : (a == 0) = true := by simp [ha]
    have hne : ¬ b = a := by rw [ha]; exact hb
    have hba : (b == a) = false := by simp [hne]
    have hr2 : r = false := by rw [← hr]; simp [hne]
    subst hr2;clear hbz h0 hb ha hr hn hne;go_in;go_wp2_with fail;refine (counted_walk b _).mono ?_;rw [h1];rintro e w2 ⟨rfl, hw2⟩;replace hw2 := hw2.symm;subst hw2;go_wp2_with fail;refine (counted_walk a _).mono ?_;rw [h2];rintro e w2 ⟨rfl, hw2⟩;replace hw2 := hw2.symm;subst hw2;go_wp2_with fail;go_ret;exact ⟨rfl, HB.out⟩
  ·rw [sound_some h1 h2 h0] at hr;have hb0 : (b == 0) = false := by rw [beq_eq_false_iff_ne]; exact fun h => h0 (.inl h)
   have ha0 : (a == 0) = false := by rw [beq_eq_false_iff_ne]; exact fun h => h0 (.inr h)
   by_cases h64 : n ≤ 64
   ·have h64i : (n : Int) ≤ 64 := by omega
    have hr2 : risB k = r := by rw [← hr, ← hn]; simp [h64]
    clear h0 h64 hr hn;go_in;go_wp2_with fail;refine (counted_walk b _).mono ?_;rw [h1];rintro e w2 ⟨rfl, hw2⟩;replace hw2 := hw2.symm;subst hw2;go_wp2_with fail;refine (counted_walk a _).mono ?_;rw [h2];rintro e w2 ⟨rfl, hw2⟩;replace hw2 := hw2.symm;subst hw2;go_wp2_with fail;refine (ris_walk HV.out).mono ?_;rw [hr2];rintro e w3 ⟨rfl, hB3⟩;go_wp2_with fail;go_ret;exact ⟨rfl, below_trans HB.out hB3⟩
   ·have h64i : ¬ (n : Int) ≤ 64 := by omega
    have hr2 : r = false := by rw [← hr, ← hn]; simp [h64]
    subst hr2;clear h0 h64 hr hn;go_in;go_wp2_with fail;refine (counted_walk b _).mono ?_;rw [h1];rintro e w2 ⟨rfl, hw2⟩;replace hw2 := hw2.symm;subst hw2;go_wp2_with fail;refine (counted_walk a _).mono ?_;rw [h2];rintro e w2 ⟨rfl, hw2⟩;replace hw2 := hw2.symm;subst hw2;go_wp2_with fail;go_ret;exact ⟨rfl, HB.out⟩
 exact main _ rfl (fun _ h => h)
theorem rsound_walk {w : World} {v : Value} {k : List Nat} (h : Kv w v k) (b a : Int) :
  Calls Tryz.prog 103 #[.agg #[.int .i64 b, .int .i64 a, v]] w fun e w' => e = .returned (.bool (soundBM ⟨b, a, k⟩)) ∧ Below w.heap.size w w' := by
 have HB : Hid (Below w.heap.size w (w.alloc (Obj.cells #[.int .i64 b, .int .i64 a, v] 65))) := below_alloc _ _;have HV : Hid (Kv (w.alloc (Obj.cells #[.int .i64 b, .int .i64 a, v] 65)) v k) := h.below (below_alloc _ _);obtain ⟨MBw, hMB⟩ : ∃ MBw, MBw = w.alloc (Obj.cells #[.int .i64 b, .int .i64 a, v] 65) := ⟨_, rfl⟩;have HMB : Hid (MB MBw w.heap.size b a v) := by rw [hMB]; exact mb_new w b a v
 have HMW : Hid (MBw = w.alloc (Obj.cells #[.int .i64 b, .int .i64 a, v] 65)) := hMB;clear hMB;obtain ⟨ao, cap, hv, hk1, hk2⟩ := kv_form h;obtain ⟨n, hn⟩ : ∃ n, n = k.length := ⟨_, rfl⟩;rw [← hn] at hv;subst hv;have HN : Hid (n = k.length) := hn;clear h hk1 hk2 hn;by_cases b1 : b < 0
 ·rw [sound_nb (by simp [cntB]; omega)];go_in;go_wp2_with fail;go_ret;exact ⟨rfl, HB.out⟩
 by_cases b2 : 1099511627776 < b
 ·rw [sound_nb (by simp [cntB]; omega)];go_in;go_wp2_with fail;go_ret;exact ⟨rfl, HB.out⟩
 by_cases a1 : a < 0
 ·rw [sound_na (by simp [cntB]; omega)];go_in;go_wp2_with fail;go_ret;exact ⟨rfl, HB.out⟩
 by_cases a2 : 1099511627776 < a
 ·rw [sound_na (by simp [cntB]; omega)];go_in;go_wp2_with fail;go_ret;exact ⟨rfl, HB.out⟩
 have h1 : cntB b = true := by simp [cntB]; omega
 have h2 : cntB a = true := by simp [cntB]; omega
 obtain ⟨S, hS⟩ : ∃ S, S = soundBM ⟨b, a, k⟩ := ⟨_, rfl⟩;rw [← hS];by_cases h64 : (64 : Int) < (n : Int)
 ·have e : S = false := by
   have := HN.out;rw [hS];by_cases h0 : b = 0 ∨ a = 0
   ·rw [sound_zero h1 h2 h0, decide_eq_false (show ¬ k.length = 0 by omega), Bool.and_false]
   ·rw [sound_some h1 h2 h0, decide_eq_false (show ¬ k.length ≤ 64 by omega), Bool.false_and]
  subst e;clear hS h1 h2;go_in;go_wp2_with fail;go_ret;exact ⟨rfl, HB.out⟩
 cases hr : risB k
 ·have e : S = false := by
   have := HN.out;rw [hS];by_cases h0 : b = 0 ∨ a = 0
   ·have hk : ¬ k.length = 0 := fun q => by rw [List.eq_nil_of_length_eq_zero q] at hr; simp [risB, risE] at hr
    rw [sound_zero h1 h2 h0, decide_eq_false hk, Bool.and_false]
   ·rw [sound_some h1 h2 h0, hr, Bool.and_false]
  subst e;clear hS h1 h2;go_in;go_wp2_with fail;refine (rris_walk HV.out).mono ?_;rw [hr];rintro e w3 ⟨rfl, hB3⟩;go_wp2_with fail;go_ret;exact ⟨rfl, below_trans HB.out hB3⟩
 have go : ∀ w3, Below MBw.heap.size MBw w3 → MB w3 w.heap.size b a (.slice ao n cap) := fun w3 h => HMB.out.keep h;rw [HMW.out] at go;have GO := hidH go;clear go;by_cases h0 : b = 0 ∨ a = 0
 ·rw [sound_zero h1 h2 h0] at hS;by_cases hb : b = 0
  ·have hb0 : (b == 0) = true := by simp [hb]
   by_cases ha : a = 0
   ·have ha0 : (a == 0) = true := by simp [ha]
    have hr2 : ((n : Int) == 0) = S := by
     rw [hS, show decide (b = a) = true from decide_eq_true (by rw [hb, ha]), Bool.true_and, HN.out];by_cases q : k.length = 0
     ·rw [q]; rfl
     ·rw [decide_eq_false q, beq_eq_false_iff_ne]; omega
    clear h0 hb ha hS h1 h2 b1 b2 a1 a2;have b1 : ¬ b < 0 := by rw [beq_iff_eq] at hb0; omega
    have b2 : ¬ 1099511627776 < b := by rw [beq_iff_eq] at hb0; omega
    have a1 : ¬ a < 0 := by rw [beq_iff_eq] at ha0; omega
    have a2 : ¬ 1099511627776 < a := by rw [beq_iff_eq] at ha0; omega
    go_in;go_wp2_with fail;refine (rris_walk HV.out).mono ?_;rw [hr];rintro e w3 ⟨rfl, hB3⟩;have hM := GO.out w3 hB3;have x0 := hM.c0;have x1 := hM.c1;have x2 := hM.c2;clear hM;go_wp2_with fail;go_ret;exact ⟨rfl, below_trans HB.out hB3⟩
   ·have ha0 : (a == 0) = false := by simp [ha]
    have hr2 : S = false := by rw [hS, decide_eq_false (show ¬ b = a by omega), Bool.false_and]
    subst hr2;clear h0 hb ha hS h1 h2;go_in;go_wp2_with fail;refine (rris_walk HV.out).mono ?_;rw [hr];rintro e w3 ⟨rfl, hB3⟩;have hM := GO.out w3 hB3;have x0 := hM.c0;have x1 := hM.c1;have x2 := hM.c2;clear hM;go_wp2_with fail;go_ret;exact ⟨rfl, below_trans HB.out hB3⟩
  ·have hb0 : (b == 0) = false := by simp [hb]
   have ha : a = 0 := by rcases h0 with h | h; exact absurd h hb; exact h
   have ha0 : (a == 0) = true := by simp [ha]
   have hr2 : S = false := by rw [hS, decide_eq_false (show ¬ b = a by omega), Bool.false_and]
   subst hr2;clear h0 hb ha hS h1 h2;go_in;go_wp2_with fail;refine (rris_walk HV.out).mono ?_;rw [hr];rintro e w3 ⟨rfl, hB3⟩;have hM := GO.out w3 hB3;have x0 := hM.c0;have x1 := hM.c1;have x2 := hM.c2;clear hM;go_wp2_with fail;go_ret;exact ⟨rfl, below_trans HB.out hB3⟩
 ·rw [sound_some h1 h2 h0] at hS;have hb0 : (b == 0) = false := by rw [beq_eq_false_iff_ne]; exact fun h => h0 (.inl h)
  have ha0 : (a == 0) = false := by rw [beq_eq_false_iff_ne]; exact fun h => h0 (.inr h)
  have hr2 : S = true := by rw [hS, hr, decide_eq_true (show k.length ≤ 64 by have := HN.out; omega)]; rfl
  subst hr2;clear h0 hS h1 h2;go_in;go_wp2_with fail;refine (rris_walk HV.out).mono ?_;rw [hr];rintro e w3 ⟨rfl, hB3⟩;have hM := GO.out w3 hB3;have x0 := hM.c0;have x1 := hM.c1;clear hM;go_wp2_with fail;go_ret;exact ⟨rfl, below_trans HB.out hB3⟩
def cmpIM (x y : Int) : Int := if x < y then -1 else if y < x then 1 else 0
def cmpA (b a ob oa : Int) : Int := if b = ob then cmpIM a oa else cmpIM b ob
theorem inan_walk (x : Int) (w : World) :
  Calls Tryz.prog 211 #[.int .i64 x] w fun e w' => e = .returned (.bool false) ∧ w' = w := by
 go_in;go_wp2;all_goals (go_ret; exact ⟨rfl, rfl⟩)
theorem icmp_walk (x y : Int) (w : World) :
  Calls Tryz.prog 181 #[.int .i64 x, .int .i64 y] w fun e w' => e = .returned (.int .i64 (cmpIM x y)) ∧ w' = w := by
 have main : ∀ r : Int, cmpIM x y = r → Calls Tryz.prog 181 #[.int .i64 x, .int .i64 y] w fun e w' => e = .returned (.int .i64 r) ∧ w' = w := by
  intro r hr;by_cases h1 : x < y
  ·have e : r = -1 := by rw [← hr]; exact if_pos h1
   subst e;clear hr;go_in;go_wp2_with fail;refine (inan_walk x _).mono ?_;rintro e w2 ⟨rfl, rfl⟩;go_wp2_with fail;refine (inan_walk y _).mono ?_;rintro e w2 ⟨rfl, rfl⟩;go_wp2_with fail;go_ret;exact ⟨rfl, rfl⟩
  ·by_cases h2 : y < x
   ·have e : r = 1 := by rw [← hr]; unfold cmpIM; rw [if_neg h1, if_pos h2]
    subst e;clear hr;go_in;go_wp2_with fail;refine (inan_walk x _).mono ?_;rintro e w2 ⟨rfl, rfl⟩;go_wp2_with fail;refine (inan_walk y _).mono ?_;rintro e w2 ⟨rfl, rfl⟩;go_wp2_with fail;go_ret;exact ⟨rfl, rfl⟩
   ·have e : r = 0 := by rw [← hr]; unfold cmpIM; rw [if_neg h1, if_neg h2]
    subst e;clear hr;go_in;go_wp2_with fail;refine (inan_walk x _).mono ?_;rintro e w2 ⟨rfl, rfl⟩;go_wp2_with fail;refine (inan_walk y _).mono ?_;rintro e w2 ⟨rfl, rfl⟩;go_wp2_with fail;go_ret;exact ⟨rfl, rfl⟩
 exact main _ rfl
theorem mcmp_walk (b a ob oa : Int) (w : World) :
  Calls Tryz.prog 136 #[.int .i64 b, .int .i64 a, .int .i64 ob, .int .i64 oa] w fun e w' => e = .returned (.int .i64 (cmpA b a ob oa)) ∧ w' = w := by
 have main : ∀ r : Int, cmpA b a ob oa = r → Calls Tryz.prog 136 #[.int .i64 b, .int .i64 a, .int .i64 ob, .int .i64 oa] w fun e w' => e = .returned (.int .i64 r) ∧ w' = w := by
  intro r hr;by_cases h1 : b = ob
  ·have e : cmpIM a oa = r := by rw [← hr]; exact (if_pos h1).symm
   have h1b : (b != ob) = false := by simp [h1]
   clear hr h1;go_in;go_wp2_with fail;refine (icmp_walk a oa _).mono ?_;rw [e];rintro e w2 ⟨rfl, rfl⟩;go_wp2_with fail;go_ret;exact ⟨rfl, rfl⟩
  ·have e : cmpIM b ob = r := by rw [← hr]; exact (if_neg h1).symm
   have h1b : (b != ob) = true := by simp [h1]
   clear hr h1;go_in;go_wp2_with fail;refine (icmp_walk b ob _).mono ?_;rw [e];rintro e w2 ⟨rfl, rfl⟩;go_wp2_with fail;go_ret;exact ⟨rfl, rfl⟩
 exact main _ rfl
section
open Go.ChangeShapes Go.WideShapes Go.ChangeAt Go.RowKit

theorem own_knob : ownKnob Tryz.prog.godebug = none := by kernel_rfl
theorem cells_u8 : Tryz.prog.cellsOf 5 = 1 := by kernel_rfl
theorem laid_out : laidOutB Tryz.prog = true := by kernel_rfl
theorem post_of_below {H : Type} {enc : TypeId × Value → H} {P : Program} {f : Func} {s : ChangeSpec} {apart fresh handsOn : Bool} {W W' : World} {args : Array Value} {v : Value} {ds gs : List (DataW H)} {before pa pv : List MemPlace}
  (hW : DataW.Whole enc P f.params.toList s.vars apart W args.toList ds gs before)
  (hres : ∀ (b : Nat) (sp : Nat → Bool) (hd : Bool), DataW.TrodAll enc P W' b sp hd f.resultTypes.toList (v.resultList f.resultTypes.size) (s.fn H (ds ++ gs)).results [])
  (hargs : ∀ sp : Nat → Bool, (∀ p ∈ before, sp p.block = true) → DataW.TrodAll enc P W' 0 sp true f.params.toList args.toList (s.fn H (ds ++ gs)).args pa)
  (hvars : ∀ sp : Nat → Bool, (∀ p ∈ before, sp p.block = true) → DataW.TrodVars enc P W' sp s.vars (s.fn H (ds ++ gs)).vars pv)
  (hps : before = pa ++ pv) (hb : Below W.heap.size W W') :
  s.post enc P f apart fresh handsOn false W args v W' := by
 have hold : ∀ p ∈ before, (fun b => decide (b < W.heap.size)) p.block = true := fun p hp => by simpa using hW.lt p hp
 refine ⟨ds, gs, before, [], pa, pv, hW, hres _ _ _, hargs _ hold, hvars _ hold, World.keptBut_mono (fun p hp => ⟨hp, ?_⟩) (hb.frame (· ∈ before)), fun h => by cases h⟩;rw [hps, List.mem_append] at hp;exact Or.inr hp
theorem again {H : Type} {enc : TypeId × Value → H} {W W' : World} {t : TypeId} {v : Value} {d : DataW H} {p : List MemPlace} {sp : Nat → Bool} (hr : Tryz.prog.readableRec t = true) (hrow : t < Tryz.prog.types.size)
  (h : DataW.Trod enc Tryz.prog W 0 (fun _ => true) true t v d p) (hb : Below W.heap.size W W') (hlt : ∀ x ∈ p, x.block < W.heap.size) (hsp : ∀ x ∈ p, sp x.block = true) :
  DataW.Trod enc Tryz.prog W' 0 sp true t v d p :=
 WideElems.Trod_stays laid_out hr hrow h (fun x hx => hb.same (hlt x hx)) hsp
theorem open_sv_raw {H : Type} {enc : TypeId × Value → H} {W : World} {v : Value} {d : DataW H} {p : List MemPlace} {t e : TypeId} {k : IntKind} {fuel : Nat} (ht : Tryz.prog.underlying t = some (.slice e)) (he : Tryz.prog.underlying e = some (.int k))
  (hc : Tryz.prog.cellsOf e = 1) (hf : DataW.trod enc Tryz.prog W 0 (fun _ => true) true fuel t [v] = some (d, p)) :
  ∃ l : List Int, Sv k W v l ∧ (∀ x ∈ l, (Lit.int k x).wf = true) ∧ ((d = .nil ∧ l = []) ∨ ∃ elems spare, d = .slice elems spare ∧ elems.length = l.length) := by
 rcases Go.Deep.open_slice1 ht hc hf with ⟨hcs, hx⟩ | ⟨a, len, cap, m, n, V, D, Pl, hcs, _, hl, hm, hmm, hx, hel⟩
 ·simp only [List.cons.injEq, and_true] at hcs;subst hcs;simp only [Prod.mk.injEq] at hx;exact ⟨[], Sv.nil k W, by simp, .inl ⟨hx.1, rfl⟩⟩
 ·simp only [List.cons.injEq, and_true] at hcs;subst hcs;simp only [if_true] at hmm;simp only [Prod.mk.injEq] at hx
  have each : ∀ i, ∃ x, i < len → W.cell? (a.add i) = some (.int k x) ∧ (Lit.int k x).wf = true := by
   intro i;by_cases hi : i < len
   ·obtain ⟨h1, h2⟩ := hel i (by omega)
    cases n with
    | zero => simp [DataW.trod] at h2
    | succ n =>
     rw [h1];simp only [DataW.trod, he] at h2;generalize V i = v at *
     cases v <;> simp at h2
     rename_i k' x
     obtain ⟨⟨rfl, hw⟩, _⟩ := h2;exact ⟨x, fun _ => ⟨rfl, hw⟩⟩
   ·exact ⟨0, fun h => absurd h hi⟩
  obtain ⟨X, hX⟩ : ∃ X : Nat → Int, ∀ i, i < len → W.cell? (a.add i) = some (.int k (X i)) ∧ (Lit.int k (X i)).wf = true := ⟨fun i => (each i).choose, fun i => (each i).choose_spec⟩;clear each hel;refine ⟨(List.range len).map X, ⟨some a, cap, by simp, by simpa using hl, hm, by simp, ?_⟩, ?_, .inr ⟨_, _, hx.1, by simp⟩⟩
  ·intro i hi;simp at hi;have h0 := (hX 0 (by omega)).1;obtain ⟨h1, h2⟩ := hX i hi;obtain ⟨b, off, spot⟩ := a;have hs1 : spot = none := by simpa [Addr.add] using World.cell?_spot h0
   subst hs1;refine ⟨b, off, rfl, ?_⟩;rw [WideShapes.add_plain] at h1;rw [h1];simp [List.getD, hi]
  ·intro x hx;simp only [List.mem_map, List.mem_range] at hx;obtain ⟨i, hi, rfl⟩ := hx;exact (hX i hi).2
theorem bytes_of {W : World} {v : Value} {l : List Int} (h : Sv .u8 W v l) (hw : ∀ x ∈ l, (Lit.int .u8 x).wf = true) : ∃ r : List Nat, Bv W v r ∧ r.length = l.length := by
 have h0 : ∀ x ∈ l, 0 ≤ x ∧ x ≤ 255 := fun x hx => by simpa [Lit.wf, IntKind.min, IntKind.max, IntKind.signed, IntKind.bits] using hw x hx
 have e : ib (l.map Int.toNat) = l := by
  unfold ib;rw [List.map_map]
  conv => rhs; rw [← List.map_id l]
  refine List.map_congr_left fun x hx => ?_;have := h0 x hx;simp; omega
 refine ⟨l.map Int.toNat, ⟨by rw [e]; exact h, ?_⟩, by simp⟩;intro c hc;obtain ⟨x, hx, rfl⟩ := List.mem_map.1 hc;have := h0 x hx;omega
theorem u64_of_wf {x : Int} (h : (Lit.int .u64 x).wf = true) : ∃ n : Nat, x = n ∧ n < 18446744073709551616 := by
 have h0 : 0 ≤ x ∧ x ≤ 18446744073709551615 := by simpa [Lit.wf, IntKind.min, IntKind.max, IntKind.signed, IntKind.bits] using h
 exact ⟨x.toNat, by omega, by omega⟩
theorem i64_of_wf {x : Int} (h : (Lit.int .i64 x).wf = true) : -9223372036854775808 ≤ x ∧ x < 9223372036854775808 := by
 have h0 : -9223372036854775808 ≤ x ∧ x ≤ 9223372036854775807 := by simpa [Lit.wf, IntKind.min, IntKind.max, IntKind.signed, IntKind.bits] using h
 omega
theorem cells_bytes : Tryz.prog.cellsOf 78 = 1 := by kernel_rfl
theorem cells_u64 : Tryz.prog.cellsOf 37 = 1 := by kernel_rfl
def Szd {H : Type} {α : Type} (d : DataW H) (l : List α) : Prop := (d = .nil ∧ l = []) ∨ ∃ elems spare, d = .slice elems spare ∧ elems.length = l.length
section

variable {H : Type} {enc : TypeId × Value → H} {W : World} {sp : Nat → Bool} {held : Bool} {base : Nat}

theorem cell_u64 {n : Nat} {v : Value} {x : DataW H × List MemPlace} (h : DataW.trod enc Tryz.prog W base sp held n 37 [v] = some x) : ∃ a : Nat, v = .int .u64 a ∧ a < 18446744073709551616 := by
 cases n with
 | zero => simp [DataW.trod] at h
 | succ n =>
  simp only [DataW.trod, Tryz.underlying37] at h
  cases v <;> simp at h
  rename_i k a
  obtain ⟨⟨rfl, hw⟩, _⟩ := h;obtain ⟨m, rfl, hm⟩ := u64_of_wf hw;exact ⟨m, rfl, hm⟩
end

section

variable {H : Type} {enc : TypeId × Value → H} {W : World}

theorem core_bv {v : Value} {fuel : Nat} {y : DataW H × List MemPlace} (hf : DataW.trod enc Tryz.prog W 0 (fun _ => true) true fuel 78 [v] = some y) :
  ∃ l : List Nat, Bv W v l ∧ Szd y.1 l := by
 obtain ⟨d, p⟩ := y;obtain ⟨l, g1, g2, g3⟩ := open_sv_raw Tryz.underlying78 Tryz.underlying5 cells_u8 hf;obtain ⟨r, g4, g5⟩ := bytes_of g1 g2;refine ⟨r, g4, ?_⟩;rcases g3 with ⟨e1, rfl⟩ | ⟨el, sp, e1, e2⟩
 ·exact .inl ⟨e1, List.eq_nil_of_length_eq_zero (by simpa using g5)⟩
 ·exact .inr ⟨el, sp, e1, by rw [e2, g5]⟩
theorem open_pv {v : Value} {d : DataW H} {p : List MemPlace} {base : Nat} (hv : Value.okWide Tryz.prog W .any base 46 v) (h : DataW.Trod enc Tryz.prog W 0 (fun _ => true) true 46 v d p) :
  ∃ ls : List (List Nat), PvD W v ls ∧ ((d = .nil ∧ ls = []) ∨ ∃ elems spare, d = .slice elems spare ∧ elems.length = ls.length ∧ ∀ i e, elems[i]? = some e → Szd e (bk ls i)) := by
 obtain ⟨ao, len0, cap0, rfl⟩ := okWide_slice Tryz.underlying46 hv;obtain ⟨fuel, hf⟩ := h;rcases Go.Deep.open_slice1 (cs := [.slice ao len0 cap0]) Tryz.underlying46 cells_bytes hf with ⟨hcs, hx⟩ | ⟨a, len, cap, m, n, V, D, Pl, hcs, _, hl, hm, hmm, hx, hel⟩
 ·simp only [List.cons.injEq, and_true, Value.slice.injEq] at hcs;obtain ⟨rfl, rfl, rfl⟩ := hcs;simp only [Prod.mk.injEq] at hx;exact ⟨[], ⟨none, 0, rfl, Nat.le_refl _, by simp [maxLen], fun _ => rfl, fun i hi => by simp at hi⟩, .inl ⟨hx.1, rfl⟩⟩
 ·simp only [List.cons.injEq, and_true, Value.slice.injEq] at hcs;obtain ⟨rfl, rfl, rfl⟩ := hcs;simp only [if_true] at hmm;simp only [Prod.mk.injEq] at hx
  have each : ∀ i, ∃ l : List Nat, i < len0 → W.cell? (a.add i) = some (V i) ∧ Bv W (V i) l ∧ Szd (D i) l := by
   intro i;by_cases hi : i < len0
   ·obtain ⟨h1, h2⟩ := hel i (by omega);obtain ⟨l, g1, g2⟩ := core_bv h2;exact ⟨l, fun _ => ⟨h1, g1, g2⟩⟩
   ·exact ⟨[], fun h => absurd h hi⟩
  obtain ⟨L, hL⟩ : ∃ L : Nat → List Nat, ∀ i, i < len0 → W.cell? (a.add i) = some (V i) ∧ Bv W (V i) (L i) ∧ Szd (D i) (L i) := ⟨fun i => (each i).choose, fun i => (each i).choose_spec⟩;clear each hel;refine ⟨(List.range len0).map L, ⟨some a, cap0, by simp, by simpa using hl, hm, by simp, ?_⟩, .inr ⟨_, _, hx.1, by simp, fun i e he => ?_⟩⟩
  ·intro i hi;simp at hi;have h0 := (hL 0 (by omega)).1;obtain ⟨h1, h2, h3⟩ := hL i hi;obtain ⟨b, off, spot⟩ := a;have hs1 : spot = none := by simpa [Addr.add] using World.cell?_spot h0
   subst hs1;refine ⟨b, off, V i, rfl, ?_, ?_⟩
   ·rw [WideShapes.add_plain] at h1; exact h1
   ·rw [bk_at (by simpa using hi)]; simpa using h2
  ·have hi : i < len0 := by
    rcases Nat.lt_or_ge i len0 with h | h
    ·exact h
    ·rw [List.getElem?_eq_none (by simpa using h)] at he; cases he
   rw [List.getElem?_map, List.getElem?_range hi] at he;simp at he;subst he;rw [bk_at (by simpa using hi)];simpa using (hL i hi).2.2
end

theorem core_kv {H : Type} {enc : TypeId × Value → H} {W : World} {cs : List Value} {fuel : Nat} {y : DataW H × List MemPlace} (hf : DataW.trod enc Tryz.prog W 0 (fun _ => true) true fuel 38 cs = some y) :
  ∃ (v : Value) (l : List Nat), cs = [v] ∧ (Kv W v l ∧ keysOk l) ∧ Szd y.1 l := by
 rcases Go.Deep.open_slice Tryz.underlying38 hf with ⟨hcs, hx⟩ | ⟨a, len, cap, m, n, D, Pl, hcs, _, hl, hm, hmm, hx, hel⟩
 ·subst hcs;exact ⟨_, [], rfl, ⟨⟨none, 0, rfl, Nat.le_refl _, by simp, by simp, fun i hi => absurd hi (by simp [ib])⟩, by intro x hx; simp at hx⟩, .inl ⟨by rw [hx], rfl⟩⟩
 ·subst hcs;simp only [if_true] at hmm
  have each : ∀ i, ∃ x : Nat, i < len → W.cell? (a.add i) = some (.int .u64 x) ∧ x < 18446744073709551616 := by
   intro i;by_cases hi : i < len
   ·obtain ⟨cs', h1, h2⟩ := hel i (by omega);rw [cells_u64] at h1;obtain ⟨_, hlen, hcell⟩ := World.cells?_some h1
    match cs', hlen with
    | [c], _ =>
     obtain ⟨x, rfl, hx⟩ := cell_u64 h2;have e0 := hcell 0 (by omega);rw [Go.Deep.add_add] at e0;exact ⟨x, fun _ => ⟨by simpa using e0, hx⟩⟩
   ·exact ⟨0, fun h => absurd h hi⟩
  obtain ⟨X, hX⟩ : ∃ X : Nat → Nat, ∀ i, i < len → W.cell? (a.add i) = some (.int .u64 (X i)) ∧ X i < 18446744073709551616 := ⟨fun i => (each i).choose, fun i => (each i).choose_spec⟩;clear each hel;refine ⟨_, (List.range len).map X, rfl, ⟨⟨some a, cap, by simp [ib], by simpa [ib] using hl, hm, by simp, ?_⟩, ?_⟩, .inr ⟨_, _, by rw [hx], by simp⟩⟩
  ·intro i hi;have hil : i < len := by simpa [ib] using hi
   obtain ⟨h0, _⟩ := hX 0 (by omega);obtain ⟨g0, _⟩ := hX i hil;obtain ⟨b, off, spot⟩ := a;have hs1 : spot = none := by simpa [Addr.add] using World.cell?_spot h0
   subst hs1;rw [WideShapes.add_plain] at g0;exact ⟨b, off, rfl, by rw [g0]; simp [ib, List.getElem?_range hil]⟩
  ·intro x hx;simp only [List.mem_map, List.mem_range] at hx;obtain ⟨i, hi, rfl⟩ := hx;exact (hX i hi).2
theorem open_kv {H : Type} {enc : TypeId × Value → H} {W : World} {v : Value} {d : DataW H} {p : List MemPlace} {base : Nat}
  (hv : Value.okWide Tryz.prog W .any base 38 v) (h : DataW.Trod enc Tryz.prog W 0 (fun _ => true) true 38 v d p) :
  ∃ l : List Nat, Kv W v l ∧ keysOk l ∧ Szd d l := by
 obtain ⟨ao, len0, cap0, rfl⟩ := okWide_slice Tryz.underlying38 hv;obtain ⟨fuel, hf⟩ := h;obtain ⟨v, l, e, h1, h2⟩ := core_kv hf;simp [Value.cells] at e;subst e;exact ⟨l, h1.1, h1.2, h2⟩
end
end Go.Proofs.YtcmklbibehnloaaGreat
