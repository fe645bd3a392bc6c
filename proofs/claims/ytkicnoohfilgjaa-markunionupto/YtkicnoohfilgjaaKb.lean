/- Keys and marks in memory; contracts of Rising, counted, Sound, Compare, Judge, the program's and the reference's. -/
import Derived.Test.YtkicnoohfilgjaaKa

import Derived.Test.YtkicnoohfilgjaaWp

import Derived.Lib.Hide

import Derived.Deep.QuietTactic

import Derived.BigQuiet

import Derived.Deep.RegionHeld3

import Derived.Deep.DeepCutAuto

namespace Go.Proofs.Ytkicnoohfilgjaa

open Go.RowKit



def lastN (l : List Nat) : Option Nat := l.getLast?
theorem lastN_snoc (q : List Nat) (c : Nat) : lastN (q ++ [c]) = some c := by simp [lastN]
theorem lastN_take {l : List Nat} {i : Nat} (hi : i < l.length) : lastN (l.take (i + 1)) = some l[i] := by
  rw [List.take_succ_eq_append_getElem hi, lastN_snoc]
theorem ris_start {l : List Nat} (hp : 0 < l.length) : risE (lastN (l.take 1)) (l.drop 1) = risB l := by
  cases l with
  | nil => simp at hp
  | cons c r => simp [risB, risE, folN, lastN]
theorem ris_step {l : List Nat} {i : Nat} (hi : i < l.length) (h : risE (lastN (l.take i)) (l.drop i) = risB l) (hf : folN (lastN (l.take i)) l[i] = true) : risE (lastN (l.take (i + 1))) (l.drop (i + 1)) = risB l := by
  rw [List.drop_eq_getElem_cons hi, risE, hf, Bool.true_and] at h
  rw [lastN_take hi]
  exact h
theorem ris_stop {l : List Nat} {i : Nat} (hi : i < l.length) (h : risE (lastN (l.take i)) (l.drop i) = risB l) (hf : folN (lastN (l.take i)) l[i] = false) : risB l = false := by
  rw [List.drop_eq_getElem_cons hi, risE, hf, Bool.false_and] at h
  exact h.symm
theorem ris_end {l : List Nat} {i : Nat} (hi : l.length ≤ i) (h : risE (lastN (l.take i)) (l.drop i) = risB l) : risB l = true := by
  rw [List.drop_eq_nil_of_le hi, risE] at h
  exact h.symm


/-- The value v is a slice of keys that holds l. -/
abbrev Kv (w : World) (v : Value) (l : List Nat) : Prop := Sv .u64 w v (ib l)
theorem kv_form {w : World} {v : Value} {l : List Nat} (h : Kv w v l) : ∃ ao cap, v = .slice ao l.length cap ∧ l.length ≤ cap ∧ cap ≤ maxLen := by
  obtain ⟨ao, cap, e, h1, h2, _⟩ := h
  rw [ib_len] at e h1
  exact ⟨ao, cap, e, h1, h2⟩
theorem kv_cases {w : World} {v : Value} {l : List Nat} (h : Kv w v l) :
    (l = [] ∧ ∃ ao cap, v = .slice ao 0 cap) ∨ ∃ b off cap, v = .slice (some ⟨b, off, none⟩) l.length cap ∧ 0 < l.length ∧ l.length ≤ cap ∧ cap ≤ maxLen ∧
      ∀ i, (hi : i < l.length) → w.cell? ⟨b, off + i, none⟩ = some (.int .u64 (l[i] : Nat)) := by
  obtain ⟨ao, cap, rfl, h1, h2, h3, h4⟩ := h
  rw [ib_len] at h1
  rw [ib_len]
  by_cases h0 : l = []
  · subst h0; exact .inl ⟨rfl, ao, cap, rfl⟩
  · have hp := List.length_pos_iff.2 h0
    obtain ⟨b, off, rfl, _⟩ := h4 0 (by rw [ib_len]; exact hp)
    refine .inr ⟨b, off, cap, rfl, hp, h1, h2, fun i hi => ?_⟩
    obtain ⟨b', off', e1, e2⟩ := h4 i (by rw [ib_len]; exact hi)
    cases e1
    rw [e2]
    simp [ib, List.getD, hi]
/-- A mark's block. -/
structure MB (w : World) (P : Nat) (b a : Int) (v : Value) : Prop where
  c0 : w.cell? ⟨P, 0, none⟩ = some (.int .i64 b)
  c1 : w.cell? ⟨P, 1, none⟩ = some (.int .i64 a)
  c2 : w.cell? ⟨P, 2, none⟩ = some v
  z : ∀ j, w.frozen? ⟨P, j, none⟩ = false
theorem MB.keep {w w' : World} {P : Nat} {b a : Int} {v : Value} (h : MB w P b a v) (hb : Below w.heap.size w w') : MB w' P b a v := by
  have hl := cell_lt h.c0
  exact ⟨by rw [hb.cell (p := ⟨P, 0, none⟩) hl]; exact h.c0, by rw [hb.cell (p := ⟨P, 1, none⟩) hl]; exact h.c1, by rw [hb.cell (p := ⟨P, 2, none⟩) hl]; exact h.c2, fun j => by rw [hb.frozen (p := ⟨P, j, none⟩) hl]; exact h.z j⟩
theorem mb_new (w : World) (b a : Int) (v : Value) : MB (w.alloc (Obj.cells #[.int .i64 b, .int .i64 a, v] 26)) w.heap.size b a v := by
  constructor <;> simp [go_sem]


set_option maxRecDepth 100000 in
set_option maxHeartbeats 2000000 in
theorem ris_some (l : List Nat) (b off cap : Nat) (w : World) (hl : l.length ≤ cap) (hcap : cap ≤ maxLen) (hp : 0 < l.length) (hc : ∀ i, (hi : i < l.length) → w.cell? ⟨b, off + i, none⟩ = some (.int .u64 (l[i] : Nat))) :
    Calls Try.prog 14 #[.slice (some ⟨b, off, none⟩) l.length cap] w fun e w' => e = .returned (.bool (risB l)) ∧ Below w.heap.size w w' := by
  unfold maxLen at hcap
  have hli : (l.length : Int) ≤ 9223372036854775807 := by omega
  have HC : Hid (∀ i, (hi : i < l.length) → w.cell? ⟨b, off + i, none⟩ = some (.int .u64 (l[i] : Nat))) := hc
  have HP : Hid (0 < l.length) := hp
  clear hc hcap hl hp
  go_enter Try.func14, Try.ntmps14
  go_wp2_with fail
  go_loopw [3] (fun iv wr => ∃ i : Nat, iv = .int .i64 i ∧ 1 ≤ i ∧ i ≤ l.length ∧ risE (lastN (l.take i)) (l.drop i) = risB l ∧ Below w.heap.size w wr) (fun iv _ => l.length - (intOf iv).toNat)
  case atStart => exact ⟨1, rfl, by omega, HP.out, ris_start HP.out, Below.refl _ _⟩
  case round =>
    obtain ⟨i, rfl, hi1, hil, hord, hbel⟩ := hrel
    have HO : Hid (risE (lastN (l.take i)) (l.drop i) = risB l) := hord
    have HB : Hid (Below w.heap.size w wr) := hbel
    clear hord hbel
    by_cases hlt : i < l.length
    · obtain ⟨j, rfl⟩ : ∃ j, i = j + 1 := ⟨i - 1, by omega⟩
      have hA := HC.out (j + 1) hlt
      have hD := HC.out j (by omega)
      have hA2 : wr.cell? ⟨b, off + (j + 1), none⟩ = some (.int .u64 (l[j + 1] : Nat)) := by rw [HB.out.cell (p := ⟨b, off + (j + 1), none⟩) (cell_lt hA)]; exact hA
      have hD2 : wr.cell? ⟨b, off + j, none⟩ = some (.int .u64 (l[j] : Nat)) := by rw [HB.out.cell (p := ⟨b, off + j, none⟩) (cell_lt hD)]; exact hD
      have HLK : Hid (lastN (l.take (j + 1)) = some l[j]) := lastN_take (by omega)
      obtain ⟨c, hcd⟩ : ∃ c, l[j + 1] = c := ⟨_, rfl⟩
      obtain ⟨d, hdd⟩ : ∃ d, l[j] = d := ⟨_, rfl⟩
      rw [hcd] at hA2
      rw [hdd] at hD2 HLK
      have HCD : Hid (l[j + 1] = c) := hcd
      clear hcd hdd hA hD
      have hlti : ((j + 1 : Nat) : Int) < (l.length : Int) := by omega
      have hltj : (j : Int) < (l.length : Int) := by omega
      have hjj : ((j + 1 : Nat) : Int) - 1 = (j : Int) := by omega
      by_cases hk : c ≤ d
      · have hki : (c : Int) ≤ (d : Int) := by omega
        have HR : Hid (risB l = false) := ris_stop hlt HO.out (by rw [HLK.out, HCD.out]; simp [folN]; omega)
        go_wp2_with fail
        go_quiet (fail)
        go_wp2_with fail
        go_ret
        exact ⟨by rw [HR.out]; rfl, below_trans HB.out (below_drewN _ _)⟩
      · have hki : ¬ (c : Int) ≤ (d : Int) := by omega
        have HR : Hid (risE (lastN (l.take (j + 1 + 1))) (l.drop (j + 1 + 1)) = risB l) := ris_step hlt HO.out (by rw [HLK.out, HCD.out]; simp [folN]; omega)
        go_wp2_with fail
        go_quiet (fail)
        have HB2 : Hid (Below w.heap.size w (wr.drewN nq)) := below_trans HB.out (below_drewN _ _)
        go_wp2_with fail
        go_roundw
        case rel => exact ⟨j + 1 + 1, by go_num, by omega, by omega, HR.out, HB2.out⟩
        case measure => simp [intOf]; omega
    · have hlti : ¬ (i : Int) < (l.length : Int) := by omega
      have HR : Hid (risB l = true) := ris_end (by omega) HO.out
      go_wp2_with fail
      go_ret
      exact ⟨by rw [HR.out]; rfl, HB.out⟩


set_option maxRecDepth 100000 in
theorem ris_none (ao : Option Addr) (cap : Nat) (w : World) :
    Calls Try.prog 14 #[.slice ao 0 cap] w fun e w' => e = .returned (.bool true) ∧ Below w.heap.size w w' := by
  go_enter Try.func14, Try.ntmps14
  go_wp2
  refine wp_loop_rounds 1 ?_
  rw [rounds_succ]
  go_wp2
  go_ret
  exact ⟨rfl, Below.refl _ _⟩


theorem ris_walk {w : World} {v : Value} {l : List Nat} (h : Kv w v l) :
    Calls Try.prog 14 #[v] w fun e w' => e = .returned (.bool (risB l)) ∧ Below w.heap.size w w' := by
  rcases kv_cases h with ⟨rfl, ao, cap, rfl⟩ | ⟨b, off, cap, rfl, hp, h1, h2, h3⟩
  · exact ris_none ao cap w
  · exact ris_some l b off cap w h1 h2 hp h3


set_option maxRecDepth 100000 in
set_option maxHeartbeats 2000000 in
theorem rris_some (l : List Nat) (b off cap : Nat) (w : World) (hl : l.length ≤ cap) (hcap : cap ≤ maxLen) (hp : 0 < l.length) (hc : ∀ i, (hi : i < l.length) → w.cell? ⟨b, off + i, none⟩ = some (.int .u64 (l[i] : Nat))) :
    Calls Try.prog 15 #[.slice (some ⟨b, off, none⟩) l.length cap] w fun e w' => e = .returned (.bool (risB l)) ∧ Below w.heap.size w w' := by
  unfold maxLen at hcap
  have hli : (l.length : Int) ≤ 9223372036854775807 := by omega
  have HC : Hid (∀ i, (hi : i < l.length) → w.cell? ⟨b, off + i, none⟩ = some (.int .u64 (l[i] : Nat))) := hc
  have HP : Hid (0 < l.length) := hp
  clear hc hcap hl hp
  go_enter Try.func15, Try.ntmps15
  go_wp2_with fail
  go_loopw [3] (fun iv wr => ∃ i : Nat, iv = .int .i64 i ∧ 1 ≤ i ∧ i ≤ l.length ∧ risE (lastN (l.take i)) (l.drop i) = risB l ∧ Below w.heap.size w wr) (fun iv _ => l.length - (intOf iv).toNat)
  case atStart => exact ⟨1, rfl, by omega, HP.out, ris_start HP.out, Below.refl _ _⟩
  case round =>
    obtain ⟨i, rfl, hi1, hil, hord, hbel⟩ := hrel
    have HO : Hid (risE (lastN (l.take i)) (l.drop i) = risB l) := hord
    have HB : Hid (Below w.heap.size w wr) := hbel
    clear hord hbel
    by_cases hlt : i < l.length
    · obtain ⟨j, rfl⟩ : ∃ j, i = j + 1 := ⟨i - 1, by omega⟩
      have hA := HC.out (j + 1) hlt
      have hD := HC.out j (by omega)
      have hA2 : wr.cell? ⟨b, off + (j + 1), none⟩ = some (.int .u64 (l[j + 1] : Nat)) := by rw [HB.out.cell (p := ⟨b, off + (j + 1), none⟩) (cell_lt hA)]; exact hA
      have hD2 : wr.cell? ⟨b, off + j, none⟩ = some (.int .u64 (l[j] : Nat)) := by rw [HB.out.cell (p := ⟨b, off + j, none⟩) (cell_lt hD)]; exact hD
      have HLK : Hid (lastN (l.take (j + 1)) = some l[j]) := lastN_take (by omega)
      obtain ⟨c, hcd⟩ : ∃ c, l[j + 1] = c := ⟨_, rfl⟩
      obtain ⟨d, hdd⟩ : ∃ d, l[j] = d := ⟨_, rfl⟩
      rw [hcd] at hA2
      rw [hdd] at hD2 HLK
      have HCD : Hid (l[j + 1] = c) := hcd
      clear hcd hdd hA hD
      have hlti : ((j + 1 : Nat) : Int) < (l.length : Int) := by omega
      have hltj : (j : Int) < (l.length : Int) := by omega
      have hjj : ((j + 1 : Nat) : Int) - 1 = (j : Int) := by omega
      by_cases hk : c ≤ d
      · have hki : (c : Int) ≤ (d : Int) := by omega
        have HR : Hid (risB l = false) := ris_stop hlt HO.out (by rw [HLK.out, HCD.out]; simp [folN]; omega)
        go_wp2_with fail
        go_quiet (fail)
        go_wp2_with fail
        go_ret
        exact ⟨by rw [HR.out]; rfl, below_trans HB.out (below_drewN _ _)⟩
      · have hki : ¬ (c : Int) ≤ (d : Int) := by omega
        have HR : Hid (risE (lastN (l.take (j + 1 + 1))) (l.drop (j + 1 + 1)) = risB l) := ris_step hlt HO.out (by rw [HLK.out, HCD.out]; simp [folN]; omega)
        go_wp2_with fail
        go_quiet (fail)
        have HB2 : Hid (Below w.heap.size w (wr.drewN nq)) := below_trans HB.out (below_drewN _ _)
        go_wp2_with fail
        go_roundw
        case rel => exact ⟨j + 1 + 1, by go_num, by omega, by omega, HR.out, HB2.out⟩
        case measure => simp [intOf]; omega
    · have hlti : ¬ (i : Int) < (l.length : Int) := by omega
      have HR : Hid (risB l = true) := ris_end (by omega) HO.out
      go_wp2_with fail
      go_ret
      exact ⟨by rw [HR.out]; rfl, HB.out⟩


set_option maxRecDepth 100000 in
theorem rris_none (ao : Option Addr) (cap : Nat) (w : World) :
    Calls Try.prog 15 #[.slice ao 0 cap] w fun e w' => e = .returned (.bool true) ∧ Below w.heap.size w w' := by
  go_enter Try.func15, Try.ntmps15
  go_wp2
  refine wp_loop_rounds 1 ?_
  rw [rounds_succ]
  go_wp2
  go_ret
  exact ⟨rfl, Below.refl _ _⟩


theorem rris_walk {w : World} {v : Value} {l : List Nat} (h : Kv w v l) :
    Calls Try.prog 15 #[v] w fun e w' => e = .returned (.bool (risB l)) ∧ Below w.heap.size w w' := by
  rcases kv_cases h with ⟨rfl, ao, cap, rfl⟩ | ⟨b, off, cap, rfl, hp, h1, h2, h3⟩
  · exact rris_none ao cap w
  · exact rris_some l b off cap w h1 h2 hp h3




theorem counted_walk (x : Int) (w : World) :
    Calls Try.prog 35 #[.int .i64 x] w fun e w' => e = .returned (.bool (cntB x)) ∧ w' = w := by
  by_cases h1 : 0 ≤ x
  · by_cases h2 : x ≤ 1099511627776
    · have e : cntB x = true := by simp [cntB, h1, h2]
      rw [e]
      go_enter Try.func35, Try.ntmps35
      go_wp2_with fail
      go_ret
      exact ⟨rfl, rfl⟩
    · have e : cntB x = false := by simp [cntB]; omega
      rw [e]
      go_enter Try.func35, Try.ntmps35
      go_wp2_with fail
      go_ret
      exact ⟨rfl, rfl⟩
  · have e : cntB x = false := by simp [cntB]; omega
    rw [e]
    go_enter Try.func35, Try.ntmps35
    go_wp2_with fail
    go_ret
    exact ⟨rfl, rfl⟩


theorem sound_nb {b a : Int} {k : List Nat} (h : cntB b = false) : soundB ⟨b, a, k⟩ = false := by simp [soundB, h]
theorem sound_na {b a : Int} {k : List Nat} (h : cntB a = false) : soundB ⟨b, a, k⟩ = false := by simp [soundB, h]
theorem sound_zero {b a : Int} {k : List Nat} (h1 : cntB b = true) (h2 : cntB a = true) (h : b = 0 ∨ a = 0) : soundB ⟨b, a, k⟩ = (decide (b = a) && decide (k.length = 0)) := by simp only [soundB, h1, h2, Bool.true_and, if_pos h]
theorem sound_some {b a : Int} {k : List Nat} (h1 : cntB b = true) (h2 : cntB a = true) (h : ¬ (b = 0 ∨ a = 0)) : soundB ⟨b, a, k⟩ = (decide (k.length ≤ 64) && risB k) := by simp only [soundB, h1, h2, Bool.true_and, if_neg h]


set_option maxRecDepth 100000 in
set_option maxHeartbeats 2000000 in
theorem sound_walk {w : World} {v : Value} {k : List Nat} (h : Kv w v k) (b a : Int) :
    Calls Try.prog 19 #[.agg #[.int .i64 b, .int .i64 a, v]] w fun e w' => e = .returned (.bool (soundB ⟨b, a, k⟩)) ∧ Below w.heap.size w w' := by
  have HB : Hid (Below w.heap.size w (w.alloc (Obj.cells #[.int .i64 b, .int .i64 a, v] 26))) := below_alloc _ _
  have HV : Hid (Kv (w.alloc (Obj.cells #[.int .i64 b, .int .i64 a, v] 26)) v k) := h.below (below_alloc _ _)
  obtain ⟨ao, cap, hv, hk1, hk2⟩ := kv_form h
  obtain ⟨n, hn⟩ : ∃ n, n = k.length := ⟨_, rfl⟩
  rw [← hn] at hv
  subst hv
  clear h hk1 hk2
  cases h1 : cntB b
  · rw [sound_nb h1]
    clear hn
    go_enter Try.func19, Try.ntmps19
    go_wp2_with fail
    refine (counted_walk b _).mono ?_
    rw [h1]
    rintro e w2 ⟨rfl, hw2⟩
    replace hw2 := hw2.symm
    subst hw2
    go_wp2_with fail
    go_ret
    exact ⟨rfl, HB.out⟩
  cases h2 : cntB a
  · rw [sound_na h2]
    clear hn
    go_enter Try.func19, Try.ntmps19
    go_wp2_with fail
    refine (counted_walk b _).mono ?_
    rw [h1]
    rintro e w2 ⟨rfl, hw2⟩
    replace hw2 := hw2.symm
    subst hw2
    go_wp2_with fail
    refine (counted_walk a _).mono ?_
    rw [h2]
    rintro e w2 ⟨rfl, hw2⟩
    replace hw2 := hw2.symm
    subst hw2
    go_wp2_with fail
    go_ret
    exact ⟨rfl, HB.out⟩
  have main : ∀ (r : Bool), soundB ⟨b, a, k⟩ = r → (∀ K : Prop, K → K) → Calls Try.prog 19 #[.agg #[.int .i64 b, .int .i64 a, .slice ao n cap]] w fun e w' => e = .returned (.bool r) ∧ Below w.heap.size w w' := by
    intro r hr _
    by_cases h0 : b = 0 ∨ a = 0
    · rw [sound_zero h1 h2 h0] at hr
      have hbz : (b == 0 || a == 0) = true := by rcases h0 with h | h <;> simp [h]
      by_cases hb : b = 0
      · have hb0 : (b == 0) = true := by simp [hb]
        by_cases ha : b = a
        · have hba : (b == a) = true := by simp [ha]
          have hr2 : ((n : Int) == 0) = r := by
            rw [← hr, show decide (b = a) = true from decide_eq_true ha, Bool.true_and, hn]
            by_cases q : k.length = 0
            · rw [q]; rfl
            · rw [decide_eq_false q, beq_eq_false_iff_ne]; omega
          clear hbz h0 hb ha hr hn
          go_enter Try.func19, Try.ntmps19
          go_wp2_with fail
          refine (counted_walk b _).mono ?_
          rw [h1]
          rintro e w2 ⟨rfl, hw2⟩
          replace hw2 := hw2.symm
          subst hw2
          go_wp2_with fail
          refine (counted_walk a _).mono ?_
          rw [h2]
          rintro e w2 ⟨rfl, hw2⟩
          replace hw2 := hw2.symm
          subst hw2
          go_wp2_with fail
          go_ret
          exact ⟨rfl, HB.out⟩
        · have hba : (b == a) = false := by simp [ha]
          have hr2 : r = false := by rw [← hr]; simp [ha]
          subst hr2
          clear hbz h0 hb ha hr hn
          go_enter Try.func19, Try.ntmps19
          go_wp2_with fail
          refine (counted_walk b _).mono ?_
          rw [h1]
          rintro e w2 ⟨rfl, hw2⟩
          replace hw2 := hw2.symm
          subst hw2
          go_wp2_with fail
          refine (counted_walk a _).mono ?_
          rw [h2]
          rintro e w2 ⟨rfl, hw2⟩
          replace hw2 := hw2.symm
          subst hw2
          go_wp2_with fail
          go_ret
          exact ⟨rfl, HB.out⟩
      · have hb0 : (b == 0) = false := by simp [hb]
        have ha : a = 0 := by rcases h0 with h | h; exact absurd h hb; exact h
        have ha0 : (a == 0) = true := by simp [ha]
        have hne : ¬ b = a := by rw [ha]; exact hb
        have hba : (b == a) = false := by simp [hne]
        have hr2 : r = false := by rw [← hr]; simp [hne]
        subst hr2
        clear hbz h0 hb ha hr hn hne
        go_enter Try.func19, Try.ntmps19
        go_wp2_with fail
        refine (counted_walk b _).mono ?_
        rw [h1]
        rintro e w2 ⟨rfl, hw2⟩
        replace hw2 := hw2.symm
        subst hw2
        go_wp2_with fail
        refine (counted_walk a _).mono ?_
        rw [h2]
        rintro e w2 ⟨rfl, hw2⟩
        replace hw2 := hw2.symm
        subst hw2
        go_wp2_with fail
        go_ret
        exact ⟨rfl, HB.out⟩
    · rw [sound_some h1 h2 h0] at hr
      have hb0 : (b == 0) = false := by rw [beq_eq_false_iff_ne]; exact fun h => h0 (.inl h)
      have ha0 : (a == 0) = false := by rw [beq_eq_false_iff_ne]; exact fun h => h0 (.inr h)
      by_cases h64 : n ≤ 64
      · have h64i : (n : Int) ≤ 64 := by omega
        have hr2 : risB k = r := by rw [← hr, ← hn]; simp [h64]
        clear h0 h64 hr hn
        go_enter Try.func19, Try.ntmps19
        go_wp2_with fail
        refine (counted_walk b _).mono ?_
        rw [h1]
        rintro e w2 ⟨rfl, hw2⟩
        replace hw2 := hw2.symm
        subst hw2
        go_wp2_with fail
        refine (counted_walk a _).mono ?_
        rw [h2]
        rintro e w2 ⟨rfl, hw2⟩
        replace hw2 := hw2.symm
        subst hw2
        go_wp2_with fail
        refine (ris_walk HV.out).mono ?_
        rw [hr2]
        rintro e w3 ⟨rfl, hB3⟩
        go_wp2_with fail
        go_ret
        exact ⟨rfl, below_trans HB.out hB3⟩
      · have h64i : ¬ (n : Int) ≤ 64 := by omega
        have hr2 : r = false := by rw [← hr, ← hn]; simp [h64]
        subst hr2
        clear h0 h64 hr hn
        go_enter Try.func19, Try.ntmps19
        go_wp2_with fail
        refine (counted_walk b _).mono ?_
        rw [h1]
        rintro e w2 ⟨rfl, hw2⟩
        replace hw2 := hw2.symm
        subst hw2
        go_wp2_with fail
        refine (counted_walk a _).mono ?_
        rw [h2]
        rintro e w2 ⟨rfl, hw2⟩
        replace hw2 := hw2.symm
        subst hw2
        go_wp2_with fail
        go_ret
        exact ⟨rfl, HB.out⟩
  exact main _ rfl (fun _ h => h)


theorem cnt_no {x : Int} (h : cntB x = false) (h0 : 0 ≤ x) : 1099511627776 < x := by simp [cntB] at h; omega


set_option maxRecDepth 100000 in
set_option maxHeartbeats 2000000 in
theorem rsound_walk {w : World} {v : Value} {k : List Nat} (h : Kv w v k) (b a : Int) :
    Calls Try.prog 27 #[.agg #[.int .i64 b, .int .i64 a, v]] w fun e w' => e = .returned (.bool (soundB ⟨b, a, k⟩)) ∧ Below w.heap.size w w' := by
  have HB : Hid (Below w.heap.size w (w.alloc (Obj.cells #[.int .i64 b, .int .i64 a, v] 26))) := below_alloc _ _
  have HV : Hid (Kv (w.alloc (Obj.cells #[.int .i64 b, .int .i64 a, v] 26)) v k) := h.below (below_alloc _ _)
  obtain ⟨MBw, hMB⟩ : ∃ MBw, MBw = w.alloc (Obj.cells #[.int .i64 b, .int .i64 a, v] 26) := ⟨_, rfl⟩
  have HMB : Hid (MB MBw w.heap.size b a v) := by rw [hMB]; exact mb_new w b a v
  have HMW : Hid (MBw = w.alloc (Obj.cells #[.int .i64 b, .int .i64 a, v] 26)) := hMB
  clear hMB
  obtain ⟨ao, cap, hv, hk1, hk2⟩ := kv_form h
  obtain ⟨n, hn⟩ : ∃ n, n = k.length := ⟨_, rfl⟩
  rw [← hn] at hv
  subst hv
  have HN : Hid (n = k.length) := hn
  clear h hk1 hk2 hn
  by_cases b1 : b < 0
  · rw [sound_nb (by simp [cntB]; omega)]
    go_enter Try.func27, Try.ntmps27
    go_wp2_with fail
    go_ret
    exact ⟨rfl, HB.out⟩
  by_cases b2 : 1099511627776 < b
  · rw [sound_nb (by simp [cntB]; omega)]
    go_enter Try.func27, Try.ntmps27
    go_wp2_with fail
    go_ret
    exact ⟨rfl, HB.out⟩
  by_cases a1 : a < 0
  · rw [sound_na (by simp [cntB]; omega)]
    go_enter Try.func27, Try.ntmps27
    go_wp2_with fail
    go_ret
    exact ⟨rfl, HB.out⟩
  by_cases a2 : 1099511627776 < a
  · rw [sound_na (by simp [cntB]; omega)]
    go_enter Try.func27, Try.ntmps27
    go_wp2_with fail
    go_ret
    exact ⟨rfl, HB.out⟩
  have h1 : cntB b = true := by simp [cntB]; omega
  have h2 : cntB a = true := by simp [cntB]; omega
  obtain ⟨S, hS⟩ : ∃ S, S = soundB ⟨b, a, k⟩ := ⟨_, rfl⟩
  rw [← hS]
  by_cases h64 : (64 : Int) < (n : Int)
  · have e : S = false := by
      have := HN.out
      rw [hS]
      by_cases h0 : b = 0 ∨ a = 0
      · rw [sound_zero h1 h2 h0, decide_eq_false (show ¬ k.length = 0 by omega), Bool.and_false]
      · rw [sound_some h1 h2 h0, decide_eq_false (show ¬ k.length ≤ 64 by omega), Bool.false_and]
    subst e
    clear hS h1 h2
    go_enter Try.func27, Try.ntmps27
    go_wp2_with fail
    go_ret
    exact ⟨rfl, HB.out⟩
  cases hr : risB k
  · have e : S = false := by
      have := HN.out
      rw [hS]
      by_cases h0 : b = 0 ∨ a = 0
      · have hk : ¬ k.length = 0 := fun q => by rw [List.eq_nil_of_length_eq_zero q] at hr; simp [risB, risE] at hr
        rw [sound_zero h1 h2 h0, decide_eq_false hk, Bool.and_false]
      · rw [sound_some h1 h2 h0, hr, Bool.and_false]
    subst e
    clear hS h1 h2
    go_enter Try.func27, Try.ntmps27
    go_wp2_with fail
    refine (rris_walk HV.out).mono ?_
    rw [hr]
    rintro e w3 ⟨rfl, hB3⟩
    go_wp2_with fail
    go_ret
    exact ⟨rfl, below_trans HB.out hB3⟩
  have go : ∀ w3, Below MBw.heap.size MBw w3 → MB w3 w.heap.size b a (.slice ao n cap) := fun w3 h => HMB.out.keep h
  rw [HMW.out] at go
  have GO : Hid (∀ w3, Below (w.alloc (Obj.cells #[.int .i64 b, .int .i64 a, .slice ao n cap] 26)).heap.size (w.alloc (Obj.cells #[.int .i64 b, .int .i64 a, .slice ao n cap] 26)) w3 → MB w3 w.heap.size b a (.slice ao n cap)) := go
  clear go
  by_cases h0 : b = 0 ∨ a = 0
  · rw [sound_zero h1 h2 h0] at hS
    by_cases hb : b = 0
    · have hb0 : (b == 0) = true := by simp [hb]
      by_cases ha : a = 0
      · have ha0 : (a == 0) = true := by simp [ha]
        have hr2 : ((n : Int) == 0) = S := by
          rw [hS, show decide (b = a) = true from decide_eq_true (by rw [hb, ha]), Bool.true_and, HN.out]
          by_cases q : k.length = 0
          · rw [q]; rfl
          · rw [decide_eq_false q, beq_eq_false_iff_ne]; omega
        clear h0 hb ha hS h1 h2 b1 b2 a1 a2
        have b1 : ¬ b < 0 := by rw [beq_iff_eq] at hb0; omega
        have b2 : ¬ 1099511627776 < b := by rw [beq_iff_eq] at hb0; omega
        have a1 : ¬ a < 0 := by rw [beq_iff_eq] at ha0; omega
        have a2 : ¬ 1099511627776 < a := by rw [beq_iff_eq] at ha0; omega
        go_enter Try.func27, Try.ntmps27
        go_wp2_with fail
        refine (rris_walk HV.out).mono ?_
        rw [hr]
        rintro e w3 ⟨rfl, hB3⟩
        have hM := GO.out w3 hB3
        have x0 := hM.c0
        have x1 := hM.c1
        have x2 := hM.c2
        clear hM
        go_wp2_with fail
        go_ret
        exact ⟨rfl, below_trans HB.out hB3⟩
      · have ha0 : (a == 0) = false := by simp [ha]
        have hr2 : S = false := by rw [hS, decide_eq_false (show ¬ b = a by omega), Bool.false_and]
        subst hr2
        clear h0 hb ha hS h1 h2
        go_enter Try.func27, Try.ntmps27
        go_wp2_with fail
        refine (rris_walk HV.out).mono ?_
        rw [hr]
        rintro e w3 ⟨rfl, hB3⟩
        have hM := GO.out w3 hB3
        have x0 := hM.c0
        have x1 := hM.c1
        have x2 := hM.c2
        clear hM
        go_wp2_with fail
        go_ret
        exact ⟨rfl, below_trans HB.out hB3⟩
    · have hb0 : (b == 0) = false := by simp [hb]
      have ha : a = 0 := by rcases h0 with h | h; exact absurd h hb; exact h
      have ha0 : (a == 0) = true := by simp [ha]
      have hr2 : S = false := by rw [hS, decide_eq_false (show ¬ b = a by omega), Bool.false_and]
      subst hr2
      clear h0 hb ha hS h1 h2
      go_enter Try.func27, Try.ntmps27
      go_wp2_with fail
      refine (rris_walk HV.out).mono ?_
      rw [hr]
      rintro e w3 ⟨rfl, hB3⟩
      have hM := GO.out w3 hB3
      have x0 := hM.c0
      have x1 := hM.c1
      have x2 := hM.c2
      clear hM
      go_wp2_with fail
      go_ret
      exact ⟨rfl, below_trans HB.out hB3⟩
  · rw [sound_some h1 h2 h0] at hS
    have hb0 : (b == 0) = false := by rw [beq_eq_false_iff_ne]; exact fun h => h0 (.inl h)
    have ha0 : (a == 0) = false := by rw [beq_eq_false_iff_ne]; exact fun h => h0 (.inr h)
    have hr2 : S = true := by rw [hS, hr, decide_eq_true (show k.length ≤ 64 by have := HN.out; omega)]; rfl
    subst hr2
    clear h0 hS h1 h2
    go_enter Try.func27, Try.ntmps27
    go_wp2_with fail
    refine (rris_walk HV.out).mono ?_
    rw [hr]
    rintro e w3 ⟨rfl, hB3⟩
    have hM := GO.out w3 hB3
    have x0 := hM.c0
    have x1 := hM.c1
    clear hM
    go_wp2_with fail
    go_ret
    exact ⟨rfl, below_trans HB.out hB3⟩


/-- How two attempts stand. -/
def cmpI (x y : Int) : Int := if x < y then -1 else if y < x then 1 else 0
def cmpA (b a ob oa : Int) : Int := if b = ob then cmpI a oa else cmpI b ob
theorem inan_walk (x : Int) (w : World) :
    Calls Try.prog 42 #[.int .i64 x] w fun e w' => e = .returned (.bool false) ∧ w' = w := by
  go_enter Try.func42, Try.ntmps42
  go_wp2
  all_goals (go_ret; exact ⟨rfl, rfl⟩)
theorem icmp_walk (x y : Int) (w : World) :
    Calls Try.prog 36 #[.int .i64 x, .int .i64 y] w fun e w' => e = .returned (.int .i64 (cmpI x y)) ∧ w' = w := by
  have main : ∀ r : Int, cmpI x y = r → Calls Try.prog 36 #[.int .i64 x, .int .i64 y] w fun e w' => e = .returned (.int .i64 r) ∧ w' = w := by
    intro r hr
    by_cases h1 : x < y
    · have e : r = -1 := by rw [← hr]; exact if_pos h1
      subst e
      clear hr
      go_enter Try.func36, Try.ntmps36
      go_wp2_with fail
      refine (inan_walk x _).mono ?_
      rintro e w2 ⟨rfl, rfl⟩
      go_wp2_with fail
      refine (inan_walk y _).mono ?_
      rintro e w2 ⟨rfl, rfl⟩
      go_wp2_with fail
      go_ret
      exact ⟨rfl, rfl⟩
    · by_cases h2 : y < x
      · have e : r = 1 := by rw [← hr]; unfold cmpI; rw [if_neg h1, if_pos h2]
        subst e
        clear hr
        go_enter Try.func36, Try.ntmps36
        go_wp2_with fail
        refine (inan_walk x _).mono ?_
        rintro e w2 ⟨rfl, rfl⟩
        go_wp2_with fail
        refine (inan_walk y _).mono ?_
        rintro e w2 ⟨rfl, rfl⟩
        go_wp2_with fail
        go_ret
        exact ⟨rfl, rfl⟩
      · have e : r = 0 := by rw [← hr]; unfold cmpI; rw [if_neg h1, if_neg h2]
        subst e
        clear hr
        go_enter Try.func36, Try.ntmps36
        go_wp2_with fail
        refine (inan_walk x _).mono ?_
        rintro e w2 ⟨rfl, rfl⟩
        go_wp2_with fail
        refine (inan_walk y _).mono ?_
        rintro e w2 ⟨rfl, rfl⟩
        go_wp2_with fail
        go_ret
        exact ⟨rfl, rfl⟩
  exact main _ rfl
theorem mcmp_walk (b a ob oa : Int) (w : World) :
    Calls Try.prog 21 #[.int .i64 b, .int .i64 a, .int .i64 ob, .int .i64 oa] w fun e w' => e = .returned (.int .i64 (cmpA b a ob oa)) ∧ w' = w := by
  have main : ∀ r : Int, cmpA b a ob oa = r → Calls Try.prog 21 #[.int .i64 b, .int .i64 a, .int .i64 ob, .int .i64 oa] w fun e w' => e = .returned (.int .i64 r) ∧ w' = w := by
    intro r hr
    by_cases h1 : b = ob
    · have e : cmpI a oa = r := by rw [← hr]; exact (if_pos h1).symm
      have h1b : (b != ob) = false := by simp [h1]
      clear hr h1
      go_enter Try.func21, Try.ntmps21
      go_wp2_with fail
      refine (icmp_walk a oa _).mono ?_
      rw [e]
      rintro e w2 ⟨rfl, rfl⟩
      go_wp2_with fail
      go_ret
      exact ⟨rfl, rfl⟩
    · have e : cmpI b ob = r := by rw [← hr]; exact (if_neg h1).symm
      have h1b : (b != ob) = true := by simp [h1]
      clear hr h1
      go_enter Try.func21, Try.ntmps21
      go_wp2_with fail
      refine (icmp_walk b ob _).mono ?_
      rw [e]
      rintro e w2 ⟨rfl, rfl⟩
      go_wp2_with fail
      go_ret
      exact ⟨rfl, rfl⟩
  exact main _ rfl


end Go.Proofs.Ytkicnoohfilgjaa


