/- Contracts of Has, Judge, the program's and the reference's; the reference's Compare. -/
import Derived.Test.YtkicnoohfilgjaaKc

namespace Go.Proofs.Ytkicnoohfilgjaa

open Go.RowKit



set_option maxRecDepth 100000 in
set_option maxHeartbeats 1000000 in
theorem index_some (l : List Nat) (x b off cap : Nat) (w : World) (hl : l.length ≤ maxLen) (hc : ∀ i, (hi : i < l.length) → w.cell? ⟨b, off + i, none⟩ = some (.int .u64 (l[i] : Nat))) :
    Calls Try.prog 41 #[.slice (some ⟨b, off, none⟩) l.length cap, .int .u64 x] w fun e w' => (∃ r : Int, e = .returned (.int .i64 r) ∧ ((0 ≤ r ∧ x ∈ l) ∨ (r = -1 ∧ x ∉ l))) ∧ w' = w := by
  unfold maxLen at hl
  have hli : (l.length : Int) ≤ 9223372036854775807 := by omega
  have HC : Hid (∀ i, (hi : i < l.length) → w.cell? ⟨b, off + i, none⟩ = some (.int .u64 (l[i] : Nat))) := hc
  clear hc hl
  go_enter Try.func41, Try.ntmps41
  go_wp2_with fail
  go_loop [8] (fun iv => ∃ i : Nat, iv = .int .i64 i ∧ i ≤ l.length ∧ ∀ j, (hj : j < l.length) → j < i → l[j] ≠ x) (fun iv => l.length - (intOf iv).toNat)
  case atStart => exact ⟨0, rfl, by omega, fun j hj h => by omega⟩
  case round =>
    obtain ⟨i, rfl, hil, hno⟩ := hrel
    have HNO : Hid (∀ j, (hj : j < l.length) → j < i → l[j] ≠ x) := hno
    clear hno
    by_cases hlt : i < l.length
    · have hlti : (i : Int) < (l.length : Int) := by omega
      have m0 := HC.out i hlt
      obtain ⟨y, hy⟩ : ∃ y, l[i] = y := ⟨_, rfl⟩
      rw [hy] at m0
      have HY : Hid (l[i] = y) := hy
      clear hy
      by_cases he : x = y
      · have heb : ((x : Int) == (y : Int)) = true := by simp [he]
        have HM : Hid (x ∈ l) := by rw [he, ← HY.out]; exact List.getElem_mem _
        clear he
        go_wp2_with fail
        go_ret
        exact ⟨⟨_, rfl, .inl ⟨by omega, HM.out⟩⟩, rfl⟩
      · have heb : ((x : Int) == (y : Int)) = false := by rw [beq_eq_false_iff_ne]; omega
        have HNX : Hid (∀ j, (hj : j < l.length) → j < i + 1 → l[j] ≠ x) := fun j hj hji => by
          rcases Nat.lt_or_ge j i with q | q
          · exact HNO.out j hj q
          · obtain rfl : j = i := by omega
            rw [HY.out]; exact fun e => he e.symm
        clear he
        go_wp2_with fail
        go_round
        case rel => exact ⟨i + 1, by go_num, hlt, HNX.out⟩
        case measure => simp [intOf]; omega
    · have hlti : ¬ (i : Int) < (l.length : Int) := by omega
      have HM : Hid (x ∉ l) := fun hx => by
        obtain ⟨j, hj, e⟩ := List.mem_iff_getElem.1 hx
        exact HNO.out j hj (by omega) e
      go_wp2_with fail
      go_ret
      exact ⟨⟨_, rfl, .inr ⟨rfl, HM.out⟩⟩, rfl⟩
set_option maxRecDepth 100000 in
theorem index_none (x : Nat) (ao : Option Addr) (cap : Nat) (w : World) :
    Calls Try.prog 41 #[.slice ao 0 cap, .int .u64 x] w fun e w' => (∃ r : Int, e = .returned (.int .i64 r) ∧ ((0 ≤ r ∧ x ∈ ([] : List Nat)) ∨ (r = -1 ∧ x ∉ ([] : List Nat)))) ∧ w' = w := by
  go_enter Try.func41, Try.ntmps41
  go_wp2
  refine wp_loop_rounds 1 ?_
  rw [rounds_succ]
  go_wp2
  go_ret
  exact ⟨⟨_, rfl, .inr ⟨rfl, by simp⟩⟩, rfl⟩
theorem index_walk {w : World} {v : Value} {l : List Nat} (h : Kv w v l) (x : Nat) :
    Calls Try.prog 41 #[v, .int .u64 x] w fun e w' => (∃ r : Int, e = .returned (.int .i64 r) ∧ ((0 ≤ r ∧ x ∈ l) ∨ (r = -1 ∧ x ∉ l))) ∧ w' = w := by
  rcases kv_cases h with ⟨rfl, ao, cap, rfl⟩ | ⟨b, off, cap, rfl, hp, h1, h2, h3⟩
  · exact index_none x ao cap w
  · exact index_some l x b off cap w (by omega) h3
theorem contains_walk {w : World} {v : Value} {l : List Nat} (h : Kv w v l) (x : Nat) :
    Calls Try.prog 32 #[v, .int .u64 x] w fun e w' => e = .returned (.bool (decide (x ∈ l))) ∧ w' = w := by
  have HV : Hid (Kv w v l) := h
  clear h
  by_cases hx : x ∈ l
  · rw [decide_eq_true hx]
    have HX : Hid (x ∈ l) := hx
    clear hx
    go_enter Try.func32, Try.ntmps32
    go_wp2_with fail
    refine (index_walk HV.out x).mono ?_
    rintro e w2 ⟨⟨r, rfl, hr⟩, rfl⟩
    have hr0 : 0 ≤ r := by rcases hr with ⟨q, _⟩ | ⟨_, q⟩; exact q; exact absurd HX.out q
    clear hr
    go_wp2_with fail
    go_ret
    exact ⟨rfl, rfl⟩
  · rw [decide_eq_false hx]
    have HX : Hid (x ∉ l) := hx
    clear hx
    go_enter Try.func32, Try.ntmps32
    go_wp2_with fail
    refine (index_walk HV.out x).mono ?_
    rintro e w2 ⟨⟨r, rfl, hr⟩, rfl⟩
    have hr0 : r = -1 := by rcases hr with ⟨_, q⟩ | ⟨q, _⟩; exact absurd q HX.out; exact q
    subst hr0
    clear hr
    go_wp2_with fail
    go_ret
    exact ⟨rfl, rfl⟩
theorem has_walk {w : World} {v : Value} {k : List Nat} (h : Kv w v k) (b a : Int) (x : Nat) :
    Calls Try.prog 16 #[.agg #[.int .i64 b, .int .i64 a, v], .int .u64 x] w fun e w' => e = .returned (.bool (decide (x ∈ k))) ∧ Below w.heap.size w w' := by
  have HB : Hid (Below w.heap.size w (w.alloc (Obj.cells #[.int .i64 b, .int .i64 a, v] 26))) := below_alloc _ _
  have HV : Hid (Kv (w.alloc (Obj.cells #[.int .i64 b, .int .i64 a, v] 26)) v k) := h.below (below_alloc _ _)
  clear h
  go_enter Try.func16, Try.ntmps16
  go_wp2_with fail
  refine (contains_walk HV.out x).mono ?_
  rintro e w2 ⟨rfl, hw2⟩
  replace hw2 := hw2.symm
  subst hw2
  go_wp2_with fail
  go_ret
  exact ⟨rfl, HB.out⟩


set_option maxRecDepth 100000 in
set_option maxHeartbeats 1000000 in
theorem rhas_some (l : List Nat) (x kb off cap : Nat) (b a : Int) (w : World) (hl : l.length ≤ maxLen) (hc : ∀ i, (hi : i < l.length) → w.cell? ⟨kb, off + i, none⟩ = some (.int .u64 (l[i] : Nat))) :
    Calls Try.prog 17 #[.agg #[.int .i64 b, .int .i64 a, .slice (some ⟨kb, off, none⟩) l.length cap], .int .u64 x] w fun e w' => e = .returned (.bool (decide (x ∈ l))) ∧ Below w.heap.size w w' := by
  unfold maxLen at hl
  have hli : (l.length : Int) ≤ 9223372036854775807 := by omega
  have HC : Hid (∀ i, (hi : i < l.length) → (w.alloc (Obj.cells #[.int .i64 b, .int .i64 a, .slice (some ⟨kb, off, none⟩) l.length cap] 26)).cell? ⟨kb, off + i, none⟩ = some (.int .u64 (l[i] : Nat))) := fun i hi => by rw [(below_alloc w _).cell (p := ⟨kb, off + i, none⟩) (cell_lt (hc i hi))]; exact hc i hi
  have HB : Hid (Below w.heap.size w (w.alloc (Obj.cells #[.int .i64 b, .int .i64 a, .slice (some ⟨kb, off, none⟩) l.length cap] 26))) := below_alloc _ _
  clear hc hl
  go_enter Try.func17, Try.ntmps17
  go_wp2_with fail
  go_loop [5] (fun iv => ∃ i : Nat, iv = .int .i64 i ∧ i ≤ l.length ∧ ∀ j, (hj : j < l.length) → j < i → l[j] ≠ x) (fun iv => l.length - (intOf iv).toNat)
  case atStart => exact ⟨0, rfl, by omega, fun j hj h => by omega⟩
  case round =>
    obtain ⟨i, rfl, hil, hno⟩ := hrel
    have HNO : Hid (∀ j, (hj : j < l.length) → j < i → l[j] ≠ x) := hno
    clear hno
    by_cases hlt : i < l.length
    · have hlti : (i : Int) < (l.length : Int) := by omega
      have m0 := HC.out i hlt
      obtain ⟨y, hy⟩ : ∃ y, l[i] = y := ⟨_, rfl⟩
      rw [hy] at m0
      have HY : Hid (l[i] = y) := hy
      clear hy
      by_cases he : y = x
      · have heb : ((y : Int) == (x : Int)) = true := by simp [he]
        have HM : Hid (decide (x ∈ l) = true) := decide_eq_true (by rw [← he, ← HY.out]; exact List.getElem_mem _)
        clear he
        go_wp2_with fail
        go_ret
        exact ⟨by rw [HM.out]; rfl, HB.out⟩
      · have heb : ((y : Int) == (x : Int)) = false := by rw [beq_eq_false_iff_ne]; omega
        have HNX : Hid (∀ j, (hj : j < l.length) → j < i + 1 → l[j] ≠ x) := fun j hj hji => by
          rcases Nat.lt_or_ge j i with q | q
          · exact HNO.out j hj q
          · obtain rfl : j = i := by omega
            rw [HY.out]; exact he
        clear he
        go_wp2_with fail
        go_round
        case rel => exact ⟨i + 1, by go_num, hlt, HNX.out⟩
        case measure => simp [intOf]; omega
    · have hlti : ¬ (i : Int) < (l.length : Int) := by omega
      have HM : Hid (decide (x ∈ l) = false) := decide_eq_false fun hx => by
        obtain ⟨j, hj, e⟩ := List.mem_iff_getElem.1 hx
        exact HNO.out j hj (by omega) e
      go_wp2_with fail
      go_ret
      exact ⟨by rw [HM.out]; rfl, HB.out⟩
set_option maxRecDepth 100000 in
theorem rhas_none (x : Nat) (ao : Option Addr) (cap : Nat) (b a : Int) (w : World) :
    Calls Try.prog 17 #[.agg #[.int .i64 b, .int .i64 a, .slice ao 0 cap], .int .u64 x] w fun e w' => e = .returned (.bool (decide (x ∈ ([] : List Nat)))) ∧ Below w.heap.size w w' := by
  have HM : Hid (decide (x ∈ ([] : List Nat)) = false) := by simp [Hid]
  go_enter Try.func17, Try.ntmps17
  go_wp2_with fail
  refine wp_loop_rounds 1 ?_
  rw [rounds_succ]
  go_wp2_with fail
  go_ret
  exact ⟨by rw [HM.out]; rfl, below_alloc _ _⟩
theorem rhas_walk {w : World} {v : Value} {k : List Nat} (h : Kv w v k) (b a : Int) (x : Nat) :
    Calls Try.prog 17 #[.agg #[.int .i64 b, .int .i64 a, v], .int .u64 x] w fun e w' => e = .returned (.bool (decide (x ∈ k))) ∧ Below w.heap.size w w' := by
  rcases kv_cases h with ⟨rfl, ao, cap, rfl⟩ | ⟨kb, off, cap, rfl, hp, h1, h2, h3⟩
  · exact rhas_none x ao cap b a w
  · exact rhas_some k x kb off cap b a w (by omega) h3


/-- What a store says. -/
def judE (c : Int) : Nat := if c < 0 then 130 else if 0 < c then 131 else 0
def judI (mb ma b a : Int) : Nat := if b < 1 ∨ a < 1 then 1 else judE (cmpA b a mb ma)
theorem cmpI_cases (x y : Int) : (x < y ∧ cmpI x y = -1) ∨ (y < x ∧ cmpI x y = 1) ∨ (x = y ∧ cmpI x y = 0) := by
  unfold cmpI
  by_cases h1 : x < y
  · exact .inl ⟨h1, if_pos h1⟩
  · by_cases h2 : y < x
    · exact .inr (.inl ⟨h2, by rw [if_neg h1, if_pos h2]⟩)
    · exact .inr (.inr ⟨by omega, by rw [if_neg h1, if_neg h2]⟩)
theorem cmpA_cases (b a ob oa : Int) : ((b < ob ∨ b = ob ∧ a < oa) ∧ cmpA b a ob oa = -1) ∨ ((ob < b ∨ b = ob ∧ oa < a) ∧ cmpA b a ob oa = 1) ∨ (b = ob ∧ a = oa ∧ cmpA b a ob oa = 0) := by
  unfold cmpA
  by_cases h : b = ob
  · rw [if_pos h]
    rcases cmpI_cases a oa with ⟨h1, h2⟩ | ⟨h1, h2⟩ | ⟨h1, h2⟩
    · exact .inl ⟨.inr ⟨h, h1⟩, h2⟩
    · exact .inr (.inl ⟨.inr ⟨h, h1⟩, h2⟩)
    · exact .inr (.inr ⟨h, h1, h2⟩)
  · rw [if_neg h]
    rcases cmpI_cases b ob with ⟨h1, h2⟩ | ⟨h1, h2⟩ | ⟨h1, h2⟩
    · exact .inl ⟨.inl h1, h2⟩
    · exact .inr (.inl ⟨.inl h1, h2⟩)
    · exact absurd h1 h


theorem judge_walk {v : Value} (mb ma b a : Int) (w : World) :
    Calls Try.prog 20 #[.agg #[.int .i64 mb, .int .i64 ma, v], .int .i64 b, .int .i64 a] w fun e w' => e = .returned (.int .i64 (judI mb ma b a : Nat)) ∧ Below w.heap.size w w' := by
  have HB : Hid (Below w.heap.size w (w.alloc (Obj.cells #[.int .i64 mb, .int .i64 ma, v] 26))) := below_alloc _ _
  by_cases h1 : b < 1
  · have e : judI mb ma b a = 1 := if_pos (.inl h1)
    rw [e]
    go_enter Try.func20, Try.ntmps20
    go_wp2_with fail
    go_ret
    exact ⟨rfl, HB.out⟩
  · by_cases h2 : a < 1
    · have e : judI mb ma b a = 1 := if_pos (.inr h2)
      rw [e]
      go_enter Try.func20, Try.ntmps20
      go_wp2_with fail
      go_ret
      exact ⟨rfl, HB.out⟩
    · have e : judI mb ma b a = judE (cmpA b a mb ma) := if_neg (by omega)
      rw [e]
      rcases cmpA_cases b a mb ma with ⟨e1, hc⟩ | ⟨e1, hc⟩ | ⟨e1, e2, hc⟩
      · rw [hc, show judE (-1) = 130 from rfl]
        clear e
        go_enter Try.func20, Try.ntmps20
        go_wp2_with fail
        refine (mcmp_walk b a mb ma _).mono ?_
        rw [hc]
        rintro e w2 ⟨rfl, hw2⟩
        replace hw2 := hw2.symm
        subst hw2
        go_wp2_with fail
        go_ret
        exact ⟨rfl, HB.out⟩
      · rw [hc, show judE 1 = 131 from rfl]
        clear e e1
        go_enter Try.func20, Try.ntmps20
        go_wp2_with fail
        refine (mcmp_walk b a mb ma _).mono ?_
        rw [hc]
        rintro e w2 ⟨rfl, hw2⟩
        replace hw2 := hw2.symm
        subst hw2
        go_wp2_with fail
        go_ret
        exact ⟨rfl, HB.out⟩
      · rw [hc, show judE 0 = 0 from rfl]
        clear e e1 e2
        go_enter Try.func20, Try.ntmps20
        go_wp2_with fail
        refine (mcmp_walk b a mb ma _).mono ?_
        rw [hc]
        rintro e w2 ⟨rfl, hw2⟩
        replace hw2 := hw2.symm
        subst hw2
        go_wp2_with fail
        go_ret
        exact ⟨rfl, HB.out⟩
end Go.Proofs.Ytkicnoohfilgjaa


