/- Contracts of bucket's inOrder, Find. -/
import Derived.Test.YtjcmmhonidamoaaBc
import Derived.Deep.QuietTactic
import Derived.BigQuiet
namespace Go.Proofs.Ytjcmmhonidamoaa
open Go.RowKit

def ordE : Option Nat → List Cl → Bool
  | _, [] => true
  | o, c :: r => folB o c.k && ordE (some c.k) r
def ordB (l : List Cl) : Bool := ordE none l
def fndF : List Cl → Nat → Nat
  | [], _ => 0
  | c :: r, k => if c.k < k then fndF r k + 1 else 0
def isK (l : List Cl) (i k : Nat) : Bool := match l[i]? with
  | none => false
  | some c => decide (c.k = k)
def findI (l : List Cl) (k : Nat) : Nat := if ordB l = true then fndF l k else 0
def findB (l : List Cl) (k : Nat) : Bool := ordB l && isK l (fndF l k) k

theorem drop_at {α : Type} {l : List α} {i : Nat} (hi : i < l.length) : l.drop i = l[i] :: l.drop (i + 1) := List.drop_eq_getElem_cons hi
theorem lastK_take {l : List Cl} {i : Nat} (hi : i < l.length) : lastK (l.take (i + 1)) = some l[i].k := by
  rw [List.take_succ_eq_append_getElem hi, lastK_snoc]
theorem ord_step {l : List Cl} {i : Nat} (hi : i < l.length) (h : ordE (lastK (l.take i)) (l.drop i) = ordB l) (hf : folB (lastK (l.take i)) l[i].k = true) : ordE (lastK (l.take (i + 1))) (l.drop (i + 1)) = ordB l := by
  rw [drop_at hi, ordE, hf, Bool.true_and] at h
  rw [lastK_take hi]
  exact h
theorem ord_stop {l : List Cl} {i : Nat} (hi : i < l.length) (h : ordE (lastK (l.take i)) (l.drop i) = ordB l) (hf : folB (lastK (l.take i)) l[i].k = false) : ordB l = false := by
  rw [drop_at hi, ordE, hf, Bool.false_and] at h
  exact h.symm
theorem ord_end {l : List Cl} {i : Nat} (hi : l.length ≤ i) (h : ordE (lastK (l.take i)) (l.drop i) = ordB l) : ordB l = true := by
  rw [List.drop_eq_nil_of_le hi, ordE] at h
  exact h.symm
theorem fnd_le (l : List Cl) (k : Nat) : fndF l k ≤ l.length := by
  induction l with
  | nil => simp [fndF]
  | cons c r ih => simp only [fndF, List.length_cons]; split <;> omega
theorem fnd_step {l : List Cl} {i k : Nat} (hi : i < l.length) (h : i + fndF (l.drop i) k = fndF l k) (hk : l[i].k < k) : i + 1 + fndF (l.drop (i + 1)) k = fndF l k := by
  rw [drop_at hi, fndF, if_pos hk] at h
  omega
theorem fnd_stop {l : List Cl} {i k : Nat} (hi : i < l.length) (h : i + fndF (l.drop i) k = fndF l k) (hk : ¬ l[i].k < k) : i = fndF l k := by
  rw [drop_at hi, fndF, if_neg hk] at h
  omega
theorem fnd_end {l : List Cl} {i k : Nat} (hi : l.length ≤ i) (h : i + fndF (l.drop i) k = fndF l k) : i = fndF l k := by
  rw [List.drop_eq_nil_of_le hi, fndF] at h
  omega

/-- Where inOrder's loop stands. -/
def OrdRel (l : List Cl) (w : World) (iv : Value) (wr : World) : Prop :=
  ∃ i : Nat, iv = .int .i64 i ∧ i ≤ l.length ∧ ordE (lastK (l.take i)) (l.drop i) = ordB l ∧ Below w.heap.size w wr

set_option maxRecDepth 100000 in
set_option maxHeartbeats 2000000 in
theorem inOrder_some (l : List Cl) (b off cap : Nat) (w : World) (hl : l.length ≤ cap) (hcap : cap ≤ maxLen) (hc : ∀ i, (hi : i < l.length) → CA w b (off + i * 6) l[i]) :
    Calls Try.prog 34 #[.slice (some ⟨b, off, none⟩) l.length cap] w fun e w' => e = .returned (.bool (ordB l)) ∧ Below w.heap.size w w' := by
  have HV : Hid (Cv w (.slice (some ⟨b, off, none⟩) l.length cap) l) := cv_of hl hcap hc
  unfold maxLen at hcap
  have hli : (l.length : Int) ≤ 9223372036854775807 := by omega
  have hci : (l.length : Int) ≤ (cap : Int) := by omega
  have HC : Hid (∀ i, (hi : i < l.length) → CA w b (off + i * 6) l[i]) := hc
  clear hc hcap hl
  go_enter Try.func34, Try.ntmps34
  go_wp2_with fail
  go_loopw [7] (fun iv wr => OrdRel l w iv wr) (fun iv _ => l.length - (intOf iv).toNat)
  case atStart => exact ⟨0, rfl, by omega, rfl, Below.refl _ _⟩
  case round =>
    obtain ⟨i, rfl, hil, hord, hbel⟩ := hrel
    have HO : Hid (ordE (lastK (l.take i)) (l.drop i) = ordB l) := hord
    have HB : Hid (Below w.heap.size w wr) := hbel
    clear hord hbel
    by_cases hlt : i < l.length
    · have hA := (HC.out i hlt).keep HB.out
      obtain ⟨c, hcd⟩ : ∃ c, l[i] = c := ⟨_, rfl⟩
      rw [hcd] at hA
      have HCD : Hid (l[i] = c) := hcd
      clear hcd
      obtain ⟨c0, c1, c2, c3, c4, c5⟩ := hA
      have hlti : (i : Int) < (l.length : Int) := by omega
      have hic : (i : Int) ≤ (cap : Int) := by omega
      go_upto_region 4 with fail
      clear c0 c1 c2 c3 c4 c5
      have HCB : Hid (CB (wr.alloc (Obj.cells #[.int .u64 c.k, .bool c.p.h, .int .u64 c.p.b, .bool c.c.h, .int .u64 c.c.b, .int .i64 c.n] 37)) wr.heap.size c) := cb_new wr c
      have HB1 : Hid (Below w.heap.size w (wr.alloc (Obj.cells #[.int .u64 c.k, .bool c.p.h, .int .u64 c.p.b, .bool c.c.h, .int .u64 c.c.b, .int .i64 c.n] 37))) := below_trans HB.out (below_alloc _ _)
      generalize wr.alloc (Obj.cells #[.int .u64 c.k, .bool c.p.h, .int .u64 c.p.b, .bool c.c.h, .int .u64 c.c.b, .int .i64 c.n] 37) = w1 at HCB HB1 ⊢
      have k0 : ∀ wx, Below w1.heap.size w1 wx → wx.cell? ⟨wr.heap.size, 0, none⟩ = some (.int .u64 c.k) := fun wx h => (HCB.out.keep h).c0
      have HV1 : ∀ wx, Below w1.heap.size w1 wx → Cv wx (.slice (some ⟨b, off, none⟩) i cap) (l.take i) := fun wx h => (HV.out.below (below_trans HB1.out h)).upto i (by omega)
      cases hf : folB (lastK (l.take i)) c.k
      · have HR : Hid (ordB l = false) := ord_stop hlt HO.out (by rw [HCD.out]; exact hf)
        refine wp_region_noPanic ?_
        refine wp_region_held_drew (S := fun wx => Below w1.heap.size w1 wx) (by kernel_rfl) ?_ (fun hHeld => ?_)
        · exact (Below.refl _ _).drew
        refine wpAnyH_take (i := 0) (oi := ⟨some 12, _, _, _, _, _⟩) (v := ?_) rfl (by kernel_rfl) (by kernel_rfl) (by kernel_rfl) (fun _ _ _ h => h) (Or.inl ⟨by rfl, ?_⟩) hHeld ?_
        rotate_left
        · intro w hSw; (try dsimp only at hSw); go_simp; all_goals (with_reducible rfl)
        try simp only [Act.put, List.setIfInBounds_toArray, List.set_cons_zero, List.set_cons_succ]
        refine wpAnyH_take (i := 1) (oi := ⟨some 13, _, _, _, _, _⟩) (v := ?_) rfl (by kernel_rfl) (by kernel_rfl) (by kernel_rfl) (fun _ _ _ h => h) (Or.inl ⟨by rfl, ?_⟩) hHeld ?_
        rotate_left
        · intro w hSw; (try dsimp only at hSw); go_simp; all_goals (with_reducible rfl)
        try simp only [Act.put, List.setIfInBounds_toArray, List.set_cons_zero, List.set_cons_succ]
        refine wpAnyH_take (i := 2) (oi := ⟨some 14, _, _, _, _, _⟩) (v := ?_) rfl (by kernel_rfl) (by kernel_rfl) (by kernel_rfl) (fun _ _ _ h => h) (Or.inl ⟨by rfl, ?_⟩) hHeld ?_
        rotate_left
        · intro w hSw; (try dsimp only at hSw); go_simp; all_goals (with_reducible rfl)
        try simp only [Act.put, List.setIfInBounds_toArray, List.set_cons_zero, List.set_cons_succ]
        refine wpAnyH_take (i := 3) (oi := ⟨some 15, _, _, _, _, _⟩) (v := ?_) rfl (by kernel_rfl) (by kernel_rfl) (by kernel_rfl) (fun _ _ _ h => h) (Or.inl ⟨by rfl, ?_⟩) hHeld ?_
        rotate_left
        · intro w hSw; (try dsimp only at hSw); go_simp; all_goals (with_reducible rfl)
        try simp only [Act.put, List.setIfInBounds_toArray, List.set_cons_zero, List.set_cons_succ]
        refine wpAnyH_take (i := 4) (oi := ⟨some 16, _, _, _, _, _⟩) (v := ?_) rfl (by kernel_rfl) (by kernel_rfl) (by kernel_rfl) (fun _ _ _ h => h) (Or.inl ⟨by rfl, ?_⟩) hHeld ?_
        rotate_left
        · intro w hSw; (try dsimp only at hSw); go_simp; all_goals (with_reducible rfl)
        try simp only [Act.put, List.setIfInBounds_toArray, List.set_cons_zero, List.set_cons_succ]
        refine wpAnyH_ready (rs := [5]) (by kernel_rfl) (by simp) ?_
        refine AllReadyH.cons (o := ⟨some 17, _, _, _, _, _⟩) rfl (fun K hK => ?_) AllReadyH.nil
        go_simp
        refine (follows_walk (HV1 _ hHeld) c.k).mono ?_
        rw [hf]
        rintro e w9 ⟨rfl, rfl⟩
        go_simp
        refine hK.out _ _ ?_ (fun hHeld => ?_)
        · exact hHeld
        clear hK K
        try simp only [Act.put, List.setIfInBounds_toArray, List.set_cons_zero, List.set_cons_succ]
        refine wpAnyH_take (i := 6) (oi := ⟨some 18, _, _, _, _, _⟩) (v := ?_) rfl (by kernel_rfl) (by kernel_rfl) (by kernel_rfl) (fun _ _ _ h => h) (Or.inl ⟨by rfl, ?_⟩) hHeld ?_
        rotate_left
        · intro w hSw; (try dsimp only at hSw); go_simp; all_goals (with_reducible rfl)
        try simp only [Act.put, List.setIfInBounds_toArray, List.set_cons_zero, List.set_cons_succ]
        refine wpAnyH_done (by kernel_rfl) ?_ _
        refine NoPanic.normal ?_
        go_wp2_with fail
        go_ret
        exact ⟨by rw [HR.out]; rfl, below_trans HB1.out hHeld⟩
      · have HR : Hid (ordE (lastK (l.take (i + 1))) (l.drop (i + 1)) = ordB l) := ord_step hlt HO.out (by rw [HCD.out]; exact hf)
        refine wp_region_noPanic ?_
        refine wp_region_held_drew (S := fun wx => Below w1.heap.size w1 wx) (by kernel_rfl) ?_ (fun hHeld => ?_)
        · exact (Below.refl _ _).drew
        refine wpAnyH_take (i := 0) (oi := ⟨some 12, _, _, _, _, _⟩) (v := ?_) rfl (by kernel_rfl) (by kernel_rfl) (by kernel_rfl) (fun _ _ _ h => h) (Or.inl ⟨by rfl, ?_⟩) hHeld ?_
        rotate_left
        · intro w hSw; (try dsimp only at hSw); go_simp; all_goals (with_reducible rfl)
        try simp only [Act.put, List.setIfInBounds_toArray, List.set_cons_zero, List.set_cons_succ]
        refine wpAnyH_take (i := 1) (oi := ⟨some 13, _, _, _, _, _⟩) (v := ?_) rfl (by kernel_rfl) (by kernel_rfl) (by kernel_rfl) (fun _ _ _ h => h) (Or.inl ⟨by rfl, ?_⟩) hHeld ?_
        rotate_left
        · intro w hSw; (try dsimp only at hSw); go_simp; all_goals (with_reducible rfl)
        try simp only [Act.put, List.setIfInBounds_toArray, List.set_cons_zero, List.set_cons_succ]
        refine wpAnyH_take (i := 2) (oi := ⟨some 14, _, _, _, _, _⟩) (v := ?_) rfl (by kernel_rfl) (by kernel_rfl) (by kernel_rfl) (fun _ _ _ h => h) (Or.inl ⟨by rfl, ?_⟩) hHeld ?_
        rotate_left
        · intro w hSw; (try dsimp only at hSw); go_simp; all_goals (with_reducible rfl)
        try simp only [Act.put, List.setIfInBounds_toArray, List.set_cons_zero, List.set_cons_succ]
        refine wpAnyH_take (i := 3) (oi := ⟨some 15, _, _, _, _, _⟩) (v := ?_) rfl (by kernel_rfl) (by kernel_rfl) (by kernel_rfl) (fun _ _ _ h => h) (Or.inl ⟨by rfl, ?_⟩) hHeld ?_
        rotate_left
        · intro w hSw; (try dsimp only at hSw); go_simp; all_goals (with_reducible rfl)
        try simp only [Act.put, List.setIfInBounds_toArray, List.set_cons_zero, List.set_cons_succ]
        refine wpAnyH_take (i := 4) (oi := ⟨some 16, _, _, _, _, _⟩) (v := ?_) rfl (by kernel_rfl) (by kernel_rfl) (by kernel_rfl) (fun _ _ _ h => h) (Or.inl ⟨by rfl, ?_⟩) hHeld ?_
        rotate_left
        · intro w hSw; (try dsimp only at hSw); go_simp; all_goals (with_reducible rfl)
        try simp only [Act.put, List.setIfInBounds_toArray, List.set_cons_zero, List.set_cons_succ]
        refine wpAnyH_ready (rs := [5]) (by kernel_rfl) (by simp) ?_
        refine AllReadyH.cons (o := ⟨some 17, _, _, _, _, _⟩) rfl (fun K hK => ?_) AllReadyH.nil
        go_simp
        refine (follows_walk (HV1 _ hHeld) c.k).mono ?_
        rw [hf]
        rintro e w9 ⟨rfl, rfl⟩
        go_simp
        refine hK.out _ _ ?_ (fun hHeld => ?_)
        · exact hHeld
        clear hK K
        try simp only [Act.put, List.setIfInBounds_toArray, List.set_cons_zero, List.set_cons_succ]
        refine wpAnyH_take (i := 6) (oi := ⟨some 18, _, _, _, _, _⟩) (v := ?_) rfl (by kernel_rfl) (by kernel_rfl) (by kernel_rfl) (fun _ _ _ h => h) (Or.inl ⟨by rfl, ?_⟩) hHeld ?_
        rotate_left
        · intro w hSw; (try dsimp only at hSw); go_simp; all_goals (with_reducible rfl)
        try simp only [Act.put, List.setIfInBounds_toArray, List.set_cons_zero, List.set_cons_succ]
        refine wpAnyH_done (by kernel_rfl) ?_ _
        refine NoPanic.normal ?_
        go_wp2_with fail
        go_roundw
        case rel => exact ⟨i + 1, by go_num, by omega, HR.out, below_trans HB1.out hHeld⟩
        case measure => simp [intOf]; omega
    · have hlti : ¬ (i : Int) < (l.length : Int) := by omega
      have HR : Hid (ordB l = true) := ord_end (by omega) HO.out
      go_wp2_with fail
      go_ret
      exact ⟨by rw [HR.out]; rfl, HB.out⟩

set_option maxRecDepth 100000 in
theorem inOrder_none (ao : Option Addr) (cap : Nat) (w : World) :
    Calls Try.prog 34 #[.slice ao 0 cap] w fun e w' => e = .returned (.bool true) ∧ Below w.heap.size w w' := by
  go_enter Try.func34, Try.ntmps34
  go_wp2
  refine wp_loop_rounds 1 ?_
  rw [rounds_succ]
  go_wp2
  go_ret
  exact ⟨rfl, Below.refl _ _⟩

theorem inOrder_walk {w : World} {v : Value} {l : List Cl} (h : Cv w v l) :
    Calls Try.prog 34 #[v] w fun e w' => e = .returned (.bool (ordB l)) ∧ Below w.heap.size w w' := by
  rcases cv_cases h with ⟨rfl, ao, cap, rfl⟩ | ⟨b, off, cap, rfl, hp, h1, h2, h3⟩
  · exact inOrder_none ao cap w
  · exact inOrder_some l b off cap w h1 h2 h3

set_option maxRecDepth 100000 in
set_option maxHeartbeats 2000000 in
theorem find_some (l : List Cl) (b off cap k : Nat) (w : World) (hl : l.length ≤ cap) (hcap : cap ≤ maxLen) (hc : ∀ i, (hi : i < l.length) → CA w b (off + i * 6) l[i]) :
    Calls Try.prog 15 #[.slice (some ⟨b, off, none⟩) l.length cap, .int .u64 k] w fun e w' => e = .returned (.tuple #[.int .i64 (findI l k), .bool (findB l k)]) ∧ Below w.heap.size w w' := by
  have HV : Hid (Cv w (.slice (some ⟨b, off, none⟩) l.length cap) l) := cv_of hl hcap hc
  unfold maxLen at hcap
  have hli : (l.length : Int) ≤ 9223372036854775807 := by omega
  have HC : Hid (∀ i, (hi : i < l.length) → CA w b (off + i * 6) l[i]) := hc
  clear hc hcap hl
  cases ho : ordB l
  · have e1 : findI l k = 0 := by simp [findI, ho]
    have e2 : findB l k = false := by simp [findB, ho]
    rw [e1, e2]
    go_enter Try.func15, Try.ntmps15
    go_wp2_with fail
    refine (inOrder_walk HV.out).mono ?_
    rw [ho]
    rintro e w1 ⟨rfl, hB1⟩
    go_wp2_with fail
    go_ret2
    exact ⟨rfl, hB1⟩
  · have e1 : findI l k = fndF l k := by simp [findI, ho]
    have e2 : findB l k = isK l (fndF l k) k := by simp [findB, ho]
    rw [e1, e2]
    clear e1 e2
    go_enter Try.func15, Try.ntmps15
    go_wp2_with fail
    refine (inOrder_walk HV.out).mono ?_
    rw [ho]
    rintro e w1 ⟨rfl, hB1⟩
    have HB : Hid (Below w.heap.size w w1) := hB1
    clear hB1 ho HV
    go_wp2_with fail
    go_loop [6] (fun iv => ∃ i : Nat, iv = .int .i64 i ∧ i ≤ l.length ∧ i + fndF (l.drop i) k = fndF l k) (fun iv => l.length - (intOf iv).toNat)
    case atStart => exact ⟨0, rfl, by omega, by simp⟩
    case round =>
      obtain ⟨i, rfl, hil, hfn⟩ := hrel
      have HF : Hid (i + fndF (l.drop i) k = fndF l k) := hfn
      clear hfn
      by_cases hlt : i < l.length
      · have hA := (HC.out i hlt).keep HB.out
        obtain ⟨c, hcd⟩ : ∃ c, l[i] = c := ⟨_, rfl⟩
        rw [hcd] at hA
        have HCD : Hid (l[i] = c) := hcd
        clear hcd
        have hlti : (i : Int) < (l.length : Int) := by omega
        have c0 := hA.c0
        have hcw : ∀ n, (w1.drewN n).cell? ⟨b, off + i * 6, none⟩ = some (.int .u64 c.k) := fun _ => c0
        clear hA
        by_cases hk : c.k < k
        · have hki : (c.k : Int) < (k : Int) := by omega
          have HR : Hid (i + 1 + fndF (l.drop (i + 1)) k = fndF l k) := fnd_step hlt HF.out (by rw [HCD.out]; exact hk)
          go_wp2_with fail
          go_round
          case rel => exact ⟨i + 1, by go_num, by omega, HR.out⟩
          case measure => simp [intOf]; omega
        · have hki : ¬ (c.k : Int) < (k : Int) := by omega
          have HR : Hid (i = fndF l k) := fnd_stop hlt HF.out (by rw [HCD.out]; exact hk)
          have HK : Hid (isK l (fndF l k) k = decide (c.k = k)) := by show _ = _; rw [← HR.out]; simp [isK, hlt, HCD.out]
          have hB0 := HB.out
          by_cases he : c.k = k
          · have hke : ((c.k : Int) == (k : Int)) = true := by simp [he]
            go_wp2_with fail
            go_quiet (fail)
            go_wp2_with fail
            go_ret2
            exact ⟨by rw [HK.out, ← HR.out]; simp [he], below_trans HB.out (below_drewN _ _)⟩
          · have hke : ((c.k : Int) == (k : Int)) = false := by simp; omega
            go_wp2_with fail
            go_quiet (fail)
            go_wp2_with fail
            go_ret2
            exact ⟨by rw [HK.out, ← HR.out]; simp [he], below_trans HB.out (below_drewN _ _)⟩
      · have hlti : ¬ (i : Int) < (l.length : Int) := by omega
        have HR : Hid (i = fndF l k) := fnd_end (by omega) HF.out
        have HK : Hid (isK l (fndF l k) k = false) := by show _ = _; rw [← HR.out]; simp [isK, List.getElem?_eq_none (Nat.le_of_not_lt hlt)]
        go_wp2_with fail
        go_quiet (fail)
        go_wp2_with fail
        go_ret2
        exact ⟨by rw [HK.out, ← HR.out]; rfl, below_trans HB.out (below_drewN _ _)⟩

set_option maxRecDepth 100000 in
set_option maxHeartbeats 1000000 in
theorem find_none (ao : Option Addr) (cap k : Nat) (w : World) :
    Calls Try.prog 15 #[.slice ao 0 cap, .int .u64 k] w fun e w' => e = .returned (.tuple #[.int .i64 0, .bool false]) ∧ Below w.heap.size w w' := by
  go_enter Try.func15, Try.ntmps15
  go_wp2_with fail
  refine (inOrder_none ao cap _).mono ?_
  rintro e w1 ⟨rfl, hB1⟩
  go_wp2_with fail
  refine wp_loop_rounds 1 ?_
  rw [rounds_succ]
  go_wp2_with fail
  go_quiet (fail)
  go_wp2_with fail
  go_ret2
  exact ⟨rfl, below_trans hB1 (below_drewN _ _)⟩

theorem find_walk {w : World} {v : Value} {l : List Cl} (h : Cv w v l) (k : Nat) :
    Calls Try.prog 15 #[v, .int .u64 k] w fun e w' => e = .returned (.tuple #[.int .i64 (findI l k), .bool (findB l k)]) ∧ Below w.heap.size w w' := by
  rcases cv_cases h with ⟨rfl, ao, cap, rfl⟩ | ⟨b, off, cap, rfl, hp, h1, h2, h3⟩
  · exact find_none ao cap k w
  · exact find_some l b off cap k w h1 h2 h3
end Go.Proofs.Ytjcmmhonidamoaa
