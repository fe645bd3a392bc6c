/- The statements' own: notes, laid. Turns as numbers, what next makes. -/
import Derived.Test.YtnnammlipfappaaJj

import Derived.Deep.CutBlock

namespace Go.Proofs.Ytnnammlipfappaa

open Ieee Go.RowKit

section

variable {w : World} {pv cv pv2 cv2 : Value} {n : Nt}

set_option maxRecDepth 100000 in
set_option maxHeartbeats 4000000 in
theorem notes_walk (hp : Nv w pv n.p) (hc : Nv w cv n.c) (hp2 : Nv w pv2 n.p) (hc2 : Nv w cv2 n.c) :
    Calls Try.prog 20 #[.agg #[.int .i64 n.b, pv, cv, .int .i64 n.a], .agg #[.int .i64 n.b, pv2, cv2, .int .i64 n.a]] w fun e w' => e = .returned (.bool true) ∧ Below w.heap.size w w' := by
  obtain ⟨w0, hw0⟩ : ∃ w0, w0 = (w.alloc (Obj.cells #[.int .i64 n.b, pv, cv, .int .i64 n.a] 41)).alloc (Obj.cells #[.int .i64 n.b, pv2, cv2, .int .i64 n.a] 41) := ⟨_, rfl⟩
  have HW0 : Hid (w0 = (w.alloc (Obj.cells #[.int .i64 n.b, pv, cv, .int .i64 n.a] 41)).alloc (Obj.cells #[.int .i64 n.b, pv2, cv2, .int .i64 n.a] 41)) := hw0
  have HB0 : Hid (Below w.heap.size w w0) := by show Below _ _ _; rw [hw0]; exact below_trans (below_alloc _ _) (below_alloc _ _)
  have HP : Hid (Nv w0 pv n.p) := hp.below HB0.out
  have HC : Hid (Nv w0 cv n.c) := hc.below HB0.out
  have HP2 : Hid (Nv w0 pv2 n.p) := hp2.below HB0.out
  have HC2 : Hid (Nv w0 cv2 n.c) := hc2.below HB0.out
  have m2 : w0.heap[w.heap.size]? = some (.cells #[.int .i64 n.b, pv, cv, .int .i64 n.a] 41 (0, 0)) := by rw [hw0]; exact alloc_old (alloc_at rfl)
  have m3 : w0.heap[w.heap.size + 1]? = some (.cells #[.int .i64 n.b, pv2, cv2, .int .i64 n.a] 41 (0, 0)) := by rw [hw0]; exact alloc_at (by simp)
  have HK : Hid (∀ w1, Below w0.heap.size w0 w1 → w1.cell? ⟨w.heap.size, 2, none⟩ = some cv ∧ w1.cell? ⟨w.heap.size + 1, 2, none⟩ = some cv2) := fun w1 hB => ⟨by rw [blk_cell (blk_below m2 hB)]; rfl, by rw [blk_cell (blk_below m3 hB)]; rfl⟩
  have hb1 : (n.b == n.b) = true := by simp
  have ha1 : (n.a == n.a) = true := by simp
  clear hp hc hp2 hc2 hw0 m2 m3
  go_enter Try.func20, Try.ntmps20
  go_wp2_with fail
  rw [← HW0.out]
  refine (ints18_walk HP.out HP2.out).mono ?_
  rw [decide_eq_true rfl]
  rintro e w1 ⟨rfl, hB1⟩
  obtain ⟨y2, z2⟩ := HK.out w1 hB1
  go_wp2_with fail
  refine (ints18_walk (HC.out.below hB1) (HC2.out.below hB1)).mono ?_
  rw [decide_eq_true rfl]
  rintro e w2 ⟨rfl, hB2⟩
  go_wp2_with fail
  go_ret
  exact ⟨rfl, below_trans HB0.out (below_trans hB1 hB2)⟩


/-- What laid answers. -/
def LdGot (b p c a : Int) (w : World) (e : Ending) (w' : World) : Prop := ∃ x y, e = .returned (.agg #[.int .i64 b, .slice (some ⟨x, 0, none⟩) 1 1, .slice (some ⟨y, 0, none⟩) 1 1, .int .i64 a]) ∧ OwN w.heap.size w' (.slice (some ⟨x, 0, none⟩) 1 1) [p] ∧ OwN w.heap.size w' (.slice (some ⟨y, 0, none⟩) 1 1) [c] ∧ Below w.heap.size w w'
theorem own_one {w : World} {B x : Nat} {p : Int} (h : w.heap[x]? = some (.cells #[.int .i64 p] 3 (0, 0))) (hb : B ≤ x) : OwN B w (.slice (some ⟨x, 0, none⟩) 1 1) [p] :=
  ⟨rfl, .inr ⟨x, 1, _, rfl, hb, h, Nat.le_refl _, by simp [maxLen], rfl, rfl⟩⟩
set_option maxRecDepth 100000 in
theorem laid18_walk (b p c a : Int) : Calls Try.prog 32 #[.int .i64 b, .int .i64 p, .int .i64 c, .int .i64 a] w (LdGot b p c a w) := by
  go_enter Try.func32, Try.ntmps32
  go_wp2_with fail
  (try simp only [Exit.inBlock, Exit.then])
  refine bodyPost_ret (v := .agg #[.int .i64 b, .slice (some ⟨w.heap.size + 1, 0, none⟩) 1 1, .slice (some ⟨w.heap.size + 1 + 1, 0, none⟩) 1 1, .int .i64 a]) (by rw [results_cell1 rfl]; go_simp) rfl ?_
  refine ⟨_, _, rfl, own_one (alloc_old (alloc_at (by simp))) (by omega), own_one (alloc_at (by simp)) (by omega), below_trans (below_trans (below_alloc _ _) (below_alloc _ _)) (below_alloc _ _)⟩
end



/-- A turn in numbers. -/
structure Tr where
  on : List Int
  m : Int
  s : Bool
  k : Bool
  b : Int
def d4 (x : Int) : Int := (IntKind.u64.wrap x).tmod 4
def d5 (x : Int) : Int := (IntKind.u64.wrap x).tmod 5
theorem d4_le (x : Int) : 0 ≤ d4 x ∧ d4 x ≤ 3 := by
  have h0 : 0 ≤ IntKind.u64.wrap x := by rw [IntKind.wrap_u64]; omega
  unfold d4
  rw [Int.tmod_eq_emod_of_nonneg h0]
  omega
theorem d5_le (x : Int) : 0 ≤ d5 x ∧ d5 x ≤ 4 := by
  have h0 : 0 ≤ IntKind.u64.wrap x := by rw [IntKind.wrap_u64]; omega
  unfold d5
  rw [Int.tmod_eq_emod_of_nonneg h0]
  omega
theorem d4_mod (x : Int) : (IntKind.u64.wrap x) % 4 = d4 x := by
  have h0 : 0 ≤ IntKind.u64.wrap x := by rw [IntKind.wrap_u64]; omega
  unfold d4
  rw [Int.tmod_eq_emod_of_nonneg h0]
theorem d5_mod (x : Int) : (IntKind.u64.wrap x) % 5 = d5 x := by
  have h0 : 0 ≤ IntKind.u64.wrap x := by rw [IntKind.wrap_u64]; omega
  unfold d5
  rw [Int.tmod_eq_emod_of_nonneg h0]
def stp (x d : Int) : Int := if 256 < x + d then 256 else x + d
def curK (c on : List Int) (k : Nat) : List Int := (List.range c.length).map fun i => if i < k ∧ i < on.length then stp (nth c i) (d5 (nth on i)) else nth c i
theorem curK_len (c on : List Int) (k : Nat) : (curK c on k).length = c.length := by simp [curK]
theorem curK_nth {c on : List Int} {k i : Nat} (hi : i < c.length) : nth (curK c on k) i = if i < k ∧ i < on.length then stp (nth c i) (d5 (nth on i)) else nth c i := by
  rw [nth_at (by rw [curK_len]; exact hi)]
  simp [curK]
theorem curK_zero (c on : List Int) : curK c on 0 = c := nth_ext (curK_len _ _ _) fun i hi => by rw [curK_len] at hi; rw [curK_nth hi, if_neg (by omega)]
theorem nth_set {l : List Int} {k i : Nat} {x : Int} (hi : i < l.length) : nth (l.set k x) i = if i = k then x else nth l i := by
  rw [nth_at (by simpa using hi), nth_at hi, List.getElem_set]
  by_cases h : k = i
  · rw [if_pos h, if_pos h.symm]
  · rw [if_neg h, if_neg (fun e => h e.symm)]
theorem curK_step {c on : List Int} {k : Nat} (hk : k < c.length) (ho : k < on.length) : (curK c on k).set k (stp (nth c k) (d5 (nth on k))) = curK c on (k + 1) := by
  refine nth_ext (by rw [List.length_set, curK_len, curK_len]) fun i hi => ?_
  rw [List.length_set, curK_len] at hi
  rw [nth_set (by rw [curK_len]; exact hi), curK_nth hi, curK_nth hi]
  by_cases e : i = k
  · subst e
    rw [if_pos rfl, if_pos ⟨by omega, ho⟩]
  · rw [if_neg e]
    by_cases h : i < k ∧ i < on.length
    · rw [if_pos h, if_pos ⟨by omega, h.2⟩]
    · rw [if_neg h, if_neg (by omega)]
theorem curK_end {c on : List Int} {k : Nat} (h : c.length ≤ k ∨ on.length ≤ k) : curK c on k = curK c on c.length := by
  refine nth_ext (by rw [curK_len, curK_len]) fun i hi => ?_
  rw [curK_len] at hi
  rw [curK_nth hi, curK_nth hi]
  by_cases h1 : i < k ∧ i < on.length
  · rw [if_pos h1, if_pos ⟨hi, h1.2⟩]
  · rw [if_neg h1, if_neg (by omega)]
def nxtN (n : Nt) (t : Tr) : Nt := if t.s = true then ⟨n.b, n.p, n.c, n.a + d4 t.m⟩ else ⟨n.b + 1, n.c, curK n.c t.on n.c.length, n.a + d4 t.m⟩
theorem curK_bnd {c on : List Int} {i : Nat} (hi : i < c.length) (h0 : 0 ≤ nth c i) (h1 : nth c i ≤ 256) (k : Nat) : nth c i ≤ nth (curK c on k) i ∧ nth (curK c on k) i ≤ 256 := by
  rw [curK_nth hi]
  have := d5_le (nth on i)
  split
  · unfold stp; split <;> omega
  · omega
/-- The next note is right, and follows. -/
theorem nxt_rgt {n : Nt} {t : Tr} {q : Int} (h : Rgt n q) (hb : n.b < 1099511627776) (ha : n.a + 3 ≤ 1099511627776) : Rgt (nxtN n t) q := by
  have h4 := d4_le t.m
  have ha0 := h.a0
  have hb0 := h.b0
  unfold nxtN
  split
  · exact ⟨by show 0 ≤ n.a + _; omega, by show n.a + _ ≤ _; omega, h.b1, h.lp, h.lc, h.r, h.f⟩
  · refine ⟨by show 0 ≤ n.a + _; omega, by show n.a + _ ≤ _; omega, by show n.b + 1 ≤ _; omega, h.lc, by show ((curK n.c t.on n.c.length).length : Int) = q; rw [curK_len]; exact h.lc, ⟨by show 0 ≤ n.b + 1; omega, ⟨by show n.c.length = (curK n.c t.on n.c.length).length; rw [curK_len], fun i hi => (curK_bnd hi (h.c0 hi) (h.f i hi) _).1⟩, fun i hi => ?_⟩, fun i hi => ?_⟩
    · have hi' : i < n.c.length := by have : i < (curK n.c t.on n.c.length).length := hi; rwa [curK_len] at this
      exact ⟨h.c0 hi', fun e => by have : n.b + 1 = 0 := e; omega⟩
    · have hi' : i < n.c.length := by have : i < (curK n.c t.on n.c.length).length := hi; rwa [curK_len] at this
      exact (curK_bnd hi' (h.c0 hi') (h.f i hi') _).2
theorem nxt_fol {n : Nt} {t : Tr} : folB (nxtN n t) n = true := by
  have h4 := d4_le t.m
  unfold nxtN
  split
  · unfold folB
    rw [decide_eq_true (by show n.a ≤ n.a + _; omega), if_pos rfl, decide_eq_true rfl, decide_eq_true rfl]; rfl
  · unfold folB
    rw [decide_eq_true (by show n.a ≤ n.a + _; omega), if_neg (by show ¬ n.b + 1 = n.b; omega), decide_eq_true rfl, decide_eq_true rfl]; rfl
theorem nxt_fwd {n : Nt} {t : Tr} {q : Int} (h : Rgt n q) : Fwd n.c (nxtN n t).c := by
  unfold nxtN
  split
  · exact ⟨rfl, fun i _ => Int.le_refl _⟩
  · exact ⟨by rw [curK_len], fun i hi => (curK_bnd hi (h.c0 hi) (h.f i hi) _).1⟩
theorem nxt_ab {n : Nt} {t : Tr} : n.a ≤ (nxtN n t).a ∧ (nxtN n t).a ≤ n.a + 3 ∧ n.b ≤ (nxtN n t).b ∧ (nxtN n t).b ≤ n.b + 1 := by
  have h4 := d4_le t.m
  unfold nxtN
  split
  · exact ⟨by show n.a ≤ n.a + _; omega, by show n.a + _ ≤ _; omega, Int.le_refl _, by show n.b ≤ _; omega⟩
  · exact ⟨by show n.a ≤ n.a + _; omega, by show n.a + _ ≤ _; omega, by show n.b ≤ n.b + 1; omega, Int.le_refl _⟩
def sptN (n : Nt) (how : Int) : Nt := if how = 1 then ⟨n.b, n.p, n.c, n.a - 1⟩ else if how = 2 then ⟨n.b + 2, n.c, n.c, n.a⟩ else if how = 3 then ⟨n.b - 1, n.p, n.c, n.a⟩ else ⟨n.b, n.p, n.c.set 0 (nth n.c 0 + 1), n.a⟩
theorem spt_fol {n : Nt} {how : Int} (hl : 0 < n.c.length) : folB (sptN n how) n = false := by
  unfold sptN
  split
  · unfold folB; rw [decide_eq_false (by show ¬ n.a ≤ n.a - 1; omega)]; rfl
  · split
    · unfold folB; rw [if_neg (by show ¬ n.b + 2 = n.b; omega), decide_eq_false (p := n.b + 2 = n.b + 1) (by omega), Bool.false_and, Bool.and_false]
    · split
      · unfold folB; rw [if_neg (by show ¬ n.b - 1 = n.b; omega), decide_eq_false (p := n.b - 1 = n.b + 1) (by omega), Bool.false_and, Bool.and_false]
      · unfold folB
        rw [if_pos rfl, decide_eq_false (p := n.c.set 0 (nth n.c 0 + 1) = n.c) (fun e => by
          have h : nth (n.c.set 0 (nth n.c 0 + 1)) 0 = nth n.c 0 := congrArg (fun l => nth l 0) e
          rw [nth_set hl, if_pos rfl] at h
          omega), Bool.and_false, Bool.and_false]
end Go.Proofs.Ytnnammlipfappaa


