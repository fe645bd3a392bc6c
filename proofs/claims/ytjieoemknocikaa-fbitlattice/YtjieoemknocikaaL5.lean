/- The walk of FbitLattice: it answers true at every three floats. -/
import Derived.Test.YtjieoemknocikaaW5
namespace Go.Proofs.Ytjieoemknocikaa
open Ieee Go.RowKit

theorem least_lt {a b : Nat} (ha : a < 18446744073709551616) (hb : b < 18446744073709551616) : leastW a b < 18446744073709551616 := by
  unfold leastW; split <;> exact canon_lt (by assumption)
theorem most_lt {a b : Nat} (ha : a < 18446744073709551616) (hb : b < 18446744073709551616) : mostW a b < 18446744073709551616 := by
  unfold mostW; split <;> exact canon_lt (by assumption)

theorem canon_told {x : Nat} : nanB (canonW x) = nanB x := by
  unfold canonW
  cases h : nanB x
  · rw [if_neg (by simp), h]
  · rw [if_pos rfl]; decide
theorem canon_canon (x : Nat) : canonW (canonW x) = canonW x := by
  have h := @canon_told x
  cases hn : nanB x
  · rw [hn] at h
    have e : canonW x = x := by unfold canonW; rw [hn]; rfl
    rw [e, e]
  · rw [hn] at h
    have e : canonW x = 9221120237041090561 := by unfold canonW; rw [hn]; rfl
    rw [e]; decide
theorem rank_canon (x : Nat) : rank (canonW x) = rank x := by
  cases hn : nanB x
  · have e : canonW x = x := by unfold canonW; rw [hn]; rfl
    rw [e]
  · have h := @canon_told x
    rw [hn] at h
    unfold rank; rw [h, hn]; rfl

theorem least_rank (a b : Nat) : rank (leastW a b) = min (rank a) (rank b) := by
  unfold leastW; split <;> rw [rank_canon] <;> omega
theorem most_rank (a b : Nat) : rank (mostW a b) = max (rank a) (rank b) := by
  unfold mostW; split <;> rw [rank_canon] <;> omega
theorem least_canon (a b : Nat) : canonW (leastW a b) = leastW a b := by
  unfold leastW; split <;> exact canon_canon _
theorem most_canon (a b : Nat) : canonW (mostW a b) = mostW a b := by
  unfold mostW; split <;> exact canon_canon _
/-- Words that are told and have one rank are one word. -/
theorem told_eq {x y : Nat} (hx : x < 18446744073709551616) (hy : y < 18446744073709551616) (cx : canonW x = x) (cy : canonW y = y) (h : rank x = rank y) : x = y := by
  have := canon_of_rank hx hy h
  rw [cx, cy] at this; exact this

theorem least_comm {a b : Nat} (ha : a < 18446744073709551616) (hb : b < 18446744073709551616) : leastW b a = leastW a b := told_eq (least_lt hb ha) (least_lt ha hb) (least_canon _ _) (least_canon _ _) (by rw [least_rank, least_rank]; omega)
theorem most_comm {a b : Nat} (ha : a < 18446744073709551616) (hb : b < 18446744073709551616) : mostW b a = mostW a b := told_eq (most_lt hb ha) (most_lt ha hb) (most_canon _ _) (most_canon _ _) (by rw [most_rank, most_rank]; omega)
theorem least_assoc {a b c : Nat} (ha : a < 18446744073709551616) (hb : b < 18446744073709551616) (hc : c < 18446744073709551616) : leastW (leastW a b) c = leastW a (leastW b c) := told_eq (least_lt (least_lt ha hb) hc) (least_lt ha (least_lt hb hc)) (least_canon _ _) (least_canon _ _) (by simp only [least_rank]; omega)
theorem most_assoc {a b c : Nat} (ha : a < 18446744073709551616) (hb : b < 18446744073709551616) (hc : c < 18446744073709551616) : mostW (mostW a b) c = mostW a (mostW b c) := told_eq (most_lt (most_lt ha hb) hc) (most_lt ha (most_lt hb hc)) (most_canon _ _) (most_canon _ _) (by simp only [most_rank]; omega)
theorem least_most {a b : Nat} (ha : a < 18446744073709551616) (hb : b < 18446744073709551616) : leastW a (mostW a b) = canonW a := told_eq (least_lt ha (most_lt ha hb)) (canon_lt ha) (least_canon _ _) (canon_canon _) (by simp only [least_rank, most_rank, rank_canon]; omega)
theorem most_least {a b : Nat} (ha : a < 18446744073709551616) (hb : b < 18446744073709551616) : mostW a (leastW a b) = canonW a := told_eq (most_lt ha (least_lt ha hb)) (canon_lt ha) (most_canon _ _) (canon_canon _) (by simp only [least_rank, most_rank, rank_canon]; omega)
theorem least_self (a : Nat) : leastW a a = canonW a := by unfold leastW; split <;> rfl
theorem most_self (a : Nat) : mostW a a = canonW a := by unfold mostW; split <;> rfl
theorem least_or (a b : Nat) : leastW a b = canonW a ∨ leastW a b = canonW b := by
  unfold leastW; split
  · exact .inl rfl
  · exact .inr rfl
theorem most_or (a b : Nat) : mostW a b = canonW a ∨ mostW a b = canonW b := by
  unfold mostW; split
  · exact .inl rfl
  · exact .inr rfl
theorem least_le_most (a b : Nat) : ordI (leastW a b) (mostW a b) ≤ 0 := by
  unfold ordI; rw [least_rank, most_rank]; rw [if_neg (c := max (rank a) (rank b) < min (rank a) (rank b)) (by omega)]; split <;> omega

set_option maxHeartbeats 1000000 in
theorem lat_aa {a b c : Nat} (ha : a < 18446744073709551616) (hb : b < 18446744073709551616) (hc : c < 18446744073709551616) (w : World)
    (e0 : leastW a b = canonW a) (e0' : mostW a b = canonW a) (e1 : leastW b a = canonW a) (e2 : mostW b a = canonW a) (f3 : ordI (canonW a) (canonW a) ≤ 0)
    (e5 : leastW (canonW a) c = leastW a (leastW b c)) (e6 : mostW (canonW a) c = mostW a (mostW b c)) (e7 : leastW a (canonW a) = canonW a) (e8 : mostW a (canonW a) = canonW a) (e9 : leastW a a = canonW a) (e10 : mostW a a = canonW a) :
    Calls Try.prog 7 #[.float .f64 a, .float .f64 b, .float .f64 c] w fun e w' => e = .returned (.bool true) ∧ ∃ n, w' = w.drewN n := by
  go_enter Try.func7, Try.ntmps7
  go_wp2_with fail
  refine (awake_walk _).mono ?_
  rintro e w' ⟨rfl, n, rfl⟩
  go_wp2_with fail
  refine (least_walk ha hb _).mono ?_
  rintro e w' ⟨rfl, rfl⟩
  go_wp2_with fail
  refine (most_walk ha hb _).mono ?_
  rintro e w' ⟨rfl, rfl⟩
  go_wp2_with fail
  refine (least_walk hb ha _).mono ?_
  rintro e w' ⟨rfl, rfl⟩
  go_wp2_with fail
  refine (same_walk _ _ _).mono ?_
  rintro e w' ⟨rfl, rfl⟩
  go_wp2_with fail
  refine (most_walk hb ha _).mono ?_
  rintro e w' ⟨rfl, rfl⟩
  go_wp2_with fail
  refine (same_walk _ _ _).mono ?_
  rintro e w' ⟨rfl, rfl⟩
  go_wp2_with fail
  refine (order_walk (canon_lt ha) (canon_lt ha) _).mono ?_
  rintro e w' ⟨rfl, rfl⟩
  go_wp2_with fail
  refine (canon_walk ha _).mono ?_
  rintro e w' ⟨rfl, rfl⟩
  go_wp2_with fail
  refine (same_walk _ _ _).mono ?_
  rintro e w' ⟨rfl, rfl⟩
  go_wp2_with fail
  refine (canon_walk ha _).mono ?_
  rintro e w' ⟨rfl, rfl⟩
  go_wp2_with fail
  refine (same_walk _ _ _).mono ?_
  rintro e w' ⟨rfl, rfl⟩
  go_wp2_with fail
  refine (least_walk ha ha _).mono ?_
  rintro e w' ⟨rfl, rfl⟩
  go_wp2_with fail
  refine (canon_walk ha _).mono ?_
  rintro e w' ⟨rfl, rfl⟩
  go_wp2_with fail
  refine (same_walk _ _ _).mono ?_
  rintro e w' ⟨rfl, rfl⟩
  go_wp2_with fail
  refine (most_walk ha ha _).mono ?_
  rintro e w' ⟨rfl, rfl⟩
  go_wp2_with fail
  refine (canon_walk ha _).mono ?_
  rintro e w' ⟨rfl, rfl⟩
  go_wp2_with fail
  refine (same_walk _ _ _).mono ?_
  rintro e w' ⟨rfl, rfl⟩
  go_wp2_with fail
  refine (least_walk (canon_lt ha) hc _).mono ?_
  rintro e w' ⟨rfl, rfl⟩
  go_wp2_with fail
  refine (least_walk hb hc _).mono ?_
  rintro e w' ⟨rfl, rfl⟩
  go_wp2_with fail
  refine (least_walk ha (least_lt hb hc) _).mono ?_
  rintro e w' ⟨rfl, rfl⟩
  go_wp2_with fail
  refine (same_walk _ _ _).mono ?_
  rintro e w' ⟨rfl, rfl⟩
  go_wp2_with fail
  refine (most_walk (canon_lt ha) hc _).mono ?_
  rintro e w' ⟨rfl, rfl⟩
  go_wp2_with fail
  refine (most_walk hb hc _).mono ?_
  rintro e w' ⟨rfl, rfl⟩
  go_wp2_with fail
  refine (most_walk ha (most_lt hb hc) _).mono ?_
  rintro e w' ⟨rfl, rfl⟩
  go_wp2_with fail
  refine (same_walk _ _ _).mono ?_
  rintro e w' ⟨rfl, rfl⟩
  go_wp2_with fail
  refine (most_walk ha hb _).mono ?_
  rintro e w' ⟨rfl, rfl⟩
  go_wp2_with fail
  refine (least_walk ha (canon_lt ha) _).mono ?_
  rintro e w' ⟨rfl, rfl⟩
  go_wp2_with fail
  refine (canon_walk ha _).mono ?_
  rintro e w' ⟨rfl, rfl⟩
  go_wp2_with fail
  refine (same_walk _ _ _).mono ?_
  rintro e w' ⟨rfl, rfl⟩
  go_wp2_with fail
  refine (least_walk ha hb _).mono ?_
  rintro e w' ⟨rfl, rfl⟩
  go_wp2_with fail
  refine (most_walk ha (canon_lt ha) _).mono ?_
  rintro e w' ⟨rfl, rfl⟩
  go_wp2_with fail
  refine (canon_walk ha _).mono ?_
  rintro e w' ⟨rfl, rfl⟩
  go_wp2_with fail
  refine (same_walk _ _ _).mono ?_
  rintro e w' ⟨rfl, rfl⟩
  go_wp2_with fail
  go_ret
  exact ⟨rfl, n, rfl⟩

set_option maxHeartbeats 1000000 in
theorem lat_ab {a b c : Nat} (ha : a < 18446744073709551616) (hb : b < 18446744073709551616) (hc : c < 18446744073709551616) (w : World)
    (e0 : leastW a b = canonW a) (e0' : mostW a b = canonW b) (e1 : leastW b a = canonW a) (e2 : mostW b a = canonW b) (f3 : ordI (canonW a) (canonW b) ≤ 0)
    (e5 : leastW (canonW a) c = leastW a (leastW b c)) (e6 : mostW (canonW b) c = mostW a (mostW b c)) (e7 : leastW a (canonW b) = canonW a) (e8 : mostW a (canonW a) = canonW a) (e9 : leastW a a = canonW a) (e10 : mostW a a = canonW a) (ne : ¬ canonW b = canonW a) :
    Calls Try.prog 7 #[.float .f64 a, .float .f64 b, .float .f64 c] w fun e w' => e = .returned (.bool true) ∧ ∃ n, w' = w.drewN n := by
  go_enter Try.func7, Try.ntmps7
  go_wp2_with fail
  refine (awake_walk _).mono ?_
  rintro e w' ⟨rfl, n, rfl⟩
  go_wp2_with fail
  refine (least_walk ha hb _).mono ?_
  rintro e w' ⟨rfl, rfl⟩
  go_wp2_with fail
  refine (most_walk ha hb _).mono ?_
  rintro e w' ⟨rfl, rfl⟩
  go_wp2_with fail
  refine (least_walk hb ha _).mono ?_
  rintro e w' ⟨rfl, rfl⟩
  go_wp2_with fail
  refine (same_walk _ _ _).mono ?_
  rintro e w' ⟨rfl, rfl⟩
  go_wp2_with fail
  refine (most_walk hb ha _).mono ?_
  rintro e w' ⟨rfl, rfl⟩
  go_wp2_with fail
  refine (same_walk _ _ _).mono ?_
  rintro e w' ⟨rfl, rfl⟩
  go_wp2_with fail
  refine (order_walk (canon_lt ha) (canon_lt hb) _).mono ?_
  rintro e w' ⟨rfl, rfl⟩
  go_wp2_with fail
  refine (canon_walk ha _).mono ?_
  rintro e w' ⟨rfl, rfl⟩
  go_wp2_with fail
  refine (same_walk _ _ _).mono ?_
  rintro e w' ⟨rfl, rfl⟩
  go_wp2_with fail
  refine (canon_walk ha _).mono ?_
  rintro e w' ⟨rfl, rfl⟩
  go_wp2_with fail
  refine (same_walk _ _ _).mono ?_
  rintro e w' ⟨rfl, rfl⟩
  go_wp2_with fail
  refine (canon_walk hb _).mono ?_
  rintro e w' ⟨rfl, rfl⟩
  go_wp2_with fail
  refine (same_walk _ _ _).mono ?_
  rintro e w' ⟨rfl, rfl⟩
  go_wp2_with fail
  refine (least_walk ha ha _).mono ?_
  rintro e w' ⟨rfl, rfl⟩
  go_wp2_with fail
  refine (canon_walk ha _).mono ?_
  rintro e w' ⟨rfl, rfl⟩
  go_wp2_with fail
  refine (same_walk _ _ _).mono ?_
  rintro e w' ⟨rfl, rfl⟩
  go_wp2_with fail
  refine (most_walk ha ha _).mono ?_
  rintro e w' ⟨rfl, rfl⟩
  go_wp2_with fail
  refine (canon_walk ha _).mono ?_
  rintro e w' ⟨rfl, rfl⟩
  go_wp2_with fail
  refine (same_walk _ _ _).mono ?_
  rintro e w' ⟨rfl, rfl⟩
  go_wp2_with fail
  refine (least_walk (canon_lt ha) hc _).mono ?_
  rintro e w' ⟨rfl, rfl⟩
  go_wp2_with fail
  refine (least_walk hb hc _).mono ?_
  rintro e w' ⟨rfl, rfl⟩
  go_wp2_with fail
  refine (least_walk ha (least_lt hb hc) _).mono ?_
  rintro e w' ⟨rfl, rfl⟩
  go_wp2_with fail
  refine (same_walk _ _ _).mono ?_
  rintro e w' ⟨rfl, rfl⟩
  go_wp2_with fail
  refine (most_walk (canon_lt hb) hc _).mono ?_
  rintro e w' ⟨rfl, rfl⟩
  go_wp2_with fail
  refine (most_walk hb hc _).mono ?_
  rintro e w' ⟨rfl, rfl⟩
  go_wp2_with fail
  refine (most_walk ha (most_lt hb hc) _).mono ?_
  rintro e w' ⟨rfl, rfl⟩
  go_wp2_with fail
  refine (same_walk _ _ _).mono ?_
  rintro e w' ⟨rfl, rfl⟩
  go_wp2_with fail
  refine (most_walk ha hb _).mono ?_
  rintro e w' ⟨rfl, rfl⟩
  go_wp2_with fail
  refine (least_walk ha (canon_lt hb) _).mono ?_
  rintro e w' ⟨rfl, rfl⟩
  go_wp2_with fail
  refine (canon_walk ha _).mono ?_
  rintro e w' ⟨rfl, rfl⟩
  go_wp2_with fail
  refine (same_walk _ _ _).mono ?_
  rintro e w' ⟨rfl, rfl⟩
  go_wp2_with fail
  refine (least_walk ha hb _).mono ?_
  rintro e w' ⟨rfl, rfl⟩
  go_wp2_with fail
  refine (most_walk ha (canon_lt ha) _).mono ?_
  rintro e w' ⟨rfl, rfl⟩
  go_wp2_with fail
  refine (canon_walk ha _).mono ?_
  rintro e w' ⟨rfl, rfl⟩
  go_wp2_with fail
  refine (same_walk _ _ _).mono ?_
  rintro e w' ⟨rfl, rfl⟩
  go_wp2_with fail
  go_ret
  exact ⟨rfl, n, rfl⟩

set_option maxHeartbeats 1000000 in
theorem lat_ba {a b c : Nat} (ha : a < 18446744073709551616) (hb : b < 18446744073709551616) (hc : c < 18446744073709551616) (w : World)
    (e0 : leastW a b = canonW b) (e0' : mostW a b = canonW a) (e1 : leastW b a = canonW b) (e2 : mostW b a = canonW a) (f3 : ordI (canonW b) (canonW a) ≤ 0)
    (e5 : leastW (canonW b) c = leastW a (leastW b c)) (e6 : mostW (canonW a) c = mostW a (mostW b c)) (e7 : leastW a (canonW a) = canonW a) (e8 : mostW a (canonW b) = canonW a) (e9 : leastW a a = canonW a) (e10 : mostW a a = canonW a) (ne : ¬ canonW b = canonW a) :
    Calls Try.prog 7 #[.float .f64 a, .float .f64 b, .float .f64 c] w fun e w' => e = .returned (.bool true) ∧ ∃ n, w' = w.drewN n := by
  go_enter Try.func7, Try.ntmps7
  go_wp2_with fail
  refine (awake_walk _).mono ?_
  rintro e w' ⟨rfl, n, rfl⟩
  go_wp2_with fail
  refine (least_walk ha hb _).mono ?_
  rintro e w' ⟨rfl, rfl⟩
  go_wp2_with fail
  refine (most_walk ha hb _).mono ?_
  rintro e w' ⟨rfl, rfl⟩
  go_wp2_with fail
  refine (least_walk hb ha _).mono ?_
  rintro e w' ⟨rfl, rfl⟩
  go_wp2_with fail
  refine (same_walk _ _ _).mono ?_
  rintro e w' ⟨rfl, rfl⟩
  go_wp2_with fail
  refine (most_walk hb ha _).mono ?_
  rintro e w' ⟨rfl, rfl⟩
  go_wp2_with fail
  refine (same_walk _ _ _).mono ?_
  rintro e w' ⟨rfl, rfl⟩
  go_wp2_with fail
  refine (order_walk (canon_lt hb) (canon_lt ha) _).mono ?_
  rintro e w' ⟨rfl, rfl⟩
  go_wp2_with fail
  refine (canon_walk ha _).mono ?_
  rintro e w' ⟨rfl, rfl⟩
  go_wp2_with fail
  refine (same_walk _ _ _).mono ?_
  rintro e w' ⟨rfl, rfl⟩
  go_wp2_with fail
  refine (canon_walk hb _).mono ?_
  rintro e w' ⟨rfl, rfl⟩
  go_wp2_with fail
  refine (same_walk _ _ _).mono ?_
  rintro e w' ⟨rfl, rfl⟩
  go_wp2_with fail
  refine (canon_walk ha _).mono ?_
  rintro e w' ⟨rfl, rfl⟩
  go_wp2_with fail
  refine (same_walk _ _ _).mono ?_
  rintro e w' ⟨rfl, rfl⟩
  go_wp2_with fail
  refine (least_walk ha ha _).mono ?_
  rintro e w' ⟨rfl, rfl⟩
  go_wp2_with fail
  refine (canon_walk ha _).mono ?_
  rintro e w' ⟨rfl, rfl⟩
  go_wp2_with fail
  refine (same_walk _ _ _).mono ?_
  rintro e w' ⟨rfl, rfl⟩
  go_wp2_with fail
  refine (most_walk ha ha _).mono ?_
  rintro e w' ⟨rfl, rfl⟩
  go_wp2_with fail
  refine (canon_walk ha _).mono ?_
  rintro e w' ⟨rfl, rfl⟩
  go_wp2_with fail
  refine (same_walk _ _ _).mono ?_
  rintro e w' ⟨rfl, rfl⟩
  go_wp2_with fail
  refine (least_walk (canon_lt hb) hc _).mono ?_
  rintro e w' ⟨rfl, rfl⟩
  go_wp2_with fail
  refine (least_walk hb hc _).mono ?_
  rintro e w' ⟨rfl, rfl⟩
  go_wp2_with fail
  refine (least_walk ha (least_lt hb hc) _).mono ?_
  rintro e w' ⟨rfl, rfl⟩
  go_wp2_with fail
  refine (same_walk _ _ _).mono ?_
  rintro e w' ⟨rfl, rfl⟩
  go_wp2_with fail
  refine (most_walk (canon_lt ha) hc _).mono ?_
  rintro e w' ⟨rfl, rfl⟩
  go_wp2_with fail
  refine (most_walk hb hc _).mono ?_
  rintro e w' ⟨rfl, rfl⟩
  go_wp2_with fail
  refine (most_walk ha (most_lt hb hc) _).mono ?_
  rintro e w' ⟨rfl, rfl⟩
  go_wp2_with fail
  refine (same_walk _ _ _).mono ?_
  rintro e w' ⟨rfl, rfl⟩
  go_wp2_with fail
  refine (most_walk ha hb _).mono ?_
  rintro e w' ⟨rfl, rfl⟩
  go_wp2_with fail
  refine (least_walk ha (canon_lt ha) _).mono ?_
  rintro e w' ⟨rfl, rfl⟩
  go_wp2_with fail
  refine (canon_walk ha _).mono ?_
  rintro e w' ⟨rfl, rfl⟩
  go_wp2_with fail
  refine (same_walk _ _ _).mono ?_
  rintro e w' ⟨rfl, rfl⟩
  go_wp2_with fail
  refine (least_walk ha hb _).mono ?_
  rintro e w' ⟨rfl, rfl⟩
  go_wp2_with fail
  refine (most_walk ha (canon_lt hb) _).mono ?_
  rintro e w' ⟨rfl, rfl⟩
  go_wp2_with fail
  refine (canon_walk ha _).mono ?_
  rintro e w' ⟨rfl, rfl⟩
  go_wp2_with fail
  refine (same_walk _ _ _).mono ?_
  rintro e w' ⟨rfl, rfl⟩
  go_wp2_with fail
  go_ret
  exact ⟨rfl, n, rfl⟩

set_option maxHeartbeats 1000000 in
theorem lat_bb {a b c : Nat} (ha : a < 18446744073709551616) (hb : b < 18446744073709551616) (hc : c < 18446744073709551616) (w : World)
    (e0 : leastW a b = canonW b) (e0' : mostW a b = canonW b) (e1 : leastW b a = canonW b) (e2 : mostW b a = canonW b) (f3 : ordI (canonW b) (canonW b) ≤ 0)
    (e5 : leastW (canonW b) c = leastW a (leastW b c)) (e6 : mostW (canonW b) c = mostW a (mostW b c)) (e7 : leastW a (canonW b) = canonW a) (e8 : mostW a (canonW b) = canonW a) (e9 : leastW a a = canonW a) (e10 : mostW a a = canonW a) (ne : ¬ canonW b = canonW a) :
    Calls Try.prog 7 #[.float .f64 a, .float .f64 b, .float .f64 c] w fun e w' => e = .returned (.bool true) ∧ ∃ n, w' = w.drewN n := by
  go_enter Try.func7, Try.ntmps7
  go_wp2_with fail
  refine (awake_walk _).mono ?_
  rintro e w' ⟨rfl, n, rfl⟩
  go_wp2_with fail
  refine (least_walk ha hb _).mono ?_
  rintro e w' ⟨rfl, rfl⟩
  go_wp2_with fail
  refine (most_walk ha hb _).mono ?_
  rintro e w' ⟨rfl, rfl⟩
  go_wp2_with fail
  refine (least_walk hb ha _).mono ?_
  rintro e w' ⟨rfl, rfl⟩
  go_wp2_with fail
  refine (same_walk _ _ _).mono ?_
  rintro e w' ⟨rfl, rfl⟩
  go_wp2_with fail
  refine (most_walk hb ha _).mono ?_
  rintro e w' ⟨rfl, rfl⟩
  go_wp2_with fail
  refine (same_walk _ _ _).mono ?_
  rintro e w' ⟨rfl, rfl⟩
  go_wp2_with fail
  refine (order_walk (canon_lt hb) (canon_lt hb) _).mono ?_
  rintro e w' ⟨rfl, rfl⟩
  go_wp2_with fail
  refine (canon_walk ha _).mono ?_
  rintro e w' ⟨rfl, rfl⟩
  go_wp2_with fail
  refine (same_walk _ _ _).mono ?_
  rintro e w' ⟨rfl, rfl⟩
  go_wp2_with fail
  refine (canon_walk hb _).mono ?_
  rintro e w' ⟨rfl, rfl⟩
  go_wp2_with fail
  refine (same_walk _ _ _).mono ?_
  rintro e w' ⟨rfl, rfl⟩
  go_wp2_with fail
  refine (canon_walk ha _).mono ?_
  rintro e w' ⟨rfl, rfl⟩
  go_wp2_with fail
  refine (same_walk _ _ _).mono ?_
  rintro e w' ⟨rfl, rfl⟩
  go_wp2_with fail
  refine (canon_walk hb _).mono ?_
  rintro e w' ⟨rfl, rfl⟩
  go_wp2_with fail
  refine (same_walk _ _ _).mono ?_
  rintro e w' ⟨rfl, rfl⟩
  go_wp2_with fail
  refine (least_walk ha ha _).mono ?_
  rintro e w' ⟨rfl, rfl⟩
  go_wp2_with fail
  refine (canon_walk ha _).mono ?_
  rintro e w' ⟨rfl, rfl⟩
  go_wp2_with fail
  refine (same_walk _ _ _).mono ?_
  rintro e w' ⟨rfl, rfl⟩
  go_wp2_with fail
  refine (most_walk ha ha _).mono ?_
  rintro e w' ⟨rfl, rfl⟩
  go_wp2_with fail
  refine (canon_walk ha _).mono ?_
  rintro e w' ⟨rfl, rfl⟩
  go_wp2_with fail
  refine (same_walk _ _ _).mono ?_
  rintro e w' ⟨rfl, rfl⟩
  go_wp2_with fail
  refine (least_walk (canon_lt hb) hc _).mono ?_
  rintro e w' ⟨rfl, rfl⟩
  go_wp2_with fail
  refine (least_walk hb hc _).mono ?_
  rintro e w' ⟨rfl, rfl⟩
  go_wp2_with fail
  refine (least_walk ha (least_lt hb hc) _).mono ?_
  rintro e w' ⟨rfl, rfl⟩
  go_wp2_with fail
  refine (same_walk _ _ _).mono ?_
  rintro e w' ⟨rfl, rfl⟩
  go_wp2_with fail
  refine (most_walk (canon_lt hb) hc _).mono ?_
  rintro e w' ⟨rfl, rfl⟩
  go_wp2_with fail
  refine (most_walk hb hc _).mono ?_
  rintro e w' ⟨rfl, rfl⟩
  go_wp2_with fail
  refine (most_walk ha (most_lt hb hc) _).mono ?_
  rintro e w' ⟨rfl, rfl⟩
  go_wp2_with fail
  refine (same_walk _ _ _).mono ?_
  rintro e w' ⟨rfl, rfl⟩
  go_wp2_with fail
  refine (most_walk ha hb _).mono ?_
  rintro e w' ⟨rfl, rfl⟩
  go_wp2_with fail
  refine (least_walk ha (canon_lt hb) _).mono ?_
  rintro e w' ⟨rfl, rfl⟩
  go_wp2_with fail
  refine (canon_walk ha _).mono ?_
  rintro e w' ⟨rfl, rfl⟩
  go_wp2_with fail
  refine (same_walk _ _ _).mono ?_
  rintro e w' ⟨rfl, rfl⟩
  go_wp2_with fail
  refine (least_walk ha hb _).mono ?_
  rintro e w' ⟨rfl, rfl⟩
  go_wp2_with fail
  refine (most_walk ha (canon_lt hb) _).mono ?_
  rintro e w' ⟨rfl, rfl⟩
  go_wp2_with fail
  refine (canon_walk ha _).mono ?_
  rintro e w' ⟨rfl, rfl⟩
  go_wp2_with fail
  refine (same_walk _ _ _).mono ?_
  rintro e w' ⟨rfl, rfl⟩
  go_wp2_with fail
  go_ret
  exact ⟨rfl, n, rfl⟩

theorem lattice_walk {a b c : Nat} (ha : a < 18446744073709551616) (hb : b < 18446744073709551616) (hc : c < 18446744073709551616) (w : World) :
    Calls Try.prog 7 #[.float .f64 a, .float .f64 b, .float .f64 c] w fun e w' => e = .returned (.bool true) ∧ ∃ n, w' = w.drewN n := by
  have e1 := least_comm ha hb
  have e2 := most_comm ha hb
  have f3 := least_le_most a b
  have e5 := least_assoc ha hb hc
  have e6 := most_assoc ha hb hc
  have e7 := least_most ha hb
  have e8 := most_least ha hb
  have e9 := least_self a
  have e10 := most_self a
  by_cases ne : canonW b = canonW a
  · have x : leastW a b = canonW a := by rcases least_or a b with h | h; exact h; exact h.trans ne
    have y : mostW a b = canonW a := by rcases most_or a b with h | h; exact h; exact h.trans ne
    rw [x] at e1 f3 e5 e8; rw [y] at e2 f3 e6 e7
    exact lat_aa ha hb hc w x y e1 e2 f3 e5 e6 e7 e8 e9 e10
  · rcases least_or a b with x | x <;> rcases most_or a b with y | y <;> rw [x] at e1 f3 e5 e8 <;> rw [y] at e2 f3 e6 e7
    · exact lat_aa ha hb hc w x y e1 e2 f3 e5 e6 e7 e8 e9 e10
    · exact lat_ab ha hb hc w x y e1 e2 f3 e5 e6 e7 e8 e9 e10 ne
    · exact lat_ba ha hb hc w x y e1 e2 f3 e5 e6 e7 e8 e9 e10 ne
    · exact lat_bb ha hb hc w x y e1 e2 f3 e5 e6 e7 e8 e9 e10 ne

end Go.Proofs.Ytjieoemknocikaa
