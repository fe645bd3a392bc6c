/- The heap sort. -/
import Derived.Test.YtofkhgokfdpdiabGreatB02
import Derived.Test.YtofkhgokfdpdiabGreatB41
import Derived.Lib.Hide
import Derived.CellFam
set_option maxRecDepth 100000
set_option maxHeartbeats 16000000
namespace Go.Proofs.YtofkhgokfdpdiabGreat
section
open Go.RowKit

theorem unan_walk (x : Nat) (w : World) :
  Calls Tryz.prog 114 #[.int .u64 x] w fun e w' => e = .returned (.bool false) ∧ w' = w := by
 go_in
 go_wp2
 all_goals (go_ret; exact ⟨rfl, rfl⟩)
theorem uless_walk (x y : Nat) (w : World) :
  Calls Tryz.prog 155 #[.int .u64 x, .int .u64 y] w fun e w' => e = .returned (.bool (ltN x y)) ∧ w' = w := by
 go_in
 go_wp2_with (go_at_call 114; refine (unan_walk _ _).mono ?_; rintro e w9 ⟨rfl, h9⟩; have h9 := h9.symm; subst h9)
 all_goals (go_ret; exact ⟨by simp [ltN], rfl⟩)
theorem urev_walk {w : World} {g o cap n a b : Nat} {d : Array Nat} (h : Un w g o cap d) (hn : d.size = n) (hab : a ≤ b) (hb : b ≤ n) (hsz : n ≤ 4611686018427387903) :
  Calls Tryz.prog 153 #[.slice (some ⟨g, o, none⟩) n cap, .int .i64 a, .int .i64 b] w fun e w' => e = .returned (.tuple #[]) ∧ ∃ d', Us w g o cap n d' w' ∧ Sort.PermIn a b d d' := by
 have HZ : Hid (d.size = n) := hn
 have HS : Hid (Us w g o cap n d w) := hn ▸ Us.start h
 clear h hn
 go_in
 go_wp2_with fail
 go_loopw [6, 7] (fun iv jv wr => ∃ (i : Nat) (j : Int) (dk : Array Nat), iv = .int .i64 i ∧ jv = .int .i64 j ∧ a ≤ i ∧ i ≤ b ∧ -1 ≤ j ∧ j < b ∧ Us w g o cap n dk wr ∧ Sort.PermIn a b d dk) (fun iv jv _ => (intOf jv - intOf iv).toNat)
 case atStart => exact ⟨a, (b : Int) - 1, d, rfl, rfl, Nat.le_refl _, hab, by omega, by omega, HS.out, Sort.permIn_refl _ _ _⟩
 case round =>
  obtain ⟨i, j, dk, rfl, rfl, h1, h2, h3, h4, hU, hP⟩ := hrel
  have HU := hidH hU
  have HP := hidH hP
  clear hU hP
  by_cases hlt : (i : Int) < j
  ·obtain ⟨k, rfl⟩ : ∃ k : Nat, j = k := ⟨j.toNat, by omega⟩
   obtain ⟨G, hG, hcw, hfw⟩ := HU.out.fam
   have HG : Hid (∀ t, G t = dk[t]!) := hG
   clear hG
   go_wp2_with fail
   go_region
   all_goals go_wp2_with fail
   all_goals go_roundw
   case rel => exact ⟨i + 1, (k : Int) - 1, Sort.swp dk i k, by simp, rfl, by omega, by omega, by omega, by omega, HU.out.swp0 HG.out (by omega) (by omega), Sort.permIn_trans _ _ _ _ _ HP.out (Sort.swp_permIn _ _ _ _ _ h1 (by omega) (by omega) (by omega) (by rw [HU.out.size]; exact hb))⟩
   case measure => simp [intOf]; omega
  ·go_wp2_with fail
   go_end0
   exact ⟨rfl, dk, HU.out, HP.out⟩
theorem ins_stop {a j : Nat} {d : Array Nat} (h : j ≤ a ∨ ltN d[j]! d[j - 1]! = false) : Sort.insInner ltN a j d = d := by
 cases j with
 | zero => rfl
 | succ j =>
  rw [Sort.insInner]
  refine if_neg ?_
  rcases h with h | h
  ·simp; omega
  ·simp at h; simp [h]
theorem ins_go {a j : Nat} {d : Array Nat} (h : a < j) (hl : ltN d[j]! d[j - 1]! = true) : Sort.insInner ltN a j d = Sort.insInner ltN a (j - 1) (Sort.swp d j (j - 1)) := by
 cases j with
 | zero => omega
 | succ j =>
  rw [Sort.insInner]
  refine (if_pos ?_).trans rfl
  simp at hl
  simp [hl]; omega
theorem uins_walk {w : World} {g o cap n a b : Nat} {d : Array Nat} (h : Un w g o cap d) (hn : d.size = n) (hab : a ≤ b) (hb : b ≤ n) (hsz : n ≤ 4611686018427387903) :
  Calls Tryz.prog 149 #[.slice (some ⟨g, o, none⟩) n cap, .int .i64 a, .int .i64 b] w fun e w' => e = .returned (.tuple #[]) ∧ ∃ d', Us w g o cap n d' w' ∧ Sort.PermIn a b d d' ∧ Sort.SortedIn ltN a b d' := by
 have HZ : Hid (d.size = n) := hn
 have HS : Hid (Us w g o cap n d w) := hn ▸ Us.start h
 clear h hn
 go_in
 go_wp2_with fail
 go_loopw [6] (fun iv wr => ∃ (i : Nat) (dk : Array Nat), iv = .int .i64 i ∧ a < i ∧ i ≤ b + 1 ∧ Us w g o cap n dk wr ∧ Sort.insOuter ltN a b i dk = Sort.insertionSort ltN d a b) (fun iv _ => b - (intOf iv).toNat)
 case atStart => exact ⟨a + 1, d, by simp, by omega, by omega, HS.out, rfl⟩
 case round =>
  obtain ⟨i, dk, rfl, h1, h2, hU, hO⟩ := hrel
  have HU := hidH hU
  have HO : Hid (Sort.insOuter ltN a b i dk = Sort.insertionSort ltN d a b) := hO
  clear hU hO
  by_cases hib : i < b
  ·go_wp2_with fail
   go_loopw [7] (fun jv w2 => ∃ (j : Nat) (dj : Array Nat), jv = .int .i64 j ∧ a ≤ j ∧ j ≤ i ∧ Us w g o cap n dj w2 ∧ Sort.insInner ltN a j dj = Sort.insInner ltN a i dk) (fun jv _ => (intOf jv).toNat)
   case atStart => exact ⟨i, dk, rfl, by omega, Nat.le_refl _, HU.out, rfl⟩
   case round =>
    clear HU
    obtain ⟨j, dj, rfl, h3, h4, hU, hI⟩ := hrel
    have HU := hidH hU
    have HI : Hid (Sort.insInner ltN a j dj = Sort.insInner ltN a i dk) := hI
    obtain ⟨G, hG, hcw, hfw⟩ := hU.fam
    have HG : Hid (∀ t, G t = dj[t]!) := hG
    have OUT : Hid (j ≤ a ∨ ltN (G j) (G (j - 1)) = false → ∀ q, ∃ (i' : Nat) (dk : Array Nat), Value.int .i64 ((i : Int) + 1) = .int .i64 i' ∧ a < i' ∧ i' ≤ b + 1 ∧ Us w g o cap n dk (wr.drewN q) ∧ Sort.insOuter ltN a b i' dk = Sort.insertionSort ltN d a b) := fun hs q =>
     ⟨i + 1, dj, by simp, by omega, by omega, hU.drew q, by rw [← HO.out, Sort.insOuter.eq_1 ltN a b i dk, if_pos hib, ← hI, ins_stop (by rw [← hG, ← hG]; exact hs)]⟩
    clear hU hI hG
    by_cases hja : a < j
    ·go_wp2_with fail
     go_quiet ((go_at_call 155; exact Calls.quiet_of_same (uless_walk _ _ _)))
     cases hl : ltN (G j) (G (j - 1))
     ·have O' := OUT.out (.inr hl)
      go_wp2_with fail
      go_roundw
      case rel => exact O' _
      case measure => simp [intOf]; omega
     ·go_wp2_with fail
      go_region
      all_goals go_wp2_with fail
      all_goals go_roundw
      case rel =>
       refine ⟨j - 1, Sort.swp dj j (j - 1), by congr 1; omega, by omega, by omega, HU.out.swp (i := j) (j := j - 1) HG.out (by omega) (by omega) _, ?_⟩
       rw [← HI.out, ins_go hja (by rw [← HG.out, ← HG.out]; exact hl)]
      case measure => simp [intOf]; omega
    ·have O' := OUT.out (.inl (by omega))
     go_wp2_with fail
     go_quiet (fail)
     go_wp2_with fail
     go_roundw
     case rel => exact O' _
     case measure => simp [intOf]; omega
  ·go_wp2_with fail
   go_end0
   have e : dk = Sort.insertionSort ltN d a b := by rw [← HO.out, Sort.insOuter.eq_1, if_neg hib]
   obtain ⟨q1, q2⟩ := Sort.insertionSort_holds swo_ltN d a b hab (by rw [HZ.out]; exact hb)
   rw [← e] at q1 q2
   exact ⟨rfl, dk, HU.out, q1, q2⟩
end
section
open Go.RowKit

theorem sift_stop {hi first root : Nat} {d : Array Nat} (h : 2 * root + 1 ≥ hi) : Sort.siftDown ltN hi first root d = d := by rw [Sort.siftDown.eq_1, dif_pos h]
def kidN (hi first root : Nat) (d : Array Nat) : Nat := if 2 * root + 2 < hi ∧ ltN d[first + (2 * root + 1)]! d[first + (2 * root + 2)]! = true then 2 * root + 2 else 2 * root + 1
theorem sift_go {hi first root : Nat} {d : Array Nat} (h : ¬ 2 * root + 1 ≥ hi) : Sort.siftDown ltN hi first root d =
  if ltN d[first + root]! d[first + kidN hi first root d]! = true then Sort.siftDown ltN hi first (kidN hi first root d) (Sort.swp d (first + root) (first + kidN hi first root d)) else d := by
 rw [Sort.siftDown.eq_1, dif_neg h]
 unfold kidN
 by_cases hc : 2 * root + 2 < hi ∧ ltN d[first + (2 * root + 1)]! d[first + (2 * root + 2)]! = true
 ·rw [if_pos hc, if_pos (by simp only [Bool.and_eq_true, decide_eq_true_eq]; exact ⟨hc.1, hc.2⟩)]
  cases hl : ltN d[first + root]! d[first + (2 * root + 2)]!
  ·simp
  ·simp [hc.1]
 ·rw [if_neg hc, if_neg (by simp only [Bool.and_eq_true, decide_eq_true_eq]; exact hc)]
  cases hl : ltN d[first + root]! d[first + (2 * root + 1)]! <;> simp
theorem usift_walk {w : World} {g o cap n lo hi first : Nat} {d : Array Nat} (h : Un w g o cap d) (hn : d.size = n) (hhi : first + hi ≤ n) (hlo : lo ≤ n) (hsz : n ≤ 2305843009213693951) :
  Calls Tryz.prog 190 #[.slice (some ⟨g, o, none⟩) n cap, .int .i64 lo, .int .i64 hi, .int .i64 first] w fun e w' => e = .returned (.tuple #[]) ∧ Us w g o cap n (Sort.siftDown ltN hi first lo d) w' := by
 have HS : Hid (Us w g o cap n d w) := hn ▸ Us.start h
 clear h hn
 go_in
 go_wp2_with fail
 go_loopw [8] (fun iv wr => ∃ (root : Nat) (dk : Array Nat), iv = .int .i64 root ∧ root ≤ n ∧ Us w g o cap n dk wr ∧ Sort.siftDown ltN hi first root dk = Sort.siftDown ltN hi first lo d) (fun iv _ => hi - (intOf iv).toNat)
 case atStart => exact ⟨lo, d, rfl, hlo, HS.out, rfl⟩
 case round =>
  obtain ⟨root, dk, rfl, h1, hU, hO⟩ := hrel
  have HU := hidH hU
  have HO : Hid (Sort.siftDown ltN hi first root dk = Sort.siftDown ltN hi first lo d) := hO
  obtain ⟨G, hG, hcw, hfw⟩ := hU.fam
  have HG : Hid (∀ t, G t = dk[t]!) := hG
  clear hU hO hG
  by_cases hge : 2 * root + 1 ≥ hi
  ·have HE : Hid (dk = Sort.siftDown ltN hi first lo d) := by show _ = _; rw [← HO.out, sift_stop hge]
   go_wp2_with fail
   go_end0
   exact ⟨rfl, HE.out ▸ HU.out⟩
  ·obtain ⟨K, hK⟩ : ∃ K, K = 2 * root + 1 := ⟨_, rfl⟩
   have hKi : 2 * (root : Int) + 1 = (K : Int) := by omega
   have hKh : ¬ ((hi : Int) ≤ (K : Int)) := by omega
   have hw1 : IntKind.i64.wrap ((K : Int) + 1) = (K : Int) + 1 := wrapU (by omega) (by omega)
   have HK : Hid (K = 2 * root + 1) := hK
   have HGE := hidH hge
   have hrk : root < K := by omega
   clear hK hge
   by_cases h2 : K + 1 < hi
   ·have hd : decide ((K : Int) + 1 < (hi : Int)) = true := by simp; omega
    go_wp2_with fail
    go_quiet ((go_at_call 155; exact Calls.quiet_of_same (uless_walk _ _ _)))
    cases hc : ltN (G (first + K)) (G (first + K + 1))
    ·have HKD : Hid (kidN hi first root dk = K) := by
      show _ = _
      unfold kidN
      rw [if_neg (by rintro ⟨_, h⟩; rw [← HG.out, ← HG.out, ← HK.out, show first + (2 * root + 2) = first + K + 1 by have := HK.out; omega, hc] at h; cases h), HK.out]
     go_wp2_with fail
     generalize hw2 : wr.drewN nq = w2
     have HU2 : Hid (Us w g o cap n dk w2) := by show Us w g o cap n dk w2; rw [← hw2]; exact HU.out.drew _
     clear hw2 hcw hfw
     have hcw : ∀ t, t < n → w2.cell? ⟨g, o + t, none⟩ = some (.int .u64 (G t : Nat)) := fun t ht => by rw [HG.out]; exact HU2.out.cell t ht
     have hfw : ∀ t, t < n → w2.frozen? ⟨g, o + t, none⟩ = false := fun t _ => HU2.out.soft t
     go_quiet ((go_at_call 155; exact Calls.quiet_of_same (uless_walk _ _ _)))
     cases hl : ltN (G (first + root)) (G (first + K))
     ·have HE : Hid (dk = Sort.siftDown ltN hi first lo d) := by show _ = _; rw [← HO.out, sift_go HGE.out, HKD.out, if_neg (by rw [← HG.out, ← HG.out]; simpa [Nat.add_assoc] using hl)]
      go_wp2_with fail
      refine bodyPost_ret (results_none rfl _ _ _) rfl ?_
      exact ⟨rfl, HE.out ▸ HU2.out.drew _⟩
     ·have HE : Hid (Sort.siftDown ltN hi first (K) (Sort.swp dk (first + root) (first + (K))) = Sort.siftDown ltN hi first lo d) := by show _ = _; rw [← HO.out, sift_go HGE.out, HKD.out, if_pos (by rw [← HG.out, ← HG.out]; simpa [Nat.add_assoc] using hl)]
      go_wp2_with fail
      go_region
      all_goals go_wp2_with fail
      all_goals go_roundw
      case rel => exact ⟨K, Sort.swp dk (first + root) (first + (K)), by simp, by omega, by simpa [Nat.add_assoc] using HU2.out.swp (i := first + root) (j := first + (K)) HG.out (by omega) (by omega) _, HE.out⟩
      case measure => simp [intOf]; omega
    ·have HKD : Hid (kidN hi first root dk = K + 1) := by
      show _ = _
      unfold kidN
      rw [if_pos ⟨by have := HK.out; omega, by rw [← HG.out, ← HG.out, ← HK.out, show first + (2 * root + 2) = first + K + 1 by have := HK.out; omega]; exact hc⟩, HK.out]
     go_wp2_with fail
     generalize hw2 : wr.drewN nq = w2
     have HU2 : Hid (Us w g o cap n dk w2) := by show Us w g o cap n dk w2; rw [← hw2]; exact HU.out.drew _
     clear hw2 hcw hfw
     have hcw : ∀ t, t < n → w2.cell? ⟨g, o + t, none⟩ = some (.int .u64 (G t : Nat)) := fun t ht => by rw [HG.out]; exact HU2.out.cell t ht
     have hfw : ∀ t, t < n → w2.frozen? ⟨g, o + t, none⟩ = false := fun t _ => HU2.out.soft t
     go_quiet ((go_at_call 155; exact Calls.quiet_of_same (uless_walk _ _ _)))
     cases hl : ltN (G (first + root)) (G (first + K + 1))
     ·have HE : Hid (dk = Sort.siftDown ltN hi first lo d) := by show _ = _; rw [← HO.out, sift_go HGE.out, HKD.out, if_neg (by rw [← HG.out, ← HG.out]; simpa [Nat.add_assoc] using hl)]
      go_wp2_with fail
      refine bodyPost_ret (results_none rfl _ _ _) rfl ?_
      exact ⟨rfl, HE.out ▸ HU2.out.drew _⟩
     ·have HE : Hid (Sort.siftDown ltN hi first (K + 1) (Sort.swp dk (first + root) (first + (K + 1))) = Sort.siftDown ltN hi first lo d) := by show _ = _; rw [← HO.out, sift_go HGE.out, HKD.out, if_pos (by rw [← HG.out, ← HG.out]; simpa [Nat.add_assoc] using hl)]
      go_wp2_with fail
      go_region
      all_goals go_wp2_with fail
      all_goals go_roundw
      case rel => exact ⟨K + 1, Sort.swp dk (first + root) (first + (K + 1)), by simp, by omega, by simpa [Nat.add_assoc] using HU2.out.swp (i := first + root) (j := first + (K + 1)) HG.out (by omega) (by omega) _, HE.out⟩
      case measure => simp [intOf]; omega
   ·have hd : decide ((K : Int) + 1 < (hi : Int)) = false := by simp; omega
    have HKD : Hid (kidN hi first root dk = K) := by
     show _ = _
     unfold kidN
     rw [if_neg (by rintro ⟨h, _⟩; have := HK.out; omega), HK.out]
    go_wp2_with fail
    go_quiet (fail)
    go_wp2_with fail
    generalize hw2 : wr.drewN nq = w2
    have HU2 : Hid (Us w g o cap n dk w2) := by show Us w g o cap n dk w2; rw [← hw2]; exact HU.out.drew _
    clear hw2 hcw hfw
    have hcw : ∀ t, t < n → w2.cell? ⟨g, o + t, none⟩ = some (.int .u64 (G t : Nat)) := fun t ht => by rw [HG.out]; exact HU2.out.cell t ht
    have hfw : ∀ t, t < n → w2.frozen? ⟨g, o + t, none⟩ = false := fun t _ => HU2.out.soft t
    go_quiet ((go_at_call 155; exact Calls.quiet_of_same (uless_walk _ _ _)))
    cases hl : ltN (G (first + root)) (G (first + K))
    ·have HE : Hid (dk = Sort.siftDown ltN hi first lo d) := by show _ = _; rw [← HO.out, sift_go HGE.out, HKD.out, if_neg (by rw [← HG.out, ← HG.out]; simpa [Nat.add_assoc] using hl)]
     go_wp2_with fail
     refine bodyPost_ret (results_none rfl _ _ _) rfl ?_
     exact ⟨rfl, HE.out ▸ HU2.out.drew _⟩
    ·have HE : Hid (Sort.siftDown ltN hi first (K) (Sort.swp dk (first + root) (first + (K))) = Sort.siftDown ltN hi first lo d) := by show _ = _; rw [← HO.out, sift_go HGE.out, HKD.out, if_pos (by rw [← HG.out, ← HG.out]; simpa [Nat.add_assoc] using hl)]
     go_wp2_with fail
     go_region
     all_goals go_wp2_with fail
     all_goals go_roundw
     case rel => exact ⟨K, Sort.swp dk (first + root) (first + (K)), by simp, by omega, by simpa [Nat.add_assoc] using HU2.out.swp (i := first + root) (j := first + (K)) HG.out (by omega) (by omega) _, HE.out⟩
     case measure => simp [intOf]; omega
theorem uheap_walk {w : World} {g o cap n a b : Nat} {d : Array Nat} (h : Un w g o cap d) (hn : d.size = n) (hab : a < b) (hb : b ≤ n) (hsz : n ≤ 2305843009213693951) :
  Calls Tryz.prog 150 #[.slice (some ⟨g, o, none⟩) n cap, .int .i64 a, .int .i64 b] w fun e w' => e = .returned (.tuple #[]) ∧ ∃ d', Us w g o cap n d' w' ∧ Sort.PermIn a b d d' ∧ Sort.SortedIn ltN a b d' := by
 have HZ : Hid (d.size = n) := hn
 have HS : Hid (Us w g o cap n d w) := hn ▸ Us.start h
 obtain ⟨H, hH⟩ : ∃ H, H = b - a := ⟨_, rfl⟩
 have hHi : (b : Int) - (a : Int) = (H : Int) := by omega
 have HQ : Hid (Sort.heapSort ltN d a b = Sort.heapPop ltN a H (Sort.heapBuild ltN H a ((H - 1) / 2 + 1) d)) := by show _ = _; rw [Sort.heapSort, hH]
 obtain ⟨M, hM⟩ : ∃ M, M = (H - 1) / 2 := ⟨_, rfl⟩
 have hMi : ((H : Int) - 1).tdiv 2 = (M : Int) := by rw [Int.tdiv_eq_ediv_of_nonneg (by omega)]; omega
 have hML : M < H := by omega
 have hHn : a + H ≤ n := by omega
 have HM : Hid (M = (H - 1) / 2) := hM
 have HH : Hid (H = b - a) := hH
 clear h hn hM hH
 go_in
 go_wp2_with fail
 go_loopw [9] (fun iv wr => ∃ (k : Nat) (dk : Array Nat), iv = .int .i64 ((k : Int) - 1) ∧ k ≤ M + 1 ∧ Us w g o cap n dk wr ∧ Sort.heapBuild ltN H a k dk = Sort.heapBuild ltN H a (M + 1) d) (fun iv _ => (intOf iv + 1).toNat)
 case atStart => exact ⟨M + 1, d, by simp, Nat.le_refl _, HS.out, rfl⟩
 case round =>
  obtain ⟨k, dk, rfl, h1, hU, hO⟩ := hrel
  have HU := hidH hU
  have HO : Hid (Sort.heapBuild ltN H a k dk = Sort.heapBuild ltN H a (M + 1) d) := hO
  clear hU hO
  cases k with
  | succ k =>
   have hk1 : ((k + 1 : Nat) : Int) - 1 = (k : Int) := by omega
   rw [hk1]
   go_wp2_with (go_at_call 190; refine (usift_walk HU.out.row HU.out.size hHn (by omega) hsz).mono ?_; rintro e w1 ⟨rfl, hU1⟩)
   go_roundw
   case rel => exact ⟨k, _, rfl, by omega, HU.out.after hU1, HO.out⟩
   case measure => simp [intOf]
  | zero =>
   have HB : Hid (dk = Sort.heapBuild ltN H a (M + 1) d) := HO.out
   clear HO
   have hz : ((0 : Nat) : Int) - 1 = -1 := rfl
   rw [hz]
   clear hz
   go_wp2_with fail
   go_loopw [10] (fun iv w2 => ∃ (k : Nat) (dj : Array Nat), iv = .int .i64 ((k : Int) - 1) ∧ k ≤ H ∧ Us w g o cap n dj w2 ∧ Sort.heapPop ltN a k dj = Sort.heapPop ltN a H dk) (fun iv _ => (intOf iv + 1).toNat)
   case atStart => exact ⟨H, dk, rfl, Nat.le_refl _, HU.out, rfl⟩
   case round =>
    clear HU
    obtain ⟨k, dj, rfl, h3, hU, hO⟩ := hrel
    have HU := hidH hU
    have HO : Hid (Sort.heapPop ltN a k dj = Sort.heapPop ltN a H dk) := hO
    obtain ⟨G, hG, hcw, hfw⟩ := hU.fam
    have HG : Hid (∀ t, G t = dj[t]!) := hG
    clear hU hO hG
    cases k with
    | succ k =>
     have hk1 : ((k + 1 : Nat) : Int) - 1 = (k : Int) := by omega
     rw [hk1]
     rcases Nat.eq_zero_or_pos k with rfl | hkp
     ·go_wp2_with fail
      go_region
      all_goals go_wp2_with (go_at_call 190; refine (usift_walk (lo := 0) (hi := 0) (first := a) (d := Sort.swp dj a a) (HU.out.swp0 (i := a) (j := a) HG.out (by omega) (by omega)).row (HU.out.swp0 (i := a) (j := a) HG.out (by omega) (by omega)).size (by omega) (by omega) hsz).mono ?_; rintro e w1 ⟨rfl, hU1⟩)
      all_goals go_roundw
      case rel => exact ⟨0, _, rfl, by omega, (HU.out.swp0 (i := a) (j := a) HG.out (by omega) (by omega)).after hU1, HO.out⟩
      case measure => simp [intOf]
     ·go_wp2_with fail
      go_region
      all_goals go_wp2_with (go_at_call 190; refine (usift_walk (lo := 0) (hi := k) (first := a) (d := Sort.swp dj a (a + k)) (HU.out.swp0 (i := a) (j := a + k) HG.out (by omega) (by omega)).row (HU.out.swp0 (i := a) (j := a + k) HG.out (by omega) (by omega)).size (by omega) (by omega) hsz).mono ?_; rintro e w1 ⟨rfl, hU1⟩)
      all_goals go_roundw
      case rel => exact ⟨k, _, rfl, by omega, (HU.out.swp0 (i := a) (j := a + k) HG.out (by omega) (by omega)).after hU1, HO.out⟩
      case measure => simp [intOf]
    | zero =>
     go_wp2_with fail
     go_end0
     have e : dj = Sort.heapSort ltN d a b := by
      rw [HQ.out, ← HM.out, ← HB.out, ← HO.out]; rfl
     obtain ⟨q1, q2⟩ := Sort.heapSort_holds swo_ltN d a b (by omega) (by rw [HZ.out]; exact hb)
     rw [← e] at q1 q2
     exact ⟨rfl, dj, HU.out, q1, q2⟩
end
end Go.Proofs.YtofkhgokfdpdiabGreat
