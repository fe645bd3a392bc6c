/- The heap sort. -/
import Derived.Test.YtkicnoohfilgjaaUb

namespace Go.Proofs.Ytkicnoohfilgjaa

open Go.RowKit



theorem sift_stop {hi first root : Nat} {d : Array Nat} (h : 2 * root + 1 ≥ hi) : Sort.siftDown ltN hi first root d = d := by rw [Sort.siftDown.eq_1, dif_pos h]
/-- The greater child. -/
def kidN (hi first root : Nat) (d : Array Nat) : Nat := if 2 * root + 2 < hi ∧ ltN d[first + (2 * root + 1)]! d[first + (2 * root + 2)]! = true then 2 * root + 2 else 2 * root + 1
theorem kid_lt {hi first root : Nat} {d : Array Nat} (h : ¬ 2 * root + 1 ≥ hi) : root < kidN hi first root d ∧ kidN hi first root d < hi := by unfold kidN; split <;> omega
theorem sift_go {hi first root : Nat} {d : Array Nat} (h : ¬ 2 * root + 1 ≥ hi) : Sort.siftDown ltN hi first root d =
    if ltN d[first + root]! d[first + kidN hi first root d]! = true then Sort.siftDown ltN hi first (kidN hi first root d) (Sort.swp d (first + root) (first + kidN hi first root d)) else d := by
  rw [Sort.siftDown.eq_1, dif_neg h]
  unfold kidN
  by_cases hc : 2 * root + 2 < hi ∧ ltN d[first + (2 * root + 1)]! d[first + (2 * root + 2)]! = true
  · rw [if_pos hc, if_pos (by simp only [Bool.and_eq_true, decide_eq_true_eq]; exact ⟨hc.1, hc.2⟩)]
    cases hl : ltN d[first + root]! d[first + (2 * root + 2)]!
    · simp
    · simp [hc.1]
  · rw [if_neg hc, if_neg (by simp only [Bool.and_eq_true, decide_eq_true_eq]; exact hc)]
    cases hl : ltN d[first + root]! d[first + (2 * root + 1)]! <;> simp


set_option maxRecDepth 100000 in
theorem usift_walk {w : World} {g o cap n lo hi first : Nat} {d : Array Nat} (h : Un w g o cap d) (hn : d.size = n) (hhi : first + hi ≤ n) (hlo : lo ≤ n) (hsz : n ≤ 2305843009213693951) :
    Calls Try.prog 55 #[.slice (some ⟨g, o, none⟩) n cap, .int .i64 lo, .int .i64 hi, .int .i64 first] w fun e w' => e = .returned (.tuple #[]) ∧ Us w g o cap n (Sort.siftDown ltN hi first lo d) w' := by
  have HS : Hid (Us w g o cap n d w) := hn ▸ Us.start h
  clear h hn
  go_enter Try.func55, Try.ntmps55
  go_wp2_with fail
  go_loopw [8] (fun iv wr => ∃ (root : Nat) (dk : Array Nat), iv = .int .i64 root ∧ root ≤ n ∧ Us w g o cap n dk wr ∧ Sort.siftDown ltN hi first root dk = Sort.siftDown ltN hi first lo d) (fun iv _ => hi - (intOf iv).toNat)
  case atStart => exact ⟨lo, d, rfl, hlo, HS.out, rfl⟩
  case round =>
    obtain ⟨root, dk, rfl, h1, hU, hO⟩ := hrel
    have HU : Hid (Us w g o cap n dk wr) := hU
    have HO : Hid (Sort.siftDown ltN hi first root dk = Sort.siftDown ltN hi first lo d) := hO
    obtain ⟨G, hG, hcw, hfw⟩ := hU.fam
    have HG : Hid (∀ t, G t = dk[t]!) := hG
    clear hU hO hG
    by_cases hge : 2 * root + 1 ≥ hi
    · have HE : Hid (dk = Sort.siftDown ltN hi first lo d) := by show _ = _; rw [← HO.out, sift_stop hge]
      go_wp2_with fail
      go_end0
      exact ⟨rfl, HE.out ▸ HU.out⟩
    · obtain ⟨K, hK⟩ : ∃ K, K = 2 * root + 1 := ⟨_, rfl⟩
      have hKi : 2 * (root : Int) + 1 = (K : Int) := by omega
      have hKh : ¬ ((hi : Int) ≤ (K : Int)) := by omega
      have hw1 : IntKind.i64.wrap ((K : Int) + 1) = (K : Int) + 1 := wrapU (by omega) (by omega)
      have HK : Hid (K = 2 * root + 1) := hK
      have HGE : Hid (¬ 2 * root + 1 ≥ hi) := hge
      have hrk : root < K := by omega
      clear hK hge
      by_cases h2 : K + 1 < hi
      · have hd : decide ((K : Int) + 1 < (hi : Int)) = true := by simp; omega
        go_wp2_with fail
        go_quiet ((go_at_call 50; exact Calls.quiet_of_same (uless_walk _ _ _)))
        cases hc : ltN (G (first + K)) (G (first + K + 1))
        · have HKD : Hid (kidN hi first root dk = K) := by
            show _ = _
            unfold kidN
            rw [if_neg (by rintro ⟨_, h⟩; rw [← HG.out, ← HG.out, ← HK.out, show first + (2 * root + 2) = first + K + 1 by have := HK.out; omega, hc] at h; cases h), HK.out]
          go_wp2_with fail
          generalize hw2 : wr.drewN nq = w2
          have HU2 : Hid (Us w g o cap n dk w2) := by show Us w g o cap n dk w2; rw [← hw2]; exact HU.out.drew _
          clear hw2 hcw hfw
          have hcw : ∀ t, t < n → w2.cell? ⟨g, o + t, none⟩ = some (.int .u64 (G t : Nat)) := fun t ht => by rw [HG.out]; exact HU2.out.cell t ht
          have hfw : ∀ t, t < n → w2.frozen? ⟨g, o + t, none⟩ = false := fun t _ => HU2.out.soft t
          go_quiet ((go_at_call 50; exact Calls.quiet_of_same (uless_walk _ _ _)))
          cases hl : ltN (G (first + root)) (G (first + K))
          · have HE : Hid (dk = Sort.siftDown ltN hi first lo d) := by show _ = _; rw [← HO.out, sift_go HGE.out, HKD.out, if_neg (by rw [← HG.out, ← HG.out]; simpa [Nat.add_assoc] using hl)]
            go_wp2_with fail
            refine bodyPost_ret (results_none rfl _ _ _) rfl ?_
            exact ⟨rfl, HE.out ▸ HU2.out.drew _⟩
          · have HE : Hid (Sort.siftDown ltN hi first (K) (Sort.swp dk (first + root) (first + (K))) = Sort.siftDown ltN hi first lo d) := by show _ = _; rw [← HO.out, sift_go HGE.out, HKD.out, if_pos (by rw [← HG.out, ← HG.out]; simpa [Nat.add_assoc] using hl)]
            go_wp2_with fail
            go_region
            all_goals go_wp2_with fail
            all_goals go_roundw
            case rel => exact ⟨K, Sort.swp dk (first + root) (first + (K)), by simp, by omega, by simpa [Nat.add_assoc] using HU2.out.swp (i := first + root) (j := first + (K)) HG.out (by omega) (by omega) _, HE.out⟩
            case measure => simp [intOf]; omega
        · have HKD : Hid (kidN hi first root dk = K + 1) := by
            show _ = _
            unfold kidN
            rw [if_pos ⟨by have := HK.out; omega, by rw [← HG.out, ← HG.out, ← HK.out, show first + (2 * root + 2) = first + K + 1 by have := HK.out; omega]; exact hc⟩, HK.out]
          go_wp2_with fail
          generalize hw2 : wr.drewN nq = w2
          have HU2 : Hid (Us w g o cap n dk w2) := by show Us w g o cap n dk w2; rw [← hw2]; exact HU.out.drew _
          clear hw2 hcw hfw
          have hcw : ∀ t, t < n → w2.cell? ⟨g, o + t, none⟩ = some (.int .u64 (G t : Nat)) := fun t ht => by rw [HG.out]; exact HU2.out.cell t ht
          have hfw : ∀ t, t < n → w2.frozen? ⟨g, o + t, none⟩ = false := fun t _ => HU2.out.soft t
          go_quiet ((go_at_call 50; exact Calls.quiet_of_same (uless_walk _ _ _)))
          cases hl : ltN (G (first + root)) (G (first + K + 1))
          · have HE : Hid (dk = Sort.siftDown ltN hi first lo d) := by show _ = _; rw [← HO.out, sift_go HGE.out, HKD.out, if_neg (by rw [← HG.out, ← HG.out]; simpa [Nat.add_assoc] using hl)]
            go_wp2_with fail
            refine bodyPost_ret (results_none rfl _ _ _) rfl ?_
            exact ⟨rfl, HE.out ▸ HU2.out.drew _⟩
          · have HE : Hid (Sort.siftDown ltN hi first (K + 1) (Sort.swp dk (first + root) (first + (K + 1))) = Sort.siftDown ltN hi first lo d) := by show _ = _; rw [← HO.out, sift_go HGE.out, HKD.out, if_pos (by rw [← HG.out, ← HG.out]; simpa [Nat.add_assoc] using hl)]
            go_wp2_with fail
            go_region
            all_goals go_wp2_with fail
            all_goals go_roundw
            case rel => exact ⟨K + 1, Sort.swp dk (first + root) (first + (K + 1)), by simp, by omega, by simpa [Nat.add_assoc] using HU2.out.swp (i := first + root) (j := first + (K + 1)) HG.out (by omega) (by omega) _, HE.out⟩
            case measure => simp [intOf]; omega
      · have hd : decide ((K : Int) + 1 < (hi : Int)) = false := by simp; omega
        have HKD : Hid (kidN hi first root dk = K) := by
          show _ = _
          unfold kidN
          rw [if_neg (by rintro ⟨h, _⟩; have := HK.out; omega), HK.out]
        go_wp2_with fail
        go_quiet (fail)
        go_wp2_with fail
        generalize hw2 : wr.drewN nq = w2
        have HU2 : Hid (Us w g o cap n dk w2) := by show Us w g o cap n dk w2; rw [← hw2]; exact HU.out.drew _
        clear hw2 hcw hfw
        have hcw : ∀ t, t < n → w2.cell? ⟨g, o + t, none⟩ = some (.int .u64 (G t : Nat)) := fun t ht => by rw [HG.out]; exact HU2.out.cell t ht
        have hfw : ∀ t, t < n → w2.frozen? ⟨g, o + t, none⟩ = false := fun t _ => HU2.out.soft t
        go_quiet ((go_at_call 50; exact Calls.quiet_of_same (uless_walk _ _ _)))
        cases hl : ltN (G (first + root)) (G (first + K))
        · have HE : Hid (dk = Sort.siftDown ltN hi first lo d) := by show _ = _; rw [← HO.out, sift_go HGE.out, HKD.out, if_neg (by rw [← HG.out, ← HG.out]; simpa [Nat.add_assoc] using hl)]
          go_wp2_with fail
          refine bodyPost_ret (results_none rfl _ _ _) rfl ?_
          exact ⟨rfl, HE.out ▸ HU2.out.drew _⟩
        · have HE : Hid (Sort.siftDown ltN hi first (K) (Sort.swp dk (first + root) (first + (K))) = Sort.siftDown ltN hi first lo d) := by show _ = _; rw [← HO.out, sift_go HGE.out, HKD.out, if_pos (by rw [← HG.out, ← HG.out]; simpa [Nat.add_assoc] using hl)]
          go_wp2_with fail
          go_region
          all_goals go_wp2_with fail
          all_goals go_roundw
          case rel => exact ⟨K, Sort.swp dk (first + root) (first + (K)), by simp, by omega, by simpa [Nat.add_assoc] using HU2.out.swp (i := first + root) (j := first + (K)) HG.out (by omega) (by omega) _, HE.out⟩
          case measure => simp [intOf]; omega


theorem sift_size (hi first : Nat) : ∀ (m root : Nat) (d : Array Nat), hi - root ≤ m → (Sort.siftDown ltN hi first root d).size = d.size := by
  intro m
  induction m with
  | zero => intro root d h; rw [sift_stop (by omega)]
  | succ m ih =>
    intro root d h
    by_cases hge : 2 * root + 1 ≥ hi
    · rw [sift_stop hge]
    · rw [sift_go hge]
      split
      · rw [ih _ _ (by have := kid_lt (first := first) (d := d) hge; omega), Sort.size_swp]
      · rfl


set_option maxRecDepth 100000 in
theorem uheap_walk {w : World} {g o cap n a b : Nat} {d : Array Nat} (h : Un w g o cap d) (hn : d.size = n) (hab : a < b) (hb : b ≤ n) (hsz : n ≤ 2305843009213693951) :
    Calls Try.prog 45 #[.slice (some ⟨g, o, none⟩) n cap, .int .i64 a, .int .i64 b] w fun e w' => e = .returned (.tuple #[]) ∧ ∃ d', Us w g o cap n d' w' ∧ Sort.PermIn a b d d' ∧ Sort.SortedIn ltN a b d' := by
  have HZ : Hid (d.size = n) := hn
  have HS : Hid (Us w g o cap n d w) := hn ▸ Us.start h
  obtain ⟨H, hH⟩ : ∃ H, H = b - a := ⟨_, rfl⟩
  have hHi : (b : Int) - (a : Int) = (H : Int) := by omega
  have HQ : Hid (Sort.heapSort ltN d a b = Sort.heapPop ltN a H (Sort.heapBuild ltN H a ((H - 1) / 2 + 1) d)) := by show _ = _; rw [Sort.heapSort, hH]
  obtain ⟨M, hM⟩ : ∃ M, M = (H - 1) / 2 := ⟨_, rfl⟩
  have hMi : ((H : Int) - 1).tdiv 2 = (M : Int) := by rw [Int.tdiv_eq_ediv_of_nonneg (by omega)]; omega
  have hML : M < H := by omega
  have hHn : a + H ≤ n := by omega
  have HM : Hid (M = (H - 1) / 2) := hM
  have HH : Hid (H = b - a) := hH
  clear h hn hM hH
  go_enter Try.func45, Try.ntmps45
  go_wp2_with fail
  go_loopw [9] (fun iv wr => ∃ (k : Nat) (dk : Array Nat), iv = .int .i64 ((k : Int) - 1) ∧ k ≤ M + 1 ∧ Us w g o cap n dk wr ∧ Sort.heapBuild ltN H a k dk = Sort.heapBuild ltN H a (M + 1) d) (fun iv _ => (intOf iv + 1).toNat)
  case atStart => exact ⟨M + 1, d, by simp, Nat.le_refl _, HS.out, rfl⟩
  case round =>
    obtain ⟨k, dk, rfl, h1, hU, hO⟩ := hrel
    have HU : Hid (Us w g o cap n dk wr) := hU
    have HO : Hid (Sort.heapBuild ltN H a k dk = Sort.heapBuild ltN H a (M + 1) d) := hO
    clear hU hO
    cases k with
    | succ k =>
      have hk1 : ((k + 1 : Nat) : Int) - 1 = (k : Int) := by omega
      rw [hk1]
      go_wp2_with (go_at_call 55; refine (usift_walk HU.out.row HU.out.size hHn (by omega) hsz).mono ?_; rintro e w1 ⟨rfl, hU1⟩)
      go_roundw
      case rel => exact ⟨k, _, rfl, by omega, HU.out.after hU1, HO.out⟩
      case measure => simp [intOf]
    | zero =>
      have HB : Hid (dk = Sort.heapBuild ltN H a (M + 1) d) := HO.out
      clear HO
      have hz : ((0 : Nat) : Int) - 1 = -1 := rfl
      rw [hz]
      clear hz
      go_wp2_with fail
      go_loopw [10] (fun iv w2 => ∃ (k : Nat) (dj : Array Nat), iv = .int .i64 ((k : Int) - 1) ∧ k ≤ H ∧ Us w g o cap n dj w2 ∧ Sort.heapPop ltN a k dj = Sort.heapPop ltN a H dk) (fun iv _ => (intOf iv + 1).toNat)
      case atStart => exact ⟨H, dk, rfl, Nat.le_refl _, HU.out, rfl⟩
      case round =>
        clear HU
        obtain ⟨k, dj, rfl, h3, hU, hO⟩ := hrel
        have HU : Hid (Us w g o cap n dj wr) := hU
        have HO : Hid (Sort.heapPop ltN a k dj = Sort.heapPop ltN a H dk) := hO
        obtain ⟨G, hG, hcw, hfw⟩ := hU.fam
        have HG : Hid (∀ t, G t = dj[t]!) := hG
        clear hU hO hG
        cases k with
        | succ k =>
          have hk1 : ((k + 1 : Nat) : Int) - 1 = (k : Int) := by omega
          rw [hk1]
          rcases Nat.eq_zero_or_pos k with rfl | hkp
          · go_wp2_with fail
            go_region
            all_goals go_wp2_with (go_at_call 55; refine (usift_walk (lo := 0) (hi := 0) (first := a) (d := Sort.swp dj a a) (HU.out.swp0 (i := a) (j := a) HG.out (by omega) (by omega)).row (HU.out.swp0 (i := a) (j := a) HG.out (by omega) (by omega)).size (by omega) (by omega) hsz).mono ?_; rintro e w1 ⟨rfl, hU1⟩)
            all_goals go_roundw
            case rel => exact ⟨0, _, rfl, by omega, (HU.out.swp0 (i := a) (j := a) HG.out (by omega) (by omega)).after hU1, HO.out⟩
            case measure => simp [intOf]
          · go_wp2_with fail
            go_region
            all_goals go_wp2_with (go_at_call 55; refine (usift_walk (lo := 0) (hi := k) (first := a) (d := Sort.swp dj a (a + k)) (HU.out.swp0 (i := a) (j := a + k) HG.out (by omega) (by omega)).row (HU.out.swp0 (i := a) (j := a + k) HG.out (by omega) (by omega)).size (by omega) (by omega) hsz).mono ?_; rintro e w1 ⟨rfl, hU1⟩)
            all_goals go_roundw
            case rel => exact ⟨k, _, rfl, by omega, (HU.out.swp0 (i := a) (j := a + k) HG.out (by omega) (by omega)).after hU1, HO.out⟩
            case measure => simp [intOf]
        | zero =>
          go_wp2_with fail
          go_end0
          have e : dj = Sort.heapSort ltN d a b := by
            rw [HQ.out, ← HM.out, ← HB.out, ← HO.out]; rfl
          obtain ⟨q1, q2⟩ := Sort.heapSort_holds swo_ltN d a b (by omega) (by rw [HZ.out]; exact hb)
          rw [← e] at q1 q2
          exact ⟨rfl, dj, HU.out, q1, q2⟩
end Go.Proofs.Ytkicnoohfilgjaa


