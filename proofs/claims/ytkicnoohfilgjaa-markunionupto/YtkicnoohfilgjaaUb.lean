/- Numbers compared; a range turned round; the insertion sort. -/
import Derived.Test.YtkicnoohfilgjaaUa

import Derived.Lib.Hide

import Derived.CellFam

namespace Go.Proofs.Ytkicnoohfilgjaa

open Go.RowKit



theorem unan_walk (x : Nat) (w : World) :
    Calls Try.prog 60 #[.int .u64 x] w fun e w' => e = .returned (.bool false) ∧ w' = w := by
  go_enter Try.func60, Try.ntmps60
  go_wp2
  all_goals (go_ret; exact ⟨rfl, rfl⟩)


theorem uless_walk (x y : Nat) (w : World) :
    Calls Try.prog 50 #[.int .u64 x, .int .u64 y] w fun e w' => e = .returned (.bool (ltN x y)) ∧ w' = w := by
  go_enter Try.func50, Try.ntmps50
  go_wp2_with (go_at_call 60; refine (unan_walk _ _).mono ?_; rintro e w9 ⟨rfl, h9⟩; have h9 := h9.symm; subst h9)
  all_goals (go_ret; exact ⟨by simp [ltN], rfl⟩)


theorem urev_walk {w : World} {g o cap n a b : Nat} {d : Array Nat} (h : Un w g o cap d) (hn : d.size = n) (hab : a ≤ b) (hb : b ≤ n) (hsz : n ≤ 4611686018427387903) :
    Calls Try.prog 48 #[.slice (some ⟨g, o, none⟩) n cap, .int .i64 a, .int .i64 b] w fun e w' => e = .returned (.tuple #[]) ∧ ∃ d', Us w g o cap n d' w' ∧ Sort.PermIn a b d d' := by
  have HZ : Hid (d.size = n) := hn
  have HS : Hid (Us w g o cap n d w) := hn ▸ Us.start h
  clear h hn
  go_enter Try.func48, Try.ntmps48
  go_wp2_with fail
  go_loopw [6, 7] (fun iv jv wr => ∃ (i : Nat) (j : Int) (dk : Array Nat), iv = .int .i64 i ∧ jv = .int .i64 j ∧ a ≤ i ∧ i ≤ b ∧ -1 ≤ j ∧ j < b ∧ Us w g o cap n dk wr ∧ Sort.PermIn a b d dk) (fun iv jv _ => (intOf jv - intOf iv).toNat)
  case atStart => exact ⟨a, (b : Int) - 1, d, rfl, rfl, Nat.le_refl _, hab, by omega, by omega, HS.out, Sort.permIn_refl _ _ _⟩
  case round =>
    obtain ⟨i, j, dk, rfl, rfl, h1, h2, h3, h4, hU, hP⟩ := hrel
    have HU : Hid (Us w g o cap n dk wr) := hU
    have HP : Hid (Sort.PermIn a b d dk) := hP
    clear hU hP
    by_cases hlt : (i : Int) < j
    · obtain ⟨k, rfl⟩ : ∃ k : Nat, j = k := ⟨j.toNat, by omega⟩
      obtain ⟨G, hG, hcw, hfw⟩ := HU.out.fam
      have HG : Hid (∀ t, G t = dk[t]!) := hG
      clear hG
      go_wp2_with fail
      go_region
      all_goals go_wp2_with fail
      all_goals go_roundw
      case rel => exact ⟨i + 1, (k : Int) - 1, Sort.swp dk i k, by simp, rfl, by omega, by omega, by omega, by omega, HU.out.swp0 HG.out (by omega) (by omega), Sort.permIn_trans _ _ _ _ _ HP.out (Sort.swp_permIn _ _ _ _ _ h1 (by omega) (by omega) (by omega) (by rw [HU.out.size]; exact hb))⟩
      case measure => simp [intOf]; omega
    · go_wp2_with fail
      go_end0
      exact ⟨rfl, dk, HU.out, HP.out⟩


theorem ins_stop {a j : Nat} {d : Array Nat} (h : j ≤ a ∨ ltN d[j]! d[j - 1]! = false) : Sort.insInner ltN a j d = d := by
  cases j with
  | zero => rfl
  | succ j =>
    rw [Sort.insInner]
    refine if_neg ?_
    rcases h with h | h
    · simp; omega
    · simp at h; simp [h]
theorem ins_go {a j : Nat} {d : Array Nat} (h : a < j) (hl : ltN d[j]! d[j - 1]! = true) : Sort.insInner ltN a j d = Sort.insInner ltN a (j - 1) (Sort.swp d j (j - 1)) := by
  cases j with
  | zero => omega
  | succ j =>
    rw [Sort.insInner]
    refine (if_pos ?_).trans rfl
    simp at hl
    simp [hl]; omega


set_option maxRecDepth 100000 in
theorem uins_walk {w : World} {g o cap n a b : Nat} {d : Array Nat} (h : Un w g o cap d) (hn : d.size = n) (hab : a ≤ b) (hb : b ≤ n) (hsz : n ≤ 4611686018427387903) :
    Calls Try.prog 44 #[.slice (some ⟨g, o, none⟩) n cap, .int .i64 a, .int .i64 b] w fun e w' => e = .returned (.tuple #[]) ∧ ∃ d', Us w g o cap n d' w' ∧ Sort.PermIn a b d d' ∧ Sort.SortedIn ltN a b d' := by
  have HZ : Hid (d.size = n) := hn
  have HS : Hid (Us w g o cap n d w) := hn ▸ Us.start h
  clear h hn
  go_enter Try.func44, Try.ntmps44
  go_wp2_with fail
  go_loopw [6] (fun iv wr => ∃ (i : Nat) (dk : Array Nat), iv = .int .i64 i ∧ a < i ∧ i ≤ b + 1 ∧ Us w g o cap n dk wr ∧ Sort.insOuter ltN a b i dk = Sort.insertionSort ltN d a b) (fun iv _ => b - (intOf iv).toNat)
  case atStart => exact ⟨a + 1, d, by simp, by omega, by omega, HS.out, rfl⟩
  case round =>
    obtain ⟨i, dk, rfl, h1, h2, hU, hO⟩ := hrel
    have HU : Hid (Us w g o cap n dk wr) := hU
    have HO : Hid (Sort.insOuter ltN a b i dk = Sort.insertionSort ltN d a b) := hO
    clear hU hO
    by_cases hib : i < b
    · go_wp2_with fail
      go_loopw [7] (fun jv w2 => ∃ (j : Nat) (dj : Array Nat), jv = .int .i64 j ∧ a ≤ j ∧ j ≤ i ∧ Us w g o cap n dj w2 ∧ Sort.insInner ltN a j dj = Sort.insInner ltN a i dk) (fun jv _ => (intOf jv).toNat)
      case atStart => exact ⟨i, dk, rfl, by omega, Nat.le_refl _, HU.out, rfl⟩
      case round =>
        clear HU
        obtain ⟨j, dj, rfl, h3, h4, hU, hI⟩ := hrel
        have HU : Hid (Us w g o cap n dj wr) := hU
        have HI : Hid (Sort.insInner ltN a j dj = Sort.insInner ltN a i dk) := hI
        obtain ⟨G, hG, hcw, hfw⟩ := hU.fam
        have HG : Hid (∀ t, G t = dj[t]!) := hG
        have OUT : Hid (j ≤ a ∨ ltN (G j) (G (j - 1)) = false → ∀ q, ∃ (i' : Nat) (dk : Array Nat), Value.int .i64 ((i : Int) + 1) = .int .i64 i' ∧ a < i' ∧ i' ≤ b + 1 ∧ Us w g o cap n dk (wr.drewN q) ∧ Sort.insOuter ltN a b i' dk = Sort.insertionSort ltN d a b) := fun hs q =>
          ⟨i + 1, dj, by simp, by omega, by omega, hU.drew q, by rw [← HO.out, Sort.insOuter.eq_1 ltN a b i dk, if_pos hib, ← hI, ins_stop (by rw [← hG, ← hG]; exact hs)]⟩
        clear hU hI hG
        by_cases hja : a < j
        · go_wp2_with fail
          go_quiet ((go_at_call 50; exact Calls.quiet_of_same (uless_walk _ _ _)))
          cases hl : ltN (G j) (G (j - 1))
          · have O' := OUT.out (.inr hl)
            go_wp2_with fail
            go_roundw
            case rel => exact O' _
            case measure => simp [intOf]; omega
          · go_wp2_with fail
            go_region
            all_goals go_wp2_with fail
            all_goals go_roundw
            case rel =>
              refine ⟨j - 1, Sort.swp dj j (j - 1), by congr 1; omega, by omega, by omega, HU.out.swp (i := j) (j := j - 1) HG.out (by omega) (by omega) _, ?_⟩
              rw [← HI.out, ins_go hja (by rw [← HG.out, ← HG.out]; exact hl)]
            case measure => simp [intOf]; omega
        · have O' := OUT.out (.inl (by omega))
          go_wp2_with fail
          go_quiet (fail)
          go_wp2_with fail
          go_roundw
          case rel => exact O' _
          case measure => simp [intOf]; omega
    · go_wp2_with fail
      go_end0
      have e : dk = Sort.insertionSort ltN d a b := by rw [← HO.out, Sort.insOuter.eq_1, if_neg hib]
      obtain ⟨q1, q2⟩ := Sort.insertionSort_holds swo_ltN d a b hab (by rw [HZ.out]; exact hb)
      rw [← e] at q1 q2
      exact ⟨rfl, dk, HU.out, q1, q2⟩
end Go.Proofs.Ytkicnoohfilgjaa


