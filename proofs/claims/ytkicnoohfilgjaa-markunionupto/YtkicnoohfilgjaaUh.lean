/- Patterns broken. Printed by program. -/
import Derived.Test.YtkicnoohfilgjaaUg

import Derived.Sort.LotD5

namespace Go.Proofs.Ytkicnoohfilgjaa

open Go.RowKit Go.Shelf



theorem Us.fresh {w wr : World} {g o cap n : Nat} {d : Array Nat} (h : Us w g o cap n d wr) {r : Nat} (hr : w.heap.size ≤ r) (hg : g ≠ r) (i : Nat) (u : Value) : Us w g o cap n d (wr.setCell ⟨r, i, none⟩ u) :=
  ⟨h.row.kept (Below.heap_setCell wr _ _ g hg), h.size, ⟨h.grown.os, h.grown.tape, h.grown.output, by simpa [go_sem] using h.grown.size, fun k hk hne => by rw [Below.heap_setCell wr ⟨r, i, none⟩ u k (by show k ≠ r; omega)]; exact h.grown.block k hk hne⟩⟩


set_option maxRecDepth 100000 in
set_option maxHeartbeats 4000000 in
theorem ubrk_walk {w : World} {g o cap n a b : Nat} {d : Array Nat} (h : Un w g o cap d) (hn : d.size = n) (hab : a + 12 < b) (hb : b ≤ n) (hsz : n ≤ 2305843009213693951) :
    Calls Try.prog 46 #[.slice (some ⟨g, o, none⟩) n cap, .int .i64 a, .int .i64 b] w fun e w' => e = .returned (.tuple #[]) ∧ ∃ d', Us w g o cap n d' w' ∧ Sort.PermIn a b d d' := by
  obtain ⟨L, hL⟩ : ∃ L, L = b - a := ⟨_, rfl⟩
  obtain ⟨q, hq⟩ : ∃ q, q = L / 4 := ⟨_, rfl⟩
  obtain ⟨J, hJ⟩ : ∃ J, J = a + q * 2 := ⟨_, rfl⟩
  obtain ⟨M, hM⟩ : ∃ M : Nat, M = 1 <<< Sort.bitsLen L := ⟨_, rfl⟩
  have hM1 : 1 ≤ M := by rw [hM, Nat.one_shiftLeft]; exact Nat.two_pow_pos _
  have hM2 : M ≤ 2 * L := by rw [hM, Nat.one_shiftLeft]; exact Sort.two_pow_bitsLen_le (by omega)
  have HPW : Hid (∀ w, Calls Try.prog 56 #[.int .i64 L] w fun e w' => e = .returned (.int .u64 (M : Nat)) ∧ w' = w) := by
    intro w
    rw [hM]
    exact upow_walk L (by omega) w
  have rL : (b : Int) - (a : Int) = (L : Int) := by omega
  have rq : (L : Int).tdiv 4 = (q : Int) := by rw [Int.tdiv_eq_ediv_of_nonneg (by omega)]; omega
  have rJ : (a : Int) + (q : Int) * 2 = (J : Int) := by omega
  have hJ1 : a + 4 ≤ J := by omega
  have hJ2 : J + 2 < b := by omega
  have hqn : q < n := by omega
  have hL8 : 8 ≤ L := by omega
  have hLb : a + L = b := by omega
  have hwL : IntKind.u64.wrap (L : Int) = (L : Int) := by rw [IntKind.wrap_u64]; omega
  have HU0 : Hid (Us w g o cap n d (w.alloc (Obj.cells #[.int .u64 (L : Nat)] 82))) := ⟨h.alloc _, hn, (World.grownBy_alloc w _ _)⟩
  have HL64 : Hid (L < 18446744073709551616) := by show _ < _; omega
  obtain ⟨r, hr⟩ : ∃ r, r = w.heap.size := ⟨_, rfl⟩
  have HRN : Hid (w.heap.size ≤ r) := by show _ ≤ _; omega
  have HGN : Hid (g ≠ r) := by have := h.lt; show g ≠ r; omega
  clear h hn hL hq hJ hM
  go_enter Try.func46, Try.ntmps46
  go_wp2_with (go_at_call 56; refine (HPW.out _).mono ?_; rintro e w9 ⟨rfl, h9⟩; have h9 := h9.symm; subst h9)
  rw [← hr]
  have K1 : (w.alloc (Obj.cells #[.int .u64 (L : Nat)] 82)).cell? ⟨r, 0, none⟩ = some (.int .u64 (L : Nat)) := by rw [hr]; simp [go_sem]
  have K2 : (w.alloc (Obj.cells #[.int .u64 (L : Nat)] 82)).frozen? ⟨r, 0, none⟩ = false := by rw [hr]; simp [go_sem]
  have HK : Hid (_ ∧ _) := ⟨K1, K2⟩
  clear K1 K2 hr
  go_loopw [9] (fun iv wr => ∃ (i X : Nat) (dk : Array Nat), iv = .int .i64 i ∧ J ≤ i + 1 ∧ i ≤ J + 2 ∧ X < 18446744073709551616 ∧ wr.cell? ⟨r, 0, none⟩ = some (.int .u64 (X : Nat)) ∧ wr.frozen? ⟨r, 0, none⟩ = false ∧ Us w g o cap n dk wr ∧ Sort.PermIn a b d dk) (fun iv _ => J + 2 - (intOf iv).toNat)
  case atStart => exact ⟨J - 1, L, d, by congr 1; omega, by omega, by omega, HL64.out, HK.out.1, HK.out.2, HU0.out, Sort.permIn_refl _ _ _⟩
  case round =>
    obtain ⟨i, X, dk, rfl, h1, h2, hX, k1, k2, hU, hP⟩ := hrel
    have HU : Hid (Us w g o cap n dk wr) := hU
    have HP : Hid (Sort.PermIn a b d dk) := hP
    have HX : Hid (X < 18446744073709551616) := hX
    clear hU hP hX
    by_cases hlt : i ≤ J + 1
    · obtain ⟨Y, hY⟩ : ∃ Y, Y = Sort.xorNextN X := ⟨_, rfl⟩
      have hYL : Y < 18446744073709551616 := by rw [hY]; exact Sort.xorNextN_lt X HX.out
      have HY : Hid (Y = Sort.xorNextN X) := hY
      obtain ⟨O, hO⟩ : ∃ O : Nat, O = Y &&& (M - 1) := ⟨_, rfl⟩
      have hOM : O ≤ M - 1 := by rw [hO]; exact Nat.and_le_right
      have eAnd : bits .and .u64 (Y : Int) ((M : Int) - 1) = (O : Int) := by
        rw [show ((M : Int) - 1) = ((M - 1 : Nat) : Int) by omega, bits_and_u64_nat _ _ hYL (by omega), hO]
      have hwO : IntKind.i64.wrap (O : Int) = (O : Int) := wrapU (by omega) (by omega)
      have hwM : IntKind.u64.wrap ((M : Int) - 1) = (M : Int) - 1 := by rw [IntKind.wrap_u64]; omega
      have HYL : Hid (Y < 18446744073709551616) := hYL
      clear hY hO hYL
      by_cases hOL : L ≤ O
      · obtain ⟨E, hE⟩ : ∃ E, E = O - L := ⟨_, rfl⟩
        have rE : (O : Int) - (L : Int) = (E : Int) := by omega
        have hEL : E < L := by omega
        clear hE
        obtain ⟨P, hP⟩ : ∃ P, P = a + E := ⟨_, rfl⟩
        have rP : (a : Int) + (E : Int) = (P : Int) := by omega
        have hPa : a ≤ P := by omega
        have hPb : P < b := by omega
        clear hP
        go_wp2_with (go_at_call 57; refine (unext_walk _ X HX.out _ k1 k2).mono ?_; rw [← HY.out]; rintro e w9 ⟨rfl, h9⟩; subst h9)
        generalize hw2 : (wr.setCell ⟨r, 0, none⟩ (.int .u64 (Y : Nat))).drewN 3 = w2
        have HU2 : Hid (Us w g o cap n dk w2) := by show Us _ _ _ _ _ _ _; rw [← hw2]; exact (HU.out.fresh HRN.out HGN.out 0 _).drew 3
        have k1' : w2.cell? ⟨r, 0, none⟩ = some (.int .u64 (Y : Nat)) := by rw [← hw2]; simp [go_sem, k1]
        have k2' : w2.frozen? ⟨r, 0, none⟩ = false := by rw [← hw2]; simpa [go_sem] using k2
        clear hw2 k1 k2
        have k1 := k1'
        have k2 := k2'
        clear k1' k2'
        obtain ⟨G, hG, hcw, hfw⟩ := HU2.out.fam
        have HG : Hid (∀ x, G x = dk[x]!) := hG
        clear hG
        by_cases hiP : i = P
        · subst hiP
          go_region
          all_goals go_wp2_with fail
          all_goals go_roundw
          case rel => exact ⟨i + 1, Y, Sort.swp dk i i, by simp, by omega, by omega, HYL.out, by simpa [go_sem, HGN.out, HGN.out.symm] using k1, by simpa [go_sem, HGN.out, HGN.out.symm] using k2, HU2.out.swp0 (i := i) (j := i) HG.out (by omega) (by omega), Sort.permIn_trans _ _ _ _ _ HP.out (Sort.swp_permIn _ _ _ _ _ (by omega) (by omega) (by omega) (by omega) (by rw [HU.out.size]; exact hb))⟩
          case measure => simp [intOf]; omega
        · go_region
          all_goals go_wp2_with fail
          all_goals go_roundw
          case rel => exact ⟨i + 1, Y, Sort.swp dk i P, by simp, by omega, by omega, HYL.out, by simpa [go_sem, HGN.out, HGN.out.symm] using k1, by simpa [go_sem, HGN.out, HGN.out.symm] using k2, HU2.out.swp0 (i := i) (j := P) HG.out (by omega) (by omega), Sort.permIn_trans _ _ _ _ _ HP.out (Sort.swp_permIn _ _ _ _ _ (by omega) (by omega) (by omega) (by omega) (by rw [HU.out.size]; exact hb))⟩
          case measure => simp [intOf]; omega
      · obtain ⟨E, hE⟩ : ∃ E, E = O := ⟨_, rfl⟩
        subst hE
        have hEL : E < L := by omega
        obtain ⟨P, hP⟩ : ∃ P, P = a + E := ⟨_, rfl⟩
        have rP : (a : Int) + (E : Int) = (P : Int) := by omega
        have hPa : a ≤ P := by omega
        have hPb : P < b := by omega
        clear hP
        go_wp2_with (go_at_call 57; refine (unext_walk _ X HX.out _ k1 k2).mono ?_; rw [← HY.out]; rintro e w9 ⟨rfl, h9⟩; subst h9)
        generalize hw2 : (wr.setCell ⟨r, 0, none⟩ (.int .u64 (Y : Nat))).drewN 3 = w2
        have HU2 : Hid (Us w g o cap n dk w2) := by show Us _ _ _ _ _ _ _; rw [← hw2]; exact (HU.out.fresh HRN.out HGN.out 0 _).drew 3
        have k1' : w2.cell? ⟨r, 0, none⟩ = some (.int .u64 (Y : Nat)) := by rw [← hw2]; simp [go_sem, k1]
        have k2' : w2.frozen? ⟨r, 0, none⟩ = false := by rw [← hw2]; simpa [go_sem] using k2
        clear hw2 k1 k2
        have k1 := k1'
        have k2 := k2'
        clear k1' k2'
        obtain ⟨G, hG, hcw, hfw⟩ := HU2.out.fam
        have HG : Hid (∀ x, G x = dk[x]!) := hG
        clear hG
        by_cases hiP : i = P
        · subst hiP
          go_region
          all_goals go_wp2_with fail
          all_goals go_roundw
          case rel => exact ⟨i + 1, Y, Sort.swp dk i i, by simp, by omega, by omega, HYL.out, by simpa [go_sem, HGN.out, HGN.out.symm] using k1, by simpa [go_sem, HGN.out, HGN.out.symm] using k2, HU2.out.swp0 (i := i) (j := i) HG.out (by omega) (by omega), Sort.permIn_trans _ _ _ _ _ HP.out (Sort.swp_permIn _ _ _ _ _ (by omega) (by omega) (by omega) (by omega) (by rw [HU.out.size]; exact hb))⟩
          case measure => simp [intOf]; omega
        · go_region
          all_goals go_wp2_with fail
          all_goals go_roundw
          case rel => exact ⟨i + 1, Y, Sort.swp dk i P, by simp, by omega, by omega, HYL.out, by simpa [go_sem, HGN.out, HGN.out.symm] using k1, by simpa [go_sem, HGN.out, HGN.out.symm] using k2, HU2.out.swp0 (i := i) (j := P) HG.out (by omega) (by omega), Sort.permIn_trans _ _ _ _ _ HP.out (Sort.swp_permIn _ _ _ _ _ (by omega) (by omega) (by omega) (by omega) (by rw [HU.out.size]; exact hb))⟩
          case measure => simp [intOf]; omega
    · go_wp2_with fail
      go_end0
      exact ⟨rfl, dk, HU.out, HP.out⟩
end Go.Proofs.Ytkicnoohfilgjaa


