/- The walk of the statement WireForm. -/
import Derived.Test.YtiglkmdeokmnhaaL6
import Derived.Deep.RegionHeld3
namespace Go.Proofs.Ytiglkmdeokmnhaa
open Go.RowKit

theorem Bv.cutTo {w : World} {ao : Option Addr} {cap k : Nat} {l : List Nat} (h : Bv w (.slice ao l.length cap) l) (hk : k ≤ l.length) : Bv w (.slice ao k cap) (l.take k) := by
  obtain ⟨⟨ao', cap', e, h1, h2, h3, h4⟩, h5⟩ := h
  simp only [Value.slice.injEq, ib_len] at e
  obtain ⟨rfl, _, rfl⟩ := e
  rw [ib_len] at h1
  refine ⟨⟨ao, cap, ?_, ?_, h2, h3, ?_⟩, fun c hc => h5 c (List.mem_of_mem_take hc)⟩
  · rw [ib_len, List.length_take, Nat.min_eq_left hk]
  · rw [ib_len, List.length_take]; omega
  · intro i hi
    rw [ib_len, List.length_take] at hi
    obtain ⟨b, off, e1, e2⟩ := h4 i (by rw [ib_len]; omega)
    refine ⟨b, off, e1, ?_⟩
    rw [e2]
    simp [ib, List.getD, show i < k by omega]

theorem Bv.le_cap {w : World} {ao : Option Addr} {cap : Nat} {l : List Nat} (h : Bv w (.slice ao l.length cap) l) : l.length ≤ cap := by
  obtain ⟨⟨ao', cap', e, h1, _⟩, _⟩ := h
  simp only [Value.slice.injEq] at e
  obtain ⟨_, _, rfl⟩ := e
  rwa [ib_len] at h1

set_option linter.unusedSimpArgs false in
set_option maxRecDepth 100000 in
set_option maxHeartbeats 2000000 in
theorem form_walk (v : Value) (l : List Nat) (x : Nat) (hx : x < 18446744073709551616) (w : World) (hv : Bv w v l) :
    Calls Try.prog 7 #[v, .int .u64 x] w fun e w' => e = .returned (.bool true) ∧ Below w.heap.size w w' := by
  have HX : Hid (x < 18446744073709551616) := hx
  have HV : Hid (Bv w v l) := hv
  obtain ⟨a0, c0, rfl⟩ := bv_form hv
  clear hx hv
  go_enter Try.func7, Try.ntmps7
  go_wp2_with fail
  refine (awake_walk w).mono ?_
  rintro e w1 ⟨rfl, B1⟩
  have HB1 : Hid (Below w.heap.size w w1) := B1
  clear B1
  go_wp2_with fail
  refine (put_got x HX.out w1).mono ?_
  rintro e w2 ⟨a2, c2, rfl, P2, B2⟩
  have HB2 : Hid (Below w.heap.size w w2) := below_trans HB1.out B2
  have HV2 : Hid (Bv w2 (.slice a0 l.length c0) l) := HV.out.below HB2.out
  have HP2 : Hid (Bv w2 (.slice a2 (Wm.enc x).length c2) (Wm.enc x)) := P2
  clear B2 P2
  have hn1 : (1 : Int) ≤ ((Wm.enc x).length : Int) := by have := (Wm.enc_len x).1; omega
  have hn2 : ((Wm.enc x).length : Int) ≤ 10 := by have := (Wm.enc_len x).2; omega
  obtain ⟨n, hn⟩ : ∃ n, n = (Wm.enc x).length := ⟨_, rfl⟩
  have HN : Hid (n = (Wm.enc x).length) := hn
  have hcap : (n : Int) ≤ (c2 : Int) := by
    obtain ⟨⟨ao, cap, e, h1, _⟩, _⟩ := HP2.out
    rw [ib_len] at h1 e
    simp only [Value.slice.injEq] at e
    rw [hn]; omega
  rw [← hn] at hn1 hn2 ⊢
  clear hn
  go_wp2_with fail
  go_loop [6] (fun kv => ∃ k : Nat, k ≤ n ∧ kv = .int .i64 k) (fun kv => n - (intOf kv).toNat)
  case atStart => exact ⟨0, Nat.zero_le _, rfl⟩
  case round =>
    obtain ⟨k, hk, rfl⟩ := hrel
    by_cases hlt : (k : Int) < (n : Int)
    · have hkc : (k : Int) ≤ (c2 : Int) := by omega
      go_wp2_with fail
      refine (take_walk (HP2.out.cutTo (k := k) (by have := HN.out; omega))).mono ?_
      rintro e w3 ⟨he, rfl⟩
      rw [t3_lit (Wm.take_enc_short x k HX.out (by have := HN.out; omega))] at he
      subst he
      go_wp2_with fail
      go_round
      case rel => exact ⟨k + 1, by omega, by go_num⟩
      case measure => simp [intOf]; omega
    · clear hcap hk hn1 hn2
      go_wp2_with fail
      refine (take_walk HV2.out).mono ?_
      rintro e w3 ⟨he, rfl⟩
      rcases Wm.take_form l HV2.out.2 with ⟨er, her, h34⟩ | ⟨y, m, hty, hy, hm1, hm2, henc⟩
      · rw [t3_lit her] at he
        subst he
        rcases h34 with rfl | rfl
        · go_wp2_with fail
          go_ret
          exact ⟨rfl, HB2.out⟩
        · go_wp2_with fail
          go_ret
          exact ⟨rfl, HB2.out⟩
      · rw [t3_lit hty] at he
        subst he
        have HYE : Hid (Wm.enc y = l.take m) := henc
        have HYL : Hid (y < 18446744073709551616) := hy
        have hm1' : (1 : Int) ≤ (m : Int) := by omega
        have hm2' : (m : Int) ≤ (l.length : Int) := by omega
        have hm3' : (m : Int) ≤ (c0 : Int) := by have := HV2.out.le_cap; omega
        clear henc hy hty hm1 hm2
        have HC : Hid (Bv w3 (.slice a0 m c0) (l.take m)) := HV2.out.cutTo (by omega)
        have r1 := str_of (HC.out.below (below_drew w3))
        go_wp2_with fail
        refine wp_region_noPanic ?_
        refine wp_region_held_drew (S := fun w' => (convert 23 9 (.slice a0 m c0)).run Try.prog w' = .ok (.string (str (l.take m))) w') (by kernel_rfl) ?_ (fun hHeld => ?_)
        · exact r1
        refine wpAnyH_take (i := 0) (oi := ⟨some 59, _, _, _, _, _⟩) (v := ?_) rfl (by kernel_rfl) (by kernel_rfl) (by kernel_rfl) (fun _ _ _ h => h) (Or.inl ⟨by rfl, ?_⟩) (by assumption) ?_
        rotate_left
        · intro w hSw; (try dsimp only at hSw); go_simp; all_goals (with_reducible rfl)
        try simp only [Act.put, List.setIfInBounds_toArray, List.set_cons_zero, List.set_cons_succ]
        refine wpAnyH_take (i := 1) (oi := ⟨some 60, _, _, _, _, _⟩) (v := ?_) rfl (by kernel_rfl) (by kernel_rfl) (by kernel_rfl) (fun _ _ _ h => h) (Or.inl ⟨by rfl, ?_⟩) (by assumption) ?_
        rotate_left
        · intro w hSw; (try dsimp only at hSw); go_simp; all_goals (with_reducible rfl)
        try simp only [Act.put, List.setIfInBounds_toArray, List.set_cons_zero, List.set_cons_succ]
        refine wpAnyH_take (i := 2) (oi := ⟨some 61, _, _, _, _, _⟩) (v := ?_) rfl (by kernel_rfl) (by kernel_rfl) (by kernel_rfl) (fun _ _ _ h => h) (Or.inl ⟨by rfl, ?_⟩) (by assumption) ?_
        rotate_left
        · intro w hSw; (try dsimp only at hSw); go_simp; all_goals (with_reducible rfl)
        try simp only [Act.put, List.setIfInBounds_toArray, List.set_cons_zero, List.set_cons_succ]
        refine wpAnyH_take (i := 3) (oi := ⟨some 62, _, _, _, _, _⟩) (v := ?_) rfl (by kernel_rfl) (by kernel_rfl) (by kernel_rfl) (fun _ _ _ h => h) (Or.inl ⟨by rfl, ?_⟩) (by assumption) ?_
        rotate_left
        · intro w hSw; (try dsimp only at hSw); go_simp; all_goals (with_reducible rfl)
        try simp only [Act.put, List.setIfInBounds_toArray, List.set_cons_zero, List.set_cons_succ]
        refine wpAnyH_take (i := 4) (oi := ⟨some 63, _, _, _, _, _⟩) (v := ?_) rfl (by kernel_rfl) (by kernel_rfl) (by kernel_rfl) (fun _ _ _ h => h) (Or.inl ⟨by rfl, ?_⟩) (by assumption) ?_
        rotate_left
        · intro w hSw; (try dsimp only at hSw); go_simp; all_goals (with_reducible rfl)
        try simp only [Act.put, List.setIfInBounds_toArray, List.set_cons_zero, List.set_cons_succ]
        refine wpAnyH_take (i := 5) (oi := ⟨some 64, _, _, _, _, _⟩) (v := ?_) rfl (by kernel_rfl) (by kernel_rfl) (by kernel_rfl) (fun _ _ _ h => h) (Or.inl ⟨by rfl, ?_⟩) (by assumption) ?_
        rotate_left
        · intro w hSw; (try dsimp only at hSw); go_simp; all_goals (with_reducible rfl)
        try simp only [Act.put, List.setIfInBounds_toArray, List.set_cons_zero, List.set_cons_succ]
        refine wpAnyH_take (i := 6) (oi := ⟨some 65, _, _, _, _, _⟩) (v := ?_) rfl (by kernel_rfl) (by kernel_rfl) (by kernel_rfl) (fun _ _ _ h => h) (Or.inl ⟨by rfl, ?_⟩) (by assumption) ?_
        rotate_left
        · intro w hSw; (try dsimp only at hSw); go_simp; all_goals (with_reducible rfl)
        try simp only [Act.put, List.setIfInBounds_toArray, List.set_cons_zero, List.set_cons_succ]
        refine wpAnyH_take (i := 7) (oi := ⟨some 66, _, _, _, _, _⟩) (v := ?_) rfl (by kernel_rfl) (by kernel_rfl) (by kernel_rfl) (fun _ _ _ h => h) (Or.inl ⟨by rfl, ?_⟩) (by assumption) ?_
        rotate_left
        · intro w hSw; (try dsimp only at hSw); go_simp; all_goals (with_reducible rfl)
        try simp only [Act.put, List.setIfInBounds_toArray, List.set_cons_zero, List.set_cons_succ]
        refine wpAnyH_take (i := 8) (oi := ⟨some 67, _, _, _, _, _⟩) (v := ?_) rfl (by kernel_rfl) (by kernel_rfl) (by kernel_rfl) (fun _ _ _ h => h) (Or.inl ⟨by rfl, ?_⟩) (by assumption) ?_
        rotate_left
        · intro w hSw; (try dsimp only at hSw); go_simp; all_goals (with_reducible rfl)
        try simp only [Act.put, List.setIfInBounds_toArray, List.set_cons_zero, List.set_cons_succ]
        refine wpAnyH_take (i := 9) (oi := ⟨some 68, _, _, _, _, _⟩) (v := ?_) rfl (by kernel_rfl) (by kernel_rfl) (by kernel_rfl) (fun _ _ _ h => h) (Or.inl ⟨by rfl, ?_⟩) (by assumption) ?_
        rotate_left
        · intro w hSw; (try dsimp only at hSw); go_simp; all_goals (with_reducible rfl)
        try simp only [Act.put, List.setIfInBounds_toArray, List.set_cons_zero, List.set_cons_succ]
        refine wpAnyH_take (i := 12) (oi := ⟨some 71, _, _, _, _, _⟩) (v := ?_) rfl (by kernel_rfl) (by kernel_rfl) (by kernel_rfl) (fun _ _ _ h => h) (Or.inl ⟨by rfl, ?_⟩) (by assumption) ?_
        rotate_left
        · intro w hSw; (try dsimp only at hSw); go_simp; all_goals (with_reducible rfl)
        try simp only [Act.put, List.setIfInBounds_toArray, List.set_cons_zero, List.set_cons_succ]
        refine wpAnyH_take (i := 13) (oi := ⟨some 72, _, _, _, _, _⟩) (v := ?_) rfl (by kernel_rfl) (by kernel_rfl) (by kernel_rfl) (fun _ _ _ h => h) (Or.inl ⟨by rfl, ?_⟩) (by assumption) ?_
        rotate_left
        · intro w hSw; (try dsimp only at hSw); go_simp; all_goals (with_reducible rfl)
        try simp only [Act.put, List.setIfInBounds_toArray, List.set_cons_zero, List.set_cons_succ]
        refine wpAnyH_take (i := 14) (oi := ⟨some 73, _, _, _, _, _⟩) (v := ?_) rfl (by kernel_rfl) (by kernel_rfl) (by kernel_rfl) (fun _ _ _ h => h) (Or.inl ⟨by rfl, ?_⟩) (by assumption) ?_
        rotate_left
        · intro w hSw; (try dsimp only at hSw); go_simp; all_goals (with_reducible rfl)
        try simp only [Act.put, List.setIfInBounds_toArray, List.set_cons_zero, List.set_cons_succ]
        refine wpAnyH_take (i := 15) (oi := ⟨some 74, _, _, _, _, _⟩) (v := ?_) rfl (by kernel_rfl) (by kernel_rfl) (by kernel_rfl) (fun _ _ _ h => h) (Or.inl ⟨by rfl, ?_⟩) (by assumption) ?_
        rotate_left
        · intro w hSw; (try dsimp only at hSw); go_simp; all_goals (with_reducible rfl)
        try simp only [Act.put, List.setIfInBounds_toArray, List.set_cons_zero, List.set_cons_succ]
        refine wpAnyH_ready (rs := [10]) (by kernel_rfl) (by simp) ?_
        refine AllReadyH.cons (o := ⟨some 69, _, _, _, _, _⟩) rfl (fun K hK => ?_) AllReadyH.nil
        go_simp
        refine (put_got y HYL.out _).mono ?_
        rintro e w4 ⟨a4, c4, rfl, P4, B4⟩
        have r4 := str_of P4
        have r4' := str_of (HC.out.below (below_trans (below_drew w3) B4))
        go_simp
        refine hK.out _ _ ?_ (fun hHeld => ?_)
        · exact r4'
        clear hK K
        try simp only [Act.put, List.setIfInBounds_toArray, List.set_cons_zero, List.set_cons_succ]
        refine wpAnyH_ready (rs := [11]) (by kernel_rfl) (by simp) ?_
        refine AllReadyH.cons (o := ⟨some 70, _, _, _, _, _⟩) rfl (fun K hK => ?_) AllReadyH.nil
        go_simp
        refine hK.out _ _ ?_ (fun hHeld => ?_)
        · exact r4'
        clear hK K
        try simp only [Act.put, List.setIfInBounds_toArray, List.set_cons_zero, List.set_cons_succ]
        refine wpAnyH_take (i := 16) (oi := ⟨some 75, _, _, _, _, _⟩) (v := ?_) rfl (by kernel_rfl) (by kernel_rfl) (by kernel_rfl) (fun _ _ _ h => h) (Or.inl ⟨by rfl, ?_⟩) (by assumption) ?_
        rotate_left
        · intro w hSw; (try dsimp only at hSw); go_simp; all_goals (with_reducible rfl)
        try simp only [Act.put, List.setIfInBounds_toArray, List.set_cons_zero, List.set_cons_succ]
        refine wpAnyH_take (i := 17) (oi := ⟨some 76, _, _, _, _, _⟩) (v := ?_) rfl (by kernel_rfl) (by kernel_rfl) (by kernel_rfl) (fun _ _ _ h => h) (Or.inl ⟨by rfl, ?_⟩) (by assumption) ?_
        rotate_left
        · intro w hSw; (try dsimp only at hSw); go_simp; all_goals (with_reducible rfl)
        try simp only [Act.put, List.setIfInBounds_toArray, List.set_cons_zero, List.set_cons_succ]
        refine wpAnyH_take (i := 18) (oi := ⟨some 4, _, _, _, _, _⟩) (v := ?_) rfl (by kernel_rfl) (by kernel_rfl) (by kernel_rfl) (fun _ _ _ h => h) (Or.inl ⟨by rfl, ?_⟩) (by assumption) ?_
        rotate_left
        · intro w hSw; (try dsimp only at hSw); go_simp; all_goals (with_reducible rfl)
        try simp only [Act.put, List.setIfInBounds_toArray, List.set_cons_zero, List.set_cons_succ]
        refine wpAnyH_done (by kernel_rfl) ?_ _
        refine NoPanic.normal ?_
        have HB4 : Hid (Below w.heap.size w w4) := below_trans HB2.out (below_trans (below_drew w3) B4)
        clear r1 r4 r4' P4 B4
        go_wp2_with fail
        go_ret
        exact ⟨by rw [HYE.out]; simp, HB4.out⟩
end Go.Proofs.Ytiglkmdeokmnhaa
