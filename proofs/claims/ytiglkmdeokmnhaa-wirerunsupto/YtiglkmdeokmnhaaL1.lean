/- The walk of the statement WireNumbers. -/
import Derived.Test.YtiglkmdeokmnhaaL5
namespace Go.Proofs.Ytiglkmdeokmnhaa
open Go.RowKit

theorem wd_lt (x : Nat) : ∀ c ∈ Wm.wd x, c < 256 := Wm.wdF_lt 8 x

/-- What a caller takes of a function that answers the bytes l. -/
def Gives (l : List Nat) (w : World) (e : Ending) (w' : World) : Prop :=
  ∃ ao cap, e = .returned (.slice ao l.length cap) ∧ Bv w' (.slice ao l.length cap) l ∧ Below w.heap.size w w'

theorem gives_of {l : List Nat} {n : Nat} {w : World} (hl : ∀ c ∈ l, c < 256) {e : Ending} {w' : World} (h : ∃ v, e = .returned v ∧ w'.ownsRow w.heap.size 5 1 v n ((ib l).map (Value.int .u8)) ∧ Below w.heap.size w w') : Gives l w e w' := by
  obtain ⟨v, rfl, hown, hbel⟩ := h
  obtain rfl : n = l.length := by have := own_len hown; rwa [ib_len] at this
  obtain ⟨ao, cap, rfl⟩ := own_form hown
  exact ⟨ao, cap, rfl, own_bv hown hl, hbel⟩

theorem rput_got (x : Nat) (hx : x < 18446744073709551616) (w : World) : Calls Try.prog 12 #[.int .u64 x] w (Gives (Wm.enc x) w) :=
  (rput_walk x hx w).mono fun _ _ h => gives_of (Wm.enc_lt x hx) h
theorem word_got (x : Nat) (w : World) : Calls Try.prog 11 #[.int .u64 x] w (Gives (Wm.wd x) w) :=
  (word_walk x w).mono fun _ _ h => gives_of (wd_lt x) h
theorem rword_got (x : Nat) (hx : x < 18446744073709551616) (w : World) : Calls Try.prog 13 #[.int .u64 x] w (Gives (Wm.wd x) w) :=
  (rword_walk x hx w).mono fun _ _ h => gives_of (wd_lt x) h
/-- Join of two. -/
theorem join_got {w : World} {u v : Value} {l r t : List Nat} (hu : Bv w u l) (hv : Bv w v r) (ht : t = l ++ r) (hsz : l.length + r.length ≤ 140737488355328) :
    Calls Try.prog 15 #[.slice (some ⟨w.heap.size, 0, none⟩) 2 2] (w.alloc (.cells #[u, v] 23)) (Gives t w) := by
  subst ht
  refine (join_walk (pv_two _ hu hv) (by rw [flat_two, List.length_append]; exact hsz)).mono fun e w' h => ?_
  rw [flat_two] at h
  obtain ⟨ao, cap, h1, h2, h3⟩ := gives_of (w := w.alloc (.cells #[u, v] 23)) (fun c hc => (List.mem_append.1 hc).elim (hu.2 c) (hv.2 c)) h
  exact ⟨ao, cap, h1, h2, below_trans (below_alloc _ _) h3⟩

theorem takeW_wd {x : Nat} (r : List Nat) (hx : x < 18446744073709551616) : Wm.takeW (Wm.wd x ++ r) = (x, 0) := by
  unfold Wm.takeW
  rw [if_neg (by rw [List.length_append, Wm.wd_len]; omega), List.take_append_of_le_length (by rw [Wm.wd_len]; omega), List.take_of_length_le (by rw [Wm.wd_len]; omega), Wm.unw_wd x hx]

set_option linter.unusedSimpArgs false in
set_option maxRecDepth 100000 in
set_option maxHeartbeats 4000000 in
theorem numbers_walk (x : Nat) (v : Value) (l : List Nat) (hx : x < 18446744073709551616) (w : World) (hv : Bv w v l) (hsz : l.length + 10 ≤ 140737488355328) :
    Calls Try.prog 3 #[.int .u64 x, v] w fun e w' => e = .returned (.bool true) ∧ Below w.heap.size w w' := by
  have HX : Hid (x < 18446744073709551616) := hx
  have HV : Hid (Bv w v l) := hv
  have HSZ : Hid (l.length + 10 ≤ 140737488355328) := hsz
  obtain ⟨a0, c0, rfl⟩ := bv_form hv
  have hn : Hid ((Wm.enc x).length ≤ 10) := (Wm.enc_len x).2
  clear hx hv hsz
  go_enter Try.func3, Try.ntmps3
  go_wp2_with fail
  refine (awake_walk w).mono ?_
  rintro e w1 ⟨rfl, B1⟩
  have HB1 : Hid (Below w.heap.size w w1) := B1
  clear B1
  go_wp2_with fail
  refine (put_got x HX.out w1).mono ?_
  rintro e w2 ⟨a2, c2, rfl, P2, B2⟩
  have HB2 : Hid (Below w.heap.size w w2) := below_trans HB1.out B2
  have HP2 : Hid (Bv w2 (.slice a2 (Wm.enc x).length c2) (Wm.enc x)) := P2
  clear B2 P2
  go_wp2_with fail
  refine (word_got x w2).mono ?_
  rintro e w3 ⟨a3, c3, rfl, P3, B3⟩
  have HB3 : Hid (Below w.heap.size w w3) := below_trans HB2.out B3
  have HP2' : Hid (Bv w3 (.slice a2 (Wm.enc x).length c2) (Wm.enc x)) := HP2.out.below B3
  have HP3 : Hid (Bv w3 (.slice a3 (Wm.wd x).length c3) (Wm.wd x)) := P3
  clear B3 P3 HP2
  have q1 := str_of (HP2'.out.below (below_drew w3))
  have q2 := str_of (HP3.out.below (below_drew w3))
  go_wp2_with fail
  refine wp_region_noPanic ?_
  refine wp_region_held_drew (S := fun w' => (convert 23 9 (.slice a2 (Wm.enc x).length c2)).run Try.prog w' = .ok (.string (str (Wm.enc x))) w' ∧ (convert 23 9 (.slice a3 (Wm.wd x).length c3)).run Try.prog w' = .ok (.string (str (Wm.wd x))) w') (by kernel_rfl) ?_ (fun hHeld => ?_)
  · exact ⟨q1, q2⟩
  refine wpAnyH_take (i := 0) (oi := ⟨some 18, _, _, _, _, _⟩) (v := ?_) rfl (by kernel_rfl) (by kernel_rfl) (by kernel_rfl) (fun _ _ _ h => h) (Or.inl ⟨by rfl, ?_⟩) (by assumption) ?_
  rotate_left
  · intro w hSw; (try dsimp only at hSw); go_simp; all_goals (with_reducible rfl)
  try simp only [Act.put, List.setIfInBounds_toArray, List.set_cons_zero, List.set_cons_succ]
  refine wpAnyH_take (i := 1) (oi := ⟨some 19, _, _, _, _, _⟩) (v := ?_) rfl (by kernel_rfl) (by kernel_rfl) (by kernel_rfl) (fun _ _ _ h => h) (Or.inl ⟨by rfl, ?_⟩) (by assumption) ?_
  rotate_left
  · intro w hSw; (try dsimp only at hSw); go_simp; all_goals (with_reducible rfl)
  try simp only [Act.put, List.setIfInBounds_toArray, List.set_cons_zero, List.set_cons_succ]
  refine wpAnyH_take (i := 2) (oi := ⟨some 20, _, _, _, _, _⟩) (v := ?_) rfl (by kernel_rfl) (by kernel_rfl) (by kernel_rfl) (fun _ _ _ h => h) (Or.inl ⟨by rfl, ?_⟩) (by assumption) ?_
  rotate_left
  · intro w hSw; (try dsimp only at hSw); go_simp; all_goals (with_reducible rfl)
  try simp only [Act.put, List.setIfInBounds_toArray, List.set_cons_zero, List.set_cons_succ]
  refine wpAnyH_ready (rs := [3]) (by kernel_rfl) (by simp) ?_
  refine AllReadyH.cons (o := ⟨some 21, _, _, _, _, _⟩) rfl (fun K hK => ?_) AllReadyH.nil
  go_simp
  refine (rput_got x HX.out _).mono ?_
  rintro e w4 ⟨a4, c4, rfl, P4, B4⟩
  have r4 := str_of P4
  have q3 := str_of (HP2'.out.below (below_trans (below_drew w3) B4))
  have q4 := str_of (HP3.out.below (below_trans (below_drew w3) B4))
  go_simp
  refine hK.out _ _ ?_ (fun hHeld => ?_)
  · exact ⟨q3, q4⟩
  clear hK K
  try simp only [Act.put, List.setIfInBounds_toArray, List.set_cons_zero, List.set_cons_succ]
  refine wpAnyH_ready (rs := [4]) (by kernel_rfl) (by simp) ?_
  refine AllReadyH.cons (o := ⟨some 22, _, _, _, _, _⟩) rfl (fun K hK => ?_) AllReadyH.nil
  go_simp
  refine hK.out _ _ ?_ (fun hHeld => ?_)
  · exact ⟨q3, q4⟩
  clear hK K
  try simp only [Act.put, List.setIfInBounds_toArray, List.set_cons_zero, List.set_cons_succ]
  refine wpAnyH_take (i := 5) (oi := ⟨some 23, _, _, _, _, _⟩) (v := ?_) rfl (by kernel_rfl) (by kernel_rfl) (by kernel_rfl) (fun _ _ _ h => h) (Or.inl ⟨by rfl, ?_⟩) (by assumption) ?_
  rotate_left
  · intro w hSw; (try dsimp only at hSw); go_simp; all_goals (with_reducible rfl)
  try simp only [Act.put, List.setIfInBounds_toArray, List.set_cons_zero, List.set_cons_succ]
  refine wpAnyH_take (i := 6) (oi := ⟨some 24, _, _, _, _, _⟩) (v := ?_) rfl (by kernel_rfl) (by kernel_rfl) (by kernel_rfl) (fun _ _ _ h => h) (Or.inl ⟨by rfl, ?_⟩) (by assumption) ?_
  rotate_left
  · intro w hSw; (try dsimp only at hSw); go_simp; all_goals (with_reducible rfl)
  try simp only [Act.put, List.setIfInBounds_toArray, List.set_cons_zero, List.set_cons_succ]
  refine wpAnyH_take (i := 7) (oi := ⟨some 25, _, _, _, _, _⟩) (v := ?_) rfl (by kernel_rfl) (by kernel_rfl) (by kernel_rfl) (fun _ _ _ h => h) (Or.inl ⟨by rfl, ?_⟩) (by assumption) ?_
  rotate_left
  · intro w hSw; (try dsimp only at hSw); go_simp; all_goals (with_reducible rfl)
  try simp only [Act.put, List.setIfInBounds_toArray, List.set_cons_zero, List.set_cons_succ]
  refine wpAnyH_take (i := 8) (oi := ⟨some 26, _, _, _, _, _⟩) (v := ?_) rfl (by kernel_rfl) (by kernel_rfl) (by kernel_rfl) (fun _ _ _ h => h) (Or.inl ⟨by rfl, ?_⟩) (by assumption) ?_
  rotate_left
  · intro w hSw; (try dsimp only at hSw); go_simp; all_goals (with_reducible rfl)
  try simp only [Act.put, List.setIfInBounds_toArray, List.set_cons_zero, List.set_cons_succ]
  refine wpAnyH_take (i := 9) (oi := ⟨some 27, _, _, _, _, _⟩) (v := ?_) rfl (by kernel_rfl) (by kernel_rfl) (by kernel_rfl) (fun _ _ _ h => h) (Or.inl ⟨by rfl, ?_⟩) (by assumption) ?_
  rotate_left
  · intro w hSw; (try dsimp only at hSw); go_simp; all_goals (with_reducible rfl)
  try simp only [Act.put, List.setIfInBounds_toArray, List.set_cons_zero, List.set_cons_succ]
  refine wpAnyH_ready (rs := [10]) (by kernel_rfl) (by simp) ?_
  refine AllReadyH.cons (o := ⟨some 28, _, _, _, _, _⟩) rfl (fun K hK => ?_) AllReadyH.nil
  go_simp
  refine (rword_got x HX.out _).mono ?_
  rintro e w5 ⟨a5, c5, rfl, P5, B5⟩
  have r5 := str_of P5
  have q5 := str_of (HP2'.out.below (below_trans (below_trans (below_drew w3) B4) B5))
  have q6 := str_of (HP3.out.below (below_trans (below_trans (below_drew w3) B4) B5))
  go_simp
  refine hK.out _ _ ?_ (fun hHeld => ?_)
  · exact ⟨q5, q6⟩
  clear hK K
  try simp only [Act.put, List.setIfInBounds_toArray, List.set_cons_zero, List.set_cons_succ]
  refine wpAnyH_ready (rs := [11]) (by kernel_rfl) (by simp) ?_
  refine AllReadyH.cons (o := ⟨some 29, _, _, _, _, _⟩) rfl (fun K hK => ?_) AllReadyH.nil
  go_simp
  refine hK.out _ _ ?_ (fun hHeld => ?_)
  · exact ⟨q5, q6⟩
  clear hK K
  try simp only [Act.put, List.setIfInBounds_toArray, List.set_cons_zero, List.set_cons_succ]
  refine wpAnyH_take (i := 12) (oi := ⟨some 30, _, _, _, _, _⟩) (v := ?_) rfl (by kernel_rfl) (by kernel_rfl) (by kernel_rfl) (fun _ _ _ h => h) (Or.inl ⟨by rfl, ?_⟩) (by assumption) ?_
  rotate_left
  · intro w hSw; (try dsimp only at hSw); go_simp; all_goals (with_reducible rfl)
  try simp only [Act.put, List.setIfInBounds_toArray, List.set_cons_zero, List.set_cons_succ]
  refine wpAnyH_take (i := 13) (oi := ⟨some 31, _, _, _, _, _⟩) (v := ?_) rfl (by kernel_rfl) (by kernel_rfl) (by kernel_rfl) (fun _ _ _ h => h) (Or.inl ⟨by rfl, ?_⟩) (by assumption) ?_
  rotate_left
  · intro w hSw; (try dsimp only at hSw); go_simp; all_goals (with_reducible rfl)
  try simp only [Act.put, List.setIfInBounds_toArray, List.set_cons_zero, List.set_cons_succ]
  refine wpAnyH_done (by kernel_rfl) ?_ _
  refine NoPanic.normal ?_
  have HB5 : Hid (Below w.heap.size w w5) := below_trans HB3.out (below_trans (below_trans (below_drew w3) B4) B5)
  have HQ2 : Hid (Bv w5 (.slice a2 (Wm.enc x).length c2) (Wm.enc x)) := HP2'.out.below (below_trans (below_trans (below_drew w3) B4) B5)
  have HQ3 : Hid (Bv w5 (.slice a3 (Wm.wd x).length c3) (Wm.wd x)) := HP3.out.below (below_trans (below_trans (below_drew w3) B4) B5)
  have HV5 : Hid (Bv w5 (.slice a0 l.length c0) l) := HV.out.below HB5.out
  clear r4 r5 q1 q2 q3 q4 q5 q6 P4 P5 B4 B5
  go_wp2_with fail
  obtain ⟨t1, ht1⟩ : ∃ t1, t1 = Wm.enc x ++ l := ⟨_, rfl⟩
  have HT1 : Hid (t1 = Wm.enc x ++ l) := ht1
  obtain ⟨t2', ht2⟩ : ∃ t2', t2' = Wm.wd x ++ l := ⟨_, rfl⟩
  have HT2 : Hid (t2' = Wm.wd x ++ l) := ht2
  clear ht1 ht2
  refine (join_got HQ2.out HV5.out HT1.out (by have := hn.out; have := HSZ.out; omega)).mono ?_
  rintro e w6 ⟨a6, c6, rfl, P6, B6⟩
  have HB6 : Hid (Below w.heap.size w w6) := below_trans HB5.out B6
  have HP6 : Hid (Bv w6 (.slice a6 t1.length c6) t1) := P6
  have HQ6 : Hid (Bv w6 (.slice a3 (Wm.wd x).length c3) (Wm.wd x)) := HQ3.out.below B6
  have HV6 : Hid (Bv w6 (.slice a0 l.length c0) l) := HV5.out.below B6
  clear P6 B6
  go_wp2_with fail
  refine (take_walk HP6.out).mono ?_
  rintro e w7 ⟨he, rfl⟩
  rw [t3_lit (show Wm.take t1 = (x, (Wm.enc x).length, 0) by rw [HT1.out]; exact Wm.take_enc x l HX.out)] at he
  subst he
  go_wp2_with fail
  refine (join_got HQ6.out HV6.out HT2.out (by rw [Wm.wd_len]; have := HSZ.out; omega)).mono ?_
  rintro e w8 ⟨a8, c8, rfl, P8, B8⟩
  have HB8 : Hid (Below w.heap.size w w8) := below_trans HB6.out B8
  have HP8 : Hid (Bv w8 (.slice a8 t2'.length c8) t2') := P8
  clear P8 B8
  go_wp2_with fail
  refine (takew_walk HP8.out).mono ?_
  rintro e w9 ⟨he, rfl⟩
  rw [t2_lit (show Wm.takeW t2' = (x, 0) by rw [HT2.out]; exact takeW_wd l HX.out)] at he
  subst he
  go_wp2_with fail
  go_ret
  exact ⟨rfl, HB8.out⟩
end Go.Proofs.Ytiglkmdeokmnhaa
