/- The walk of the statement WireRuns. -/
import Derived.Test.YtiglkmdeokmnhaaL2
namespace Go.Proofs.Ytiglkmdeokmnhaa
open Go.RowKit

/-- What is kept of the world while a region runs may be made more. -/
theorem wpAnyH_more {P : Program} {md : Region.Mode} {ops : Array Oper} {Q : Exit → Act → World → Prop} {S S' : World → Prop} (h : ∀ w, S' w → S w) :
    ∀ (fuel : Nat) (listed : Array Bool) (a : Act) (w : World), wpAnyH P md ops Q S' fuel listed a w → wpAnyH P md ops Q S fuel listed a w
  | 0, _, _, _, hh => hh
  | fuel + 1, _, _, _, hh => ⟨hh.1, fun i hi => wpOp_mono (fun a' w' h' => ⟨h _ h'.1, wpAnyH_more h fuel _ a' w' h'.2⟩) (hh.2 i hi)⟩

theorem pv_form {w : World} {v : Value} {ls : List (List Nat)} (h : Pv w v ls) : ∃ ao cap, v = .slice ao ls.length cap := by
  obtain ⟨ao, cap, rfl, _⟩ := h
  exact ⟨ao, cap, rfl⟩

theorem pv_at {w : World} {ao : Option Addr} {n cap : Nat} {ls : List (List Nat)} (h : Pv w (.slice ao n cap) ls) (i : Nat) (hi : i < ls.length) :
    ∃ b off a c, ao = some ⟨b, off, none⟩ ∧ w.cell? ⟨b, off + i, none⟩ = some (.slice a (ls.getD i []).length c) ∧ Bv w (.slice a (ls.getD i []).length c) (ls.getD i []) := by
  obtain ⟨ao', cap', e, _, _, _, h4⟩ := h
  simp only [Value.slice.injEq] at e
  obtain ⟨rfl, _, _⟩ := e
  obtain ⟨b, off, u, e1, e2, e3⟩ := h4 i hi
  obtain ⟨a, c, rfl⟩ := bv_form e3
  exact ⟨b, off, a, c, e1, e2, e3⟩

theorem flat_lt {w : World} {v : Value} {ls : List (List Nat)} (h : Pv w v ls) : ∀ c ∈ ls.flatten, c < 256 := by
  obtain ⟨ao, cap, rfl, _, _, _, h4⟩ := h
  intro c hc
  obtain ⟨l, hl, hcl⟩ := List.mem_flatten.1 hc
  obtain ⟨i, hi, rfl⟩ := List.getElem_of_mem hl
  obtain ⟨b, off, u, _, _, e3⟩ := h4 i hi
  have := e3.2
  simp [List.getD, List.getElem?_eq_getElem hi] at this
  exact this c hcl

/-- Join's answer, as a caller takes it. -/
theorem joins_got {w : World} {v : Value} {ls : List (List Nat)} {t : List Nat} (h : Pv w v ls) (ht : t = ls.flatten) (hsz : t.length ≤ 140737488355328) : Calls Try.prog 15 #[v] w (Gives t w) := by
  subst ht
  exact (join_walk h hsz).mono fun _ _ hh => gives_of (flat_lt h) hh
theorem rjoins_got {w : World} {v : Value} {ls : List (List Nat)} {t : List Nat} (h : Pv w v ls) (ht : t = ls.flatten) (hsz : t.length ≤ 140737488355328) : Calls Try.prog 24 #[v] w (Gives t w) := by
  subst ht
  exact (rjoin_walk h hsz).mono fun _ _ hh => gives_of (flat_lt h) hh

theorem runOf_lt {l : List Nat} (hl : l.length < 18446744073709551616) (h : ∀ c ∈ l, c < 256) : ∀ c ∈ runOf l, c < 256 := by
  intro c hc
  rcases List.mem_append.1 hc with h' | h'
  · exact Wm.enc_lt _ hl c h'
  · exact h c h'
theorem run_got {w : World} {v : Value} {l t : List Nat} (h : Bv w v l) (ht : t = runOf l) (hsz : l.length + 10 ≤ 140737488355328) : Calls Try.prog 25 #[v] w (Gives t w) := by
  subst ht
  exact (run_walk h hsz).mono fun _ _ hh => gives_of (runOf_lt (by omega) h.2) hh
theorem rrun_got {w : World} {v : Value} {l t : List Nat} (h : Bv w v l) (ht : t = runOf l) (hsz : l.length + 10 ≤ 140737488355328) : Calls Try.prog 26 #[v] w (Gives t w) := by
  subst ht
  exact (rrun_walk h hsz).mono fun _ _ hh => gives_of (runOf_lt (by omega) h.2) hh

theorem takeRun_runOf (s r : List Nat) (hs : s.length < 18446744073709551616) : Wm.takeRun (runOf s ++ r) = (s, (runOf s).length, 0) := by
  have ht := Wm.take_enc s.length (s ++ r) hs
  have e : runOf s ++ r = Wm.enc s.length ++ (s ++ r) := by simp [runOf]
  rw [takeRun_ok (x := s.length) (n := (Wm.enc s.length).length) (by rw [e]; exact ht) (by rw [e]; simp)]
  rw [e, List.drop_left, List.take_left]
  simp [runOf]

/-- All runs of the lists, one behind the other. -/
def runs (ls : List (List Nat)) : List Nat := (ls.map runOf).flatten

theorem runs_len (ls : List (List Nat)) : (runs ls).length ≤ ls.flatten.length + 10 * ls.length := by
  unfold runs
  induction ls with
  | nil => simp
  | cons l ls ih =>
    have := runOf_len l
    simp only [List.map_cons, List.flatten_cons, List.length_append, List.length_cons]
    omega
theorem runs_take_succ {ls : List (List Nat)} {k : Nat} {s : List Nat} (hk : k < ls.length) (hs : ls.getD k [] = s) : runs (ls.take (k + 1)) = runs (ls.take k) ++ runOf s := by
  have e : ls.getD k [] = ls[k] := by simp [List.getD, List.getElem?_eq_getElem hk]
  unfold runs
  rw [List.take_succ_eq_append_getElem hk, List.map_append, List.flatten_append, ← e, hs]
  simp
theorem runs_drop {ls : List (List Nat)} {k : Nat} {s : List Nat} (hk : k < ls.length) (hs : ls.getD k [] = s) : runs (ls.drop k) = runOf s ++ runs (ls.drop (k + 1)) := by
  have e : ls.getD k [] = ls[k] := by simp [List.getD, List.getElem?_eq_getElem hk]
  unfold runs
  rw [List.drop_eq_getElem_cons hk, List.map_cons, List.flatten_cons, ← e, hs]
theorem runs_take_le (ls : List (List Nat)) (k : Nat) : (runs (ls.take k)).length ≤ ls.flatten.length + 10 * ls.length := by
  have h1 := runs_len (ls.take k)
  have h2 := flat_take_le ls k
  have h3 : (ls.take k).length ≤ ls.length := List.length_take_le' ..
  omega
theorem part_le {ls : List (List Nat)} {k : Nat} {s : List Nat} (hk : k < ls.length) (hs : ls.getD k [] = s) : s.length ≤ ls.flatten.length := by
  have h1 := flat_take_le ls (k + 1)
  rw [flat_take_succ ls k hk, List.length_append, hs] at h1
  omega

/-- The first loop: k runs stand in the row. -/
def Runs1 (ls : List (List Nat)) (H : Nat) (w : World) (v iv : Value) (wr : World) : Prop :=
  ∃ k : Nat, k ≤ ls.length ∧ iv = .int .i64 k ∧ wr.ownsRow H 5 1 v (runs (ls.take k)).length ((ib (runs (ls.take k))).map (Value.int .u8)) ∧ Below H w wr

theorem runs1_step {ls : List (List Nat)} {H k : Nat} {w wr w1 w2 : World} {v v' : Value} {s t : List Nat} (hk : k < ls.length) (hs : ls.getD k [] = s) (ht : t = runOf s) (hbel : Below H w wr) (hH : H ≤ wr.heap.size) (hb1 : Below wr.heap.size wr w1)
    (hown : w1.ownsRow H 5 1 v (runs (ls.take k)).length ((ib (runs (ls.take k))).map (Value.int .u8)))
    (hown' : w2.ownsRow H 5 1 v' ((runs (ls.take k)).length + (ib t).length) ((ib (runs (ls.take k))).map (Value.int .u8) ++ (ib t).map (Value.int .u8))) (hg : w1.grownBy w2 v.ownBlock) :
    Runs1 ls H w v' (.int .i64 ((k : Int) + 1)) w2 := by
  refine ⟨k + 1, hk, rfl, ?_, hbel.trans ((hb1.mono hH).trans (grown_below hown hg (Nat.le_trans hH hb1.size)))⟩
  rw [runs_take_succ hk hs, ← ht, List.length_append, ib_append, List.map_append]
  rw [ib_len] at hown'
  exact hown'

/-- The second loop: k runs have been read; the rest stands in v. -/
def Runs2 (ls : List (List Nat)) (H : Nat) (w : World) (v iv : Value) (wr : World) : Prop :=
  ∃ (k cap : Nat) (ao : Option Addr), k ≤ ls.length ∧ iv = .int .i64 k ∧ v = .slice ao (runs (ls.drop k)).length cap ∧ Bv wr v (runs (ls.drop k)) ∧ Below H w wr

set_option linter.unusedSimpArgs false in
set_option maxRecDepth 100000 in
set_option maxHeartbeats 8000000 in
theorem runs_walk (v : Value) (ls : List (List Nat)) (w : World) (hv : Pv w v ls) (hsz : ls.flatten.length + ls.length ≤ 1048576) :
    Calls Try.prog 5 #[v] w fun e w' => e = .returned (.bool true) ∧ Below w.heap.size w w' := by
  have HV : Hid (Pv w v ls) := hv
  have HSZ : Hid (ls.flatten.length + ls.length ≤ 1048576) := hsz
  have hnl : (ls.length : Int) ≤ 1048576 := by omega
  obtain ⟨a0, c0, rfl⟩ := pv_form hv
  obtain ⟨t, ht⟩ : ∃ t, t = ls.flatten := ⟨_, rfl⟩
  have HT : Hid (t = ls.flatten) := ht
  have HTL : Hid (t.length ≤ 140737488355328) := by show _ ≤ _; rw [ht]; omega
  clear hv hsz ht
  go_enter Try.func5, Try.ntmps5
  go_wp2_with fail
  refine wp_region_noPanic ?_
  refine wp_region_held_drew (S := fun _ => True) (by kernel_rfl) ?_ (fun hHeld => ?_)
  · exact trivial
  refine wpAnyH_ready (rs := [0]) (by kernel_rfl) (by simp) ?_
  refine AllReadyH.cons (o := ⟨some 10, _, _, _, _, _⟩) rfl (fun K hK => ?_) AllReadyH.nil
  go_simp
  refine (awake_walk _).mono ?_
  rintro e w1 ⟨rfl, B1⟩
  have HB1 : Hid (Below w.heap.size w w1) := below_trans (below_drew w) B1
  clear B1
  go_simp
  refine hK.out _ _ ?_ (fun hHeld => ?_)
  · exact trivial
  clear hK K
  try simp only [Act.put, List.setIfInBounds_toArray, List.set_cons_zero, List.set_cons_succ]
  refine wpAnyH_take (i := 1) (oi := ⟨some 11, _, _, _, _, _⟩) (v := ?_) rfl (by kernel_rfl) (by kernel_rfl) (by kernel_rfl) (fun _ _ _ h => h) (Or.inl ⟨by rfl, ?_⟩) (by assumption) ?_
  rotate_left
  · intro w hSw; (try dsimp only at hSw); go_simp; all_goals (with_reducible rfl)
  try simp only [Act.put, List.setIfInBounds_toArray, List.set_cons_zero, List.set_cons_succ]
  refine wpAnyH_take (i := 2) (oi := ⟨some 12, _, _, _, _, _⟩) (v := ?_) rfl (by kernel_rfl) (by kernel_rfl) (by kernel_rfl) (fun _ _ _ h => h) (Or.inl ⟨by rfl, ?_⟩) (by assumption) ?_
  rotate_left
  · intro w hSw; (try dsimp only at hSw); go_simp; all_goals (with_reducible rfl)
  try simp only [Act.put, List.setIfInBounds_toArray, List.set_cons_zero, List.set_cons_succ]
  refine wpAnyH_take (i := 3) (oi := ⟨some 13, _, _, _, _, _⟩) (v := ?_) rfl (by kernel_rfl) (by kernel_rfl) (by kernel_rfl) (fun _ _ _ h => h) (Or.inl ⟨by rfl, ?_⟩) (by assumption) ?_
  rotate_left
  · intro w hSw; (try dsimp only at hSw); go_simp; all_goals (with_reducible rfl)
  try simp only [Act.put, List.setIfInBounds_toArray, List.set_cons_zero, List.set_cons_succ]
  refine wpAnyH_take (i := 6) (oi := ⟨some 16, _, _, _, _, _⟩) (v := ?_) rfl (by kernel_rfl) (by kernel_rfl) (by kernel_rfl) (fun _ _ _ h => h) (Or.inl ⟨by rfl, ?_⟩) (by assumption) ?_
  rotate_left
  · intro w hSw; (try dsimp only at hSw); go_simp; all_goals (with_reducible rfl)
  try simp only [Act.put, List.setIfInBounds_toArray, List.set_cons_zero, List.set_cons_succ]
  refine wpAnyH_ready (rs := [4]) (by kernel_rfl) (by simp) ?_
  refine AllReadyH.cons (o := ⟨some 14, _, _, _, _, _⟩) rfl (fun K hK => ?_) AllReadyH.nil
  go_simp
  refine (joins_got (HV.out.below HB1.out) HT.out HTL.out).mono ?_
  rintro e w2 ⟨a4, c4, rfl, P4, B4⟩
  have HP4 : Hid (Bv w2 (.slice a4 t.length c4) t) := P4
  have HB2 : Hid (Below w.heap.size w w2) := below_trans HB1.out B4
  clear P4 B4
  go_simp
  refine hK.out _ _ ?_ (fun hHeld => ?_)
  · exact trivial
  clear hK K
  try simp only [Act.put, List.setIfInBounds_toArray, List.set_cons_zero, List.set_cons_succ]
  refine wpAnyH_more (S' := fun w' => (convert 23 9 (.slice a4 t.length c4)).run Try.prog w' = .ok (.string (str t)) w') (fun _ h => trivial) _ _ _ _ ?_
  have hNow : (fun w' => (convert 23 9 (.slice a4 t.length c4)).run Try.prog w' = .ok (.string (str t)) w') _ := str_of HP4.out
  refine wpAnyH_take (i := 5) (oi := ⟨some 15, _, _, _, _, _⟩) (v := ?_) rfl (by kernel_rfl) (by kernel_rfl) (by kernel_rfl) (fun _ _ _ h => h) (Or.inl ⟨by rfl, ?_⟩) (by assumption) ?_
  rotate_left
  · intro w hSw; (try dsimp only at hSw); go_simp; all_goals (with_reducible rfl)
  try simp only [Act.put, List.setIfInBounds_toArray, List.set_cons_zero, List.set_cons_succ]
  refine wpAnyH_ready (rs := [7]) (by kernel_rfl) (by simp) ?_
  refine AllReadyH.cons (o := ⟨some 17, _, _, _, _, _⟩) rfl (fun K hK => ?_) AllReadyH.nil
  go_simp
  refine (rjoins_got (HV.out.below HB2.out) HT.out HTL.out).mono ?_
  rintro e w3 ⟨a7, c7, rfl, P7, B7⟩
  have r7 := str_of P7
  have r4 := str_of (HP4.out.below B7)
  have HB3 : Hid (Below w.heap.size w w3) := below_trans HB2.out B7
  clear P7 B7
  go_simp
  refine hK.out _ _ ?_ (fun hHeld => ?_)
  · exact r4
  clear hK K
  try simp only [Act.put, List.setIfInBounds_toArray, List.set_cons_zero, List.set_cons_succ]
  refine wpAnyH_ready (rs := [8]) (by kernel_rfl) (by simp) ?_
  refine AllReadyH.cons (o := ⟨some 18, _, _, _, _, _⟩) rfl (fun K hK => ?_) AllReadyH.nil
  go_simp
  refine hK.out _ _ ?_ (fun hHeld => ?_)
  · exact r4
  clear hK K
  try simp only [Act.put, List.setIfInBounds_toArray, List.set_cons_zero, List.set_cons_succ]
  refine wpAnyH_take (i := 9) (oi := ⟨some 19, _, _, _, _, _⟩) (v := ?_) rfl (by kernel_rfl) (by kernel_rfl) (by kernel_rfl) (fun _ _ _ h => h) (Or.inl ⟨by rfl, ?_⟩) (by assumption) ?_
  rotate_left
  · intro w hSw; (try dsimp only at hSw); go_simp; all_goals (with_reducible rfl)
  try simp only [Act.put, List.setIfInBounds_toArray, List.set_cons_zero, List.set_cons_succ]
  refine wpAnyH_take (i := 10) (oi := ⟨some 20, _, _, _, _, _⟩) (v := ?_) rfl (by kernel_rfl) (by kernel_rfl) (by kernel_rfl) (fun _ _ _ h => h) (Or.inl ⟨by rfl, ?_⟩) (by assumption) ?_
  rotate_left
  · intro w hSw; (try dsimp only at hSw); go_simp; all_goals (with_reducible rfl)
  try simp only [Act.put, List.setIfInBounds_toArray, List.set_cons_zero, List.set_cons_succ]
  refine wpAnyH_done (by kernel_rfl) ?_ _
  refine NoPanic.normal ?_
  clear r4 r7
  have HST : Hid (Runs1 ls w3.heap.size w3 (.slice none 0 0) (.int .i64 0) w3) := ⟨0, Nat.zero_le _, rfl, World.ownsRow_nil _ _ _ _, Below.refl _ _⟩
  have HV3 : Hid (Pv w3 (.slice a0 ls.length c0) ls) := HV.out.below HB3.out
  go_wp2_with fail
  go_loopw [3, 4] (fun v iv wr => Runs1 ls w3.heap.size w3 v iv wr) (fun _ iv _ => ls.length - (intOf iv).toNat)
  case atStart => exact HST.out
  case round =>
    obtain ⟨k, hk, rfl, hown, hbel⟩ := hrel
    have hH : w3.heap.size ≤ wr.heap.size := hbel.size
    have HVr : Hid (Pv wr (.slice a0 ls.length c0) ls) := HV3.out.below hbel
    clear HST
    by_cases hlt : (k : Int) < (ls.length : Int)
    · obtain ⟨b, off, ap, cp, e1, hcell, hbp⟩ := pv_at HVr.out k (by omega)
      subst e1
      obtain ⟨s, hs⟩ : ∃ s, ls.getD k [] = s := ⟨_, rfl⟩
      rw [hs] at hcell hbp
      have HS : Hid (ls.getD k [] = s) := hs
      have HBP : Hid (Bv wr (.slice ap s.length cp) s) := hbp
      have HSL : Hid (s.length + 10 ≤ 140737488355328) := by show _ ≤ _; have := part_le (show k < ls.length by omega) hs; have := HSZ.out; omega
      obtain ⟨rs, hrs⟩ : ∃ rs, rs = runOf s := ⟨_, rfl⟩
      have HRS : Hid (rs = runOf s) := hrs
      clear hs hbp hrs
      go_wp2_with fail
      refine (run_got HBP.out HRS.out HSL.out).mono ?_
      rintro e w5 ⟨a5, c5, rfl, P5, B5⟩
      have HP5 : Hid (Bv w5 (.slice a5 rs.length c5) rs) := P5
      have HB5 : Hid (Below wr.heap.size wr w5) := B5
      have hcell5 : w5.cell? ⟨b, off + k, none⟩ = some (.slice ap s.length cp) := by rw [B5.cell (p := ⟨b, off + k, none⟩) (cell_lt hcell)]; exact hcell
      have HBP5 : Hid (Bv w5 (.slice ap s.length cp) s) := HBP.out.below B5
      clear P5 B5
      go_wp2_with fail
      refine wp_region_noPanic ?_
      refine wp_region_held_drew (S := fun w' => w'.cell? ⟨b, off + k, none⟩ = some (.slice ap s.length cp) ∧ (convert 23 9 (.slice a5 rs.length c5)).run Try.prog w' = .ok (.string (str rs)) w') (by kernel_rfl) ?_ (fun hHeld => ?_)
      · exact ⟨hcell5, str_of (HP5.out.below (below_drew w5))⟩
      refine wpAnyH_take (i := 0) (oi := ⟨some 32, _, _, _, _, _⟩) (v := ?_) rfl (by kernel_rfl) (by kernel_rfl) (by kernel_rfl) (fun _ _ _ h => h) (Or.inl ⟨by rfl, ?_⟩) (by assumption) ?_
      rotate_left
      · intro w hSw; (try dsimp only at hSw); go_simp; all_goals (with_reducible rfl)
      try simp only [Act.put, List.setIfInBounds_toArray, List.set_cons_zero, List.set_cons_succ]
      refine wpAnyH_take (i := 1) (oi := ⟨some 33, _, _, _, _, _⟩) (v := ?_) rfl (by kernel_rfl) (by kernel_rfl) (by kernel_rfl) (fun _ _ _ h => h) (Or.inl ⟨by rfl, ?_⟩) (by assumption) ?_
      rotate_left
      · intro w hSw; (try dsimp only at hSw); go_simp; all_goals (with_reducible rfl)
      try simp only [Act.put, List.setIfInBounds_toArray, List.set_cons_zero, List.set_cons_succ]
      refine wpAnyH_take (i := 2) (oi := ⟨some 34, _, _, _, _, _⟩) (v := ?_) rfl (by kernel_rfl) (by kernel_rfl) (by kernel_rfl) (fun _ _ _ h => h) (Or.inl ⟨by rfl, ?_⟩) (by assumption) ?_
      rotate_left
      · intro w hSw; (try dsimp only at hSw); go_simp; all_goals (with_reducible rfl)
      try simp only [Act.put, List.setIfInBounds_toArray, List.set_cons_zero, List.set_cons_succ]
      refine wpAnyH_take (i := 3) (oi := ⟨some 35, _, _, _, _, _⟩) (v := ?_) rfl (by kernel_rfl) (by kernel_rfl) (by kernel_rfl) (fun _ _ _ h => h) (Or.inl ⟨by rfl, ?_⟩) (by assumption) ?_
      rotate_left
      · intro w hSw; (try dsimp only at hSw); go_simp; all_goals (with_reducible rfl)
      try simp only [Act.put, List.setIfInBounds_toArray, List.set_cons_zero, List.set_cons_succ]
      refine wpAnyH_take (i := 4) (oi := ⟨some 36, _, _, _, _, _⟩) (v := ?_) rfl (by kernel_rfl) (by kernel_rfl) (by kernel_rfl) (fun _ _ _ h => h) (Or.inl ⟨by rfl, ?_⟩) (by assumption) ?_
      rotate_left
      · intro w hSw; (try dsimp only at hSw); go_simp; all_goals (with_reducible rfl)
      try simp only [Act.put, List.setIfInBounds_toArray, List.set_cons_zero, List.set_cons_succ]
      refine wpAnyH_take (i := 5) (oi := ⟨some 37, _, _, _, _, _⟩) (v := ?_) rfl (by kernel_rfl) (by kernel_rfl) (by kernel_rfl) (fun _ _ _ h => h) (Or.inl ⟨by rfl, ?_⟩) (by assumption) ?_
      rotate_left
      · intro w hSw; (try dsimp only at hSw); go_simp; all_goals (with_reducible rfl)
      try simp only [Act.put, List.setIfInBounds_toArray, List.set_cons_zero, List.set_cons_succ]
      refine wpAnyH_ready (rs := [6]) (by kernel_rfl) (by simp) ?_
      refine AllReadyH.cons (o := ⟨some 38, _, _, _, _, _⟩) rfl (fun K hK => ?_) AllReadyH.nil
      go_simp
      refine (rrun_got (HBP5.out.below (below_drew w5)) HRS.out HSL.out).mono ?_
      rintro e w6 ⟨a6, c6, rfl, P6, B6⟩
      have r6 := str_of P6
      have r5 := str_of (HP5.out.below (below_trans (below_drew w5) B6))
      have hcell6 : w6.cell? ⟨b, off + k, none⟩ = some (.slice ap s.length cp) := by rw [(below_trans (below_drew w5) B6).cell (p := ⟨b, off + k, none⟩) (cell_lt hcell5)]; exact hcell5
      have HP6 : Hid (Bv w6 (.slice a5 rs.length c5) rs) := HP5.out.below (below_trans (below_drew w5) B6)
      have HB6 : Hid (Below wr.heap.size wr w6) := below_trans HB5.out (below_trans (below_drew w5) B6)
      clear P6 B6
      go_simp
      refine hK.out _ _ ?_ (fun hHeld => ?_)
      · exact ⟨hcell6, r5⟩
      clear hK K
      try simp only [Act.put, List.setIfInBounds_toArray, List.set_cons_zero, List.set_cons_succ]
      refine wpAnyH_ready (rs := [7]) (by kernel_rfl) (by simp) ?_
      refine AllReadyH.cons (o := ⟨some 39, _, _, _, _, _⟩) rfl (fun K hK => ?_) AllReadyH.nil
      go_simp
      refine hK.out _ _ ?_ (fun hHeld => ?_)
      · exact ⟨hcell6, r5⟩
      clear hK K
      try simp only [Act.put, List.setIfInBounds_toArray, List.set_cons_zero, List.set_cons_succ]
      refine wpAnyH_take (i := 8) (oi := ⟨some 40, _, _, _, _, _⟩) (v := ?_) rfl (by kernel_rfl) (by kernel_rfl) (by kernel_rfl) (fun _ _ _ h => h) (Or.inl ⟨by rfl, ?_⟩) (by assumption) ?_
      rotate_left
      · intro w hSw; (try dsimp only at hSw); go_simp; all_goals (with_reducible rfl)
      try simp only [Act.put, List.setIfInBounds_toArray, List.set_cons_zero, List.set_cons_succ]
      refine wpAnyH_done (by kernel_rfl) ?_ _
      refine NoPanic.normal ?_
      clear r5 r6 hcell6 hcell5 hcell
      have hown6 := own_below hown HB6.out
      have hs6 : w3.heap.size ≤ w6.heap.size := Nat.le_trans hH HB6.out.size
      have HBD : Hid ((runs (ls.take k)).length + (ib rs).length ≤ 140737488355328) := by
        show _ ≤ _
        have h1 := runs_take_le ls (k + 1)
        rw [runs_take_succ (show k < ls.length by omega) HS.out, List.length_append, ← HRS.out] at h1
        have := HSZ.out
        rw [ib_len]; omega
      go_wp2_with (at_builtin; refine wpList_append_sv (by rfl) (.tmp 41) (.tmp 42) 23 (by rfl) w3.heap.size 5 .u8 1 Try.underlying23 info_u8 _ _ _ (by rfl) hown6 _ _ (by rfl) HP6.out.1 (by have := HBD.out; simp only [maxLen]; omega) (by have := HBD.out; omega) hs6 ?_; intro v' w7 hown' hgrow)
      have R := runs1_step (by omega) HS.out HRS.out hbel hH HB6.out hown6 hown' hgrow
      clear hown' hgrow hown6
      go_wp2_with fail
      go_roundw
      case rel => exact R
      case measure => simp [intOf]; omega
    · obtain rfl : k = ls.length := by omega
      have HST2 : Hid (Runs2 ls w3.heap.size w3 u3 (.int .i64 0) wr) := by
        have hb : Bv wr u3 (runs ls) := by
          have h := hown
          rw [List.take_length] at h
          refine own_bv h ?_
          intro c hc
          obtain ⟨l', hl', hcl⟩ := List.mem_flatten.1 hc
          obtain ⟨l, hl, rfl⟩ := List.mem_map.1 hl'
          refine runOf_lt ?_ (fun d hd => flat_lt HVr.out d (List.mem_flatten.2 ⟨l, hl, hd⟩)) c hcl
          obtain ⟨i, hi, rfl⟩ := List.getElem_of_mem hl
          have := part_le hi (show ls.getD i [] = ls[i] by simp [List.getD, List.getElem?_eq_getElem hi])
          have := HSZ.out
          omega
        obtain ⟨ao, cap, e⟩ := bv_form hb
        exact ⟨0, cap, ao, Nat.zero_le _, rfl, e, hb, hbel⟩
      clear hown
      go_wp2_with fail
      go_loopw [3, 6] (fun v iv wr' => Runs2 ls w3.heap.size w3 v iv wr') (fun _ iv _ => ls.length - (intOf iv).toNat)
      case atStart => exact HST2.out
      case round =>
        obtain ⟨k, cap, ao, hk, rfl, hu3, hb, hbel2⟩ := hrel
        subst hu3
        have HB2' : Hid (Below w3.heap.size w3 wr) := hbel2
        have HVr2 : Hid (Pv wr (.slice a0 ls.length c0) ls) := HV3.out.below hbel2
        obtain ⟨n, hn⟩ : ∃ n, n = (runs (ls.drop k)).length := ⟨_, rfl⟩
        have HN : Hid (n = (runs (ls.drop k)).length) := hn
        have HBV : Hid (Bv wr (.slice ao (runs (ls.drop k)).length cap) (runs (ls.drop k))) := hb
        have hcap : (n : Int) ≤ (cap : Int) := by have := HBV.out.le_cap; omega
        rw [← hn]
        clear hn hb hbel2 HST2
        by_cases hlt : (k : Int) < (ls.length : Int)
        · obtain ⟨b, off, ap, cp, e1, hcell, hbp⟩ := pv_at HVr2.out k (by omega)
          subst e1
          obtain ⟨s, hs⟩ : ∃ s, ls.getD k [] = s := ⟨_, rfl⟩
          rw [hs] at hcell hbp
          have HBP : Hid (Bv wr (.slice ap s.length cp) s) := hbp
          have hsl := part_le (show k < ls.length by omega) hs
          have hrd := runs_drop (show k < ls.length by omega) hs
          obtain ⟨m, hm⟩ : ∃ m, m = (runOf s).length := ⟨_, rfl⟩
          obtain ⟨rest, hrest⟩ : ∃ rest, rest = runs (ls.drop (k + 1)) := ⟨_, rfl⟩
          have HRD : Hid (runs (ls.drop k) = runOf s ++ rest) := by show _ = _; rw [hrd, hrest]
          have HRE : Hid (rest = runs (ls.drop (k + 1))) := hrest
          have HMR : Hid (n = m + rest.length) := by show _ = _; rw [HN.out, HRD.out, List.length_append, hm]
          have HTR : Hid (Wm.takeRun (runs (ls.drop k)) = (s, m, 0)) := by
            show _ = _
            rw [HRD.out, hm]
            exact takeRun_runOf s rest (by have := HSZ.out; omega)
          have hm1 : (1 : Int) ≤ (m : Int) := by have := (Wm.enc_len s.length).1; rw [hm, runOf, List.length_append]; omega
          have hmn : (m : Int) ≤ (n : Int) := by have := HMR.out; omega
          have HSZ2 : Hid ((runs (ls.drop k)).length ≤ 140737488355328) := by
            show _ ≤ _
            have h1 := runs_len (ls.drop k)
            have h2 : (ls.drop k).flatten.length ≤ ls.flatten.length := by
              have e : ls.flatten = (ls.take k).flatten ++ (ls.drop k).flatten := by rw [← List.flatten_append, List.take_append_drop]
              rw [e, List.length_append]; omega
            have h3 : (ls.drop k).length ≤ ls.length := by rw [List.length_drop]; omega
            have := HSZ.out
            omega
          have hmb : decide ((m : Int) < 1) = false := decide_eq_false (by omega)
          have hmb2 : decide ((n : Int) < (m : Int)) = false := decide_eq_false (by omega)
          clear hs hbp hsl hrd hm hrest
          go_wp2_with fail
          have HBN : Hid (Bv wr (.slice ao n cap) (runs (ls.drop k))) := by have := HBV.out; rw [← HN.out] at this; exact this
          refine (takerun_got HBN.out HSZ2.out HTR.out).mono ?_
          rintro e w5 ⟨a5, c5, rfl, P5, B5⟩
          have HP5 : Hid (Bv w5 (.slice a5 s.length c5) s) := P5
          have HB5 : Hid (Below w3.heap.size w3 w5.drew) := below_trans HB2'.out (below_trans B5 (below_drew w5))
          have HBN5 : Hid (Bv w5.drew (.slice ao n cap) (runs (ls.drop k))) := HBN.out.below (below_trans B5 (below_drew w5))
          have hcell5 : w5.cell? ⟨b, off + k, none⟩ = some (.slice ap s.length cp) := by rw [B5.cell (p := ⟨b, off + k, none⟩) (cell_lt hcell)]; exact hcell
          have HBP5 : Hid (Bv w5 (.slice ap s.length cp) s) := HBP.out.below B5
          clear P5 B5
          go_wp2_with fail
          refine wp_region_noPanic ?_
          refine wp_region_held_drew (S := fun w' => w'.cell? ⟨b, off + k, none⟩ = some (.slice ap s.length cp) ∧ (convert 23 9 (.slice a5 s.length c5)).run Try.prog w' = .ok (.string (str s)) w' ∧ (convert 23 9 (.slice ap s.length cp)).run Try.prog w' = .ok (.string (str s)) w') (by kernel_rfl) ?_ (fun hHeld => ?_)
          · exact ⟨hcell5, str_of (HP5.out.below (below_drew w5)), str_of (HBP5.out.below (below_drew w5))⟩
          refine wpAnyH_take (i := 0) (oi := ⟨some 56, _, _, _, _, _⟩) (v := ?_) rfl (by kernel_rfl) (by kernel_rfl) (by kernel_rfl) (fun _ _ _ h => h) (Or.inl ⟨by rfl, ?_⟩) (by assumption) ?_
          rotate_left
          · intro w hSw; (try dsimp only at hSw); go_simp; all_goals (with_reducible rfl)
          try simp only [Act.put, List.setIfInBounds_toArray, List.set_cons_zero, List.set_cons_succ]
          refine wpAnyH_take (i := 1) (oi := ⟨some 57, _, _, _, _, _⟩) (v := ?_) rfl (by kernel_rfl) (by kernel_rfl) (by kernel_rfl) (fun _ _ _ h => h) (Or.inl ⟨by rfl, ?_⟩) (by assumption) ?_
          rotate_left
          · intro w hSw; (try dsimp only at hSw); go_simp; all_goals (with_reducible rfl)
          try simp only [Act.put, List.setIfInBounds_toArray, List.set_cons_zero, List.set_cons_succ]
          refine wpAnyH_take (i := 2) (oi := ⟨some 58, _, _, _, _, _⟩) (v := ?_) rfl (by kernel_rfl) (by kernel_rfl) (by kernel_rfl) (fun _ _ _ h => h) (Or.inl ⟨by rfl, ?_⟩) (by assumption) ?_
          rotate_left
          · intro w hSw; (try dsimp only at hSw); go_simp; all_goals (with_reducible rfl)
          try simp only [Act.put, List.setIfInBounds_toArray, List.set_cons_zero, List.set_cons_succ]
          refine wpAnyH_take (i := 3) (oi := ⟨some 59, _, _, _, _, _⟩) (v := ?_) rfl (by kernel_rfl) (by kernel_rfl) (by kernel_rfl) (fun _ _ _ h => h) (Or.inl ⟨by rfl, ?_⟩) (by assumption) ?_
          rotate_left
          · intro w hSw; (try dsimp only at hSw); go_simp; all_goals (with_reducible rfl)
          try simp only [Act.put, List.setIfInBounds_toArray, List.set_cons_zero, List.set_cons_succ]
          refine wpAnyH_take (i := 4) (oi := ⟨some 60, _, _, _, _, _⟩) (v := ?_) rfl (by kernel_rfl) (by kernel_rfl) (by kernel_rfl) (fun _ _ _ h => h) (Or.inl ⟨by rfl, ?_⟩) (by assumption) ?_
          rotate_left
          · intro w hSw; (try dsimp only at hSw); go_simp; all_goals (with_reducible rfl)
          try simp only [Act.put, List.setIfInBounds_toArray, List.set_cons_zero, List.set_cons_succ]
          refine wpAnyH_take (i := 5) (oi := ⟨some 61, _, _, _, _, _⟩) (v := ?_) rfl (by kernel_rfl) (by kernel_rfl) (by kernel_rfl) (fun _ _ _ h => h) (Or.inl ⟨by rfl, ?_⟩) (by assumption) ?_
          rotate_left
          · intro w hSw; (try dsimp only at hSw); go_simp; all_goals (with_reducible rfl)
          try simp only [Act.put, List.setIfInBounds_toArray, List.set_cons_zero, List.set_cons_succ]
          refine wpAnyH_take (i := 6) (oi := ⟨some 62, _, _, _, _, _⟩) (v := ?_) rfl (by kernel_rfl) (by kernel_rfl) (by kernel_rfl) (fun _ _ _ h => h) (Or.inl ⟨by rfl, ?_⟩) (by assumption) ?_
          rotate_left
          · intro w hSw; (try dsimp only at hSw); go_simp; all_goals (with_reducible rfl)
          try simp only [Act.put, List.setIfInBounds_toArray, List.set_cons_zero, List.set_cons_succ]
          refine wpAnyH_take (i := 7) (oi := ⟨some 63, _, _, _, _, _⟩) (v := ?_) rfl (by kernel_rfl) (by kernel_rfl) (by kernel_rfl) (fun _ _ _ h => h) (Or.inl ⟨by rfl, ?_⟩) (by assumption) ?_
          rotate_left
          · intro w hSw; (try dsimp only at hSw); go_simp; all_goals (with_reducible rfl)
          try simp only [Act.put, List.setIfInBounds_toArray, List.set_cons_zero, List.set_cons_succ]
          refine wpAnyH_take (i := 8) (oi := ⟨some 64, _, _, _, _, _⟩) (v := ?_) rfl (by kernel_rfl) (by kernel_rfl) (by kernel_rfl) (fun _ _ _ h => h) (Or.inl ⟨by rfl, ?_⟩) (by assumption) ?_
          rotate_left
          · intro w hSw; (try dsimp only at hSw); go_simp; all_goals (with_reducible rfl)
          try simp only [Act.put, List.setIfInBounds_toArray, List.set_cons_zero, List.set_cons_succ]
          refine wpAnyH_take (i := 9) (oi := ⟨some 65, _, _, _, _, _⟩) (v := ?_) rfl (by kernel_rfl) (by kernel_rfl) (by kernel_rfl) (fun _ _ _ h => h) (Or.inl ⟨by rfl, ?_⟩) (by assumption) ?_
          rotate_left
          · intro w hSw; (try dsimp only at hSw); go_simp; all_goals (with_reducible rfl)
          try simp only [Act.put, List.setIfInBounds_toArray, List.set_cons_zero, List.set_cons_succ]
          refine wpAnyH_take (i := 10) (oi := ⟨some 66, _, _, _, _, _⟩) (v := ?_) rfl (by kernel_rfl) (by kernel_rfl) (by kernel_rfl) (fun _ _ _ h => h) (Or.inl ⟨by rfl, ?_⟩) (by assumption) ?_
          rotate_left
          · intro w hSw; (try dsimp only at hSw); go_simp; all_goals (with_reducible rfl)
          try simp only [Act.put, List.setIfInBounds_toArray, List.set_cons_zero, List.set_cons_succ]
          refine wpAnyH_take (i := 11) (oi := ⟨some 67, _, _, _, _, _⟩) (v := ?_) rfl (by kernel_rfl) (by kernel_rfl) (by kernel_rfl) (fun _ _ _ h => h) (Or.inl ⟨by rfl, ?_⟩) (by assumption) ?_
          rotate_left
          · intro w hSw; (try dsimp only at hSw); go_simp; all_goals (with_reducible rfl)
          try simp only [Act.put, List.setIfInBounds_toArray, List.set_cons_zero, List.set_cons_succ]
          refine wpAnyH_take (i := 12) (oi := ⟨some 68, _, _, _, _, _⟩) (v := ?_) rfl (by kernel_rfl) (by kernel_rfl) (by kernel_rfl) (fun _ _ _ h => h) (Or.inl ⟨by rfl, ?_⟩) (by assumption) ?_
          rotate_left
          · intro w hSw; (try dsimp only at hSw); go_simp; all_goals (with_reducible rfl)
          try simp only [Act.put, List.setIfInBounds_toArray, List.set_cons_zero, List.set_cons_succ]
          refine wpAnyH_take (i := 13) (oi := ⟨some 69, _, _, _, _, _⟩) (v := ?_) rfl (by kernel_rfl) (by kernel_rfl) (by kernel_rfl) (fun _ _ _ h => h) (Or.inl ⟨by rfl, ?_⟩) (by assumption) ?_
          rotate_left
          · intro w hSw; (try dsimp only at hSw); go_simp; all_goals (with_reducible rfl)
          try simp only [Act.put, List.setIfInBounds_toArray, List.set_cons_zero, List.set_cons_succ]
          refine wpAnyH_take (i := 14) (oi := ⟨some 70, _, _, _, _, _⟩) (v := ?_) rfl (by kernel_rfl) (by kernel_rfl) (by kernel_rfl) (fun _ _ _ h => h) (Or.inl ⟨by rfl, ?_⟩) (by assumption) ?_
          rotate_left
          · intro w hSw; (try dsimp only at hSw); go_simp; all_goals (with_reducible rfl)
          try simp only [Act.put, List.setIfInBounds_toArray, List.set_cons_zero, List.set_cons_succ]
          refine wpAnyH_take (i := 15) (oi := ⟨some 71, _, _, _, _, _⟩) (v := ?_) rfl (by kernel_rfl) (by kernel_rfl) (by kernel_rfl) (fun _ _ _ h => h) (Or.inl ⟨by rfl, ?_⟩) (by assumption) ?_
          rotate_left
          · intro w hSw; (try dsimp only at hSw); go_simp; all_goals (with_reducible rfl)
          try simp only [Act.put, List.setIfInBounds_toArray, List.set_cons_zero, List.set_cons_succ]
          refine wpAnyH_take (i := 16) (oi := ⟨some 72, _, _, _, _, _⟩) (v := ?_) rfl (by kernel_rfl) (by kernel_rfl) (by kernel_rfl) (fun _ _ _ h => h) (Or.inl ⟨by rfl, ?_⟩) (by assumption) ?_
          rotate_left
          · intro w hSw; (try dsimp only at hSw); go_simp; all_goals (with_reducible rfl)
          try simp only [Act.put, List.setIfInBounds_toArray, List.set_cons_zero, List.set_cons_succ]
          refine wpAnyH_take (i := 17) (oi := ⟨some 73, _, _, _, _, _⟩) (v := ?_) rfl (by kernel_rfl) (by kernel_rfl) (by kernel_rfl) (fun _ _ _ h => h) (Or.inl ⟨by rfl, ?_⟩) (by assumption) ?_
          rotate_left
          · intro w hSw; (try dsimp only at hSw); go_simp; all_goals (with_reducible rfl)
          try simp only [Act.put, List.setIfInBounds_toArray, List.set_cons_zero, List.set_cons_succ]
          refine wpAnyH_take (i := 18) (oi := ⟨some 74, _, _, _, _, _⟩) (v := ?_) rfl (by kernel_rfl) (by kernel_rfl) (by kernel_rfl) (fun _ _ _ h => h) (Or.inl ⟨by rfl, ?_⟩) (by assumption) ?_
          rotate_left
          · intro w hSw; (try dsimp only at hSw); go_simp; all_goals (with_reducible rfl)
          try simp only [Act.put, List.setIfInBounds_toArray, List.set_cons_zero, List.set_cons_succ]
          refine wpAnyH_take (i := 19) (oi := ⟨some 75, _, _, _, _, _⟩) (v := ?_) rfl (by kernel_rfl) (by kernel_rfl) (by kernel_rfl) (fun _ _ _ h => h) (Or.inl ⟨by rfl, ?_⟩) (by assumption) ?_
          rotate_left
          · intro w hSw; (try dsimp only at hSw); go_simp; all_goals (with_reducible rfl)
          try simp only [Act.put, List.setIfInBounds_toArray, List.set_cons_zero, List.set_cons_succ]
          refine wpAnyH_take (i := 20) (oi := ⟨some 76, _, _, _, _, _⟩) (v := ?_) rfl (by kernel_rfl) (by kernel_rfl) (by kernel_rfl) (fun _ _ _ h => h) (Or.inl ⟨by rfl, ?_⟩) (by assumption) ?_
          rotate_left
          · intro w hSw; (try dsimp only at hSw); go_simp; all_goals (with_reducible rfl)
          try simp only [Act.put, List.setIfInBounds_toArray, List.set_cons_zero, List.set_cons_succ]
          refine wpAnyH_take (i := 21) (oi := ⟨some 77, _, _, _, _, _⟩) (v := ?_) rfl (by kernel_rfl) (by kernel_rfl) (by kernel_rfl) (fun _ _ _ h => h) (Or.inl ⟨by rfl, ?_⟩) (by assumption) ?_
          rotate_left
          · intro w hSw; (try dsimp only at hSw); go_simp; all_goals (with_reducible rfl)
          try simp only [Act.put, List.setIfInBounds_toArray, List.set_cons_zero, List.set_cons_succ]
          refine wpAnyH_done (by kernel_rfl) ?_ _
          refine NoPanic.normal ?_
          clear hHeld hcell5 hcell
          by_cases hcm : cap = m
          · have hnm : n = m := by omega
            have R : Hid (Runs2 ls w3.heap.size w3 (.slice ao 0 0) (.int .i64 ((k : Int) + 1)) w5.drew) := by
              have he : rest = [] := List.eq_nil_of_length_eq_zero (by have := HMR.out; omega)
              have he2 : runs (ls.drop (k + 1)) = [] := by rw [← HRE.out, he]
              refine ⟨k + 1, 0, ao, by omega, rfl, by rw [he2]; rfl, ?_, HB5.out⟩
              rw [he2]
              exact Bv.cutA (l := []) 0
            subst hcm
            subst hnm
            go_wp2_with fail
            go_roundw
            case rel => exact R.out
            case measure => simp [intOf]; omega
          · have R : Hid (Runs2 ls w3.heap.size w3 (.slice (ao.map fun a => a.add m) (n - m) (cap - m)) (.int .i64 ((k : Int) + 1)) w5.drew) := by
              have he : n - m = (runs (ls.drop (k + 1))).length := by rw [← HRE.out]; have := HMR.out; omega
              refine ⟨k + 1, cap - m, _, by omega, rfl, by rw [he], ?_, HB5.out⟩
              have hb := HBN5.out
              have hn := HN.out
              rw [hn] at hb
              have hc := hb.cutFrom m (by omega) hcm
              rw [← hn] at hc
              have hd : (runs (ls.drop k)).drop m = runs (ls.drop (k + 1)) := by
                rw [HRD.out, ← HRE.out]
                have hl : m = (runOf s).length := by
                  have h1 := HMR.out
                  rw [HN.out, HRD.out, List.length_append] at h1
                  omega
                rw [hl, List.drop_left]
              rw [hd] at hc
              exact hc
            go_wp2_with fail
            go_roundw
            case rel => exact R.out
            case measure => simp [intOf]; omega
        · obtain rfl : k = ls.length := by omega
          have hn0 : n = 0 := by rw [HN.out, List.drop_length]; rfl
          subst hn0
          have HB9 : Hid (Below w.heap.size w wr) := below_trans HB3.out HB2'.out
          go_wp2_with fail
          go_ret
          exact ⟨rfl, HB9.out⟩
end Go.Proofs.Ytiglkmdeokmnhaa
