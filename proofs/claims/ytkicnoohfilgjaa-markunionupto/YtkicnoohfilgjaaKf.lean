/- Contracts of slices.Grow at a nil slice of keys, of slices.Concat. -/
import Derived.Test.YtkicnoohfilgjaaKc

import Derived.Lib.AppendZerosOnto

import Derived.Lib.Walk

namespace Go.Proofs.Ytkicnoohfilgjaa

open Go.RowKit



theorem info_u64' : (Try.prog.info? 32).map (fun i => (i.zero, i.size, i.bytes)) = some (some (.int .u64 0), 1, 8) := by kernel_rfl


open Go.Lib in

set_option maxHeartbeats 2000000 in
set_option maxRecDepth 100000 in
theorem grow_walk (n : Nat) (hn : n * 8 ≤ 140737488355328) (w : World) :
    Calls Try.prog 38 #[.slice none 0 0, .int .i64 n] w fun e w' => ∃ v, e = .returned v ∧ w'.ownsRow w.heap.size 32 1 v 0 [] ∧ Below w.heap.size w w' := by
  obtain ⟨i0, hi0, hz0, hs1, hb1⟩ := info_parts info_u64'
  have h1 : ¬ ((n : Int) < 0) := by omega
  by_cases hn0 : n = 0
  · subst hn0
    go_enter Try.func38, Try.ntmps38
    go_wp2
    go_ret
    exact ⟨_, rfl, ⟨rfl, .inl ⟨rfl, rfl⟩⟩, Below.refl _ _⟩
  · have hnp : (0 : Int) < (n : Int) := by omega
    have hold : (Builtin.firstCells i0.size 0 (.slice none 0 0)).run Try.prog w.drew = .ok ([] : List Value).toArray w.drew := run_firstCells_none w.drew i0.size 0 0 0
    have hrz : ∀ ty, (Builtin.append_ #[24, 3] ty #[.slice none 0 0, .int .i64 (n : Int)]).run Try.prog w =
        .ok (.slice (some ⟨w.heap.size, 0, none⟩) n (grownCap w n 0 32)) (w.drew.alloc (.cells (([] : List Value).toArray ++ Builtin.zeroCells (Value.int .u64 0).cells n ++ Builtin.zeroCells (Value.int .u64 0).cells (grownCap w n 0 32 - n)) 32)) := fun ty => by
      have h := Lib.run_append_grow_zeros w 24 3 ty 32 i0 (.int .u64 0) .i64 .i64 Try.underlying24 Try.underlying3 hi0 hz0 none 0 0 [] hold n (by omega) (by omega) (by omega) (by omega)
        (by rw [hb1]; omega)
        (by rw [Nat.zero_add]; exact growslice_fits (by omega) (by rw [hb1]; exact hn))
      rw [Nat.zero_add] at h
      exact h
    obtain ⟨G, hG⟩ : ∃ G, G = grownCap w n 0 32 := ⟨_, rfl⟩
    have hGn : n ≤ G := by rw [hG]; exact grownCap_ge w _ _ _
    have hGm : G ≤ maxLen := by rw [hG]; exact grownCap_le_maxLen w n 0 32 (by unfold maxLen; omega)
    rw [← hG] at hrz
    have HOW : Hid (((w.alloc (.cells (Builtin.zeroCells #[.int .u64 0] n ++ Builtin.zeroCells #[.int .u64 0] (G - n)) 32)).drew).ownsRow w.heap.size 32 1 (.slice (some ⟨w.heap.size, 0, none⟩) 0 G) 0 []) :=
      own_belowC (World.ownsRow_made w _ G (Nat.le_refl _) hGm (by rw [Array.size_append, size_zeroCells, size_zeroCells]; simp; omega)) (below_drew _)
    unfold maxLen at hGm
    have hGi : (G : Int) ≤ 9223372036854775807 := by omega
    clear hold hG hi0 hz0 hs1 hb1 hn hn0 hGm
    go_enter Try.func38, Try.ntmps38
    go_wp2_with (at_builtin; refine Lib.wpList_append_run _ rfl _ _ _ _ rfl _ _ rfl rfl _ _ (hrz _) ?_)
    all_goals go_ret
    all_goals exact ⟨_, rfl, HOW.out, (below_alloc w _).drew⟩


/-- The value v is a slice of slices of keys that hold ls. -/
def Pk (w : World) (v : Value) (ls : List (List Nat)) : Prop :=
  ∃ ao cap, v = .slice ao ls.length cap ∧ ls.length ≤ cap ∧ cap ≤ maxLen ∧ (ao = none → cap = 0) ∧
    ∀ i, i < ls.length → ∃ b off u, ao = some ⟨b, off, none⟩ ∧ w.cell? ⟨b, off + i, none⟩ = some u ∧ Kv w u (ls.getD i [])
theorem pk_two {w : World} {a b : Value} {la lb : List Nat} (t : TypeId) (ha : Kv w a la) (hb : Kv w b lb) :
    Pk (w.alloc (.cells #[a, b] t)) (.slice (some ⟨w.heap.size, 0, none⟩) 2 2) [la, lb] := by
  refine ⟨_, 2, rfl, Nat.le_refl _, by simp [maxLen], by simp, fun i hi => ?_⟩
  simp at hi
  have : i = 0 ∨ i = 1 := by omega
  rcases this with rfl | rfl
  · exact ⟨_, _, a, rfl, by simp, ha.below (below_alloc _ _)⟩
  · exact ⟨_, _, b, rfl, by simp, hb.below (below_alloc _ _)⟩
theorem flatU_le (ls : List (List Nat)) (k : Nat) : (ls.take k).flatten.length ≤ ls.flatten.length := by
  have : ls.flatten = (ls.take k).flatten ++ (ls.drop k).flatten := by rw [← List.flatten_append, List.take_append_drop]
  rw [this]; simp
theorem flatU_succ (ls : List (List Nat)) (k : Nat) (hk : k < ls.length) : (ls.take (k + 1)).flatten = (ls.take k).flatten ++ ls.getD k [] := by
  have e : ls.getD k [] = ls[k] := by simp [List.getD, List.getElem?_eq_getElem hk]
  rw [e, List.take_succ_eq_append_getElem hk, List.flatten_append, List.flatten_singleton]
theorem bd8 {n m : Nat} (h : n ≤ m) (hs : m * 8 ≤ 140737488355328) : n * 8 ≤ 140737488355328 := Nat.le_trans (Nat.mul_le_mul_right 8 h) hs
theorem bm8 {n m : Nat} (h : n ≤ m) (hs : m * 8 ≤ 140737488355328) : n ≤ maxLen := by unfold maxLen; omega
def JkRel (ls : List (List Nat)) (H : Nat) (w : World) (v iv : Value) (wr : World) : Prop :=
  ∃ k : Nat, k ≤ ls.length ∧ iv = .int .i64 k ∧ wr.ownsRow H 32 1 v (ls.take k).flatten.length ((ib (ls.take k).flatten).map (Value.int .u64)) ∧ Below H w wr


set_option maxRecDepth 100000 in
set_option maxHeartbeats 2000000 in
theorem concat_some (ls : List (List Nat)) (b off cap : Nat) (w : World) (hl : ls.length ≤ cap) (hcap : cap ≤ maxLen) (hsz : ls.flatten.length * 8 ≤ 140737488355328)
    (hc : ∀ i, i < ls.length → ∃ u, w.cell? ⟨b, off + i, none⟩ = some u ∧ Kv w u (ls.getD i [])) :
    Calls Try.prog 28 #[.slice (some ⟨b, off, none⟩) ls.length cap] w fun e w' => ∃ v, e = .returned v ∧ w'.ownsRow w.heap.size 32 1 v ls.flatten.length ((ib ls.flatten).map (Value.int .u64)) ∧ Below w.heap.size w w' := by
  unfold maxLen at hcap
  have hli : (ls.length : Int) ≤ 9223372036854775807 := by omega
  have HSZ : Hid (ls.flatten.length * 8 ≤ 140737488355328) := hsz
  have HC : Hid (∀ i, i < ls.length → ∃ u, w.cell? ⟨b, off + i, none⟩ = some u ∧ Kv w u (ls.getD i [])) := hc
  clear hcap hsz hc hl
  go_enter Try.func28, Try.ntmps28
  go_wp2
  go_loopw [3, 11] (fun sv iv wr => ∃ k s : Nat, k ≤ ls.length ∧ iv = .int .i64 k ∧ sv = .int .i64 s ∧ s = (ls.take k).flatten.length ∧ wr = w) (fun _ iv _ => ls.length - (intOf iv).toNat)
  case atStart => exact ⟨0, 0, Nat.zero_le _, rfl, rfl, by simp, rfl⟩
  case round =>
    obtain ⟨k, s, hk, rfl, rfl, hs, hwr⟩ := hrel
    replace hwr := hwr.symm
    subst hwr
    have HS : Hid (s = (ls.take k).flatten.length) := hs
    have hsb : (s : Int) ≤ 17592186044416 := by have h1 := flatU_le ls k; have h2 := HSZ.out; omega
    clear hs
    by_cases hlt : k < ls.length
    · obtain ⟨u, hu, hbu⟩ := HC.out k hlt
      obtain ⟨p, hp⟩ : ∃ p, ls.getD k [] = p := ⟨_, rfl⟩
      rw [hp] at hbu
      obtain ⟨ua, uc, hcu, _, _⟩ := kv_form hbu
      obtain ⟨m, hm⟩ : ∃ m, m = p.length := ⟨_, rfl⟩
      rw [← hm] at hcu
      have hnx : s + m = (ls.take (k + 1)).flatten.length := by rw [flatU_succ ls k hlt, List.length_append, hp, ← hm, HS.out]
      have HNX : Hid (s + m = (ls.take (k + 1)).flatten.length) := hnx
      have hsm : (s : Int) + (m : Int) ≤ 17592186044416 := by have h1 := flatU_le ls (k + 1); have h2 := HSZ.out; omega
      have hneg : ¬ (s : Int) + (m : Int) < 0 := by omega
      subst hcu
      clear hp hbu hnx hm
      have hlti : (k : Int) < (ls.length : Int) := by omega
      go_wp2_with fail
      go_roundw
      case rel => exact ⟨k + 1, s + m, hlt, by go_num, by go_num, HNX.out, by first | rfl | trivial⟩
      case measure => simp [intOf]; omega
    · have hlti : ¬ (k : Int) < (ls.length : Int) := by omega
      obtain rfl : k = ls.length := by omega
      have HST : Hid (s = ls.flatten.length) := by have := HS.out; rwa [List.take_length] at this
      have HS8 : Hid (s * 8 ≤ 140737488355328) := by show _ ≤ _; rw [HST.out]; exact HSZ.out
      clear HS hsb
      go_wp2_with fail
      refine (grow_walk s HS8.out _).mono ?_
      rintro e w2 ⟨v2, rfl, ho2, hB2⟩
      have HST2 : Hid (JkRel ls w.heap.size w v2 (.int .i64 0) w2) := ⟨0, Nat.zero_le _, rfl, by simpa [ib] using ho2, hB2⟩
      clear ho2 hB2
      go_wp2_with fail
      go_loopw [6, 27] (fun v iv wr => JkRel ls w.heap.size w v iv wr) (fun _ iv _ => ls.length - (intOf iv).toNat)
      case atStart => exact HST2.out
      case round =>
        clear HST2
        obtain ⟨k, hk, rfl, hown, hbel⟩ := hrel
        have hH : w.heap.size ≤ wr.heap.size := hbel.size
        by_cases hlt : k < ls.length
        · obtain ⟨u, hu, hbu⟩ := HC.out k hlt
          obtain ⟨p, hp⟩ : ∃ p, ls.getD k [] = p := ⟨_, rfl⟩
          rw [hp] at hbu
          have HP : Hid (ls.getD k [] = p) := hp
          have HB : Hid (Sv .u64 wr u (ib p)) := hbu.below hbel
          have HBD : Hid ((ls.take k).flatten.length + (ib p).length ≤ ls.flatten.length) := by
            have h1 := flatU_le ls (k + 1)
            rw [flatU_succ ls k hlt, List.length_append, hp] at h1
            show _ ≤ _
            rw [ib_len]; exact h1
          obtain ⟨ua, uc, hcu, _, _⟩ := kv_form hbu
          have hcell : wr.cell? ⟨b, off + k, none⟩ = some u := by rw [hbel.cell (p := ⟨b, off + k, none⟩) (cell_lt hu)]; exact hu
          obtain ⟨m, hm⟩ : ∃ m, m = p.length := ⟨_, rfl⟩
          rw [← hm] at hcu
          subst hcu
          have hlti : (k : Int) < (ls.length : Int) := by omega
          clear hp hu hbu hm
          go_upto_region 14 with (at_builtin; refine wpList_append_sv (by rfl) (.tmp 31) (.tmp 32) 24 (by rfl) w.heap.size 32 .u64 8 Try.underlying24 info_u64' _ _ _ (by rfl) hown _ _ (by rfl) HB.out (bm8 HBD.out HSZ.out) (bd8 HBD.out HSZ.out) hH ?_; intro v' w1 hown' hgrow)
          have R : Hid (JkRel ls w.heap.size w v' (.int .i64 ((k : Int) + 1)) w1) := ⟨k + 1, hlt, rfl, by
            rw [flatU_succ ls k hlt, HP.out, List.length_append, ib_append, List.map_append, ← ib_len p]; exact hown', hbel.trans (grown_belowC hown hgrow hH)⟩
          clear hown' hgrow
          go_wp2_with fail
          go_roundw
          case rel => exact R.out
          case measure => simp [intOf]; omega
        · have hlti : ¬ (k : Int) < (ls.length : Int) := by omega
          obtain rfl : k = ls.length := by omega
          have HO : Hid (wr.ownsRow w.heap.size 32 1 u6 ls.flatten.length ((ib ls.flatten).map (Value.int .u64))) := by
            have := hown
            rwa [List.take_length] at this
          clear hown
          go_wp2_with fail
          go_ret
          exact ⟨_, rfl, by first | exact HO.out | (have q := HO.out; rw [List.length_flatten] at q; exact q), hbel⟩
theorem concat_walk {w : World} {v : Value} {ls : List (List Nat)} (h : Pk w v ls) (h0 : 0 < ls.length) (hsz : ls.flatten.length * 8 ≤ 140737488355328) :
    Calls Try.prog 28 #[v] w fun e w' => ∃ v, e = .returned v ∧ w'.ownsRow w.heap.size 32 1 v ls.flatten.length ((ib ls.flatten).map (Value.int .u64)) ∧ Below w.heap.size w w' := by
  obtain ⟨ao, cap, rfl, h1, h2, h3, h4⟩ := h
  obtain ⟨b, off, u, rfl, _, _⟩ := h4 0 h0
  refine concat_some ls b off cap w h1 h2 hsz fun i hi => ?_
  obtain ⟨b', off', u', e1, e2, e3⟩ := h4 i hi
  cases e1
  exact ⟨u', e2, e3⟩
end Go.Proofs.Ytkicnoohfilgjaa


