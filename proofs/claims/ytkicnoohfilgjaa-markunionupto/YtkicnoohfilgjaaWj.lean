/- Join and the reference's Join: all bytes of all parts, in a row of the call's own. -/
import Derived.Test.YtkicnoohfilgjaaWp

namespace Go.Proofs.Ytkicnoohfilgjaa

open Go.RowKit



/-- The value v is a slice of slices of bytes that hold ls. -/
def Pv (w : World) (v : Value) (ls : List (List Nat)) : Prop :=
  ∃ ao cap, v = .slice ao ls.length cap ∧ ls.length ≤ cap ∧ cap ≤ maxLen ∧ (ao = none → cap = 0) ∧
    ∀ i, i < ls.length → ∃ b off u, ao = some ⟨b, off, none⟩ ∧ w.cell? ⟨b, off + i, none⟩ = some u ∧ Bv w u (ls.getD i [])


theorem Pv.below {w w' : World} {v : Value} {ls : List (List Nat)} (h : Pv w v ls) (hb : Below w.heap.size w w') : Pv w' v ls := by
  obtain ⟨ao, cap, e, h1, h2, h3, h4⟩ := h
  refine ⟨ao, cap, e, h1, h2, h3, fun i hi => ?_⟩
  obtain ⟨b, off, u, e1, e2, e3⟩ := h4 i hi
  exact ⟨b, off, u, e1, by rw [hb.cell (p := ⟨b, off + i, none⟩) (cell_lt e2)]; exact e2, e3.below hb⟩


theorem flat_take_le (ls : List (List Nat)) (k : Nat) : (ls.take k).flatten.length ≤ ls.flatten.length := by
  have : ls.flatten = (ls.take k).flatten ++ (ls.drop k).flatten := by rw [← List.flatten_append, List.take_append_drop]
  rw [this]; simp


theorem flat_take_succ (ls : List (List Nat)) (k : Nat) (hk : k < ls.length) : (ls.take (k + 1)).flatten = (ls.take k).flatten ++ ls.getD k [] := by
  have e : ls.getD k [] = ls[k] := by simp [List.getD, List.getElem?_eq_getElem hk]
  rw [e, List.take_succ_eq_append_getElem hk, List.flatten_append, List.flatten_singleton]


/-- Join's loop: what has been joined. -/
def JoinRel (ls : List (List Nat)) (H : Nat) (w : World) (v iv : Value) (wr : World) : Prop :=
  ∃ k : Nat, k ≤ ls.length ∧ iv = .int .i64 k ∧ wr.ownsRow H 5 1 v (ls.take k).flatten.length ((ib (ls.take k).flatten).map (Value.int .u8)) ∧ Below H w wr


theorem joinrel_start (ls : List (List Nat)) (w : World) :
    JoinRel ls w.heap.size w (.slice (some ⟨w.heap.size, 0, none⟩) 0 0) (.int .i64 0) (w.alloc (.cells #[] 5)) :=
  ⟨0, Nat.zero_le _, rfl, World.ownsRow_made w #[] 0 (Nat.le_refl _) (by simp [maxLen]) rfl, below_alloc w _⟩


theorem joinrel_step {ls : List (List Nat)} {H k : Nat} {w wr w1 : World} {v v' : Value} {p : List Nat} (hp : ls.getD k [] = p) (hk : k < ls.length) (hH : H ≤ wr.heap.size) (hbel : Below H w wr)
    (hown : wr.ownsRow H 5 1 v (ls.take k).flatten.length ((ib (ls.take k).flatten).map (Value.int .u8)))
    (hown' : w1.ownsRow H 5 1 v' ((ls.take k).flatten.length + (ib p).length) ((ib (ls.take k).flatten).map (Value.int .u8) ++ (ib p).map (Value.int .u8))) (hg : wr.grownBy w1 v.ownBlock) :
    JoinRel ls H w v' (.int .i64 ((k : Int) + 1)) w1 := by
  refine ⟨k + 1, hk, rfl, ?_, hbel.trans (grown_below hown hg hH)⟩
  rw [flat_take_succ ls k hk, hp, List.length_append, ib_append, List.map_append]
  rw [ib_len] at hown'
  exact hown'


set_option maxRecDepth 100000 in
set_option maxHeartbeats 1000000 in
theorem join_some (ls : List (List Nat)) (b off cap : Nat) (w : World) (hl : ls.length ≤ cap) (hcap : cap ≤ maxLen) (hsz : ls.flatten.length ≤ 140737488355328)
    (hc : ∀ i, i < ls.length → ∃ u, w.cell? ⟨b, off + i, none⟩ = some u ∧ Bv w u (ls.getD i [])) :
    Calls Try.prog 33 #[.slice (some ⟨b, off, none⟩) ls.length cap] w fun e w' => ∃ v, e = .returned v ∧ w'.ownsRow w.heap.size 5 1 v ls.flatten.length ((ib ls.flatten).map (Value.int .u8)) ∧ Below w.heap.size w w' := by
  unfold maxLen at hcap
  have HST : Hid (JoinRel ls w.heap.size w (.slice (some ⟨w.heap.size, 0, none⟩) 0 0) (.int .i64 0) (w.alloc (.cells #[] 5))) := joinrel_start ls w
  have hli : (ls.length : Int) ≤ 9223372036854775807 := by omega
  have HSZ : Hid (ls.flatten.length ≤ 140737488355328) := hsz
  have HC : Hid (∀ i, i < ls.length → ∃ u, w.cell? ⟨b, off + i, none⟩ = some u ∧ Bv w u (ls.getD i [])) := hc
  clear hcap hsz hc hl
  go_enter Try.func33, Try.ntmps33
  go_wp2
  go_loopw [3, 9] (fun v iv wr => JoinRel ls w.heap.size w v iv wr) (fun _ iv _ => ls.length - (intOf iv).toNat)
  case atStart => exact HST.out
  case round =>
    obtain ⟨k, hk, rfl, hown, hbel⟩ := hrel
    have hH : w.heap.size ≤ wr.heap.size := hbel.size
    by_cases hlt : k < ls.length
    · obtain ⟨u, hu, hbu⟩ := HC.out k hlt
      obtain ⟨p, hp⟩ : ∃ p, ls.getD k [] = p := ⟨_, rfl⟩
      rw [hp] at hbu
      have HP : Hid (ls.getD k [] = p) := hp
      have HB : Hid (Bv wr u p) := hbu.below hbel
      have HBD : Hid ((ls.take k).flatten.length + (ib p).length ≤ 140737488355328) := by
        have h1 := flat_take_le ls (k + 1)
        rw [flat_take_succ ls k hlt, List.length_append, hp] at h1
        have := HSZ.out
        rw [ib_len]
        exact Nat.le_trans h1 this
      obtain ⟨⟨a, c, rfl, _⟩, _⟩ := hbu
      have hcell : wr.cell? ⟨b, off + k, none⟩ = some (.slice a (ib p).length c) := by rw [hbel.cell (p := ⟨b, off + k, none⟩) (cell_lt hu)]; exact hu
      clear hp
      clear hu
      go_wp2_with (at_builtin; refine wpList_append_sv (by rfl) (.tmp 13) (.tmp 14) 22 (by rfl) w.heap.size 5 .u8 1 Try.underlying22 info_u8 _ _ _ (by rfl) hown _ _ (by rfl) HB.out.1 (by have := HBD.out; simp only [maxLen]; omega) (by have := HBD.out; omega) hH ?_; intro v' w1 hown' hgrow)
      have R := joinrel_step HP.out hlt hH hbel hown hown' hgrow
      clear hown' hgrow
      go_wp2
      go_roundw
      case rel => exact R
      case measure => simp [intOf]; omega
    · obtain rfl : k = ls.length := by omega
      have HO : Hid (wr.ownsRow w.heap.size 5 1 u3 ls.flatten.length ((ib ls.flatten).map (Value.int .u8))) := by
        have := hown
        rwa [List.take_length] at this
      clear hown
      go_wp2
      go_ret
      exact ⟨_, rfl, HO.out, hbel⟩


set_option maxRecDepth 100000 in
theorem join_none (ao : Option Addr) (cap : Nat) (w : World) :
    Calls Try.prog 33 #[.slice ao 0 cap] w fun e w' => ∃ v, e = .returned v ∧ w'.ownsRow w.heap.size 5 1 v 0 [] ∧ Below w.heap.size w w' := by
  have H : Hid ((w.alloc (.cells #[] 5)).ownsRow w.heap.size 5 1 (.slice (some ⟨w.heap.size, 0, none⟩) 0 0) 0 []) := World.ownsRow_made w #[] 0 (Nat.le_refl _) (by simp [maxLen]) rfl
  go_enter Try.func33, Try.ntmps33
  go_wp2
  refine wp_loop_rounds 1 ?_
  rw [rounds_succ]
  go_wp2
  go_ret
  exact ⟨_, rfl, H.out, below_alloc w _⟩


theorem join_walk {w : World} {v : Value} {ls : List (List Nat)} (h : Pv w v ls) (hsz : ls.flatten.length ≤ 140737488355328) :
    Calls Try.prog 33 #[v] w fun e w' => ∃ v, e = .returned v ∧ w'.ownsRow w.heap.size 5 1 v ls.flatten.length ((ib ls.flatten).map (Value.int .u8)) ∧ Below w.heap.size w w' := by
  obtain ⟨ao, cap, rfl, h1, h2, h3, h4⟩ := h
  by_cases h0 : ls = []
  · subst h0
    exact join_none ao cap w
  · have hp := List.length_pos_iff.2 h0
    obtain ⟨b, off, u, rfl, _, _⟩ := h4 0 hp
    refine join_some ls b off cap w h1 h2 hsz fun i hi => ?_
    obtain ⟨b', off', u', e1, e2, e3⟩ := h4 i hi
    cases e1
    exact ⟨u', e2, e3⟩






end Go.Proofs.Ytkicnoohfilgjaa


