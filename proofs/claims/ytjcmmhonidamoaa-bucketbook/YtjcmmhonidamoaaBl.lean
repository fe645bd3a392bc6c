/- Contract of bucket's joined. -/
import Derived.Test.YtjcmmhonidamoaaBk
namespace Go.Proofs.Ytjcmmhonidamoaa
open Go.RowKit

/-- The value v is a slice of slices of cells that hold ls. -/
def Pc (w : World) (v : Value) (ls : List (List Cl)) : Prop :=
  ∃ ao cap, v = .slice ao ls.length cap ∧ ls.length ≤ cap ∧ cap ≤ maxLen ∧ (ao = none → cap = 0) ∧
    ∀ i, i < ls.length → ∃ b off u, ao = some ⟨b, off, none⟩ ∧ w.cell? ⟨b, off + i, none⟩ = some u ∧ Cv w u (ls.getD i [])

theorem flatK_le (ls : List (List Cl)) (k : Nat) : (ls.take k).flatten.length ≤ ls.flatten.length := by
  have : ls.flatten = (ls.take k).flatten ++ (ls.drop k).flatten := by rw [← List.flatten_append, List.take_append_drop]
  rw [this]; simp
theorem flatK_succ (ls : List (List Cl)) (k : Nat) (hk : k < ls.length) : (ls.take (k + 1)).flatten = (ls.take k).flatten ++ ls.getD k [] := by
  have e : ls.getD k [] = ls[k] := by simp [List.getD, List.getElem?_eq_getElem hk]
  rw [e, List.take_succ_eq_append_getElem hk, List.flatten_append, List.flatten_singleton]

/-- joined's loop: what has been joined. -/
def JcRel (ls : List (List Cl)) (H : Nat) (w : World) (v iv : Value) (wr : World) : Prop :=
  ∃ k : Nat, k ≤ ls.length ∧ iv = .int .i64 k ∧ wr.ownsRow H 37 6 v (ls.take k).flatten.length (flatC (ls.take k).flatten) ∧ Below H w wr
theorem jcrel_step {ls : List (List Cl)} {H k : Nat} {w wr w1 : World} {v v' : Value} {p : List Cl} (hp : ls.getD k [] = p) (hk : k < ls.length) (hH : H ≤ wr.heap.size) (hbel : Below H w wr)
    (hown : wr.ownsRow H 37 6 v (ls.take k).flatten.length (flatC (ls.take k).flatten))
    (hown' : w1.ownsRow H 37 6 v' ((ls.take k).flatten.length + p.length) (flatC (ls.take k).flatten ++ flatC p)) (hg : wr.grownBy w1 v.ownBlock) :
    JcRel ls H w v' (.int .i64 ((k : Int) + 1)) w1 := by
  refine ⟨k + 1, hk, rfl, ?_, hbel.trans (grown_belowC hown hg hH)⟩
  rw [flatK_succ ls k hk, hp, List.length_append, flatC_append]
  exact hown'

set_option maxRecDepth 100000 in
set_option maxHeartbeats 1000000 in
theorem joined_some (ls : List (List Cl)) (b off cap : Nat) (w : World) (hl : ls.length ≤ cap) (hcap : cap ≤ maxLen) (hsz : ls.flatten.length * 48 ≤ 140737488355328)
    (hc : ∀ i, i < ls.length → ∃ u, w.cell? ⟨b, off + i, none⟩ = some u ∧ Cv w u (ls.getD i [])) :
    Calls Try.prog 36 #[.slice (some ⟨b, off, none⟩) ls.length cap] w fun e w' => ∃ v, e = .returned v ∧ w'.ownsRow w.heap.size 37 6 v ls.flatten.length (flatC ls.flatten) ∧ Below w.heap.size w w' := by
  unfold maxLen at hcap
  have HST : Hid (JcRel ls w.heap.size w (.slice (some ⟨w.heap.size, 0, none⟩) 0 0) (.int .i64 0) (w.alloc (.cells #[] 37))) :=
    ⟨0, Nat.zero_le _, rfl, World.ownsRow_made w #[] 0 (Nat.le_refl _) (by simp [maxLen]) rfl, below_alloc w _⟩
  have hli : (ls.length : Int) ≤ 9223372036854775807 := by omega
  have HSZ : Hid (ls.flatten.length * 48 ≤ 140737488355328) := hsz
  have HC : Hid (∀ i, i < ls.length → ∃ u, w.cell? ⟨b, off + i, none⟩ = some u ∧ Cv w u (ls.getD i [])) := hc
  clear hcap hsz hc hl
  go_enter Try.func36, Try.ntmps36
  go_wp2
  go_loopw [3, 9] (fun v iv wr => JcRel ls w.heap.size w v iv wr) (fun _ iv _ => ls.length - (intOf iv).toNat)
  case atStart => exact HST.out
  case round =>
    obtain ⟨k, hk, rfl, hown, hbel⟩ := hrel
    have hH : w.heap.size ≤ wr.heap.size := hbel.size
    by_cases hlt : k < ls.length
    · obtain ⟨u, hu, hbu⟩ := HC.out k hlt
      obtain ⟨p, hp⟩ : ∃ p, ls.getD k [] = p := ⟨_, rfl⟩
      rw [hp] at hbu
      have HP : Hid (ls.getD k [] = p) := hp
      have HB : Hid (Cv wr u p) := hbu.below hbel
      have HBD : Hid (((ls.take k).flatten.length + p.length) * 48 ≤ 140737488355328) := by
        have h1 := flatK_le ls (k + 1)
        rw [flatK_succ ls k hlt, List.length_append, hp] at h1
        have h2 := HSZ.out
        show _ ≤ _
        omega
      obtain ⟨a, c, hcu⟩ := hbu.form
      have hcell : wr.cell? ⟨b, off + k, none⟩ = some u := by rw [hbel.cell (p := ⟨b, off + k, none⟩) (cell_lt hu)]; exact hu
      subst hcu
      clear hp hu hbu
      go_wp2_with (at_builtin; refine wpList_append_cv (by rfl) (.tmp 13) (.tmp 14) (by rfl) w.heap.size _ _ _ (by rfl) hown _ p (by rfl) HB.out (by have := HBD.out; simp only [maxLen]; omega) (by have := HBD.out; omega) hH ?_; intro v' w1 hown' hgrow)
      have R := jcrel_step HP.out hlt hH hbel hown hown' hgrow
      clear hown' hgrow
      go_wp2
      go_roundw
      case rel => exact R
      case measure => simp [intOf]; omega
    · obtain rfl : k = ls.length := by omega
      have HO : Hid (wr.ownsRow w.heap.size 37 6 u3 ls.flatten.length (flatC ls.flatten)) := by
        have := hown
        rwa [List.take_length] at this
      clear hown
      go_wp2
      go_ret
      exact ⟨_, rfl, HO.out, hbel⟩
theorem joined_walk {w : World} {v : Value} {ls : List (List Cl)} (h : Pc w v ls) (h0 : 0 < ls.length) (hsz : ls.flatten.length * 48 ≤ 140737488355328) :
    Calls Try.prog 36 #[v] w fun e w' => ∃ v, e = .returned v ∧ w'.ownsRow w.heap.size 37 6 v ls.flatten.length (flatC ls.flatten) ∧ Below w.heap.size w w' := by
  obtain ⟨ao, cap, rfl, h1, h2, h3, h4⟩ := h
  obtain ⟨b, off, u, rfl, _, _⟩ := h4 0 h0
  refine joined_some ls b off cap w h1 h2 hsz fun i hi => ?_
  obtain ⟨b', off', u', e1, e2, e3⟩ := h4 i hi
  cases e1
  exact ⟨u', e2, e3⟩
theorem pc_three {w : World} {a b c : Value} {la lb lc : List Cl} (t : TypeId) (ha : Cv w a la) (hb : Cv w b lb) (hc : Cv w c lc) :
    Pc (w.alloc (.cells #[a, b, c] t)) (.slice (some ⟨w.heap.size, 0, none⟩) 3 3) [la, lb, lc] := by
  refine ⟨_, 3, rfl, Nat.le_refl _, by simp [maxLen], by simp, fun i hi => ?_⟩
  simp at hi
  have : i = 0 ∨ i = 1 ∨ i = 2 := by omega
  rcases this with rfl | rfl | rfl
  · exact ⟨_, _, a, rfl, by simp, ha.below (below_alloc _ _)⟩
  · exact ⟨_, _, b, rfl, by simp, hb.below (below_alloc _ _)⟩
  · exact ⟨_, _, c, rfl, by simp, hc.below (below_alloc _ _)⟩
theorem pc_two {w : World} {a b : Value} {la lb : List Cl} (t : TypeId) (ha : Cv w a la) (hb : Cv w b lb) :
    Pc (w.alloc (.cells #[a, b] t)) (.slice (some ⟨w.heap.size, 0, none⟩) 2 2) [la, lb] := by
  refine ⟨_, 2, rfl, Nat.le_refl _, by simp [maxLen], by simp, fun i hi => ?_⟩
  simp at hi
  have : i = 0 ∨ i = 1 := by omega
  rcases this with rfl | rfl
  · exact ⟨_, _, a, rfl, by simp, ha.below (below_alloc _ _)⟩
  · exact ⟨_, _, b, rfl, by simp, hb.below (below_alloc _ _)⟩
theorem pc_one {w : World} {a : Value} {la : List Cl} (t : TypeId) (ha : Cv w a la) :
    Pc (w.alloc (.cells #[a] t)) (.slice (some ⟨w.heap.size, 0, none⟩) 1 1) [la] := by
  refine ⟨_, 1, rfl, Nat.le_refl _, by simp [maxLen], by simp, fun i hi => ?_⟩
  simp at hi
  subst hi
  exact ⟨_, _, a, rfl, by simp, ha.below (below_alloc _ _)⟩
end Go.Proofs.Ytjcmmhonidamoaa
